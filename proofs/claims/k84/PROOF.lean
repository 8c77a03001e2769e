import PyProof.Rows.All
import Wide.All
import OpenK.AllK
import Wide.FinOn
import Lean
import PyProof.EqAt
import PyProof.EqKinds
import PyProof.TupleCall
import PySem.Challenge.RW_rowrules_k84_a_book_told_and_asked
set_option Elab.async false
set_option linter.all false
set_option maxRecDepth 100000
abbrev qA:=@PySem.wpAny_bind
abbrev qB:=@PySem.wpAny_pure
abbrev qC:=@if_neg
abbrev qD:=@if_pos
abbrev qE:=@absurd
abbrev qF:=@decide_eq_true
abbrev qG:=@decide_eq_false
abbrev qH:=@PySem.wpAny_mono
abbrev qI:=@of_decide_eq_true
abbrev qJ:=@PySem.wpAny_holding
abbrev qK:=@congrArg
abbrev qL:=@PySem.Value
abbrev qM:=@PySem.Addr
abbrev qN:=@PySem.Shared
abbrev qO:=@PySem.Program
abbrev qP:=@PySem.World
abbrev qQ:=PySem.W.Frag
abbrev qR:=List Int
abbrev ZM:=@List.length_map
abbrev ZN:=@PySem.Heap.get?_push_of_some
abbrev ZO:=@PySem.Heap.lt_size
abbrev ZP:=@List.getElem?_eq_getElem
abbrev ZQ:=@List.getD_eq_getElem?_getD
abbrev ZR:=@Nat.le_refl
abbrev ZS:=@List.mem_cons_of_mem
abbrev ZT:=@Array.length_toList
abbrev ZU:=@PySem.Heap.get?_push_size
abbrev ZV:=@Nat.lt_of_lt_of_le
abbrev ZW:=@List.getElem?_eq_some_iff
abbrev ZX:=@List.mem_singleton
abbrev ZY:=@Bool.false_ne_true
abbrev ZZ:=@List.mem_cons_self
abbrev Za:=@PySem.boot_len
abbrev Zb:=@List.length_cons
abbrev Zc:=@List.length_range
abbrev Zd:=@List.mem_cons
abbrev Ze:=@Bool.and_eq_true
abbrev Zf:=@List.map_append
abbrev Zg:=@List.length_append
abbrev Zh:=@Int.toNat_natCast
abbrev Zi:=@List.all_eq_true
abbrev Zj:=@Nat.ne_of_lt
abbrev Zk:=@List.getElem?_map
abbrev Zl:=@Nat.le_trans
abbrev Zm:=@PyProof.Rows.boot_str
abbrev Zn:=@Nat.lt_irrefl
abbrev Zo:=@PyProof.Rows.callWith_type1
abbrev Zp:=@List.map_cons
abbrev Zq:=@List.size_toArray
abbrev Zr:=@PySem.Heap.get?_update_self
abbrev Zs:=@List.mem_map
abbrev Zt:=@List.length_take
abbrev Zu:=@PySem.F.plainAttrs_str
abbrev Zv:=@List.mem_of_getElem?
abbrev Zw:=@Nat.zero_le
abbrev Zx:=@List.take_length
abbrev Zy:=@List.mem_append_right
abbrev Zz:=@List.take_of_length_le
abbrev Z0:=@Int.zero_add
abbrev Z1:=@List.length_drop
abbrev Z2:=@Int.pow_succ
abbrev Z3:=@PySem.W.hideAll_get
abbrev Z4:=@List.lookup_cons
abbrev Z5:=@List.mem_range
abbrev Z6:=@PySem.Heap.get?_update_other
abbrev Z7:=@PySem.W.kia_one
abbrev Z8:=@List.length_replicate
abbrev Z9:=@List.getElem?_eq_none
abbrev aA:=@List.map_congr_left
abbrev aB:=@Int.toNat_of_nonneg
abbrev aC:=@PySem.Heap.size_push
abbrev aD:=@Int.emod_lt_of_pos
abbrev aE:=@List.take_succ
abbrev aF:=@List.replicate_succ
abbrev aG:=@List.length_reverse
abbrev aH:=@List.length_filter_le
abbrev aI:=@PySem.F.slot_str_join
abbrev aJ:=@PySem.F.type_str_join
abbrev aK:=@List.mem_of_mem_drop
abbrev aL:=@Nat.ne_of_gt
abbrev aM:=@Int.pow_zero
abbrev aN:=@Array.toList_append
abbrev aO:=@Array.getElem?_eq_getElem
abbrev aP:=@List.mem_filter
abbrev aQ:=@List.mem_append
abbrev aR:=@Int.emod_nonneg
abbrev aS:=@List.range_succ
abbrev aT:=@List.filter_append
abbrev aU:=@Int.mul_le_mul_of_nonneg_left
abbrev aV:=@List.map_reverse
abbrev aW:=@List.mem_of_mem_take
abbrev aX:=@List.any_cons
abbrev aY:=@PyProof.Rows.boot_tuple
abbrev aZ:=@Int.mul_comm
abbrev aa:=@Nat.lt_succ_of_lt
abbrev ac:=@Array.getElem?_eq_some_iff
abbrev ae:=@PySem.F.excBase_ValueError
abbrev af:=@List.getElem?_append_right
abbrev ag:=@Nat.lt_succ_self
abbrev ah:=@List.mem_filterMap
abbrev ai:=@Int.le_of_lt
abbrev aj:=@List.drop_eq_getElem_cons
abbrev ak:=@PySem.W.looks_findIn
abbrev al:=@Bool.eq_iff_iff
abbrev am:=@List.append_assoc
abbrev ao:=@PySem.mem_of_lookup
abbrev ap:=@List.length_pos_iff
abbrev aq:=@List.getElem_mem
abbrev au:=@List.filter_cons
abbrev av:=@List.getElem?_set_self
abbrev aw:=@Option.map_eq_some_iff
abbrev ay:=@PySem.W.of_hideAll
abbrev az:=@List.pairwise_cons
abbrev a8:=@Nat.le_of_lt
abbrev a9:=@List.append_nil
abbrev bA:=@Nat.le_succ
abbrev bB:=@List.length_singleton
abbrev bC:=@Int.zero_mul
abbrev bD:=@List.eq_replicate_iff
abbrev bE:=@PyProof.Rows.boot_int
abbrev bF:=@List.flatten_cons
abbrev bG:=@List.ext_getElem?
abbrev bH:=@Int.add_mul_emod_self_left
abbrev bI:=@PySem.Heap.get?_none_of_le
abbrev bJ:=@List.getElem?_set_ne
abbrev bK:=@List.reverse_reverse
abbrev bL:=@List.findIdx?_eq_none_iff
abbrev bM:=@Int.mul_le_mul
abbrev bN:=@List.getElem?_append_left
abbrev bO:=@List.mem_reverse
abbrev bP:=@List.not_mem_nil
abbrev bQ:=@PySem.Heap.get?_update_ne
abbrev bR:=@List.getElem?_range
abbrev bS:=@Option.isSome_iff_exists
abbrev bT:=@Int.add_zero
abbrev bU:=@List.getElem?_replicate
abbrev bV:=@Nat.lt_of_le_of_lt
abbrev bW:=@PySem.W.callWith_K
abbrev bX:=@List.map_drop
abbrev bY:=@Nat.toDigits_of_lt_base
abbrev bZ:=@PySem.F.plainAttrs_dict
abbrev ba:=@PySem.W.funFrames_hide
abbrev be:=@PyProof.Rows.boot_list
abbrev bf:=@Int.ediv_eq_zero_of_lt
abbrev bg:=@PySem.W.kitx_list
abbrev bh:=@PySem.W.kitx_dict
abbrev bi:=@Int.le_refl
abbrev bj:=@Int.emod_eq_of_lt
abbrev bo:=@List.getElem?_reverse
abbrev bq:=@List.map_map
abbrev br:=@Nat.lt_trans
abbrev bt:=@PySem.F.slot_dict_pop
abbrev bu:=@PySem.F.slot_dict_get
abbrev bv:=@PyProof.Rows.boot_sum
abbrev bz:=@List.cons_append
abbrev b8:=@Int.natCast_ediv
abbrev b9:=@List.mem_append_left
abbrev cB:=@List.length_set
abbrev cD:=@Nat.not_lt_zero
abbrev cE:=@Nat.div_le_self
theorem byG{T:Prop}(h:∀G:Prop,(T->G)->G):T:=h T id
namespace L2
open PySem PySem.Spec PyProof.Rows
abbrev CG:=Sum Int Str
noncomputable def IG:CG->qL->Bool
 |.inl k,v=>Value.isInt k v
 |.inr x,v=>Value.isStrOf x v
noncomputable def YD(w:qP):CG->Int
 |.inl k=>hashInt k
 |.inr x=>hashStr w x
theorem BC:∀{k:CG} {v:qL},IG k v=true->(∃i t,k=Sum.inl i/\v=Value.int i t)\/(∃x t,k=Sum.inr x/\v=Value.str x t)
 |.inl i,v,h=>by obtain⟨t,e⟩:=Value.isInt_shape (k:=i) (v:=v) h;exact .inl ⟨i,t,rfl,e⟩
 |.inr x,v,h=>by obtain⟨t,e⟩:=Value.isStrOf_shape (x:=x) (v:=v) h;exact .inr ⟨x,t,rfl,e⟩
theorem Nj(i:Int)(t:Tok):IG (.inl i) (.int i t)=true:=by simp[IG,Value.isInt]
theorem Nk(x:Str)(t:Tok):IG (.inr x) (.str x t)=true:=by simp[IG,Value.isStrOf]
theorem Sv(a b:Int):decide ((Sum.inl a:CG)=Sum.inl b)=(a==b):=by
 by_cases e:a=b
 ·subst e;simp
 ·have h:¬(Sum.inl a:CG)=Sum.inl b:=λq=>e (Sum.inl.inj q)
  rw[qG h];exact (beq_eq_false_iff_ne.mpr e).symm
theorem Sw(a b:Str):decide ((Sum.inr a:CG)=Sum.inr b)=decide (a=b):=by
 by_cases e:a=b
 ·subst e;simp
 ·have h:¬(Sum.inr a:CG)=Sum.inr b:=λq=>e (Sum.inr.inj q)
  rw[qG h,qG e]
theorem Sx(a:Int)(b:Str):decide ((Sum.inl a:CG)=Sum.inr b)=false:=qG (λq=>nomatch q)
theorem Sy(a:Str)(b:Int):decide ((Sum.inr a:CG)=Sum.inl b)=false:=qG (λq=>nomatch q)
noncomputable def BA(prog:qO)(w:qP):PySem.KeyKind prog w CG where
 is:=IG
 hash:=YD w
 inj:=λv a b ha hb=>by
  rcases BC ha with⟨i,t,rfl,rfl⟩|⟨x,t,rfl,rfl⟩
  ·rcases BC hb with⟨j,u,rfl,e⟩|⟨y,u,rfl,e⟩
   ·injection e with e1 _;rw[e1]
   ·exact nomatch e
  ·rcases BC hb with⟨j,u,rfl,e⟩|⟨y,u,rfl,e⟩
   ·exact nomatch e
   ·injection e with e1 _;rw[e1]
 byValue:=λk v h=>by rcases BC h with⟨i,t,rfl,rfl⟩|⟨x,t,rfl,rfl⟩<;>rfl
 pyHash:=λhv h=>by
  rcases BC hv with⟨i,t,rfl,rfl⟩|⟨x,t,rfl,rfl⟩
  ·exact wpAny_pyHash_int h
  ·exact wpAny_pyHash_str h
 eqBool:=λhu hv h=>by
  rcases BC hu with⟨i,t,rfl,rfl⟩|⟨x,t,rfl,rfl⟩
  ·rcases BC hv with⟨j,u,rfl,rfl⟩|⟨y,u,rfl,rfl⟩
   ·rw[Sv]at h;exact wpAny_eqBool_int h
   ·rw[Sx]at h;exact SeqAt.EqAt.int_str i t y u _ _ _ _ h
  ·rcases BC hv with⟨j,u,rfl,rfl⟩|⟨y,u,rfl,rfl⟩
   ·rw[Sy]at h;exact SeqAt.EqAt.str_int x t j u _ _ _ _ h
   ·rw[Sw]at h;exact wpAny_eqBool_str h
 «strs»:=λk x t v h=>by
  rcases BC h with⟨i,u,rfl,e⟩|⟨y,u,rfl,e⟩
  ·exact nomatch e
  ·injection e with e1 _
   subst e1;cases v<;>rfl
theorem KS(prog:qO)(w:qP)(i:Int)(t:Tok):(BA prog w).is (.inl i) (.int i t)=true:=Nj i t
theorem KU(prog:qO)(w:qP)(x:Str)(t:Tok):(BA prog w).is (.inr x) (.str x t)=true:=Nk x t
inductive V where
 |non|bl (b:Bool)|int (i:Int)|str (x:Str)|byt (b:Array UInt8)|flt (b:UInt64)|ref (a:qM)|ty (n:String)
 deriving DecidableEq
def Al:V->qL->Prop
 |.non,u=>u=Value.none
 |.bl b,u=>u=Value.bool b
 |.int i,u=>∃t,u=Value.int i t
 |.str x,u=>∃t,u=Value.str x t
 |.byt b,u=>∃t,u=Value.bytes b t
 |.flt b,u=>∃t,u=Value.float b t
 |.ref a,u=>u=Value.ref a
 |.ty n,u=>u=Value.type n
abbrev Ag:List V->List qL->Prop:=Paired Al
variable{xs:List V}{us:List qL}
theorem Ag.length(r:Ag xs us):xs.length=us.length:=Paired.length r
theorem Ag.get:∀{xs:List V} {us:List qL} {i:Nat} {x:V},Ag xs us->xs[i]?=some x->∃u,us[i]?=some u/\Al x u
 |_,_,_,_,.nil,e=>by simp at e
 |_,_,0,_,.cons r _,e=>by simp at e;subst e;exact⟨_,rfl,r⟩
 |_,_,i+1,x,.cons _ t,e=>by obtain⟨u,h1,h2⟩:=Ag.get (i:=i) (x:=x) t (by simpa using e);exact⟨u,by simpa using h1,h2⟩
variable{u:qL}
theorem Ag.set{x:V}(r:Al x u):∀{xs:List V} {us:List qL} (i:Nat),Ag xs us->Ag (xs.set i x) (us.set i u)
 |_,_,_,.nil=>.nil
 |_,_,0,.cons _ t=>.cons r t
 |_,_,i+1,.cons q t=>.cons q (Ag.set r i t)
theorem Ag.append:∀{xs ys:List V} {us ws:List qL},Ag xs us->Ag ys ws->Ag (xs++ys) (us++ws):=by
 intro _ _ _ _ h s
 induction h with
 |nil=>exact s
 |cons r _ ih=>exact .cons r ih
theorem Ag.take:∀{xs:List V} {us:List qL} (n:Nat),Ag xs us->Ag (xs.take n) (us.take n)
 |_,_,0,_=>.nil
 |_,_,_+1,.nil=>.nil
 |_,_,n+1,.cons r t=>.cons r (Ag.take n t)
theorem Ag.drop:∀{xs:List V} {us:List qL} (n:Nat),Ag xs us->Ag (xs.drop n) (us.drop n)
 |_,_,0,r=>r
 |_,_,_+1,.nil=>.nil
 |_,_,n+1,.cons _ t=>Ag.drop n t
noncomputable def Co:Option V->Option qL->Prop
 |some v,some u=>Al v u
 |none,none=>True
 |_,_=>False
def KV{κ:Type}:List (κ×V)->List (κ×qL)->Prop:=Paired λ(p:κ×V) (q:κ×qL)=>p.1=q.1/\Al p.2 q.2
def kV:CG->V
 |.inl i=>.int i
 |.inr x=>.str x
inductive HO where
 |lst (xs:List V)
 |tup (xs:List V)
 |dK (kvs:List (CG×V))|dT (kvs:List (List CG×V))
 |set (S:Int->Bool) (n:Nat)
 |ins (C dx:qM) (fs:List (Str×V))
 |own (x:qM)
 |xd (fs:List (Str×V))
 |met (f x:qM)
 |rng (lo hi:Int)
 |frz (o:Obj) (u:HO)
 |tbl (ps:Array qL)
 |ext (φ:Heap->Prop)
abbrev Hp:=qM->Option HO
noncomputable def Am(H:Hp)(a:qM)(o:HO):Hp:=λb=>if b=a then some o else H b
variable{H:Hp}{a:qM}{o:HO}
theorem AE:Am H a o a=some o:=by unfold Am;rw[qD rfl]
variable{b:qM}
theorem AR(h:b≠a):Am H a o b=H b:=by unfold Am;rw[qC h]
theorem BH{u:HO}:Am (Am H a o) a u=Am H a u:=by
 funext b;unfold Am;split<;>rfl
theorem VB{u:HO}(h:H a=some o)(h':H b=some u)(d:o≠u):a≠b:=by intro e;subst e;rw[h]at h';exact d (Option.some.inj h')
theorem Ah(h:H a=some o)(h':H b=none):a≠b:=by intro e;subst e;rw[h]at h';cases h'
section
variable(P:qO)(w:qP)
noncomputable def Av(H:Hp)(h:Heap)(a:qM):HO->Prop
 |.lst xs=>xs.length<=sizeLine/\∃(its:List qL) (n:Nat),Ag xs its/\h.get? a=some {cls:=.type "list",data:=.seq its.toArray n}
 |.tup xs=>xs.length<=sizeLine/\∃its:List qL,Ag xs its/\IsTup h a its.toArray
 |.dK kvs=>kvs.length<=sizeLine/\(a==sysModules)=false/\∃vs,KV kvs vs/\h.DictOf (BA P w) a vs
 |.dT kvs=>kvs.length<=sizeLine/\(a==sysModules)=false/\∃xs:List (List CG×qM×qL),
   Paired (λ(p:List CG×V) (q:List CG×qM×qL)=>p.1=q.1/\H q.2.1=some (.tup (p.1.map kV))/\Al p.2 q.2.2) kvs xs /\
   ∃o es ep,h.get? a=some o/\o.ExactDict/\o.data=.dict es ep/\es.toList=xs.map (entryOfKey (tupleKind (BA P w)))/\(xs.map (·.1)).Nodup
 |.set S n=>h.SetOf (intKind P w) a S n
 |.ins C dx fs=>H dx=some (.own a)/\fs.length<=1000/\dx≠a/\h.get? a=some (PySem.W.instObj C dx) /\
   ∃mA,h.Ns1 dx mA/\(∀f,Co (fs.lookup f) (mA f))/\PySem.Within mA (fs.map (·.1))
 |.own _=>∃o,h.get? a=some o
 |.xd fs=>∃mA,h.Ns1 a mA/\∀f,Co (fs.lookup f) (mA f)
 |.rng lo hi=>∃t u v,h.get? a=some {cls:=.type "range",data:=.fields #[.int lo t,.int hi u,.int 1 v]}
 |.frz o u=>h.get? a=some o/\Av H h a u
 |.tbl ps=>h.get? a=some {cls:=.none,data:=.fields ps}
 |.met f x=>h.get? a=some (PySem.W.methodObj (.ref f) (.ref x))
 |.ext φ=>φ h/\(∃o,h.get? a=some o)/\∀h1 h2:Heap,φ h1->(∀o,h1.get? a=some o->h2.get? a=some o)->φ h2
def Ds(H:Hp)(h:Heap):Prop:=∀a o,H a=some o->Av P w H h a o
end
variable{α β:Type}
section
variable{P:qO}{w:qP}{H':Hp}{h h':Heap}
theorem Av.lt(x:Av P w H h a o):a<h.objs.size:=by
 cases o with
 |lst xs=>obtain⟨_,_,_,_,e⟩:=x;exact ZO e
 |tup xs=>obtain⟨_,_,_,p⟩:=x;exact p.lt
 |dK kvs=>obtain⟨_,_,_,_,o,_,_,e,_⟩:=x;exact ZO e
 |dT kvs=>obtain⟨_,_,_,_,o,_,_,e,_⟩:=x;exact ZO e
 |set S n=>obtain⟨o,_,_,_,e,_⟩:=x;exact ZO e
 |ins C dx fs=>obtain⟨_,_,_,e,_⟩:=x;exact ZO e
 |own y=>obtain⟨_,e⟩:=x;exact ZO e
 |xd fs=>obtain⟨_,⟨_,_,_,e,_⟩,_⟩:=x;exact ZO e
 |rng lo hi=>obtain⟨_,_,_,e⟩:=x;exact ZO e
 |frz ob u=>obtain⟨e,_⟩:=x;exact ZO e
 |tbl ps=>exact ZO (show h.get? a=some _ from x)
 |met f y=>exact ZO (show h.get? a=some _ from x)
 |ext φ=>obtain⟨_,⟨_,e⟩,_⟩:=x;exact ZO e
theorem Paired.mapP{F G:α->β->Prop}:∀{l₁:List α} {l₂:List β},Paired F l₁ l₂->(∀a b,F a b->G a b)->Paired G l₁ l₂:=by
 intro _ _ h f
 induction h with
 |nil=>exact .nil
 |cons r _ ih=>exact .cons (f _ _ r) ih
theorem Av.stay(x:Av P w H h a o)(k:∀b u,(b=a\/H b=some (.own a))->h.get? b=some u->h'.get? b=some u)
  (ho:∀b,H b=some (.own a)->H' b=some (.own a)) (ht:∀b xs,H b=some (.tup xs)->H' b=some (.tup xs)):Av P w H' h' a o:=by
 induction o with
 |lst xs=>obtain⟨z,its,n,r,e⟩:=x;exact⟨z,its,n,r,k _ _ (.inl rfl) e⟩
 |tup xs=>obtain⟨z,its,r,ob,e,c⟩:=x;exact⟨z,its,r,ob,k _ _ (.inl rfl) e,c⟩
 |dK kvs=>obtain⟨z,y,vs,r,ob,es,ep,e,c⟩:=x;exact⟨z,y,vs,r,ob,es,ep,k _ _ (.inl rfl) e,c⟩
 |dT kvs =>
  obtain⟨z,y,xs,r,ob,es,ep,e,c⟩:=x;exact⟨z,y,xs,Paired.mapP r λp q z=>⟨z.1,ht _ _ z.2.1,z.2.2⟩,ob,es,ep,k _ _ (.inl rfl) e,c⟩
 |set S n=>obtain⟨ob,es,ep,t,e,c⟩:=x;exact⟨ob,es,ep,t,k _ _ (.inl rfl) e,c⟩
 |ins C dx fs =>
  obtain⟨d,z,ne,e,mA,⟨od,es,ep,e2,c⟩,r⟩:=x;exact⟨ho _ d,z,ne,k _ _ (.inl rfl) e,mA,⟨od,es,ep,k _ _ (.inr d) e2,c⟩,r⟩
 |own y=>obtain⟨ob,e⟩:=x;exact⟨ob,k _ _ (.inl rfl) e⟩
 |xd fs=>obtain⟨mA,⟨od,es,ep,e,c⟩,r⟩:=x;exact⟨mA,⟨od,es,ep,k _ _ (.inl rfl) e,c⟩,r⟩
 |rng lo hi=>obtain⟨t,u,v,e⟩:=x;exact⟨t,u,v,k _ _ (.inl rfl) e⟩
 |frz ob u ih=>obtain⟨e,q⟩:=x;exact⟨k _ _ (.inl rfl) e,ih q⟩
 |tbl ps =>
  have e:h.get? a=some {cls:=.none,data:=.fields ps}:=x;show h'.get? a=some {cls:=.none,data:=.fields ps};exact k a _ (.inl rfl) e
 |met f y =>
  have e:h.get? a=some (PySem.W.methodObj (.ref f) (.ref y)):=x;show h'.get? a=some (PySem.W.methodObj (.ref f) (.ref y));exact k a _ (.inl rfl) e
 |ext φ=>obtain⟨p,⟨o,e⟩,st⟩:=x;exact⟨st _ _ p λo q=>k _ _ (.inl rfl) q,⟨o,k _ _ (.inl rfl) e⟩,st⟩
theorem Ds.lt(x:Ds P w H h)(e:H a=some o):a<h.objs.size:=(x a o e).lt
theorem Ds.fresh(x:Ds P w H h)(e:h.objs.size<=a):H a=none:=by
 cases q:H a with
 |none=>rfl
 |some u=>exact qE (ZV (x.lt q) e) (Zn _)
theorem Ds.kept(x:Ds P w H h)(k:∀b u,h.get? b=some u->h'.get? b=some u):Ds P w H h':=λa o e =>
 (x a o e).stay (λb u _ q=>k b u q) (λ_ q=>q) λ_ _ q=>q
theorem Ds.laid(x:Ds P w H h)(k:∀b u,h.get? b=some u->h'.get? b=some u)(hp:h.objs.size<=a)(new:Av P w (Am H a o) h' a o):Ds P w (Am H a o) h':=λb u e=>by
 have hn:=x.fresh hp
 by_cases hb:b=a
 ·subst hb;rw[AE]at e;cases e;exact new
 ·rw[AR hb]at e;exact (x b u e).stay (λc v _ q=>k c v q) (λc q=>by rw[AR (Ah q hn)];exact q) λc xs q=>by rw[AR (Ah q hn)];exact q
end
def Rd(H:Hp)(a:qM)(u:HO):Prop:=H a=some u\/∃o,H a=some (.frz o u)
variable{h:Heap}
theorem Rd.ok{P:qO}{w:qP}{u:HO}(r:Rd H a u)(x:Ds P w H h):Av P w H h a u:=by
 rcases r with r|⟨o,r⟩
 ·exact x a u r
 ·obtain⟨_,q⟩:=x a _ r;exact q
noncomputable def VC:Option HO->Prop
 |some (.lst _)=>True
 |some (.dK _)=>True
 |some (.dT _)=>True
 |some (.set _ _)=>True
 |some (.ins _ _ _)=>True
 |some (.ext _)=>True
 |_=>False
section
variable{P:qO}{w:qP}{h':Heap}{x e:qM}{o':HO}
theorem Ds.write(ok:Ds P w H h)(mu:VC (H x))(he:e=x\/H e=some (.own x))(k:∀b u,b≠e->h.get? b=some u->h'.get? b=some u)(heo:∃u,h'.get? e=some u)
  (new:Av P w (Am H x o') h' x o'):Ds P w (Am H x o') h':=λb u q=>by
 have nown:∀c y,H c=some (.own y)->c≠x:=λc y r z=>by subst z;rw[r]at mu;exact mu
 have ntup:∀c xs,H c=some (.tup xs)->c≠x:=λc xs r z=>by subst z;rw[r]at mu;exact mu
 by_cases hb:b=x
 ·subst hb;rw[AE]at q;cases q;exact new
 ·rw[AR hb]at q
  by_cases hbe:b=e
  ·have q':H b=some (.own x):=by
    rcases he with z|z
    ·exact qE (hbe.trans z) hb
    ·rw[hbe];exact z
   rw[q]at q';cases q';obtain⟨v,hv⟩:=heo;exact⟨v,by rw[hbe];exact hv⟩
  ·refine (ok b u q).stay (λc v hc r=>k c v ?_ r) (λc r=>by rw[AR (nown c b r)];exact r) λc xs r=>by rw[AR (ntup c xs r)];exact r
   rcases hc with rfl|hc
   ·exact hbe
   ·rintro rfl;rcases he with z|z
    ·exact nown c b hc z
    ·rw[hc]at z;cases z;exact hb rfl
end
structure Un(fs ex:List qM)(H H':Hp)(h h':Heap):Prop where
 keep:∀b o,h.get? b=some o->H b=none->b∉fs->b∉ex->h'.get? b=some o
 slot:∀b o,h.get? b=some o->H b=none->b∈fs->b∉ex->∃sl,h'.get? b=some {o with slots:=sl}
 free:∀b o,h.get? b=some o->H b=none->b∉ex->H' b=none
 there:∀b o,h.get? b=some o->b∉ex->∃o',h'.get? b=some o'
 tups:∀b xs,H b=some (.tup xs)->H' b=some (.tup xs)
 frzs:∀b o u,H b=some (.frz o u)->H' b=some (.frz o u)
 tbls:∀b ps,H b=some (.tbl ps)->∃more,H' b=some (.tbl (ps++more))
section
variable{fs fs' ex ex':List qM}{H1 H2:Hp}{h1 h2 h':Heap}{x e:qM}
theorem Un.any(u:Un fs ex H H1 h h1){ob:Obj}(q:h.get? b=some ob)(n:H b=none)(hx:b∉ex):∃sl,h1.get? b=some {ob with slots:=sl}:=by
 by_cases hb:b∈fs
 ·exact u.slot b ob q n hb hx
 ·exact⟨ob.slots,u.keep b ob q n hb hx⟩
theorem Un.kept(k:∀b u,h.get? b=some u->h'.get? b=some u):Un fs ex H H h h':=
 ⟨λb ob q _ _ _=>k b ob q,λb ob q _ _ _=>⟨ob.slots,k b ob q⟩,λ_ _ _ n _=>n,λb ob q _=>⟨ob,k b ob q⟩,λ_ _ q=>q,λ_ _ _ q=>q,λ_ ps q=>⟨#[],by rw[q];simp⟩⟩
theorem Un.refl:Un fs ex H H h h:=Un.kept λ_ _ q=>q
theorem Un.laid(k:∀b u,h.get? b=some u->h'.get? b=some u)(hp:h.objs.size<=a)(hn:H a=none):Un fs ex H (Am H a o) h h' where
 keep:=λb u q _ _ _=>k b u q
 slot:=λb u q _ _ _=>⟨u.slots,k b u q⟩
 free:=λb u q n _=>by rw[AR (Zj (ZV (ZO q) hp))];exact n
 there:=λb u q _=>⟨u,k b u q⟩
 tups:=λb xs q=>by rw[AR (Ah q hn)];exact q
 frzs:=λb u xs q=>by rw[AR (Ah q hn)];exact q
 tbls:=λb ps q=>⟨#[],by rw[AR (Ah q hn),q];simp⟩
theorem Un.write(mu:VC (H x))(he:e=x\/H e=some (.own x))(k:∀b u,b≠e->h.get? b=some u->h'.get? b=some u)(heo:∃u,h'.get? e=some u):Un fs ex H (Am H x o) h h':=by
 have hx:∀b,H b=none->b≠x:=λb n z=>by subst z;rw[n]at mu;exact mu
 have hb:∀b,H b=none->b≠e:=λb n z=>by
  subst z;rcases he with r|r
  ·exact hx b n r
  ·rw[n]at r;cases r
 have hm:∀b u,H b=some u->¬VC (some u)->b≠x:=λb u q nm z=>by subst z;rw[q]at mu;exact nm mu
 refine⟨λb u q n _ _=>k b u (hb b n) q,λb u q n _ _=>⟨u.slots,k b u (hb b n) q⟩,λb u q n _=>by rw[AR (hx b n)];exact n,λb u q _=>?_,
  λb xs q=>by rw[AR (hm b _ q λz=>z)];exact q,λb u xs q=>by rw[AR (hm b _ q λz=>z)];exact q,λb ps q=>⟨#[],by rw[AR (hm b _ q λz=>z),q];simp⟩⟩
 by_cases hbe:b=e
 ·subst hbe;exact heo
 ·exact⟨u,k b u hbe q⟩
end
noncomputable def trk(h:Heap)(H:Hp):List qM:=(List.range h.objs.size).filter λa=>(H a).isSome
noncomputable def JC(h:Heap)(H:Hp):Heap:=PySem.W.hideAll h (trk h H)
theorem Nl(h:Heap)(H:Hp):(JC h H).objs.size=h.objs.size:=PySem.W.hideAll_size _ _
theorem Om{o:Obj}(e:h.get? b=some o)(n:H b=none):(JC h H).get? b=some o:=
 Z3 _ e λhm=>by have q:(H b).isSome=true:=(aP.mp hm).2;rw[n]at q;simp at q
theorem Qx{o:Obj}(e:(JC h H).get? b=some o):h.get? b=some o/\H b=none:=by
 have e':h.get? b=some o:=ay (trk h H) e;refine⟨e',?_⟩;cases q:H b with
 |none=>rfl
 |some x =>
  have hm:b∈trk h H:=List.mem_filter.mpr ⟨List.mem_range.mpr (Heap.lt_size e'),by simp[q]⟩;have z:(JC h H).get? b=none:=PySem.W.hideAll_none (trk h H) hm;rw[z]at e;cases e
structure X2(K:qQ)(mg:Str->Option qL)(base:Heap):Prop where
 kin:K.In base
 glob:base.Ns mainGlobals mg
 blt:∃mb,base.Ns builtinsNs mb/\∀x:Str,x≠"__name__"->mb x=bootBuiltins x
 nolimit:base.NoLimit
structure Cx where
 prog:qO
 w:qP
 K:qQ
 mg:Str->Option qL
 base:Heap
 A:Around
 N:List Str
 s₀:qN
 H₀:Hp
 env:Env
 outer:List Env
 stack:List Env
 ex:List qM
 fn:Str->Bool
 calm:Bool
 pn:List (qM×Obj)
 xe:qL->qN->Prop
def B9(l:List Env):List qM:=l.filterMap (·.frame)
abbrev Cx.fs(X:Cx):List qM:=B9 X.outer
def X3(sc:Scope)(x:Str):Prop:=sc.names.lookup x=some .local\/sc.names.lookup x=some .cell\/sc.names.lookup x=some .free
def Sz(sc:Scope)(x:Str):Prop:=sc.names.lookup x=some .local\/sc.names.lookup x=some .cell
def VD(env:Env)(h:Heap)(m:Str->Option qL)(x:Str)(u:qL):Prop:=
 (env.kindOf x=some .local/\m x=some u)\/((env.kindOf x=some .cell\/env.kindOf x=some .free)/\∃c,env.cells.lookup x=some c/\h.IsCell c (some u))
structure Cx.Ok(X:Cx):Prop where
 mod:X2 X.K X.mg X.base
 kind:X.env.scope.kind=.function
 glob:X.env.globals=mainGlobals
 blt:X.env.builtins=builtinsNs
 above:X.s₀.heap.objs.size<=X.env.locals
 inj:∀x y c,X.env.cells.lookup x=some c->X.env.cells.lookup y=some c->x=y
 has:∀x,(X.env.kindOf x=some .cell\/X.env.kindOf x=some .free)->∃c,X.env.cells.lookup x=some c
 cab:∀x c,X.fn x=true->X.env.cells.lookup x=some c->X.s₀.heap.objs.size<=c
 hd:X.calm=true->X.A.handled=none
 frames:X.A.frames=some X.stack
 stk:X.stack=X.outer\/(X.stack=X.env::X.outer/\X.env.frame=some X.env.locals)
 exf:∀b∈X.ex,b≠X.env.locals/\∀x c,X.env.cells.lookup x=some c->c≠b
 bs:∀b o,X.base.get? b=some o->X.s₀.heap.get? b=some o/\X.H₀ b=none
 bsz:X.base.objs.size<=X.s₀.heap.objs.size
 noex:∀b o,X.base.get? b=some o->b∉X.ex
 exfs:∀b∈X.ex,b∉X.fs
 funs:X.s₀.heap.FunFrames X.base X.outer
 frf:∀b∈X.fs,X.H₀ b=none
structure AW(X:Cx)(ad:List (qM×Obj))(σ:List (Option V))(H:Hp)(s:qN):Prop where
 ok:X.Ok
 os:s.os=X.s₀.os
 bare:AllBare s.gens
 base:Un X.fs X.ex X.H₀ H X.s₀.heap s.heap
 loc:∃m,s.heap.Ns X.env.locals m/\∀(i:Nat) (x:Str) (v:V),X.N[i]?=some x->σ[i]?=some (some v)->X3 X.env.scope x->∃u,Al v u/\VD X.env s.heap m x u
 cell:∀x c,X.env.cells.lookup x=some c->∃v,s.heap.IsCell c v
 free:H X.env.locals=none
 freeC:∀x c,X.env.cells.lookup x=some c->H c=none
 pin:∀p∈X.pn++ad,s.heap.get? p.1=some p.2/\H p.1=none/\p.1≠X.env.locals/\p.1∉X.fs/\∀v,p.2.data≠.cell v
 hok:Ds X.prog X.w H s.heap
 len:σ.length=X.N.length
variable{x:Str}{ch:List qM}{t' i j:Nat}{it:qM}{s':qN}
section
variable{X:Cx}{ad:List (qM×Obj)}{σ:List (Option V)}{H':Hp}{s:qN}{h':Heap}
theorem Cx.Ok.nofr(ok:X.Ok){o:Obj}(e:X.base.get? b=some o):b∉X.fs:=λhb=>by have:=(ok.funs.mem hb).1;rw[e]at this;cases this
theorem AW.bs(I:AW X ad σ H s):∀b o,X.base.get? b=some o->s.heap.get? b=some o/\H b=none:=λb o e =>
 ⟨I.base.keep b o (I.ok.bs b o e).1 (I.ok.bs b o e).2 (I.ok.nofr e) (I.ok.noex b o e),I.base.free b o (I.ok.bs b o e).1 (I.ok.bs b o e).2 (I.ok.noex b o e)⟩
theorem AW.bk(I:AW X ad σ H s):∀b o,X.base.get? b=some o->s.heap.get? b=some o:=λb o e=>(I.bs b o e).1
theorem AW.mod(I:AW X ad σ H s):X2 X.K X.mg X.base:=I.ok.mod
theorem AW.kIn(I:AW X ad σ H s):X.K.In s.heap:=I.ok.mod.kin.keeps I.bk
theorem AW.lt(I:AW X ad σ H s):X.env.locals<s.heap.objs.size:=let ⟨_,hn,_⟩:=I.loc;hn.lt
theorem AW.sz(I:AW X ad σ H s):X.s₀.heap.objs.size<=s.heap.objs.size:=Zl I.ok.above (a8 I.lt)
theorem AW.nofs(I:AW X ad σ H s)(h:s.heap.objs.size<=a):a∉X.fs:=λhb=>by obtain⟨_,o,ho,_⟩:=I.ok.funs.mem hb;exact qE (ZV (ZO ho) (Zl I.sz h)) (Zn _)
theorem AW.cne(I:AW X ad σ H s):∀x c,X.env.cells.lookup x=some c->c≠X.env.locals:=λx c e z=>by obtain⟨v,o,ho,hd⟩:=I.cell x c e;obtain⟨m,⟨o',es,ep,ho',hd',_⟩,_⟩:=I.loc;rw[z,ho']at ho;cases ho;rw[hd']at hd;cases hd
theorem AW.funs(I:AW X ad σ H s):s.heap.FunFrames X.base X.outer:=by
 have all:∀(l:List Env),(∀b∈B9 l,b∈X.fs)->X.s₀.heap.FunFrames X.base l->s.heap.FunFrames X.base l:=by
  intro l
  induction l with
  |nil=>intro _ _;trivial
  |cons env r ih =>
   intro hs hl;refine byG λGq hGq=>?_;obtain⟨hk,⟨L,o,hf,hn,ho,hd⟩,hr⟩:=hl;refine hGq ?_;clear hGq Gq;have hL:L∈X.fs:=hs L (by unfold B9;rw[List.filterMap_cons,hf];exact List.mem_cons_self);obtain⟨sl,e⟩:=I.base.slot L o ho (I.ok.frf L hL) hL λz=>I.ok.exfs L z hL
   exact⟨hk,⟨L,_,hf,hn,e,hd⟩,ih (λb hb=>hs b (by unfold B9;rw[List.filterMap_cons,hf];exact List.mem_cons_of_mem _ hb)) hr⟩
 exact all X.outer (λ_ hb=>hb) I.ok.funs
theorem AW.stack(I:AW X ad σ H s):s.heap.FunFrames X.base X.stack:=by
 rcases I.ok.stk with e|⟨e,hf⟩
 ·rw[e];exact I.funs
 ·rw[e];obtain⟨m,hn,_⟩:=I.loc;refine .cons (by rw[I.ok.kind];decide) hf hn ?_ I.funs;exact bI (Zl I.ok.bsz I.ok.above)
theorem AW.stkSub(I:AW X ad σ H s):∀b∈B9 X.stack,b∈X.env.locals::X.fs:=λb hb=>by
 rcases I.ok.stk with e|⟨e,hf⟩
 ·rw[e]at hb;exact ZS _ hb
 ·rw[e]at hb;unfold B9 at hb;rw[List.filterMap_cons,hf]at hb;exact hb
theorem AW.stkFree(I:AW X ad σ H s):∀b∈B9 X.stack,H b=none:=λb hb=>by
 rcases Zd.mp (I.stkSub b hb) with e|hb
 ·rw[e];exact I.free
 ·obtain⟨_,o,ho,_⟩:=I.ok.funs.mem hb;exact I.base.free b o ho (I.ok.frf b hb) λz=>I.ok.exfs b z hb
theorem AW.step{g':Array GenState}{t':Nat}{d':Drawn}(I:AW X ad σ H s)
  (hch:∀b∈ch,(b∈X.ex\/X.s₀.heap.objs.size<=b)/\b≠X.env.locals/\(∀x c,X.env.cells.lookup x=some c->c≠b)/\∀p∈X.pn++ad,p.1≠b)
  (keep:∀b o,b≠X.env.locals->b∉X.fs->b∉ch->s.heap.get? b=some o->H b=none->h'.get? b=some o)
  (slot:∀b o,b≠X.env.locals->b∈X.fs->b∉ch->s.heap.get? b=some o->H b=none->∃sl,h'.get? b=some {o with slots:=sl}) (free:∀b o,b∉ch->s.heap.get? b=some o->H b=none->H' b=none)
  (there:∀b o,b∉ch->s.heap.get? b=some o->∃o',h'.get? b=some o')
  (tups:∀b xs,H b=some (.tup xs)->H' b=some (.tup xs)) (frzs:∀b o u,H b=some (.frz o u)->H' b=some (.frz o u)) (tbls:∀b ps,H b=some (.tbl ps)->∃more,H' b=some (.tbl (ps++more)))
  (ns:∀m,s.heap.Ns X.env.locals m->h'.Ns X.env.locals m) (hok:Ds X.prog X.w H' h') (hg:AllBare g'):
  AW X ad σ H' {s with heap:=h',gens:=g',drawn:=d',toks:=t'}:=by
 have neL:∀b o,X.s₀.heap.get? b=some o->b≠X.env.locals:=λb o e=>Zj (ZV (ZO e) I.ok.above)
 have neC:∀b o,X.s₀.heap.get? b=some o->b∉X.ex->b∉ch:=λb o e hx hb=>by
  rcases (hch b hb).1 with z|z
  ·exact hx z
  ·exact qE (ZV (ZO e) z) (Zn _)
 have cellK:∀x c,X.env.cells.lookup x=some c->∀v,s.heap.IsCell c v->h'.IsCell c v:=λx c e v ⟨o,ho,hd⟩=>by
  have nch:c∉ch:=λz=>(hch c z).2.2.1 x c e rfl
  by_cases hc:c∈X.fs
  ·obtain⟨sl,q⟩:=slot c o (I.cne x c e) hc nch ho (I.freeC x c e);exact⟨_,q,hd⟩
  ·exact⟨o,keep c o (I.cne x c e) hc nch ho (I.freeC x c e),hd⟩
 refine⟨I.ok,I.os,hg,⟨λb o e n hb hx=>?_,λb o e n hb hx=>?_,λb o e n hx=>?_,λb o e hx=>?_,λb xs e=>tups b xs (I.base.tups b xs e),λb o xs e=>frzs b o xs (I.base.frzs b o xs e),λb ps e=>?_⟩,?_,λx c e=>?_,?_,λx c e=>?_,λp hp=>?_,hok,I.len⟩
 ·exact keep b o (neL b o e) hb (neC b o e hx) (I.base.keep b o e n hb hx) (I.base.free b o e n hx)
 ·obtain⟨sl,e1⟩:=I.base.slot b o e n hb hx;obtain⟨sl',e2⟩:=slot b _ (neL b o e) hb (neC b o e hx) e1 (I.base.free b o e n hx);exact⟨sl',e2⟩
 ·obtain⟨o',e1⟩:=I.base.there b o e hx;exact free b o' (neC b o e hx) e1 (I.base.free b o e n hx)
 ·obtain⟨o',e1⟩:=I.base.there b o e hx;exact there b o' (neC b o e hx) e1
 ·obtain⟨m1,e1⟩:=I.base.tbls b ps e;obtain⟨m2,e2⟩:=tbls b _ e1;exact⟨m1++m2,by rw[e2,Array.append_assoc]⟩
 ·obtain⟨m,hn,hl⟩:=I.loc;refine⟨m,ns m hn,λi x v e1 e2 e3=>?_⟩;obtain⟨u,r,l⟩:=hl i x v e1 e2 e3;refine⟨u,r,?_⟩;rcases l with l|⟨k,c,e,z⟩
  ·exact .inl l
  ·exact .inr ⟨k,c,e,cellK x c e _ z⟩
 ·obtain⟨v,z⟩:=I.cell x c e;exact⟨v,cellK x c e v z⟩
 ·obtain⟨m,⟨o,_,_,ho,_⟩,_⟩:=I.loc;exact free _ o (λz=>(hch _ z).2.1 rfl) ho I.free
 ·obtain⟨v,o,ho,hd⟩:=I.cell x c e;exact free c o (λz=>(hch c z).2.2.1 x c e rfl) ho (I.freeC x c e)
 ·obtain⟨e,n,ne,nf,d⟩:=I.pin p hp;have nch:p.1∉ch:=λz=>(hch p.1 z).2.2.2 p hp rfl
  exact⟨keep p.1 p.2 ne nf nch e n,free p.1 p.2 nch e n,ne,nf,d⟩
theorem AW.un(I:AW X ad σ H s)(u:Un X.fs [] H H' s.heap h')(hok:Ds X.prog X.w H' h'):AW X ad σ H' {s with heap:=h',toks:=t'}:=by
 obtain⟨m,⟨o,es,ep,ho,r⟩,_⟩:=id I.loc;obtain⟨sl,hL⟩:=u.any ho I.free (by simp)
 exact I.step (g':=s.gens) (d':=s.drawn) (ch:=[]) (λ_ z=>nomatch z) (λb o _ hb _ e n=>u.keep b o e n hb (by simp)) (λb o _ hb _ e n=>u.slot b o e n hb (by simp)) (λb o _ e n=>u.free b o e n (by simp)) (λb o _ e=>u.there b o e (by simp)) u.tups u.frzs u.tbls (λm' hm=>by obtain⟨o',es',ep',ho',r'⟩:=hm;rw[ho]at ho';cases ho';exact⟨_,es',ep',hL,r'⟩) hok I.bare
theorem AW.call{g':Array GenState}{d':Drawn}(I:AW X ad σ H s)(u:Un (B9 X.stack) ch H H' s.heap h')(hok:Ds X.prog X.w H' h')(hg:AllBare g')
  (hch:∀b∈ch,(b∈X.ex\/X.s₀.heap.objs.size<=b)/\b≠X.env.locals/\(∀x c,X.env.cells.lookup x=some c->c≠b)/\∀p∈X.pn++ad,p.1≠b):
  AW X ad σ H' {s with heap:=h',gens:=g',drawn:=d',toks:=t'}:=by
 obtain⟨m,⟨o,es,ep,ho,r⟩,_⟩:=id I.loc;obtain⟨sl,hL⟩:=u.any ho I.free λz=>(hch _ z).2.1 rfl
 exact I.step (ch:=ch) hch (λb o hL hb hc e n=>u.keep b o e n (λz=>(Zd.mp (I.stkSub b z)).elim hL hb) hc) (λb o _ _ hc e n=>u.any e n hc) (λb o hc e n=>u.free b o e n hc) (λb o hc e=>u.there b o e hc) u.tups u.frzs u.tbls (λm' hm=>by obtain⟨o',es',ep',ho',r'⟩:=hm;rw[ho]at ho';cases ho';exact⟨_,es',ep',hL,r'⟩) hok hg
theorem AW.turned(I:AW X ad σ H s)(k:∀b o,b≠it->s.heap.get? b=some o->h'.get? b=some o)(hn:H it=none)(hL:it≠X.env.locals)
  (h1:it∈X.ex\/X.s₀.heap.objs.size<=it) (h2:∀x c,X.env.cells.lookup x=some c->c≠it) (h3:∀p∈X.pn++ad,p.1≠it):AW X ad σ H {s with heap:=h',toks:=t'}:=by
 have nit:∀b u,H b=some u->b≠it:=λb u e z=>by rw[z,hn]at e;cases e
 refine I.step (g':=s.gens) (d':=s.drawn) (ch:=[it]) (λb hb=>?_) (λb o _ _ hc e _=>k b o (λz=>hc (by simp[z])) e) (λb o _ _ hc e _=>⟨o.slots,k b o (λz=>hc (by simp[z])) e⟩) (λ_ _ _ _ n=>n)
  (λb o hc e=>⟨o,k b o (λz=>hc (by simp[z])) e⟩) (λ_ _ e=>e) (λ_ _ _ e=>e) (λb ps e=>⟨#[],by rw[e];simp⟩) (λm hm=>?_) (λb u e=>?_) I.bare
 ·have e:b=it:=by simpa using hb
  subst e;exact⟨h1,hL,h2,h3⟩
 ·obtain⟨o,es,ep,ho,r⟩:=hm;exact⟨o,es,ep,k _ o (Ne.symm hL) ho,r⟩
 ·refine (I.hok b u e).stay (λc v hc q=>k c v ?_ q) (λ_ q=>q) λ_ _ q=>q
  rcases hc with z|z
  ·rw[z];exact nit b u e
  ·exact nit c _ z
theorem AW.tok(I:AW X ad σ H s)(t:Nat):AW X ad σ H {s with toks:=t}:=I.un (h':=s.heap) (t':=t) Un.refl I.hok
theorem AW.kept(I:AW X ad σ H s)(k:∀b u,s.heap.get? b=some u->h'.get? b=some u):AW X ad σ H {s with heap:=h',toks:=t'}:=I.un (Un.kept k) (I.hok.kept k)
theorem AW.laid(I:AW X ad σ H s)(k:∀b u,s.heap.get? b=some u->h'.get? b=some u)(hp:s.heap.objs.size<=a)(new:Av X.prog X.w (Am H a o) h' a o):
  AW X ad σ (Am H a o) {s with heap:=h',toks:=t'}:=I.un (Un.laid k hp (I.hok.fresh hp)) (I.hok.laid k hp new)
theorem AW.write{x e:qM}(I:AW X ad σ H s)(mu:VC (H x))(he:e=x\/H e=some (.own x))(k:∀b u,b≠e->s.heap.get? b=some u->h'.get? b=some u)(heo:∃u,h'.get? e=some u)
  (new:Av X.prog X.w (Am H x o) h' x o):AW X ad σ (Am H x o) {s with heap:=h',toks:=t'}:=I.un (Un.write mu he k heo) (I.hok.write mu he k heo new)
theorem AW.pins_of{pins':List (qM×Obj)}(I:AW X ad σ H s)(h:∀p∈pins',s.heap.get? p.1=some p.2/\H p.1=none/\p.1≠X.env.locals/\p.1∉X.fs/\∀v,p.2.data≠.cell v):AW X pins' σ H s:=
 ⟨I.ok,I.os,I.bare,I.base,I.loc,I.cell,I.free,I.freeC,λp hp=>(aQ.mp hp).elim (λz=>I.pin p (b9 _ z)) (h p),I.hok,I.len⟩
theorem Ec{N:List Str}(hN:N.Nodup)(a:N[i]?=some x)(b:N[j]?=some x):i=j:=by obtain⟨h1,e1⟩:=ZW.mp a;obtain⟨h2,e2⟩:=ZW.mp b;exact (List.getElem_inj hN).mp (e1.trans e2.symm)
theorem IH{M:Model}{A:Around}{E:qL->qN->Prop}{v:V}{Q:Unit->qN->Prop}(I:AW X ad σ H s)(hN:X.N.Nodup)(hi:X.N[i]?=some x)(hx:Sz X.env.scope x)(r:Al v u)
  (h:∀s',AW X ad (σ.set i (some v)) H s'->(∃a,Heap.SameBut a s.heap s'.heap/\(a=X.env.locals\/X.env.cells.lookup x=some a))->Q () s') (hf:X.fn x=true\/X.env.scope.names.lookup x=some .local:=by first|exact .inl rfl|exact .inr rfl|assumption):wpAny M A (storeName X.env x u) Q E s:=by
 obtain⟨m,hn,hl⟩:=id I.loc;have hcls:(X.env.scope.kind==.class||(X.env.scope.kind==.module&&X.env.locals != X.env.globals))=false:=by rw[I.ok.kind];rfl
 have hiσ:i<σ.length:=by rw[I.len];exact (ZW.mp hi).1
 have cne:=I.cne
 have tracked:∀{a:qM} {h':Heap},(∃o,s.heap.get? a=some o/\H a=none)->Heap.SameBut a s.heap h'->Ds X.prog X.w H h':=λ{a h'} ha hs b ob e=>by
  obtain⟨_,_,hfree⟩:=ha;refine (I.hok b ob e).stay (λc w' hc q=>(hs.2 c ?_).trans q) (λ_ q=>q) λ_ _ q=>q
  rintro rfl;rcases hc with rfl|hc
  ·rw[hfree]at e;cases e
  ·rw[hfree]at hc;cases hc
 rcases hx with hk|hk
 ·refine wpAny_storeName_local hk hn (λh' hn' hs=>?_) hcls;refine byG λGq hGq=>?_;obtain⟨oL,_,_,hoL,_⟩:=id hn;refine hGq ?_;clear hGq Gq;refine h _ ⟨I.ok,I.os,I.bare,⟨λb o e n hb hx=>?_,λb o e n hb hx=>?_,I.base.free,λb o e hx=>?_,I.base.tups,I.base.frzs,I.base.tbls⟩,⟨_,hn',λj y v' e1 e2 e3=>?_⟩,λy c e=>?_,I.free,I.freeC,λp hp=>?_,tracked ⟨oL,hoL,I.free⟩ hs,by simpa using I.len⟩ ⟨_,hs,.inl rfl⟩
  ·exact (hs.2 b (Zj (ZV (ZO e) I.ok.above))).trans (I.base.keep b o e n hb hx)
  ·obtain⟨sl,e1⟩:=I.base.slot b o e n hb hx;exact⟨sl,(hs.2 b (Zj (ZV (ZO e) I.ok.above))).trans e1⟩
  ·obtain⟨o',e1⟩:=I.base.there b o e hx;exact⟨o',(hs.2 b (Zj (ZV (ZO e) I.ok.above))).trans e1⟩
  ·by_cases hj:j=i
   ·subst hj;rw[hi]at e1;cases e1;rw[av hiσ]at e2;cases e2;exact⟨u,r,.inl ⟨hk,by simp⟩⟩
   ·rw[bJ (Ne.symm hj)]at e2;obtain⟨u',r',q⟩:=hl j y v' e1 e2 e3;refine⟨u',r',?_⟩;rcases q with⟨k,e⟩|⟨k,c,e,z⟩
    ·refine .inl ⟨k,?_⟩;have:y≠x:=λe=>hj (Ec hN e1 (e▸hi))
     simp[this,e]
    ·exact .inr ⟨k,c,e,z.sameBut hs (cne y c e)⟩
  ·obtain⟨w',z⟩:=I.cell y c e;exact⟨w',z.sameBut hs (cne y c e)⟩
  ·refine byG λGq hGq=>?_;obtain⟨e,n,ne,nf,d⟩:=I.pin p hp;refine hGq ?_;clear hGq Gq;exact⟨(hs.2 p.1 ne).trans e,n,ne,nf,d⟩
 ·have hfn:X.fn x=true:=by
   rcases hf with z|z
   ·exact z
   ·rw[z]at hk;cases hk
  obtain⟨c,hc⟩:=I.ok.has x (.inl hk);obtain⟨w',z⟩:=I.cell x c hc;refine wpAny_storeName_cell I.ok.kind hk hc z (λh' hc' hs=>?_);obtain⟨oc,hoc,hocd⟩:=id z;refine h {s with heap:=h'} ⟨I.ok,I.os,I.bare,⟨λb o e n hb hx=>?_,λb o e n hb hx=>?_,I.base.free,λb o e hx=>?_,I.base.tups,I.base.frzs,I.base.tbls⟩,⟨m,hn.sameBut hs (Ne.symm (cne x c hc)),λj y v' e1 e2 e3=>?_⟩,λy c' e=>?_,I.free,I.freeC,λp hp=>?_,tracked ⟨oc,hoc,I.freeC x c hc⟩ hs,by simpa using I.len⟩ ⟨c,hs,.inr hc⟩
  ·exact (hs.2 b (Zj (ZV (ZO e) (I.ok.cab x c hfn hc)))).trans (I.base.keep b o e n hb hx)
  ·obtain⟨sl,e1⟩:=I.base.slot b o e n hb hx;exact⟨sl,(hs.2 b (Zj (ZV (ZO e) (I.ok.cab x c hfn hc)))).trans e1⟩
  ·obtain⟨o',e1⟩:=I.base.there b o e hx;exact⟨o',(hs.2 b (Zj (ZV (ZO e) (I.ok.cab x c hfn hc)))).trans e1⟩
  ·by_cases hj:j=i
   ·subst hj;rw[hi]at e1;cases e1;rw[av hiσ]at e2;cases e2;exact⟨u,r,.inr ⟨.inl hk,c,hc,hc'⟩⟩
   ·rw[bJ (Ne.symm hj)]at e2;obtain⟨u',r',q⟩:=hl j y v' e1 e2 e3;refine⟨u',r',?_⟩;rcases q with q|⟨k,c',e,z'⟩
    ·exact .inl q
    ·refine .inr ⟨k,c',e,z'.sameBut hs ?_⟩;rintro rfl;exact hj (Ec hN e1 (I.ok.inj _ _ _ e hc▸hi))
  ·by_cases hcc:c'=c
   ·subst hcc;exact⟨_,hc'⟩
   ·obtain⟨w2,z2⟩:=I.cell y c' e;exact⟨w2,z2.sameBut hs hcc⟩
  ·refine byG λGq hGq=>?_;obtain⟨e,n,ne,nf,d⟩:=I.pin p hp;refine hGq ?_;clear hGq Gq;refine⟨(hs.2 p.1 ?_).trans e,n,ne,nf,d⟩;intro q;rw[q,hoc]at e;have q':oc=p.2:=Option.some.inj e;exact d w' (by rw[<-q'];exact hocd)
theorem GZ{M:Model}{A:Around}{E:qL->qN->Prop}{v:V}{Q:Unit->qN->Prop}(I:AW X ad σ H s)(hN:X.N.Nodup)(hi:X.N[i]?=some x)(hx:Sz X.env.scope x)(r:Al v u)
  (h:∀s',AW X ad (σ.set i (some v)) H s'->Q () s') (hf:X.fn x=true\/X.env.scope.names.lookup x=some .local:=by first|exact .inl rfl|exact .inr rfl|assumption):wpAny M A (storeName X.env x u) Q E s:=
 IH I hN hi hx r (λs' I' _=>h s' I') hf
theorem AW.call'(I:AW X ad σ H s)(ho:s'.os=s.os)(u:Un (B9 X.stack) ch H H' s.heap s'.heap)(hok:Ds X.prog X.w H' s'.heap)(hg:AllBare s'.gens)
  (hch:∀b∈ch,(b∈X.ex\/X.s₀.heap.objs.size<=b)/\b≠X.env.locals/\(∀x c,X.env.cells.lookup x=some c->c≠b)/\∀p∈X.pn++ad,p.1≠b):AW X ad σ H' s':=by
 obtain⟨h',g',d',t',o'⟩:=s';have e:o'=s.os:=ho;subst e;exact I.call (g':=g') (t':=t') (d':=d') u hok hg hch
end
abbrev XK:=qL->Option qM->Hp->Prop
abbrev St:=List (Option V)
abbrev VK:=V->Hp->Prop
abbrev TE:=St->Hp->VK->Prop
abbrev TT:=St->Hp->(Bool->Hp->Prop)->Prop
abbrev TA:=St->Hp->(List V->Hp->Prop)->Prop
structure Hr where
 nx:St->Hp->Prop
 rt:VK
 bk:St->Hp->Prop:=λ_ _=>False
 ct:St->Hp->Prop:=λ_ _=>False
abbrev TS:=Hr->St->Hp->Prop
def EP(X:Cx)(ad:List (qM×Obj))(σ:St)(Q:VK)(u:qL)(s':qN):Prop:=∃v H',AW X ad σ H' s'/\Al v u/\Q v H'
def TP(X:Cx)(ad:List (qM×Obj))(σ:St)(Q:Bool->Hp->Prop)(b:Bool)(s':qN):Prop:=∃H',AW X ad σ H' s'/\Q b H'
def AP(X:Cx)(ad:List (qM×Obj))(σ:St)(Q:List V->Hp->Prop)(us:List qL)(s':qN):Prop:=∃vs H',AW X ad σ H' s'/\Ag vs us/\Q vs H'
def SP(X:Cx)(ad:List (qM×Obj))(D:Hr)(f:Flow)(s':qN):Prop:=
 match f with
 |.next=>∃σ' H',AW X ad σ' H' s'/\D.nx σ' H'
 |.brk=>∃σ' H',AW X ad σ' H' s'/\D.bk σ' H'
 |.cont=>∃σ' H',AW X ad σ' H' s'/\D.ct σ' H'
 |.ret u=>∃v σ' H',AW X ad σ' H' s'/\Al v u/\D.rt v H'
def PE(X:Cx)(e:Expr)(t:TE):Prop:=
 ∀(ad:List (qM×Obj)) (s:qN) (σ:St) (H:Hp) (Q:VK),AW X ad σ H s->t σ H Q->wpAny (model X.prog X.w) X.A (eval e X.env) (EP X ad σ Q) X.xe s
def PT(X:Cx)(e:Expr)(t:TT):Prop:=
 ∀(ad:List (qM×Obj)) (s:qN) (σ:St) (H:Hp) (Q:Bool->Hp->Prop),AW X ad σ H s->t σ H Q->wpAny (model X.prog X.w) X.A (isTrue e X.env (eval e X.env)) (TP X ad σ Q) X.xe s
def PW(X:Cx)(e:Expr)(t:TT):Prop:=
 ∀(whole:Sem qL) (ad:List (qM×Obj)) (s:qN) (σ:St) (H:Hp) (Q:Bool->Hp->Prop),AW X ad σ H s->t σ H Q->wpAny (model X.prog X.w) X.A (isTrue e X.env whole) (TP X ad σ Q) X.xe s
variable{X:Cx}{e:Expr}
theorem PW.pt{t:TT}(h:PW X e t):PT X e t:=h _
def PA(X:Cx)(es:List Expr)(t:TA):Prop:=
 ∀(pos:Pos) (ad:List (qM×Obj)) (s:qN) (σ:St) (H:Hp) (Q:List V->Hp->Prop),AW X ad σ H s->t σ H Q->wpAny (model X.prog X.w) X.A (spliced (backTo pos (starEach es X.env))) (AP X ad σ Q) X.xe s
def PS(X:Cx)(st:Stmt)(t:TS):Prop:=
 ∀(ad:List (qM×Obj)) (s:qN) (σ:St) (H:Hp) (D:Hr),AW X ad σ H s->t D σ H->wpAny (model X.prog X.w) X.A (exec st X.env) (SP X ad D) X.xe s
def F8(X:Cx)(st:List Stmt)(t:TS):Prop:=
 ∀(ad:List (qM×Obj)) (s:qN) (σ:St) (H:Hp) (D:Hr),AW X ad σ H s->t D σ H->wpAny (model X.prog X.w) X.A (execs st X.env) (SP X ad D) X.xe s
variable{M:Model}{E:qL->qN->Prop}{s:qN}
theorem A9{t:Sem α}{Q Q':α->qN->Prop}{A:Around}(h:wpAny M A t Q E s)(hQ:∀a s,Q a s->Q' a s):wpAny M A t Q' E s:=qH h hQ λ_ _ x=>x
variable{Q:qL->qN->Prop}{ad:List (qM×Obj)}{σ:St}{op:CmpOp}
section
def S0(i:Nat):TE:=λσ H Q=>∃v,σ[i]?=some (some v)/\Q v H
def tC(v:V):TE:=λ_ H Q=>Q v H
theorem S1{pos:Pos}(hN:X.N[i]?=some x)(hv:X3 X.env.scope x)(hd:(x==("__debug__":Str))=false:=by decide)(hcd:(x==("__classdict__":Str))=false:=by decide):PE X (.Name x pos) (S0 i):=by
 intro ad s σ H Q I h;obtain⟨v,e,h⟩:=h;obtain⟨m,hn,hl⟩:=I.loc;obtain⟨u,r,l⟩:=hl i x v hN e hv;have fin:EP X ad σ Q u s:=⟨v,H,I,r,h⟩;rcases l with⟨hk,hm⟩|⟨hk,c,hc,hcell⟩
 ·exact wpAny_Name (wpAny_loadName_local I.ok.kind hk hn hm fin) hd
 ·rcases hk with hk|hk
  ·exact wpAny_Name (wpAny_loadName_cell I.ok.kind hk hc hcell fin) hd
  ·exact wpAny_Name (wpAny_loadName_free I.ok.kind hk hc hcell fin hcd) hd
theorem AD{i j pos}:PE X (.Constant (.int i) j pos) (tC (.int i)):=λ_ _ _ H _ I h=>wpAny_Constant_int ⟨.int i,H,I.tok _,⟨_,rfl⟩,h⟩
theorem D6{b j pos}:PE X (.Constant (.bool b) j pos) (tC (.bl b)):=λ_ _ _ H _ I h=>Constant_bool ⟨.bl b,H,I,rfl,h⟩
theorem ED{j pos}:PE X (.Constant .none j pos) (tC .non):=λ_ _ _ H _ I h=>Constant_none ⟨.non,H,I,rfl,h⟩
theorem AS{x j pos}:PE X (.Constant (.str x) j pos) (tC (.str x)):=λ_ _ _ H _ I h=>Calls.Constant_str ⟨.str x,H,I.tok _,⟨_,rfl⟩,h⟩
def Gl(X:Cx)(x:Str):Prop:=X.env.kindOf x=some .globalImplicit
theorem Cq{E:qL->qN->Prop}{pos:Pos}(I:AW X ad σ H s)(hg:Gl X x)(hm:X.mg x=some u)(h:Q u s)
  (hd:(x==("__debug__":Str))=false:=by decide):wpAny (model X.prog X.w) X.A (eval (.Name x pos) X.env) Q E s:=
 Calls.Name_function_global I.ok.kind hg (Calls.loadGlobal_global (by rw[I.ok.glob];exact I.mod.glob.keeps I.bk) hm h) hd
theorem CM{E:qL->qN->Prop}{pos:Pos}(I:AW X ad σ H s)(hg:Gl X x)(hm:X.mg x=none)(hv:bootBuiltins x=some u)(h:Q u s)
  (hn:x≠"__name__":=by decide) (hd:(x==("__debug__":Str))=false:=by decide):wpAny (model X.prog X.w) X.A (eval (.Name x pos) X.env) Q E s:=by
 obtain⟨mb,h1,h2⟩:=I.mod.blt;exact Calls.Name_function_global I.ok.kind hg (Calls.loadGlobal_builtin (by rw[I.ok.glob];exact I.mod.glob.keeps I.bk) hm (by rw[I.ok.blt];exact h1.keeps I.bk) ((h2 x hn).trans hv) h) hd
theorem JD{v:V}{pos:Pos}(hg:Gl X x)(hm:X.mg x=some u)(r:Al v u)(hd:(x==("__debug__":Str))=false:=by decide):PE X (.Name x pos) (tC v):=
 λ_ _ _ H _ I h=>Cq I hg hm ⟨v,H,I,r,h⟩ hd
theorem Qy{v:V}{pos:Pos}(hg:Gl X x)(hm:X.mg x=none)(hv:bootBuiltins x=some u)(r:Al v u)(hn:x≠"__name__":=by decide)(hd:(x==("__debug__":Str))=false:=by decide):PE X (.Name x pos) (tC v):=
 λ_ _ _ H _ I h=>CM I hg hm hv ⟨v,H,I,r,h⟩ hn hd
variable{a b:Expr}{ta tb:TE}{pos:Pos}
def PC(X:Cx)(op:CmpOp)(a b:Expr)(t:TE):Prop:=
 ∀(ad:List (qM×Obj)) (s:qN) (σ:St) (H:Hp) (Q:VK),AW X ad σ H s->t σ H Q ->
  wpAny (model X.prog X.w) X.A (eval a X.env) (λv s₁=>wpAny (model X.prog X.w) X.A (eval b X.env) (λu s₂=>wpAny (model X.prog X.w) X.A (compareOp op v u) (EP X ad σ Q) X.xe s₂) X.xe s₁) X.xe s
def tB(t:TE):TT:=λσ H Q=>t σ H λx H1=>∃c,x=.bl c/\Q c H1
theorem Ga{t:TE}(h:PC X op a b t)(h1:behindInMarks op b=false:=by first|exact nobehind _ (by decide) (by decide)|rfl):PT X (.Compare a [op] [b] pos) (tB t):=by intro ad s σ H Q I hw;refine wpAny_isTrue_Compare1 (A9 (h ad s σ H _ I hw) λv s1 h1=>A9 h1 λu s2 h2=>A9 h2 λc s3 z9=>?_) h1;obtain⟨x,H1,I1,r1,q1⟩:=z9;obtain⟨d,rfl,q⟩:=q1;cases r1;exact wpAny_truthy_bool ⟨H1,I1,q⟩
theorem Bc{t:TE}(h:PE X e t)(he:∀whole,isTrue e X.env whole=(do let v <-whole;standAt e.pos;holding [v] (truthy v)):=by intro _;rfl):PT X e (tB t):=by intro ad s σ H Q I hw;refine isTrue_plain (A9 (h ad s σ H _ I hw) λv s1 z9=>?_) (he _);obtain⟨x,H1,I1,r1,q1⟩:=z9;obtain⟨d,rfl,q⟩:=q1;cases r1;exact wpAny_truthy_bool ⟨H1,I1,q⟩
variable{tA tB':TT}{rest:List Expr}
def VE(t u:TT):TT:=λσ H Q=>t σ H λc H1=>if c=true then u σ H1 Q else Q false H1
def Y2(t u:TT):TT:=λσ H Q=>t σ H λc H1=>if c=true then Q true H1 else u σ H1 Q
def VF(t:TT):TT:=λσ H Q=>t σ H λc H1=>Q (!c) H1
theorem JE(ha:PT X a tA):PW X (.BoolOp .And [a] pos) tA:=by
 intro wh ad s σ H Q I h;refine isTrue_and (A9 (ha ad s σ H Q I h) λc s1 e=>?_);cases c with
 |true=>exact isTrue_and_nil e
 |false=>exact e
theorem DH(ha:PT X a tA):PW X (.BoolOp .Or [a] pos) tA:=by
 intro wh ad s σ H Q I h;refine isTrue_or (A9 (ha ad s σ H Q I h) λc s1 e=>?_);cases c with
 |false=>exact isTrue_or_nil e
 |true=>exact e
theorem Lg(ha:PT X a tA)(hb:PW X (.BoolOp .And (b::rest) pos) tB'):PW X (.BoolOp .And (a::b::rest) pos) (VE tA tB'):=by
 intro wh ad s σ H Q I h;refine isTrue_and (A9 (ha ad s σ H _ I h) λc s1 z9=>?_);obtain⟨H1,I1,q1⟩:=z9;cases c with
 |true=>exact hb wh ad s1 σ H1 Q I1 q1
 |false=>exact⟨H1,I1,q1⟩
theorem DY(ha:PT X a tA)(hb:PW X (.BoolOp .Or (b::rest) pos) tB'):PW X (.BoolOp .Or (a::b::rest) pos) (Y2 tA tB'):=by
 intro wh ad s σ H Q I h;refine isTrue_or (A9 (ha ad s σ H _ I h) λc s1 z9=>?_);obtain⟨H1,I1,q1⟩:=z9;cases c with
 |true=>exact⟨H1,I1,q1⟩
 |false=>exact hb wh ad s1 σ H1 Q I1 q1
theorem Bv(ha:PT X a tA):PT X (.UnaryOp .Not a pos) (VF tA):=by intro ad s σ H Q I h;exact isTrue_not (ha ad s σ H (λc H1=>Q (!c) H1) I h)
def R9(ta tb:TE):TE:=λσ H Q=>ta σ H λx H1=>∃c,x=.bl c/\if c=true then tb σ H1 Q else Q (.bl false) H1
def SA(ta:TE):TE:=λσ H Q=>ta σ H λx H1=>∃c,x=.bl c/\Q (.bl (!c)) H1
theorem FP{op}{t:TE}(h:PE X a t):PE X (.BoolOp op [a] pos) t:=λad s σ H Q I hw=>BoolOp_one (h ad s σ H Q I hw)
theorem Db(ha:PE X a ta)(hb:PE X (.BoolOp .And (b::rest) pos) tb):PE X (.BoolOp .And (a::b::rest) pos) (R9 ta tb):=by
 intro ad s σ H Q I h;refine BoolOp_and (A9 (ha ad s σ H _ I h) λv s1 z9=>?_);obtain⟨x,H1,I1,r1,q1⟩:=z9;obtain⟨c,rfl,q1⟩:=q1;cases r1;refine wpAny_truthy_bool ?_;cases c with
 |true=>exact hb ad s1 σ H1 Q I1 q1
 |false=>exact⟨.bl false,H1,I1,rfl,q1⟩
theorem Lh(ha:PE X a ta):PE X (.UnaryOp .Not a pos) (SA ta):=by intro ad s σ H Q I h;refine UnaryOp_ (A9 (ha ad s σ H _ I h) λv s1 z9=>?_);obtain⟨x,H1,I1,r1,q1⟩:=z9;obtain⟨c,rfl,q1⟩:=q1;cases r1;exact not_of (wpAny_truthy_bool ⟨.bl (!c),H1,I1,rfl,q1⟩)
def YE(t:TT)(ta tb:TE):TE:=λσ H Q=>t σ H λc H1=>if c=true then ta σ H1 Q else tb σ H1 Q
theorem KW{c:Expr}(hc:PT X c tA)(ha:PE X a ta)(hb:PE X b tb):PE X (.IfExp c a b pos) (YE tA ta tb):=by
 intro ad s σ H Q I h;refine wpAny_IfExp (A9 (hc ad s σ H _ I h) λd s1 z9=>?_);obtain⟨H1,I1,q1⟩:=z9;cases d with
 |true=>exact ha ad s1 σ H1 Q I1 q1
 |false=>exact hb ad s1 σ H1 Q I1 q1
end
def Ac(K:qQ)(H:Hp)(a:qM)(xs:List V):Prop:=
 Rd H a (.lst xs) \/
  ∃(o:Obj) (its:Array qL) (n:Nat),K.lookup a=some o/\o.cls=.type "list"/\o.dict=none/\o.data=.seq its n/\its.size<=sizeLine/\Ag xs its.toList
def Ao(K:qQ)(H:Hp)(a:qM)(xs:List V):Prop:=
 Rd H a (.tup xs) \/
  ∃(o:Obj) (its:Array qL) (n:Nat),K.lookup a=some o/\o.cls=.type "tuple"/\o.data=.seq its n/\its.size<=sizeLine/\Ag xs its.toList
noncomputable def Hs:qL->Option V
 |.none=>some .non
 |.bool b=>some (.bl b)
 |.int i _=>some (.int i)
 |.str x _=>some (.str x)
 |.bytes b _=>some (.byt b)
 |.float b _=>some (.flt b)
 |.ref a=>some (.ref a)
 |.type n=>some (.ty n)
 |_=>none
theorem Al.abs{x:V}(r:Al x u):Hs u=some x:=by
 cases x with
 |non=>cases r;rfl
 |bl _=>cases r;rfl
 |int _=>obtain⟨t,rfl⟩:=r;rfl
 |str _=>obtain⟨t,rfl⟩:=r;rfl
 |byt _=>obtain⟨t,rfl⟩:=r;rfl
 |flt _=>obtain⟨t,rfl⟩:=r;rfl
 |ref _=>cases r;rfl
 |ty _=>cases r;rfl
variable{y:V}
theorem Al.inj{x:V}(r:Al x u)(q:Al y u):x=y:=Option.some.inj (r.abs.symm.trans q.abs)
theorem Ag.inj:∀{xs ys:List V} {us:List qL},Ag xs us->Ag ys us->xs=ys:=by
 intro _ ys _ h
 induction h generalizing ys with
 |nil=>intro g;cases g;rfl
 |cons r _ ih =>
  intro g;cases g with
  |cons r' t'=>rw[r.inj r',ih t']
section
variable{ys:List V}
theorem Ac.of{K:qQ}(h:H a=some (.lst xs)):Ac K H a xs:=.inl (.inl h)
theorem Ao.of{K:qQ}(h:H a=some (.tup xs)):Ao K H a xs:=.inl (.inl h)
theorem AW.list(I:AW X ad σ H s)(h:Ac X.K H a xs):∃its:List qL,Ag xs its/\PlainL s.heap a its.toArray/\xs.length<=sizeLine:=by
 rcases h with h|⟨o,its,n,hk,hc,hd,hs,hz,r⟩
 ·obtain⟨z,its,n,r,e⟩:=h.ok I.hok;exact⟨its,r,⟨_,n,e,rfl,rfl,rfl⟩,z⟩
 ·refine⟨its.toList,r,⟨o,n,I.kIn a o hk,hc,hd,by simpa using hs⟩,?_⟩;have e:=r.length;simp only[Array.length_toList]at e;lia
theorem AW.tuple(I:AW X ad σ H s)(h:Ao X.K H a xs):∃its:List qL,Ag xs its/\IsTup s.heap a its.toArray/\xs.length<=sizeLine:=by
 rcases h with h|⟨o,its,n,hk,hc,hs,hz,r⟩
 ·obtain⟨z,its,r,p⟩:=h.ok I.hok;exact⟨its,r,p,z⟩
 ·refine⟨its.toList,r,⟨o,I.kIn a o hk,hc,n,by simpa using hs⟩,?_⟩;have e:=r.length;simp only[Array.length_toList]at e;lia
theorem AW.list_inj(I:AW X ad σ H s)(h:Ac X.K H a xs)(h':Ac X.K H a ys):xs=ys:=by
 obtain⟨its,r,⟨o,n,e,_,_,d⟩,_⟩:=I.list h;obtain⟨its',r',⟨o',n',e',_,_,d'⟩,_⟩:=I.list h';rw[e]at e';cases e';rw[d]at d'
 injection d' with d1 _
 have:its=its':=by simpa using qK Array.toList d1
 subst this;exact r.inj r'
theorem AW.tuple_inj(I:AW X ad σ H s)(h:Ao X.K H a xs)(h':Ao X.K H a ys):xs=ys:=by
 obtain⟨its,r,⟨o,e,_,n,d⟩,_⟩:=I.tuple h;obtain⟨its',r',⟨o',e',_,n',d'⟩,_⟩:=I.tuple h';rw[e]at e';cases e';rw[d]at d'
 injection d' with d1 _
 have:its=its':=by simpa using qK Array.toList d1
 subst this;exact r.inj r'
end
abbrev Cx.wish(X:Cx)(E:qL->qN->Prop):Cx:={X with xe:=E}
abbrev Cx.nox(X:Cx):Cx:=X.wish λ_ _=>False
theorem Cx.Ok.wish(ok:X.Ok)(E:qL->qN->Prop):(X.wish E).Ok:=
 ⟨ok.mod,ok.kind,ok.glob,ok.blt,ok.above,ok.inj,ok.has,ok.cab,ok.hd,ok.frames,ok.stk,ok.exf,ok.bs,ok.bsz,ok.noex,ok.exfs,ok.funs,ok.frf⟩
theorem Cx.Ok.unwish(ok:(X.wish E).Ok):X.Ok:=
 ⟨ok.mod,ok.kind,ok.glob,ok.blt,ok.above,ok.inj,ok.has,ok.cab,ok.hd,ok.frames,ok.stk,ok.exf,ok.bs,ok.bsz,ok.noex,ok.exfs,ok.funs,ok.frf⟩
variable{D:Hr}
theorem AW.wish(I:AW X ad σ H s)(E:qL->qN->Prop):AW (X.wish E) ad σ H s:=⟨I.ok.wish E,I.os,I.bare,I.base,I.loc,I.cell,I.free,I.freeC,I.pin,I.hok,I.len⟩
theorem AW.unwish(I:AW (X.wish E) ad σ H s):AW X ad σ H s:=⟨I.ok.unwish,I.os,I.bare,I.base,I.loc,I.cell,I.free,I.freeC,I.pin,I.hok,I.len⟩
theorem SP.unwish{f:Flow}(h:SP (X.wish E) ad D f s'):SP X ad D f s':=by
 cases f with
 |next=>obtain⟨σ',H',I,q⟩:=h;exact⟨σ',H',I.unwish,q⟩
 |brk=>obtain⟨σ',H',I,q⟩:=h;exact⟨σ',H',I.unwish,q⟩
 |cont=>obtain⟨σ',H',I,q⟩:=h;exact⟨σ',H',I.unwish,q⟩
 |ret u=>obtain⟨v,σ',H',I,r,q⟩:=h;exact⟨v,σ',H',I.unwish,r,q⟩
theorem F8.nox{st:List Stmt}{t:TS}(h:F8 X.nox st t):F8 X st t:=λad s σ H D I hw =>
 qH (h ad s σ H D (I.wish _) hw) (λ_ _ q=>q.unwish) λ_ _ z=>False.elim z
section
variable{st:Stmt}{rest:List Stmt}{t u:TS}{te:TE}{pos:Pos}
def SB:TS:=λD σ H=>D.nx σ H
def Nm(t u:TS):TS:=λD σ H=>t {D with nx:=u D} σ H
theorem AX:F8 X [] SB:=λ_ _ σ H _ I h=>wpAny_execs_nil ⟨σ,H,I,h⟩
theorem AC(h1:PS X st t)(h2:F8 X rest u):F8 X (st::rest) (Nm t u):=by
 intro ad s σ H D I h;refine wpAny_execs_cons (A9 (h1 ad s σ H {D with nx:=u D} I h) λf s1 q=>?_);cases f with
 |next =>
  refine byG λGq hGq=>?_;obtain⟨σ',H',I',q⟩:=q;refine hGq ?_;clear hGq Gq;exact h2 ad s1 σ' H' D I' q
 |ret v=>exact q
 |brk=>exact q
 |cont=>exact q
theorem AF(h1:PS X st t):F8 X [st] t:=by
 intro ad s σ H D I h;refine wpAny_execs_cons (A9 (h1 ad s σ H D I h) λf s1 q=>?_);cases f with
 |next=>exact wpAny_execs_nil q
 |ret v=>exact q
 |brk=>exact q
 |cont=>exact q
theorem AW.quiet(I:AW X ad σ H s):interactive X.env=false:=by simp[interactive,I.ok.kind]
def SD(te:TE):TS:=λD σ H=>te σ H λ_ H1=>D.nx σ H1
theorem Ax(he:PE X e te)(hs:swapsWith e none pos.line X.env=pure false:=by rfl):PS X (.Expr e pos) (SD te):=by intro ad s σ H D I h;exact wpAny_Expr_any (A9 (he ad s σ H _ I h) λv s1 ⟨x,H1,I1,r1,q1⟩=>⟨σ,H1,I1,q1⟩) I.quiet hs
def VG(te:TE):TS:=λD σ H=>te σ H D.rt
theorem AL(he:PE X e te):PS X (.Return (some e) pos) (VG te):=by intro ad s σ H D I h;exact wpAny_Return_some (A9 (he ad s σ H _ I h) λv s1 ⟨x,H1,I1,r1,q1⟩=>⟨x,σ,H1,I1,r1,q1⟩)
def VH(c:TT)(t u:TS):TS:=λD σ H=>c σ H λb H1=>if b=true then t D σ H1 else u D σ H1
theorem Ai{c:Expr}{a b:List Stmt}{tc:TT}(hc:PT X c tc)(ha:F8 X a t)(hb:F8 X b u):PS X (.If c a b pos) (VH tc t u):=by
 intro ad s σ H D I h;refine wpAny_If (A9 (hc ad s σ H _ I h) λd s1 z9=>?_);obtain⟨H1,I1,q1⟩:=z9;cases d with
 |true=>exact ha ad s1 σ H1 D I1 q1
 |false=>exact hb ad s1 σ H1 D I1 q1
end
abbrev TG:=V->St->Hp->(St->Hp->Prop)->Prop
abbrev S2:=List V->St->Hp->(St->Hp->Prop)->Prop
def PG(X:Cx)(target:Expr)(t:TG):Prop:=
 ∀(ad:List (qM×Obj)) (s:qN) (σ:St) (H:Hp) (v:V) (u:qL) (Q:St->Hp->Prop),AW X ad σ H s->Al v u->t v σ H Q ->
  wpAny (model X.prog X.w) X.A (assign target X.env u) (λ_ s'=>∃σ' H',AW X ad σ' H' s'/\Q σ' H') X.xe s
def X4(X:Cx)(ts:List Expr)(t:S2):Prop:=
 ∀(ad:List (qM×Obj)) (s:qN) (σ:St) (H:Hp) (vs:List V) (us:List qL) (Q:St->Hp->Prop),AW X ad σ H s->Ag vs us->t vs σ H Q ->
  wpAny (model X.prog X.w) X.A (assignInOrder ((assignEach ts X.env).map (·.2)) us) (λ_ s'=>∃σ' H',AW X ad σ' H' s'/\Q σ' H') X.xe s
abbrev S3:=V->V->V->Hp->(Hp->Prop)->Prop
def VI(X:Cx)(t:S3):Prop:=
 ∀(ad:List (qM×Obj)) (s:qN) (σ:St) (H:Hp) (o i v:V) (ov iv u:qL) (Q:Hp->Prop),AW X ad σ H s->Al o ov->Al i iv->Al v u->t o i v H Q ->
  wpAny (model X.prog X.w) X.A (setItem ov iv u) (λ_ s'=>∃H',AW X ad σ H' s'/\Q H') X.xe s
variable{n:Nat}{tg:Expr}{te:TE}
section
variable{pos:Pos}
def Gb(i:Nat):TG:=λv σ H Q=>Q (σ.set i (some v)) H
theorem Mq(hN:X.N.Nodup)(hi:X.N[i]?=some x)(hx:Sz X.env.scope x)(hf:X.fn x=true\/X.env.scope.names.lookup x=some .local:=by first|exact .inl rfl|exact .inr rfl|assumption):PG X (.Name x pos) (Gb i):=by intro ad s σ H v u Q I r h;exact wpAny_assign_Name (GZ I hN hi hx r (λs' I'=>⟨_,H,I',h⟩) hf)
def YF:S2:=λvs σ H Q=>vs=[]/\Q σ H
def VJ(t:TG)(u:S2):S2:=λvs σ H Q=>∃v r,vs=v::r/\t v σ H λσ' H'=>u r σ' H' Q
theorem JF:X4 X [] YF:=by intro ad s σ H vs us Q I r h;obtain⟨e,h⟩:=h;subst e;cases r;exact assignInOrder_nil ⟨σ,H,I,h⟩
theorem C5{es:List Expr}{t:TG}{u:S2}(h1:PG X e t)(h2:X4 X es u)
  (hs:(assignEach (e::es) X.env).map (·.2)=assign e X.env::(assignEach es X.env).map (·.2):=by rfl):X4 X (e::es) (VJ t u):=by
 intro ad s σ H vs us Q I r h;obtain⟨v,vr,e1,h⟩:=h;subst e1;cases r with
 |cons r rr =>
  rw[hs];refine assignInOrder_cons (A9 (h1 ad s σ H _ _ _ I r h) λ_ s1 z9=>?_);obtain⟨σ1,H1,I1,q1⟩:=z9;exact h2 ad s1 σ1 H1 _ _ Q I1 rr q1
def YG(K:qQ)(n:Nat)(t:S2):TG:=λv σ H Q=>∃a xs,v=.ref a/\Ao K H a xs/\xs.length=n/\t xs σ H Q
theorem Li{es:List Expr}{k:Nat}{t:S2}(hc:X.calm=true)(h:X4 X es t)
  (hn:(assignEach es X.env).length=n:=by rfl) (hst:(assignEach es X.env).findIdx? (·.1)=none:=by rfl):PG X (.Tuple es k pos) (YG X.K n t):=by
 intro ad s σ H v u Q I r hw;refine byG λGq hGq=>?_;obtain⟨a,xs,e1,hq,hl,hw⟩:=hw;refine hGq ?_;clear hGq Gq;subst e1;cases r;refine byG λGq hGq=>?_;obtain⟨its,rv,ht,hz⟩:=I.tuple hq;refine hGq ?_;clear hGq Gq;refine assign_Tuple_tuple (I.ok.hd hc) ht (by simp[hn,<-hl,rv.length]) hst λh' hx=>?_;have I1:AW X ad σ H {s with heap:=h'}:=I.kept (t':=s.toks) λb o e=>hx b o (Zj (ZO e)) e
 exact h ad _ σ H xs _ Q I1 (by simpa using rv) hw
def YH(to ti:TE)(t:S3):TG:=λv σ H Q=>to σ H λo H1=>ti σ H1 λi H2=>t o i v H2 λH3=>Q σ H3
theorem S4{o i:Expr}{to ti:TE}{t:S3}(ho:PE X o to)(hi:PE X i ti)(hs:VI X t)
  (ha:∀v,assign (.Subscript o i pos) X.env v=(do
   let ov <-holding [v] (eval o X.env)
   let iv <-holding [v,ov] (eval i X.env)
   standAt pos
   holding [v,ov,iv] (setItem ov iv v)
   release [v,ov,iv] []):=by intro _;rfl):PG X (.Subscript o i pos) (YH to ti t):=by
 intro ad s σ H v u Q I r h;rw[ha];refine qA (qJ (A9 (ho ad s σ H _ I h) λov s1 z9=>?_));obtain⟨x,H1,I1,r1,q1⟩:=z9;refine qA (qJ (A9 (hi ad s1 σ H1 _ I1 q1) λiv s2 z9=>?_));obtain⟨y,H2,I2,r2,q2⟩:=z9;refine qA (wpAny_standAt (qA (qJ (A9 (hs ad s2 σ H2 x y v ov iv u _ I2 r1 r2 r q2) λ_ s3 z9=>?_))));obtain⟨H3,I3,q3⟩:=z9;exact wpAny_release ⟨σ,H3,I3,q3⟩
def On(te:TE)(g:TG):TS:=λD σ H=>te σ H λx H1=>g x σ H1 D.nx
theorem S5{g:TG}(he:PE X e te)(hg:PG X tg g)(hs:swapsWithSole [tg] e pos.line X.env=pure false:=by rfl)(hw:swappedStores [tg] e X.env=pure none:=by rfl)
  (h1:(assignEach [tg] X.env).map (·.2)=[assign tg X.env]:=by rfl):PS X (.Assign [tg] e pos) (On te g):=by
 intro ad s σ H D I h;refine wpAny_Assign_stores (A9 (he ad s σ H _ I h) λv s1 z9=>?_) hs hw;obtain⟨x,H1,I1,r1,q1⟩:=z9;rw[h1];exact A9 (hg ad s1 σ H1 x v _ I1 r1 q1) λ_ s2 q=>q
theorem Lj{pos':Pos}(hN:X.N.Nodup)(hi:X.N[i]?=some x)(hx:Sz X.env.scope x)(he:PE X e te)(hs:swapsWith e (some (.Name x pos')) pos.line X.env=pure false:=by rfl)(hf:X.fn x=true\/X.env.scope.names.lookup x=some .local:=by first|exact .inl rfl|exact .inr rfl|assumption):
  PS X (.Assign [.Name x pos'] e pos) (On te (Gb i)):=by
 intro ad s σ H D I h;refine wpAny_Assign_Name (A9 (he ad s σ H _ I h) λv s1 z9=>?_) hs;obtain⟨y,H1,I1,r1,q1⟩:=z9;exact GZ I1 hN hi hx r1 (λs2 I2=>⟨_,H1,I2,q1⟩) hf
end
variable{body:List Stmt}
section
variable{pos:Pos}
def Oo(c:TT)(tb:TS):TS:=λD σ H=>∃W:Nat->St->Hp->Prop,(∃m,W m σ H)/\∀m σ H,W m σ H ->
 c σ H λb H1=>if b=true then ∃N:St->Hp->Prop,(∀σ' H',N σ' H'->∃m',m'<m/\W m' σ' H')/\tb {D with nx:=N,ct:=N,bk:=D.nx} σ H1 else D.nx σ H1
theorem Ed{c:Expr}{tc:TT}{tb:TS}(hp:PassesOwn (model X.prog X.w) X.A X.env X.xe)(hc:PT X c tc)(hb:F8 X body tb):PS X (.While c body [] pos) (Oo tc tb):=by
 intro ad s σ H D I h;refine byG λGq hGq=>?_;obtain⟨W,⟨m0,w0⟩,turn⟩:=h;refine hGq ?_;clear hGq Gq;refine wpAny_While (codeAny_whileLoop (λn s'=>∃σ' H',AW X ad σ' H' s'/\W n σ' H') ?_ m0 ⟨σ,H,I,w0⟩);intro n s1 hRq;refine byG λGq hGq=>?_;obtain⟨σ1,H1,I1,w1⟩:=hRq;refine hGq ?_;clear hGq Gq;refine wpAny_passesOwn hp (A9 (hc ad s1 σ1 H1 _ I1 (turn n σ1 H1 w1)) λb s2 z9=>?_);obtain⟨H2,I2,q2⟩:=z9;cases b with
 |true =>
  obtain⟨N,hN,q2⟩:=q2;rw[qD rfl];refine wpAny_passesOwn hp (A9 (hb ad s2 σ1 H2 _ I2 q2) λf s3 q3=>?_);cases f with
  |next =>
   refine byG λGq hGq=>?_;obtain⟨σ3,H3,I3,n3⟩:=q3;refine hGq ?_;clear hGq Gq;obtain⟨m',hm,w3⟩:=hN σ3 H3 n3;exact⟨m',hm,σ3,H3,I3,w3⟩
  |cont =>
   refine byG λGq hGq=>?_;obtain⟨σ3,H3,I3,n3⟩:=q3;refine hGq ?_;clear hGq Gq;obtain⟨m',hm,w3⟩:=hN σ3 H3 n3;exact⟨m',hm,σ3,H3,I3,w3⟩
  |brk=>exact q3
  |ret v=>exact q3
 |false =>
  rw[qC ZY];exact wpAny_execs_nil ⟨σ1,H2,I2,q2⟩
end
structure It where
 go:Nat->Hp->Prop
 yld:Nat->Hp->V->Hp->Prop
 stop:Nat->Hp->Prop
def F9(X:Cx)(ad:List (qM×Obj))(H:Hp)(b:qM):Prop:=
 H b=none/\b≠X.env.locals/\b∉X.fs/\(b∈X.ex\/X.s₀.heap.objs.size<=b)/\(∀x c,X.env.cells.lookup x=some c->c≠b)/\∀p∈X.pn++ad,p.1≠b
variable{H':Hp}
theorem AW.fpOk(I:AW X ad σ H s)(hb:s.heap.objs.size<=b)(hn:H' b=none):F9 X ad H' b:=by
 refine⟨hn,aL (ZV I.lt hb),I.nofs hb,.inr (Zl I.sz hb),λx c e z=>?_,λp hp z=>?_⟩
 ·obtain⟨v,q⟩:=I.cell x c e;exact qE (ZV q.lt (by rw[z];exact hb)) (Zn _)
 ·exact qE (ZV (ZO (I.pin p hp).1) (by rw[z];exact hb)) (Zn _)
structure JG(P:qO)(w:qP)(K:qQ)(tg:Expr)(J:It)(fp:List qM)(it:qM)(tn:Nat->Heap->Prop):Prop where
 mem:it∈fp
 obj:∀i h,tn i h->∀b∈fp,∃o,h.get? b=some o/\∀v,o.data≠.cell v
 keep:∀i h h',tn i h->(∀b∈fp,∀o,h.get? b=some o->h'.get? b=some o)->tn i h'
 item:∀(X:Cx),X.prog=P->X.w=w->X.K=K->X.calm=true->∀(i:Nat) (ad:List (qM×Obj)) (s:qN) (σ:St) (H:Hp) (E:qL->qN->Prop),AW X ad σ H s->(∀b∈fp,F9 X ad H b)->tn i s.heap->J.go i H ->
  wpAny (model P w) X.A (pyNext (.ref it)) (λr s1=>∃u,r=some u /\
   wpAny (model P w) X.A (letOwnedTupleGo tg (.ref it) u) (λ_ s2=>∃x H',AW X ad σ H' s2/\Al x u/\J.yld i H x H'/\tn (i+1) s2.heap/\∀b∈fp,H' b=none) E s1) E s
 done:∀(X:Cx),X.prog=P->X.w=w->X.K=K->X.calm=true->∀(i:Nat) (ad:List (qM×Obj)) (s:qN) (σ:St) (H:Hp) (E:qL->qN->Prop),AW X ad σ H s->(∀b∈fp,F9 X ad H b)->tn i s.heap->J.stop i H ->
  wpAny (model P w) X.A (pyNext (.ref it)) (λr s1=>r=none/\AW X ad σ H s1) E s
 self:∀(A:Around) (i:Nat) (s:qN) (Q:qL->qN->Prop) (E:qL->qN->Prop),tn i s.heap->Q (.ref it) s->wpAny (model P w) A (pyIter (.ref it)) Q E s
abbrev TI:=St->Hp->(It->Hp->Prop)->Prop
def Y3(X:Cx)(ad:List (qM×Obj))(σ:St)(tg:Expr)(R:It->Hp->Prop)(itv:qL)(s2:qN):Prop:=
 ∃(it:qM) (fp:List qM) (tn:Nat->Heap->Prop) (J:It) (H':Hp),itv=.ref it/\AW X ad σ H' s2/\JG X.prog X.w X.K tg J fp it tn/\tn 0 s2.heap/\(∀b∈fp,F9 X ad H' b)/\R J H'
def PI(X:Cx)(tg iter:Expr)(wi:TI):Prop:=
 ∀(ad:List (qM×Obj)) (s:qN) (σ:St) (H:Hp) (R:It->Hp->Prop),AW X ad σ H s->wi σ H R ->
  wpAny (model X.prog X.w) X.A (eval iter X.env) (λv s1=>wpAny (model X.prog X.w) X.A (pyIter v) (Y3 X ad σ tg R) X.xe s1) X.xe s
theorem KY{A:Around}{o:Obj}{n:String}{vs:Array qL}{Q:Unit->qN->Prop}(ho:s.heap.get? it=some o)(hc:o.cls=.type n)(hd:o.data=.fields vs)
  (hn:["enumerate","zip","dict_itemiterator","dict_reverseitemiterator","odict_iterator","itertools.zip_longest","itertools.pairwise"].contains n=false) (hQ:Q () s):wpAny M A (letOwnedTupleGo tg (.ref it) u) Q E s:=by
 unfold letOwnedTupleGo
 cases tg<;>first
  |exact qB hQ
  | (cases u<;>first
    |exact qB hQ
    | (refine qA (wpAny_load ho ?_)
       rw[hc,hd];show wpAny M A (if (["enumerate","zip","dict_itemiterator","dict_reverseitemiterator","odict_iterator","itertools.zip_longest","itertools.pairwise"].contains n&&vs[0]?==some (rawInt _))=true then _ else _) Q E s;rw[qC (by intro h;rw[hn,Bool.false_and]at h;cases h)];exact qB hQ))
noncomputable def U5(K:qQ)(a:qM):It:=
 ⟨λi H=>∃xs x,Ac K H a xs/\xs[i]?=some x,λi H x H'=>H'=H/\∀xs,Ac K H a xs->xs[i]?=some x,λi H=>∃xs,Ac K H a xs/\xs.length<=i⟩
noncomputable def U6(K:qQ)(a:qM):It:=
 ⟨λi H=>∃xs x,Ao K H a xs/\xs[i]?=some x,λi H x H'=>H'=H/\∀xs,Ao K H a xs->xs[i]?=some x,λi H=>∃xs,Ao K H a xs/\xs.length<=i⟩
noncomputable def SE(lo:Int)(n:Nat):It:=⟨λi _=>i<n,λi H x H'=>H'=H/\x=.int (lo+i),λi _=>n<=i⟩
theorem Nn{P:qO}{w:qP}{K:qQ}(a it:qM):JG P w K tg (U5 K a) [it] it (λi h=>h.IsListIter it a i) where
 mem:=by simp
 obj:=λi h st b hb=>by
  have e:b=it:=by simpa using hb
  subst e;refine byG λGq hGq=>?_;obtain⟨o,e,c,d⟩:=st;refine hGq ?_;clear hGq Gq;exact⟨o,e,λv z=>by rw[d]at z;cases z⟩
 keep:=λi h h' st k=>st.at λo e=>k it (by simp) o e
 item:=by intro X hP hw hK hc i ad s σ H E I hf st hg;subst hP hw hK;refine byG λGq hGq=>?_;obtain⟨xs,x,hq,hx⟩:=hg;refine hGq ?_;clear hGq Gq;refine byG λGq hGq=>?_;obtain⟨its,rv,p,hz⟩:=I.list hq;refine hGq ?_;clear hGq Gq;obtain⟨u,hu,ru⟩:=rv.get hx;refine byG λGq hGq=>?_;obtain⟨f0,f1,f2,f3,f4,f5⟩:=hf it (by simp);refine hGq ?_;clear hGq Gq;refine wpAny_pyNext_list_item st p.isList (x:=u) (by simpa using hu) λh' st' sb=>?_;have I1:AW X ad σ H {s with heap:=h'}:=I.turned (t':=s.toks) (λb o hb e=>(sb.2 b hb).trans e) f0 f1 f3 f4 f5;refine byG λGq hGq=>?_;obtain⟨o,e,c,d⟩:=id st';refine hGq ?_;clear hGq Gq;exact⟨u,rfl,KY (s:={s with heap:=h'}) e c d (by decide) ⟨x,H,I1,ru,⟨rfl,λys hy=>by rw[I.list_inj hy hq];exact hx⟩,st',λb hb=>(hf b hb).1⟩⟩
 done:=by intro X hP hw hK hc i ad s σ H E I hf st hg;subst hP hw hK;obtain⟨xs,hq,hx⟩:=hg;refine byG λGq hGq=>?_;obtain⟨its,rv,p,hz⟩:=I.list hq;refine hGq ?_;clear hGq Gq;refine byG λGq hGq=>?_;obtain⟨f0,f1,f2,f3,f4,f5⟩:=hf it (by simp);refine hGq ?_;clear hGq Gq;have hl:=rv.length;exact wpAny_pyNext_list_end (I.ok.hd hc) st p.isList (by simp;lia) λh' eb=>⟨rfl,I.turned (t':=s.toks) (λb o hb e=>eb b o hb e) f0 f1 f3 f4 f5⟩
 self:=λ_ _ _ _ _ st h=>wpAny_pyIter_listiter st h
theorem Lk{P:qO}{w:qP}{K:qQ}(a it:qM):JG P w K tg (U6 K a) [it] it (λi h=>h.IsTupleIter it a i) where
 mem:=by simp
 obj:=λi h st b hb=>by
  have e:b=it:=by simpa using hb
  subst e;refine byG λGq hGq=>?_;obtain⟨o,e,c,d⟩:=st;refine hGq ?_;clear hGq Gq;exact⟨o,e,λv z=>by rw[d]at z;cases z⟩
 keep:=λi h h' st k=>st.at λo e=>k it (by simp) o e
 item:=by intro X hP hw hK hc i ad s σ H E I hf st hg;subst hP hw hK;refine byG λGq hGq=>?_;obtain⟨xs,x,hq,hx⟩:=hg;refine hGq ?_;clear hGq Gq;refine byG λGq hGq=>?_;obtain⟨its,rv,p,hz⟩:=I.tuple hq;refine hGq ?_;clear hGq Gq;obtain⟨u,hu,ru⟩:=rv.get hx;refine byG λGq hGq=>?_;obtain⟨f0,f1,f2,f3,f4,f5⟩:=hf it (by simp);refine hGq ?_;clear hGq Gq;refine wpAny_pyNext_tuple_item st (show s.heap.IsTuple a its.toArray from p) (x:=u) (by simpa using hu) λh' st' sb=>?_;have I1:AW X ad σ H {s with heap:=h'}:=I.turned (t':=s.toks) (λb o hb e=>(sb.2 b hb).trans e) f0 f1 f3 f4 f5;refine byG λGq hGq=>?_;obtain⟨o,e,c,d⟩:=id st';refine hGq ?_;clear hGq Gq;exact⟨u,rfl,KY (s:={s with heap:=h'}) e c d (by decide) ⟨x,H,I1,ru,⟨rfl,λys hy=>by rw[I.tuple_inj hy hq];exact hx⟩,st',λb hb=>(hf b hb).1⟩⟩
 done:=by intro X hP hw hK hc i ad s σ H E I hf st hg;subst hP hw hK;obtain⟨xs,hq,hx⟩:=hg;refine byG λGq hGq=>?_;obtain⟨its,rv,p,hz⟩:=I.tuple hq;refine hGq ?_;clear hGq Gq;refine byG λGq hGq=>?_;obtain⟨f0,f1,f2,f3,f4,f5⟩:=hf it (by simp);refine hGq ?_;clear hGq Gq;have hl:=rv.length;exact wpAny_pyNext_tuple_end (I.ok.hd hc) st (show s.heap.IsTuple a its.toArray from p) (by simp;lia) λh' eb=>⟨rfl,I.turned (t':=s.toks) (λb o hb e=>eb b o hb e) f0 f1 f3 f4 f5⟩
 self:=λ_ _ _ _ _ st h=>wpAny_pyIter_tupleiter st h
theorem Ll{P:qO}{w:qP}{K:qQ}(it:qM)(lo:Int)(n:Nat):JG P w K tg (SE lo n) [it] it (λi h=>IsRangeIter h it (lo+(i:Nat)*1) ((n:Int)-(i:Nat)) 1) where
 mem:=by simp
 obj:=λi h st b hb=>by
  have e:b=it:=by simpa using hb
  subst e
  exact⟨_,st,λv z=>by have z':Data.fields _=Data.cell v:=z;cases z'⟩
 keep:=λi h h' st k=>k it (by simp) _ st
 item:=by intro X hP hw hK hc i ad s σ H E I hf st hg;subst hP hw hK;refine byG λGq hGq=>?_;obtain⟨f0,f1,f2,f3,f4,f5⟩:=hf it (by simp);refine hGq ?_;clear hGq Gq;have W:=Walks.range (prog:=X.prog) (w:=X.w) (I.ok.hd hc) it lo 1 n;refine W.item i s _ _ hg st λv h' tk hv st' kk=>?_;obtain⟨t,rfl⟩:=hv;have I1:AW X ad σ H {s with heap:=h',toks:=tk}:=I.turned (λb o hb e=>kk b o (by simpa using hb) e) f0 f1 f3 f4 f5;refine⟨_,rfl,KY (s:={s with heap:=h',toks:=tk}) (n:="range_iterator") st' rfl rfl (by decide) ⟨.int (lo+i),H,I1,⟨t,?_⟩,⟨rfl,rfl⟩,st',λb hb=>(hf b hb).1⟩⟩;rw[Int.mul_one]
 done:=by intro X hP hw hK hc i ad s σ H E I hf st hg;subst hP hw hK;refine byG λGq hGq=>?_;obtain⟨f0,f1,f2,f3,f4,f5⟩:=hf it (by simp);refine hGq ?_;clear hGq Gq;exact wpAny_pyNext_range_end (I.ok.hd hc) st (by have:n<=i:=hg;lia) λh' eb=>⟨rfl,I.turned (t':=s.toks) (λb o hb e=>eb b o hb e) f0 f1 f3 f4 f5⟩
 self:=λ_ _ _ _ _ st h=>wpAny_pyIter_rangeiter st h
variable{tl:TE}{lo:Int}{ta:TA}{fp:List qM}
def SG(K:qQ)(tl:TE):TI:=λσ H R=>tl σ H λx H1=>∃a,x=.ref a/\(∃xs,Ac K H1 a xs)/\R (U5 K a) H1
def YI(K:qQ)(tl:TE):TI:=λσ H R=>tl σ H λx H1=>∃a,x=.ref a/\(∃xs,Ao K H1 a xs)/\R (U6 K a) H1
theorem Qz{l:Expr}(hl:PE X l tl):PI X tg l (SG X.K tl):=by
 intro ad s σ H R I h;refine A9 (hl ad s σ H _ I h) λv s1 z9=>?_;obtain⟨x,H1,I1,r1,q1⟩:=z9;obtain⟨a,e,⟨xs,hq⟩,q⟩:=q1;subst e;cases r1;obtain⟨its,rv,p,hz⟩:=I1.list hq;refine wpAny_pyIter_list p.isList ?_;refine⟨s1.heap.objs.size,[s1.heap.objs.size],_,_,H1,rfl,I1.kept (t':=s1.toks) λb o e=>ZN _ e,Nn a _,⟨_,ZU _ rfl,rfl,rfl⟩,λb hb=>?_,q⟩;have e:b=s1.heap.objs.size:=by simpa using hb
 subst e;exact I1.fpOk (ZR _) (I1.hok.fresh (ZR _))
theorem Lm{l:Expr}(hl:PE X l tl):PI X tg l (YI X.K tl):=by
 intro ad s σ H R I h;refine A9 (hl ad s σ H _ I h) λv s1 z9=>?_;obtain⟨x,H1,I1,r1,q1⟩:=z9;obtain⟨a,e,⟨xs,hq⟩,q⟩:=q1;subst e;cases r1;obtain⟨its,rv,p,hz⟩:=I1.tuple hq;refine wpAny_pyIter_tuple (show s1.heap.IsTuple a its.toArray from p) ?_;refine⟨s1.heap.objs.size,[s1.heap.objs.size],_,_,H1,rfl,I1.kept (t':=s1.toks) λb o e=>ZN _ e,Lk a _,⟨_,ZU _ rfl,rfl,rfl⟩,λb hb=>?_,q⟩;have e:b=s1.heap.objs.size:=by simpa using hb
 subst e;exact I1.fpOk (ZR _) (I1.hok.fresh (ZR _))
theorem KZ{R:It->Hp->Prop}{hi:Int}{t u v:Tok}{tk:Nat}(I:AW X ad σ H s)(h1:-(2^62)<=lo)(h2:lo<2^62)(h3:-(2^62)<=hi)(h4:hi<2^62)
  (q:R (SE lo (hi-lo).toNat) H):wpAny (model X.prog X.w) X.A (pyIter (.ref s.heap.objs.size)) (Y3 X ad σ tg R) E {s with heap:=s.heap.push {cls:=.type "range",data:=.fields #[.int lo t,.int hi u,.int 1 v]},toks:=tk}:=by
 refine wpAny_pyIter_range (IsRange.new ..) (small_one h1 h2 h3 h4) ?_;have I1:AW X ad σ H {s with heap:=s.heap.push {cls:=.type "range",data:=.fields #[.int lo t,.int hi u,.int 1 v]},toks:=tk}:=I.kept λb o e=>ZN _ e
 refine⟨(s.heap.push {cls:=.type "range",data:=.fields #[.int lo t,.int hi u,.int 1 v]}).objs.size,[(s.heap.push {cls:=.type "range",data:=.fields #[.int lo t,.int hi u,.int 1 v]}).objs.size],_,_,H,rfl,
  I1.kept (t':=tk) λb o e=>ZN _ e,Ll _ lo (hi-lo).toNat,?_,λb hb=>?_,q⟩
 ·have e1:lo+((0:Nat):Int)*1=lo:=by simp
  have e2:(((hi-lo).toNat:Nat):Int)-((0:Nat):Int)=Builtin.Range.rangeSize lo hi 1:=by rw[rangeSize_one];split<;>lia
  show IsRangeIter _ _ (lo+((0:Nat):Int)*1) ((((hi-lo).toNat:Nat):Int)-((0:Nat):Int)) 1;rw[e1,e2];exact ZU _ rfl
 ·have e:b=(s.heap.push {cls:=.type "range",data:=.fields #[.int lo t,.int hi u,.int 1 v]}).objs.size:=by simpa using hb
  subst e;exact I1.fpOk (ZR _) (I1.hok.fresh (ZR _))
def VL(ta:TA):TI:=λσ H R=>ta σ H λvs H1=>∃j:Int,vs=[.int j]/\-(2^62)<=j/\j<2^62/\R (SE 0 j.toNat) H1
def VM(ta:TA):TI:=λσ H R=>ta σ H λvs H1=>∃i j:Int,vs=[.int i,.int j]/\(-(2^62)<=i/\i<2^62/\-(2^62)<=j/\j<2^62)/\R (SE i (j-i).toNat) H1
theorem Aq{a:Expr}{p pos:Pos}(hg:Gl X "range")(hm:X.mg "range"=none)(ha:PA X [a] ta)(hs:starEach [a] X.env=[(false,eval a X.env)]:=by rfl):PI X tg (.Call (.Name "range" p) [a] [] pos) (VL ta):=by
 intro ad s σ H R I h;refine Call_ (CM I hg hm boot_range (Zo (A9 (ha pos ad s σ H _ I h) λus s1 z9=>?_) hs rfl));obtain⟨vs,H1,I1,r1,q1⟩:=z9;refine byG λGq hGq=>?_;obtain⟨j,e,q1,q2,q⟩:=q1;refine hGq ?_;clear hGq Gq;subst e;cases r1 with
 |cons r rr =>
  cases rr;obtain⟨t,rfl⟩:=r;exact call_range_1 (KZ I1 (by lia) (by lia) q1 q2 (by simpa using q))
theorem No{a b:Expr}{p pos:Pos}(hg:Gl X "range")(hm:X.mg "range"=none)(ha:PA X [a,b] ta)(hs:starEach [a,b] X.env=[(false,eval a X.env),(false,eval b X.env)]:=by rfl)(hs2:starEach [b] X.env=[(false,eval b X.env)]:=by rfl):
  PI X tg (.Call (.Name "range" p) [a,b] [] pos) (VM ta):=by
 intro ad s σ H R I h;refine Call_ (CM I hg hm boot_range (Zo (A9 (ha pos ad s σ H _ I h) λus s1 ⟨vs,H1,I1,r1,q1⟩=>?_) (by rw[hs,hs2]) (by rw[hs2];rfl)));refine byG λGq hGq=>?_;obtain⟨i,j,e,⟨q1,q2,q3,q4⟩,q⟩:=q1;refine hGq ?_;clear hGq Gq;subst e;cases r1 with
 |cons r rr =>
  cases rr with
  |cons r' rr =>
   cases rr;obtain⟨t,rfl⟩:=r;obtain⟨t',rfl⟩:=r';exact call_range_2 (KZ I1 q1 q2 q3 q4 q)
def YJ(wi:TI)(g:TG)(tb:TS):TS:=λD σ H=>wi σ H λJ H1=>∃W:Nat->Nat->St->Hp->Prop,(∃m,W 0 m σ H1)/\∀i m σ H,W i m σ H ->
 (J.stop i H/\D.nx σ H)\/(J.go i H/\∃N:St->Hp->Prop,(∀σ' H',N σ' H'->∃m',m'<m/\W (i+1) m' σ' H')/\∀x H',J.yld i H x H'->g x σ H' λσ2 H2=>tb {D with nx:=N,ct:=N,bk:=D.nx} σ2 H2)
noncomputable def Gc(fp:List qM)(h:Heap):List (qM×Obj):=fp.filterMap λb=>(h.get? b).map λo=>(b,o)
theorem DI{o:Obj}(hb:b∈fp)(e:h.get? b=some o):(b,o)∈Gc fp h:=ah.mpr ⟨b,hb,by rw[e];rfl⟩
theorem Np{p:qM×Obj}(hp:p∈Gc fp h):p.1∈fp/\h.get? p.1=some p.2:=by
 obtain⟨b,hb,e⟩:=ah.mp hp;cases q:h.get? b with
 |none=>rw[q]at e;cases e
 |some o =>
  rw[q]at e;have e':(b,o)=p:=Option.some.inj e;subst e';exact⟨hb,q⟩
theorem AW.pinned(I:AW X ad σ H s)(hf:∀b∈fp,F9 X ad H b)(ho:∀b∈fp,∃o,s.heap.get? b=some o/\∀v,o.data≠.cell v):AW X (ad++Gc fp s.heap) σ H s:=
 I.pins_of λp hp=>(aQ.mp hp).elim (λz=>I.pin p (Zy _ z)) λz=>by obtain⟨hb,e⟩:=Np z;obtain⟨f0,f1,f2,_⟩:=hf p.1 hb;obtain⟨o,e',d⟩:=ho p.1 hb;rw[e]at e';cases e';exact⟨e,f0,f1,f2,d⟩
theorem AW.unpinned{pl:List (qM×Obj)}(I:AW X (ad++pl) σ H s):AW X ad σ H s:=I.pins_of λp hp=>I.pin p (Zy _ (b9 _ hp))
theorem BB{iter:Expr}{wi:TI}{g:TG}{tb:TS}{pos:Pos}(hp:PassesOwn (model X.prog X.w) X.A X.env X.xe)(hc:X.calm=true)(hi:PI X tg iter wi)(hg:PG X tg g)(hb:F8 X body tb)
  (hs:∀x,foldedSetIterable iter X.env x=pure x:=by intro _;rfl):PS X (.For tg iter body [] pos) (YJ wi g tb):=by
 intro ad s σ H D I h;refine wpAny_For (A9 (hi ad s σ H _ I h) λv s1 h1=>A9 h1 λitv s2 h2=>?_) hs;refine byG λGq hGq=>?_;obtain⟨it,fp,tn,J,H2,e,I2,T,st2,f2,W,⟨m0,w0⟩,turn⟩:=h2;refine hGq ?_;clear hGq Gq;subst e;have stat:∀{H':Hp},(∀b∈fp,H' b=none)->∀b∈fp,F9 X ad H' b:=λhn b hb=>⟨hn b hb,(f2 b hb).2⟩
 refine codeAny_forLoop_any (λn s'=>∃i σ' H',AW X ad σ' H' s'/\tn i s'.heap/\(∀b∈fp,H' b=none)/\W i n σ' H') ?_ m0 ⟨0,σ,H2,I2,st2,λb hb=>(f2 b hb).1,w0⟩;intro n s3 hRq;refine byG λGq hGq=>?_;obtain⟨i,σ3,H3,I3,st3,fr3,w3⟩:=hRq;refine hGq ?_;clear hGq Gq;rcases turn i n σ3 H3 w3 with⟨stop,qn⟩|⟨go,N,hN,step⟩
 ·refine wpAny_passesOwn hp (A9 (T.done X rfl rfl rfl hc i ad s3 σ3 H3 X.xe I3 (stat fr3) st3 stop) λr s4 z9=>?_);obtain⟨hr,I4⟩:=z9;subst hr;exact wpAny_execs_nil ⟨σ3,H3,I4,qn⟩
 ·refine wpAny_passesOwn hp (A9 (T.item X rfl rfl rfl hc i ad s3 σ3 H3 X.xe I3 (stat fr3) st3 go) λr s4 z9=>?_);obtain⟨u,hr,h4⟩:=z9;subst hr;refine wpAny_passesOwn hp (A9 h4 λ_ s5 z9=>?_);obtain⟨x,H5,I5,r5,y5,st5,fr5⟩:=z9;have I5':=I5.pinned (stat fr5) (T.obj _ _ st5);refine wpAny_passesOwn hp (A9 (hg _ s5 σ3 H5 x u _ I5' r5 (step x H5 y5)) λ_ s6 z9=>?_);obtain⟨σ6,H6,I6,q6⟩:=z9;refine wpAny_passesOwn hp (A9 (hb _ s6 σ6 H6 _ I6 q6) λf s7 q7=>?_);have again:∀{σ7:St} {H7:Hp},AW X (ad++Gc fp s5.heap) σ7 H7 s7->N σ7 H7->∃m,m<n/\∃i σ' H',AW X ad σ' H' s7/\tn i s7.heap/\(∀b∈fp,H' b=none)/\W i m σ' H':=λ{σ7 H7} I7 n7=>by obtain⟨m',hm,w7⟩:=hN σ7 H7 n7;refine⟨m',hm,i+1,σ7,H7,I7.unpinned,T.keep _ _ _ st5 λb hb o e=>(I7.pin (b,o) (Zy _ (Zy _ (DI hb e)))).1,λb hb=>?_,w7⟩;obtain⟨o,e,d⟩:=T.obj _ _ st5 b hb;exact (I7.pin (b,o) (Zy _ (Zy _ (DI hb e)))).2.1
  cases f with
  |next=>obtain⟨σ7,H7,I7,n7⟩:=q7;exact again I7 n7
  |cont=>obtain⟨σ7,H7,I7,n7⟩:=q7;exact again I7 n7
  |brk=>obtain⟨σ7,H7,I7,q7⟩:=q7;exact⟨σ7,H7,I7.unpinned,q7⟩
  |ret v=>obtain⟨x7,σ7,H7,I7,r7,q7⟩:=q7;exact⟨x7,σ7,H7,I7.unpinned,r7,q7⟩
theorem C6{K:qQ}{g:TG}{tb:TS}(Pv:Nat->St->Hp->Prop)(h0:Pv 0 σ H)(hl:∀i σ H,i<=xs.length->Pv i σ H->Ac K H a xs)
  (hs:∀i x σ H,xs[i]?=some x->Pv i σ H->g x σ H λσ2 H2=>tb {D with nx:=Pv (i+1),ct:=Pv (i+1),bk:=D.nx} σ2 H2) (hd:∀σ H,Pv xs.length σ H->D.nx σ H):
  ∃W:Nat->Nat->St->Hp->Prop,(∃m,W 0 m σ H)/\∀i m σ H,W i m σ H ->
   ((U5 K a).stop i H/\D.nx σ H)\/((U5 K a).go i H/\∃N:St->Hp->Prop,(∀σ' H',N σ' H'->∃m',m'<m/\W (i+1) m' σ' H')/\∀x H',(U5 K a).yld i H x H'->g x σ H' λσ2 H2=>tb {D with nx:=N,ct:=N,bk:=D.nx} σ2 H2):=by
 refine⟨λi m σ H=>m=xs.length-i/\i<=xs.length/\Pv i σ H,⟨xs.length,by simp,Nat.zero_le _,h0⟩,?_⟩;rintro i m σ H ⟨rfl,hi,p⟩;have q:=hl i σ H hi p
 by_cases hlt:i<xs.length
 ·refine .inr ⟨⟨xs,xs[i],q,by simp[hlt]⟩,Pv (i+1),λσ' H' p'=>⟨xs.length-(i+1),by lia,rfl,hlt,p'⟩,λx H' y=>?_⟩;obtain⟨e,y⟩:=y;subst e;exact hs i x σ _ (y xs q) p
 ·have e:i=xs.length:=by lia
  subst e;exact .inl ⟨⟨xs,q,ZR _⟩,hd σ H p⟩
theorem Q0{K:qQ}{g:TG}{tb:TS}(Pv:Nat->St->Hp->Prop)(h0:Pv 0 σ H)(hl:∀i σ H,i<=xs.length->Pv i σ H->Ao K H a xs)
  (hs:∀i x σ H,xs[i]?=some x->Pv i σ H->g x σ H λσ2 H2=>tb {D with nx:=Pv (i+1),ct:=Pv (i+1),bk:=D.nx} σ2 H2) (hd:∀σ H,Pv xs.length σ H->D.nx σ H):
  ∃W:Nat->Nat->St->Hp->Prop,(∃m,W 0 m σ H)/\∀i m σ H,W i m σ H ->
   ((U6 K a).stop i H/\D.nx σ H)\/((U6 K a).go i H/\∃N:St->Hp->Prop,(∀σ' H',N σ' H'->∃m',m'<m/\W (i+1) m' σ' H')/\∀x H',(U6 K a).yld i H x H'->g x σ H' λσ2 H2=>tb {D with nx:=N,ct:=N,bk:=D.nx} σ2 H2):=by
 refine⟨λi m σ H=>m=xs.length-i/\i<=xs.length/\Pv i σ H,⟨xs.length,by simp,Nat.zero_le _,h0⟩,?_⟩;rintro i m σ H ⟨rfl,hi,p⟩;have q:=hl i σ H hi p
 by_cases hlt:i<xs.length
 ·refine .inr ⟨⟨xs,xs[i],q,by simp[hlt]⟩,Pv (i+1),λσ' H' p'=>⟨xs.length-(i+1),by lia,rfl,hlt,p'⟩,λx H' y=>?_⟩;obtain⟨e,y⟩:=y;subst e;exact hs i x σ _ (y xs q) p
 ·have e:i=xs.length:=by lia
  subst e;exact .inl ⟨⟨xs,q,ZR _⟩,hd σ H p⟩
theorem A7{g:TG}{tb:TS}(Pv:Nat->St->Hp->Prop)(h0:Pv 0 σ H)
  (hs:∀i σ H,i<n->Pv i σ H->g (.int (lo+i)) σ H λσ2 H2=>tb {D with nx:=Pv (i+1),ct:=Pv (i+1),bk:=D.nx} σ2 H2) (hd:∀σ H,Pv n σ H->D.nx σ H):
  ∃W:Nat->Nat->St->Hp->Prop,(∃m,W 0 m σ H)/\∀i m σ H,W i m σ H ->
   ((SE lo n).stop i H/\D.nx σ H)\/((SE lo n).go i H/\∃N:St->Hp->Prop,(∀σ' H',N σ' H'->∃m',m'<m/\W (i+1) m' σ' H')/\∀x H',(SE lo n).yld i H x H'->g x σ H' λσ2 H2=>tb {D with nx:=N,ct:=N,bk:=D.nx} σ2 H2):=by
 refine⟨λi m σ H=>m=n-i/\i<=n/\Pv i σ H,⟨n,by simp,Nat.zero_le _,h0⟩,?_⟩;rintro i m σ H ⟨rfl,hi,p⟩
 by_cases hlt:i<n
 ·refine .inr ⟨hlt,Pv (i+1),λσ' H' p'=>⟨n-(i+1),by lia,rfl,hlt,p'⟩,λx H' y=>?_⟩;obtain⟨e,y⟩:=y;subst e y;exact hs i σ _ hlt p
 ·have e:i=n:=by lia
  subst e;exact .inl ⟨ZR _,hd σ H p⟩
theorem Ee{c:TT}{tb:TS}(Pv:St->Hp->Prop)(μ:St->Hp->Nat)(h0:Pv σ H)
  (hs:∀σ H,Pv σ H->c σ H λb H1=>if b=true then tb {D with nx:=λσ' H'=>Pv σ' H'/\μ σ' H'<μ σ H,ct:=λσ' H'=>Pv σ' H'/\μ σ' H'<μ σ H,bk:=D.nx} σ H1 else D.nx σ H1)
  (mono:∀σ H Q Q',(∀b H1,Q b H1->Q' b H1)->c σ H Q->c σ H Q'):Oo c tb D σ H:=by
 refine⟨λm σ H=>m=μ σ H/\Pv σ H,⟨_,rfl,h0⟩,?_⟩;rintro m σ H ⟨rfl,p⟩;refine mono σ H _ _ (λb H1 q=>?_) (hs σ H p);cases b with
 |true=>exact⟨_,λσ' H' ⟨p',l⟩=>⟨_,l,rfl,p'⟩,q⟩
 |false=>exact q
abbrev R2:=V->V->Hp->VK->Prop
def FQ(X:Cx)(f:qL->qL->Sem qL)(r:R2):Prop:=
 ∀(ad:List (qM×Obj)) (s:qN) (σ:St) (H:Hp) (x y:V) (v u:qL) (Q:VK),AW X ad σ H s->Al x v->Al y u->r x y H Q ->
  wpAny (model X.prog X.w) X.A (f v u) (EP X ad σ Q) X.xe s
def YK(X:Cx)(f:qL->Sem qL)(r:V->Hp->VK->Prop):Prop:=
 ∀(ad:List (qM×Obj)) (s:qN) (σ:St) (H:Hp) (x:V) (v:qL) (Q:VK),AW X ad σ H s->Al x v->r x H Q ->
  wpAny (model X.prog X.w) X.A (f v) (EP X ad σ Q) X.xe s
def CH(X:Cx)(f:qL)(r:List V->Hp->VK->Prop):Prop:=
 ∀(ad:List (qM×Obj)) (s:qN) (σ:St) (H:Hp) (xs:List V) (us:List qL) (Q:VK),AW X ad σ H s->Ag xs us->r xs H Q ->
  wpAny (model X.prog X.w) X.A (call f us) (EP X ad σ Q) X.xe s
def VN(r:R2)(ta tb:TE):TE:=λσ H Q=>ta σ H λx H1=>tb σ H1 λy H2=>r x y H2 Q
def Y4(r:V->Hp->VK->Prop)(ta:TE):TE:=λσ H Q=>ta σ H λx H1=>r x H1 Q
def rI(C:Int->Int->Prop)(g:Int->Int->V):R2:=λx y H Q=>∃i j,x=.int i/\y=.int j/\C i j/\Q (g i j) H
def Q3(g:Int->Int->V):R2:=λx y H Q=>∃i j,x=.int i/\y=.int j/\Q (g i j) H
def rU(g:Int->V):V->Hp->VK->Prop:=λx H Q=>∃i,x=.int i/\Q (g i) H
variable{f:qL->qL->Sem qL}
section
variable{a b c:Expr}{ta tb tc:TE}{pos:Pos}
theorem S6(ha:PE X a ta)(hb:PE X b tb){R:V->V->Hp->Prop}(I:AW X ad σ H s)
  (h:ta σ H λx H1=>tb σ H1 λy H2=>R x y H2) {Q:qL->qN->Prop} {f:qL->qL->Sem qL}
  (hf:∀v u s2 x y H2,AW X ad σ H2 s2->Al x v->Al y u->R x y H2->wpAny (model X.prog X.w) X.A (f v u) Q X.xe s2):
  wpAny (model X.prog X.w) X.A (eval a X.env) (λv s₁=>wpAny (model X.prog X.w) X.A (eval b X.env) (λu s₂=>wpAny (model X.prog X.w) X.A (f v u) Q X.xe s₂) X.xe s₁) X.xe s:=by
 refine A9 (ha ad s σ H _ I h) λv s1 z9=>?_;obtain⟨x,H1,I1,r1,q1⟩:=z9;refine A9 (hb ad s1 σ H1 _ I1 q1) λu s2 z9=>?_;obtain⟨y,H2,I2,r2,q2⟩:=z9;exact hf v u s2 x y H2 I2 r1 r2 q2
theorem AK{op:Operator}{r:R2}(ho:FQ X (binaryOp op) r)(ha:PE X a ta)(hb:PE X b tb):PE X (.BinOp a op b pos) (VN r ta tb):=by intro ad s σ H Q I h;exact wpAny_BinOp (S6 ha hb I h λv u s2 x y H2 I2 rx ry q=>ho ad s2 σ H2 x y v u Q I2 rx ry q)
theorem Ka{op:UnaryOp}{r:V->Hp->VK->Prop}(ho:YK X (unaryOp op) r)(ha:PE X a ta):PE X (.UnaryOp op a pos) (Y4 r ta):=by intro ad s σ H Q I h;exact UnaryOp_ (A9 (ha ad s σ H _ I h) λv s1 ⟨x,H1,I1,r1,q1⟩=>ho ad s1 σ H1 x v Q I1 r1 q1)
theorem X5{C:Int->Int->Prop}{g:Int->Int->Int}
  (rule:∀(i j:Int) (t u:Tok) (s:qN) (Q:qL->qN->Prop) (E:qL->qN->Prop),C i j->Q (.int (g i j) s.toks) {s with toks:=s.toks+1}->wpAny (model X.prog X.w) X.A (f (.int i t) (.int j u)) Q E s):
  FQ X f (rI C λi j=>.int (g i j)):=by
 intro ad s σ H x y v u Q I rx ry h;refine byG λGq hGq=>?_;obtain⟨i,j,rfl,rfl,hc,q⟩:=h;refine hGq ?_;clear hGq Gq;obtain⟨t,rfl⟩:=rx;obtain⟨t',rfl⟩:=ry;exact rule i j t t' s _ _ hc ⟨.int (g i j),H,I.tok _,⟨_,rfl⟩,q⟩
theorem VO{g:Int->Int->Int}
  (rule:∀(i j:Int) (t u:Tok) (s:qN) (Q:qL->qN->Prop) (E:qL->qN->Prop),Q (.int (g i j) s.toks) {s with toks:=s.toks+1}->wpAny (model X.prog X.w) X.A (f (.int i t) (.int j u)) Q E s):
  FQ X f (Q3 λi j=>.int (g i j)):=by
 intro ad s σ H x y v u Q I rx ry h;refine byG λGq hGq=>?_;obtain⟨i,j,rfl,rfl,q⟩:=h;refine hGq ?_;clear hGq Gq;obtain⟨t,rfl⟩:=rx;obtain⟨t',rfl⟩:=ry;exact rule i j t t' s _ _ ⟨.int (g i j),H,I.tok _,⟨_,rfl⟩,q⟩
theorem Q4{g:Int->Int->Bool}
  (rule:∀(i j:Int) (t u:Tok) (s:qN) (Q:qL->qN->Prop) (E:qL->qN->Prop),Q (.bool (g i j)) s->wpAny (model X.prog X.w) X.A (f (.int i t) (.int j u)) Q E s):
  FQ X f (Q3 λi j=>.bl (g i j)):=by
 intro ad s σ H x y v u Q I rx ry h;obtain⟨i,j,rfl,rfl,q⟩:=h;obtain⟨t,rfl⟩:=rx;obtain⟨t',rfl⟩:=ry;exact rule i j t t' s _ _ ⟨.bl (g i j),H,I,rfl,q⟩
def S7(i j:Int):Prop:=0<j/\j<1073741824
def S8(i j:Int):Prop:=0<=j/\j<=1000000/\i.natAbs<2^64
def Op(i j:Int):Prop:=(-(2^64)<i/\i<2^64)\/(-(2^64)<j/\j<2^64)
theorem Op.ok{i j:Int}(h:Op i j):IntMulOk i j:=by
 rcases h with⟨h1,h2⟩|⟨h1,h2⟩
 ·exact .of_left (intBits_le_64 h1 h2)
 ·exact .of_right (intBits_le_64 h1 h2)
theorem Aw:FQ X (binaryOp .Add) (Q3 λi j=>.int (i+j)):=VO λ_ _ _ _ _ _ _ q=>add_int q
theorem BO:FQ X (binaryOp .Sub) (Q3 λi j=>.int (i-j)):=VO λ_ _ _ _ _ _ _ q=>sub_int q
theorem Be:FQ X (binaryOp .Mult) (rI Op λi j=>.int (i*j)):=X5 λ_ _ _ _ _ _ _ hc q=>mul_int q hc.ok
theorem Bw:FQ X (binaryOp .FloorDiv) (rI S7 λi j=>.int (i/j)):=X5 λi j _ _ _ _ _ hc q=>by have h1:(0:Int)<j:=hc.1;have h2:j<1073741824:=hc.2;exact floordiv_int (by lia) (by rw[Int.fdiv_eq_ediv_of_nonneg i (by lia)];exact q) (.inl (PyProof.noPylong_small (by lia)))
theorem At:FQ X (binaryOp .Mod) (rI (λ_ j=>0<j) λi j=>.int (i%j)):=X5 λi j _ _ _ _ _ hc q=>by have h1:(0:Int)<j:=hc;exact mod_int' (by lia) (by rw[Int.fmod_eq_emod_of_nonneg i (by lia)];exact q)
theorem JH:FQ X (binaryOp .Pow) (rI S8 λi j=>.int (i^j.toNat)):=X5 λ_ _ _ _ _ _ _ hc q=>pow_int_small hc.1 hc.2.1 hc.2.2 q
theorem ZD{f:qL->Sem qL}{g:Int->Int}
  (rule:∀(i:Int) (t:Tok) (s:qN) (Q:qL->qN->Prop) (E:qL->qN->Prop),Q (.int (g i) s.toks) {s with toks:=s.toks+1}->wpAny (model X.prog X.w) X.A (f (.int i t)) Q E s):
  YK X f (rU λi=>.int (g i)):=by
 intro ad s σ H x v Q I rx h;obtain⟨i,rfl,q⟩:=h;obtain⟨t,rfl⟩:=rx;exact rule i t s _ _ ⟨.int (g i),H,I.tok _,⟨_,rfl⟩,q⟩
theorem Gd:YK X (unaryOp .USub) (rU λi=>.int (-i)):=ZD λ_ _ _ _ _ q=>neg_int q
end
noncomputable def Nq:V->V->Bool
 |.non,.non=>true|.non,.int _=>true|.int _,.non=>true|.non,.bl _=>true|.bl _,.non=>true|.non,.str _=>true|.str _,.non=>true
 |.int _,.int _=>true|.bl _,.bl _=>true|.str _,.str _=>true|.byt _,.byt _=>true
 |.int _,.str _=>true|.str _,.int _=>true|.bl _,.str _=>true|.str _,.bl _=>true
 |_,_=>false
def Y5:R2:=λx y H Q=>Nq x y=true/\Q (.bl (decide (x=y))) H
def Y6:R2:=λx y H Q=>Nq x y=true/\Q (.bl (!decide (x=y))) H
theorem Mr{i j:Int}:decide (V.int i=V.int j)=(i==j):=by rw[al];simp
theorem Oq{i j:Bool}:decide (V.bl i=V.bl j)=(i==j):=by rw[al];simp
theorem Ms{i j:Str}:decide (V.str i=V.str j)=(i==j):=by rw[al];simp
theorem Mt{i j:Array UInt8}:decide (V.byt i=V.byt j)=(i.toList==j.toList):=by rw[al];cases i;cases j;simp
section
variable{a b c:Expr}{ta tb tc:TE}{pos:Pos}
theorem Au{Q:VK}{k k':Bool}(I:AW X ad σ H s)(q:Q (.bl k) H)(e:k=k'):EP X ad σ Q (.bool k') s:=by subst e;exact⟨.bl k,H,I,rfl,q⟩
theorem BY:FQ X (compareOp .Eq) Y5:=by
 intro ad s σ H x y v u Q I rx ry h;obtain⟨hs,q⟩:=h;cases x with
 |non =>
  cases rx;cases y with
  |non=>cases ry;exact PySem.EqNone.eq_none_none (Au I q (by simp))
  |bl j=>cases ry;exact PySem.EqNone.eq_none_bool (Au I q (by simp))
  |int j=>obtain⟨t',rfl⟩:=ry;exact PySem.EqNone.eq_none_int (Au I q (by simp))
  |str j=>obtain⟨t',rfl⟩:=ry;exact PySem.EqNone.eq_none_str (Au I q (by simp))
  |_=>exact qE (show false=true from hs) ZY
 |bl i =>
  cases rx;cases y with
  |non=>cases ry;exact PySem.EqNone.eq_bool_none (Au I q (by simp))
  |bl j=>cases ry;exact eq_bool (Au I q Oq)
  |str j=>obtain⟨t',rfl⟩:=ry;exact PySem.EqMixed.eq_bool_str (Au I q (by simp))
  |_=>exact qE (show false=true from hs) ZY
 |int i =>
  obtain⟨t,rfl⟩:=rx;cases y with
  |non=>cases ry;exact PySem.EqNone.eq_int_none (Au I q (by simp))
  |int j=>obtain⟨t',rfl⟩:=ry;exact eq_int (Au I q Mr)
  |str j=>obtain⟨t',rfl⟩:=ry;exact PySem.EqMixed.eq_int_str (Au I q (by simp))
  |_=>exact qE (show false=true from hs) ZY
 |str i =>
  obtain⟨t,rfl⟩:=rx;cases y with
  |non=>cases ry;exact PySem.EqNone.eq_str_none (Au I q (by simp))
  |bl j=>cases ry;exact PySem.EqMixed.eq_str_bool (Au I q (by simp))
  |int j=>obtain⟨t',rfl⟩:=ry;exact PySem.EqMixed.eq_str_int (Au I q (by simp))
  |str j=>obtain⟨t',rfl⟩:=ry;exact eq_str (Au I q Ms)
  |_=>exact qE (show false=true from hs) ZY
 |byt i =>
  obtain⟨t,rfl⟩:=rx;cases y with
  |byt j=>obtain⟨t',rfl⟩:=ry;exact PySem.W.eq_bytes (Au I q Mt)
  |_=>exact qE (show false=true from hs) ZY
 |_=>cases y<;>exact qE (show false=true from hs) ZY
theorem Ef:FQ X (compareOp .NotEq) Y6:=by
 intro ad s σ H x y v u Q I rx ry h;obtain⟨hs,q⟩:=h;cases x with
 |non =>
  cases rx;cases y with
  |non=>cases ry;exact PySem.EqNone.ne_none_none (Au I q (by simp))
  |bl j=>cases ry;exact PySem.EqNone.ne_none_bool (Au I q (by simp))
  |int j=>obtain⟨t',rfl⟩:=ry;exact PySem.EqNone.ne_none_int (Au I q (by simp))
  |str j=>obtain⟨t',rfl⟩:=ry;exact PySem.EqNone.ne_none_str (Au I q (by simp))
  |_=>exact qE (show false=true from hs) ZY
 |bl i =>
  cases rx;cases y with
  |non=>cases ry;exact PySem.EqNone.ne_bool_none (Au I q (by simp))
  |bl j=>cases ry;exact ne_bool (Au I q (qK not Oq))
  |str j=>obtain⟨t',rfl⟩:=ry;exact PySem.EqMixed.ne_bool_str (Au I q (by simp))
  |_=>exact qE (show false=true from hs) ZY
 |int i =>
  obtain⟨t,rfl⟩:=rx;cases y with
  |non=>cases ry;exact PySem.EqNone.ne_int_none (Au I q (by simp))
  |int j=>obtain⟨t',rfl⟩:=ry;exact ne_int (Au I q (qK not Mr))
  |str j=>obtain⟨t',rfl⟩:=ry;exact PySem.EqMixed.ne_int_str (Au I q (by simp))
  |_=>exact qE (show false=true from hs) ZY
 |str i =>
  obtain⟨t,rfl⟩:=rx;cases y with
  |non=>cases ry;exact PySem.EqNone.ne_str_none (Au I q (by simp))
  |bl j=>cases ry;exact PySem.EqMixed.ne_str_bool (Au I q (by simp))
  |int j=>obtain⟨t',rfl⟩:=ry;exact PySem.EqMixed.ne_str_int (Au I q (by simp))
  |str j=>obtain⟨t',rfl⟩:=ry;exact ne_str (Au I q (qK not Ms))
  |_=>exact qE (show false=true from hs) ZY
 |byt i =>
  obtain⟨t,rfl⟩:=rx;cases y with
  |byt j=>obtain⟨t',rfl⟩:=ry;exact PySem.W.ne_bytes (Au I q (qK not Mt))
  |_=>exact qE (show false=true from hs) ZY
 |_=>cases y<;>exact qE (show false=true from hs) ZY
theorem Dc:FQ X (compareOp .Lt) (Q3 λi j=>.bl (decide (i<j))):=Q4 λ_ _ _ _ _ _ _ q=>lt_int q
theorem SH:FQ X (compareOp .LtE) (Q3 λi j=>.bl (decide (i<=j))):=Q4 λ_ _ _ _ _ _ _ q=>le_int q
theorem Ge:FQ X (compareOp .Gt) (Q3 λi j=>.bl (decide (j<i))):=Q4 λ_ _ _ _ _ _ _ q=>gt_int q
theorem SI:FQ X (compareOp .GtE) (Q3 λi j=>.bl (decide (j<=i))):=Q4 λ_ _ _ _ _ _ _ q=>ge_int q
theorem II:FQ X (compareOp .In) (λx y H Q=>∃i j,x=.str i/\y=.str j/\Q (.bl (!(Builtin.Str.occurrences j i 0 j.length 1).isEmpty)) H):=by intro ad s σ H x y v u Q I rx ry h;obtain⟨i,j,rfl,rfl,q⟩:=h;obtain⟨t,rfl⟩:=rx;obtain⟨t',rfl⟩:=ry;exact in_str (Au I q rfl)
theorem Os:FQ X (compareOp .Is) (λx y H Q=>y=.non/\Q (.bl (decide (x=.non))) H):=by
 intro ad s σ H x y v u Q I rx ry h;obtain⟨rfl,q⟩:=h;cases ry;refine is_none_gen (Au I q ?_)
 cases x<;>first
  | (cases rx;rfl)
  | (obtain⟨t,rfl⟩:=rx;rfl)
theorem Q5:FQ X (compareOp .IsNot) (λx y H Q=>y=.non/\Q (.bl (!decide (x=.non))) H):=by
 intro ad s σ H x y v u Q I rx ry h;obtain⟨rfl,q⟩:=h;cases ry;refine isnot_none_gen (Au I q ?_)
 cases x<;>first
  | (cases rx;rfl)
  | (obtain⟨t,rfl⟩:=rx;rfl)
theorem AY(b:Expr)(h:op≠.In:=by decide)(h2:op≠.NotIn:=by decide):behindInMarks op b=false:=by
 have e:(op==.In||op==.NotIn)=false:=by rw[beq_eq_false_iff_ne.mpr h,beq_eq_false_iff_ne.mpr h2];rfl
 cases b with
 |Set elts k p=>show (k==0&&(op==.In||op==.NotIn)&&_)=false;rw[e,Bool.and_false];rfl
 |_=>rfl
theorem Bx{r:R2}(ho:FQ X (compareOp op) r)(ha:PE X a ta)(hb:PE X b tb)(hm:behindInMarks op b=false):PE X (.Compare a [op] [b] pos) (VN r ta tb):=by intro ad s σ H Q I h;exact wpAny_Compare1 (S6 ha hb I h λv u s2 x y H2 I2 rx ry q=>ho ad s2 σ H2 x y v u Q I2 rx ry q) hm
def SJ(t:TE):TT:=λσ H Q=>t σ H λx H'=>∃k,x=.bl k/\Q k H'
theorem AU{r:R2}(ho:FQ X (compareOp op) r)(ha:PE X a ta)(hb:PE X b tb)(hm:behindInMarks op b=false):PT X (.Compare a [op] [b] pos) (SJ (VN r ta tb)):=by
 intro ad s σ H Q I h
 refine wpAny_isTrue_Compare1 (A9 (ha ad s σ H _ I h) λv s1 ⟨x,H1,I1,r1,q1⟩=>A9 (hb ad s1 σ H1 _ I1 q1) λu s2 ⟨y,H2,I2,r2,q2⟩ =>
  A9 (ho ad s2 σ H2 x y v u _ I2 r1 r2 q2) λc s3 ⟨z,H3,I3,r3,k,e,q3⟩=>?_) hm
 subst e;cases r3;exact wpAny_truthy_bool ⟨H3,I3,q3⟩
theorem DJ:(sizeLine:Nat)<2^63:=by rw[sizeLine_eq];decide
theorem Ab:FQ X (binaryOp .Add) (λx y H Q=>∃i j,x=.str i/\y=.str j/\i.length+j.length<=sizeLine/\Q (.str (i++j)) H):=by intro ad s σ H x y v u Q I rx ry h;refine byG λGq hGq=>?_;obtain⟨i,j,rfl,rfl,hz,q⟩:=h;refine hGq ?_;clear hGq Gq;obtain⟨t,rfl⟩:=rx;obtain⟨t',rfl⟩:=ry;exact add_str (λt' tk=>⟨.str (i++j),H,I.tok _,⟨_,rfl⟩,q⟩) hz
theorem CQ{x:V}(r:Ag [x] us):∃u,us=[u]/\Al x u:=by
 cases r with
 |cons r1 r2=>cases r2;exact⟨_,rfl,r1⟩
theorem Ot{x:V}(r:Ag [x,y] us):∃u w',us=[u,w']/\Al x u/\Al y w':=by
 cases r with
 |cons r1 r2 =>
  cases r2 with
  |cons r3 r4=>cases r4;exact⟨_,_,rfl,r1,r3⟩
theorem Nr(hc:X.calm=true):CH X (.builtin "min") (λxs H Q=>∃i j,xs=[.int i,.int j]/\Q (.int (if j<i then j else i)) H):=by
 intro ad s σ H xs us Q I r h;obtain⟨i,j,rfl,q⟩:=h;obtain⟨u,w',rfl,⟨t,rfl⟩,⟨t',rfl⟩⟩:=Ot r;refine min_two_ints (I.ok.hd hc) λh' tk k=>⟨_,H,I.kept k,?_,q⟩
 by_cases hj:j<i
 ·rw[qD hj,qD hj];exact⟨_,rfl⟩
 ·rw[qC hj,qC hj];exact⟨_,rfl⟩
theorem An:CH X (.type "str") (λxs H Q=>∃i,xs=[.int i]/\i.natAbs.log2<1920/\Q (.str (toString i)) H):=by intro ad s σ H xs us Q I r h;obtain⟨i,rfl,hz,q⟩:=h;obtain⟨u,rfl,t,rfl⟩:=CQ r;exact PySem.P.str_of_int hz ⟨.str _,H,I.tok _,⟨_,rfl⟩,q⟩
end
structure Ln(h:Heap)(x dx C:qM)(mA:Str->Option qL):Prop where
 obj:h.get? x=some (PySem.W.instObj C dx)
 ns:h.Ns1 dx mA
 ne:dx≠x
variable{dx:qM}
theorem Nt{mA:Str->Option qL}(n:h.Ns1 dx mA):∃od,h.get? dx=some od/\∀name,PySem.W.lookIn name od=some (mA name):=by
 refine byG λGq hGq=>?_;obtain⟨o,es,ep,ho,hd,hk,_,hm⟩:=n;refine hGq ?_;clear hGq Gq;refine⟨o,ho,λname=>?_⟩;have e:=hm name;unfold nsFind findBy at e;rw[<-Array.find?_toList]at e;unfold PySem.W.lookIn;rw[hd];dsimp only;split
 ·rename_i y q
  rw[q]at e;exact qK some e
 ·rename_i q
  rw[q]at e
  have a:es.toList.any (·.refKey)=false:=by rw[List.any_eq_false];intro y hy;obtain⟨z,t,hkey⟩:=hk y (Array.mem_toList_iff.mp hy);simp[DictEntry.refKey,hkey]
  have a':¬es.toList.any (·.refKey)=true:=by rw[a];exact ZY
  rw[qC a'];exact qK some e
variable{C:qM}
theorem Ln.look{x:qM}{mA:Str->Option qL}(I:Ln h x dx C mA):∃od,PySem.W.InstAt h x (PySem.W.instObj C dx) C (some od)/\∀name,PySem.W.lookIn name od=some (mA name):=
 let ⟨od,ho,hl⟩:=Nt I.ns
 ⟨od,⟨I.obj,rfl,rfl,ho⟩,hl⟩
variable{kw:List (Str×qL)}
section
variable{prog:qO}{w:qP}{A:Around}{K:qQ}{x f:qM}{mA:Str->Option qL}{name:Str}{v:qL}
theorem Q6{expr:Bool}(X:K.In s.heap)(I:Ln s.heap x dx C mA)(hg:PySem.W.plainGet K C name=true)(hh:PySem.W.hasDictIn K C=true)
  (ha:PySem.W.findIn K (.ref C) name=some none) (hv:mA name=some v) (hv':PySem.W.handedIn v=true) (h:Q v {s with toks:=s.toks+1}):
  wpAny (model prog w) A (getAttr (.ref x) name expr) Q E s:=by
 obtain⟨od,J,hl⟩:=I.look;exact PySem.W.get_value X J (PySem.W.plainGet_of hg).1 (PySem.W.findObj_own hh ha rfl (by rw[hl,hv])) hv' h
theorem Ou{pl:Sem Bool}{Q:qL×List qL->qN->Prop}(X:K.In s.heap)(I:Ln s.heap x dx C mA)(hg:PySem.W.plainGet K C name=true)
  (hf:PySem.W.findIn K (.ref C) name=some (some (.ref f))) (ht:PySem.W.isFn K (.ref f)=true) (hv:mA name=none) (h:Q (.ref f,[.ref x]) s):
  wpAny (model prog w) A (getMethod (.ref x) name pl) Q E s:=by
 obtain⟨od,J,hl⟩:=I.look;exact PySem.W.method_fn X J (PySem.W.plainGet_of hg).1 (PySem.W.plainGet_of hg).2 hf (beq_iff_eq.mp ht) (by show (PySem.W.lookIn name od).map (·.isSome)=some false;rw[hl,hv];rfl) h
theorem Q7{ns:List Str}{Q:Unit->qN->Prop}(X:K.In s.heap)(I:Ln s.heap x dx C mA)
  (hs:PySem.W.findIn K (.ref C) "__setattr__"=some (some (.builtin "object.__setattr__"))) (hp:PySem.W.plainOver K C=true) (ht:PySem.W.takerIn K C name=some none) (hh:PySem.W.hasDictIn K C=true)
  (hw:PySem.Within mA ns) (hsz:ns.length<=sizeLine)
  (h:∀h',Ln h' x dx C (λy=>if y=name then some v else mA y)->Heap.SameBut dx s.heap h'->Q () {s with heap:=h',toks:=s.toks+2}):
  wpAny (model prog w) A (setAttr (.ref x) name v) Q E s:=by
 obtain⟨od,J,hl⟩:=I.look;refine PySem.W.set_plain X J hs (PySem.W.osa_open (s:={s with toks:=s.toks+1}) (r:=none) X J hp ht λb=>?_);obtain⟨cd,hc,hd'⟩:=PySem.W.any_some hh;have hx:s.heap.get? x=some ⟨.ref C,some dx,.plain,#[]⟩:=I.obj;refine qA (qB (qA (qA (wpAny_loadPart hx (qA (PySem.W.Looks.here (s:={s with toks:=s.toks+1}) (PySem.W.looks_clsIn X hc) ?_))))));rw[hd'];refine qB (a:=some dx) (qA (qB (qA ?_)));refine wpAny_nsSet1 (s:={s with toks:=s.toks+1}) I.ns λh' hn2 hs2=>?_;refine byG λGq hGq=>?_;obtain⟨oD,esD,epD,hoD,hdD,hcD⟩:=hn2.count (PySem.Within.cons name v hw);refine hGq ?_;clear hGq Gq;refine qA (wpAny_lookBehind hoD (by rw[hdD];exact pastItsLine_dict (Zl hcD (by rw[Zb];lia))) ?_);exact qB (h _ ⟨(hs2.2 _ (Ne.symm I.ne)).trans I.obj,hn2,I.ne⟩ hs2)
theorem Ov{R:Result->qN->Prop}{vs:List qL}(X:K.In s.heap)(hm:PySem.W.makesIn K C=true)
  (hi:PySem.W.findIn K (.ref C) "__init__"=some (some (.ref f))) (hf:PySem.W.typeIn K (.ref f)=some (.type "function"))
  (h:codeAny (model prog w) (A.under (.builtin "type.__call__" ⟨.ref C::vs,kw⟩)) (.call (.ref f) ⟨.ref (s.heap.objs.size+1)::vs,kw⟩) (PySem.W.InitBack (s.heap.objs.size+1) R)
   {s with heap:=(s.heap.push PySem.W.emptyDict).push (PySem.W.instObj C s.heap.objs.size)}):
  codeAny (model prog w) A (.call (.ref C) ⟨vs,kw⟩) R s:=by
 obtain⟨hh,g,d,t,os⟩:=s;exact PySem.W.make_core (PySem.W.makes_of X hm) (ak X hi) (λself=>PySem.W.bind_fn X self hf) (.inl rfl) h
end
noncomputable def D4(f:Str)(v:V):List (Str×V)->List (Str×V)
 |[]=>[(f,v)]
 | (g,x)::r=>if g=f then (g,v)::r else (g,x)::D4 f v r
theorem Fs(f g:Str)(v:V):∀fs:List (Str×V),(D4 f v fs).lookup g=if g=f then some v else fs.lookup g
 |[]=>by
  show List.lookup g [(f,v)]=_
  by_cases h:g=f
  ·have hb:(g==f)=true:=beq_iff_eq.mpr h;simp only[List.lookup,hb,qD h]
  ·have hb:(g==f)=false:=beq_eq_false_iff_ne.mpr h;simp only[List.lookup,hb,qC h]
 | (k,x)::r=>by
  have ih:=Fs f g v r;rw[show D4 f v ((k,x)::r)=(if k=f then (k,v)::r else (k,x)::D4 f v r) from rfl]
  by_cases hk:k=f
  ·rw[qD hk]
   by_cases h:g=k
   ·have hb:(g==k)=true:=beq_iff_eq.mpr h;simp only[List.lookup,hb,qD (h.trans hk)]
   ·have hb:(g==k)=false:=beq_eq_false_iff_ne.mpr h;simp only[List.lookup,hb,qC (λe:g=f=>h (e.trans hk.symm))]
  ·rw[qC hk]
   by_cases h:g=k
   ·have hb:(g==k)=true:=beq_iff_eq.mpr h;simp only[List.lookup,hb,qC (λe:g=f=>hk (h.symm.trans e))]
   ·have hb:(g==k)=false:=beq_eq_false_iff_ne.mpr h;simp only[List.lookup,hb];exact ih
theorem FR(f:Str)(v:V):∀fs:List (Str×V),f∈(D4 f v fs).map (·.1)/\∀g,g∈fs.map (·.1)->g∈(D4 f v fs).map (·.1)
 |[]=>⟨by simp[D4],λg h=>by simp at h⟩
 | (k,x)::r=>by
  obtain⟨i1,i2⟩:=FR f v r;rw[show D4 f v ((k,x)::r)=(if k=f then (k,v)::r else (k,x)::D4 f v r) from rfl]
  by_cases hk:k=f
  ·rw[qD hk];subst hk;exact⟨by simp,λg h=>by simpa using h⟩
  ·rw[qC hk];refine⟨?_,λg h=>?_⟩
   ·rw[Zp];exact ZS _ i1
   ·rw[Zp]at h⊢;rcases Zd.mp h with e|e
    ·exact Zd.mpr (.inl e)
    ·exact ZS _ (i2 g e)
theorem Ft(f:Str)(v:V):∀fs:List (Str×V),(D4 f v fs).length<=fs.length+1
 |[]=>by simp[D4]
 | (k,x)::r=>by
  have ih:=Ft f v r;rw[show D4 f v ((k,x)::r)=(if k=f then (k,v)::r else (k,x)::D4 f v r) from rfl]
  by_cases hk:k=f
  ·rw[qD hk,Zb,Zb];lia
  ·rw[qC hk,Zb,Zb];lia
theorem Co.some_of{v:V}{o:Option qL}(r:Co (some v) o):∃u,o=some u/\Al v u:=by
 cases o with
 |none=>exact (show False from r).elim
 |some u=>exact⟨u,rfl,r⟩
theorem Co.none_of{o:Option qL}(r:Co none o):o=none:=by
 cases o with
 |none=>rfl
 |some u=>exact (show False from r).elim
theorem Nu{v:V}(r:Al v u):PySem.W.handedIn u=true:=by
 cases v with
 |non=>cases (show u=Value.none from r);rfl
 |bl b=>cases (show u=Value.bool b from r);rfl
 |int i=>obtain⟨t,e⟩:=(show ∃t,u=Value.int i t from r);cases e;rfl
 |str x=>obtain⟨t,e⟩:=(show ∃t,u=Value.str x t from r);cases e;rfl
 |byt b=>obtain⟨t,e⟩:=(show ∃t,u=Value.bytes b t from r);cases e;rfl
 |flt b=>obtain⟨t,e⟩:=(show ∃t,u=Value.float b t from r);cases e;rfl
 |ref a=>cases (show u=Value.ref a from r);rfl
 |ty n=>cases (show u=Value.type n from r);rfl
section
variable{P:qO}{w:qP}{h':Heap}{fs fs':List (Str×V)}
theorem Eg(hok:Ds P w H h)(e:H a=some (.ins C dx fs)):∃mA,Ln h a dx C mA/\(∀f,Co (fs.lookup f) (mA f))/\PySem.Within mA (fs.map (·.1))/\fs.length<=1000/\H dx=some (.own a):=by refine byG λGq hGq=>?_;obtain⟨d,z,ne,ob,mA,n,r,q⟩:=(show Av P w H h a (.ins C dx fs) from hok a _ e);refine hGq ?_;clear hGq Gq;exact⟨mA,⟨ob,n,ne⟩,r,q,z,d⟩
end
structure Qv(K:qQ)(C:qM):Prop where
 pg:PySem.W.plainGet K C Str.empty=true
 hd:PySem.W.hasDictIn K C=true
 po:PySem.W.plainOver K C=true
 sa:PySem.W.findIn K (.ref C) "__setattr__"=some (some (.builtin "object.__setattr__"))
theorem Qv.get{K:qQ}(c:Qv K C)(f:Str):PySem.W.plainGet K C f=true:=c.pg
def EE(K:qQ)(C:qM)(f:Str):Prop:=PySem.W.findIn K (.ref C) f=some none
theorem EE.taker{K:qQ}{f:Str}(n:EE K C f):PySem.W.takerIn K C f=some none:=by unfold PySem.W.takerIn;rw[show PySem.W.findIn K (.ref C) f=some none from n];rfl
structure S9(K:qQ)(C:qM)(m:Str)(f:qM):Prop where
 at_:PySem.W.findIn K (.ref C) m=some (some (.ref f))
 fn:PySem.W.isFn K (.ref f)=true
 kp:PySem.W.keepIn K (.ref f)=true
variable{pos:Pos}
section
variable{fs:List (Str×V)}{f:Str}{v:V}{A:Around}
theorem Lo{b:Bool}(I:AW X ad σ H s)(e:H a=some (.ins C dx fs))(c:Qv X.K C)(n:EE X.K C f)(l:fs.lookup f=some v)
  (h:∀u s',AW X ad σ H s'->Al v u->Q u s'):wpAny (model X.prog X.w) A (getAttr (.ref a) f b) Q E s:=by
 refine byG λGq hGq=>?_;obtain⟨mA,O,r,_,_,_⟩:=Eg I.hok e;refine hGq ?_;clear hGq Gq;obtain⟨u,hu,ru⟩:=Co.some_of (v:=v) (o:=mA f) (by rw[<-l];exact r f);exact Q6 I.kIn O (c.get f) c.hd n hu (Nu ru) (h u _ (I.tok _) ru)
theorem Lp{m:Str}{g:qM}{pl:Sem Bool}{Q:qL×List qL->qN->Prop}(I:AW X ad σ H s)(e:H a=some (.ins C dx fs))(c:Qv X.K C)(k:S9 X.K C m g)(l:fs.lookup m=none)
  (h:Q (.ref g,[.ref a]) s):wpAny (model X.prog X.w) A (getMethod (.ref a) m pl) Q E s:=by
 refine byG λGq hGq=>?_;obtain⟨mA,O,r,_,_,_⟩:=Eg I.hok e;refine hGq ?_;clear hGq Gq;have hn:mA m=none:=Co.none_of (by rw[<-l];exact r m);exact Ou I.kIn O (c.get m) k.at_ k.fn hn h
theorem Lq{Q:Unit->qN->Prop}(I:AW X ad σ H s)(e:H a=some (.ins C dx fs))(c:Qv X.K C)(n:EE X.K C f)(hl:fs.length<1000)(ry:Al y u)
  (h:∀s',AW X ad σ (Am H a (.ins C dx (D4 f y fs))) s'->Q () s'):wpAny (model X.prog X.w) A (setAttr (.ref a) f u) Q E s:=by
 refine byG λGq hGq=>?_;obtain⟨mA,O,r,wi,_,ho⟩:=Eg I.hok e;refine hGq ?_;clear hGq Gq;have hz:(fs.map (·.1)).length<=sizeLine:=by rw[ZM,sizeLine_eq];lia
 refine Q7 I.kIn O c.sa c.po n.taker c.hd wi hz λh' O' sb=>h _ ?_
 have hd:∃o,h'.get? dx=some o:=let ⟨o,_,_,e',_⟩:=O'.ns;⟨o,e'⟩;refine I.write (x:=a) (e:=dx) (by rw[e];exact True.intro) (.inr ho) (λb q hb z=>(sb.2 b hb).trans z) hd ?_;refine⟨by rw[AR O.ne];exact ho,?_,O.ne,O'.obj,_,O'.ns,λg=>?_,λg hg=>?_⟩
 ·have:=Ft f y fs;lia
 ·show Co ((D4 f y fs).lookup g) (if g=f then some u else mA g);rw[Fs]
  by_cases q:g=f
  ·rw[qD q,qD q];exact ry
  ·rw[qC q,qC q];exact r g
 ·by_cases q:g=f
  ·rw[q];exact (FR f y fs).1
  ·refine (FR f y fs).2 g (wi g λz=>hg ?_);show (if g=f then some u else mA g)=none;rw[qC q];exact z
theorem AW.made(I:AW X ad σ H s):AW X ad σ (Am (Am H s.heap.objs.size (.own (s.heap.objs.size+1))) (s.heap.objs.size+1) (.ins C s.heap.objs.size []))
  {s with heap:=(s.heap.push PySem.W.emptyDict).push (PySem.W.instObj C s.heap.objs.size)}:=by
 have e1:(s.heap.push PySem.W.emptyDict).get? s.heap.objs.size=some PySem.W.emptyDict:=ZU s.heap rfl
 have e2:((s.heap.push PySem.W.emptyDict).push (PySem.W.instObj C s.heap.objs.size)).get? (s.heap.objs.size+1)=some (PySem.W.instObj C s.heap.objs.size):=by
  have:=ZU (s.heap.push PySem.W.emptyDict) (o:=PySem.W.instObj C s.heap.objs.size) rfl
  rwa [aC]at this
 have e3:(s.heap.push PySem.W.emptyDict).Ns s.heap.objs.size (λ_=>none):=⟨PySem.W.emptyDict,#[],_,e1,rfl,(λe he=>qE he (by simp)),λ_=>rfl⟩;have I1:=I.laid (a:=s.heap.objs.size) (o:=.own (s.heap.objs.size+1)) (h':=s.heap.push PySem.W.emptyDict) (t':=s.toks) (λb u q=>ZN _ q) (ZR _) ⟨_,e1⟩;refine I1.laid (a:=s.heap.objs.size+1) (o:=.ins C s.heap.objs.size []) (t':=s.toks) (λb u q=>ZN _ q) (Nat.le_of_eq (aC _ _)) ?_;have ne:s.heap.objs.size≠s.heap.objs.size+1:=Zj (ag _);refine⟨by rw[AR ne,AE],Zw _,ne,e2,λ_=>none,(Heap.Ns1.of_empty e3).at λo q=>ZN _ q,λ_=>True.intro,λy hy=>qE rfl hy⟩
theorem Q8{prog:qO}{w:qP}{env:Env}{f:Str}(hb:attributeBase e f env (eval e env)=eval e env)
  (h:wpAny (model prog w) A (eval e env) (λo s₁=>wpAny (model prog w) A (getAttr o f true) Q E s₁) E s):wpAny (model prog w) A (eval (.Attribute e f pos) env) Q E s:=
 Attribute_any_ h (by rw[arm_eval_Attribute,hb])
end
def YL(K:qQ)(ta:TE)(f:Str):TE:=λσ H Q=>ta σ H λx H1=>∃a C dx fs v,x=.ref a/\H1 a=some (.ins C dx fs)/\Qv K C/\EE K C f/\fs.lookup f=some v/\Q v H1
def YM(K:qQ)(ta tv:TE)(f:Str):TS:=λD σ H=>tv σ H λy H1=>ta σ H1 λx H2=>∃a C dx fs,x=.ref a/\H2 a=some (.ins C dx fs)/\Qv K C/\EE K C f/\fs.length<1000 /\
 D.nx σ (Am H2 a (.ins C dx (D4 f y fs)))
section
variable{o value:Expr}{f:Str}{pos' tpos:Pos}{ta tv:TE}
theorem TB(he:PE X e ta)(hb:attributeBase e f X.env (eval e X.env)=eval e X.env):PE X (.Attribute e f pos) (YL X.K ta f):=by intro ad s σ H Q I h;refine Q8 hb (A9 (he ad s σ H _ I h) λu s1 z9=>?_);obtain⟨x,H1,I1,rx,a,C,dx,fs,v,ex,ea,c,n,l,q⟩:=z9;subst ex;obtain rfl:u=Value.ref a:=rx;exact Lo I1 ea c n l λu' s2 I2 ru=>⟨v,H1,I2,ru,q⟩
theorem TC(ha:PE X o ta)(hv:PE X value tv)(hs:swapsWith value (some (.Attribute o f pos')) pos.line X.env=pure false):PS X (.Assign [.Attribute o f pos'] value pos) (YM X.K ta tv f):=by intro ad s σ H D I h;refine plainObj_wpAny_Assign_Attribute (A9 (hv ad s σ H _ I h) λu s1 ⟨y,H1,I1,ry,q⟩=>A9 (ha ad s1 σ H1 _ I1 q) λov s2 z9=>?_) hs;obtain⟨x,H2,I2,rx,a,C,dx,fs,ex,ea,c,n,l,q2⟩:=z9;subst ex;obtain rfl:ov=Value.ref a:=rx;exact Lq I2 ea c n l ry λs3 I3=>⟨σ,_,I3,q2⟩
end
variable{t:qL}
section
variable{A:Around}{c:qL}{b:Bool}
inductive FS(K:qQ)(H:Hp):V->qL->Prop where
 |non:FS K H .non (.type "NoneType")
 |bl (x:Bool):FS K H (.bl x) (.type "bool")
 |int (i:Int):FS K H (.int i) (.type "int")
 |str (x:Str):FS K H (.str x) (.type "str")
 |flt (x:UInt64):FS K H (.flt x) (.type "float")
 |lst {a:qM} {xs:List V} (e:H a=some (.lst xs)):FS K H (.ref a) (.type "list")
 |frz {a:qM} {o:Obj} {xs:List V} (e:H a=some (.frz o (.lst xs))):FS K H (.ref a) (.type "list")
 |tup {a:qM} {xs:List V} (e:H a=some (.tup xs)):FS K H (.ref a) (.type "tuple")
 |dK {a:qM} {kvs:List (CG×V)} (e:H a=some (.dK kvs)):FS K H (.ref a) (.type "dict")
 |dT {a:qM} {kvs:List (List CG×V)} (e:H a=some (.dT kvs)):FS K H (.ref a) (.type "dict")
 |ins {a C dx:qM} {fs:List (Str×V)} (e:H a=some (.ins C dx fs)) (cl:Qv K C) (ha:PySem.W.findIn K (.ref C) "__class__"=some (some (.builtin "object.__class__")))
   (hn:PySem.W.specialIn K (.builtin "object.__class__") "__get__"=some (some (.builtin "getset_descriptor.__get__"))) (htk:PySem.W.takesIn K (.builtin "object.__class__")=some true)
   (hm:PySem.W.mroIn K C (.type "object")=some true):FS K H (.ref a) (.ref C)
theorem Nv{x:V}(I:AW X ad σ H s)(rx:Al x u)(ty:FS X.K H x t)(e:PySem.W.kitOne X.K t c=some b)(h:∀tk,Q (.bool b) {s with toks:=tk}):
  wpAny (model X.prog X.w) A (call (.builtin "isinstance") [u,c]) Q E s:=by
 cases ty with
 |non=>cases (show u=Value.none from rx);exact Z7 PySem.W.kitx_none I.kIn True.intro e (λz=>nomatch z) h
 |bl y=>cases (show u=Value.bool y from rx);exact Z7 PySem.W.kitx_bool I.kIn True.intro e (λz=>nomatch z) h
 |int i=>obtain⟨t,q⟩:=(show ∃t,u=Value.int i t from rx);cases q;exact Z7 PySem.W.kitx_int I.kIn True.intro e (λz=>nomatch z) h
 |str y=>obtain⟨t,q⟩:=(show ∃t,u=Value.str y t from rx);cases q;exact Z7 PySem.W.kitx_str I.kIn True.intro e (λz=>nomatch z) h
 |flt y=>obtain⟨t,q⟩:=(show ∃t,u=Value.float y t from rx);cases q;exact Z7 PySem.W.kitx_float I.kIn True.intro e (λz=>nomatch z) h
 | @lst a xs ea =>
  cases (show u=Value.ref a from rx);obtain⟨_,_,n,_,h1⟩:=(show Av X.prog X.w H s.heap a (.lst xs) from I.hok a _ ea);exact Z7 bg I.kIn ⟨_,h1,rfl⟩ e (λz=>nomatch z) h
 | @frz a ob xs ea =>
  cases (show u=Value.ref a from rx);obtain⟨_,_,_,n,_,h1⟩:=(show Av X.prog X.w H s.heap a (.frz ob (.lst xs)) from I.hok a _ ea);exact Z7 bg I.kIn ⟨_,h1,rfl⟩ e (λz=>nomatch z) h
 | @tup a xs ea =>
  cases (show u=Value.ref a from rx);obtain⟨_,_,_,p⟩:=(show Av X.prog X.w H s.heap a (.tup xs) from I.hok a _ ea);obtain⟨o,h1,h2,_⟩:=p;exact Z7 PySem.W.kitx_tuple I.kIn ⟨o,h1,h2⟩ e (λz=>nomatch z) h
 | @dK a kvs ea =>
  cases (show u=Value.ref a from rx);obtain⟨_,_,vs,_,p⟩:=(show Av X.prog X.w H s.heap a (.dK kvs) from I.hok a _ ea);obtain⟨o,es,ep,h1,h2,_⟩:=p;exact Z7 bh I.kIn ⟨o,h1,h2.1⟩ e (λz=>nomatch z) h
 | @dT a kvs ea =>
  cases (show u=Value.ref a from rx);obtain⟨_,_,xs,_,o,es,ep,h1,h2,_⟩:=(show Av X.prog X.w H s.heap a (.dT kvs) from I.hok a _ ea);exact Z7 bh I.kIn ⟨o,h1,h2.1⟩ e (λz=>nomatch z) h
 | @ins a C dx fs ea cl ha hn htk hm =>
  cases (show u=Value.ref a from rx);obtain⟨mA,O,_⟩:=Eg I.hok ea;obtain⟨od,J,_⟩:=O.look;exact Z7 (PySem.W.kitx_own (cl.get _) cl.hd ha hn htk hm) I.kIn J e (λz=>nomatch z) h
end
structure BP(k:Nat)(A:Around):Prop where
 hd:A.handled=none
 dp:A.depth+3*k+5<recursionLimit
 un:A.units+16*k+200<cLine
variable{k:Nat}
theorem BP.mono{A:Around}(r:BP k A)(h:j<=k):BP j A:=⟨r.hd,by have:=r.dp;lia,by have:=r.un;lia⟩
theorem BP.deeper{A:Around}(r:BP (k+1) A)(env:Env):BP k (A.deeper env):=
 ⟨r.hd,by have:=r.dp;show A.depth+1+3*k+5<_;lia,by have:=r.un;show A.units+3+16*k+200<_;lia⟩
theorem Lr{A:Around}:(A.under (.builtin "type.__call__" ⟨.ref C::us,kw⟩)).depth=A.depth+1:=by
 first|rfl|simp[Around.under,Code.weight,Code.isCreation,Code.isGuard,Code.isCaller,Code.frames,Code.isFrame,guardIds]
theorem Ls{A:Around}:(A.under (.builtin "type.__call__" ⟨.ref C::us,kw⟩)).units=A.units+1:=by
 first|rfl|simp[Around.under,Code.cUnits,Code.frames,Code.isFrame]
theorem BP.make{A:Around}(r:BP (k+1) A)(C:qM)(us:List qL)(kw:List (Str×qL)):BP k (A.under (.builtin "type.__call__" ⟨.ref C::us,kw⟩)):=
 ⟨r.hd,by have:=r.dp;rw[Lr];lia,by have:=r.un;rw[Ls];lia⟩
theorem BP.depth{A:Around}(r:BP k A):A.depth<recursionLimit:=by have:=r.dp;lia
theorem BP.units{A:Around}(r:BP k A):A.units+64<cLine:=by have:=r.un;lia
def Nw:TA:=λ_ H Q=>Q [] H
def Gf(ta:TE)(tr:TA):TA:=λσ H Q=>ta σ H λx H1=>tr σ H1 λxs H2=>Q (x::xs) H2
section
variable{es:List Expr}{t:TA}
theorem AB:PA X [] Nw:=λ_ _ _ _ H Q I h=>Calls.spliced_nil ⟨[],H,I,.nil,h⟩
theorem AA(ha:PE X e te)(hr:PA X es t)(hs:starEach (e::es) X.env=(false,eval e X.env)::starEach es X.env:=by rfl):PA X (e::es) (Gf te t):=by intro pos ad s σ H Q I h;rw[hs];show wpAny _ _ (spliced ((false,eval e X.env)::backTo pos (starEach es X.env))) _ _ s;refine Calls.spliced_cons (A9 (ha ad s σ H _ I h) λu s1 z9=>?_);obtain⟨x,H1,I1,r1,q1⟩:=z9;exact A9 (hr pos ad s1 σ H1 _ I1 q1) λus s2 ⟨xs,H2,I2,r2,q2⟩=>⟨x::xs,H2,I2,.cons r1 r2,q2⟩
def TD(t:TA):TE:=λσ H Q=>t σ H λxs H1=>xs.length<=sizeLine/\∀p,H1 p=none->Q (.ref p) (Am H1 p (.tup xs))
def VP(t:TA):TE:=λσ H Q=>t σ H λxs H1=>xs.length<=sizeLine/\∀p,H1 p=none->Q (.ref p) (Am H1 p (.lst xs))
theorem DL{x1}(h:PA X es t):PE X (.Tuple es x1 pos) (TD t):=by intro ad s σ H Q I hq;refine wpAny_Tuple_spliced (A9 (h pos ad s σ H _ I hq) λus s1 ⟨xs,H1,I1,r,z,q⟩=>⟨by rw[<-r.length];exact z,?_⟩);have hf:H1 s1.heap.objs.size=none:=I1.hok.fresh (ZR _);refine⟨.ref s1.heap.objs.size,Am H1 s1.heap.objs.size (.tup xs),I1.laid (t':=s1.toks) (λb u e=>ZN _ e) (ZR _) ?_,rfl,q _ hf⟩;exact⟨z,us,r,⟨_,ZU _ rfl,rfl,_,rfl⟩⟩
theorem Ay(h:PA X es t):PE X (.List es pos) (VP t):=by intro ad s σ H Q I hq;refine wpAny_List_spliced (A9 (h pos ad s σ H _ I hq) λus s1 ⟨xs,H1,I1,r,z,q⟩=>⟨by rw[<-r.length];exact z,?_⟩);have hf:H1 s1.heap.objs.size=none:=I1.hok.fresh (ZR _);refine⟨.ref s1.heap.objs.size,Am H1 s1.heap.objs.size (.lst xs),I1.laid (t':=s1.toks) (λb u e=>ZN _ e) (ZR _) ?_,rfl,q _ hf⟩;exact⟨z,us,0,r,ZU _ rfl⟩
end
abbrev Sp:=List V->Hp->VK->XK->Prop
abbrev Oj:=List Env->Hp->qN->XK->qL->qN->Prop
structure Lu(P:qO)(w:qP)(K:qQ)(mg:Str->Option qL)(base:Heap)(A:Around)(outer:List Env)(s:qN)(H:Hp):Prop where
 frames:A.frames=some outer
 mod:X2 K mg base
 bs:∀b o,base.get? b=some o->s.heap.get? b=some o/\H b=none
 bsz:base.objs.size<=s.heap.objs.size
 funs:s.heap.FunFrames base outer
 frf:∀b∈B9 outer,H b=none
 hok:Ds P w H s.heap
 bare:AllBare s.gens
def CE(outer:List Env)(P:qO)(w:qP)(H:Hp)(s:qN)(Q:VK)(u:qL)(s':qN):Prop:=
 ∃v H',s'.os=s.os/\AllBare s'.gens/\Un (B9 outer) [] H H' s.heap s'.heap/\Ds P w H' s'.heap/\Al v u/\Q v H'
def CR(CX:Oj)(outer:List Env)(P:qO)(w:qP)(H:Hp)(s:qN)(Q:VK)(E:XK)(r:Result)(s':qN):Prop:=
 match r with
 |.ok (.ret u)=>CE outer P w H s Q u s'
 |.ok _=>False
 |.error e=>CX outer H s E e s'
structure C1(P:qO)(w:qP)(K:qQ)(mg:Str->Option qL)(base:Heap)(CX:Oj)(k:Nat)(f:qM)(fd:FuncData)(ps:List Str)(sp:Sp):Prop where
 len:∀vs H Q E,sp vs H Q E->vs.length=ps.length
 run:∀(A:Around) (outer:List Env) (s:qN) (H:Hp) (args:Args) (us:List qL) (vs:List V) (Q:VK) (E:XK),BP k A->Lu P w K mg base A outer s H->BindsTo s fd args (ps.zip us)->Ag vs us->sp vs H Q E ->
  codeAny (model P w) A (.call (.ref f) args) (CR CX outer P w H s Q E) s
variable{CX:Oj}{fd:FuncData}{ps:List Str}
theorem C1.mono{P:qO}{w:qP}{K:qQ}{mg:Str->Option qL}{base:Heap}{f:qM}{sp:Sp}(F:C1 P w K mg base CX j f fd ps sp)(h:j<=k):
  C1 P w K mg base CX k f fd ps sp:=⟨F.len,λA outer s H args us vs Q E hr=>F.run A outer s H args us vs Q E (hr.mono h)⟩
theorem Lu.make{P:qO}{w:qP}{K:qQ}{mg:Str->Option qL}{base:Heap}{A:Around}{outer:List Env}(e:Lu P w K mg base A outer s H)(C:qM)(us:List qL)(kw:List (Str×qL)):
  Lu P w K mg base (A.under (.builtin "type.__call__" ⟨.ref C::us,kw⟩)) outer s H:=⟨by first|exact e.frames|(simpa [Around.under,Code.envs,Code.isFrame,pushEnvs] using e.frames),e.mod,e.bs,e.bsz,e.funs,e.frf,e.hok,e.bare⟩
theorem AW.env0(I:AW X ad σ H s):Lu X.prog X.w X.K X.mg X.base X.A X.stack s H:=
 ⟨I.ok.frames,I.ok.mod,I.bs,Zl I.ok.bsz I.sz,I.stack,I.stkFree,I.hok,I.bare⟩
theorem AW.after{Q:VK}(I:AW X ad σ H s)(h:CE X.stack X.prog X.w H s Q u s'):EP X ad σ Q u s':=by refine byG λGq hGq=>?_;obtain⟨v,H',os,bare,un,hok,r,q⟩:=h;refine hGq ?_;clear hGq Gq;refine byG λGq hGq=>?_;obtain⟨hh,g,d,t,os'⟩:=s';refine hGq ?_;clear hGq Gq;obtain rfl:os'=s.os:=os;exact⟨v,H',I.call (h':=hh) (g':=g) (d':=d) (t':=t) (ch:=[]) un hok bare (λb z=>qE z (by simp)),r,q⟩
def SK(C:qM)(sp:Sp)(dvs:List V)(E:XK)(t:TA):TE:=λσ H Q=>t σ H λvs H1=>∀x dx,H1 x=none->H1 dx=none->dx≠x ->
 sp (.ref x::(vs++dvs)) (Am (Am H1 dx (.own x)) x (.ins C dx [])) (λv H2=>v=.non/\Q (.ref x) H2) E
def Cr(K:qQ)(fd:FuncData)(ps:List Str)(ds:List qL):Prop:=
 ∀(s:qN) (us:List qL),K.In s.heap->(us++ds).length=ps.length->BindsTo s fd ⟨us,[]⟩ (ps.zip (us++ds))
theorem Cr.all{K:qQ}(h:∀us:List qL,us.length=ps.length->bindArgs fd ⟨us,[]⟩=pure (ps.zip us)):Cr K fd ps []:=λs us _ hl=>by rw[a9]at hl⊢;exact .of_eq (h us hl)
def Lv(CX:Oj)(X:Cx)(E:XK):Prop:=∀(ad:List (qM×Obj)) (σ:St) (H:Hp) (s:qN) (e:qL) (s':qN),AW X ad σ H s->CX X.stack H s E e s'->X.xe e s'
section
variable{f:qM}{sp:Sp}{dvs:List V}{ds:List qL}{E:XK}{m:Str}{p apos:Pos}{o:Expr}{es:List Expr}{ta:TE}{t:TA}
structure Mk(K:qQ)(C f:qM):Prop where
 makes:PySem.W.makesIn K C=true
 init:PySem.W.findIn K (.ref C) "__init__"=some (some (.ref f))
 fn:PySem.W.isFn K (.ref f)=true
 kp:PySem.W.keepIn K (.ref C)=true
theorem Ow{Q:VK}{vs:List V}(M:Mk X.K C f)(F:C1 X.prog X.w X.K X.mg X.base CX k f fd ps sp)(hr:BP (k+1) X.A)(hb:Cr X.K fd ps ds)(hd:Ag dvs ds)
  (hx:Lv CX X E) (I:AW X ad σ H s) (r:Ag vs us)
  (h:∀x dx,H x=none->H dx=none->dx≠x->sp (.ref x::(vs++dvs)) (Am (Am H dx (.own x)) x (.ins C dx [])) (λv H2=>v=.non/\Q (.ref x) H2) E):
  wpAny (model X.prog X.w) X.A (call (.ref C) us) (EP X ad σ Q) X.xe s:=by
 have hq:=h (s.heap.objs.size+1) s.heap.objs.size (I.hok.fresh (bA _)) (I.hok.fresh (ZR _)) (Zj (ag _));have I2:=AW.made (C:=C) I;have r2:Ag (V.ref (s.heap.objs.size+1)::(vs++dvs)) (Value.ref (s.heap.objs.size+1)::(us++ds)):=.cons rfl (r.append hd)
 have hl:(Value.ref (s.heap.objs.size+1)::us++ds).length=ps.length:=by have e:=r2.length;rw[F.len _ _ _ _ hq]at e;exact e.symm
 refine wpAny_call (Ov (f:=f) I.kIn M.makes M.init (beq_iff_eq.mp M.fn) (codeAny_mono (F.run _ X.stack _ _ ⟨Value.ref (s.heap.objs.size+1)::us,[]⟩ (Value.ref (s.heap.objs.size+1)::(us++ds)) _ _ E (hr.make C us [])
  (I2.env0.make C us []) (hb _ (Value.ref (s.heap.objs.size+1)::us) I2.kIn hl) r2 hq) λr s' hq'=>?_))
 cases r with
 |error e=>exact hx ad σ _ _ e s' I2 hq'
 |ok fl =>
  cases fl with
  |ret u =>
   refine byG λGq hGq=>?_;obtain⟨v,H',I3,rv,ev,q3⟩:=I2.after hq';refine hGq ?_;clear hGq Gq;subst ev;exact⟨rv,⟨V.ref (s.heap.objs.size+1),H',I3,rfl,q3⟩⟩
  |next=>exact False.elim hq'
  |brk=>exact False.elim hq'
  |cont=>exact False.elim hq'
theorem Ox(M:Mk X.K C f)(F:C1 X.prog X.w X.K X.mg X.base CX k f fd ps sp)(hr:BP (k+1) X.A)(hg:Gl X x)(hm:X.mg x=some (.ref C))(hb:Cr X.K fd ps ds)(hd:Ag dvs ds)(hx:Lv CX X E)
  (hdb:(x==("__debug__":Str))=false:=by decide):PE X (.Call (.Name x p) [] [] pos) (SK C sp dvs E Nw):=by
 intro ad s σ H Q I h;refine wpAny_Call_Name_kw (Cq I hg hm ?_ hdb);exact PySem.W.callWith_K0 I.kIn M.kp (Ow (us:=[]) M F hr hb hd hx I .nil h)
end
structure AJ(N P:List Str)(sc:Scope):Prop where
 kind:sc.kind=.function
 co:sc.isCoroutine=false
 gen:sc.isGenerator=false
 nd:N.Nodup
 pre:N.take P.length=P
 par:∀x∈P,sc.names.lookup x=some .local\/sc.names.lookup x=some .cell
 nofree:∀y∈sc.names,y.2≠.free
variable{kindOf:Str->Option NameKind}
theorem IJ:∀{binds:List (Str×qL)} {m:Str->Option qL},(∀v,(x,v)∉binds)->bindL kindOf binds m x=m x
 |[],_,_=>rfl
 | (n,v)::r,m,h=>by
  unfold bindL;rw[IJ λw hw=>h w (ZS _ hw)];split
  ·have:x≠n:=by rintro rfl;exact h v ZZ
   simp[this]
  ·rfl
theorem IK:∀{binds:List (Str×qL)} {m:Str->Option qL},(∀v,(x,v)∉binds)->bindC kindOf binds m x=m x
 |[],_,_=>rfl
 | (n,v)::r,m,h=>by
  unfold bindC;rw[IK λw hw=>h w (ZS _ hw)];split
  ·rfl
  ·have:x≠n:=by rintro rfl;exact h v ZZ
   simp[this]
theorem IL{v:qL}:∀{P:List Str} {vs:List qL} {i:Nat} {m:Str->Option qL},P.Nodup->P[i]?=some x->vs[i]?=some v->kindOf x=some .local ->
  bindL kindOf (P.zip vs) m x=some v
 |[],_,_,_,_,h,_,_=>by simp at h
 |_::_,[],_,_,_,_,h,_=>by simp at h
 |p::P,w::vs,0,m,nd,h1,h2,hk=>by simp at h1 h2;subst h1;subst h2;show bindL kindOf ((p,w)::P.zip vs) m p=_;unfold bindL;rw[IJ λv hv=>(List.nodup_cons.mp nd).1 (List.of_mem_zip hv).1,qD hk];simp
 |p::P,w::vs,i+1,m,nd,h1,h2,hk=>by show bindL kindOf ((p,w)::P.zip vs) m x=_;unfold bindL;exact IL (i:=i) (List.nodup_cons.mp nd).2 (by simpa using h1) (by simpa using h2) hk
theorem IM{v:qL}:∀{P:List Str} {vs:List qL} {i:Nat} {m:Str->Option qL},P.Nodup->P[i]?=some x->vs[i]?=some v->kindOf x≠some .local ->
  bindC kindOf (P.zip vs) m x=some v
 |[],_,_,_,_,h,_,_=>by simp at h
 |_::_,[],_,_,_,_,h,_=>by simp at h
 |p::P,w::vs,0,m,nd,h1,h2,hk=>by simp at h1 h2;subst h1;subst h2;show bindC kindOf ((p,w)::P.zip vs) m p=_;unfold bindC;rw[IK λv hv=>(List.nodup_cons.mp nd).1 (List.of_mem_zip hv).1,qC hk];simp
 |p::P,w::vs,i+1,m,nd,h1,h2,hk=>by show bindC kindOf ((p,w)::P.zip vs) m x=_;unfold bindC;exact IM (i:=i) (List.nodup_cons.mp nd).2 (by simpa using h1) (by simpa using h2) hk
noncomputable def CA(N:List Str)(vs:List V):St:=vs.map some++List.replicate (N.length-vs.length) none
noncomputable def Cc(CX:Oj)(P:qO)(w:qP)(K:qQ)(mg:Str->Option qL)(base:Heap)(N:List Str)(qual:Str)(scope:Scope)(f:qM)(cd:qL)(A:Around)(outer:List Env)(s:qN)(H:Hp)(E:XK):Cx where
 prog:=P
 w:=w
 K:=K
 mg:=mg
 base:=base
 A:=A.deeper (envOfC qual scope s.heap.objs.size f cd)
 N:=N
 s₀:=s
 H₀:=H
 env:=envOfC qual scope s.heap.objs.size f cd
 outer:=outer
 stack:=envOfC qual scope s.heap.objs.size f cd::outer
 ex:=[]
 calm:=true
 fn:=λ_=>true
 pn:=[]
 xe:=λe s'=>wpAny (model P w) (A.deeper (envOfC qual scope s.heap.objs.size f cd)) (leaving (envOfC qual scope s.heap.objs.size f cd) e) (λ_ s''=>CX outer H s E e s'') (λe' s''=>CX outer H s E e' s'') s'
theorem Kb{sc:Scope}(h:sc.names.lookup x=some .cell):∃c,(cellsFrom n sc.names []).lookup x=some c:=by have q:=PySem.W.cellsFrom_some sc.names n [] (.inl h);exact bS.mp q
variable{qual:Str}{scope:Scope}
theorem Nx{P:qO}{w:qP}{K:qQ}{mg:Str->Option qL}{base:Heap}{N:List Str}{f:qM}{cd:qL}{A:Around}{outer:List Env}{s1:qN}{E:XK}{vs:List V}
  (S:AJ N ps scope) (hd:A.handled=none) (e0:Lu P w K mg base A outer s H) (hl:vs.length=ps.length) (r:Ag vs us)
  (x:InCallC s s.heap.objs.size (bindL (envOfC qual scope s.heap.objs.size f cd).kindOf (ps.zip us) λ_=>none) (cellsFrom (s.heap.objs.size+1) scope.names []) (bindC (envOfC qual scope s.heap.objs.size f cd).kindOf (ps.zip us) λ_=>none) s1):
  AW (Cc CX P w K mg base N qual scope f cd A outer s H E) [] (CA N vs) H s1:=by
 have hpl:ps.length<=N.length:=by have:=qK List.length S.pre;rw[Zt]at this;lia
 obtain⟨h1,tk,rfl,hk⟩:=x.done;have noA:∀b:qM,b∉(Cc CX P w K mg base N qual scope f cd A outer s H E).ex:=λb z=>qE (show b∈([]:List qM) from z) (by simp)
 refine⟨⟨e0.mod,S.kind,rfl,rfl,ZR _,λy z c h1 h2=>?_,λy hy=>?_,λy c _ h=>?_,λ_=>hd,Around.frames_deeper e0.frames,.inr ⟨rfl,rfl⟩,λb z=>qE z (noA b),e0.bs,e0.bsz,λb _ _=>noA b,λb z=>qE z (noA b),e0.funs,e0.frf⟩,
  rfl,e0.bare,Un.kept hk,⟨_,x.toInCall.ns,λi y v h1 h2 h3=>?_⟩,λy c h=>⟨_,x.cell y c h⟩,e0.hok.fresh (Nat.le_refl _),λy c h=>?_,λp hp=>qE (show p∈([]:List (qM×Obj)) from hp) (by simp),e0.hok.kept hk,?_⟩
 ·exact name_of_addr x.apart (ao h1) (ao h2)
 ·have hy:scope.names.lookup y=some .cell\/scope.names.lookup y=some .free:=hy;rcases hy with hy|hy
  ·exact Kb hy
  ·exact qE rfl (S.nofree _ (ao hy))
 ·exact a8 (x.above y c (ao h))
 ·have hi:i<vs.length:=by
   unfold CA at h2
   by_cases hi:i<vs.length
   ·exact hi
   ·rw[List.getElem?_append_right (by simpa using hi)]at h2;rw[bU]at h2
    split at h2<;>cases h2
  have ha:vs[i]?=some v:=by
   unfold CA at h2;rw[List.getElem?_append_left (by simpa using hi),List.getElem?_map]at h2;cases e:vs[i]? with
   |none=>rw[e]at h2;cases h2
   |some a=>rw[e]at h2;cases h2;rfl
  obtain⟨u,hu,rv⟩:=r.get ha
  have hp:ps[i]?=some y:=by rw[<-S.pre,List.getElem?_take_of_lt (by lia)];exact h1
  have ndP:ps.Nodup:=by rw[<-S.pre];exact S.nd.sublist (List.take_sublist _ _)
  refine⟨u,rv,?_⟩;rcases S.par y (Zv hp) with k|k
  ·exact .inl ⟨k,IL ndP hp hu k⟩
  ·obtain⟨c,e⟩:=Kb (n:=s.heap.objs.size+1) k;refine .inr ⟨.inl k,c,e,?_⟩;have q:=x.cell y c e;rw[IM ndP hp hu (by show scope.names.lookup y≠_;rw[k];decide)]at q;exact q
 ·exact e0.hok.fresh (a8 (x.above y c (ao h)))
 ·unfold CA;show _=N.length;rw[Zg,ZM,Z8];lia
variable{doc pm cb oc:qL}{an od:Option qM}
theorem SL{P:qO}{w:qP}{K:qQ}{mg:Str->Option qL}{base:Heap}{f:qM}{name:Str}{params:Arguments}{dV kV ct:qL}
  {osl:Array (Option qL)} {N ps:List Str} {sp:Sp} (lk:K.lookup f=some ⟨oc,od,.func (PySem.W.fnOf name qual params body scope dV kV doc pm an cb ct),osl⟩) (hcd:PySem.W.codeIn K cb qual=true) (S:AJ N ps scope)
  (len:∀vs H Q E,sp vs H Q E->vs.length=ps.length)
  (hbody:∀(A:Around) (outer:List Env) (s:qN) (H:Hp) (vs:List V) (Q:VK) (E:XK),BP k (A.deeper (envOfC qual scope s.heap.objs.size f cb))->sp vs H Q E ->
   ∃t,F8 (Cc CX P w K mg base N qual scope f cb A outer s H E) body t/\t {nx:=λ_ H'=>Q .non H',rt:=Q} (CA N vs) H):
  C1 P w K mg base CX (k+1) f (PySem.W.fnOf name qual params body scope dV kV doc pm an cb ct) ps sp:=by
 refine⟨len,λA outer s H args us vs Q E hr e0 hb r hsp=>?_⟩;have hl:=len _ _ _ _ hsp;have KX:K.In s.heap:=e0.mod.kin.keeps λb o e=>(e0.bs b o e).1
 have lim:s.heap.NoLimit:=e0.mod.nolimit.keeps λb o e=>(e0.bs b o e).1
 have hkind:∀y∈ps.zip us,scope.names.lookup y.1=some .local\/(scope.names.lookup y.1=some .cell/\((cellsFrom (s.heap.objs.size+1) scope.names []).lookup y.1).isSome=true):=λ⟨n,v⟩ hy=>by
  rcases S.par n (List.of_mem_zip hy).1 with q|q
  ·exact .inl q
  ·exact .inr ⟨q,PySem.W.cellsFrom_some _ _ _ (.inl q)⟩
 refine codeAny_call_function hr.depth (KX _ _ lk) rfl S.co S.gen rfl (PySem.W.codeRec_of KX hcd) (hb _ _ _ _ ?_);refine wpAny_newFunctionEnv_cells S.kind hkind λenv he s1 x=>?_;subst he;refine⟨lim.keeps x.toInCall.keep,codeAny_func ?_⟩;obtain⟨t,ht,hq⟩:=hbody A outer s H vs Q E (hr.deeper _) hsp;have I:AW (Cc CX P w K mg base N qual scope f cb A outer s H E) [] (CA N vs) H s1:=Nx S hr.hd e0 hl r x;refine qH (ht [] s1 (CA N vs) H _ I hq) (λfl s' hs=>?_) λe s' hs=>hs
 have fin:∀{σ':St} {H':Hp} {v:V} {u:qL},AW (Cc CX P w K mg base N qual scope f cb A outer s H E) [] σ' H' s'->Al v u->Q v H'->CE outer P w H s Q u s':=
  λ{σ' H' v u} J rv q=>⟨v,H',J.os,J.bare,J.base,J.hok,rv,q⟩
 cases fl with
 |ret u =>
  obtain⟨v,σ',H',J,rv,q⟩:=hs;exact fin J rv q
 |next =>
  obtain⟨σ',H',J,q⟩:=hs;exact fin (v:=V.non) (u:=Value.none) J rfl q
 |brk =>
  obtain⟨_,_,_,q⟩:=hs;exact False.elim q
 |cont =>
  obtain⟨_,_,_,q⟩:=hs;exact False.elim q
section
variable{p:Pos}{es:List Expr}{t:TA}{id T:String}{r:List V->Hp->VK->Prop}
def VQ(r:List V->Hp->VK->Prop)(t:TA):TE:=λσ H Q=>t σ H λvs H1=>r vs H1 Q
theorem AT(hc:CH X (.builtin id) r)(hg:Gl X x)(hm:X.mg x=none)(hv:bootBuiltins x=some (.builtin id))(ha:PA X (e::es) t)(hn:x≠"__name__":=by decide)(hdb:(x==("__debug__":Str))=false:=by decide)
  (he:starEach (e::es) X.env=(false,eval e X.env)::starEach es X.env:=by rfl) (hpl:(backTo pos (starEach es X.env)).any (·.1)=false:=by rfl):PE X (.Call (.Name x p) (e::es) [] pos) (VQ r t):=by
 intro ad s σ H Q I h;refine wpAny_Call_Name_kw (CM I hg hm hv ?_ hn hdb);exact PyProof.Rows.callWith_builtin1 (A9 (ha pos ad s σ H _ I h) λus s1 ⟨vs,H1,I1,r1,q1⟩=>hc ad s1 σ H1 vs us Q I1 r1 q1) he hpl
theorem Af(hc:CH X (.type T) r)(hg:Gl X x)(hm:X.mg x=none)(hv:bootBuiltins x=some (.type T))(ha:PA X (e::es) t)(hn:x≠"__name__":=by decide)(hdb:(x==("__debug__":Str))=false:=by decide)
  (he:starEach (e::es) X.env=(false,eval e X.env)::starEach es X.env:=by rfl) (hpl:(backTo pos (starEach es X.env)).any (·.1)=false:=by rfl):PE X (.Call (.Name x p) (e::es) [] pos) (VQ r t):=by
 intro ad s σ H Q I h;refine wpAny_Call_Name_kw (CM I hg hm hv ?_ hn hdb);exact Zo (A9 (ha pos ad s σ H _ I h) λus s1 ⟨vs,H1,I1,r1,q1⟩=>hc ad s1 σ H1 vs us Q I1 r1 q1) he hpl
end
end L2
namespace HT
open PySem PyProof.Rows
section
variable{prog:qO}{w:qP}{A:Around}{E:qL->qN->Prop}{s:qN}
noncomputable def GG(n d:Nat):Option Int->Nat
 |none=>d
 |some v=>if v<0 then (v+(n:Int)).toNat else min v.toNat n
end
end HT
namespace L2
open PySem PySem.Spec PyProof.Rows
variable{H:Hp}{X:Cx}{b:qM}{e:Expr}{j n t':Nat}{ad:List (qM×Obj)}{pos:Pos}{s:qN}{te:TE}{u:qL}{us:List qL}{xs:List V}{y:V}{α:Type}{σ:St}
abbrev TO:=St->Hp->(Option Int->Hp->Prop)->Prop
def PO(X:Cx)(e:Option Expr)(t:TO):Prop:=
 ∀(ad:List (qM×Obj)) (s:qN) (σ:St) (H:Hp) (Q:Option Int->Hp->Prop),AW X ad σ H s->t σ H Q ->
  wpAny (model X.prog X.w) X.A (evalPart e X.env) (λu s'=>∃o H',AW X ad σ H' s'/\IsPart u o/\Q o H') X.xe s
def JI:TO:=λ_ H Q=>Q none H
def SM(t:TE):TO:=λσ H Q=>t σ H λx H1=>∃i,x=.int i/\Q (some i) H1
theorem Gg{ns:qR}:∀{us:List qL},Ag (ns.map V.int) us->IntsAre us ns:=by
 induction ns with
 |nil=>intro us r;rw[List.map_nil]at r;cases r;exact .nil
 |cons n ns ih =>
  intro us r;rw[Zp]at r;cases r with
  |cons r1 r2 =>
   obtain⟨t,e⟩:=r1;subst e;exact .cons n t (ih r2)
section
variable{lo hi:Option Expr}{tl th:TO}{p2:Pos}
theorem Cs:PO X none JI:=by intro ad s σ H Q I h;rw[evalPart_none];exact qB ⟨none,H,I,.none,h⟩
theorem Bp(h:PE X e te):PO X (some e) (SM te):=by intro ad s σ H Q I hw;rw[evalPart_some];refine A9 (h ad s σ H _ I hw) λu s1 z9=>?_;obtain⟨x,H1,I1,r1,q1⟩:=z9;obtain⟨i,rfl,q⟩:=q1;obtain⟨t,rfl⟩:=r1;exact⟨some i,H1,I1,.int i t,q⟩
def YN(X:Cx)(r:V->Option Int->Option Int->Hp->VK->Prop):Prop:=
 ∀(ad:List (qM×Obj)) (s:qN) (σ:St) (H:Hp) (x:V) (v vl vu:qL) (lo hi:Option Int) (sl:qM) (Q:VK),AW X ad σ H s->Al x v->s.heap.IsSliceOf sl vl vu .none->IsPart vl lo->IsPart vu hi->r x lo hi H Q ->
  ∃T id,typeLookup (.type T) "__getitem__"=pure (some (.builtin id))/\s.TypeIs v T/\wpAny (model X.prog X.w) X.A (getItem v (.ref sl)) (EP X ad σ Q) X.xe s
def Y7(r:V->Option Int->Option Int->Hp->VK->Prop)(te:TE)(tl th:TO):TE:=λσ H Q=>te σ H λx H1=>tl σ H1 λl H2=>th σ H2 λu H3=>r x l u H3 Q
theorem Bn{r:V->Option Int->Option Int->Hp->VK->Prop}(hr:YN X r)(he:PE X e te)(hl:PO X lo tl)(hu:PO X hi th):PE X (.Subscript e (.Slice lo hi none p2) pos) (Y7 r te tl th):=by
 intro ad s σ H Q I h;refine Subscript_ (A9 (he ad s σ H _ I h) λv s1 z9=>?_);obtain⟨x,H1,I1,r1,q1⟩:=z9;refine wpAny_Slice (A9 (hl ad s1 σ H1 _ I1 q1) λvl s2 ⟨l,H2,I2,pl,q2⟩=>A9 (hu ad s2 σ H2 _ I2 q2) λvu s3 z9=>?_);obtain⟨u,H3,I3,pu,q3⟩:=z9;rw[evalPart_none];refine qB ?_;have I4:AW X ad σ H3 {s3 with heap:=s3.heap.push {cls:=.type "slice",data:=.fields #[vl,vu,.none]}}:=I3.kept (t':=s3.toks) λb ob q=>ZN _ q
 obtain⟨T,id,hT,ht,hg⟩:=hr ad {s3 with heap:=s3.heap.push {cls:=.type "slice",data:=.fields #[vl,vu,.none]}} σ H3 x v vl vu l u s3.heap.objs.size Q I4 r1 (Heap.IsSliceOf.new ..) pl pu q3;show wpAny (model X.prog X.w) X.A (subscriptTail e (.Slice lo hi none p2) v (.ref s3.heap.objs.size)) (EP X ad σ Q) X.xe {s3 with heap:=s3.heap.push {cls:=.type "slice",data:=.fields #[vl,vu,.none]}};exact tail_any (ops:=[.ref s3.heap.objs.size,v]) ht hT hg (by with_unfolding_all rfl)
noncomputable def FT(xs:List V)(lo hi:Option Int):List V:=(xs.drop (HT.GG xs.length 0 lo)).take (HT.GG xs.length xs.length hi-HT.GG xs.length 0 lo)
theorem Kc(xs:List V)(lo hi:Option Int):(FT xs lo hi).length<=xs.length:=by unfold FT;rw[Zt,Z1];lia
end
noncomputable def Le(n:Nat)(i:Int):Option Nat:=if 0<=i then (if i<n then some i.toNat else none) else if -(n:Int)<=i then some (i+n).toNat else none
noncomputable def Fu{α:Type}(xs:List α)(i:Int):Option α:=(Le xs.length i).bind λj=>xs[j]?
theorem JJ{i:Int}(h:Le n i=some j):seqIndex? i n=some j/\j<n/\-(n:Int)<=i/\i<n:=by
 unfold Le at h
 by_cases h0:0<=i
 ·rw[qD h0]at h
  by_cases h1:i<n
  ·rw[qD h1]at h;have e:i.toNat=j:=Option.some.inj h;exact⟨by rw[seqIndex_of h0 h1,e],by lia,by lia,h1⟩
  ·rw[qC h1]at h;cases h
 ·rw[qC h0]at h
  by_cases h1:-(n:Int)<=i
  ·rw[qD h1]at h;have e:(i+n).toNat=j:=Option.some.inj h;exact⟨by rw[seqIndex_neg (by lia) h1,e],by lia,h1,by lia⟩
  ·rw[qC h1]at h;cases h
theorem JK{xs:List α}{i:Int}{v:α}(h:Fu xs i=some v):∃j,seqIndex? i xs.length=some j/\xs[j]?=some v/\j<xs.length/\-(xs.length:Int)<=i/\i<xs.length:=by
 unfold Fu at h;cases e:Le xs.length i with
 |none=>rw[e]at h;cases h
 |some j =>
  rw[e]at h;obtain⟨h1,h2,h3,h4⟩:=JJ e;exact⟨j,h1,h,h2,h3,h4⟩
theorem Ct{xs:List α}{v:α}(h:xs[j]?=some v):Fu xs (j:Int)=some v:=by
 have hj:j<xs.length:=(ZW.mp h).1
 have e:Le xs.length (j:Int)=some j:=by unfold Le;rw[qD (by lia),qD (by lia)];simp
 unfold Fu;rw[e];exact h
def Q9(b:Expr):Prop:=∀o i,subscripted b false o i=operate [o,i] (getItem o i)
def SN(X:Cx)(r:R2):Prop:=
 ∀(value slice:Expr) (ad:List (qM×Obj)) (s:qN) (σ:St) (H:Hp) (x y:V) (v u:qL) (Q:VK),AW X ad σ H s->Al x v->Al y u->r x y H Q ->
  subscripted slice false v u=operate [v,u] (getItem v u)->wpAny (model X.prog X.w) X.A (subscriptTail value slice v u) (EP X ad σ Q) X.xe s
def U7(X:Cx)(id:String)(r:V->List V->Hp->VK->Prop):Prop:=
 ∀(ad:List (qM×Obj)) (s:qN) (σ:St) (H:Hp) (x:V) (xs:List V) (v:qL) (us:List qL) (Q:VK),AW X ad σ H s->Al x v->Ag xs us->r x xs H Q ->
  wpAny (model X.prog X.w) X.A (call (.builtin id) (v::us)) (EP X ad σ Q) X.xe s
variable{p:qM}{its:List qL}{T:String}
section
variable{a b:Expr}{ta tb:TE}
theorem AH{r:R2}(hr:SN X r)(ha:PE X a ta)(hb:PE X b tb)(hs:Q9 b):PE X (.Subscript a b pos) (VN r ta tb):=by intro ad s σ H Q I h;exact Subscript_ (S6 ha hb I h λv u s2 x y H2 I2 rx ry q=>hr a b ad s2 σ H2 x y v u Q I2 rx ry q (hs _ _))
def RA(K:qQ):R2:=λx y H Q=>∃p xs i v,x=.ref p/\y=.int i/\Ac K H p xs/\Fu xs i=some v/\Q v H
def RC(K:qQ):R2:=λx y H Q=>∃p xs i v,x=.ref p/\y=.int i/\Ao K H p xs/\Fu xs i=some v/\Q v H
def YO:R2:=λx y H Q=>∃z i c,x=.str z/\y=.int i/\z.length<=sizeLine/\Fu z.cps.toList i=some c/\Q (.str ⟨#[c]⟩) H
theorem Mu:SN X (RA X.K):=by
 intro value slice ad s σ H x y v u Q I rx ry h hs;refine byG λGq hGq=>?_;obtain⟨p,xs,i,z,rfl,rfl,hq,he,q⟩:=h;refine hGq ?_;clear hGq Gq;cases rx;obtain⟨t,rfl⟩:=ry;refine byG λGq hGq=>?_;obtain⟨its,r,pl,hz⟩:=I.list hq;refine hGq ?_;clear hGq Gq;refine byG λGq hGq=>?_;obtain⟨j,h1,h2,h3,h4,h5⟩:=JK he;refine hGq ?_;clear hGq Gq;obtain⟨w,ew,rw'⟩:=r.get h2;have hl:=r.length;have hn:=DJ;have fin:EP X ad σ Q w s:=⟨z,H,I,rw',q⟩
 by_cases h0:0<=i
 ·have hj:i.toNat=j:=by
   rw[seqIndex_of h0 h5]at h1;exact Option.some.inj h1
  exact item_listR pl.isList h0 (by lia) (by rw[hj];simpa using ew) fin hs
 ·have hj:(i+(its.toArray.size:Int)).toNat=j:=by
   rw[seqIndex_neg (by lia) h4]at h1;rw[Zq,<-hl];exact Option.some.inj h1
  exact subscriptTail_builtinR (x:=w) pl.isList.typeIs slot_list_getitem.lookup
   (wpAny_getItem_list_neg (Q:=λr s'=>r=w/\EP X ad σ Q r s') pl.isList (by lia) (by rw[List.size_toArray]<;>lia) (by lia) (by rw[hj];simpa using ew) ⟨rfl,fin⟩) hs
theorem Oy:SN X (RC X.K):=by
 intro value slice ad s σ H x y v u Q I rx ry h hs;obtain⟨p,xs,i,z,rfl,rfl,hq,he,q⟩:=h;cases rx;obtain⟨t,rfl⟩:=ry;obtain⟨its,r,pl,hz⟩:=I.tuple hq;obtain⟨j,h1,h2,h3,h4,h5⟩:=JK he;obtain⟨w,ew,rw'⟩:=r.get h2;have hl:=r.length;have hn:=DJ;have fin:EP X ad σ Q w s:=⟨z,H,I,rw',q⟩
 exact subscriptTail_builtinR (x:=w) pl.typeIs slot_tuple_getitem.lookup
  (getItem_tuple (j:=j) (Q:=λr s'=>r=w/\EP X ad σ Q r s') pl (by lia) (by lia) (by rw[List.size_toArray,<-hl];exact h1) (by simpa using ew) ⟨rfl,fin⟩) hs
theorem JL:SN X YO:=by
 intro value slice ad s σ H x y v u Q I rx ry h hs;refine byG λGq hGq=>?_;obtain⟨z,i,c,rfl,rfl,hz,he,q⟩:=h;refine hGq ?_;clear hGq Gq;obtain⟨t,rfl⟩:=rx;obtain⟨t',rfl⟩:=ry;refine byG λGq hGq=>?_;obtain⟨j,h1,h2,h3,h4,h5⟩:=JK he;refine hGq ?_;clear hGq Gq;have hl:z.cps.toList.length=z.length:=by simp[Str.length]
 rw[hl]at h1 h4 h5;have hn:=DJ
 exact tail_any (typeIs_str s z t) slot_str_getitem.lookup (getItem_str (c:=c) (by have e1:decide (i < -(2^63:Int))=false:=qG (by lia);have e2:decide (i≥2^63)=false:=qG (by lia);rw[e1,e2,Bool.or_false]) (by rw[h1];simpa using h2) ⟨.str ⟨#[c]⟩,H,I.tok _,⟨_,rfl⟩,q⟩) hs
theorem Lw(its:List qL)(n j:Nat)(u:qL):Obj.mapSeq (·.setIfInBounds j u) {cls:=.type "list",data:=.seq its.toArray n}={cls:=.type "list",data:=.seq (its.set j u).toArray n}:=by simp[Obj.mapSeq]
theorem AW.lst(I:AW X ad σ H s)(h:H p=some (.lst xs)):
  ∃(its:List qL) (n:Nat),Ag xs its/\s.heap.get? p=some {cls:=.type "list",data:=.seq its.toArray n}/\xs.length<=sizeLine:=by
 refine byG λGq hGq=>?_;obtain⟨z,its,n,r,e⟩:=I.hok p _ h;refine hGq ?_;clear hGq Gq;exact⟨its,n,r,e,z⟩
theorem AW.lstUpd{ys:List V}{its':List qL}{n':Nat}{f:Obj->Obj}(I:AW X ad σ H s)(h:H p=some (.lst xs))
  (ho:s.heap.get? p=some {cls:=.type "list",data:=.seq its.toArray n}) (hf:f {cls:=.type "list",data:=.seq its.toArray n}={cls:=.type "list",data:=.seq its'.toArray n'}) (r:Ag ys its') (hz:ys.length<=sizeLine) (t:Nat):
  AW X ad σ (Am H p (.lst ys)) {s with heap:=s.heap.update p f,toks:=t}:=by
 have e:(s.heap.update p f).get? p=some {cls:=.type "list",data:=.seq its'.toArray n'}:=by rw[Zr f ho (by rw[hf]<;>rfl),hf]
 refine I.write (x:=p) (e:=p) (by rw[h];trivial) (.inl rfl) (λb u hb q=>(Z6 _ _ (Ne.symm hb)).trans q) ⟨_,e⟩ ?_;exact⟨hz,its',n',r,e⟩
def VR:V->V->V->Hp->(Hp->Prop)->Prop:=λo i v H Q=>∃p xs k j,o=.ref p/\i=.int k/\H p=some (.lst xs)/\Le xs.length k=some j/\Q (Am H p (.lst (xs.set j v)))
theorem Oz:VI X VR:=by
 intro ad s σ H o i v ov iv u Q I ro ri rv h;refine byG λGq hGq=>?_;obtain⟨p,xs,k,j,rfl,rfl,hp,hj,q⟩:=h;refine hGq ?_;clear hGq Gq;cases ro;obtain⟨t,rfl⟩:=ri;refine byG λGq hGq=>?_;obtain⟨its,n,r,ho,hz⟩:=I.lst hp;refine hGq ?_;clear hGq Gq;refine byG λGq hGq=>?_;obtain⟨h1,h2,h3,h4⟩:=JJ hj;refine hGq ?_;clear hGq Gq;have hl:=r.length;have hn:=DJ
 have I':AW X ad σ (Am H p (.lst (xs.set j v))) {s with heap:=s.heap.update p (Obj.mapSeq (·.setIfInBounds j u))}:=
  I.lstUpd hp ho (Lw its n j u) (r.set rv j) (by rw[cB];exact hz) s.toks
 by_cases h0:0<=k
 ·have hk:k.toNat=j:=by
   rw[seqIndex_of h0 h4]at h1;exact Option.some.inj h1
  exact PySem.W.ki_setAt ho h0 (by lia) (by rw[Zq,<-hl];exact h4) (by rw[hk];exact⟨_,I',q⟩)
 ·have hk:(k+(its.toArray.size:Int)).toNat=j:=by
   rw[seqIndex_neg (by lia) h3]at h1;rw[Zq,<-hl];exact Option.some.inj h1
  exact PySem.W.ki_setBack ho (by lia) (by rw[Zq,<-hl];exact h3) (by lia) (by rw[hk];exact⟨_,I',q⟩)
theorem JM(lo hi:Option Int)(n:Nat):(sliceBounds lo hi none n).1=((HT.GG n 0 lo:Nat):Int)/\(sliceBounds lo hi none n).2.1=((HT.GG n n hi:Nat):Int)/\(sliceBounds lo hi none n).2.2=1:=by
 refine⟨?_,?_,rfl⟩
 ·cases lo with
  |none=>simp[sliceBounds,HT.GG]
  |some i =>
   simp only[sliceBounds,HT.GG,Option.getD_none,show (1:Int)>0 by decide,if_true]
   by_cases h:i<0
   ·simp only[h,if_true]<;>lia
   ·simp only[h,if_false]<;>lia
 ·cases hi with
  |none=>simp[sliceBounds,HT.GG]
  |some i =>
   simp only[sliceBounds,HT.GG,Option.getD_none,show (1:Int)>0 by decide,if_true]
   by_cases h:i<0
   ·simp only[h,if_true]<;>lia
   ·simp only[h,if_false]<;>lia
theorem Ht(its:List qL)(lo hi:Option Int):slicePick its.toArray lo hi none=((its.drop (HT.GG its.length 0 lo)).take (HT.GG its.length its.length hi-HT.GG its.length 0 lo)).toArray:=by obtain⟨h1,h2,h3⟩:=JM lo hi its.toArray.size;unfold slicePick;rw[h1,h2,h3];simp only[sliceRange_one,pick_run,List.size_toArray]<;>rfl
def VS(K:qQ):V->Option Int->Option Int->Hp->VK->Prop:=λx lo hi H Q=>∃a xs,x=.ref a/\Ac K H a xs/\∀p,H p=none->Q (.ref p) (Am H p (.lst (FT xs lo hi)))
theorem Dt:YN X (VS X.K):=by intro ad s σ H x v vl vu lo hi sl Q I rx hs pl pu h;refine byG λGq hGq=>?_;obtain⟨a,xs,rfl,hx,q⟩:=h;refine hGq ?_;clear hGq Gq;cases rx;refine byG λGq hGq=>?_;obtain⟨its,r,ht,hz⟩:=I.list hx;refine hGq ?_;clear hGq Gq;have hlen:=r.length;refine⟨"list",_,slot_list_getitem.lookup,ht.isList.typeIs,?_⟩;refine wpAny_getItem_list_slice ht.isList hs pl pu .none (by simp) ?_ (by rw[List.size_toArray]<;>lia);rw[Ht,<-hlen];refine⟨.ref s.heap.objs.size,_,I.laid (t':=s.toks) (o:=.lst (FT xs lo hi)) (λb ob q=>ZN _ q) (ZR _) ?_,rfl,q _ (I.hok.fresh (ZR _))⟩;exact⟨Zl (Kc xs lo hi) hz,_,0,(r.drop (HT.GG xs.length 0 lo)).take (HT.GG xs.length xs.length hi-HT.GG xs.length 0 lo),ZU _ rfl⟩
noncomputable def Eh:V->Bool
 |.non=>true
 |.bl _=>true
 |.int _=>true
 |.str _=>true
 |_=>false
noncomputable def O0:V->V->Bool
 |.non,.non=>true
 |.bl a,.bl b=>a==b
 |.bl a,.int b=>(if a then 1 else 0)==b
 |.int a,.bl b=>a==(if b then 1 else 0)
 |.int a,.int b=>a==b
 |.str a,.str b=>a==b
 |_,_=>false
theorem TF{A:Around}{x:V}{v:qL}(ry:Al y u)(rx:Al x v)(fy:Eh y=true)(fx:Eh x=true):SeqAt.EqAt A s u v (O0 y x):=by
 cases y with
 |non =>
  cases ry;cases x with
  |non=>cases rx;exact SeqAt.EqAt.same _
  |bl b=>cases rx;exact SeqAt.EqAt.none_bool b
  |int b=>obtain⟨t,rfl⟩:=rx;exact SeqAt.EqAt.none_int b t
  |str b=>obtain⟨t,rfl⟩:=rx;exact SeqAt.EqAt.none_str b t
  |_=>exact qE (show false=true from fx) ZY
 |bl a =>
  cases ry;cases x with
  |non=>cases rx;exact SeqAt.EqAt.bool_none a
  |bl b=>cases rx;exact SeqAt.EqAt.bool_bool a b
  |int b=>obtain⟨t,rfl⟩:=rx;exact SeqAt.EqAt.bool_int a b t
  |str b=>obtain⟨t,rfl⟩:=rx;exact SeqAt.EqAt.bool_str a b t
  |_=>exact qE (show false=true from fx) ZY
 |int a =>
  obtain⟨t',rfl⟩:=ry;cases x with
  |non=>cases rx;exact SeqAt.EqAt.int_none a t'
  |bl b=>cases rx;exact SeqAt.EqAt.int_bool a t' b
  |int b=>obtain⟨t,rfl⟩:=rx;exact SeqAt.EqAt.int_int a t' b t
  |str b=>obtain⟨t,rfl⟩:=rx;exact SeqAt.EqAt.int_str a t' b t
  |_=>exact qE (show false=true from fx) ZY
 |str a =>
  obtain⟨t',rfl⟩:=ry;cases x with
  |non=>cases rx;exact SeqAt.EqAt.str_none a t'
  |bl b=>cases rx;exact SeqAt.EqAt.str_bool a t' b
  |int b=>obtain⟨t,rfl⟩:=rx;exact SeqAt.EqAt.str_int a t' b t
  |str b=>obtain⟨t,rfl⟩:=rx;exact SeqAt.EqAt.str_str a t' b t
  |_=>exact qE (show false=true from fx) ZY
 |_=>exact qE (show false=true from fy) ZY
noncomputable def RD(x:V)(u:qL):Bool:=match u with
 |.none=>O0 .non x
 |.bool b=>O0 (.bl b) x
 |.int i _=>O0 (.int i) x
 |.str z _=>O0 (.str z) x
 |_=>false
theorem O1{x:V}(r:Al y u)(f:Eh y=true):RD x u=O0 y x:=by
 cases y with
 |non=>cases r;rfl
 |bl b=>cases r;rfl
 |int i=>obtain⟨t,rfl⟩:=r;rfl
 |str z=>obtain⟨t,rfl⟩:=r;rfl
 |_=>exact qE (show false=true from f) ZY
theorem JN{x:V}:∀{xs:List V} {us:List qL},Ag xs us->xs.all Eh=true->us.any (RD x)=xs.any λy=>O0 y x
 |_,_,.nil,_=>rfl
 |y::xs,u::us,.cons r t,f=>by rw[List.all_cons,Ze]at f;rw[aX,aX,O1 r f.1,JN t f.2]
theorem Gh{A:Around}{x:V}{v:qL}(rx:Al x v)(fx:Eh x=true):∀{xs:List V} {us:List qL},Ag xs us->xs.all Eh=true->∀u∈us,SeqAt.EqAt A s u v (RD x u)
 |_,_,.nil,_=>λu hu=>by cases hu
 |y::xs,u::us,.cons r t,f=>λu' hu=>by
  rw[List.all_cons,Ze]at f;rcases Zd.mp hu with rfl|hu
  ·rw[O1 r f.1];exact TF r rx f.1 fx
  ·exact Gh rx fx t f.2 u' hu
noncomputable def U8(x:V)(xs:List V):Bool:=xs.any λy=>O0 y x
def ZE(K:qQ)(neg:Bool):R2:=λx y H Q=>∃p xs,y=.ref p/\(Ac K H p xs\/Ao K H p xs)/\Eh x=true/\xs.all Eh=true/\Q (.bl (if neg then !U8 x xs else U8 x xs)) H
theorem Ny:FQ X (compareOp .In) (ZE X.K false):=by
 intro ad s σ H x y v u Q I rx ry h;refine byG λGq hGq=>?_;obtain⟨p,xs,rfl,hq,fx,fs,q⟩:=h;refine hGq ?_;clear hGq Gq;cases ry;rcases hq with hq|hq
 ·refine byG λGq hGq=>?_;obtain⟨its,r,pl,hz⟩:=I.list hq;refine hGq ?_;clear hGq Gq;refine SeqAt.in_listAt (RD x) pl.isList (λw hw=>Gh rx fx r fs w (by simpa using hw)) ⟨.bl _,H,I,rfl,?_⟩;rw[show its.toArray.any (RD x)=its.any (RD x) by simp,JN r fs];exact q
 ·refine byG λGq hGq=>?_;obtain⟨its,r,pl,hz⟩:=I.tuple hq;refine hGq ?_;clear hGq Gq;refine SeqAt.in_tupleAt (RD x) pl (λw hw=>Gh rx fx r fs w (by simpa using hw)) ⟨.bl _,H,I,rfl,?_⟩;rw[show its.toArray.any (RD x)=its.any (RD x) by simp,JN r fs];exact q
theorem JO:CH X (.builtin "len") (λxs H Q=>∃p ys,xs=[.ref p]/\(Ac X.K H p ys\/Ao X.K H p ys)/\Q (.int ys.length) H):=by
 intro ad s σ H xs us Q I r h;refine byG λGq hGq=>?_;obtain⟨p,ys,rfl,hq,q⟩:=h;refine hGq ?_;clear hGq Gq;obtain⟨u,rfl,rx⟩:=CQ r;cases rx;have hn:=DJ;rcases hq with hq|hq
 ·refine byG λGq hGq=>?_;obtain⟨its,r',pl,hz⟩:=I.list hq;refine hGq ?_;clear hGq Gq;have hlen:=r'.length;exact Calls.call_len_list pl.isList (by simp only[List.size_toArray]<;>lia) ⟨.int ys.length,H,I.tok _,⟨s.toks+1,by rw[List.size_toArray,hlen]⟩,q⟩
 ·refine byG λGq hGq=>?_;obtain⟨its,r',pl,hz⟩:=I.tuple hq;refine hGq ?_;clear hGq Gq;have hlen:=r'.length;exact len_tuple pl (by simp only[List.size_toArray]<;>lia) ⟨.int ys.length,H,I.tok _,⟨s.toks+1,by rw[List.size_toArray,hlen]⟩,q⟩
theorem By:CH X (.builtin "len") (λxs H Q=>∃z,xs=[.str z]/\z.length<=sizeLine/\Q (.int z.length) H):=by intro ad s σ H xs us Q I r h;obtain⟨z,rfl,hz,q⟩:=h;obtain⟨u,rfl,t,rfl⟩:=CQ r;have hn:=DJ;exact len_str (by lia) ⟨.int z.length,H,I.tok _,⟨_,rfl⟩,q⟩
theorem JP:CH X (.type "list") (λxs H Q=>∃p ys,xs=[.ref p]/\(Ac X.K H p ys\/Ao X.K H p ys)/\∀l,H l=none->Q (.ref l) (Am H l (.lst ys))):=by
 intro ad s σ H xs us Q I r h;refine byG λGq hGq=>?_;obtain⟨p,ys,rfl,hq,q⟩:=h;refine hGq ?_;clear hGq Gq;obtain⟨u,rfl,rx⟩:=CQ r;cases rx
 have fin:∀(its:List qL),Ag ys its->ys.length<=sizeLine->∀(h':Heap) (c':Nat),(∀b o',s.heap.get? b=some o'->h'.get? b=some o') ->
   h'.get? s.heap.objs.size=some {cls:=.type "list",dict:=none,data:=.seq its.toArray c',slots:=#[]}->EP X ad σ Q (.ref s.heap.objs.size) {s with heap:=h'}:=λits r' hz h' c' kp e =>
  ⟨.ref s.heap.objs.size,_,I.laid (t':=s.toks) kp (ZR _) (show Av X.prog X.w _ h' _ (.lst ys) from⟨hz,its,c',r',e⟩),rfl,q _ (I.hok.fresh (ZR _))⟩
 rcases hq with hq|hq
 ·refine byG λGq hGq=>?_;obtain⟨its,r',pl,hz⟩:=I.list hq;refine hGq ?_;clear hGq Gq;have hlen:=r'.length;refine byG λGq hGq=>?_;obtain⟨o,ho,hc,n,hd⟩:=pl.isList;refine hGq ?_;clear hGq Gq;exact call_list_seq p (.inl rfl) ho hc hd (λh' c' kp e=>fin its r' hz h' c' kp e) (by simp only[List.size_toArray]<;>lia)
 ·refine byG λGq hGq=>?_;obtain⟨its,r',pl,hz⟩:=I.tuple hq;refine hGq ?_;clear hGq Gq;have hlen:=r'.length;refine byG λGq hGq=>?_;obtain⟨o,ho,hc,n,hd⟩:=pl;refine hGq ?_;clear hGq Gq;exact call_list_seq p (.inr rfl) ho hc hd (λh' c' kp e=>fin its r' hz h' c' kp e) (by simp only[List.size_toArray]<;>lia)
theorem Bo:CH X (.type "tuple") (λxs H Q=>∃p ys,xs=[.ref p]/\((Ac X.K H p ys/\∀l,H l=none->Q (.ref l) (Am H l (.tup ys)))\/(Ao X.K H p ys/\Q (.ref p) H))):=by
 intro ad s σ H xs us Q I r h;obtain⟨p,ys,rfl,h⟩:=h;obtain⟨u,rfl,rx⟩:=CQ r;cases rx;rcases h with⟨hq,q⟩|⟨hq,q⟩
 ·obtain⟨its,r',pl,hz⟩:=I.list hq;have hlen:=r'.length;refine call_tuple_list pl.isList (λh' kp=>?_) (by simp only[List.size_toArray]<;>lia);have I1:AW X ad σ H {s with heap:=h'}:=I.kept (t':=s.toks) kp
  have I2:AW X ad σ (Am H h'.objs.size (.tup ys)) {s with heap:=h'.push {cls:=.type "tuple",data:=.seq its.toArray}}:=
   I1.laid (t':=s.toks) (λb o e=>ZN _ e) (ZR _) (show Av X.prog X.w _ _ _ (.tup ys) from⟨hz,its,r',IsTup.new _ _⟩)
  exact⟨.ref h'.objs.size,_,I2,rfl,q _ (I1.hok.fresh (ZR _))⟩
 ·obtain⟨its,r',pl,hz⟩:=I.tuple hq;exact call_tuple_same pl ⟨.ref p,H,I,rfl,q⟩
def YQ(K:qQ)(T:String)(x:V)(H:Hp):Prop:=match x with
 |.str _=>T="str"
 |.int _=>T="int"
 |.ref p=>(T="list"/\∃xs,Ac K H p xs)\/(T="tuple"/\∃o,K.lookup p=some o/\o.cls=.type "tuple"/\o.dict=none) \/
   (T="dict"/\((∃kvs,H p=some (.dK kvs))\/∃kvs,H p=some (.dT kvs)))\/(T="set"/\∃S n,H p=some (.set S n))
 |_=>False
theorem TH{x:V}{v:qL}(I:AW X ad σ H s)(r:Al x v)(ty:YQ X.K T x H):
  s.TypeIs v T/\∀a,v=.ref a->∃ob,s.heap.get? a=some ob/\ob.dict=none:=by
 cases x with
 |str z =>
  obtain⟨t,rfl⟩:=r;cases (show T="str" from ty);exact⟨typeIs_str s z t,λ_ e=>nomatch e⟩
 |int i =>
  obtain⟨t,rfl⟩:=r;cases (show T="int" from ty);exact⟨typeIs_int s i t,λ_ e=>nomatch e⟩
 |ref p =>
  cases r;rcases ty with⟨rfl,xs,hq⟩|⟨rfl,o,hk,hc,hd⟩|⟨rfl,hk⟩|⟨rfl,S,n,hk⟩
  ·refine byG λGq hGq=>?_;obtain⟨its,_,pl,_⟩:=I.list hq;refine hGq ?_;clear hGq Gq;refine⟨pl.isList.typeIs,λa e=>?_⟩;cases e;refine byG λGq hGq=>?_;obtain⟨o,n,e,c,hd,_⟩:=pl;refine hGq ?_;clear hGq Gq;exact⟨o,e,hd⟩
  ·refine⟨⟨o,I.kIn p o hk,hc⟩,λa e=>?_⟩;cases e;exact⟨o,I.kIn _ o hk,hd⟩
  ·have z:∃o,s.heap.get? p=some o/\o.ExactDict:=by
    rcases hk with⟨kvs,hk⟩|⟨kvs,hk⟩
    ·refine byG λGq hGq=>?_;obtain⟨_,_,_,_,o,_,_,e,ex,_⟩:=I.hok p _ hk;refine hGq ?_;clear hGq Gq;exact⟨o,e,ex⟩
    ·refine byG λGq hGq=>?_;obtain⟨_,_,_,_,o,_,_,e,ex,_⟩:=I.hok p _ hk;refine hGq ?_;clear hGq Gq;exact⟨o,e,ex⟩
   obtain⟨o,e,ex⟩:=z;refine⟨⟨o,e,ex.1⟩,λa e2=>?_⟩;cases e2;exact⟨o,e,ex.2.1⟩
  ·refine byG λGq hGq=>?_;obtain⟨o,_,_,_,e,ex,_⟩:=I.hok p _ hk;refine hGq ?_;clear hGq Gq;refine⟨⟨o,e,ex.1⟩,λa e2=>?_⟩;cases e2;exact⟨o,e,ex.2.1⟩
 |_=>exact False.elim ty
def YR(K:qQ)(T:String)(r:V->List V->Hp->VK->Prop)(to:TE)(t:TA):TE:=λσ H Q=>to σ H λx H1=>YQ K T x H1/\t σ H1 λxs H2=>r x xs H2 Q
variable{o:Expr}{es:List Expr}{to:TE}{t:TA}{name:Str}{apos cpos:Pos}{id:String}{r:V->List V->Hp->VK->Prop}
theorem Cu(pa:PlainAttrs T)(slot:Slot T name id)(hty:typeOf (.builtin id)=pure (.type "method_descriptor"))(hm:U7 X id r)(ho:PE X o to)(ha:PA X (e::es) t)
  (hbase:attributeBase o name X.env (eval o X.env)=eval o X.env:=by rfl)
  (hfew:((backTo cpos (starEach (e::es) X.env)).all (λx=>!x.1)&&(backToKw cpos (keywordEach [] X.env)).all (λx=>x.1.isSome)
   && decide ((e::es).length+([]:List Keyword).length+(if ([]:List Keyword).isEmpty then 0 else 1)<30))=true:=by rfl)
  (hline:(apos.endLine==cpos.line)=true:=by rfl) (hs:starEach (e::es) X.env=(false,eval e X.env)::starEach es X.env:=by rfl) (hplain:(backTo cpos (starEach es X.env)).any (·.1)=false:=by rfl):
  PE X (.Call (.Attribute o name apos) (e::es) [] cpos) (YR X.K T r to t):=by
 intro ad s σ H Q I h;refine wpAny_Call_method_late hbase hfew hline rfl (A9 (ho ad s σ H _ I h) λv s1 z9=>?_);obtain⟨x,H1,I1,r1,ty,q1⟩:=z9;obtain⟨h1,h2⟩:=TH I1 r1 ty;refine⟨T,id,pa,slot,hty,h1,h2,?_⟩;have hA:=ha cpos ad s1 σ H1 _ I1 q1;rw[hs]at hA⊢;refine Calls.callWith_builtin (by show (false||(backTo cpos (starEach es X.env)).any (·.1))=false;rw[hplain]<;>rfl) (Calls.evalArgs_plain ?_);exact A9 hA λus s2 ⟨vs,H2,I2,r2,q2⟩=>hm ad s2 σ H2 x vs v us Q I2 r1 r2 q2
end
def ZF(X:Cx)(id:String)(r:V->List V->Hp->VK->Prop):Prop:=
 ∀(ad:List (qM×Obj)) (s:qN) (σ:St) (H:Hp) (x:V) (xs:List V) (v:qL) (us:List qL) (Q:VK),AW X ad σ H s->Al x v->Ag xs us->r x xs H Q ->
  wpAny (model X.prog X.w) X.A (call (.builtin id) (v::us)) (EP X ad σ Q) X.xe s
theorem Ag.one:∀{x:V} {us:List qL},Ag [x] us->∃u,us=[u]/\Al x u:=by
 intro _ _ r;cases r with
 |cons r t=>cases t;exact⟨_,rfl,r⟩
theorem Ag.reverse(h:Ag xs us):Ag xs.reverse us.reverse:=by
 induction h with
 |nil=>exact .nil
 |cons r t ih=>rw[List.reverse_cons,List.reverse_cons];exact Ag.append ih (.cons r .nil)
theorem Ag.rep(h:Ag xs us):∀k:Nat,Ag (List.replicate k xs).flatten (List.replicate k us).flatten
 |0=>.nil
 |k+1=>by rw[aF,aF,bF,bF];exact Ag.append h (Ag.rep h k)
theorem IN(its:List qL):∀(k:Nat) (c9:List qL),
  List.foldl (λx1 x2=>x1++x2) c9.toArray (List.replicate k its.toArray)=(c9++(List.replicate k its).flatten).toArray
 |0,c9=>by simp
 |k+1,c9=>by
  have e:c9.toArray++its.toArray=(c9++its).toArray:=by simp
  have e2:(c9++its)++(List.replicate k its).flatten=c9++(List.replicate (k+1) its).flatten:=by rw[aF,bF,am]
  rw[<-e2,<-IN its k (c9++its),<-e,aF,List.foldl_cons]
section
variable{l:qM}{ys zs:List V}
theorem AW.lset{its':List qL}{f:Array qL->Array qL}{t':Nat}(I:AW X ad σ H s)(hH:H l=some (.lst xs))
  (e:s.heap.get? l=some {cls:=.type "list",data:=.seq its.toArray n}) (hf:f its.toArray=its'.toArray) (hv:Ag ys its') (hz:ys.length<=sizeLine):
  AW X ad σ (Am H l (.lst ys)) {s with heap:=s.heap.update l (Obj.mapSeq f),toks:=t'}:=by
 have q:=PySem.IsL.update e f;rw[hf]at q;refine I.write (x:=l) (e:=l) (by rw[hH];exact trivial) (.inl rfl) (λb' u hb hu=>(Z6 s.heap (Obj.mapSeq f) (Ne.symm hb)).trans hu) ⟨_,q⟩ ?_;exact⟨hz,its',_,hv,q⟩
theorem AW.lnew(I:AW X ad σ H s)(hv:Ag ys its)(hz:ys.length<=sizeLine):
  AW X ad σ (Am H s.heap.objs.size (.lst ys)) {s with heap:=s.heap.push {cls:=.type "list",data:=.seq its.toArray},toks:=t'}:=
 I.laid (λ_ _ q=>ZN _ q) (ZR _) ⟨hz,its,0,hv,ZU _ rfl⟩
theorem AW.fresh(I:AW X ad σ H s):H s.heap.objs.size=none:=I.hok.fresh (ZR _)
theorem AW.lstM(I:AW X ad σ H s)(hH:H l=some (.lst xs)):xs.length<=sizeLine/\∃(its:List qL) (n:Nat),Ag xs its/\xs.length=its.length/\s.heap.get? l=some {cls:=.type "list",data:=.seq its.toArray n}:=by refine byG λGq hGq=>?_;obtain⟨z,its,n,r,e⟩:=I.hok l _ hH;refine hGq ?_;clear hGq Gq;exact⟨z,its,n,r,r.length,e⟩
theorem Ke(h:n<=sizeLine):Builtin.List.listTooLong n=false:=by unfold Builtin.List.listTooLong;exact qG (by lia)
end
def JQ:V->List V->Hp->VK->Prop:=λx vs H Q=>∃l xs y,x=.ref l/\vs=[y]/\H l=some (.lst xs)/\xs.length<sizeLine/\Q .non (Am H l (.lst (xs++[y])))
theorem IP:ZF X "list.append" JQ:=by intro ad s σ H x vs v us Q I rx rv h;refine byG λGq hGq=>?_;obtain⟨l,xs,y,rfl,rfl,hH,hz,q⟩:=h;refine hGq ?_;clear hGq Gq;cases rx;obtain⟨u,rfl,ru⟩:=rv.one;refine byG λGq hGq=>?_;obtain⟨z,its,n,r,hl,e⟩:=I.lstM hH;refine hGq ?_;clear hGq Gq;refine call_meets F.slot_list_append ⟨_,e,rfl⟩ F.entry_list_append (F.args_list_append_2 _ _) (PySem.list_append l its.toArray n u (by rw[Zq];lia)) ⟨e,?_⟩;refine⟨.non,_,I.lset (its':=its++[u]) hH e (by simp) (r.append (.cons ru .nil)) ?_,rfl,q⟩;rw[Zg,bB];lia
def VT:R2:=λx y H Q=>∃l b xs zs,x=.ref l/\y=.ref b/\H l=some (.lst xs)/\H b=some (.lst zs)/\xs.length+zs.length<=sizeLine/\∀p,H p=none->Q (.ref p) (Am H p (.lst (xs++zs)))
theorem TJ:FQ X (binaryOp .Add) VT:=by
 intro ad s σ H x y v u Q I rx ry h;refine byG λGq hGq=>?_;obtain⟨l,b,xs,zs,rfl,rfl,hH,hB,hz,q⟩:=h;refine hGq ?_;clear hGq Gq;cases rx;cases ry;refine byG λGq hGq=>?_;obtain⟨z,its,n,r,hl,e⟩:=I.lstM hH;refine hGq ?_;clear hGq Gq;refine byG λGq hGq=>?_;obtain⟨z2,its2,n2,r2,hl2,e2⟩:=I.lstM hB;refine hGq ?_;clear hGq Gq;refine PySem.P.add_list e e2 ?_ (by rw[Zq,Zq];lia);have ea:its.toArray++its2.toArray=(its++its2).toArray:=by simp
 rw[ea];exact⟨.ref _,_,I.lnew (t':=s.toks) (r.append r2) (by rw[Zg];lia),rfl,q _ I.fresh⟩
def VU:R2:=λx y H Q=>∃l k xs,x=.ref l/\y=.int k/\H l=some (.lst xs)/\-(2^63)<=k/\k<2^63/\xs.length*k.toNat<=sizeLine /\
 ∀p,H p=none->Q (.ref p) (Am H p (.lst (List.replicate k.toNat xs).flatten))
theorem RE(xs:List α)(k:Nat):(List.replicate k xs).flatten.length=k*xs.length:=by
 induction k with
 |zero=>simp
 |succ k ih=>rw[aF,bF,Zg,ih,Nat.succ_mul,Nat.add_comm]
theorem JR:FQ X (binaryOp .Mult) VU:=by
 intro ad s σ H x y v u Q I rx ry h;refine byG λGq hGq=>?_;obtain⟨l,k,xs,rfl,rfl,hH,h1,h2,hz,q⟩:=h;refine hGq ?_;clear hGq Gq;cases rx;obtain⟨t,rfl⟩:=ry;refine byG λGq hGq=>?_;obtain⟨z,its,n,r,hl,e⟩:=I.lstM hH;refine hGq ?_;clear hGq Gq;have hlen:its.toArray.size*k.toNat<=sizeLine:=by rw[Zq,<-hl];exact hz
 have hcap:¬its.toArray.size*k.toNat>(2^63-1)/8:=by
  have:(sizeLine:Nat)<=(2^63-1)/8:=by decide
  lia
 have hfit:¬(!Builtin.List.listFitsIndex k)=true:=by rw[fitsIndex_both h1 h2];exact ZY
 have hlong:¬Builtin.List.listTooLong (its.toArray.size*k.toNat)=true:=by rw[Ke hlen];exact ZY
 have hnew:List.foldl (λx1 x2=>x1++x2) #[] (List.replicate (if its.toArray.isEmpty=true then 0 else k.toNat) its.toArray)=(List.replicate k.toNat its).flatten.toArray:=by
  have f0:∀m:Nat,List.foldl (λx1 x2=>x1++x2) #[] (List.replicate m its.toArray)=(List.replicate m its).flatten.toArray:=λm=>by have:=IN its m [];rw[List.nil_append]at this;exact this
  rw[f0];cases its with
  |nil=>simp
  |cons a r'=>rw[qC (by simp)]
 refine wpAny_binaryOp_repeat_ref (T:="list") (U:="int") (by decide) ⟨_,e,rfl⟩ (λs'=>typeIs_int s' k t) noFill_list_mul F.fills_int_mul F.slot_int_rmul repeat_list F.slot_int_index.lookup
  (call_meets F.slot_int_rmul (typeIs_int s k t) F.entry_int_rmul (F.args_int_rmul_2 _ _) (int___rmul___int_list k t l its.toArray n)
   ⟨e,rfl,⟨_,e,rfl⟩,call_meets F.slot_list_mul ⟨_,e,rfl⟩ F.entry_list_mul (F.args_list_mul_2 _ _) (AutoListH.list___mul___list_int_3 l its.toArray n k t hfit hcap hlong) ⟨e,?_⟩⟩)
 rw[hnew];exact⟨.ref _,_,I.lnew (t':=s.toks) (r.rep k.toNat) (by rw[RE,Nat.mul_comm];exact hz),rfl,q _ I.fresh⟩
end L2
namespace Att
open PySem PySem.W PySem.Calls PyProof.Rows
theorem ints_of_wellAll{P:Params}{h:Heap}:∀(ns:qR) (vs:List qL),WellAll P h vs (ns.map WData.int)->IntsAre vs ns:=by
 intro ns
 induction ns with
 |nil =>
  intro vs w;rw[List.map_nil]at w;cases w;exact .nil
 |cons n ns ih =>
  intro vs w;rw[Zp]at w;cases w with
  |cons a b =>
   cases a;exact .cons _ _ (ih _ b)
theorem script_of{l:OpenLaw}{n:Nat}(hn:l.most=some n){P:Params}{h:Heap}{args:List WData}{vals:List qL}
  (hpre:l.row.toRowW.claim.pre args=true) (hwl:WellAll P h vals args):
  ∃a vs ns,vals=[Value.ref a]/\args=[WData.list (ns.map WData.int)]/\h.get? a=some {cls:=.type "list",data:=.seq vs.toArray}/\IntsAre vs ns/\ns.length<=n:=by
 have hsh:WShape.hasAll [] args [.list .int]=true:=(pre_splitW hpre).1;have hc:l.pre.holds [] {args:=args}=true:=(pre_splitW hpre).2;obtain⟨d,r,rfl,h1,h2⟩:=hasAllW_cons hsh;obtain rfl:=hasAllW_nil h2;obtain⟨xs,rfl,h3⟩:=hasW_list h1;obtain⟨ns,rfl⟩:=items_int h3
 have hlen:ns.length<=n:=by
  unfold OpenLaw.pre at hc
  have h4:(WTm.not (.lt (.lit (.int (n:Int))) (.len (.arg 0)))).holds [] {args:=[.list (ns.map .int)]}=true:=by have h4:=(holds_andW hc).1;rw[hn]at h4;exact h4
  have h5:=condW_of h4 (w_not (w_lt w_lit (w_len_list (w_arg rfl))));rw[ZM]at h5;refine Nat.le_of_not_lt λq=>?_;have q':(n:Int)<((ns.length:Nat):Int):=by lia
  first
   | (rw[qF q']at h5;exact qE h5 (by decide))
   | (simp at h5;lia)
 cases hwl with
 |cons w1 w2 =>
  cases w2;cases w1 with
  |list ho hall=>exact⟨_,_,ns,rfl,rfl,ho,ints_of_wellAll ns _ hall,hlen⟩
theorem post_true(l:OpenLaw)(args:List WData):l.row.toRowW.claim.post args (.bool true) args=true:=
 postW_of (r:=l.row.toRowW) (X:=(true==true))
  (show WShape.has [] (.bool true) .bool=true by first|rfl|decide|simp[WShape.has,WShape.arms,WShape.armsAll])
  (show (WTm.eq .res (.lit (.bool true))).value [] {args:=args,res:=some (.bool true),after:=args}=some (.bool (true==true)) from w_eq_bool (w_res rfl) w_lit) rfl
theorem attach_call{l:OpenLaw}{n:Nat}{q:qO}{loose:List Str}{XP:(Str->Option qL)->Heap->Prop}{YP:qP->Heap->Prop}{d:DefRec}
  (hn:l.most=some n) (hdf:d.params.defaults=[])
  (call:∀(w:qP) (s₀ s₁:qN) (mg mb:Str->Option qL) (fa:qM) (o:Obj) (pm cd doc:qL) (a:qM) (vs:List qL) (ns:qR),
   Ground q loose [] XP w s₀ mg mb s₁.heap->YP w s₁.heap ->
   s₁.heap.get? fa=some o->o.data=.func (docDef d.name d.params d.body d.scope pm cd doc)->s₁.heap.CodeRec cd d.name->mg d.name=some (.ref fa) ->
   s₁.heap.get? a=some {cls:=.type "list",data:=.seq vs.toArray}->IntsAre vs ns->ns.length<=n->s₁.gens=#[] ->
   codeAny (model l.prog w) callerA (.call (.ref fa) ⟨[.ref a],[]⟩) (λr s'=>r=.ok (.ret (.bool true))/\OldK s₁.heap s'.heap/\s'.os=s₁.os/\AllBare s'.gens) s₁):
  WalkO q loose XP YP l.row.toRowW d [] (λf vs=>PySem.call f vs):=by
 intro w s₀ s₁ mg mb G Y fa o pm cd doc dV kV ho hd hcd hD hmg hg args vals as hpre hlay hrd hwl hlo;obtain rfl:dV=.none:=Dflts.none hD hdf;obtain rfl:kV=.none:=Dflts.noKw hD;obtain⟨a,vs,ns,rfl,rfl,hobj,hints,hlen⟩:=script_of hn hpre hwl;refine enter_call (codeAny_mono (call w s₀ s₁ mg mb fa o pm cd doc a vs ns G Y ho (fd_plain hd) hcd hmg hobj hints hlen hg) λr s' hq=>?_);obtain⟨rfl,h2,h3,h4⟩:=hq;exact⟨.inl ⟨.bool true,.bool true,[],rfl,λ_=>rfl,.bool true,post_true l _,λ_=>⟨List.Pairwise.nil,λ_ hm=>(nomatch hm)⟩⟩,h2,h3,h4⟩
section
variable{prog:qO}{w:qP}{A:Around}{E:qL->qN->Prop}{s:qN}{K:Frag}
end
end Att
namespace L2
open PySem PySem.Spec PyProof.Rows
variable{H H':Hp}{X:Cx}{a:qM}{an od:Option qM}{cb doc oc pm:qL}{fd:FuncData}{k n:Nat}{ps:List Str}{qual x:Str}{xs:List V}
theorem Nz:∀{vs:List qL} {ns:qR},IntsAre vs ns->Ag (ns.map V.int) vs:=by
 intro _ _ h
 induction h with
 |nil=>exact .nil
 |cons n t _ ih=>exact .cons ⟨t,rfl⟩ ih
def TK(H:Hp):Prop:=∀b,H b=none\/∃o xs,H b=some (.frz o (.lst xs))
theorem O2{P:qO}{w:qP}{K:qQ}{mg mb:Str->Option qL}{CX:Oj}{fa:qM}{fd:FuncData}{sp:Sp}{s₁:qN}{vs:List qL}{ns:qR}
  (KX:K.In s₁.heap) (hns:s₁.heap.Ns mainGlobals mg) (hb:s₁.heap.Ns builtinsNs mb) (hbb:∀x:Str,x≠"__name__"->mb x=bootBuiltins x) (hlim:s₁.heap.NoLimit) (hg:s₁.gens=#[])
  (ha:s₁.heap.get? a=some {cls:=.type "list",data:=.seq vs.toArray}) (hi:IntsAre vs ns) (hl:ns.length<=sizeLine) (hr:BP k callerA)
  (F:∀base:Heap,K.In base->base.Ns mainGlobals mg->C1 P w K mg base CX k fa fd [x] sp) (hbind:∀(s:qN) (u:qL),BindsTo s fd ⟨[u],[]⟩ [(x,u)])
  (hsp:∀H:Hp,TK H->Ac K H a (ns.map V.int)->sp [.ref a] H (λv _=>v=.bl true) λ_ _ _=>False)
  (hCX:∀H e s',CX [] H s₁ (λ_ _ _=>False) e s'->False):
  codeAny (model P w) callerA (.call (.ref fa) ⟨[.ref a],[]⟩) (λr s'=>r=.ok (.ret (.bool true))/\OldK s₁.heap s'.heap/\s'.os=s₁.os/\AllBare s'.gens) s₁:=by
 have rv:=Nz hi;have lenV:=hi.length
 have core:∀H:Hp,TK H->Ac K H a (ns.map V.int)->Ds P w H s₁.heap->(∀b,H b≠none->b=a)->(H a≠none->K.lookup a=none) ->
   codeAny (model P w) callerA (.call (.ref fa) ⟨[.ref a],[]⟩) (λr s'=>r=.ok (.ret (.bool true))/\OldK s₁.heap s'.heap/\s'.os=s₁.os/\AllBare s'.gens) s₁:=by
  intro H hO hS hok hA hK;have base_of:∀{b:qM} {o:Obj},s₁.heap.get? b=some o->H b=none->(JC s₁.heap H).get? b=some o:=λe n=>Om e n
  have noA:∀{b:qM} {o:Obj} {es:Array DictEntry} {ep:Nat},s₁.heap.get? b=some o->o.data=.dict es ep->H b=none:=λ{b o es ep} e d=>by
   cases q:H b with
   |none=>rfl
   |some u =>
    have e':b=a:=hA b (by rw[q];simp);subst e';rw[ha]at e;cases e;have d':Data.seq vs.toArray _=Data.dict es ep:=d;cases d'
  have nsK:∀{b:qM} {m:Str->Option qL},s₁.heap.Ns b m->(JC s₁.heap H).Ns b m:=λ{b m} ⟨o,es,ep,e,d,r⟩=>⟨o,es,ep,base_of e (noA e d),d,r⟩
  have hKb:K.In (JC s₁.heap H):=λb o e=>base_of (KX b o e) (by
   cases q:H b with
   |none=>rfl
   |some u =>
    have e':b=a:=hA b (by rw[q];simp);subst e';rw[hK (by rw[q];simp)]at e;cases e)
  have hM:X2 K mg (JC s₁.heap H):=⟨hKb,nsK hns,⟨mb,nsK hb,hbb⟩,let ⟨mc,h1,h2⟩:=hlim;⟨mc,nsK h1,h2⟩⟩;have e0:Lu P w K mg (JC s₁.heap H) callerA [] s₁ H:=⟨rfl,hM,λb o e=>Qx e,Nat.le_of_eq (Nl _ _),trivial,λb hb=>qE (show b∈([]:List qM) from hb) (by simp),hok,.of_eq hg⟩;refine codeAny_mono ((F _ hKb (nsK hns)).run callerA [] s₁ H ⟨[.ref a],[]⟩ [.ref a] [.ref a] _ _ hr e0 (hbind s₁ (.ref a)) (.cons rfl .nil) (hsp H hO hS)) λr s' h=>?_;cases r with
  |error e=>exact (hCX H e s' h).elim
  |ok fl =>
   cases fl with
   |next=>exact False.elim h
   |brk=>exact False.elim h
   |cont=>exact False.elim h
   |ret u =>
    refine byG λGq hGq=>?_;obtain⟨v,H',os,bare,un,hok',r',q⟩:=h;refine hGq ?_;clear hGq Gq;have q':v=.bl true:=q;subst q';obtain rfl:u=Value.bool true:=r';refine⟨rfl,OldK.of_keep λb o e=>?_,os,bare⟩;cases q:H b with
    |none=>exact un.keep b o e q (by intro z;exact qE (show b∈([]:List qM) from z) (by simp)) (by simp)
    |some u =>
     rcases hO b with z|⟨ob,xs,z⟩
     ·rw[q]at z;cases z
     ·have z2:=un.frzs b ob _ z;obtain⟨e1,_⟩:=hok b _ z;obtain⟨e2,_⟩:=hok' b _ z2;rw[e]at e1;cases e1;exact e2
 cases hk:K.lookup a with
 |some o =>
  have e:=KX a o hk;rw[ha]at e;cases e;refine core (λ_=>none) (λ_=>.inl rfl) (.inr ⟨_,vs.toArray,_,hk,rfl,rfl,rfl,by rw[List.size_toArray,lenV];exact hl,by simpa using rv⟩) (λb u z=>by have z':(none:Option HO)=some u:=z;cases z') (λb z=>qE rfl z) λz=>qE rfl z
 |none =>
  refine core (λb=>if b=a then some (.frz {cls:=.type "list",data:=.seq vs.toArray} (.lst (ns.map V.int))) else none) (λb=>?_) (.inl (.inr ⟨{cls:=.type "list",data:=.seq vs.toArray},qD rfl⟩)) (λb u z=>?_) (λb z=>?_) λ_=>hk
  ·by_cases hb:b=a
   ·exact .inr ⟨_,_,qD hb⟩
   ·exact .inl (qC hb)
  ·by_cases hb:b=a
   ·have z':=(qD hb).symm.trans z;cases z';subst hb;exact⟨ha,by rw[ZM];exact hl,vs,_,rv,ha⟩
   ·have z':=(qC hb).symm.trans z;cases z'
  ·by_cases hb:b=a
   ·exact hb
   ·exact qE (qC hb) z
theorem RF{l:PySem.W.OpenLaw}{q:qO}{loose:List Str}{XP:(Str->Option qL)->Heap->Prop}{YP:qP->Heap->Prop}{d:DefRec}{K:Params->qQ}{CX:qP->Oj}{sp:qP->Sp}
  (hn:l.most=some n) (hn2:n<=sizeLine) (hdf:d.params.defaults=[]) (hr:BP k callerA)
  (hY:∀(w:qP) (h:Heap),YP w h->(K w.params).In h)
  (F:∀(w:qP) (mg:Str->Option qL) (fa:qM) (h:Heap),(K w.params).In h->h.Ns mainGlobals mg->mg d.name=some (.ref fa) ->
   ∃fd:FuncData,(∀(s:qN) (u:qL),BindsTo s fd ⟨[u],[]⟩ [(x,u)]) /\
    ∀base:Heap,(K w.params).In base->base.Ns mainGlobals mg->C1 l.prog w (K w.params) mg base (CX w) k fa fd [x] (sp w))
  (hsp:∀(w:qP) (H:Hp) (a:qM) (ns:qR),ns.length<=n->TK H->Ac (K w.params) H a (ns.map V.int)->sp w [.ref a] H (λv _=>v=.bl true) λ_ _ _=>False)
  (hCX:∀(w:qP) (H:Hp) (s:qN) (e:qL) (s':qN),CX w [] H s (λ_ _ _=>False) e s'->False):
  PySem.W.WalkO q loose XP YP l.row.toRowW d [] (λf vs=>PySem.call f vs):=by
 refine Att.attach_call hn hdf λw s₀ s₁ mg mb fa o pm cd doc a vs ns G Y ho hd hcd hmg hobj hints hlen hg=>?_;have KX:=hY w _ Y;obtain⟨fd,hb,hF⟩:=F w mg fa _ KX G.T.g hmg;exact O2 KX G.T.g G.T.b G.T.builtins G.T.nolimit hg hobj hints (Zl hlen hn2) hr hF hb (λH hO hS=>hsp w H a ns hlen hO hS) λH e s'=>hCX w H s₁ e s'
def JS(s:Stmt)(j:Nat):Stmt:=match s with
 |.ClassDef _ _ _ body _ _ _ _ _ _ _=>body.getD j (.Pass ⟨0,0,0,0⟩)
 |_=>.Pass ⟨0,0,0,0⟩
def CT(s:Stmt):Arguments:=match s with
 |.FunctionDef _ a _ _ _ _ _ _ _ _=>a
 |_=>{posonlyargs:=[],args:=[],vararg:=none,kwonlyargs:=[],kw_defaults:=[],kwarg:=none,defaults:=[]}
def BI(s:Stmt):List Stmt:=match s with
 |.FunctionDef _ _ b _ _ _ _ _ _ _=>b
 |_=>[]
def AG(s:Stmt):Scope:=match s with
 |.FunctionDef _ _ _ _ _ _ sc _ _ _=>sc
 |_=>{kind:=.function,names:=[],isGenerator:=false,isCoroutine:=false}
abbrev E0:XK:=λ_ _ _=>False
structure BD(K:qQ)(x qual:Str)(st:Stmt)(f:qM)(fd:FuncData):Prop where
 ex:∃(oc:qL) (od:Option qM) (kV doc pm:qL) (an:Option qM) (cb ct:qL) (osl:Array (Option qL)),
  fd=PySem.W.fnOf x qual (CT st) (BI st) (AG st) .none kV doc pm an cb ct/\K.lookup f=some ⟨oc,od,.func fd,osl⟩/\PySem.W.codeIn K cb qual=true
 kp:PySem.W.keepIn K (.ref f)=true
variable{st:Stmt}{osl:Array (Option qL)}
section
variable{P:qO}{w:qP}{K:qQ}{mg:Str->Option qL}{base:Heap}
theorem BD.binds{f:qM}(F:BD K x qual st f fd)
  (h:∀(kV doc pm:qL) (an:Option qM) (cb ct:qL) (us:List qL),us.length=ps.length->bindArgs (PySem.W.fnOf x qual (CT st) (BI st) (AG st) .none kV doc pm an cb ct) ⟨us,[]⟩=pure (ps.zip us)):Cr K fd ps []:=by
 refine byG λGq hGq=>?_;obtain⟨oc,od,kV,doc,pm,an,cb,ct,osl,rfl,lk,hcd⟩:=F.ex;refine hGq ?_;clear hGq Gq;exact .all (h kV doc pm an cb ct)
theorem JT{f:qM}{kV ct:qL}(l:K.lookup f=some ⟨oc,od,.func (PySem.W.fnOf x qual (CT st) (BI st) (AG st) .none kV doc pm an cb ct),osl⟩)
  (c:PySem.W.codeIn K cb qual=true) (k:PySem.W.keepIn K (.ref f)=true):BD K x qual st f (PySem.W.fnOf x qual (CT st) (BI st) (AG st) .none kV doc pm an cb ct):=⟨⟨oc,od,kV,doc,pm,an,cb,ct,osl,rfl,l,c⟩,k⟩
end
theorem CB{A:Around}(hr:BP k A):A.units+1<cLine:=bV (Nat.add_le_add_left (by decide:1<=64) _) hr.units
theorem Ad(h:n<=1000):n<sizeLine:=bV h (by decide)
theorem pv(i:Nat){pos:Pos}(hN:X.N[i]?=some x:=by rfl)(hv:X3 X.env.scope x:=by first|exact Or.inl rfl|exact Or.inr (Or.inl rfl)|exact Or.inr (Or.inr rfl))(hd:(x==("__debug__":Str))=false:=by decide)
  (hcd:(x==("__classdict__":Str))=false:=by decide):PE X (.Name x pos) (S0 i):=S1 hN hv hd hcd
theorem YS{A B:Prop}(h:B):if false=true then A else B:=by rw[qC ZY];exact h
def AI(H H':Hp):Prop:=∀b o,H b=some o->H' b=some o
theorem AI.refl(H:Hp):AI H H:=λ_ _ h=>h
variable{H1:Hp}
theorem AI.trans{H2:Hp}(a:AI H H1)(b:AI H1 H2):AI H H2:=λc o h=>b c o (a c o h)
variable{l:qM}
theorem AI.free(e:AI H H')(h:H' l=Option.none):H l=Option.none:=by
 cases q:H l with
 |none=>rfl
 |some o =>
  rw[e l o q]at h;cases h
theorem AI.seq{K:qQ}(e:AI H H')(h:Ac K H a xs):Ac K H' a xs:=by
 rcases h with (h|⟨o,h⟩)|h
 ·exact .inl (.inl (e _ _ h))
 ·exact .inl (.inr ⟨o,e _ _ h⟩)
 ·exact .inr h
end L2
set_option maxHeartbeats 4000000
set_option compiler.extract_closed false
set_option genSizeOfSpec false
namespace L2
open PySem PySem.Spec PyProof.Rows
variable{C a b dx l p:qM}{CX:Oj}{D:Hr}{E Q:qL->qN->Prop}{H H':Hp}{M:Model}{X:Cx}{an od:Option qM}{cb doc oc pm t u:qL}{ch:List qM}{e tg:Expr}{fd:FuncData}{h:Heap}{i j k n t':Nat}{o:HO}{osl:Array (Option qL)}{ad:List (qM×Obj)}{pos:Pos}{ps:List Str}{qual x:Str}{s s':qN}{scope:Scope}{st:Stmt}{ta:TA}{us:List qL}{xs:List V}{y:V}{α β:Type}{σ:St}
noncomputable def C7(o:Obj):Option qL:=match o.data with
 |.fields vs=>vs[2]?
 |_=>none
def DK(h h':Heap):Prop:=h.objs.size<=h'.objs.size/\∀(b:Nat) (o o':Obj),h.objs[b]?=some o->h'.objs[b]?=some o'->o'.dict=o.dict/\C7 o'=C7 o
theorem DK.refl(h:Heap):DK h h:=⟨ZR _,λb o o' e e'=>by rw[e]at e';cases e';exact⟨rfl,rfl⟩⟩
theorem DK.trans{h1 h2 h3:Heap}(x:DK h1 h2)(y:DK h2 h3):DK h1 h3:=⟨Zl x.1 y.1,λb o o' e e'=>by obtain⟨hb,_⟩:=ac.mp e;have q:h2.objs[b]?=some (h2.objs[b]'(ZV hb x.1)):=aO (ZV hb x.1);exact⟨(y.2 b _ o' q e').1.trans (x.2 b o _ e q).1,(y.2 b _ o' q e').2.trans (x.2 b o _ e q).2⟩⟩
theorem O3{o:Obj}(e:h.get? a=some o):h.objs[a]?=some o:=by
 unfold Heap.get? at e
 split at e
 ·cases e
 ·exact e
variable{h':Heap}
theorem DK.get{o o':Obj}(x:DK h h')(e:h.get? a=some o)(e':h'.get? a=some o'):o'.dict=o.dict/\C7 o'=C7 o:=x.2 a o o' (O3 e) (O3 e')
theorem DK.push(h:Heap)(o:Obj):DK h (h.push o):=by
 refine⟨?_,λb u u' e e'=>?_⟩
 ·rw[aC];exact bA _
 ·have hb:=(ac.mp e).1;have q:(h.push o).objs[b]?=h.objs[b]?:=by show (h.objs.push o)[b]?=_;rw[Array.getElem?_push_lt hb,aO hb]
  rw[q,e]at e';cases e';exact⟨rfl,rfl⟩
theorem DK.update(h:Heap)(a:qM){f:Obj->Obj}(k:∀o,(f o).dict=o.dict/\C7 (f o)=C7 o):DK h (h.update a f):=by
 have q:(h.update a f).objs=h.objs.modify a f:=rfl;refine⟨by rw[q,Array.size_modify];exact ZR _,λb u u' e e'=>?_⟩;rw[q,Array.getElem?_modify]at e'
 split at e'
 ·rw[e]at e';cases e';exact k u
 ·rw[e]at e';cases e';exact⟨rfl,rfl⟩
noncomputable def KT{α:Type}:Sem α->Prop
 |.rule _ k=>∀u,KT (k u)
 |.at _ k=>∀u,KT (k u)
 |.load _ _ k=>∀u,KT (k u)
 |.update _ _ f k=>(∀o,(f o).dict=o.dict/\C7 (f o)=C7 o)/\∀u,KT (k u)
 |.loadIfAlive _ k=>∀u,KT (k u)
 |.point _ k=>∀u,KT (k u)
 |.alloc _ k=>∀u,KT (k u)
 |.fresh k=>∀u,KT (k u)
 |.ask k=>∀u,KT (k u)
 |.handled _ k=>∀u,KT (k u)
 |.stack k=>∀u,KT (k u)
 |.thread k=>∀u,KT (k u)
 |.pure _=>True
 |.raise _=>True
 |.unsupported _=>True
 |.finish _=>True
 |_=>False
theorem KT.keep{Γ:PySem.Ctx}:∀(t:Sem α),KT t->∀(Q:α->Pos->qN->Prop) (E:qL->Pos->qN->Prop) (p:Pos) (s:qN),Sem.wp M Γ t Q E p s ->
  Sem.wp M Γ t (λa p' s'=>Q a p' s'/\DK s.heap s'.heap) (λe p' s'=>E e p' s'/\DK s.heap s'.heap) p s:=by
 intro t
 induction t with
 |pure x=>exact λ_ Q E p s h=>⟨h,DK.refl _⟩
 |raise v=>exact λ_ Q E p s h=>⟨h,DK.refl _⟩
 |unsupported|finish=>exact λ_ Q E p s h=>h
 |yield|fork|await|register|choose|os|call|genState|newGen|resume=>exact λk=>k.elim
 |rule _ k ih|«at» _ k ih|point _ k ih|loadIfAlive _ k ih|fresh k ih|ask k ih|handled _ k ih|stack k ih|thread k ih=>exact λz Q E p s h=>ih _ (z _) Q E _ _ h
 |alloc o k ih=>exact λz Q E p s h=>Sem.wp_mono _ _ _ (λa p' s' q=>⟨q.1,(DK.push _ _).trans q.2⟩) (λa p' s' q=>⟨q.1,(DK.push _ _).trans q.2⟩) _ _ (ih _ (z _) Q E _ _ h)
 |load a _ k ih=>exact λz Q E p s ⟨o,ho,h⟩=>⟨o,ho,ih _ (z _) Q E _ _ h⟩
 |update a _ f k ih=>exact λz Q E p s ⟨ha,h⟩=>⟨ha,Sem.wp_mono _ _ _ (λa p' s' q=>⟨q.1,(DK.update _ _ z.1).trans q.2⟩) (λa p' s' q=>⟨q.1,(DK.update _ _ z.1).trans q.2⟩) _ _ (ih _ (z.2 _) Q E _ _ h)⟩
theorem KT.run{A:Around}{t:Sem α}{Q:α->qN->Prop}(k:KT t)(h:wpAny M A t Q E s):
  wpAny M A t (λa s'=>Q a s'/\DK s.heap s'.heap) (λe s'=>E e s'/\DK s.heap s'.heap) s:=λΓ p hΓ=>KT.keep t k _ _ p s (h Γ p hΓ)
theorem KT.bind{m:Sem α}{f:α->Sem β}(a:KT m)(b:∀x,KT (f x)):KT (m >>= f):=by
 show KT (m.bind f)
 induction m with
 |pure x=>exact b x
 |raise v=>exact a
 |unsupported|finish=>exact a
 |yield|fork|await|register|choose|os|call|genState|newGen|resume=>exact a.elim
 |rule _ k ih|«at» _ k ih|point _ k ih|loadIfAlive _ k ih|fresh k ih|ask k ih|handled _ k ih|stack k ih|thread k ih|alloc _ k ih|load _ _ k ih=>exact λu=>ih u (a u)
 |update _ _ f' k ih=>exact⟨a.1,λu=>ih u (a.2 u)⟩
theorem KT.pure(x:α):KT (Pure.pure x:Sem α):=trivial
theorem KT.ite{c:Prop}[Decidable c]{a b:Sem α}(x:KT a)(y:KT b):KT (if c then a else b):=by split<;>assumption
theorem D7(x:String):KT (PySem.unsupported x:Sem α):=trivial
theorem JU(a:qM):KT (PySem.load a):=λ_=>trivial
theorem Kf(v:qL):KT (fieldsOf v):=by
 unfold fieldsOf;split
 ·refine KT.bind (JU _) λo=>?_;split
  ·exact KT.pure _
  ·exact D7 _
 ·exact D7 _
theorem Ei(v:qL)(i:Nat):KT (field v i):=by
 unfold field;refine KT.bind (Kf v) λo=>?_;split
 ·exact KT.pure _
 ·exact D7 _
theorem Dd(v x:qL)(i:Nat)(hi:i≠2):KT (setField v i x):=by
 unfold setField;split
 ·unfold updateField;refine KT.bind (JU _) λo=>?_;split
  ·refine KT.ite ⟨λo=>?_,λ_=>trivial⟩ (D7 _);obtain⟨c,d,dt,sl⟩:=o;cases dt with
   |fields vs=>exact⟨rfl,Array.getElem?_setIfInBounds_ne hi⟩
   |_=>exact⟨rfl,rfl⟩
  ·exact D7 _
 ·exact D7 _
theorem Bz(e:qL)(f:Option qM):KT (setFlight e f):=by unfold setFlight;refine KT.bind (Ei _ _) λtb=>?_;exact KT.ite (Dd _ _ _ (by decide)) (KT.pure _)
theorem Gi:KT PySem.stack:=λ_=>trivial
theorem Kg:∀l:List Env,KT (readyFrames l)
 |[]=>trivial
 |env::outer=>by
  unfold readyFrames;split
  ·refine KT.bind (JU _) λo=>KT.ite (KT.pure _) ?_
   refine KT.bind ?_ λi=>KT.bind ?_ λback=>KT.bind ⟨λo=>⟨rfl,rfl⟩,λ_=>trivial⟩ λ_=>Kg outer
   ·unfold behindIsImport;exact KT.ite (KT.pure _) (KT.ite (KT.pure _) (KT.bind (Ei _ _) λ_=>KT.pure _))
   ·unfold keptBack;split
    ·refine KT.ite (KT.pure _) (KT.bind ?_ λ_=>KT.pure _);unfold underTheClaimsCaller;exact KT.bind Gi λ_=>KT.pure _
    ·exact KT.pure _
  ·exact D7 _
theorem Lx(env:Env):KT (PySem.frameOf env):=by
 unfold PySem.frameOf frameEnvs;refine KT.bind (KT.bind Gi λ_=>KT.pure _) λl=>KT.bind ?_ λr=>?_
 ·unfold frameObject;split
  ·exact KT.pure _
  ·exact KT.bind (Kg _) λ_=>KT.pure _
 ·split
  ·exact KT.pure _
  ·exact D7 _
theorem JV(ty:String)(vs:List qL):KT (newFields ty vs):=by
 unfold newFields newObj;dsimp only;split
 ·exact D7 _
 ·exact λ_=>trivial
theorem O4(f:qM)(b:Bool):KT (entryPlaceOf f b):=by
 unfold entryPlaceOf;refine KT.bind Gi λ_=>?_
 split<;>exact KT.pure _
theorem JW(e:qL)(env:Env):KT (noteFrame e env):=by
 have last:∀h:qL,∀f:qM,KT (do setField e 1 (<-EntryCells.newEntry h (<-PySem.frameOf env) .none (rawInt f) .none (<-entryPlaceOf f (h != .none)))):=λh f =>
  KT.bind (Lx env) λ_=>KT.bind (O4 _ _) λ_=>KT.bind (JV _ _) λ_=>Dd _ _ _ (by decide)
 unfold noteFrame;split
 ·refine KT.bind (Ei _ _) λh=>?_;split
  ·refine KT.bind (Ei _ _) λx=>KT.ite (KT.pure _) (KT.bind (Dd _ _ _ (by decide)) λ_=>last h _)
  ·exact last h _
 ·exact D7 _
theorem DM(e:qL)(env:Env):KT (leaving env e):=by unfold leaving;exact KT.bind (JW _ _) λ_=>Bz _ _
structure O5(nc:Bool)(P:qO)(w:qP)(outer:List Env)(H:Hp)(s:qN)(a:qM)(cls a0:qL)(D:Option qM)(B:Heap)(H':Hp)(s':qN):Prop where
 os:s'.os=s.os
 bare:AllBare s'.gens
 un:Un (B9 outer) [] H H' s.heap s'.heap
 hok:Ds P w H' s'.heap
 fly:Heap.FlyingW B outer a cls a0 s'.heap
 old:∀b o,s.heap.get? b=some o->b∉B9 outer->∀o',s'.heap.get? b=some o'->B.get? b=some o'
 trk:∀b u,H' b=some u->∀o',s'.heap.get? b=some o'->B.get? b=some o'
 dct:∃oe,s'.heap.get? a=some oe/\oe.dict=D
 ctx:nc=true->∃oe,s'.heap.get? a=some oe/\C7 oe=some .none
def Hn(nc:Bool)(P:qO)(w:qP):Oj:=λouter H s E e s'=>∃a cls a0 D B H',e=.ref a/\O5 nc P w outer H s a cls a0 D B H' s'/\E cls D H'
abbrev Ea(P:qO)(w:qP):Oj:=Hn false P w
theorem Av.somewhere{P:qO}{w:qP}(x:Av P w H h a o):∃ob,h.get? a=some ob:=by
 cases o with
 |lst xs=>obtain⟨_,_,_,_,e⟩:=x;exact⟨_,e⟩
 |tup xs=>obtain⟨_,_,_,ob,e,_⟩:=x;exact⟨ob,e⟩
 |dK kvs=>obtain⟨_,_,_,_,ob,_,_,e,_⟩:=x;exact⟨ob,e⟩
 |dT kvs=>obtain⟨_,_,_,_,ob,_,_,e,_⟩:=x;exact⟨ob,e⟩
 |set S n=>obtain⟨ob,_,_,_,e,_⟩:=x;exact⟨ob,e⟩
 |ins C dx fs=>obtain⟨_,_,_,e,_⟩:=x;exact⟨_,e⟩
 |own y=>exact x
 |xd fs=>obtain⟨_,⟨ob,_,_,e,_⟩,_⟩:=x;exact⟨ob,e⟩
 |rng lo hi=>obtain⟨_,_,_,e⟩:=x;exact⟨_,e⟩
 |frz ob u=>obtain⟨e,_⟩:=x;exact⟨ob,e⟩
 |tbl ps=>exact⟨_,(show h.get? a=some _ from x)⟩
 |met f y=>exact⟨_,(show h.get? a=some _ from x)⟩
 |ext φ=>obtain⟨_,e,_⟩:=x;exact e
variable{nc:Bool}{cls a0:qL}{B:Heap}
theorem AW.slotted(I:AW X ad σ H s)(k:∀b o,s.heap.get? b=some o->b∉B9 X.stack->h'.get? b=some o)
  (f:∀b o,s.heap.get? b=some o->b∈B9 X.stack->∃sl,h'.get? b=some {o with slots:=sl}):AW X ad σ H {s with heap:=h',toks:=t'}:=by
 have u:Un (B9 X.stack) [] H H s.heap h':=⟨λb o e _ hb _=>k b o e hb,λb o e _ hb _=>f b o e hb,λ_ _ _ n _=>n,λb o e _=>by
  by_cases hb:b∈B9 X.stack
  ·obtain⟨sl,q⟩:=f b o e hb;exact⟨_,q⟩
  ·exact⟨o,k b o e hb⟩,λ_ _ q=>q,λ_ _ _ q=>q,λb ps q=>⟨#[],by rw[q];simp⟩⟩
 have hok:Ds X.prog X.w H h':=λb u q=>(I.hok b u q).stay (λc v hc r=>k c v r λhm=>by
  have z:=I.stkFree c hm;rcases hc with e|e
  ·rw[e,q]at z;cases z
  ·rw[e]at z;cases z) (λ_ q=>q) λ_ _ q=>q
 exact I.call (g':=s.gens) (d':=s.drawn) (ch:=[]) u hok I.bare (λb z=>qE z (by simp))
theorem AW.frameData(I:AW X ad σ H s){o:Obj}(e:s.heap.get? b=some o)(hb:b∈B9 X.stack):∀vs,o.data≠.fields vs:=by obtain⟨_,o',e',nf⟩:=I.stack.mem hb;rw[e]at e';cases e';exact nf
theorem O5.fresh{D:Option qM}(F:O5 nc X.prog X.w X.stack H s a cls a0 D B H' s'):H' a=none/\s.heap.get? a=none:=by
 have hB:=F.fly.2.1;obtain⟨oe,vs,he,_,hd,_⟩:=F.fly.first;refine⟨?_,?_⟩
 ·cases q:H' a with
  |none=>rfl
  |some u =>
   have z:=F.trk a u q oe he;rw[hB]at z;cases z
 ·cases q:s.heap.get? a with
  |none=>rfl
  |some o =>
   by_cases hm:a∈B9 X.stack
   ·obtain⟨_,o',e',nf⟩:=F.fly.2.2.1.mem hm;rw[he]at e';cases e';exact qE hd (nf vs)
   ·have z:=F.old a o q hm oe he;rw[hB]at z;cases z
theorem O5.unAt{D:Option qM}(I:AW X ad σ H s)(F:O5 nc X.prog X.w X.stack H s a cls a0 D B H' s')(hB:B.StaysIn h')(sm:s'.heap.UpToSlots h'):
  Un (B9 X.stack) [] H H' s.heap h'/\Ds X.prog X.w H' h':=by
 have up:∀b o,s.heap.get? b=some o->b∈B9 X.stack->∃sl,h'.get? b=some {o with slots:=sl}:=λb o e hb=>by obtain⟨sl,e1⟩:=F.un.slot b o e (I.stkFree b hb) hb (by simp);obtain⟨sl',e2⟩:=sm b _ e1 (show ∀vs,o.data≠.fields vs from I.frameData e hb);exact⟨sl',e2⟩
 refine⟨⟨λb o e n hb hx=>hB b o (F.old b o e hb o (F.un.keep b o e n hb hx)),λb o e _ hb _=>up b o e hb,F.un.free,λb o e hx=>?_,F.un.tups,F.un.frzs,F.un.tbls⟩,λb u q=>?_⟩
 ·by_cases hb:b∈B9 X.stack
  ·obtain⟨sl,q⟩:=up b o e hb;exact⟨_,q⟩
  ·obtain⟨o',e1⟩:=F.un.there b o e hx;exact⟨o',hB b o' (F.old b o e hb o' e1)⟩
 ·refine (F.hok b u q).stay (λc v hc r=>?_) (λ_ q=>q) λ_ _ q=>q
  rcases hc with e|e
  ·subst e;exact hB c v (F.trk c u q v r)
  ·exact hB c v (F.trk c _ e v r)
theorem O5.land{D:Option qM}(I:AW X ad σ H s)(F:O5 nc X.prog X.w X.stack H s a cls a0 D B H' s')(hB:B.StaysIn h')(sm:s'.heap.UpToSlots h'):AW X ad σ H' {s' with heap:=h',toks:=t'}:=by obtain⟨u,hok⟩:=F.unAt I hB sm;exact I.call' (s':={s' with heap:=h',toks:=t'}) (ch:=[]) F.os u hok F.bare (λb z=>qE z (by simp))
def De(a:qM)(cls:qL)(D:Option qM)(n:Bool)(h:Heap):Prop:=∃o vs,h.get? a=some o/\o.cls=cls/\o.data=.fields vs/\o.dict=D/\(n=true->∃t:qM,vs=#[.ref t,.none,.none,.none,.bool false,.none])
noncomputable def Hu(a:qM)(cls:qL)(D:Option qM)(n:Bool):HO:=.ext (De a cls D n)
theorem O5.land'{D:Option qM}{l:List Env}(I:AW X ad σ H s)(F:O5 nc X.prog X.w X.stack H s a cls a0 D B H' s')(fl:Heap.FlyingW B l a cls a0 h')(sm:s'.heap.UpToSlots h')(dk:DK s'.heap h'):
  AW X ad σ (Am H' a (Hu a cls D false)) {s' with heap:=h',toks:=t'}:=by
 obtain⟨u,hok⟩:=F.unAt I fl.1 sm;obtain⟨n1,n2⟩:=F.fresh;refine byG λGq hGq=>?_;obtain⟨oe,vs,he,hc,hd,_⟩:=fl.first;refine hGq ?_;clear hGq Gq;have ne:∀b o,s.heap.get? b=some o->b≠a:=λb o e z=>by rw[z,n2]at e;cases e
 have ne2:∀b o,H' b=some o->b≠a:=λb o e z=>by rw[z,n1]at e;cases e
 refine I.call' (s':={s' with heap:=h',toks:=t'}) (ch:=[]) F.os ⟨u.keep,u.slot,λb o e n hx=>?_,u.there,λb xs q=>?_,λb o v q=>?_,λb ps q=>?_⟩ (λb v q=>?_) F.bare (λb z=>qE z (by simp))
 ·rw[AR (ne b o e)];exact u.free b o e n hx
 ·have q':=u.tups b xs q;rw[AR (ne2 b _ q')];exact q'
 ·have q':=u.frzs b o v q;rw[AR (ne2 b _ q')];exact q'
 ·obtain⟨more,q'⟩:=u.tbls b ps q;exact⟨more,by rw[AR (ne2 b _ q')];exact q'⟩
 ·by_cases hb:b=a
  ·subst hb;rw[AE]at q;cases q;obtain⟨ow,hw,hwd⟩:=F.dct;exact⟨⟨oe,vs,he,hc,hd,(dk.get hw he).1.trans hwd,λz=>by cases z⟩,⟨oe,he⟩,λh1 h2 ⟨o,ws,e,r⟩ k=>⟨o,ws,k o e,r⟩⟩
  ·rw[AR hb]at q;exact (hok b v q).stay (λc v' _ r=>r) (λc z=>by rw[AR (ne2 c _ z)];exact z) λc xs z=>by rw[AR (ne2 c _ z)];exact z
def O6(X:Cx)(C:qL)(E:XK):Prop:=
 ∀(ad:List (qM×Obj)) (σ:St) (H:Hp) (s:qN) (h':Heap) (e:qM) (args:List qL),AW X ad σ H s->Heap.MadeExcOf s.heap h' e C args->E C none H->X.xe (.ref e) {s with heap:=h'}
def Bl(CX:Oj)(X:Cx)(E:St->XK):Prop:=∀(ad:List (qM×Obj)) (σ:St) (H:Hp) (s:qN) (e:qL) (s':qN),AW X ad σ H s->CX X.stack H s (E σ) e s'->X.xe e s'
section
variable{P:qO}{w:qP}{K:qQ}{mg:Str->Option qL}{base:Heap}{N:List Str}{f:qM}{cd:qL}{A:Around}{outer:List Env}{E:XK}
theorem Aj{C:qL}:O6 (Cc (Hn nc P w) P w K mg base N qual scope f cd A outer s H E) C E:=by
 intro ad σ H1 s1 h1 e args I hx hE;generalize hX:Cc (Hn nc P w) P w K mg base N qual scope f cd A outer s H E=X at I⊢;have hst:X.stack=X.env::X.outer:=by rw[<-hX];rfl
 have hfr:X.env.frame=some X.env.locals:=by rw[<-hX];rfl
 have hxe:X.xe=λe s'=>wpAny (model P w) X.A (leaving X.env e) (λ_ s''=>Hn nc P w X.outer X.H₀ X.s₀ E e s'') (λe' s''=>Hn nc P w X.outer X.H₀ X.s₀ E e' s'') s':=by rw[<-hX];rfl
 have hex:X.ex=[]:=by rw[<-hX];rfl
 have hp:X.prog=P:=by rw[<-hX];rfl
 have hw:X.w=w:=by rw[<-hX];rfl
 subst hp hw;rw[hxe];have fr:=I.stack;have hin:∀env∈X.stack,∀b,env.frame=some b->b∈B9 X.stack:=λenv he b hb=>ah.mpr ⟨env,he,hb⟩
 have fr':s1.heap.FunFrames (PySem.W.hideAll s1.heap (B9 X.stack)) (X.env::X.outer):=by rw[<-hst];exact ba fr hin
 refine qH (KT.run (DM _ _) (wpAny_leaves_madeW (Q:=λ_ s2=>∃h2 t,s2={s1 with heap:=h2}/\Heap.FlyingW (PySem.W.hideAll s1.heap (B9 X.stack)) X.outer e C (.ref t) h2/\h1.UpToSlots h2) (E:=λ_ _=>False) (base:=PySem.W.hideAll s1.heap (B9 X.stack)) (h:=s1.heap) (L:=X.env.locals) (by rw[<-hst];exact I.ok.frames) hfr (λb o q=>ay _ q) fr' hx λh2 t x1 x2 x3 x4=>⟨h2,t,rfl,x1,x4⟩)) (λ_ s2 q=>?_) λ_ _ q=>q.1.elim
 obtain⟨⟨h2,t,rfl,x1,x4⟩,dk⟩:=q;have kept:∀b o,s1.heap.get? b=some o->b∉B9 X.stack->h2.get? b=some o:=λb o q hb=>x1.1 b o (Z3 _ q hb)
 have J:AW X ad σ H1 {s1 with heap:=h2,toks:=s1.toks}:=I.slotted kept λb o q hb=>x4 b o (hx.keeps b o q) (I.frameData q hb)
 have un:Un (B9 X.outer) [] X.H₀ H1 X.s₀.heap h2:=by have z:=J.base;rw[hex]at z;exact z
 have hdc:∃oe,h2.get? e=some oe/\oe.dict=none:=by obtain⟨ob,hob,_⟩:=x1.there;obtain⟨t',he,_,_⟩:=hx.there;exact⟨ob,hob,(dk.get he hob).1.trans rfl⟩
 have hcx:∃oe,h2.get? e=some oe/\C7 oe=some .none:=by obtain⟨ob,hob,_⟩:=x1.there;obtain⟨t',he,_,_⟩:=hx.there;exact⟨ob,hob,(dk.get he hob).2.trans rfl⟩
 refine⟨e,C,.ref t,none,_,H1,rfl,⟨J.os,J.bare,un,J.hok,x1,λb o q hb o' q'=>?_,λb u q o' q'=>?_,hdc,λ_=>hcx⟩,hE⟩
 ·obtain⟨o1,q1⟩:=I.base.there b o q (by rw[hex];simp)
  have hn:b∉B9 X.stack:=λz=>by
   rcases Zd.mp (I.stkSub b z) with y|y
   ·exact qE (ZV (ZO q) I.ok.above) (by rw[y];exact Zn _)
   ·exact hb y
  have q2:=kept b o1 q1 hn;rw[q']at q2;cases q2;exact Z3 _ q1 hn
 ·have hn:b∉B9 X.stack:=λz=>by
   have y:=I.stkFree b z;rw[q]at y;cases y
  obtain⟨o1,r⟩:=(I.hok b u q).somewhere;have q2:=kept b o1 r hn;rw[q']at q2;cases q2;exact Z3 _ r hn
theorem AM:Bl (Hn nc P w) (Cc (Hn nc P w) P w K mg base N qual scope f cd A outer s H E) (λ_=>E):=by
 intro ad σ H1 s1 e s2 I h;generalize hX:Cc (Hn nc P w) P w K mg base N qual scope f cd A outer s H E=X at I h⊢;have hst:X.stack=X.env::X.outer:=by rw[<-hX];rfl
 have hfr:X.env.frame=some X.env.locals:=by rw[<-hX];rfl
 have hxe:X.xe=λe s'=>wpAny (model P w) X.A (leaving X.env e) (λ_ s''=>Hn nc P w X.outer X.H₀ X.s₀ E e s'') (λe' s''=>Hn nc P w X.outer X.H₀ X.s₀ E e' s'') s':=by rw[<-hX];rfl
 have hex:X.ex=[]:=by rw[<-hX];rfl
 have hp:X.prog=P:=by rw[<-hX];rfl
 have hw:X.w=w:=by rw[<-hX];rfl
 subst hp hw;rw[hxe];refine byG λGq hGq=>?_;obtain⟨a,cls,a0,D,B,H',rfl,F,hE⟩:=h;refine hGq ?_;clear hGq Gq;have fl:Heap.FlyingW B (X.env::X.outer) a cls a0 s2.heap:=by rw[<-hst];exact F.fly
 refine qH (KT.run (DM _ _) (wpAny_leaves_onW (Q:=λ_ s3=>∃h3,s3={s2 with heap:=h3}/\Heap.FlyingW B X.outer a cls a0 h3/\s2.heap.UpToSlots h3) (E:=λ_ _=>False) (by rw[<-hst];exact I.ok.frames) hfr fl λh3 x1 x2=>⟨h3,rfl,x1,x2⟩)) (λ_ s3 q=>?_) λ_ _ q=>q.1.elim
 refine byG λGq hGq=>?_;obtain⟨⟨h3,rfl,x1,x2⟩,dk⟩:=q;refine hGq ?_;clear hGq Gq;have J:AW X ad σ H' {s2 with heap:=h3,toks:=s2.toks}:=F.land I x1.1 x2;have un:Un (B9 X.outer) [] X.H₀ H' X.s₀.heap h3:=by have z:=J.base;rw[hex]at z;exact z
 have hdc:∃oe,h3.get? a=some oe/\oe.dict=D:=by obtain⟨ob,hob,_⟩:=x1.there;obtain⟨ow,hw,hwd⟩:=F.dct;exact⟨ob,hob,(dk.get hw hob).1.trans hwd⟩
 have hcx:nc=true->∃oe,h3.get? a=some oe/\C7 oe=some .none:=λhnc=>by obtain⟨ob,hob,_⟩:=x1.there;obtain⟨ow,hw,hwd⟩:=F.ctx hnc;exact⟨ob,hob,(dk.get hw hob).2.trans hwd⟩
 refine⟨a,cls,a0,D,B,H',rfl,⟨J.os,J.bare,un,J.hok,x1,λb o q hb o' q'=>?_,λb u q o' q'=>?_,hdc,hcx⟩,hE⟩
 ·obtain⟨o1,q1⟩:=I.base.there b o q (by rw[hex];simp)
  have hn:b∉B9 X.stack:=λz=>by
   rcases Zd.mp (I.stkSub b z) with y|y
   ·exact qE (ZV (ZO q) I.ok.above) (by rw[y];exact Zn _)
   ·exact hb y
  obtain⟨o2,q2⟩:=F.un.there b o1 q1 (by simp);have q3:=F.old b o1 q1 hn o2 q2;have q4:=x1.1 b o2 q3;rw[q']at q4;cases q4;exact q3
 ·obtain⟨o2,q2⟩:=(F.hok b u q).somewhere;have q3:=F.trk b u q o2 q2;have q4:=x1.1 b o2 q3;rw[q']at q4;cases q4;exact q3
end
abbrev Cp:List qL:=[.type "ValueError",.type "Exception",.type "BaseException",.type "object"]
theorem O7{p:Prop}(h:false=true):p:=nomatch h
theorem RG{F:qM->List qL->Option qL->Option qL->Option qL->Option qL->String->Option qL->Bool}{G:Prop}:∀{m:List qL} {l:List (Option qL)},(∀C' bm k0 k1 k2 k3 n k5,m=.ref C'::bm->l=[k0,k1,k2,k3,some (.builtin n),k5]->F C' bm k0 k1 k2 k3 n k5=true->G)->PySem.W.excIn.match_1 (λ_ _=>Bool) m l F (λ_ _=>false)=true->G:=by
 intro m l hG q;rcases m with _|⟨v,bm⟩
 ·exact O7 q
 cases v
 case ref C2 =>
  rcases l with _|⟨k0,_|⟨k1,_|⟨k2,_|⟨k3,_|⟨k4,l⟩⟩⟩⟩⟩
  iterate 5 exact O7 q
  rcases k4 with _|k4
  ·exact O7 q
  cases k4
  case builtin n =>
   rcases l with _|⟨k5,_|_⟩
   ·exact O7 q
   ·exact hG _ _ _ _ _ _ _ _ rfl rfl q
   ·exact O7 q
  all_goals exact O7 q
 all_goals exact O7 q
theorem RH{F:Option qM->ClassData->Array (Option qL)->Bool}{G:Prop}{o:Option Obj}(hG:∀dd cd sl,o=some ⟨.type "type",dd,.cls cd,sl⟩->F dd cd sl=true->G)(q:PySem.W.excIn.match_6 (λ_=>Bool) o F (λ_=>false)=true):G:=by
 rcases o with _|⟨cls,dd,data,sl⟩
 ·exact O7 q
 cases cls
 case type s =>
  by_cases hs:s="type"
  ·subst hs;cases data
   case cls cd=>exact hG _ _ _ rfl q
   all_goals exact O7 q
  ·delta PySem.W.excIn.match_6 PySem.W.nsOkIn._sparseCasesOn_4 PySem.W.excIn._sparseCasesOn_6 at q
   dsimp only at q;rw[dif_neg hs]at q;exact O7 q
 all_goals exact O7 q
theorem Mv{K:qQ}{newId:String}{bmB:List qL}(kin:K.In h)(q:PySem.W.excIn K C bmB newId=true):
  ∃tl N nm qn bs dy sn sub ab col dd k0 k1 k2 k3 k5 mN,h.get? C=some (excClassObj nm qn C N bs tl dy sn sub ab col dd k0 k1 k2 k3 k5 newId)/\h.Ns N mN/\mN "__init__"=none/\OwnTail h bmB tl:=by
 unfold PySem.W.excIn at q;refine RH (λdd cd sl ho q=>?_) q;refine RG (λC2 tl k0 k1 k2 k3 n k5 hm hs q=>?_) q;refine byG λGq hGq=>?_;obtain⟨nm,bs,mro,N,qn,dy,sn,sub,ab,col,del⟩:=cd;refine hGq ?_;clear hGq Gq;obtain⟨l⟩:=sl;dsimp only at hm hs q;subst hm hs;simp only[Bool.and_eq_true,beq_iff_eq,Bool.not_eq_true']at q;refine byG λGq hGq=>?_;obtain⟨⟨⟨⟨⟨e1,e2⟩,e3⟩,e4⟩,e5⟩,e6⟩:=q;refine hGq ?_;clear hGq Gq;subst e1 e2 e3;exact⟨tl,N,nm,qn,bs,dy,sn,sub,ab,col,dd,k0,k1,k2,k3,k5,_,kin _ _ ho,.of_isNs (PySem.W.isNs_of_in kin e5),PySem.W.nsMap_none_of_in kin e5 e6,PySem.W.tail_of_in kin e4⟩
def O8(C:qM)(E:XK)(t:TA):TS:=λ_ σ H=>t σ H λvs H1=>vs.length<=sizeLine/\E (.ref C) none H1
section
variable{E:XK}{es:List Expr}{t:TA}{np cpos:Pos}
theorem A6(hc:X.calm=true)(hC:PySem.W.excIn X.K C Cp "ValueError.__new__"=true)(hg:Gl X x)(hm:X.mg x=some (.ref C))(hx:O6 X (.ref C) E)(ha:PA X (e::es) t)
  (hdb:(x==("__debug__":Str))=false:=by decide) (he:starEach (e::es) X.env=(false,eval e X.env)::starEach es X.env:=by rfl) (hpl:(backTo cpos (starEach es X.env)).any (·.1)=false:=by rfl):
  PS X (.Raise (some (.Call (.Name x np) (e::es) [] cpos)) none pos) (O8 C E t):=by
 intro ad s σ H D I h;refine byG λGq hGq=>?_;obtain⟨tl,N,nm,qn,bs,dy,sn,sub,ab,col,dd,k0,k1,k2,k3,k5,mN,hO,hN,hni,T⟩:=Mv I.mod.kin hC;refine hGq ?_;clear hGq Gq;have FB:=ae;have arg:=ha cpos ad s σ H _ I h;refine wpAny_Raise_call_subT (C:=C) (nm:=nm) (q:=qn) (N:=N) (bs:=bs) (bm:=tl) (hdct:=dy) (sn:=sn) (sub:=sub) (ab:=ab) (col:=col) (dd:=dd) (k0:=k0) (k1:=k1) (k2:=k2) (k3:=k3) (k5:=k5) FB (mN:=mN) (T.hasType FB.hasBase) (I.ok.hd hc) ?_ hni (Cq I hg hm ⟨rfl,?_⟩ hdb)
 ·rw[he];show (false||(backTo cpos (starEach es X.env)).any (·.1))=false;rw[hpl];rfl
 ·rw[he]at arg⊢;refine Calls.evalArgs_plain (A9 arg λus s2 z9=>?_);obtain⟨vs,H2,I2,r,z,q⟩:=z9;exact⟨rfl,by rw[<-r.length];exact z,I2.bk _ _ hO,hN.keeps I2.bk,T.keeps I2.bk,λh2 a hq=>hx ad σ H2 s2 h2 a us I2 hq q⟩
end
def FU(sp:Sp)(dvs:List V)(E:St->XK)(t:TA):TE:=λσ H Q=>t σ H λvs H1=>sp (vs++dvs) H1 Q (E σ)
section
variable{f:qM}{sp:Sp}{dvs:List V}{ds:List qL}{E:St->XK}{p:Pos}{es:List Expr}{t:TA}
theorem Gj(F:C1 X.prog X.w X.K X.mg X.base CX k f fd ps sp)(hr:BP k X.A)(hg:Gl X x)(hm:X.mg x=some (.ref f))(hk:PySem.W.keepIn X.K (.ref f)=true)(hb:Cr X.K fd ps ds)(hd:Ag dvs ds)(hx:Bl CX X E)
  (ha:PA X (e::es) t) (hdb:(x==("__debug__":Str))=false:=by decide) (he:starEach (e::es) X.env=(false,eval e X.env)::starEach es X.env:=by rfl) (hpl:(backTo pos (starEach es X.env)).any (·.1)=false:=by rfl):
  PE X (.Call (.Name x p) (e::es) [] pos) (FU sp dvs E t):=by
 intro ad s σ H Q I h;refine wpAny_Call_Name_kw (Cq I hg hm ?_ hdb);refine bW (h₀:=X.base) I.ok.mod.kin hk (A9 (ha pos ad s σ H _ I h) λus s1 ⟨vs,H1,I1,r,q⟩=>⟨I1.kIn,?_⟩) he hpl;have r2:Ag (vs++dvs) (us++ds):=r.append hd;have hl:(us++ds).length=ps.length:=by rw[<-r2.length];exact F.len _ _ _ _ q
 refine wpAny_call (codeAny_mono (F.run X.A X.stack s1 H1 ⟨us,[]⟩ (us++ds) (vs++dvs) Q (E σ) hr I1.env0 (hb s1 us I1.kIn hl) r2 q) λrs s2 hq=>?_);rcases rs with er|fl
 ·exact hx ad σ H1 s1 er s2 I1 hq
 ·cases fl with
  |ret u=>exact I1.after hq
  |next=>exact False.elim hq
  |brk=>exact False.elim hq
  |cont=>exact False.elim hq
end
section
variable{P:qO}{w:qP}{K:qQ}{mg:Str->Option qL}{base:Heap}
theorem BD.okX{f:qM}{N:List Str}{sp:Sp}(F:BD K x qual st f fd)(S:AJ N ps (AG st))(len:∀vs H Q E,sp vs H Q E->vs.length=ps.length)
  (hbody:∀(cb:qL) (A:Around) (outer:List Env) (s:qN) (H:Hp) (vs:List V) (Q:VK) (E:XK),BP k (A.deeper (envOfC qual (AG st) s.heap.objs.size f cb))->sp vs H Q E ->
   ∃t,F8 (Cc (Hn nc P w) P w K mg base N qual (AG st) f cb A outer s H E) (BI st) t/\t {nx:=λ_ H'=>Q .non H',rt:=Q} (CA N vs) H):C1 P w K mg base (Hn nc P w) (k+1) f fd ps sp:=by
 refine byG λGq hGq=>?_;obtain⟨oc,od,kV,doc,pm,an,cb,ct,osl,rfl,lk,hcd⟩:=F.ex;refine hGq ?_;clear hGq Gq;exact SL lk hcd S len λA outer s H vs Q E hr hsp=>hbody cb A outer s H vs Q E hr hsp
end
theorem PS.nox{t:TS}(h:PS X.nox st t):PS X st t:=λad s σ H D I hw =>
 qH (h ad s σ H D (I.wish _) hw) (λ_ _ q=>q.unwish) λ_ _ q=>q.elim
abbrev Cx.but(X:Cx)(p:List (qM×Obj))(E:qL->qN->Prop):Cx:={X with pn:=p,xe:=E}
theorem Cx.Ok.but(ok:X.Ok)(p:List (qM×Obj))(E:qL->qN->Prop):(X.but p E).Ok:=
 ⟨ok.mod,ok.kind,ok.glob,ok.blt,ok.above,ok.inj,ok.has,ok.cab,ok.hd,ok.frames,ok.stk,ok.exf,ok.bs,ok.bsz,ok.noex,ok.exfs,ok.funs,ok.frf⟩
theorem Cx.Ok.unbut{p:List (qM×Obj)}(ok:(X.but p E).Ok):X.Ok:=
 ⟨ok.mod,ok.kind,ok.glob,ok.blt,ok.above,ok.inj,ok.has,ok.cab,ok.hd,ok.frames,ok.stk,ok.exf,ok.bs,ok.bsz,ok.noex,ok.exfs,ok.funs,ok.frf⟩
noncomputable def Cx.tr(X:Cx)(p:List (qM×Obj))(W:St->XK):Cx:=X.but p λe s'=>∃ad σ H s,AW (X.but p λ_ _=>False) ad σ H s/\Ea X.prog X.w X.stack H s (W σ) e s'
noncomputable def Cx.hdl(X:Cx)(v:qL):Cx:={X with A:=X.A.mark (some v),calm:=false,xe:=λ_ _=>False}
variable{W:St->XK}
section
variable{pins' p:List (qM×Obj)}{E':qL->qN->Prop}
theorem AW.but(I:AW X ad σ H s)(E:qL->qN->Prop):AW (X.but (X.pn++ad) E) [] σ H s:=
 ⟨I.ok.but _ _,I.os,I.bare,I.base,I.loc,I.cell,I.free,I.freeC,λq hq=>I.pin q (by simpa using hq),I.hok,I.len⟩
theorem AW.unbut(I:AW (X.but (X.pn++ad) E) pins' σ H s):AW X ad σ H s:=
 ⟨I.ok.unbut,I.os,I.bare,I.base,I.loc,I.cell,I.free,I.freeC,λq hq=>I.pin q (b9 _ hq),I.hok,I.len⟩
theorem AW.rebut(I:AW (X.but p E) ad σ H s):AW (X.but p E') ad σ H s:=
 ⟨I.ok.unbut.but _ _,I.os,I.bare,I.base,I.loc,I.cell,I.free,I.freeC,I.pin,I.hok,I.len⟩
theorem AW.hdl(I:AW X ad σ H s)(v:qL):AW (X.hdl v) ad σ H s:=
 ⟨⟨I.ok.mod,I.ok.kind,I.ok.glob,I.ok.blt,I.ok.above,I.ok.inj,I.ok.has,I.ok.cab,λz=>qE z (by show ¬(false=true);decide),I.ok.frames,I.ok.stk,I.ok.exf,I.ok.bs,I.ok.bsz,I.ok.noex,I.ok.exfs,I.ok.funs,I.ok.frf⟩,
  I.os,I.bare,I.base,I.loc,I.cell,I.free,I.freeC,I.pin,I.hok,I.len⟩
theorem AW.unhdl{v:qL}(hd:X.calm=true->X.A.handled=none)(I:AW (X.hdl v) ad σ H s):AW X ad σ H s:=
 ⟨⟨I.ok.mod,I.ok.kind,I.ok.glob,I.ok.blt,I.ok.above,I.ok.inj,I.ok.has,I.ok.cab,hd,I.ok.frames,I.ok.stk,I.ok.exf,I.ok.bs,I.ok.bsz,I.ok.noex,I.ok.exfs,I.ok.funs,I.ok.frf⟩,
  I.os,I.bare,I.base,I.loc,I.cell,I.free,I.freeC,I.pin,I.hok,I.len⟩
theorem Ly:Bl (Ea X.prog X.w) (X.tr p W) W:=λad σ H s e s' I h=>⟨ad,σ,H,s,AW.rebut (X:=X) I,h⟩
theorem SP.unbut{f:Flow}(h:SP (X.but (X.pn++ad) E) pins' D f s'):SP X ad D f s':=by
 cases f with
 |next=>obtain⟨a,b,I,q⟩:=h;exact⟨a,b,I.unbut,q⟩
 |brk=>obtain⟨a,b,I,q⟩:=h;exact⟨a,b,I.unbut,q⟩
 |cont=>obtain⟨a,b,I,q⟩:=h;exact⟨a,b,I.unbut,q⟩
 |ret u=>obtain⟨v,a,b,I,q⟩:=h;exact⟨v,a,b,I.unbut,q⟩
theorem GH{A:Around}{n:Str}{Q:Unit->qN->Prop}(I:AW X ad σ H s)(hN:X.N.Nodup)(hi:X.N[i]?=some n)(hl:X.env.scope.names.lookup n=some .local)
  (h:∀s',AW X ad (σ.set i none) H s'->Q () s'):wpAny M A (do bindName X.env n .none;unbindBehindTheSuite X.env n pos) Q E s:=by
 obtain⟨m,hn,lk⟩:=id I.loc;have hcls:(X.env.scope.kind==.class||(X.env.scope.kind==.module&&X.env.locals != X.env.globals))=false:=by rw[I.ok.kind];rfl
 refine wpAny_nameGoes_keeps (show X.env.kindOf n=some .local from hl) hn hcls λh' v hn' sb=>h _ ?_
 have away:∀b o,X.s₀.heap.get? b=some o->b≠X.env.locals:=λb o e=>Zj (ZV (ZO e) I.ok.above)
 have hiσ:i<σ.length:=by rw[I.len];exact (ZW.mp hi).1
 refine⟨I.ok,I.os,I.bare,⟨λb o e nn hb hx=>(sb.2 b (away b o e)).trans (I.base.keep b o e nn hb hx),λb o e nn hb hx=>?_,I.base.free,λb o e hx=>?_,I.base.tups,I.base.frzs,I.base.tbls⟩,
  ⟨_,hn',λj y w e1 e2 e3=>?_⟩,λy c e=>?_,I.free,I.freeC,λq hq=>?_,λb u q=>?_,by simpa using I.len⟩
 ·obtain⟨sl,e1⟩:=I.base.slot b o e nn hb hx;exact⟨sl,(sb.2 b (away b o e)).trans e1⟩
 ·obtain⟨o',e1⟩:=I.base.there b o e hx;exact⟨o',(sb.2 b (away b o e)).trans e1⟩
 ·by_cases hj:j=i
  ·subst hj;rw[av hiσ]at e2;cases e2
  ·rw[bJ (Ne.symm hj)]at e2;obtain⟨u,r,z⟩:=lk j y w e1 e2 e3;refine⟨u,r,?_⟩;rcases z with⟨k,z⟩|⟨k,c,z,y'⟩
   ·have ny:y≠n:=λq=>hj (Ec hN e1 (q▸hi))
    exact .inl ⟨k,by simp[ny,z]⟩
   ·exact .inr ⟨k,c,z,y'.sameBut sb (I.cne y c z)⟩
 ·obtain⟨w,z⟩:=I.cell y c e;exact⟨w,z.sameBut sb (I.cne y c e)⟩
 ·obtain⟨e,nn,ne,nf,d⟩:=I.pin q hq;exact⟨(sb.2 q.1 ne).trans e,nn,ne,nf,d⟩
 ·refine (I.hok b u q).stay (λc w hc r=>(sb.2 c λz=>?_).trans r) (λ_ q=>q) λ_ _ q=>q
  have fz:=I.free;rcases hc with e|e
  ·rw[<-z,e,q]at fz;cases fz
  ·rw[<-z,e]at fz;cases fz
end
def VV(K:qQ)(R:qL)(i:Nat)(W:St->XK)(tb th:TS):TS:=λD σ H=>tb D σ H/\∀σ' cls D' H',W σ' cls D' H'->PySem.W.exmOne K cls R=some true/\∀a,H' a=none ->
 th {nx:=λσ2 H2=>D.nx (σ2.set i none) H2,rt:=D.rt,bk:=λσ2 H2=>D.bk (σ2.set i none) H2,ct:=λσ2 H2=>D.ct (σ2.set i none) H2} (σ'.set i (some (.ref a))) (Am H' a (Hu a cls D' false))
section
variable{n:Str}{R:qM}{b:List Stmt}{c0:Stmt}{suite:List Stmt}{tb th:TS}{np hpos:Pos}
theorem TL(hN:X.N.Nodup)(hi:X.N[i]?=some n)(hl:X.env.scope.names.lookup n=some .local)(hg:Gl X x)(hm:X.mg x=some (.ref R))(hst:X.stack=X.env::X.outer)(hfr:X.env.frame=some X.env.locals)
  (hb:∀p,F8 (X.tr p W) b tb) (hs:∀v,F8 (X.hdl v) (c0::suite) th) (hd:(x==("__debug__":Str))=false:=by decide):
  PS X (.Try b [.ExceptHandler (some (.Name x np)) (some n) (c0::suite) hpos] [] [] pos) (VV X.K (.ref R) i W tb th):=by
 intro ad s σ H D I h;obtain⟨h1,h2⟩:=h;refine wpAny_Try_except (qH (hb (X.pn++ad) [] s σ H D (I.but _) h1) (λf s1 q=>?_) λe s1 q=>?_)
 ·have q':SP X ad D f s1:=SP.unbut (pins':=[]) q;cases f with
  |next=>exact wpAny_execs_nil q'
  |ret u=>exact q'
  |brk=>exact q'
  |cont=>exact q'
 ·obtain⟨pins0,σ0,H0,s0,I0,a,cls,a0,D',B,H',rfl,F,hW⟩:=q;have J0:AW X ad σ0 H0 s0:=I0.unbut;obtain⟨hx,hth⟩:=h2 σ0 cls D' H' hW;have fl:Heap.FlyingW B (X.env::X.outer) a cls a0 s1.heap:=by rw[<-hst];exact F.fly
  refine qH (KT.run (JW _ _) (wpAny_looks_onW (Q:=λ_ s4=>∃h4,s4={s1 with heap:=h4}/\Heap.HeldW B (X.env::X.outer) a cls a0 X.env.locals h4/\s1.heap.UpToSlots h4) (E:=λ_ _=>False) (by rw[<-hst];exact J0.ok.frames) hfr fl λh4 held4 sm4=>⟨h4,rfl,held4,sm4⟩)) (λ_ s4 q=>?_) λ_ _ q=>q.1.elim
  obtain⟨⟨h4,rfl,held4,sm4⟩,dk4⟩:=q;refine qH (KT.run (Bz _ _) (wpAny_landsW (Q:=λ_ s5=>∃h5,s5={s1 with heap:=h5}/\Heap.FlyingW B (X.env::X.outer) a cls a0 h5/\h4.UpToSlots h5) (E:=λ_ _=>False) (s:={s1 with heap:=h4}) held4 λh5 fl5 sm5=>⟨h5,rfl,fl5,sm5⟩)) (λ_ s5 q=>?_) λ_ _ q=>q.1.elim
  obtain⟨⟨h5,rfl,fl5,sm5⟩,dk5⟩:=q;have J5:AW X ad σ0 H' {s1 with heap:=h5,toks:=s1.toks}:=F.land J0 fl5.1 (sm4.trans sm5);have K5:=J5.hdl (.ref a);refine wpAny_handleBy_cons (codeAny_handlers_test (Cq K5 hg hm ?_ hd)) (by intro q;cases q);obtain⟨ob,hob,hobc⟩:=fl5.there
  have LT:PySem.W.Looks (model X.prog X.w) h5 (typeOf (.ref a)) cls:=by subst hobc;exact (PySem.W.Looks.ld hob).andThen .now
  refine (PySem.W.exm_one J5.kIn LT hx).here ?_;show codeAny _ _ _ _ _;refine codeAny_handlers_suite_as ?_;refine qH (KT.run (Bz _ _) (lands_againW (Q:=λ_ s6=>∃h6,s6={s1 with heap:=h6}/\Heap.FlyingW B (X.env::X.outer) a cls a0 h6/\h5.UpToSlots h6) (E:=λ_ _=>False) (s:={s1 with heap:=h5}) fl5 λh6 fl6 sm6=>⟨h6,rfl,fl6,sm6⟩)) (λ_ s6 q=>?_) λ_ _ q=>q.1.elim
  obtain⟨⟨h6,rfl,fl6,sm6⟩,dk6⟩:=q;have J6:AW X ad σ0 (Am H' a (Hu a cls D' false)) {s1 with heap:=h6,toks:=s1.toks}:=F.land' J0 fl6 ((sm4.trans sm5).trans sm6) ((dk4.trans dk5).trans dk6);refine GZ J6 hN hi (.inl hl) (v:=.ref a) rfl (λs7 I7=>?_) (.inr hl);have run:=hs (.ref a) ad s7 _ _ _ (I7.hdl (.ref a)) (hth a F.fresh.1);refine qH run (λf s8 q8=>?_) λ_ _ z=>z.elim
  cases f with
  |next =>
   obtain⟨σ8,H8,I8,q8⟩:=q8;exact GH (I8.unhdl J0.ok.hd) hN hi hl λs9 I9=>⟨_,_,I9,q8⟩
  |brk =>
   obtain⟨σ8,H8,I8,q8⟩:=q8;exact GH (I8.unhdl J0.ok.hd) hN hi hl λs9 I9=>⟨_,_,I9,q8⟩
  |cont =>
   obtain⟨σ8,H8,I8,q8⟩:=q8;exact GH (I8.unhdl J0.ok.hd) hN hi hl λs9 I9=>⟨_,_,I9,q8⟩
  |ret u =>
   obtain⟨v8,σ8,H8,I8,r8,q8⟩:=q8;exact GH (I8.unhdl J0.ok.hd) hN hi hl λs9 I9=>⟨v8,_,_,I9,r8,q8⟩
end
structure JX(K:qQ)(D:qM):Prop where
 ci:(PySem.W.clsIn K D).isSome=true
 ga:PySem.W.findIn K (.ref D) "__getattribute__"=some (some (.builtin "BaseException.__getattribute__"))
 gn:PySem.W.findIn K (.ref D) "__getattr__"=some none
 ca:PySem.W.findIn K (.ref D) "__class__"=some (some (.builtin "object.__class__"))
 sg:PySem.W.specialIn K (.builtin "object.__class__") "__get__"=some (some (.builtin "getset_descriptor.__get__"))
 tk:PySem.W.takesIn K (.builtin "object.__class__")=some true
 mo:PySem.W.mroIn K D (.type "object")=some true
 mb:PySem.W.mroIn K D (.type "BaseException")=some true
section
variable{K:qQ}{D:qM}{dy:Option qM}{n:Bool}
theorem O9(h:(PySem.W.clsIn K D).isSome=true):∃c d cd sl,K.lookup D=some ⟨c,d,.cls cd,sl⟩:=by
 delta PySem.W.clsIn at h
 cases e:K.lookup D with
 |none=>rw[e]at h;exact qE h ZY
 |some o =>
  rw[e]at h;obtain⟨c,d,dt,sl⟩:=o;cases dt with
  |cls cd=>exact⟨c,d,cd,sl,rfl⟩
  |_=>exact qE h ZY
theorem JX.isCls(c:JX K D)(kin:K.In h):PySem.W.Looks M h (isType (.ref D)) true:=by obtain⟨_,_,_,_,ho⟩:=O9 c.ci;intro A Q E s k q;unfold isType loadHead;exact qA (wpAny_loadPart (k _ _ (kin _ _ ho)) (qB q))
theorem De.ty(x:De a cls dy n h):PySem.W.Looks M h (typeOf (.ref a)) cls:=by refine byG λGq hGq=>?_;obtain⟨o,vs,e,c,_⟩:=x;refine hGq ?_;clear hGq Gq;subst c;exact (PySem.W.Looks.ld e).andThen .now
theorem Lz{x:qL}{name:Str}{g:qL}(kin:K.In h)(h1:PySem.W.findIn K (.ref D) name=some (some u))(h2:PySem.W.specialIn K u "__get__"=some (some g))(h3:PySem.W.takesIn K u=some true):
  PySem.W.Looks M h (Builtin.ObjectAttr.find x (.ref D) name) (.bind g u):=by
 have a1:=ak (M:=M) kin h1;have a2:PySem.W.Looks M h (Builtin.ObjectAttr.getOf (some u)) (some g):=PySem.W.looks_specialIn kin h2;have a3:PySem.W.Looks M h (Builtin.ObjectAttr.dataDescriptor? (some u) (some g)) (some (g,u)):=(PySem.W.looks_takesIn (M:=M) kin h3).andThen .now;exact a1.andThen (a2.andThen (a3.andThen (PySem.W.Looks.tag .now)))
theorem RI{prog:qO}{w:qP}{A:Around}{R:Result->qN->Prop}{tp:qL}(c:JX K D)(kin:K.In s.heap)(x:De a (.ref D) dy n s.heap)(q:R (.ok (.ret (.ref D))) s):
  codeAny (model prog w) A (.call (.builtin "getset_descriptor.__get__") ⟨[.builtin "object.__class__",.ref a,tp],[]⟩) R s:=by
 obtain⟨hp,g,d,t,os⟩:=s;have a1:=x.ty (M:=model prog w);have a2:=PySem.W.looks_mroIn (M:=model prog w) kin c.mo;refine codeAny_call_builtin PySem.W.KF.slot_gs.plain PySem.W.KF.entry_gs (PySem.W.KF.slot_gs.check _ _ _ _ _ _ _ _ PySem.W.KF.type_class (PySem.W.KF.args_gs _ _ _) ?_)
 (unfold Builtin.«getset_descriptor.__get__» Builtin.Getset_descriptor.descrGet;rw[PySem.W.dga_obj];refine qA (qB ?_))
 (unfold Builtin.Getset_descriptor.descrGetter Builtin.Getset_descriptor.descrCheckInstance Builtin.Getset_descriptor.descrNameAndClass isInstance;simp only[PySem.W.KF.owner_class])
 repeat lk
 refine⟨Code.quiet_builtin _ (by decide +kernel),codeAny_builtin PySem.W.KF.entry_class ?_⟩
 (unfold Builtin.«object.__class__» shownTypeOf;repeat lk)
 exact q
theorem N0{prog:qO}{w:qP}{A:Around}{Q:Option qL->qN->Prop}(c:JX K D)(kin:K.In s.heap)(x:De a (.ref D) dy n s.heap)
  (q:Q (some (.ref D)) {s with toks:=s.toks+1}):wpAny (model prog w) A (getAttr? (.ref a) "__class__") Q E s:=by
 refine byG λGq hGq=>?_;obtain⟨hp,g,d,t,os⟩:=s;refine hGq ?_;clear hGq Gq;have LT:=x.ty (M:=model prog w);have L1:=ak (M:=model prog w) kin c.ga;have L2:=ak (M:=model prog w) kin c.gn;have L3:=Lz (M:=model prog w) (x:=.ref a) kin c.ca c.sg c.tk;have L4:PySem.W.Looks (model prog w) hp (isInstance (.ref a) (.type "BaseException")) true:=LT.andThen (PySem.W.looks_mroIn kin c.mb);have FA:=PySem.F.excAttr_ValueError;unfold getAttr? getAttrBy? getAttrBy;refine qA (wpAny_mkText (qA (wpAny_attempt (qJ (qA (LT.at (qA (L1.at ?_))))))));show wpAny _ _ (getAttrByItsOwn _ _ _ _ _ _) _ _ _;unfold getAttrByItsOwn;refine qA (show wpAny _ _ (typeLookup (.ref D) "__getattr__") _ _ _ from L2.at ?_);refine qA (wpAny_attempt (qJ ?_));show wpAny _ _ (boundAndCalled _ _ _) _ _ _;unfold boundAndCalled;refine qA (wpAny_of_eq (FA.ga.bind _) ?_);refine wpAny_call (codeAny_call_builtin FA.ga.plain PySem.F.entry_bexc_ga ?_);have hk:builtinKind "BaseException.__getattribute__"=some .slot:=by decide +kernel
 have hsp:splitId "BaseException.__getattribute__"=some ("BaseException","__getattribute__"):=by decide +kernel
 have ha:=PySem.F.args_bexc_ga (.ref a) (.str "__class__" t);show wpAny _ _ (checkBuiltinCall "BaseException.__getattribute__" ⟨[.ref a,.str "__class__" t],[]⟩) _ _ _;simp only[checkBuiltinCall,hk,hsp];refine qA (L4.at ?_)
 repeat (any_goals (first|assumption|wp_step))
 refine byG λGq hGq=>?_;obtain⟨o,vs,eo,co,vo⟩:=id x;refine hGq ?_;clear hGq Gq;refine wpAny_loadPart eo ?_;refine qB ?_;rw[co];refine qA (L3.at ?_);show wpAny _ _ (call (.builtin "getset_descriptor.__get__") [.builtin "object.__class__",.ref a,.ref D] >>= λv=>ret v) _ _ _;refine qA (wpAny_call (RI c kin ⟨o,vs,eo,co,vo⟩ ?_));refine qB ?_;show wpAny _ _ (handedOut (.ref D)) _ _ _;exact qB (qB q)
theorem Kh(c:JX K D):PySem.W.KitX K (.ref a) (.ref D) (De a (.ref D) dy n) where
 ty:=λ_ _ _ x=>x.ty
 it:=λ_ _ kin _=>c.isCls kin
 ne:=λh tp dd its n sl kin htp=>by refine Bool.eq_false_iff.mpr λq=>?_;have e:D=tp:=Value.ref.inj (beq_iff_eq.mp q);subst e;obtain⟨_,_,_,_,ho⟩:=O9 c.ci;have y:=(kin _ _ ho).symm.trans htp;cases y
 ca:=λkin x q=>N0 c kin x q
end
inductive U9(K:qQ)(H:Hp):V->qL->Prop where
 |of {x:V} {t:qL} (h:FS K H x t):U9 K H x t
 |exc {a D:qM} {dy:Option qM} {n:Bool} (e:H a=some (Hu a (.ref D) dy n)) (c:JX K D):U9 K H (.ref a) (.ref D)
noncomputable def PB:V->Option qL
 |.ty n=>some (.type n)
 |.ref a=>some (.ref a)
 |_=>none
noncomputable def TM(K:qQ):List V->Hp->VK->Prop
 |[x,c],H,Q=>∃t u b,U9 K H x t/\PB c=some u/\PySem.W.kitOne K t u=some b/\Q (.bl b) H
 |_,_,_=>False
theorem PD:CH X (.builtin "isinstance") (TM X.K):=by
 intro ad s σ H xs us Q I rv h;rcases xs with _|⟨x,_|⟨c,_|⟨_,_⟩⟩⟩
 ·exact h.elim
 ·exact h.elim
 rotate_left
 ·exact h.elim
 refine byG λGq hGq=>?_;obtain⟨t,u,b,ty,rc,k,q⟩:=h;refine hGq ?_;clear hGq Gq;refine byG λGq hGq=>?_;obtain⟨v1,v2,rfl,r1,r2⟩:=Ot rv;refine hGq ?_;clear hGq Gq
 have e:v2=u:=by
  cases c with
  |ty n=>cases rc;exact r2
  |ref a=>cases rc;exact r2
  |_=>cases rc
 subst e;cases ty with
 |of ty=>exact Nv I r1 ty k λtk=>⟨.bl b,H,I.tok tk,rfl,q⟩
 | @exc a D dy n e ck =>
  cases (show v1=Value.ref a from r1);obtain⟨x,_,_⟩:=(show Av X.prog X.w H s.heap a (.ext (De a (.ref D) _ _)) from I.hok a _ e);exact Z7 (Kh ck) I.kIn x k (λz=>nomatch z) λtk=>⟨.bl b,H,I.tok tk,rfl,q⟩
variable{I:qM}{items:Array qL}
section
variable{prog:qO}{w:qP}{A:Around}
theorem N3:typeLookup (.type "list_reverseiterator") "__len__"=pure none:=by rw[typeLookup_type,builtinLookup_eq_fast];kernel_rfl
theorem PH:typeLookup (.type "list_reverseiterator") "__length_hint__"=pure (some (.builtin "list_reverseiterator.__length_hint__")):=by rw[typeLookup_type,builtinLookup_eq_fast];kernel_rfl
theorem PJ{Q:Bool->qN->Prop}(hT:s.TypeIs (.ref I) "list_reverseiterator")(q:Q false s):wpAny (model prog w) A (Builtin.List.listLengthHint (.ref I)) Q E s:=by
 unfold Builtin.List.listLengthHint;refine qA (wpAny_specialOf hT N3 ?_);show wpAny _ A (specialOf (Value.ref I) (Str.ofString "__length_hint__") >>= _) _ _ _;refine qA (wpAny_specialOf hT PH ?_);generalize hz:("list_reverseiterator.__length_hint__":String)=zz
 wp_delta
 rw[show splitId zz=some ("list_reverseiterator","__length_hint__") from by subst hz;decide +kernel];subst hz;refine qA (wpAny_isInstance (b:=true) hT (by rw[isSubtype_type];kernel_rfl) ?_);exact qB q
theorem Ki{Q:qL->qN->Prop}(hh:A.handled=none)(hIl:l≠I)(hit:s.heap.IsRevIter I l ((items.size:Int)-1))(hl:s.heap.IsList l items)(hz:items.size<=sizeLine)
  (hQ:∀h' tk c' c9,(∀b o,b≠I->s.heap.get? b=some o->h'.get? b=some o)->h'.get? s.heap.objs.size=some {cls:=.type "list",dict:=none,data:=.seq c9 c',slots:=#[]} ->
   c9.toList=items.toList.reverse->Q (.ref s.heap.objs.size) {s with heap:=h',toks:=tk}):wpAny (model prog w) A (call (.type "list") [.ref I]) Q E s:=by
 have W:=(Walks.listRev (prog:=prog) (w:=w) (A:=A.in1.in1) hh I l hIl items).toS;have hIlt:I<s.heap.objs.size:=by obtain⟨o,e,_⟩:=hit;exact ZO e
 have hllt:l<s.heap.objs.size:=by obtain⟨o,e,_⟩:=hl;exact ZO e
 refine callType_codes (Q₁:=λobj s₁=>obj=.ref s.heap.objs.size/\s₁={s with heap:=s.heap.push {cls:=.type "list",data:=.seq #[]}}) PySem.F.called_list (PySem.F.typeCall_list_1 _) PySem.F.entry_list_init
  (code_list_new _ ⟨rfl,rfl⟩) λobj s₁ h₁=>?_
 obtain⟨rfl,rfl⟩:=h₁;have hS:(s.heap.push {cls:=.type "list",data:=.seq #[]}).get? s.heap.objs.size=some {cls:=.type "list",data:=.seq #[]}:=ZU _ rfl;refine⟨⟨_,hS,rfl⟩,PySem.F.args_list_init_2 _ _,?_⟩;show wpAny _ _ (do let old <-Builtin.List.listItems (.ref s.heap.objs.size);Builtin.List.listUpdate (.ref s.heap.objs.size) (λ_=>#[]);letGo old.toList.reverse;Builtin.List.listExtendWith (.ref s.heap.objs.size) (.ref I) .none) _ _ _;refine qA ?_;unfold Builtin.List.listItems;refine qA (wpAny_seqItems hS rfl (qB ?_));show wpAny _ _ (updateSeq s.heap.objs.size (λ_=>#[]) >>= λ_=>letGo (#[]:Array qL).toList.reverse >>= λ_=>Builtin.List.listExtendWith (.ref s.heap.objs.size) (.ref I) .none) _ _ _;refine qA (wpAny_updateSeq hS rfl ?_);have hS2:=Zr (Obj.mapSeq (λ_=>(#[]:Array qL))) hS rfl
 have kp:∀b o,s.heap.get? b=some o->((s.heap.push {cls:=.type "list",data:=.seq #[]}).update s.heap.objs.size (Obj.mapSeq (λ_=>(#[]:Array qL)))).get? b=some o:=
  λb o e=>(Z6 _ _ (aL (ZO e))).trans (ZN _ e)
 refine qA (wpAny_letGo ?_);have hit2:=hit.at λo e=>kp I o e
 have hl2:=hl.at λo e=>kp l o e
 unfold Builtin.List.listExtendWith;refine qA (wpAny_typeOf (T:="list_reverseiterator") hit2.typeIs ?_);have h1:Builtin.List.listSameRef (.ref s.heap.objs.size) (.ref I)=false:=by simp[Builtin.List.listSameRef,Nat.ne_of_gt hIlt]
 rw[qC (by rw[h1];decide)];refine qA (wpAny_pyIter_revIter hit2 ?_);refine qA (qJ (PJ hit2.typeIs ?_));rw[qC (by decide)]
 have nf:s.heap.objs.size∉[I,l]:=by simp only[List.mem_cons,List.not_mem_nil,or_false,not_or];exact⟨aL hIlt,aL hllt⟩
 refine qB ⟨plainId_quiet PySem.F.plain_extend_loop _,codeAny_extend_loopS W hz _ nf _ items.size 0 _ _ _ rfl (Nat.zero_le _) ⟨Nat.zero_le _,by simpa using hit2,hl2⟩ hS2 (ItemsOf.nil _) λs' c9 c' hm hS' hacc=>?_⟩;refine⟨rfl,?_⟩;rw[Moved.eq_with hm];refine hQ s'.heap s'.toks c' c9 (λb o hb e=>hm.heap b o (λz=>?_) (kp b o e)) hS' ?_
 ·rcases Zd.mp z with z|z
  ·exact qE (ZO e) (by rw[z];exact Zn _)
  ·exact hb (ZX.mp z)
 ·apply bG;intro i
  by_cases hi:i<items.size
  ·have hi2:i<c9.size:=by rw[hacc.1];exact hi
   have p:=hacc.2 i c9[i] (aO hi2);rw[List.getElem?_reverse (by simpa using hi),Array.getElem?_toList,Array.getElem?_eq_getElem hi2,Array.getElem?_toList,Array.length_toList];exact p.symm
  ·rw[Z9 (by rw[ZT,hacc.1];lia),Z9 (by rw[aG,ZT];lia)]
end
noncomputable def VW(K:qQ)(a:qM)(n:Nat):It:=
 ⟨λi H=>i<n/\∃xs,Ac K H a xs/\xs.length=n,λi H x H'=>H'=H/\∀xs,Ac K H a xs->xs.reverse[i]?=some x,λi _=>i=n⟩
theorem PK{P:qO}{w:qP}{K:qQ}(a it:qM)(n:Nat):JG P w K tg (VW K a n) [it] it (λi h=>i<=n/\h.IsRevIter it a ((n:Int)-1-(i:Int))) where
 mem:=by simp
 obj:=λi h st b hb=>by
  have e:b=it:=by simpa using hb
  subst e;refine byG λGq hGq=>?_;obtain⟨_,o,e,c,d⟩:=st;refine hGq ?_;clear hGq Gq;exact⟨o,e,λv z=>by rw[d]at z;cases z⟩
 keep:=λi h h' st k=>⟨st.1,st.2.at λo e=>k it (by simp) o e⟩
 item:=by
  intro X hP hw hK hc i ad s σ H E I hf st hg;subst hP hw hK;refine byG λGq hGq=>?_;obtain⟨hi,xs,hq,hn⟩:=hg;refine hGq ?_;clear hGq Gq;refine byG λGq hGq=>?_;obtain⟨its,rv,p,hz⟩:=I.list hq;refine hGq ?_;clear hGq Gq;have hlen:=rv.length;refine byG λGq hGq=>?_;obtain⟨f0,f1,f2,f3,f4,f5⟩:=hf it (by simp);refine hGq ?_;clear hGq Gq;have e:(n:Int)-1-(i:Int)=((n-1-i:Nat):Int):=by lia
  have hit:=st.2;rw[e]at hit;have hx:xs[n-1-i]?=some (xs[n-1-i]'(by lia)):=ZP (by lia);obtain⟨u,hu,ru⟩:=rv.get hx;refine wpAny_pyNext_rev_item hit p.isList (x:=u) (by simpa using hu) λh' st' sb=>?_;have I1:AW X ad σ H {s with heap:=h'}:=I.turned (t':=s.toks) (λb o hb e=>(sb.2 b hb).trans e) f0 f1 f3 f4 f5;refine byG λGq hGq=>?_;obtain⟨o,e,c,d⟩:=id st';refine hGq ?_;clear hGq Gq
  have st2:i+1<=n/\h'.IsRevIter it a ((n:Int)-1-((i+1:Nat):Int)):=⟨hi,by
   have e2:((n-1-i:Nat):Int)-1=(n:Int)-1-((i+1:Nat):Int):=by lia
   rw[<-e2];exact st'⟩
  refine⟨u,rfl,KY (s:={s with heap:=h'}) e c d (by decide) ⟨_,H,I1,ru,⟨rfl,λys hy=>?_⟩,st2,λb hb=>(hf b hb).1⟩⟩;rw[I.list_inj hy hq,bo (by lia),<-hx]
  congr 1
  lia
 done:=by
  intro X hP hw hK hc i ad s σ H E I hf st hg;subst hP hw hK;refine byG λGq hGq=>?_;obtain⟨f0,f1,f2,f3,f4,f5⟩:=hf it (by simp);refine hGq ?_;clear hGq Gq;have hg':i=n:=hg;subst hg';have hit:=st.2;have e:(i:Int)-1-(i:Int)=-1:=by lia
  rw[e]at hit;exact wpAny_pyNext_rev_end (I.ok.hd hc) hit λh' eb=>⟨rfl,I.turned (t':=s.toks) (λb o hb e=>eb b o hb e) f0 f1 f3 f4 f5⟩
 self:=λ_ _ _ _ _ st h=>wpAny_pyIter_revIter st.2 h
def YT(K:qQ)(ta:TA):TI:=λσ H R=>ta σ H λvs H1=>∃a xs,vs=[.ref a]/\Ac K H1 a xs/\R (VW K a xs.length) H1
theorem TN{l:Expr}{p pos:Pos}(hg:Gl X "reversed")(hm:X.mg "reversed"=none)(ha:PA X [l] ta)(hs:starEach [l] X.env=[(false,eval l X.env)]:=by rfl):PI X tg (.Call (.Name "reversed" p) [l] [] pos) (YT X.K ta):=by
 intro ad s σ H R I h;refine Call_ (CM I hg hm boot_reversed (Zo (A9 (ha pos ad s σ H _ I h) λus s1 z9=>?_) hs rfl));obtain⟨vs,H1,I1,r1,q1⟩:=z9;refine byG λGq hGq=>?_;obtain⟨a,xs,e,hq,q⟩:=q1;refine hGq ?_;clear hGq Gq;subst e;cases r1 with
 |cons r rr =>
  cases rr;cases r;refine byG λGq hGq=>?_;obtain⟨its,rv,pl,hz⟩:=I1.list hq;refine hGq ?_;clear hGq Gq;have hlen:=rv.length;refine call_reversed_list pl.isList ?_;have I2:AW X ad σ H1 {s1 with heap:=s1.heap.push (revObj a ((its.toArray.size:Int)-1)),toks:=s1.toks}:=I1.kept λb o e=>ZN _ e
  have st:(s1.heap.push (revObj a ((its.toArray.size:Int)-1))).IsRevIter s1.heap.objs.size a ((xs.length:Int)-1-((0:Nat):Int)):=by
   have e:((xs.length:Int)-1-((0:Nat):Int))=(its.toArray.size:Int)-1:=by rw[Zq,hlen];lia
   rw[e];exact⟨_,ZU _ rfl,rfl,rfl⟩
  refine wpAny_pyIter_revIter st ?_;refine⟨s1.heap.objs.size,[s1.heap.objs.size],_,_,H1,rfl,I2,PK a _ xs.length,⟨Zw _,st⟩,λb hb=>?_,q⟩;have e:b=s1.heap.objs.size:=by simpa using hb
  subst e;exact I1.fpOk (ZR _) (I1.hok.fresh (ZR _))
theorem RJ{K:qQ}{g:TG}{tb:TS}(Pv:Nat->St->Hp->Prop)(h0:Pv 0 σ H)(hl:∀i σ H,i<=xs.length->Pv i σ H->Ac K H a xs)
  (hs:∀i x σ H,xs.reverse[i]?=some x->Pv i σ H->g x σ H λσ2 H2=>tb {D with nx:=Pv (i+1),ct:=Pv (i+1),bk:=D.nx} σ2 H2) (hd:∀σ H,Pv xs.length σ H->D.nx σ H):
  ∃W:Nat->Nat->St->Hp->Prop,(∃m,W 0 m σ H)/\∀i m σ H,W i m σ H ->
   ((VW K a xs.length).stop i H/\D.nx σ H)\/((VW K a xs.length).go i H/\∃N:St->Hp->Prop,(∀σ' H',N σ' H'->∃m',m'<m/\W (i+1) m' σ' H')/\∀x H',(VW K a xs.length).yld i H x H'->g x σ H' λσ2 H2=>tb {D with nx:=N,ct:=N,bk:=D.nx} σ2 H2):=by
 refine⟨λi m σ H=>m=xs.length-i/\i<=xs.length/\Pv i σ H,⟨xs.length,by simp,Nat.zero_le _,h0⟩,?_⟩;rintro i m σ H ⟨rfl,hi,p⟩;have q:=hl i σ H hi p
 by_cases hlt:i<xs.length
 ·refine .inr ⟨⟨hlt,xs,q,rfl⟩,Pv (i+1),λσ' H' p'=>⟨xs.length-(i+1),by lia,rfl,hlt,p'⟩,λx H' y=>?_⟩;obtain⟨e,y⟩:=y;subst e;exact hs i x σ _ (y xs q) p
 ·have e:i=xs.length:=by lia
  subst e;exact .inl ⟨rfl,hd σ H p⟩
def SO(K:qQ)(ta:TA):TE:=λσ H Q=>ta σ H λvs H1=>∃a xs,vs=[.ref a]/\Ac K H1 a xs/\∀p,H1 p=none->Q (.ref p) (Am H1 p (.lst xs.reverse))
theorem Ej{l:Expr}{p1 p2 pos1 pos2:Pos}(hc:X.calm=true)(hg:Gl X "reversed")(hm:X.mg "reversed"=none)(hg2:Gl X "list")(hm2:X.mg "list"=none)(ha:PA X [l] ta)(hs:starEach [l] X.env=[(false,eval l X.env)]:=by rfl)
  (hs2:starEach [.Call (.Name "reversed" p1) [l] [] pos1] X.env=[(false,eval (.Call (.Name "reversed" p1) [l] [] pos1) X.env)]:=by rfl):
  PE X (.Call (.Name "list" p2) [.Call (.Name "reversed" p1) [l] [] pos1] [] pos2) (SO X.K ta):=by
 intro ad s σ H Q I h;refine Call_ (CM I hg2 hm2 be (Zo (T:="list") ?_ hs2 rfl));rw[hs2];show wpAny _ _ (spliced ((false,eval (.Call (.Name "reversed" p1) [l] [] pos1) X.env)::[])) _ _ s;refine Calls.spliced_cons (Call_ (CM I hg hm boot_reversed (Zo (A9 (ha pos1 ad s σ H _ I h) λus s1 z9=>?_) hs rfl)));obtain⟨vs,H1,I1,r1,q1⟩:=z9;refine byG λGq hGq=>?_;obtain⟨a,xs,e,hq,q⟩:=q1;refine hGq ?_;clear hGq Gq;subst e;cases r1 with
 |cons r rr =>
  cases rr;cases r;refine byG λGq hGq=>?_;obtain⟨its,rv,pl,hz⟩:=I1.list hq;refine hGq ?_;clear hGq Gq;have hlen:=rv.length;refine call_reversed_list pl.isList ?_;refine Calls.spliced_nil ?_;have ne:a≠s1.heap.objs.size:=by obtain⟨o,e,_⟩:=pl.isList;exact Zj (ZO e)
  have hL:(s1.heap.push (revObj a ((its.toArray.size:Int)-1))).IsList a its.toArray:=pl.isList.at λo e=>ZN _ e
  refine Ki (s:={s1 with heap:=s1.heap.push (revObj a ((its.toArray.size:Int)-1))}) (I.ok.hd hc) ne ⟨_,ZU _ rfl,rfl,rfl⟩ hL (by rw[Zq,<-hlen];exact hz) λh' tk c' c9 kp hD hacc=>?_;have kp2:∀b o,s1.heap.get? b=some o->h'.get? b=some o:=λb o e=>kp b o (Zj (ZO e)) (ZN _ e)
  have hf:H1 (s1.heap.push (revObj a ((its.toArray.size:Int)-1))).objs.size=none:=I1.hok.fresh (by rw[aC];lia);have rv2:Ag xs.reverse c9.toList:=by rw[hacc];simpa using rv.reverse
  refine⟨.ref _,_,I1.laid (t':=tk) kp2 (by rw[aC];lia) ?_,rfl,q _ hf⟩;exact⟨by rw[List.length_reverse];exact hz,c9.toList,c',rv2,by simpa using hD⟩
def VX(K:qQ):R2:=λx y H Q=>∃(a b:qM) (ns ms:qR),x=.ref a/\y=.ref b/\Ac K H a (ns.map V.int)/\Ac K H b (ms.map V.int)/\Q (.bl (decide (ns=ms))) H
theorem TQ(hu:X.A.units+64<cLine):FQ X (compareOp .Eq) (VX X.K):=by intro ad s σ H x y v u Q I rx ry h;refine byG λGq hGq=>?_;obtain⟨a,b,ns,ms,rfl,rfl,ha,hb,q⟩:=h;refine hGq ?_;clear hGq Gq;cases rx;cases ry;refine byG λGq hGq=>?_;obtain⟨va,ra,pa,_⟩:=I.list ha;refine hGq ?_;clear hGq Gq;refine byG λGq hGq=>?_;obtain⟨vb,rb,pb,_⟩:=I.list hb;refine hGq ?_;clear hGq Gq;exact PySem.W.eq_intsK pa.isList (Gg ra) pb.isList (Gg rb) hu ⟨.bl _,H,I,rfl,q⟩
theorem PL{P:qO}{w:qP}{K:qQ}{mg:Str->Option qL}{base:Heap}{N:List Str}{f:qM}{cd:qL}{A:Around}{outer:List Env}{E:XK}:(Cc CX P w K mg base N qual scope f cd A outer s H E).K=K:=rfl
theorem YU{p:List (qM×Obj)}:(X.tr p W).K=X.K:=rfl
theorem SQ{v:qL}:(X.hdl v).K=X.K:=rfl
theorem Mw{P:qO}{w:qP}:Bl (Ea P w) X (λ_=>E0):=λ_ _ _ _ _ _ _ h=>by obtain⟨_,_,_,_,_,_,_,_,h⟩:=h;exact h.elim
theorem AI.new(h:H p=none)(o:HO):AI H (Am H p o):=λb u q=>by rw[AR (Ah q h)];exact q
theorem CI{q:qM}(h:Am H p o q=none):q≠p/\H q=none:=by
 have ne:q≠p:=λz=>by rw[z,AE]at h;cases h
 rw[AR ne]at h;exact⟨ne,h⟩
theorem SR(h:n<=1000):n<=sizeLine:=a8 (Ad h)
section
variable{p:Pos}{a c:Expr}{ta tc:TE}
theorem Fv{n:String}(hg:Gl X x)(hm:X.mg x=none)(hv:bootBuiltins x=some (.type n))(hn:x≠"__name__":=by decide)(hd:(x==("__debug__":Str))=false:=by decide):PE X (.Name x pos) (tC (.ty n)):=
 Qy (v:=.ty n) hg hm hv rfl hn hd
theorem Gk(hg:Gl X x)(hm:X.mg x=some (.ref C))(hd:(x==("__debug__":Str))=false:=by decide):PE X (.Name x pos) (tC (.ref C)):=JD (v:=.ref C) hg hm rfl hd
theorem PM{i:Int}{t:Tok}(hg:Gl X x)(hm:X.mg x=some (.int i t))(hd:(x==("__debug__":Str))=false:=by decide):PE X (.Name x pos) (tC (.int i)):=JD (v:=.int i) hg hm ⟨t,rfl⟩ hd
theorem DN(hg:Gl X "isinstance")(hm:X.mg "isinstance"=none)(ha:PE X a ta)(hc:PE X c tc)(h1:starEach [a,c] X.env=(false,eval a X.env)::starEach [c] X.env:=by rfl)(h2:starEach [c] X.env=(false,eval c X.env)::starEach [] X.env:=by rfl)
  (h3:(backTo pos (starEach [c] X.env)).any (·.1)=false:=by rfl):PE X (.Call (.Name "isinstance" p) [a,c] [] pos) (VQ (TM X.K) (Gf ta (Gf tc Nw))):=
 AT PD hg hm PyProof.Rows.boot_isinstance (AA ha (AA hc AB h2) h1) (by decide) (by decide) h1 h3
end
theorem ZG{t u:TS}(Z:St->Hp->Prop)(h1:∀N:St->Hp->Prop,(∀σ' H',Z σ' H'->N σ' H')->t {D with nx:=N} σ H)(h2:∀σ' H',Z σ' H'->u D σ' H'):Nm t u D σ H:=h1 (u D) h2
noncomputable def PN(ns:qR)(lo hi:Option Int):qR:=(ns.drop (HT.GG ns.length 0 lo)).take (HT.GG ns.length ns.length hi-HT.GG ns.length 0 lo)
theorem PP(ns:qR)(lo hi:Option Int):FT (ns.map V.int) lo hi=(PN ns lo hi).map V.int:=by unfold FT PN;rw[ZM,List.map_take,bX]
theorem PQ(k:Nat)(v:V):(List.replicate k [v]).flatten=List.replicate k v:=by
 induction k with
 |zero=>rfl
 |succ k ih=>rw[aF,bF,ih,aF];rfl
def AO(K:qQ)(x:Str)(st:Stmt)(f:qM):Prop:=(∃fd,BD K x x st f fd)/\PySem.W.nsIn K mainGlobals x=some (some (.ref f))
theorem AQ{K:qQ}{f:qM}{kV ct:qL}(a:PySem.W.nsIn K mainGlobals x=some (some (.ref f)))
  (l:K.lookup f=some ⟨oc,od,.func (PySem.W.fnOf x x (CT st) (BI st) (AG st) .none kV doc pm an cb ct),osl⟩) (c:PySem.W.codeIn K cb x=true) (k:PySem.W.keepIn K (.ref f)=true):AO K x st f:=
 ⟨⟨_,JT l c k⟩,a⟩
theorem AW.storedNew{y:Str}{v:V}{D:qM}{m:Str->Option qL}(I:AW X ad σ H s)(hN:X.N.Nodup)(hi:X.N[i]?=some y)(hl:X.env.scope.names.lookup y=some .local)(r:Al v u)
  (hm:s.heap.Ns X.env.locals m) (hmv:∀(j:Nat) (z:Str) (v:V),X.N[j]?=some z->σ[j]?=some (some v)->X3 X.env.scope z->∃u,Al v u/\VD X.env s.heap m z u)
  (hn:h'.Ns X.env.locals λz=>if z=y then some u else m z) (k:∀b o,b≠X.env.locals->s.heap.get? b=some o->h'.get? b=some o)
  (hD:s.heap.get? D=none) (new:Av X.prog X.w (Am H D o) h' D o):AW X ad (σ.set i (some v)) (Am H D o) {s with heap:=h',toks:=t'}:=by
 have away:∀b ob,X.s₀.heap.get? b=some ob->b≠X.env.locals:=λb ob e=>Zj (ZV (ZO e) I.ok.above)
 have neD:∀b ob,s.heap.get? b=some ob->b≠D:=λb ob e z=>by rw[z,hD]at e;cases e
 have nD:H D=none:=by
  cases q:H D with
  |none=>rfl
  |some u' =>
   obtain⟨ob,e⟩:=(I.hok D u' q).somewhere;rw[hD]at e;cases e
 have cel:∀c w,c≠X.env.locals->s.heap.IsCell c w->h'.IsCell c w:=λc w hc ⟨ob,e,d⟩=>⟨ob,k c ob hc e,d⟩
 have LD:X.env.locals≠D:=by obtain⟨ob,_,_,e,_⟩:=id hm;exact neD _ ob e
 have hiσ:i<σ.length:=by rw[I.len];exact (ZW.mp hi).1
 refine⟨I.ok,I.os,I.bare,⟨λb ob e n hb hx=>k b ob (away b ob e) (I.base.keep b ob e n hb hx),λb ob e n hb hx=>?_,λb ob e n hx=>?_,λb ob e hx=>?_,λb xs q=>?_,λb ob w q=>?_,λb ps q=>?_⟩,
  ⟨_,hn,λj z w e1 e2 e3=>?_⟩,λz c e=>?_,?_,λz c e=>?_,λq hq=>?_,λb w q=>?_,by simpa using I.len⟩
 ·obtain⟨sl,e1⟩:=I.base.slot b ob e n hb hx;exact⟨sl,k b _ (away b ob e) e1⟩
 ·obtain⟨o1,e1⟩:=I.base.there b ob e hx;rw[AR (neD b o1 e1)];exact I.base.free b ob e n hx
 ·obtain⟨o1,e1⟩:=I.base.there b ob e hx;exact⟨o1,k b o1 (away b ob e) e1⟩
 ·have q':=I.base.tups b xs q;rw[AR (Ah q' nD)];exact q'
 ·have q':=I.base.frzs b ob w q;rw[AR (Ah q' nD)];exact q'
 ·obtain⟨more,q'⟩:=I.base.tbls b ps q;exact⟨more,by rw[AR (Ah q' nD)];exact q'⟩
 ·by_cases hj:j=i
  ·subst hj;rw[hi]at e1;cases e1;rw[av hiσ]at e2;cases e2;exact⟨u,r,.inl ⟨hl,by simp⟩⟩
  ·rw[bJ (Ne.symm hj)]at e2;obtain⟨u',r',z'⟩:=hmv j z w e1 e2 e3;refine⟨u',r',?_⟩;rcases z' with⟨kk,z'⟩|⟨kk,c,z',y'⟩
   ·have ny:z≠y:=λq=>hj (Ec hN e1 (q▸hi))
    exact .inl ⟨kk,by simp[ny,z']⟩
   ·exact .inr ⟨kk,c,z',cel c _ (I.cne z c z') y'⟩
 ·obtain⟨w,q⟩:=I.cell z c e;exact⟨w,cel c w (I.cne z c e) q⟩
 ·rw[AR LD];exact I.free
 ·obtain⟨w,ob,q,_⟩:=I.cell z c e;rw[AR (neD c ob q)];exact I.freeC z c e
 ·obtain⟨e,n,ne,nf,d⟩:=I.pin q hq;exact⟨k q.1 q.2 ne e,by rw[AR (neD q.1 q.2 e)];exact n,ne,nf,d⟩
 ·by_cases hb:b=D
  ·subst hb;rw[AE]at q;cases q;exact new
  ·rw[AR hb]at q;have fz:=I.free;refine (I.hok b w q).stay (λc v' hc r'=>k c v' (λz=>?_) r') (λc z=>by rw[AR (Ah z nD)];exact z) λc xs z=>by rw[AR (Ah z nD)];exact z
   rcases hc with e|e
   ·rw[<-z,e,q]at fz;cases fz
   ·rw[<-z,e]at fz;cases fz
theorem Kj{gv:Int}:∀{ns:qR} {its ys:List qL},Ag (ns.map V.int) its->Paired (λv y=>∀i t,v=Value.int i t->∃t',y=Value.int (i%gv) t') its ys->Ag ((ns.map (·%gv)).map V.int) ys
 |[],_,_,.nil,.nil=>.nil
 |n::ns,_,_,.cons r rr,.cons q qq=>by obtain⟨t,e⟩:=r;exact .cons (q n t e) (Kj rr qq)
def Kk(K:qQ)(ti:TE)(ig iy:Nat):TS:=λD σ H=>∃gv:Int,σ[ig]?=some (some (.int gv))/\0<gv/\ti σ H λv H1=>∃(a:qM) (ns:qR),v=.ref a/\Ac K H1 a (ns.map V.int) /\
 ∀p,H1 p=none->D.nx (σ.set iy (some (.ref p))) (Am H1 p (.lst ((ns.map (·%gv)).map V.int)))
section
variable{y g:Str}{px py p1 p2 p3 spos:Pos}{iter:Expr}{ti:TE}{ig iy:Nat}{c:qM}
theorem L0(hc:X.calm=true)(hN:X.N.Nodup)(hy:X.N[iy]?=some y)(hyl:X.env.scope.names.lookup y=some .local)(hgN:X.N[ig]?=some g)(hgk:X.env.scope.names.lookup g=some .cell)(hi:PE X iter ti)
  (hsw:swapsWith (.ListComp (.BinOp (.Name x p1) .Mod (.Name g p2) p3) [⟨.Name x px,iter,[],0⟩] scope pos) (some (.Name y py)) spos.line X.env=pure true)
  (hclos:closureFor scope X.env=pure [(g,c)]) (hcc:X.env.cells.lookup g=some c) (hcell:∀z∈scope.names,z.2≠.cell) (hkind:scope.kind=.function)
  (hnames:∀z∈scope.names,z.2=.local->scope.names.lookup z.1=some .local) (hx:scope.names.lookup x=some .local) (hgr:(relabel scope X.env).names.lookup g=some .cell)
  (hdx:(x==("__debug__":Str))=false:=by decide) (hdg:(g==("__debug__":Str))=false:=by decide) (hs:∀x,foldedSetIterable iter X.env x=pure x:=by intro _;rfl):
  PS X (.Assign [.Name y py] (.ListComp (.BinOp (.Name x p1) .Mod (.Name g p2) p3) [⟨.Name x px,iter,[],0⟩] scope pos) spos) (Kk X.K ti ig iy):=by
 intro ad s σ H D I h;refine byG λGq hGq=>?_;obtain⟨gv,hgσ,g0,h⟩:=h;refine hGq ?_;clear hGq Gq;have hcls:(X.env.scope.kind==.class||(X.env.scope.kind==.module&&X.env.locals != X.env.globals))=false:=by rw[I.ok.kind];rfl
 refine wpAny_Assign_ListComp_free (λ_=>true) (λv y=>∀i t,v=.int i t->∃t',y=.int (i%gv) t') hsw hclos hcell hkind hnames hx hyl hcls (A9 (hi ad s σ H _ I h) λxv s1 q=>?_) hs;refine byG λGq hGq=>?_;obtain⟨v,H1,I1,rv,a,ns,e,hq,q⟩:=q;refine hGq ?_;clear hGq Gq;subst e;cases rv;refine byG λGq hGq=>?_;obtain⟨its,rits,pl,hz⟩:=I1.list hq;refine hGq ?_;clear hGq Gq;have hlen:=rits.length;have alt:a<s1.heap.objs.size:=by obtain⟨o,e,_⟩:=pl.isList;exact ZO e
 refine wpAny_pyIter_list pl.isList ?_;obtain⟨m,hm,hmv⟩:=I1.loc;have up:∀b o,s1.heap.get? b=some o->(s1.heap.push {cls:=.type "list_iterator",data:=.fields #[.ref a,.int 0 0]}).get? b=some o:=λb o e=>ZN _ e
 refine⟨s1.heap.objs.size,[s1.heap.objs.size,a],[s1.heap.objs.size],its.toArray.size,_,_,m,rfl,Walks.list (I.ok.hd hc) _ a (Zj alt) its.toArray,by rw[Zq,<-hlen];exact hz,
  ⟨⟨_,ZU _ rfl,rfl,rfl⟩,pl.isList.at λo e=>up a o e⟩,λb hb=>?_,?_,hm.at' λo e=>up _ o e,⟨?_,?_⟩,?_⟩
 ·show b<(s1.heap.push _).objs.size;rw[aC];rcases Zd.mp hb with z|z
  ·rw[z];exact ag _
  ·rw[ZX.mp z];exact aa alt
 ·intro z;have z':=ZX.mp z;exact qE I1.lt (by rw[z'];exact Zn _)
 ·intro C i w s3 m3 E' _ _ _ _ _ _;exact qB ⟨rfl,s3.heap,s3.toks,rfl,λ_ _ e=>e⟩
 ·intro C i w s3 m3 E' hC hw _ hn3 hx3 hk3 _;have hgl:=hmv ig g (.int gv) hgN hgσ (.inr (.inl hgk));refine byG λGq hGq=>?_;obtain⟨u,⟨tg,ru⟩,lk⟩:=hgl;refine hGq ?_;clear hGq Gq;subst ru
  have cellv:s3.heap.IsCell c (some (.int gv tg)):=by
   rcases lk with⟨kk,_⟩|⟨_,c',e',⟨o,eo,d⟩⟩
   ·rw[show X.env.kindOf g=some .cell from hgk]at kk;cases kk
   ·rw[hcc]at e';cases e';exact⟨o,hk3 c o (λz=>qE (ZO eo) (by rw[ZX.mp z];exact Zn _)) (up c o eo),d⟩
  have hkf:(compEnvC scope [(g,c)] C X.env).scope.kind=.function:=hkind;refine wpAny_BinOp (wpAny_Name (wpAny_loadName_local hkf (lookup_relabel_local hx) hn3 hx3 ?_) hdx);refine wpAny_Name (wpAny_loadName_cell (c:=c) hkf hgr (by simp[compEnvC]) cellv ?_) hdg;have hwi:its[i]?=some w:=by simpa using hw
  have hi2:i<its.length:=(ZW.mp hwi).1;obtain⟨u2,hu2,ru2⟩:=rits.get (x:=(.int (ns[i]'(by rw[ZM]at hlen;lia)))) (i:=i) (by rw[Zk,ZP (by rw[ZM]at hlen;lia)];rfl);rw[hwi]at hu2;cases hu2;obtain⟨tw,rfl⟩:=ru2;refine mod_int' (by lia) ⟨λi' t' e=>?_,s3.heap,s3.toks+1,rfl,λ_ _ e=>e⟩;cases e;exact⟨_,by rw[Int.fmod_eq_emod_of_nonneg _ (by lia)]⟩
 ·intro D' h2 tk ys vs hD' hlD hplD hvl hvP hF hnL hk2
  have hDn:s1.heap.get? D'=none:=by
   cases z:s1.heap.get? D' with
   |none=>rfl
   |some o =>
    have z2:=up D' o z;rw[hD']at z2;cases z2
  have nD:H1 D'=none:=by
   cases z:H1 D' with
   |none=>rfl
   |some u' =>
    obtain⟨ob,e⟩:=(I1.hok D' u' z).somewhere;rw[hDn]at e;cases e
  refine⟨_,_,I1.storedNew (t':=tk) hN hy hyl (v:=.ref D') (u:=.ref D') rfl hm hmv hnL (λb o hb e=>hk2 b o hb (λz=>qE (ZO e) (by rw[ZX.mp z];exact Zn _)) (up b o e)) hDn ?_,q D' nD⟩;obtain⟨n,e⟩:=hplD;refine⟨?_,ys.toList,n,?_,by simpa using e⟩
  ·rw[ZM,ZM];rw[ZM]at hz;exact hz
  ·have hf:vs.filter (λ_=>true)=vs:=List.filter_eq_self.mpr λ_ _=>rfl
   rw[hf]at hF
   have hvs:vs=its:=by
    apply bG;intro j
    by_cases hj:j<vs.length
    ·have z:=hvP j vs[j] (ZP hj);rw[ZP hj];exact (by simpa using z:its[j]?=some vs[j]).symm
    ·rw[Z9 (by lia),Z9 (by rw[Zq]at hvl;lia)]
   rw[hvs]at hF;exact Kj rits hF
end
section
variable{prog:qO}{w:qP}{A:Around}{K:qQ}{hp:Heap}{gs:Array GenState}{dr:Drawn}{tk:Nat}{oz:OsState}
variable{nm qn:Str}{c N:qM}{bs tl bmB:List qL}{dy:Bool}{sn:List Str}{sub:List qL}{ab:Bool}{col:Option Bool}{dd:Option qM}{k0 k1 k2 k3 k5:Option qL}{B nid iid:String}
theorem RK(F:ExcBaseFacts B nid iid bmB)(T:OwnTail hp bmB tl){mN:Str->Option qL}{f:qM}{Q:Fin->qN->Prop}(kin:K.In hp)
  (hC:hp.get? c=some (excClassObj nm qn c N bs tl dy sn sub ab col dd k0 k1 k2 k3 k5 nid)) (hN:hp.Ns N mN) (hi:mN "__init__"=some (.ref f)) (hf:PySem.W.typeIn K (.ref f)=some (.type "function"))
  (k:∀hp' e,hp.objs.size<=e->Heap.MadeExcOf hp hp' e (.ref c) us->wpAny (model prog w) A (call (.ref f) (.ref e::us)) (λr s'=>r=.none/\Q (.done (.ret (.ref e))) s') E ⟨hp',gs,dr,tk,oz⟩) (hl:us.length<=sizeLine):
  wpAny (model prog w) A (Builtin.«type.__call__» ⟨.ref c::us,[]⟩) Q E ⟨hp,gs,dr,tk,oz⟩:=by
 repeat (first|with_reducible refine wpAny_madeBy_exc hC ?_|with_reducible refine wpAny_loadPart_at hC ?_|wp_step)
 refine codeAny_call_builtin_code (Code.quiet_builtin _ F.quiet) (wpAny_check_new_subU F F.hasB T hC (codeAny_exc_new_subU F F.hasB F T hC ?_ hl));show wpAny _ _ _ _ _ _;generalize e1:hp.push {cls:=.type "tuple",data:=.seq us.toArray}=hp1;have s1:hp1.objs.size=hp.objs.size+1:=by rw[<-e1,aC]
 have u1:∀b o,hp.get? b=some o->hp1.get? b=some o:=λb o z=>by rw[<-e1];exact ZN _ z
 have t1:hp1.get? hp.objs.size=some {cls:=.type "tuple",data:=.seq us.toArray}:=by rw[<-e1];exact ZU hp rfl
 generalize e2:hp1.push {cls:=.ref c,data:=.fields #[.ref hp.objs.size,.none,.none,.none,.bool false,.none]}=hp2;have u2:∀b o,hp1.get? b=some o->hp2.get? b=some o:=λb o z=>by rw[<-e2];exact ZN _ z
 have x2:hp2.get? (hp.objs.size+1)=some {cls:=.ref c,data:=.fields #[.ref hp.objs.size,.none,.none,.none,.bool false,.none]}:=by rw[<-e2,<-s1];exact ZU hp1 rfl
 have u3:∀b o,hp.get? b=some o->hp2.get? b=some o:=λb o z=>u2 b o (u1 b o z)
 have C2:=u3 _ _ hC;have N2:hp2.Ns N mN:=hN.keeps u3;have T2:=T.keeps u3;have kin2:K.In hp2:=λb o z=>u3 b o (kin b o z)
 have cc:(Value.ref c::tl).contains (.ref c)=true:=by simp
 unfold isInstance
 repeat (first|with_reducible refine wpAny_loadPart_at x2 ?_|(with_reducible refine wpAny_isSubtype_exc C2 ?_;rw[cc])|wp_step)
 show wpAny _ _ (typeLookup (.ref c) _) _ _ _;refine wpAny_typeLookup_tail C2 N2 T2 F.mroIs F.init.lookup ?_;rw[hi];refine qJ (qA ((PySem.W.bind_fn kin2 _ hf).at ?_));have made:Heap.MadeExcOf hp hp2 (hp.objs.size+1) (.ref c) us:=⟨u3,bI (bA _),hp.objs.size,x2,bI (ZR _),u2 _ _ t1⟩;refine qA (qH (k hp2 _ (bA _) made) (λr s' hr=>?_) λ_ _ z=>z);obtain⟨er,hQ⟩:=hr;subst er
 wp_walk
 exact hQ
theorem RL(F:ExcBaseFacts B nid iid bmB)(T:OwnTail hp bmB tl){mN:Str->Option qL}{f:qM}(kin:K.In hp)
  (hC:hp.get? c=some (excClassObj nm qn c N bs tl dy sn sub ab col dd k0 k1 k2 k3 k5 nid)) (hN:hp.Ns N mN) (hi:mN "__init__"=some (.ref f)) (hf:PySem.W.typeIn K (.ref f)=some (.type "function"))
  (k:∀hp' e,hp.objs.size<=e->Heap.MadeExcOf hp hp' e (.ref c) us->wpAny (model prog w) (A.under (.builtin "type.__call__" ⟨.ref c::us,[]⟩)) (call (.ref f) (.ref e::us)) (λr s'=>r=.none/\Q (.ref e) s') E ⟨hp',gs,dr,tk,oz⟩) (hl:us.length<=sizeLine):
  wpAny (model prog w) A (call (.ref c) us) Q E ⟨hp,gs,dr,tk,oz⟩:=by
 have z1:=tc_lookup;have z2:=tc_bind (.ref c);have z3:(⟨hp,gs,dr,tk,oz⟩:qN).TypeIs (.ref c) "type":=⟨_,hC,rfl⟩;refine wpAny_call (codeAny_of_tree ?_);show wpAny _ _ (callAny (.ref c) _) _ _ _
 repeat (any_goals (first|assumption|with_reducible refine wpAny_loadPart_at hC ?_|wp_step))
 refine⟨rfl,codeAny_call_builtin_at (Code.quiet_builtin _ (by decide +kernel)) entry_typeCall (wpAny_check_type_call_sub hC (RK F T kin hC hN hi hf (λhp' e z m=>?_) hl))⟩;exact k hp' e z m
end
noncomputable def VY(K:qQ)(C R:qM):Bool:=(PySem.W.clsIn K C).any λcd=>cd.mro==Value.ref C::Value.ref R::Cp
structure XA(K:qQ)(C R:qM)(f:Str):Prop where
 sa:PySem.W.findIn K (.ref C) "__setattr__"=some (some (.builtin "object.__setattr__"))
 hd:PySem.W.hasDictIn K C=true
 mr:VY K C R=true
 no:PySem.W.findIn K (.ref C) f=some none
 ek:JX K C
section
variable{prog:qO}{w:qP}{A:Around}{K:qQ}{x R:qM}{ox:Obj}{vs:Array qL}{f:Str}{v:qL}
theorem N4{Q:Unit->qN->Prop}(kin:K.In s.heap)(c:XA K C R f)(hx:s.heap.get? x=some ox)(hc:ox.cls=.ref C)(hd:ox.data=.fields vs)(hn:ox.dict=none)
  (k:∀h' dx,s.heap.get? dx=none->dx≠x->h'.get? x=some {ox with dict:=some dx}->h'.Ns1 dx (λy=>if y=f then some v else none)->(∀b o,b≠x->s.heap.get? b=some o->h'.get? b=some o)->Q () {s with heap:=h',toks:=s.toks+2}):
  wpAny (model prog w) A (setAttr (.ref x) f v) Q E s:=by
 refine byG λGq hGq=>?_;obtain⟨oc,od,dt,sl⟩:=ox;refine hGq ?_;clear hGq Gq;dsimp only at hc hd hn;subst hc hd hn;have SF:=PySem.F.store_object;have SV:=PySem.F.store_ValueError;have I:PySem.W.InstAt s.heap x ⟨.ref C,none,.fields vs,sl⟩ C none:=⟨hx,rfl,rfl,trivial⟩;refine PySem.W.set_plain kin I c.sa ?_;obtain⟨cd,hcd,hm0⟩:=PySem.W.any_some c.mr;have hm1:cd.mro=Value.ref C::Value.ref R::Cp:=beq_iff_eq.mp hm0;obtain⟨cd',hcd',hdd⟩:=PySem.W.any_some c.hd;have ecd:cd'=cd:=Option.some.inj (hcd'.symm.trans hcd);subst ecd;generalize es:({s with toks:=s.toks+1}:qN)=s1;have hp1:s1.heap=s.heap:=by rw[<-es]
 have ty:PySem.W.Looks (model prog w) s1.heap (typeOf (.ref x)) (.ref C):=by rw[hp1];exact I.type
 have mo:PySem.W.Looks (model prog w) s1.heap (isInstance (.ref x) (.type "object")) true:=ty.andThen (by rw[hp1];exact PySem.W.looks_mroIn kin c.ek.mo);have ml:PySem.W.Looks (model prog w) s1.heap (mroOf (.ref C)) cd'.mro:=by rw[hp1];exact (PySem.W.looks_clsIn kin hcd).andThen .now
 have lf:PySem.W.Looks (model prog w) s1.heap (typeLookup (.ref C) f) none:=by rw[hp1];exact ak kin c.no
 refine codeAny_call_builtin SF.slot.plain SF.entry (@PySem.W.check_slot (model prog w) _ _ s1 "object.__setattr__" "object" "__setattr__" (.ref x) [.str f s.toks,v] [] _ SF.kind SF.split mo (SF.args (.ref x) (.str f s.toks) v) ?_);rw[PySem.W.osa_eq,refuse_eq];refine qA (qA (ty.here (qA (ml.here ?_))));rw[hm1,refuseLoop_ref,refuseLoop_ref,SV.passes];refine qB (qA (ty.here (qA (lf.here (qA ?_)))));refine qB (a:=(none:Option qL)) ?_;have hx1:s1.heap.get? x=some ⟨.ref C,none,.fields vs,sl⟩:=by rw[hp1];exact hx
 have lc:PySem.W.Looks (model prog w) s1.heap (classData C) cd':=by rw[hp1];exact PySem.W.looks_clsIn kin hcd
 refine qA (qB (qA (qA (wpAny_loadPart hx1 (qA (lc.here ?_))))));rw[hdd];have nx:x≠s1.heap.objs.size:=Zj (ZO hx1);have hx2:(s1.heap.push {cls:=.type "dict",data:=.dict #[]}).get? x=some ⟨.ref C,none,.fields vs,sl⟩:=ZN _ hx1;refine qA (wpAny_alloc' (qA (wpAny_update' hx2 (qB ?_))));generalize e3:(s1.heap.push {cls:=.type "dict",data:=.dict #[]}).update x (λo=>{cls:=o.cls,dict:=some s1.heap.objs.size,data:=o.data,slots:=o.slots})=h3;have d3:h3.get? s1.heap.objs.size=some {cls:=.type "dict",data:=.dict #[]}:=by rw[<-e3];exact (bQ _ _ _ _ nx.symm).trans (ZU s1.heap rfl)
 have x3:h3.get? x=some ⟨.ref C,some s1.heap.objs.size,.fields vs,sl⟩:=by rw[<-e3];exact Zr _ hx2 rfl
 have o3:∀b o,b≠x->s1.heap.get? b=some o->h3.get? b=some o:=λb o nb z=>by rw[<-e3];exact (bQ _ _ _ _ nb).trans (ZN _ z)
 have n3:h3.Ns s1.heap.objs.size (λ_=>none):=⟨_,#[],_,d3,rfl,λe he=>qE he (by simp),λ_=>rfl⟩;show wpAny _ _ (Builtin.ObjectAttr.storeInDict s1.heap.objs.size (.str f s.toks) f v) _ _ _;unfold Builtin.ObjectAttr.storeInDict Builtin.ObjectAttr.newKeyGuard;refine qA (qB (qA (wpAny_nsSet1 (Heap.Ns1.of_empty n3) λh4 n4 sb=>?_)));refine byG λGq hGq=>?_;obtain⟨oD,esD,epD,hoD,hdD,hcD⟩:=n4.count (PySem.Within.cons f v PySem.Within.nil);refine hGq ?_;clear hGq Gq;refine qA (wpAny_lookBehind hoD (by rw[hdD];exact pastItsLine_dict (Zl hcD (by rw[Zb,List.length_nil,sizeLine_eq];lia))) ?_);subst es;exact qB (k h4 _ (bI (ZR _)) nx.symm ((sb.2 x nx).trans x3) n4 λb o nb z=>(sb.2 b (Zj (ZO z))).trans (o3 b o nb z))
end
noncomputable def Ek(H:Hp)(a:qM):Hp:=λb=>if b=a then none else H b
theorem N5:Ek H a a=none:=by unfold Ek;rw[qD rfl]
theorem B1(h:b≠a):Ek H a b=H b:=by unfold Ek;rw[qC h]
theorem IQ(h:Ek H a b=some o):b≠a/\H b=some o:=by
 have ne:b≠a:=λz=>by rw[z,N5]at h;cases h
 rw[B1 ne]at h;exact⟨ne,h⟩
section
variable{A:Around}{R:qM}{f:Str}{n:Bool}
theorem RM{Q:Unit->qN->Prop}(I:AW X ad σ H s)(e:H a=some (Hu a (.ref C) none n))(c:XA X.K C R f)(ry:Al y u)
  (h:∀dx s',H dx=none->AW X ad σ (Am (Am H a (Hu a (.ref C) (some dx) n)) dx (.xd [(f,y)])) s'->Q () s'):wpAny (model X.prog X.w) A (setAttr (.ref a) f u) Q E s:=by
 refine byG λGq hGq=>?_;obtain⟨⟨ox,vs,hx,hc,hd,hn,hfr⟩,_,_⟩:=(show Av X.prog X.w H s.heap a (.ext (De a (.ref C) none n)) from I.hok a _ e);refine hGq ?_;clear hGq Gq;refine N4 I.kIn c hx hc hd hn λh' dx nd ne x1 n1 k1=>?_
 have hdx:H dx=none:=by
  cases q:H dx with
  |none=>rfl
  |some o =>
   obtain⟨ob,z⟩:=(I.hok dx o q).somewhere;rw[nd]at z;cases z
 have na:∀b,H b=none->b≠a:=λb z w=>by rw[w,e]at z;cases z
 have nb:∀b o,s.heap.get? b=some o->b≠dx:=λb o z w=>by rw[w,nd]at z;cases z
 have nh:∀b o,H b=some o->b≠dx:=λb o z=>Ah z hdx
 have at2:∀b,b≠a->b≠dx->Am (Am H a (Hu a (.ref C) (some dx) n)) dx (.xd [(f,y)]) b=H b:=λb z1 z2=>by rw[AR z2,AR z1]
 refine h dx _ hdx (I.un (h':=h') (t':=s.toks+2) ⟨λb o q z _ _=>k1 b o (na b z) q,λb o q z _ _=>⟨o.slots,k1 b o (na b z) q⟩,λb o q z _=>by rw[at2 b (na b z) (nb b o q)];exact z,λb o q _=>?_,λb xs q=>?_,λb o v q=>?_,λb ps q=>?_⟩ λb v q=>?_)
 ·by_cases w:b=a
  ·rw[w];exact⟨_,x1⟩
  ·exact⟨o,k1 b o w q⟩
 ·rw[at2 b (λw=>by rw[w,e]at q;cases q) (nh b _ q)];exact q
 ·rw[at2 b (λw=>by rw[w,e]at q;cases q) (nh b _ q)];exact q
 ·exact⟨#[],by rw[at2 b (λw=>by rw[w,e]at q;cases q) (nh b _ q),q];simp⟩
 ·by_cases w:b=dx
  ·rw[w,AE]at q;cases q;rw[w];refine⟨_,n1,λg=>?_⟩
   by_cases z:g=f
   ·rw[z,qD rfl,List.lookup_cons_self];exact ry
   ·rw[qC z,Z4,beq_false_of_ne z];exact True.intro
  ·rw[AR w]at q
   by_cases z:b=a
   ·rw[z,AE]at q;cases q;rw[z];exact⟨⟨_,vs,x1,hc,hd,rfl,hfr⟩,⟨_,x1⟩,λh1 h2 ⟨o,ws,e,r⟩ k=>⟨o,ws,k o e,r⟩⟩
   ·rw[AR z]at q;refine (I.hok b v q).stay (λc2 o hc2 r=>k1 c2 o ?_ r) (λc2 r=>by rw[at2 c2 (λw2=>by rw[w2,e]at r;cases r) (nh c2 _ r)];exact r) λc2 xs r=>by rw[at2 c2 (λw2=>by rw[w2,e]at r;cases r) (nh c2 _ r)];exact r
    rcases hc2 with w2|w2
    ·rw[w2];exact z
    ·intro w3;rw[w3,e]at w2;cases w2
end
noncomputable def X6(K:qQ)(C f:qM):Bool:=(K.lookup C).any λo=>match o with
 | ⟨.type t,_,.cls d,sl⟩=>t=="type"&&(match d.mro with
  |.ref c::tl=>c==C&&PySem.W.tailIn K Cp tl
  |_=>false)&&(match sl.toList with
  |[_,_,_,_,some (.builtin m),_]=>m=="ValueError.__new__"
  |_=>false)&&!d.hasDel&&PySem.W.nsOkIn K d.ns&&PySem.W.nsIn K d.ns "__init__"==some (some (.ref f))
 |_=>false
theorem RN{K:qQ}{N:qM}{m:Str->Option qL}{v:qL}(kin:K.In h)(g:h.Ns N m)(e:PySem.W.nsIn K N x=some (some v)):m x=some v:=by
 obtain⟨o,es,ep,ho,hd,_,hf⟩:=g;unfold PySem.W.nsIn at e
 split at e
 ·rename_i es' n' sl q
  have z:=kin _ _ q;rw[ho]at z;cases z;cases hd
  split at e
  ·rename_i en he
   cases e;rw[<-hf];unfold nsFind findBy;rw[<-Array.find?_toList,he];rfl
  ·split at e<;>cases e
 ·cases e
theorem Mx{K:qQ}{f:qM}(kin:K.In h)(q:X6 K C f=true):
  ∃tl N nm qn bs dy sn sub ab col dd k0 k1 k2 k3 k5 mN,h.get? C=some (excClassObj nm qn C N bs tl dy sn sub ab col dd k0 k1 k2 k3 k5 "ValueError.__new__")/\h.Ns N mN/\mN "__init__"=some (.ref f)/\OwnTail h Cp tl:=by
 unfold X6 at q;cases ho:K.lookup C with
 |none=>rw[ho]at q;cases q
 |some o =>
  rw[ho]at q;simp only[Option.any_some]at q
  split at q
  next t dd d sl =>
   simp only[Bool.and_eq_true,beq_iff_eq,Bool.not_eq_true']at q;refine byG λGq hGq=>?_;obtain⟨⟨⟨⟨⟨e1,e2⟩,e3⟩,e4⟩,e5⟩,e6⟩:=q;refine hGq ?_;clear hGq Gq;subst e1
   split at e2
   next c tl hm =>
    simp only[Bool.and_eq_true,beq_iff_eq]at e2;obtain⟨e7,e8⟩:=e2;subst e7
    split at e3
    next k0 k1 k2 k3 m k5 hs =>
     simp only[beq_iff_eq]at e3;subst e3;refine byG λGq hGq=>?_;obtain⟨nm,bs,mro,N,qn,dy,sn,sub,ab,col,del⟩:=d;refine hGq ?_;clear hGq Gq;dsimp only at hm e4 e5 e6;subst hm e4
     have e9:sl=#[k0,k1,k2,k3,some (.builtin "ValueError.__new__"),k5]:=by obtain⟨l⟩:=sl;simp only at hs;rw[hs]
     subst e9;have g:h.Ns N (h.nsMap N):=.of_isNs (PySem.W.isNs_of_in kin e5);exact⟨tl,N,nm,qn,bs,dy,sn,sub,ab,col,dd,k0,k1,k2,k3,k5,_,kin _ _ ho,g,RN kin g e6,PySem.W.tail_of_in kin e8⟩
    next=>cases e3
   next=>cases e2
  next=>cases q
structure X7(K:qQ)(C f:qM):Prop where
 ci:X6 K C f=true
 fn:PySem.W.typeIn K (.ref f)=some (.type "function")
 kp:PySem.W.keepIn K (.ref C)=true
section
variable{f:qM}{sp:Sp}{vs:List V}
theorem PR{Q:VK}(M:X7 X.K C f)(F:C1 X.prog X.w X.K X.mg X.base (Ea X.prog X.w) k f fd ps sp)(hr:BP (k+1) X.A)(hb:Cr X.K fd ps [])(I:AW X ad σ H s)(r:Ag vs us)(hz:vs.length<=sizeLine)
  (h:∀a,H a=none->sp (.ref a::vs) (Am H a (Hu a (.ref C) none true)) (λv H2=>v=.non/\Q (.ref a) H2) E0):
  wpAny (model X.prog X.w) X.A (call (.ref C) us) (λv s'=>∃a H',v=.ref a/\s.heap.get? a=none/\AW X ad σ H' s'/\Q (.ref a) H') X.xe s:=by
 refine byG λGq hGq=>?_;obtain⟨tl,N,nm,qn,bs,dy,sn,sub,ab,col,dd,k0,k1,k2,k3,k5,mN,hO,hN,hi,T⟩:=Mx I.kIn M.ci;refine hGq ?_;clear hGq Gq;refine byG λGq hGq=>?_;obtain⟨hp,g,d,t,os⟩:=s;refine hGq ?_;clear hGq Gq;refine RL ae T I.kIn hO hN hi M.fn (λhp' e hsz m=>?_) (by rw[<-r.length];exact hz);refine byG λGq hGq=>?_;obtain⟨t',he,ht,_⟩:=m.there;refine hGq ?_;clear hGq Gq
 have I2:AW X ad σ (Am H e (Hu e (.ref C) none true)) ⟨hp',g,d,t,os⟩:=I.laid (t':=t) m.keeps hsz
  ⟨⟨_,_,he,rfl,rfl,rfl,λ_=>⟨t',rfl⟩⟩,⟨_,he⟩,λh1 h2 ⟨o,ws,e,r⟩ k=>⟨o,ws,k o e,r⟩⟩
 have hq:=h e (I.hok.fresh hsz);have r2:Ag (V.ref e::vs) (Value.ref e::us):=.cons rfl r
 have hl:(Value.ref e::us++[]).length=ps.length:=by rw[a9,<-r2.length];exact F.len _ _ _ _ hq
 have bb:=hb ⟨hp',g,d,t,os⟩ (Value.ref e::us) I2.kIn hl;rw[a9]at bb;refine wpAny_call (codeAny_mono (F.run _ X.stack _ _ ⟨Value.ref e::us,[]⟩ (Value.ref e::us) _ _ E0 (hr.make C us []) (I2.env0.make C us []) bb r2 hq) λrs s2 hq2=>?_);rcases rs with er|fl
 ·refine byG λGq hGq=>?_;obtain⟨_,_,_,_,_,_,_,_,z⟩:=hq2;refine hGq ?_;clear hGq Gq;exact z.elim
 ·cases fl with
  |ret u =>
   refine byG λGq hGq=>?_;obtain⟨v,H',I3,rv,ev,q3⟩:=I2.after hq2;refine hGq ?_;clear hGq Gq;subst ev;exact⟨rv,e,H',rfl,m.new,I3,q3⟩
  |next=>exact False.elim hq2
  |brk=>exact False.elim hq2
  |cont=>exact False.elim hq2
end
def SS(C:qM)(sp:Sp)(t:TA):TE:=λσ H Q=>t σ H λvs H1=>vs.length<=sizeLine/\∀a,H1 a=none->sp (.ref a::vs) (Am H1 a (Hu a (.ref C) none true)) (λv H2=>v=.non/\Q (.ref a) H2) E0
def JY(C:qM)(sp:Sp)(E:XK)(t:TA):TS:=λ_ σ H=>SS C sp t σ H λv H2=>∃a D,v=.ref a/\H2 a=some (Hu a (.ref C) D true)/\E (.ref C) D (Ek H2 a)
def TR(K:qQ)(ta tv:TE)(f:Str):TS:=λD σ H=>tv σ H λy H1=>ta σ H1 λx H2=>∃a C R n,x=.ref a/\H2 a=some (Hu a (.ref C) none n)/\XA K C R f/\∀dx,H2 dx=none->D.nx σ (Am (Am H2 a (Hu a (.ref C) (some dx) n)) dx (.xd [(f,y)]))
def JZ(X:Cx)(C:qL)(E:XK):Prop:=∀(ad:List (qM×Obj)) (σ:St) (H:Hp) (s:qN) (a:qM) (D:Option qM),AW X ad σ H s->X.s₀.heap.get? a=none->H a=some (Hu a C D true)->E C D (Ek H a)->X.xe (.ref a) s
section
variable{P:qO}{w:qP}{K:qQ}{mg:Str->Option qL}{base:Heap}{N:List Str}{f:qM}{cd:qL}{A:Around}{outer:List Env}{E:XK}
theorem DO{C:qL}:JZ (Cc (Hn nc P w) P w K mg base N qual scope f cd A outer s H E) C E:=by
 intro ad σ H1 s1 a D I ha0 ea hE;generalize hX:Cc (Hn nc P w) P w K mg base N qual scope f cd A outer s H E=X at I ha0⊢;have hst:X.stack=X.env::X.outer:=by rw[<-hX];rfl
 have hfr:X.env.frame=some X.env.locals:=by rw[<-hX];rfl
 have hxe:X.xe=λe s'=>wpAny (model P w) X.A (leaving X.env e) (λ_ s''=>Hn nc P w X.outer X.H₀ X.s₀ E e s'') (λe' s''=>Hn nc P w X.outer X.H₀ X.s₀ E e' s'') s':=by rw[<-hX];rfl
 have hex:X.ex=[]:=by rw[<-hX];rfl
 have hp:X.prog=P:=by rw[<-hX];rfl
 have hw:X.w=w:=by rw[<-hX];rfl
 subst hp hw;rw[hxe];refine byG λGq hGq=>?_;obtain⟨⟨oe,vs,he,hcl,hd,hdt,hfs⟩,_,_⟩:=(show Av X.prog X.w H1 s1.heap a (.ext (De a C D true)) from I.hok a _ ea);refine hGq ?_;clear hGq Gq;obtain⟨t,hv⟩:=hfs rfl;subst hv hcl;have fr:=I.stack;have hin:∀env∈X.stack,∀b,env.frame=some b->b∈a::B9 X.stack:=λenv he b hb=>ZS _ (ah.mpr ⟨env,he,hb⟩)
 have fr':s1.heap.FunFrames (PySem.W.hideAll s1.heap (a::B9 X.stack)) (X.env::X.outer):=by rw[<-hst];exact ba fr hin
 have hen:(PySem.W.hideAll s1.heap (a::B9 X.stack)).get? a=none:=PySem.W.hideAll_none _ (ZZ ..);refine qH (KT.run (DM _ _) (wpAny_leaving_firstW (Q:=λ_ s2=>∃h2,s2={s1 with heap:=h2}/\Heap.LeftW (PySem.W.hideAll s1.heap (a::B9 X.stack)) (X.env::X.outer) a oe.cls (.ref t) s1.heap h2) (E:=λ_ _=>False) (a0:=.ref t) (by rw[<-hst];exact I.ok.frames) fr' hfr he (λb o q=>ay _ q) hen hd rfl rfl λh2 z=>⟨h2,rfl,z⟩)) (λ_ s2 q=>?_) λ_ _ q=>q.1.elim
 refine byG λGq hGq=>?_;obtain⟨⟨h2,rfl,k1,⟨k0,kk,k2⟩,k3,k4⟩,dk⟩:=q;refine hGq ?_;clear hGq Gq;have fl:Heap.FlyingW (PySem.W.hideAll s1.heap (a::B9 X.stack)) X.outer a oe.cls (.ref t) h2:=⟨k1,hen,k2,k3⟩
 have naf:a∉B9 X.stack:=λz=>by have y:=I.stkFree a z;rw[ea]at y;cases y
 have nin:∀b,b∉B9 X.stack->b≠a->b∉a::B9 X.stack:=λb z1 z2 z=>(Zd.mp z).elim z2 z1
 have kept:∀b o,s1.heap.get? b=some o->b∉B9 X.stack->b≠a->h2.get? b=some o:=λb o q hb hn=>k1 b o (Z3 _ q (nin b hb hn))
 have nea:∀b,H1 b=none->b≠a:=λb z w=>by rw[w,ea]at z;cases z
 have slt:∀b o,s1.heap.get? b=some o->b∈B9 X.stack->∃sl,h2.get? b=some {o with slots:=sl}:=λb o q hb=>k4 b o q (I.frameData q hb)
 obtain⟨ob,hob,_⟩:=fl.there
 have un1:Un (B9 X.stack) [] H1 (Ek H1 a) s1.heap h2:=⟨λb o q z hb _=>kept b o q hb (nea b z),λb o q _ hb _=>slt b o q hb,λb o q z _=>by rw[B1 (nea b z)];exact z,λb o q _=>by
  by_cases hb:b∈B9 X.stack
  ·obtain⟨sl,z⟩:=slt b o q hb;exact⟨_,z⟩
  ·by_cases hn:b=a
   ·rw[hn];exact⟨ob,hob⟩
   ·exact⟨o,kept b o q hb hn⟩,λb xs q=>by rw[B1 λz=>by rw[z,ea]at q;cases q];exact q,λb o u q=>by rw[B1 λz=>by rw[z,ea]at q;cases q];exact q,λb ps q=>⟨#[],by rw[B1 (λz=>by rw[z,ea]at q;cases q),q];simp⟩⟩
 have hok1:Ds X.prog X.w (Ek H1 a) h2:=λb u q=>by
  obtain⟨hn,q'⟩:=IQ q;refine (I.hok b u q').stay (λc v hc r=>?_) (λc z=>by rw[B1 λz2=>by rw[z2,ea]at z;cases z];exact z) λc xs z=>by rw[B1 λz2=>by rw[z2,ea]at z;cases z];exact z
  rcases hc with z|z
  ·refine kept c v r (λy=>?_) (by rw[z];exact hn);have y':=I.stkFree c y;rw[z,q']at y';cases y'
  ·refine kept c v r (λy=>?_) λy=>?_
   ·have y':=I.stkFree c y;rw[z]at y';cases y'
   ·rw[y,ea]at z;cases z
 have J:AW X ad σ (Ek H1 a) {s1 with heap:=h2,toks:=s1.toks}:=I.call (g':=s1.gens) (d':=s1.drawn) (ch:=[]) un1 hok1 I.bare λb z=>qE z (by simp)
 have un:Un (B9 X.outer) [] X.H₀ (Ek H1 a) X.s₀.heap h2:=by have z:=J.base;rw[hex]at z;exact z
 refine⟨a,oe.cls,.ref t,D,_,Ek H1 a,rfl,⟨J.os,J.bare,un,J.hok,fl,λb o q hb o' q'=>?_,λb u q o' q'=>?_,⟨ob,hob,(dk.get he hob).1.trans hdt⟩,λ_=>⟨ob,hob,(dk.get he hob).2.trans (by unfold C7;rw[hd];rfl)⟩⟩,hE⟩
 ·obtain⟨o1,q1⟩:=I.base.there b o q (by rw[hex];simp)
  have hn:b∉B9 X.stack:=λz=>by
   rcases Zd.mp (I.stkSub b z) with y|y
   ·exact qE (ZV (ZO q) I.ok.above) (by rw[y];exact Zn _)
   ·exact hb y
  have hne:b≠a:=λz=>by rw[z,ha0]at q;cases q
  have q2:=kept b o1 q1 hn hne;rw[q']at q2;cases q2;exact Z3 _ q1 (nin b hn hne)
 ·obtain⟨hne,qq⟩:=IQ q;have hn:b∉B9 X.stack:=λz=>by have y:=I.stkFree b z;rw[qq]at y;cases y
  obtain⟨o1,r⟩:=(I.hok b u qq).somewhere;have q2:=kept b o1 r hn hne;rw[q']at q2;cases q2;exact Z3 _ r (nin b hn hne)
end
section
variable{A:Around}{env:Env}{nm qn:Str}{N:qM}{bs tl:List qL}{dy:Bool}{sn:List Str}{sub:List qL}{ab:Bool}{col:Option Bool}{dd:Option qM}{k0 k1 k2 k3 k5:Option qL}{nid:String}
theorem L5{x:Sem qL}{Q:Flow->qN->Prop}(hb:tl.contains (.type "BaseException")=true)(hh:A.handled=none)
  (h:wpAny M A x (λv s1=>∃(a t:qM) (D:Option qM) (sl:Array (Option qL)),v=.ref a/\s1.heap.get? C=some (excClassObj nm qn C N bs tl dy sn sub ab col dd k0 k1 k2 k3 k5 nid) /\
   s1.heap.get? a=some ⟨.ref C,D,.fields #[.ref t,.none,.none,.none,.bool false,.none],sl⟩/\E (.ref a) s1) E s):wpAny M A (raiseStmt env (some x) none) Q E s:=by
 have hcB:(Value.ref C::tl).contains (.type "BaseException")=true:=by rw[List.contains_cons,hb,Bool.or_true]
 unfold raiseStmt;refine qA (qH h (λv s1 h1=>?_) λ_ _ x=>x);refine byG λGq hGq=>?_;obtain⟨a,t,D,sl,rfl,hC,he,hE⟩:=h1;refine hGq ?_;clear hGq Gq;refine byG λGq hGq=>?_;obtain⟨hp,g,d,tk,os⟩:=s1;refine hGq ?_;clear hGq Gq
 repeat (first|with_reducible refine wpAny_loadPart_at hC ?_|with_reducible refine wpAny_loadPart_at he ?_|(with_reducible refine wpAny_isSubtype_exc hC ?_;rw[hcB])|wp_step)
 exact wpAny_raiseNew_none hh hE
end
section
variable{f:qM}{sp:Sp}{fld:Str}{E:XK}{o value:Expr}{es:List Expr}{t:TA}{ta tv:TE}{np cpos pos':Pos}
theorem N6(hc:X.calm=true)(M:X7 X.K C f)(F:C1 X.prog X.w X.K X.mg X.base (Ea X.prog X.w) k f fd ps sp)(hr:BP (k+1) X.A)(hb:Cr X.K fd ps [])(hg:Gl X x)(hm:X.mg x=some (.ref C))(hx:JZ X (.ref C) E)(ha:PA X (e::es) t)(hex:X.ex=[]:=by rfl)
  (hdb:(x==("__debug__":Str))=false:=by decide) (he:starEach (e::es) X.env=(false,eval e X.env)::starEach es X.env:=by rfl) (hpl:(backTo cpos (starEach es X.env)).any (·.1)=false:=by rfl):
  PS X (.Raise (some (.Call (.Name x np) (e::es) [] cpos)) none pos) (JY C sp E t):=by
 intro ad s σ H D I h;refine byG λGq hGq=>?_;obtain⟨tl,N,nm,qn,bs,dy,sn,sub,ab,col,dd,k0,k1,k2,k3,k5,mN,hO,hN,hni,T⟩:=Mx I.mod.kin M.ci;refine hGq ?_;clear hGq Gq;have FB:=ae;rw[arm_exec_Raise]
 have call:wpAny (model X.prog X.w) X.A (eval (.Call (.Name x np) (e::es) [] cpos) X.env) (λv s2=>∃(a t:qM) (D:Option qM) (sl:Array (Option qL)),v=.ref a/\s2.heap.get? C=some (excClassObj nm qn C N bs tl dy sn sub ab col dd k0 k1 k2 k3 k5 "ValueError.__new__") /\
   s2.heap.get? a=some ⟨.ref C,D,.fields #[.ref t,.none,.none,.none,.bool false,.none],sl⟩/\X.xe (.ref a) s2) X.xe s:=by
  refine wpAny_Call_Name_kw (Cq I hg hm ?_ hdb);refine bW (h₀:=X.base) I.ok.mod.kin M.kp (A9 (ha cpos ad s σ H _ I h) λus s1 ⟨vs,H1,I1,r,hz,q⟩=>⟨I1.kIn,?_⟩) he hpl;refine A9 (PR (Q:=λv H2=>∃a D,v=.ref a/\H2 a=some (Hu a (.ref C) D true)/\E (.ref C) D (Ek H2 a)) M F hr hb I1 r hz q) λv s2 z=>?_;refine byG λGq hGq=>?_;obtain⟨a,H2,ev,hn,I2,a',D',ea',h2,hE⟩:=z;refine hGq ?_;clear hGq Gq;cases ea';refine byG λGq hGq=>?_;obtain⟨⟨oe,vs',he',hcl,hd,hdt,hfs⟩,_,_⟩:=(show Av X.prog X.w H2 s2.heap a (.ext (De a (.ref C) D' true)) from I2.hok a _ h2);refine hGq ?_;clear hGq Gq;obtain⟨t',hv⟩:=hfs rfl;subst hv;refine byG λGq hGq=>?_;obtain⟨c1,c2,c3,c4⟩:=oe;refine hGq ?_;clear hGq Gq;dsimp only at hcl hd hdt;subst hcl hd hdt;refine⟨a,t',_,_,ev,I2.bk _ _ hO,he',hx ad σ H2 s2 a _ I2 ?_ h2 hE⟩;cases q0:X.s₀.heap.get? a with
  |none=>rfl
  |some o0 =>
   obtain⟨o1,q1⟩:=I1.base.there a o0 q0 (by rw[hex];simp);rw[hn]at q1;cases q1
 exact qA (wpAny_standAt (L5 (C:=C) (nm:=nm) (qn:=qn) (N:=N) (bs:=bs) (tl:=tl) (dy:=dy) (sn:=sn) (sub:=sub) (ab:=ab) (col:=col) (dd:=dd) (k0:=k0) (k1:=k1) (k2:=k2) (k3:=k3) (k5:=k5) (nid:="ValueError.__new__") (T.hasType FB.hasBase) (I.ok.hd hc)
  (qA (qH call (λv s3 h3=>qA (wpAny_standAt (qB h3))) λ_ _ z=>z))))
theorem TU(ha:PE X o ta)(hv:PE X value tv)(hs:swapsWith value (some (.Attribute o fld pos')) pos.line X.env=pure false:=by rfl):PS X (.Assign [.Attribute o fld pos'] value pos) (TR X.K ta tv fld):=by intro ad s σ H D I h;refine plainObj_wpAny_Assign_Attribute (A9 (hv ad s σ H _ I h) λu s1 ⟨y,H1,I1,ry,q⟩=>A9 (ha ad s1 σ H1 _ I1 q) λov s2 z9=>?_) hs;obtain⟨x,H2,I2,rx,a,C,R,n,ex,ea,c,q2⟩:=z9;subst ex;obtain rfl:ov=Value.ref a:=rx;exact RM I2 ea c ry λdx s3 hdx I3=>⟨σ,_,I3,q2 dx hdx⟩
end
theorem AW.turnedNew(I:AW X ad σ H s)(hf:∀b∈ch,F9 X ad H b)(k:∀b u,b∉ch->s.heap.get? b=some u->h'.get? b=some u)(hp:s.heap.objs.size<=p)
  (new:Av X.prog X.w (Am H p o) h' p o):AW X ad σ (Am H p o) {s with heap:=h',toks:=t'}:=by
 have hpn:H p=none:=I.hok.fresh hp;have nit:∀b u,H b=some u->b∉ch:=λb u e z=>by rw[(hf b z).1]at e;cases e
 have np:∀b u,s.heap.get? b=some u->b≠p:=λb u e=>Zj (ZV (ZO e) hp)
 refine I.step (g':=s.gens) (d':=s.drawn) (ch:=ch) (λb hb=>⟨(hf b hb).2.2.2.1,(hf b hb).2.1,(hf b hb).2.2.2.2.1,(hf b hb).2.2.2.2.2⟩) (λb u _ _ hc e _=>k b u hc e) (λb u _ _ hc e _=>⟨u.slots,k b u hc e⟩)
  (λb u _ e n=>by rw[AR (np b u e)];exact n) (λb u hc e=>⟨u,k b u hc e⟩) (λb xs e=>by rw[AR (Ah e hpn)];exact e) (λb u v e=>by rw[AR (Ah e hpn)];exact e)
  (λb ps e=>⟨#[],by rw[AR (Ah e hpn),e];simp⟩) (λm hm=>?_) (λb u e=>?_) I.bare
 ·obtain⟨o,es,ep,ho,r⟩:=hm;exact⟨o,es,ep,k _ o (λz=>(hf _ z).2.1 rfl) ho,r⟩
 ·by_cases z:b=p
  ·subst z;rw[AE]at e;cases e;exact new
  ·rw[AR z]at e;refine (I.hok b u e).stay (λc v hc q=>k c v ?_ q) (λc q=>by rw[AR (Ah q hpn)];exact q) λc xs q=>by rw[AR (Ah q hpn)];exact q
   rcases hc with y|y
   ·rw[y];exact nit b u e
   ·exact nit c _ y
noncomputable def VZ(K:qQ)(a:qM):It:=
 ⟨λi H=>∃xs x,Ac K H a xs/\xs[i]?=some x,λi H v H'=>∃p x,v=.ref p/\H p=none/\H'=Am H p (.tup [.int i,x])/\∀xs,Ac K H a xs->xs[i]?=some x,λi H=>∃xs,Ac K H a xs/\xs.length<=i⟩
theorem N7{P:qO}{w:qP}{K:qQ}{elts:List Expr}{ctx}{tpos:Pos}(a e it:qM)(hne:e≠it):
  JG P w K (.Tuple elts ctx tpos) (VZ K a) [e,it] e (λi h=>(∃old,IsEnum h e it ((i:Nat):Int) old)/\h.IsListIter it a i) where
 mem:=by simp
 obj:=λi h st b hb=>by
  refine byG λGq hGq=>?_;obtain⟨⟨old,q⟩,o,e1,c,d⟩:=st;refine hGq ?_;clear hGq Gq;rcases Zd.mp hb with z|z
  ·rw[z];exact⟨_,q,λv y=>by cases y⟩
  ·rw[ZX.mp z];exact⟨o,e1,λv y=>by rw[d]at y;cases y⟩
 keep:=λi h h' st k=>by obtain⟨⟨old,q⟩,li⟩:=st;exact⟨⟨old,k e (by simp) _ q⟩,li.at λo z=>k it (by simp) o z⟩
 item:=by
  intro X hP hw hK hc i ad s σ H E I hf st hg;subst hP hw hK;refine byG λGq hGq=>?_;obtain⟨xs,x,hq,hx⟩:=hg;refine hGq ?_;clear hGq Gq;refine byG λGq hGq=>?_;obtain⟨its,rv,p,hz⟩:=I.list hq;refine hGq ?_;clear hGq Gq;obtain⟨u,hu,ru⟩:=rv.get hx;obtain⟨⟨old,he⟩,li⟩:=st;refine wpAny_pyNext_enum_item he li p.isList (x:=u) (by simpa using hu) hne λh1 out li1 ht hsz k1=>?_;refine⟨_,rfl,wpAny_letOwnedTupleGo_enum out λh2 he2 sb=>?_⟩
  have k2:∀b o,b∉[e,it]->s.heap.get? b=some o->h2.get? b=some o:=λb o hb z=>by
   have hb1:b≠e:=λy=>hb (by simp[y])
   have hb2:b≠it:=λy=>hb (by simp[y])
   exact (sb.2 b hb1).trans (k1 b o hb1 hb2 z)
  have hpe:s.heap.objs.size≠e:=aL (ZO he);have ht2:h2.get? s.heap.objs.size=some {cls:=.type "tuple",data:=.seq #[.int ((i:Nat):Int) s.toks,u]}:=(sb.2 _ hpe).trans ht;have hn:H s.heap.objs.size=none:=I.hok.fresh (ZR _);refine⟨.ref s.heap.objs.size,Am H s.heap.objs.size (.tup [.int ((i:Nat):Int),x]),I.turnedNew (h':=h2) (t':=s.toks+1) hf k2 (ZR _) ?_,rfl,⟨_,x,rfl,hn,rfl,λys hy=>by rw[I.list_inj hy hq];exact hx⟩,⟨⟨u,?_⟩,?_⟩,λb hb=>?_⟩
  ·exact⟨by show 2<=sizeLine;decide,[.int ((i:Nat):Int) s.toks,u],.cons ⟨_,rfl⟩ (.cons ru .nil),⟨_,ht2,rfl,_,rfl⟩⟩
  ·have ec:(((i+1:Nat)):Int)=((i:Nat):Int)+1:=by push_cast;rfl
   rw[ec];exact he2
  ·exact li1.at λo z=>(sb.2 it (Ne.symm hne)).trans z
  ·have b0:=(hf b hb).1;rw[AR λz=>?_]
   ·exact b0
   ·obtain⟨o,z1,_⟩:=id li;rcases Zd.mp hb with y|y
    ·exact hpe (z.symm.trans y)
    ·exact qE (ZO z1) (by rw[<-ZX.mp y,z];exact Zn _)
 done:=by intro X hP hw hK hc i ad s σ H E I hf st hg;subst hP hw hK;obtain⟨xs,hq,hx⟩:=hg;refine byG λGq hGq=>?_;obtain⟨its,rv,p,hz⟩:=I.list hq;refine hGq ?_;clear hGq Gq;obtain⟨⟨old,he⟩,li⟩:=st;refine byG λGq hGq=>?_;obtain⟨f0,f1,f2,f3,f4,f5⟩:=hf it (by simp);refine hGq ?_;clear hGq Gq;have hl:=rv.length;exact wpAny_pyNext_enum_end (I.ok.hd hc) he li p.isList (by simp;lia) λh' eb=>⟨rfl,I.turned (t':=s.toks) (λb o hb e=>eb b o hb e) f0 f1 f3 f4 f5⟩
 self:=λ_ _ _ _ _ st h=>by obtain⟨⟨old,he⟩,_⟩:=st;exact wpAny_pyIter_enum he h
section
variable{elts:List Expr}{ctx}{tpos:Pos}
def Va(K:qQ)(ta:TA):TI:=λσ H R=>ta σ H λvs H1=>∃a xs,vs=[.ref a]/\Ac K H1 a xs/\R (VZ K a) H1
theorem My{l:Expr}{p pos:Pos}(hg:Gl X "enumerate")(hm:X.mg "enumerate"=none)(ha:PA X [l] ta)(hs:starEach [l] X.env=[(false,eval l X.env)]:=by rfl):PI X (.Tuple elts ctx tpos) (.Call (.Name "enumerate" p) [l] [] pos) (Va X.K ta):=by
 intro ad s σ H R I h;refine Call_ (CM I hg hm boot_enumerate (Zo (A9 (ha pos ad s σ H _ I h) λus s1 z9=>?_) hs rfl));obtain⟨vs,H1,I1,r1,q1⟩:=z9;obtain⟨a,xs,e,hq,q⟩:=q1;subst e;cases r1 with
 |cons r rr =>
  cases rr;cases r;obtain⟨its,rv,pl,hz⟩:=I1.list hq;refine call_enumerate_list pl.isList λh1 he li hsz k1=>?_;refine wpAny_pyIter_enum he ?_;have n1:H1 (s1.heap.objs.size+1)=none:=I1.hok.fresh (bA _);have n0:H1 s1.heap.objs.size=none:=I1.hok.fresh (ZR _);refine⟨s1.heap.objs.size+1,[s1.heap.objs.size+1,s1.heap.objs.size],_,_,H1,rfl,I1.kept (t':=s1.toks) k1,N7 a _ _ (Nat.succ_ne_self _),⟨⟨_,he⟩,li⟩,λb hb=>?_,q⟩;rcases Zd.mp hb with z|z
  ·rw[z];exact I1.fpOk (bA _) n1
  ·rw[ZX.mp z];exact I1.fpOk (ZR _) n0
theorem Kl{K:qQ}{g:TG}{tb:TS}(Pv:Nat->St->Hp->Prop)(h0:Pv 0 σ H)(hl:∀i σ H,i<=xs.length->Pv i σ H->Ac K H a xs)
  (hs:∀i x p σ H,xs[i]?=some x->Pv i σ H->H p=none->g (.ref p) σ (Am H p (.tup [.int ((i:Nat):Int),x])) λσ2 H2=>tb {D with nx:=Pv (i+1),ct:=Pv (i+1),bk:=D.nx} σ2 H2) (hd:∀σ H,Pv xs.length σ H->D.nx σ H):
  ∃W:Nat->Nat->St->Hp->Prop,(∃m,W 0 m σ H)/\∀i m σ H,W i m σ H ->
   ((VZ K a).stop i H/\D.nx σ H)\/((VZ K a).go i H/\∃N:St->Hp->Prop,(∀σ' H',N σ' H'->∃m',m'<m/\W (i+1) m' σ' H')/\∀x H',(VZ K a).yld i H x H'->g x σ H' λσ2 H2=>tb {D with nx:=N,ct:=N,bk:=D.nx} σ2 H2):=by
 refine⟨λi m σ H=>m=xs.length-i/\i<=xs.length/\Pv i σ H,⟨xs.length,by simp,Nat.zero_le _,h0⟩,?_⟩;rintro i m σ H ⟨rfl,hi,p⟩;have q:=hl i σ H hi p
 by_cases hlt:i<xs.length
 ·refine .inr ⟨⟨xs,xs[i],q,by simp[hlt]⟩,Pv (i+1),λσ' H' p'=>⟨xs.length-(i+1),by lia,rfl,hlt,p'⟩,λv H' y=>?_⟩;refine byG λGq hGq=>?_;obtain⟨p2,x,e1,e2,e3,y⟩:=y;refine hGq ?_;clear hGq Gq;subst e1 e3;exact hs i x p2 σ H (y xs q) p e2
 ·have e:i=xs.length:=by lia
  subst e;exact .inl ⟨⟨xs,q,ZR _⟩,hd σ H p⟩
end
theorem Mz:∀{xs:List V} {us:List qL},xs.length=us.length->(∀(i:Nat) (x:V) (u:qL),xs[i]?=some x->us[i]?=some u->Al x u)->Ag xs us
 |[],[],_,_=>.nil
 |x::xs,u::us,hl,h=>.cons (h 0 x u rfl rfl) (Mz (by simpa using hl) λi y v e1 e2=>h (i+1) y v (by simpa using e1) (by simpa using e2))
 |[],_::_,hl,_=>by simp at hl
 |_::_,[],hl,_=>by simp at hl
section
variable{a:Expr}{cs:List Expr}{ta:TE}{tc:TA}{p tpos:Pos}{ctx}
noncomputable def PU(K:qQ):List V->Hp->VK->Prop
 |[x,c],H,Q=>∃t tp vs us b,U9 K H x t/\c=.ref tp/\H tp=some (.tup vs)/\vs.map PB=us.map some/\PySem.W.kitAny K t us=some b/\Q (.bl b) H
 |_,_,_=>False
theorem Km:∀{vs:List V} {its us:List qL},Ag vs its->vs.map PB=us.map some->its=us
 |_,_,[],.nil,_=>rfl
 |_,_,_::_,.nil,e=>by simp at e
 |_,_,[],.cons _ _,e=>by simp at e
 |x::xs,_,u::us,.cons r rr,e=>by
  simp only[List.map_cons,List.cons.injEq]at e;obtain⟨e1,e2⟩:=e;rw[Km rr e2]
  congr 1
  cases x with
  |ty n=>cases e1;exact r
  |ref a=>cases e1;exact r
  |_=>cases e1
theorem TV{x:V}{v:qL}(I:AW X ad σ H s)(rx:Al x v)(ty:U9 X.K H x t):(∃φ,PySem.W.KitX X.K v t φ/\φ s.heap)/\v≠.builtin "__main__.__loader__#opaque":=by
 cases ty with
 |of ty =>
  cases ty with
  |non=>cases (show v=Value.none from rx);exact⟨⟨_,PySem.W.kitx_none,True.intro⟩,λz=>nomatch z⟩
  |bl y=>cases (show v=Value.bool y from rx);exact⟨⟨_,PySem.W.kitx_bool,True.intro⟩,λz=>nomatch z⟩
  |int i=>obtain⟨t,q⟩:=(show ∃t,v=Value.int i t from rx);cases q;exact⟨⟨_,PySem.W.kitx_int,True.intro⟩,λz=>nomatch z⟩
  |str y=>obtain⟨t,q⟩:=(show ∃t,v=Value.str y t from rx);cases q;exact⟨⟨_,PySem.W.kitx_str,True.intro⟩,λz=>nomatch z⟩
  |flt y=>obtain⟨t,q⟩:=(show ∃t,v=Value.float y t from rx);cases q;exact⟨⟨_,PySem.W.kitx_float,True.intro⟩,λz=>nomatch z⟩
  | @lst a xs ea =>
   cases (show v=Value.ref a from rx);obtain⟨_,_,n,_,h1⟩:=(show Av X.prog X.w H s.heap a (.lst xs) from I.hok a _ ea);exact⟨⟨_,bg,⟨_,h1,rfl⟩⟩,λz=>nomatch z⟩
  | @frz a ob xs ea =>
   cases (show v=Value.ref a from rx);obtain⟨_,_,_,n,_,h1⟩:=(show Av X.prog X.w H s.heap a (.frz ob (.lst xs)) from I.hok a _ ea);exact⟨⟨_,bg,⟨_,h1,rfl⟩⟩,λz=>nomatch z⟩
  | @tup a xs ea =>
   cases (show v=Value.ref a from rx);obtain⟨_,_,_,p⟩:=(show Av X.prog X.w H s.heap a (.tup xs) from I.hok a _ ea);obtain⟨o,h1,h2,_⟩:=p;exact⟨⟨_,PySem.W.kitx_tuple,⟨o,h1,h2⟩⟩,λz=>nomatch z⟩
  | @dK a kvs ea =>
   cases (show v=Value.ref a from rx);obtain⟨_,_,vs,_,p⟩:=(show Av X.prog X.w H s.heap a (.dK kvs) from I.hok a _ ea);obtain⟨o,es,ep,h1,h2,_⟩:=p;exact⟨⟨_,bh,⟨o,h1,h2.1⟩⟩,λz=>nomatch z⟩
  | @dT a kvs ea =>
   cases (show v=Value.ref a from rx);obtain⟨_,_,xs,_,o,es,ep,h1,h2,_⟩:=(show Av X.prog X.w H s.heap a (.dT kvs) from I.hok a _ ea);exact⟨⟨_,bh,⟨o,h1,h2.1⟩⟩,λz=>nomatch z⟩
  | @ins a C dx fs ea cl ha hn htk hm =>
   cases (show v=Value.ref a from rx);obtain⟨mA,O,_⟩:=Eg I.hok ea;obtain⟨od,J,_⟩:=O.look;exact⟨⟨_,PySem.W.kitx_own (cl.get _) cl.hd ha hn htk hm,J⟩,λz=>nomatch z⟩
 | @exc a D dy n e ck =>
  cases (show v=Value.ref a from rx);obtain⟨x,_,_⟩:=(show Av X.prog X.w H s.heap a (.ext (De a (.ref D) _ _)) from I.hok a _ e);exact⟨⟨_,Kh ck,x⟩,λz=>nomatch z⟩
theorem N8:CH X (.builtin "isinstance") (PU X.K):=by
 intro ad s σ H xs us Q I rv h;rcases xs with _|⟨x,_|⟨c,_|⟨_,_⟩⟩⟩
 ·exact h.elim
 ·exact h.elim
 rotate_left
 ·exact h.elim
 refine byG λGq hGq=>?_;obtain⟨t,tp,vs,ucs,b,ty,rfl,ht,hcs,k,q⟩:=h;refine hGq ?_;clear hGq Gq;refine byG λGq hGq=>?_;obtain⟨v1,v2,rfl,r1,r2⟩:=Ot rv;refine hGq ?_;clear hGq Gq;cases (show v2=Value.ref tp from r2);refine byG λGq hGq=>?_;obtain⟨_,its,rits,o,ho,hcl,n,hd⟩:=(show Av X.prog X.w H s.heap tp (.tup vs) from I.hok tp _ ht);refine hGq ?_;clear hGq Gq;refine byG λGq hGq=>?_;obtain⟨c1,c2,c3,c4⟩:=o;refine hGq ?_;clear hGq Gq;dsimp only at hcl hd;subst hcl hd;have e:=Km rits hcs;subst e;refine byG λGq hGq=>?_;obtain⟨⟨φ,Z,hφ⟩,hx⟩:=TV I r1 ty;refine hGq ?_;clear hGq Gq;exact PySem.W.kia_tup Z I.kIn hφ ho k hx λtk=>⟨.bl b,H,I.tok tk,rfl,q⟩
theorem RO(hg:Gl X "isinstance")(hm:X.mg "isinstance"=none)(ha:PE X a ta)(hc:PA X cs tc)(h1:starEach [a,.Tuple cs ctx tpos] X.env=(false,eval a X.env)::starEach [.Tuple cs ctx tpos] X.env:=by rfl)
  (h2:starEach [.Tuple cs ctx tpos] X.env=(false,eval (.Tuple cs ctx tpos) X.env)::starEach [] X.env:=by rfl)
  (h3:(backTo pos (starEach [.Tuple cs ctx tpos] X.env)).any (·.1)=false:=by rfl):PE X (.Call (.Name "isinstance" p) [a,.Tuple cs ctx tpos] [] pos) (VQ (PU X.K) (Gf ta (Gf (TD tc) Nw))):=
 AT N8 hg hm PyProof.Rows.boot_isinstance (AA ha (AA (DL hc) AB h2) h1) (by decide) (by decide) h1 h3
end
section
variable{K:qQ}
theorem Vb:PySem.W.kitOne K (.type "int") (.type "int")=some true:=by kernel_rfl
theorem Vc:PySem.W.kitOne K (.type "int") (.type "bool")=some false:=by kernel_rfl
theorem Vd:PySem.W.kitOne K (.type "bool") (.type "int")=some true:=by kernel_rfl
theorem Ve:PySem.W.kitOne K (.type "bool") (.type "bool")=some true:=by kernel_rfl
theorem Vf:PySem.W.kitOne K (.type "NoneType") (.type "int")=some false:=by kernel_rfl
theorem Vg:PySem.W.kitOne K (.type "str") (.type "int")=some false:=by kernel_rfl
theorem Vh:PySem.W.kitOne K (.type "list") (.type "int")=some false:=by kernel_rfl
theorem Vi:PySem.W.kitOne K (.type "list") (.type "list")=some true:=by kernel_rfl
theorem Vj:PySem.W.kitOne K (.type "tuple") (.type "tuple")=some true:=by kernel_rfl
theorem Vk:PySem.W.kitOne K (.type "tuple") (.type "list")=some false:=by kernel_rfl
theorem Vl:PySem.W.kitOne K (.type "tuple") (.type "int")=some false:=by kernel_rfl
end
structure Aa(P:qO)(w:qP)(K:qQ)(mg:Str->Option qL)(base:Heap)(k:Nat)(f:qM)(ps:List Str)(sp:Sp):Prop where
 ex:∃fd,C1 P w K mg base (Ea P w) k f fd ps sp/\Cr K fd ps []
 kp:PySem.W.keepIn K (.ref f)=true
section
variable{P:qO}{w:qP}{K:qQ}{mg:Str->Option qL}{base:Heap}{f:qM}{N:List Str}{sp:Sp}
theorem BD.ok0(F:BD K x qual st f fd)(S:AJ N ps (AG st))(len:∀vs H Q E,sp vs H Q E->vs.length=ps.length)
  (hbody:∀(cb:qL) (A:Around) (outer:List Env) (s:qN) (H:Hp) (vs:List V) (Q:VK) (E:XK),BP k (A.deeper (envOfC qual (AG st) s.heap.objs.size f cb))->sp vs H Q E ->
   ∃t,F8 (Cc (Ea P w) P w K mg base N qual (AG st) f cb A outer s H E).nox (BI st) t/\t {nx:=λ_ H'=>Q .non H',rt:=Q} (CA N vs) H):C1 P w K mg base (Ea P w) (k+1) f fd ps sp:=
 F.okX S len λcb A outer s H vs Q E hr hsp=>by obtain⟨t,h,q⟩:=hbody cb A outer s H vs Q E hr hsp;exact⟨t,h.nox,q⟩
abbrev Df(x qual:Str)(st:Stmt)(ps:List Str):Prop:=∀(kV doc pm:qL) (an:Option qM) (cb ct:qL) (us:List qL),us.length=ps.length->bindArgs (PySem.W.fnOf x qual (CT st) (BI st) (AG st) .none kV doc pm an cb ct) ⟨us,[]⟩=pure (ps.zip us)
theorem RP(D:∃fd,BD K x qual st f fd)(S:AJ N ps (AG st))(bd:Df x qual st ps)(len:∀vs H Q E,sp vs H Q E->vs.length=ps.length)
  (hbody:∀(cb:qL) (A:Around) (outer:List Env) (s:qN) (H:Hp) (vs:List V) (Q:VK) (E:XK),BP k (A.deeper (envOfC qual (AG st) s.heap.objs.size f cb))->sp vs H Q E ->
   ∃t,F8 (Cc (Ea P w) P w K mg base N qual (AG st) f cb A outer s H E).nox (BI st) t/\t {nx:=λ_ H'=>Q .non H',rt:=Q} (CA N vs) H):Aa P w K mg base (k+1) f ps sp:=by
 obtain⟨fd,F⟩:=D;exact⟨⟨fd,F.ok0 S len hbody,F.binds bd⟩,F.kp⟩
theorem RQ(D:∃fd,BD K x qual st f fd)(S:AJ N ps (AG st))(bd:Df x qual st ps)(len:∀vs H Q E,sp vs H Q E->vs.length=ps.length)
  (hbody:∀(cb:qL) (A:Around) (outer:List Env) (s:qN) (H:Hp) (vs:List V) (Q:VK) (E:XK),BP k (A.deeper (envOfC qual (AG st) s.heap.objs.size f cb))->sp vs H Q E ->
   ∃t,F8 (Cc (Ea P w) P w K mg base N qual (AG st) f cb A outer s H E) (BI st) t/\t {nx:=λ_ H'=>Q .non H',rt:=Q} (CA N vs) H):Aa P w K mg base (k+1) f ps sp:=by
 obtain⟨fd,F⟩:=D;exact⟨⟨fd,F.okX S len hbody,F.binds bd⟩,F.kp⟩
theorem Aa.mono(G:Aa P w K mg base j f ps sp)(h:j<=k):Aa P w K mg base k f ps sp:=by refine byG λGq hGq=>?_;obtain⟨⟨fd,F,b⟩,kp⟩:=G;refine hGq ?_;clear hGq Gq;exact⟨⟨fd,F.mono h,b⟩,kp⟩
end
section
variable{f:qM}{sp:Sp}{E:St->XK}{EX:XK}{np p cpos:Pos}{es:List Expr}{t:TA}
theorem AZ(G:Aa X.prog X.w X.K X.mg X.base k f ps sp)(hr:BP k X.A)(hg:Gl X x)(hm:X.mg x=some (.ref f))(hx:Bl (Ea X.prog X.w) X E)
  (ha:PA X (e::es) t) (hdb:(x==("__debug__":Str))=false:=by decide) (he:starEach (e::es) X.env=(false,eval e X.env)::starEach es X.env:=by rfl) (hpl:(backTo pos (starEach es X.env)).any (·.1)=false:=by rfl):
  PE X (.Call (.Name x p) (e::es) [] pos) (FU sp [] E t):=by
 refine byG λGq hGq=>?_;obtain⟨⟨fd,F,b⟩,kp⟩:=G;refine hGq ?_;clear hGq Gq;exact Gj F hr hg hm kp b .nil hx ha hdb he hpl
theorem FV(hc:X.calm=true)(M:X7 X.K C f)(G:Aa X.prog X.w X.K X.mg X.base k f ps sp)(hr:BP (k+1) X.A)(hg:Gl X x)(hm:X.mg x=some (.ref C))(hx:JZ X (.ref C) EX)(ha:PA X (e::es) t)(hex:X.ex=[]:=by rfl)
  (hdb:(x==("__debug__":Str))=false:=by decide) (he:starEach (e::es) X.env=(false,eval e X.env)::starEach es X.env:=by rfl) (hpl:(backTo cpos (starEach es X.env)).any (·.1)=false:=by rfl):
  PS X (.Raise (some (.Call (.Name x np) (e::es) [] cpos)) none pos) (JY C sp EX t):=by
 refine byG λGq hGq=>?_;obtain⟨⟨fd,F,b⟩,kp⟩:=G;refine hGq ?_;clear hGq Gq;exact N6 hc M F hr b hg hm hx ha hex hdb he hpl
theorem Du{i:Int}(hg:Gl X x)(hm:∃t,X.mg x=some (.int i t))(hd:(x==("__debug__":Str))=false:=by decide):PE X (.Name x pos) (tC (.int i)):=by obtain⟨t,hm⟩:=hm;exact PM hg hm hd
end
inductive Kn(K:qQ)(vs:List V)(H:Hp)(Q:VK)(z3_:XK):Prop
 |m (a:qM) (ns:qR):vs=[.ref a]->Ac K H a (ns.map V.int)->ns.length<=63->(∀H',Q (.bl true) H')->Kn K vs H Q z3_
inductive L6(K:qQ)(vs:List V)(H:Hp)(Q:VK)(z3_:XK):Prop
 |m (a:qM) (ns:qR) (k:Nat):vs=[.ref a,.int k]->Ac K H a (ns.map V.int)->ns.length<=63->Q (.int (ns.getD k 0)) H->L6 K vs H Q z3_
noncomputable def Kd(H:Hp):V->Prop
 |.int _=>True
 |.bl _=>True
 |.non=>True
 |.str _=>True
 |.ref a=>∃xs,H a=some (.lst xs)\/H a=some (.tup xs)
 |_=>False
theorem Kd.same(e:AI H H'):∀{x:V},Kd H x->Kd H' x
 |.int _,_=>True.intro
 |.bl _,_=>True.intro
 |.non,_=>True.intro
 |.str _,_=>True.intro
 |.ref a,h=>by obtain⟨xs,h⟩:=h;exact⟨xs,h.elim (λq=>.inl (e _ _ q)) λq=>.inr (e _ _ q)⟩
noncomputable def M0:V->Bool
 |.int _=>true
 |_=>false
inductive GI(vs:List V)(H:Hp)(Q:VK)(z3_:XK):Prop
 |m (x:V):vs=[x]->Kd H x->Q (.bl (M0 x)) H->GI vs H Q z3_
noncomputable def PV(g:Int):V->Bool
 |.int i=>decide (0<=i)&&decide (i<g)
 |_=>false
inductive Ja(vs:List V)(H:Hp)(Q:VK)(z3_:XK):Prop
 |m (x:V) (g:Int):vs=[x,.int g]->Kd H x->Q (.bl (PV g x)) H->Ja vs H Q z3_
inductive Gm(K:qQ)(C R:qM)(vs:List V)(H:Hp)(Q:VK)(z3_:XK):Prop
 |m (a:qM) (n:Bool) (y:V):vs=[.ref a,y]->H a=some (Hu a (.ref C) none n)->(∀dx,H dx=none->Q .non (Am (Am H a (Hu a (.ref C) (some dx) n)) dx (.xd [("at",y)])))->Gm K C R vs H Q z3_
def N9(C:qM)(i:Nat)(H:Hp)(E:XK):Prop:=∀H' dx,AI H H'->H' dx=some (.xd [("at",.int ((i:Nat):Int))])->E (.ref C) (some dx) H'
noncomputable def BK(g:Int)(xs:List V):Option Nat:=xs.findIdx? λx=>!PV g x
inductive DP(K:qQ)(C:qM)(vs:List V)(H:Hp)(Q:VK)(E:XK):Prop
 |m (a:qM) (xs:List V) (g:Int):vs=[.ref a,.int g]->Ac K H a xs->(∀x∈xs,Kd H x)->(match BK g xs with|none=>∀H',AI H H'->Q .non H'|some i=>N9 C i H E)->DP K C vs H Q E
noncomputable def L7(g n:Int)(ns:qR):Int:=ns.foldl (λm x=>m*g+x) n
noncomputable def BZ(g:Int)(ns:qR):Int:=L7 g 0 ns
inductive El(K:qQ)(C:qM)(vs:List V)(H:Hp)(Q:VK)(E:XK):Prop
 |m (a:qM) (xs:List V) (g:Int):vs=[.ref a,.int g]->2<=g->g<=9->Ac K H a xs->(∀x∈xs,Kd H x)->(match BK g xs with|none=>∀ns:qR,xs=ns.map V.int->∀H',AI H H'->Q (.int (BZ g ns)) H'|some i=>N9 C i H E)->El K C vs H Q E
variable{g:Int}
theorem CC(h:BK g xs=none):∃ns:qR,xs=ns.map V.int/\∀n∈ns,0<=n/\n<g:=by
 unfold BK at h;rw[bL]at h
 induction xs with
 |nil=>exact⟨[],rfl,λn z=>qE z (by simp)⟩
 |cons x xs ih =>
  obtain⟨ns,e,b⟩:=ih λy hy=>h y (ZS _ hy)
  have hx:=h x ZZ;cases x with
  |int i =>
   simp only[PV,Bool.not_eq_false',Bool.and_eq_true,decide_eq_true_eq]at hx;exact⟨i::ns,by rw[e];rfl,λn z=>(Zd.mp z).elim (λq=>q▸hx) (b n)⟩
  |_=>simp[PV]at hx
theorem Bg{ns:qR}(h:∀n∈ns,0<=n/\n<g):BK g (ns.map V.int)=none:=by unfold BK;rw[bL];intro x hx;obtain⟨n,hn,e⟩:=Zs.mp hx;subst e;have q:=h n hn;simp[PV,q.1,q.2]
theorem CU{ns:qR}:∀x∈ns.map V.int,Kd H x:=λx hx=>by obtain⟨n,_,e⟩:=Zs.mp hx;subst e;exact True.intro
end L2
namespace L2
open PySem
variable{D:Hr}{H H' H1:Hp}{dx:qM}{g:Int}{i:Nat}{o:HO}{xs:List V}{σ:St}
theorem Cd{t:TS}(Z:Hp->Prop)(hz:Z H')(h:∀H2,Z H2->t D σ H2):t D σ H':=h H' hz
theorem B2{ns ms:qR}(h:ns.map V.int=ms.map V.int):ns=ms:=(List.map_inj_right (f:=V.int) λ_ _ e=>V.int.inj e).mp h
theorem EF{ea:qM}{o2 o3:HO}(e:AI H H1)(hea:H1 ea=none)(hdx:Am H1 ea o dx=none):AI H (Ek (Am (Am (Am H1 ea o) ea o2) dx o3) ea):=λb u q=>by have q1:=e b u q;have n1:=Ah q1 hea;have n2:=Ah q1 (CI hdx).2;rw[B1 n1,AR n2,AR n1,AR n1];exact q1
theorem EG{x:V}(hb:BK g (xs.take i)=none)(hx:xs[i]?=some x)(hs:PV g x=true):BK g (xs.take (i+1))=none:=by
 unfold BK at *;rw[bL]at hb⊢;intro y hy;rw[aE,hx]at hy;rcases aQ.mp hy with z|z
 ·exact hb y z
 ·have e:y=x:=by simpa using z
  rw[e,hs];rfl
theorem EH{x:V}(hb:BK g (xs.take i)=none)(hx:xs[i]?=some x)(hs:PV g x=false):BK g xs=some i:=by
 obtain⟨hi,ex⟩:=ZW.mp hx
 have e:xs=xs.take i++x::xs.drop (i+1):=by rw[<-ex,<-aj hi,List.take_append_drop]
 unfold BK at *;rw[e,List.findIdx?_append,hb];simp[List.findIdx?_cons,hs,List.length_take];lia
theorem B3{ns:qR}{x:V}(h:(ns.map V.int)[i]?=some x):∃n,ns[i]?=some n/\x=.int n:=by rw[Zk]at h;obtain⟨n,e1,e2⟩:=aw.mp h;exact⟨n,e1,e2.symm⟩
theorem Dg{n:Int}{ns:qR}(h:ns[i]?=some n):BZ g (ns.take (i+1))=BZ g (ns.take i)*g+n:=by unfold BZ L7;rw[aE,h,List.foldl_append];rfl
noncomputable def low(g:Int):qR->Int
 |[]=>0
 |x::r=>x+g*low g r
theorem Ko(g x:Int):∀l:qR,low g (l++[x])=low g l+x*g^l.length
 |[]=>by simp[low]
 |y::l=>by
  rw[bz,low,low,Ko g x l,Zb,Z2,Int.mul_add,Int.add_assoc]
  congr 2
  rw[aZ g,Int.mul_assoc]
theorem Kp(g x:Int)(l:qR):BZ g (l++[x])=BZ g l*g+x:=by unfold BZ L7;rw[List.foldl_append];rfl
theorem Dv(g:Int):∀l:qR,BZ g l.reverse=low g l
 |[]=>rfl
 |x::l=>by rw[List.reverse_cons,Kp,Dv g l,low,aZ,Int.add_comm]
theorem M3(g:Int)(ns:qR):BZ g ns=low g ns.reverse:=by rw[<-Dv,bK]
end L2
namespace L2
open PySem PySem.Spec PyProof.Rows
variable{B h h':Heap}{C I a it l:qM}{D:Hr}{E Q:qL->qN->Prop}{H H':Hp}{T:String}{W:St->XK}{X:Cx}{a0 cb cls doc oc pm t u:qL}{an od:Option qM}{e tg:Expr}{fd:FuncData}{fp:List qM}{i k n t':Nat}{items:Array qL}{its:List qL}{lo:Int}{osl:Array (Option qL)}{ad:List (qM×Obj)}{pos:Pos}{ps:List Str}{qual x:Str}{s s':qN}{scope:Scope}{st:Stmt}{ta:TA}{te:TE}{xs:List V}{α:Type}{σ:St}
mutual
inductive FW(K:qQ)(H:Hp):V->PyData->Prop
 |non:FW K H .non .none
 |bl (b:Bool):FW K H (.bl b) (.bool b)
 |int (i:Int):FW K H (.int i) (.int i)
 |str (x:Str):FW K H (.str x) (.str x)
 |lst {a:qM} {xs:List V} {ds:List PyData}:Ac K H a xs->FX K H xs ds->FW K H (.ref a) (.list ds)
 |tup {a:qM} {xs:List V} {ds:List PyData}:Ao K H a xs->FX K H xs ds->FW K H (.ref a) (.tuple ds)
inductive FX(K:qQ)(H:Hp):List V->List PyData->Prop
 |nil:FX K H [] []
 |cons {x:V} {xs:List V} {d:PyData} {ds:List PyData}:FW K H x d->FX K H xs ds->FX K H (x::xs) (d::ds)
end
theorem FW.reads(I:AW X ad σ H s){x:V}{d:PyData}(h:FW X.K H x d)(r:Al x u):∃as,Reads s.heap u d as:=by
 revert u
 refine FW.rec (motive_1:=λx d _=>∀{u:qL},Al x u->∃as,Reads s.heap u d as) (motive_2:=λxs ds _=>∀{us:List qL},Ag xs us->∃as,ReadsAll s.heap us ds as) ?_ ?_ ?_ ?_ ?_ ?_ ?_ ?_ h
 ·intro _ r;cases r;exact⟨_,.none⟩
 ·intro b _ r;cases r;exact⟨_,.bool b⟩
 ·intro i _ r;obtain⟨t,e⟩:=r;subst e;exact⟨_,.int i t⟩
 ·intro x _ r;obtain⟨t,e⟩:=r;subst e;exact⟨_,.str x t⟩
 ·intro _ _ _ hq _ ih _ r;cases r;obtain⟨its,rv,⟨o,n,e,c,_,d⟩,_⟩:=I.list hq;obtain⟨as,q⟩:=ih rv;exact⟨_,.list e c d (by simpa using q)⟩
 ·intro _ _ _ hq _ ih _ r;cases r;obtain⟨its,rv,⟨o,e,c,n,d⟩,_⟩:=I.tuple hq;obtain⟨as,q⟩:=ih rv;exact⟨_,.tuple e c d (by simpa using q)⟩
 ·intro _ r;cases r;exact⟨_,.nil⟩
 ·intro _ _ _ _ _ _ ih1 ih2 _ r;cases r with
  |cons r rr =>
   obtain⟨as,q⟩:=ih1 r;obtain⟨bs,q2⟩:=ih2 rr;exact⟨_,.cons q q2⟩
def YV(K:qQ):R2:=λx y H Q=>∃d e,FW K H x d/\FW K H y e/\d.canLay0=true/\e.canLay0=true/\d.depth<=60/\Q (.bl (PyData.eqv d e)) H
theorem PX(hu:X.A.units+64<cLine):FQ X (compareOp .Eq) (YV X.K):=by intro ad s σ H x y v u Q I rx ry h;obtain⟨d,e,hd,he,c1,c2,dd,q⟩:=h;obtain⟨as,r1⟩:=hd.reads I rx;obtain⟨bs,r2⟩:=he.reads I ry;have z:=SeqAt.rcAt_reads (A:=X.A) r1 r2 c1 c2 (by have:=Nat.min_le_left d.depth e.depth;lia);exact z X.prog X.w X.xe _ ⟨.bl _,H,I,rfl,q⟩
theorem Kq{K:qQ}:∀ns:qR,FX K H (ns.map V.int) (ns.map PyData.int)
 |[]=>.nil
 |n::ns=>.cons (.int n) (Kq ns)
theorem Kr:∀ns:qR,PyData.canLayAll0 (ns.map PyData.int)=true
 |[]=>by simp only[List.map_nil,PyData.canLayAll0]
 |n::ns=>by simp only[List.map_cons,PyData.canLayAll0,PyData.canLay0,Kr ns,Bool.and_self]
theorem Vm{it:Expr}{w1 w2:TI}(h1:PI X tg it w1)(h2:PI X tg it w2):PI X tg it (λσ H R=>w1 σ H R\/w2 σ H R):=λad s σ H R I h=>h.elim (λq=>h1 ad s σ H R I q) λq=>h2 ad s σ H R I q
theorem Y8{K:qQ}(h:PySem.W.kitOne K t (.type T)=some true)(r:List qL):PySem.W.kitAny K t (.type T::r)=some true:=by unfold PySem.W.kitAny;rw[h]
theorem RS{K:qQ}{r:List qL}{b:Bool}(h:PySem.W.kitOne K t (.type T)=some false)(h2:PySem.W.kitAny K t r=some b):PySem.W.kitAny K t (.type T::r)=some b:=by unfold PySem.W.kitAny;rw[h];exact h2
section
variable{K:qQ}
theorem Vn:PySem.W.kitOne K (.type "NoneType") (.type "list")=some false:=by kernel_rfl
theorem Vo:PySem.W.kitOne K (.type "NoneType") (.type "tuple")=some false:=by kernel_rfl
theorem Vp:PySem.W.kitOne K (.type "str") (.type "list")=some false:=by kernel_rfl
theorem Vq:PySem.W.kitOne K (.type "str") (.type "tuple")=some false:=by kernel_rfl
theorem Vr:PySem.W.kitOne K (.type "int") (.type "list")=some false:=by kernel_rfl
theorem Vs:PySem.W.kitOne K (.type "int") (.type "tuple")=some false:=by kernel_rfl
theorem Vt:PySem.W.kitOne K (.type "bool") (.type "list")=some false:=by kernel_rfl
theorem Vu:PySem.W.kitOne K (.type "bool") (.type "tuple")=some false:=by kernel_rfl
end
theorem Em{K:qQ}(h:X.K=K):SN X (RA K):=h▸Mu
theorem GJ{K:qQ}(h:X.K=K):SN X (RC K):=h▸Oy
theorem Gn:Manifest.owners.lookup (String.ofList ['d','e','s','r','e','v','e','r'].reverse)=some Manifest.sig_reversed:=by kernel_rfl
theorem B4:Slot "reversed" "__next__" "reversed.__next__":=.of (owner:="reversed") (n:="__next__") (by rw[typeLookup_type,builtinLookup_eq_fast];kernel_rfl) (by decide +kernel) (by decide +kernel) (by decide +kernel) (by first|exact .inl (by decide +kernel)|exact .inr (by decide +kernel)) (by rw[isSubtype_type];kernel_rfl)
theorem D8:entryFor table "reversed.__next__"=some Builtin.«reversed.__next__»:=entryFor_of_tree (by kernel_rfl)
theorem En(a:qL):argsOk "reversed.__next__" ⟨[a],[]⟩:=by unfold argsOk;rw[signature?_of (id:="reversed.__next__") (n:=['_','_','t','x','e','n','_','_']) (o:=['d','e','s','r','e','v','e','r']) (by kernel_rfl) Gn];kernel_rfl
theorem Eo:Slot "reversed" "__iter__" "reversed.__iter__":=.of (owner:="reversed") (n:="__iter__") (by rw[typeLookup_type,builtinLookup_eq_fast];kernel_rfl) (by decide +kernel) (by decide +kernel) (by decide +kernel) (by first|exact .inl (by decide +kernel)|exact .inr (by decide +kernel)) (by rw[isSubtype_type];kernel_rfl)
theorem Jb(a:qL):argsOk "reversed.__iter__" ⟨[a],[]⟩:=by unfold argsOk;rw[signature?_of (id:="reversed.__iter__") (n:=['_','_','r','e','t','i','_','_']) (o:=['d','e','s','r','e','v','e','r']) (by kernel_rfl) Gn];kernel_rfl
theorem Hv:entryFor table "reversed.__iter__"=some Builtin.«dict_keyiterator.__iter__»:=entryFor_alias (id':="dict_keyiterator.__iter__") (by kernel_rfl) (by first|rfl|decide +kernel|(unfold String.splitOn;simp +decide [String.splitOnAux])) (by decide +kernel) (by kernel_rfl)
theorem OA:typeLookup (.type "tuple") "__reversed__"=pure none:=by rw[typeLookup_type,builtinLookup_eq_fast];kernel_rfl
theorem OB:typeLookup (.type "reversed") "__len__"=pure none:=by rw[typeLookup_type,builtinLookup_eq_fast];kernel_rfl
theorem PY:typeLookup (.type "reversed") "__length_hint__"=pure (some (.builtin "reversed.__length_hint__")):=by rw[typeLookup_type,builtinLookup_eq_fast];kernel_rfl
theorem Jc:isSubtype (.type "tuple") (.type "dict")=pure false:=by rw[isSubtype_type];kernel_rfl
noncomputable def Ks(l:qM)(i:Int):Obj:={cls:=.type "reversed",data:=.fields #[.ref l,rawInt i]}
def C8(h:Heap)(a l:qM)(i:Int):Prop:=∃o,h.get? a=some o/\o.cls=.type "reversed"/\o.data=.fields #[.ref l,rawInt i]
theorem C8.ty{i:Int}(x:C8 s.heap a l i):s.TypeIs (.ref a) "reversed":=by obtain⟨o,ho,hc,_⟩:=x;exact⟨o,ho,hc⟩
theorem C8.at{i:Int}(x:C8 h a l i)(e:∀o,h.get? a=some o->h'.get? a=some o):C8 h' a l i:=by obtain⟨o,ho,r⟩:=x;exact⟨o,e _ ho,r⟩
section
variable{prog:qO}{w:qP}{A:Around}
theorem Jd:Slot "reversed" "__init__" "object.__init__":=.of (owner:="object") (n:="__init__") (by rw[typeLookup_type,builtinLookup_eq_fast];kernel_rfl) (by decide +kernel) (by decide +kernel) (by decide +kernel) (by first|exact .inl (by decide +kernel)|exact .inr (by decide +kernel)) (by rw[isSubtype_type];kernel_rfl)
theorem OC:TypeCalled "reversed" "reversed.__new__" "object.__init__":=⟨by decide +kernel,by decide +kernel,⟨_,_,F.mro_reversed⟩,F.made_reversed,by decide +kernel,by rw[isSubtype_type];kernel_rfl,Jd⟩
theorem OD(l:qM)(items:Array qL)(hz:(items.size:Int)<2^63):Meets (Builtin.«reversed.__new__» ⟨[.type "reversed",.ref l],[]⟩) (λ_ R s=>IsTup s.heap l items /\
  ∀tk,R (.ok (.ret (.ref s.heap.objs.size))) {s with heap:=s.heap.push (Ks l ((items.size:Int)-1)),toks:=tk}):=.of_wp λprog w A R s h=>by
 obtain⟨hl,h⟩:=h;have nc:Builtin.SmallTypes.newClass "reversed" ⟨[.type "reversed",.ref l],[]⟩=pure (.type "reversed",[.ref l]):=newClass_reversed _;unfold Builtin.«reversed.__new__»;refine qA (wpAny_of_eq nc ?_)
 try dsimp only
 refine qA (wpAny_of_eq (a:=()) (by first|rfl|kernel_rfl) ?_);refine qA (wpAny_of_eq (a:=()) (by first|rfl|kernel_rfl) ?_)
 try dsimp only
 refine qA (wpAny_specialOf hl.typeIs OA ?_)
 try dsimp only
 refine qA ?_;show wpAny _ _ (isInstance (Value.ref l) (.type "dict") >>= _) _ _ _;refine qA (wpAny_isInstance (T:="tuple") (b:=false) hl.typeIs Jc ?_);show wpAny _ _ (specialOf (Value.ref l) "__getitem__" >>= _) _ _ _;refine qA (wpAny_specialOf hl.typeIs slot_tuple_getitem.lookup ?_);refine qB (a:=true) ?_;show wpAny _ _ (call (Value.builtin "len") [Value.ref l] >>= _) _ _ _;refine qA (len_tuple hl hz ?_);refine qA (wpAny_of_eq (a:=some (items.size:Int)) rfl ?_);show wpAny _ _ (newObj (.type "reversed") (.fields #[Value.ref l,rawInt ((items.size:Int)-1)]) >>= _) _ _ _;refine qA (wpAny_newObj_type ?_ (by size_fits));exact qB ⟨_,rfl,h _⟩
theorem PZ(hl:IsTup s.heap l items)(hz:(items.size:Int)<2^63)(h:∀tk,Q (.ref s.heap.objs.size) {s with heap:=s.heap.push (Ks l ((items.size:Int)-1)),toks:=tk}):
  wpAny (model prog w) A (call (.type "reversed") [.ref l]) Q E s:=
 callType_new OC (by decide) (F.typeCall_reversed_1 _) (F.newCall_reversed_1 _) (λobj=>F.args_object_init_2 obj _) F.entry_reversed_new (OD l items hz) ⟨hl,λtk=>⟨⟨_,ZU _ rfl,rfl⟩,h tk⟩⟩
theorem Pa{x:qL}{Q:Option qL->qN->Prop}(hit:C8 s.heap it l (i:Int))(hl:IsTup s.heap l items)(hz:(items.size:Int)<2^63)(hx:items[i]?=some x)
  (hQ:∀h' tk,C8 h' it l ((i:Int)-1)->Heap.SameBut it s.heap h'->Q (some x) {s with heap:=h',toks:=tk}):wpAny (model prog w) A (pyNext (.ref it)) Q E s:=by
 obtain⟨o,ho,hc,hd⟩:=id hit;have hi:i<items.size:=(ac.mp hx).1;unfold pyNext;refine qA (wpAny_attempt (wpAny_callSpecial?_slot (name:=Str.ofString "__next__") hit.ty B4 (wpAny_call_entry B4 hit.ty D8 ?_ (En _))));unfold Builtin.«reversed.__next__»;refine qA (wpAny_of_eq (a:=(Value.ref it,[])) rfl ?_)
 try dsimp only
 refine qA (wpAny_field ho hd (x:=.ref l) rfl ?_);refine qA (wpAny_field ho hd (x:=rawInt (i:Int)) rfl ?_);show wpAny _ _ (if (i:Int)<0 then _ else _) _ _ _;rw[qC (by lia)];refine qA (wpAny_specialOf hl.typeIs slot_tuple_getitem.lookup ?_);show wpAny _ _ (mkInt (i:Int) >>= _) _ _ _;refine qA (wpAny_mkInt ?_);refine qA (wpAny_attempt (getItem_tuple (j:=i) (s:={s with toks:=s.toks+1}) hl (by lia) (by lia) (JJ (show Le items.size ((i:Nat):Int)=some i by unfold Le;rw[qD (by lia),qD (by lia),Int.toNat_natCast])).1 hx ?_));show wpAny _ _ (field (Value.ref it) 1 >>= _) _ _ _;refine qA (wpAny_field (s:={s with toks:=s.toks+1}) ho hd (x:=rawInt (i:Int)) rfl ?_);show wpAny _ _ (setField (Value.ref it) 1 (rawInt ((i:Int)-1)) >>= _) _ _ _;refine qA (wpAny_setField (s:={s with toks:=s.toks+1}) ho hd (by simp) ?_);refine qB ⟨x,rfl,qB (hQ _ _ ⟨_,Zr _ ho (Obj.isFreed_of_fields (Obj.data_mapFields hd _)),(Obj.cls_mapFields ..).trans hc,?_⟩ (Heap.SameBut.update ..))⟩;rw[Obj.data_mapFields hd];simp
theorem RT{Q:Option qL->qN->Prop}(hh:A.handled=none)(hit:C8 s.heap it l (-1))(hQ:∀h' tk,(∀b o,b≠it->s.heap.get? b=some o->h'.get? b=some o)->Q none {s with heap:=h',toks:=tk}):wpAny (model prog w) A (pyNext (.ref it)) Q E s:=by
 obtain⟨o,ho,hc,hd⟩:=id hit;unfold pyNext;refine qA (wpAny_attempt (wpAny_callSpecial?_slot (name:=Str.ofString "__next__") hit.ty B4 (wpAny_call_entry B4 hit.ty D8 ?_ (En _))));unfold Builtin.«reversed.__next__»;refine qA (wpAny_of_eq (a:=(Value.ref it,[])) rfl ?_)
 try dsimp only
 refine qA (wpAny_field ho hd (x:=.ref l) rfl ?_);refine qA (wpAny_field ho hd (x:=rawInt (-1)) rfl ?_);show wpAny _ _ (if (-1:Int)<0 then _ else _) _ _ _;rw[qD (by decide)];refine qA (wpAny_rule ?_);refine qA ?_;show wpAny _ _ (setField (Value.ref it) 1 (rawInt (-1)) >>= λ_=>setField (Value.ref it) 0 Value.none) _ _ _;refine qA (wpAny_setField ho hd (by simp) ?_);have ho2:=Zr (Obj.mapFields (·.setIfInBounds 1 (rawInt (-1)))) ho (Obj.isFreed_of_fields (Obj.data_mapFields hd _));refine wpAny_setField ho2 (Obj.data_mapFields hd _) (by simp) ?_;show wpAny _ _ ((newExc (.type "StopIteration") [] >>= λe=>raiseNew e) >>= _) _ _ _;refine qA (qA ?_);simp only[newExc,newTuple];refine qA (wpAny_newObj_type ?_ (by size_fits));refine qA (m:=firstArgMember _ _) (wpAny_of_eq (a:=Value.none) (by first|rfl|(simp only[firstArgMember];rfl)) ?_);refine wpAny_newObj_type ?_ (by size_fits);unfold raiseNew;refine qA (wpAny_handled ?_);rw[show A.in1.handled=none from hh];refine qA (qB (wpAny_throw ?_));refine qA (wpAny_isInstance (T:="StopIteration") (b:=true) ⟨_,ZU _ rfl,rfl⟩ isSubtype_stop ?_);refine qB (hQ _ _ λb u hb z=>?_);exact ZN _ (ZN _ ((bQ _ _ _ _ hb).trans ((bQ _ _ _ _ hb).trans z)))
theorem Kt{i:Int}(hit:C8 s.heap it l i)(h:Q (.ref it) s):wpAny (model prog w) A (pyIter (.ref it)) Q E s:=by refine wpAny_pyIter_slot hit.ty Eo (wpAny_call_entry Eo hit.ty Hv ?_ (Jb _));show wpAny _ _ (ret (.ref it)) _ _ s;exact qB ⟨_,rfl,"reversed",_,hit.ty,B4.lookup,h⟩
theorem OE(hh:A.handled=none)(it l:qM)(hne:l≠it)(items:Array qL)(hz:(items.size:Int)<2^63):
  Walks prog w A it [it,l] [it] items.size (λi v=>items[items.size-1-i]?=some v) (λi h=>i<=items.size/\C8 h it l ((items.size:Int)-1-(i:Int))/\IsTup h l items) where
 sub:=λb hb=>by simp at hb;simp[hb]
 frame:=λ_ _ _ x hk=>⟨x.1,x.2.1.at λo e=>hk it (by simp) o e,by obtain⟨o,ho,r⟩:=x.2.2;exact⟨o,hk l (by simp) o ho,r⟩⟩
 item:=λi s Q E hi x hQ=>by
  have e:(items.size:Int)-1-(i:Int)=((items.size-1-i:Nat):Int):=by lia
  have hit:=x.2.1;rw[e]at hit;have hx:items[items.size-1-i]?=some (items[items.size-1-i]'(by lia)):=aO (by lia);refine Pa hit x.2.2 hz hx λh' tk hit' hs'=>?_;have e2:((items.size-1-i:Nat):Int)-1=(items.size:Int)-1-((i+1:Nat):Int):=by lia
  rw[e2]at hit';refine hQ _ h' tk hx ⟨hi,hit',?_⟩ λb o hb eo=>hs'.extBut b o (λh=>hb (by simp[h])) eo
  obtain⟨o,ho,r⟩:=x.2.2;exact⟨o,(hs'.2 l hne).trans ho,r⟩
 done:=λs Q E x hQ=>by
  have e:(items.size:Int)-1-(items.size:Int)=-1:=by lia
  have hit:=x.2.1;rw[e]at hit;exact RT hh hit λh' tk k=>hQ h' tk λb o hb eo=>k b o (λh=>hb (by simp[h])) eo
 self:=λ_ _ _ _ x hQ=>Kt x.2.1 hQ
theorem Ep:Slot "reversed" "__length_hint__" "reversed.__length_hint__":=.of (owner:="reversed") (n:="__length_hint__") (by rw[typeLookup_type,builtinLookup_eq_fast];kernel_rfl) (by decide +kernel) (by decide +kernel) (by decide +kernel) (by first|exact .inl (by decide +kernel)|exact .inr (by decide +kernel)) (by rw[isSubtype_type];kernel_rfl)
theorem Hw:entryFor table "reversed.__length_hint__"=some Builtin.«reversed.__length_hint__»:=entryFor_of_tree (by kernel_rfl)
theorem Je(a:qL):argsOk "reversed.__length_hint__" ⟨[a],[]⟩:=by unfold argsOk;rw[signature?_of (id:="reversed.__length_hint__") (n:=['_','_','t','n','i','h','_','h','t','g','n','e','l','_','_']) (o:=['d','e','s','r','e','v','e','r']) (by kernel_rfl) Gn];kernel_rfl
theorem Pb{Q:Bool->qN->Prop}(hit:C8 s.heap I l ((items.size:Int)-1))(hl:IsTup s.heap l items)(hz:items.size<=sizeLine)(q:∀b tk,Q b {s with toks:=tk}):wpAny (model prog w) A (Builtin.List.listLengthHint (.ref I)) Q E s:=by
 have hT:=hit.ty;have hz2:(items.size:Int)<2^63:=by have:=DJ;lia
 refine byG λGq hGq=>?_;obtain⟨o,ho,hc,hd⟩:=id hit;refine hGq ?_;clear hGq Gq;unfold Builtin.List.listLengthHint;refine qA (wpAny_specialOf hT OB ?_);show wpAny _ A (specialOf (Value.ref I) (Str.ofString "__length_hint__") >>= _) _ _ _;refine qA (wpAny_specialOf hT PY ?_);generalize hz:("reversed.__length_hint__":String)=zz
 wp_delta
 rw[show splitId zz=some ("reversed","__length_hint__") from by subst hz;decide +kernel];subst hz;refine qA (wpAny_isInstance (b:=true) hT (by rw[isSubtype_type];kernel_rfl) ?_);simp only[Bool.not_true,Bool.false_eq_true,if_false];split
 ·rename_i hsil
  exact qE hsil (by decide +kernel)
 refine qA (wpAny_rule ?_);refine qA (wpAny_of_eq (Ep.bind _) ?_)
 try dsimp only
 refine qA (wpAny_attempt (wpAny_call_entry Ep hT Hw ?_ (Je _)));unfold Builtin.«reversed.__length_hint__»;refine qA (wpAny_of_eq (a:=Value.ref I) rfl ?_);refine qA (wpAny_field ho hd (x:=.ref l) rfl ?_);rw[qC (by simp)];refine qA (len_tuple hl hz2 ?_);refine qA (wpAny_of_eq (a:=some (items.size:Int)) rfl ?_);show wpAny _ _ (field (Value.ref I) 1 >>= _) _ _ _;refine qA (wpAny_field (s:={s with toks:=s.toks+1+1}) ho hd (x:=rawInt ((items.size:Int)-1)) rfl ?_);show wpAny _ _ (if (items.size:Int)<((items.size:Int)-1)+1 then _ else retInt (((items.size:Int)-1)+1)) _ _ _;rw[qC (by lia)];show wpAny _ _ (mkInt (((items.size:Int)-1)+1) >>= _) _ _ _;refine qA (wpAny_mkInt (qB ⟨_,rfl,?_⟩));show wpAny _ _ (asInt? (Value.int (((items.size:Int)-1)+1) _) >>= _) _ _ _;refine qA (wpAny_of_eq (a:=some (((items.size:Int)-1)+1)) rfl ?_);have en:((items.size:Int)-1)+1=(items.size:Int):=by lia
 rw[en]
 have f1:Builtin.List.listFitsIndex (items.size:Int)=true:=by unfold Builtin.List.listFitsIndex;simp;lia
 have f2:Builtin.List.listTooLong (items.size:Int).toNat=false:=by rw[Zh];exact Ke hz
 show wpAny _ _ (if (!Builtin.List.listFitsIndex (items.size:Int))=true then _ else (if (items.size:Int)<0 then _ else (if Builtin.List.listTooLong (items.size:Int).toNat=true then _ else pure ((items.size:Int) != 0)))) _ _ _;rw[qC (by rw[f1];decide),qC (by lia),qC (by rw[f2];decide)];exact qB (q _ _)
theorem Ku{Q:qL->qN->Prop}(hh:A.handled=none)(hIl:l≠I)(hit:C8 s.heap I l ((items.size:Int)-1))(hl:IsTup s.heap l items)(hz:items.size<=sizeLine)
  (hQ:∀h' tk c' c9,(∀b o,b≠I->s.heap.get? b=some o->h'.get? b=some o)->h'.get? s.heap.objs.size=some {cls:=.type "list",dict:=none,data:=.seq c9 c',slots:=#[]} ->
   c9.toList=items.toList.reverse->Q (.ref s.heap.objs.size) {s with heap:=h',toks:=tk}):wpAny (model prog w) A (call (.type "list") [.ref I]) Q E s:=by
 have hz2:(items.size:Int)<2^63:=by have:=DJ;lia
 have W:=(OE (prog:=prog) (w:=w) (A:=A.in1.in1) hh I l hIl items hz2).toS;have hIlt:I<s.heap.objs.size:=by obtain⟨o,e,_⟩:=hit;exact ZO e
 have hllt:l<s.heap.objs.size:=by obtain⟨o,e,_⟩:=hl;exact ZO e
 refine callType_codes (Q₁:=λobj s₁=>obj=.ref s.heap.objs.size/\s₁={s with heap:=s.heap.push {cls:=.type "list",data:=.seq #[]}}) PySem.F.called_list (PySem.F.typeCall_list_1 _) PySem.F.entry_list_init
  (code_list_new _ ⟨rfl,rfl⟩) λobj s₁ h₁=>?_
 obtain⟨rfl,rfl⟩:=h₁;have hS:(s.heap.push {cls:=.type "list",data:=.seq #[]}).get? s.heap.objs.size=some {cls:=.type "list",data:=.seq #[]}:=ZU _ rfl;refine⟨⟨_,hS,rfl⟩,PySem.F.args_list_init_2 _ _,?_⟩;show wpAny _ _ (do let old <-Builtin.List.listItems (.ref s.heap.objs.size);Builtin.List.listUpdate (.ref s.heap.objs.size) (λ_=>#[]);letGo old.toList.reverse;Builtin.List.listExtendWith (.ref s.heap.objs.size) (.ref I) .none) _ _ _;refine qA ?_;unfold Builtin.List.listItems;refine qA (wpAny_seqItems hS rfl (qB ?_));show wpAny _ _ (updateSeq s.heap.objs.size (λ_=>#[]) >>= λ_=>letGo (#[]:Array qL).toList.reverse >>= λ_=>Builtin.List.listExtendWith (.ref s.heap.objs.size) (.ref I) .none) _ _ _;refine qA (wpAny_updateSeq hS rfl ?_);have hS2:=Zr (Obj.mapSeq (λ_=>(#[]:Array qL))) hS rfl
 have kp:∀b o,s.heap.get? b=some o->((s.heap.push {cls:=.type "list",data:=.seq #[]}).update s.heap.objs.size (Obj.mapSeq (λ_=>(#[]:Array qL)))).get? b=some o:=
  λb o e=>(Z6 _ _ (aL (ZO e))).trans (ZN _ e)
 refine qA (wpAny_letGo ?_);have hit2:=hit.at λo e=>kp I o e
 have hl2:IsTup ((s.heap.push {cls:=.type "list",data:=.seq #[]}).update s.heap.objs.size (Obj.mapSeq (λ_=>(#[]:Array qL)))) l items:=by obtain⟨o,ho,r⟩:=hl;exact⟨o,kp l o ho,r⟩
 unfold Builtin.List.listExtendWith;refine qA (wpAny_typeOf (T:="reversed") (C8.ty (s:={s with heap:=(s.heap.push {cls:=.type "list",data:=.seq #[]}).update s.heap.objs.size (Obj.mapSeq (λ_=>(#[]:Array qL)))}) hit2) ?_);have h1:Builtin.List.listSameRef (.ref s.heap.objs.size) (.ref I)=false:=by simp[Builtin.List.listSameRef,Nat.ne_of_gt hIlt]
 rw[qC (by rw[h1];decide)];refine qA (Kt (s:={s with heap:=(s.heap.push {cls:=.type "list",data:=.seq #[]}).update s.heap.objs.size (Obj.mapSeq (λ_=>(#[]:Array qL)))}) hit2 ?_);refine qA (qJ (Pb (s:={s with heap:=(s.heap.push {cls:=.type "list",data:=.seq #[]}).update s.heap.objs.size (Obj.mapSeq (λ_=>(#[]:Array qL)))}) hit2 hl2 hz λroom tk1=>?_))
 have nf:s.heap.objs.size∉[I,l]:=by simp only[List.mem_cons,List.not_mem_nil,or_false,not_or];exact⟨aL hIlt,aL hllt⟩
 have fin:∀(h3:Heap) (c3:Nat),(∀b o,s.heap.get? b=some o->h3.get? b=some o)->h3.get? s.heap.objs.size=some {cls:=.type "list",dict:=none,data:=.seq #[] c3,slots:=#[]} ->
   wpAny (model prog w) A.in1.in1 (again (.builtin "list.extend.loop" ⟨[.ref s.heap.objs.size,.ref I,.none],[]⟩)) (λfin s'=>match fin with
    |Fin.done f=>wants (λr s₂=>r=Value.none/\Q (Value.ref s.heap.objs.size) s₂) E (Except.ok f) s'
    |Fin.again c'=>c'.quiet=true/\codeAny (model prog w) A.in1 c' (wants (λr s₂=>r=Value.none/\Q (Value.ref s.heap.objs.size) s₂) E) s') (λe s'=>wants (λr s₂=>r=Value.none/\Q (Value.ref s.heap.objs.size) s₂) E (Except.error e) s') {s with heap:=h3,toks:=tk1}:=by
  intro h3 c3 k3 g3;have hit3:=hit.at λo e=>k3 I o e
  have hl3:IsTup h3 l items:=by obtain⟨o,ho,r⟩:=hl;exact⟨o,k3 l o ho,r⟩
  refine qB ⟨plainId_quiet PySem.F.plain_extend_loop _,codeAny_extend_loopS W hz _ nf _ items.size 0 _ _ _ rfl (Nat.zero_le _) ⟨Nat.zero_le _,by simpa using hit3,hl3⟩ g3 (ItemsOf.nil _) λs' c9 c' hm hS' hacc=>?_⟩;refine⟨rfl,?_⟩;rw[Moved.eq_with hm];refine hQ s'.heap s'.toks c' c9 (λb o hb e=>hm.heap b o (λz=>?_) (k3 b o e)) hS' ?_
  ·rcases Zd.mp z with z|z
   ·exact qE (ZO e) (by rw[z];exact Zn _)
   ·exact hb (ZX.mp z)
  ·apply bG;intro i
   by_cases hi:i<items.size
   ·have hi2:i<c9.size:=by rw[hacc.1];exact hi
    have p:=hacc.2 i c9[i] (aO hi2);rw[List.getElem?_reverse (by simpa using hi),Array.getElem?_toList,Array.getElem?_eq_getElem hi2,Array.getElem?_toList,Array.length_toList];exact p.symm
   ·rw[Z9 (by rw[ZT,hacc.1];lia),Z9 (by rw[aG,ZT];lia)]
 cases room with
 |false =>
  dsimp only;split
  ·rename_i hx
   exact qE hx (by decide +kernel)
  ·exact fin _ _ kp hS2
 |true =>
  dsimp only;split
  ·refine qA (wpAny_rule (qA ?_));show wpAny _ _ (updateSeq s.heap.objs.size (·.push .none) >>= λ_=>updateSeq s.heap.objs.size (·.pop)) _ _ _;refine qA (wpAny_updateSeq hS2 rfl ?_);have hS3:=Zr (Obj.mapSeq (·.push Value.none)) hS2 rfl;refine wpAny_updateSeq hS3 rfl ?_;have hS4:=Zr (Obj.mapSeq (·.pop)) hS3 rfl;refine fin _ _ (λb o e=>?_) hS4;have nb:s.heap.objs.size≠b:=aL (ZO e);exact (Z6 _ _ nb).trans ((Z6 _ _ nb).trans (kp b o e))
  ·rename_i hx
   exact qE rfl hx
end
def Pc(K:qQ)(ta:TA):TE:=λσ H Q=>ta σ H λvs H1=>∃a xs,vs=[.ref a]/\Ao K H1 a xs/\∀p,H1 p=none->Q (.ref p) (Am H1 p (.lst xs.reverse))
theorem Kv{l:Expr}{p1 p2 pos1 pos2:Pos}(hc:X.calm=true)(hg:Gl X "reversed")(hm:X.mg "reversed"=none)(hg2:Gl X "list")(hm2:X.mg "list"=none)(ha:PA X [l] ta)(hs:starEach [l] X.env=[(false,eval l X.env)]:=by rfl)
  (hs2:starEach [.Call (.Name "reversed" p1) [l] [] pos1] X.env=[(false,eval (.Call (.Name "reversed" p1) [l] [] pos1) X.env)]:=by rfl):
  PE X (.Call (.Name "list" p2) [.Call (.Name "reversed" p1) [l] [] pos1] [] pos2) (Pc X.K ta):=by
 intro ad s σ H Q I h;refine Call_ (CM I hg2 hm2 be (Zo (T:="list") ?_ hs2 rfl));rw[hs2];show wpAny _ _ (spliced ((false,eval (.Call (.Name "reversed" p1) [l] [] pos1) X.env)::[])) _ _ s;refine Calls.spliced_cons (Call_ (CM I hg hm boot_reversed (Zo (A9 (ha pos1 ad s σ H _ I h) λus s1 z9=>?_) hs rfl)));obtain⟨vs,H1,I1,r1,q1⟩:=z9;refine byG λGq hGq=>?_;obtain⟨a,xs,e,hq,q⟩:=q1;refine hGq ?_;clear hGq Gq;subst e;cases r1 with
 |cons r rr =>
  cases rr;cases r;refine byG λGq hGq=>?_;obtain⟨its,rv,pl,hz⟩:=I1.tuple hq;refine hGq ?_;clear hGq Gq;have hlen:=rv.length;have hz2:((its.toArray.size:Nat):Int)<2^63:=by have:=DJ;rw[Zq];lia
  refine PZ pl hz2 λtk0=>?_;refine Calls.spliced_nil ?_;have ne:a≠s1.heap.objs.size:=by obtain⟨o,e,_⟩:=pl;exact Zj (ZO e)
  have hL:IsTup (s1.heap.push (Ks a ((its.toArray.size:Int)-1))) a its.toArray:=by obtain⟨o,ho,r⟩:=pl;exact⟨o,ZN _ ho,r⟩
  refine Ku (s:={s1 with heap:=s1.heap.push (Ks a ((its.toArray.size:Int)-1)),toks:=tk0}) (I.ok.hd hc) ne ⟨_,ZU _ rfl,rfl,rfl⟩ hL (by rw[Zq,<-hlen];exact hz) λh' tk c' c9 kp hD hacc=>?_;have kp2:∀b o,s1.heap.get? b=some o->h'.get? b=some o:=λb o e=>kp b o (Zj (ZO e)) (ZN _ e)
  have hf:H1 (s1.heap.push (Ks a ((its.toArray.size:Int)-1))).objs.size=none:=I1.hok.fresh (by rw[aC];lia);have rv2:Ag xs.reverse c9.toList:=by rw[hacc];simpa using rv.reverse
  refine⟨.ref _,_,I1.laid (t':=tk) kp2 (by rw[aC];lia) ?_,rfl,q _ hf⟩;exact⟨by rw[List.length_reverse];exact hz,c9.toList,c',rv2,by simpa using hD⟩
structure Er(P:qO)(w:qP)(K:qQ)(mg:Str->Option qL)(base:Heap)(k:Nat)(f:qM)(ps:List Str)(sp:Sp):Prop where
 ex:∃fd,C1 P w K mg base (Hn true P w) k f fd ps sp/\Cr K fd ps []
 kp:PySem.W.keepIn K (.ref f)=true
section
variable{P:qO}{w:qP}{K:qQ}{mg:Str->Option qL}{base:Heap}{f:qM}{N:List Str}{sp:Sp}
theorem GK(D:∃fd,BD K x qual st f fd)(S:AJ N ps (AG st))(bd:Df x qual st ps)(len:∀vs H Q E,sp vs H Q E->vs.length=ps.length)
  (hbody:∀(cb:qL) (A:Around) (outer:List Env) (s:qN) (H:Hp) (vs:List V) (Q:VK) (E:XK),BP k (A.deeper (envOfC qual (AG st) s.heap.objs.size f cb))->sp vs H Q E ->
   ∃t,F8 (Cc (Hn true P w) P w K mg base N qual (AG st) f cb A outer s H E) (BI st) t/\t {nx:=λ_ H'=>Q .non H',rt:=Q} (CA N vs) H):Er P w K mg base (k+1) f ps sp:=by
 obtain⟨fd,F⟩:=D;exact⟨⟨fd,F.okX S len hbody,F.binds bd⟩,F.kp⟩
end
section
variable{f:qM}{sp:Sp}{E:St->XK}{p:Pos}{es:List Expr}{t:TA}
theorem CJ(G:Er X.prog X.w X.K X.mg X.base k f ps sp)(hr:BP k X.A)(hg:Gl X x)(hm:X.mg x=some (.ref f))(hx:Bl (Hn true X.prog X.w) X E)
  (ha:PA X (e::es) t) (hdb:(x==("__debug__":Str))=false:=by decide) (he:starEach (e::es) X.env=(false,eval e X.env)::starEach es X.env:=by rfl) (hpl:(backTo pos (starEach es X.env)).any (·.1)=false:=by rfl):
  PE X (.Call (.Name x p) (e::es) [] pos) (FU sp [] E t):=by
 refine byG λGq hGq=>?_;obtain⟨⟨fd,F,b⟩,kp⟩:=G;refine hGq ?_;clear hGq Gq;exact Gj F hr hg hm kp b .nil hx ha hdb he hpl
end
noncomputable def Cx.trN(X:Cx)(p:List (qM×Obj))(W:St->XK):Cx:=X.but p λe s'=>∃ad σ H s,AW (X.but p λ_ _=>False) ad σ H s/\Hn true X.prog X.w X.stack H s (W σ) e s'
section
variable{p:List (qM×Obj)}
theorem Vv:(X.trN p W).K=X.K:=rfl
theorem Kw:Bl (Hn true X.prog X.w) (X.trN p W) W:=λad σ H s e s' I h=>⟨ad,σ,H,s,AW.rebut (X:=X) I,h⟩
end
noncomputable def L8(a:qM):HO:=.ext (λh=>∃o vs,h.get? a=some o/\o.data=.fields vs/\vs[2]?=some .none)
theorem O5.landN{D:Option qM}{l:List Env}(I:AW X ad σ H s)(F:O5 true X.prog X.w X.stack H s a cls a0 D B H' s')(fl:Heap.FlyingW B l a cls a0 h')(sm:s'.heap.UpToSlots h')(dk:DK s'.heap h'):
  AW X ad σ (Am H' a (L8 a)) {s' with heap:=h',toks:=t'}:=by
 obtain⟨u,hok⟩:=F.unAt I fl.1 sm;obtain⟨n1,n2⟩:=F.fresh;refine byG λGq hGq=>?_;obtain⟨oe,vs,he,hc,hd,_⟩:=fl.first;refine hGq ?_;clear hGq Gq;have ne:∀b o,s.heap.get? b=some o->b≠a:=λb o e z=>by rw[z,n2]at e;cases e
 have ne2:∀b o,H' b=some o->b≠a:=λb o e z=>by rw[z,n1]at e;cases e
 refine I.call' (s':={s' with heap:=h',toks:=t'}) (ch:=[]) F.os ⟨u.keep,u.slot,λb o e n hx=>?_,u.there,λb xs q=>?_,λb o v q=>?_,λb ps q=>?_⟩ (λb v q=>?_) F.bare (λb z=>qE z (by simp))
 ·rw[AR (ne b o e)];exact u.free b o e n hx
 ·have q':=u.tups b xs q;rw[AR (ne2 b _ q')];exact q'
 ·have q':=u.frzs b o v q;rw[AR (ne2 b _ q')];exact q'
 ·obtain⟨more,q'⟩:=u.tbls b ps q;exact⟨more,by rw[AR (ne2 b _ q')];exact q'⟩
 ·by_cases hb:b=a
  ·subst hb;rw[AE]at q;cases q;obtain⟨ow,hw,hwd⟩:=F.ctx rfl;refine⟨⟨oe,vs,he,hd,?_⟩,⟨oe,he⟩,λh1 h2 ⟨o,ws,e,r⟩ k=>⟨o,ws,k o e,r⟩⟩;have z:=(dk.get hw he).2.trans hwd;unfold C7 at z;rw[hd]at z;exact z
  ·rw[AR hb]at q;exact (hok b v q).stay (λc v' _ r=>r) (λc z=>by rw[AR (ne2 c _ z)];exact z) λc xs z=>by rw[AR (ne2 c _ z)];exact z
def SU(X:Cx)(C:qL)(E:XK):Prop:=
 ∀(ad:List (qM×Obj)) (σ:St) (H:Hp) (s:qN) (h':Heap) (e:qM) (a0:qL) (vs:Array qL) (sl:Array (Option qL)),AW X ad σ H s->(∀b o,s.heap.get? b=some o->h'.get? b=some o)->s.heap.get? e=none ->
  h'.get? e=some ⟨C,none,.fields vs,sl⟩->vs[0]?=some a0->vs[1]?=some .none->E C none H->X.xe (.ref e) {s with heap:=h'}
section
variable{P:qO}{w:qP}{K:qQ}{mg:Str->Option qL}{base:Heap}{N:List Str}{f:qM}{cd:qL}{A:Around}{outer:List Env}{E:XK}
theorem L9{C:qL}:SU (Cc (Ea P w) P w K mg base N qual scope f cd A outer s H E) C E:=by
 intro ad σ H1 s1 h1 e a0 vs sl I kp hen he v0 v1 hE;generalize hX:Cc (Ea P w) P w K mg base N qual scope f cd A outer s H E=X at I⊢;have hst:X.stack=X.env::X.outer:=by rw[<-hX];rfl
 have hfr:X.env.frame=some X.env.locals:=by rw[<-hX];rfl
 have hxe:X.xe=λe s'=>wpAny (model P w) X.A (leaving X.env e) (λ_ s''=>Ea P w X.outer X.H₀ X.s₀ E e s'') (λe' s''=>Ea P w X.outer X.H₀ X.s₀ E e' s'') s':=by rw[<-hX];rfl
 have hex:X.ex=[]:=by rw[<-hX];rfl
 have hp:X.prog=P:=by rw[<-hX];rfl
 have hw:X.w=w:=by rw[<-hX];rfl
 subst hp hw;rw[hxe];have fr:=I.stack;have hin:∀env∈X.stack,∀b,env.frame=some b->b∈B9 X.stack:=λenv he b hb=>ah.mpr ⟨env,he,hb⟩
 have fr0:s1.heap.FunFrames (PySem.W.hideAll s1.heap (B9 X.stack)) (X.env::X.outer):=by rw[<-hst];exact ba fr hin
 have fr':h1.FunFrames (PySem.W.hideAll s1.heap (B9 X.stack)) (X.env::X.outer):=Heap.FunFrames.of_keeps (λb o e _=>⟨o,kp b o e,rfl⟩) fr0
 have hbe:(PySem.W.hideAll s1.heap (B9 X.stack)).get? e=none:=by
  cases q:(PySem.W.hideAll s1.heap (B9 X.stack)).get? e with
  |none=>rfl
  |some o=>have z:=ay _ q;rw[hen]at z;cases z
 refine qH (KT.run (DM _ _) (wpAny_leaving_firstW (Q:=λ_ s2=>∃h2,s2={s1 with heap:=h2}/\Heap.LeftW (PySem.W.hideAll s1.heap (B9 X.stack)) (X.env::X.outer) e C a0 h1 h2) (E:=λ_ _=>False) (s:={s1 with heap:=h1}) (a0:=a0) (by rw[<-hst];exact I.ok.frames) fr' hfr he (λb o q=>kp b o (ay _ q)) hbe rfl v1 v0 λh2 z=>⟨h2,rfl,z⟩)) (λ_ s2 q=>?_) λ_ _ q=>q.1.elim
 refine byG λGq hGq=>?_;obtain⟨⟨h2,rfl,k1,⟨k0,kk,k2⟩,k3,k4⟩,dk⟩:=q;refine hGq ?_;clear hGq Gq;have fl:Heap.FlyingW (PySem.W.hideAll s1.heap (B9 X.stack)) X.outer e C a0 h2:=⟨k1,hbe,k2,k3⟩;have kept:∀b o,s1.heap.get? b=some o->b∉B9 X.stack->h2.get? b=some o:=λb o q hb=>k1 b o (Z3 _ q hb)
 have J:AW X ad σ H1 {s1 with heap:=h2,toks:=s1.toks}:=I.slotted kept λb o q hb=>k4 b o (kp b o q) (I.frameData q hb)
 have un:Un (B9 X.outer) [] X.H₀ H1 X.s₀.heap h2:=by have z:=J.base;rw[hex]at z;exact z
 have hdc:∃oe,h2.get? e=some oe/\oe.dict=none:=by obtain⟨ob,hob,_⟩:=fl.there;exact⟨ob,hob,(dk.get he hob).1.trans rfl⟩
 refine⟨e,C,a0,none,_,H1,rfl,⟨J.os,J.bare,un,J.hok,fl,λb o q hb o' q'=>?_,λb u q o' q'=>?_,hdc,λz=>by cases z⟩,hE⟩
 ·obtain⟨o1,q1⟩:=I.base.there b o q (by rw[hex];simp)
  have hn:b∉B9 X.stack:=λz=>by
   rcases Zd.mp (I.stkSub b z) with y|y
   ·exact qE (ZV (ZO q) I.ok.above) (by rw[y];exact Zn _)
   ·exact hb y
  have q2:=kept b o1 q1 hn;rw[q']at q2;cases q2;exact Z3 _ q1 hn
 ·have hn:b∉B9 X.stack:=λz=>by
   have y:=I.stkFree b z;rw[q]at y;cases y
  obtain⟨o1,r⟩:=(I.hok b u q).somewhere;have q2:=kept b o1 r hn;rw[q']at q2;cases q2;exact Z3 _ r hn
end
theorem Hy:entryFor table "proto.unchain"=some Builtin.«proto.unchain»:=entryFor_of_tree (by kernel_rfl)
section
variable{prog:qO}{w:qP}{A:Around}{env:Env}{nm qn:Str}{N h:qM}{bs tl:List qL}{dy:Bool}{sn:List Str}{sub:List qL}{ab:Bool}{col:Option Bool}{dd:Option qM}{k0 k1 k2 k3 k5:Option qL}{nid:String}
theorem MA{x c:Sem qL}{Q:Flow->qN->Prop}(hb:tl.contains (.type "BaseException")=true)(hh:A.handled=some (.ref h))(hc:∀(Q:qL->qN->Prop) (s:qN),Q .none s->wpAny (model prog w) A c Q E s)
  (hx:wpAny (model prog w) A x (λv s1=>∃(a t:qM),v=.ref a/\s1.heap.get? C=some (excClassObj nm qn C N bs tl dy sn sub ab col dd k0 k1 k2 k3 k5 nid) /\
   s1.heap.get? a=some ⟨.ref C,none,.fields #[.ref t,.none,.none,.none,.bool false,.none],#[]⟩/\a≠h/\(∃o vs,s1.heap.get? h=some o/\o.data=.fields vs/\vs[2]?=some .none) /\
   ∀h',Heap.SameBut a s1.heap h'->h'.get? a=some ⟨.ref C,none,.fields #[.ref t,.none,.ref h,.none,.bool true,.none],#[]⟩->E (.ref a) {s1 with heap:=h'}) E s):wpAny (model prog w) A (raiseStmt env (some x) (some c)) Q E s:=by
 have hcB:(Value.ref C::tl).contains (.type "BaseException")=true:=by rw[List.contains_cons,hb,Bool.or_true]
 unfold raiseStmt;refine qA (qH hx (λv s1 h1=>?_) λ_ _ x=>x);refine byG λGq hGq=>?_;obtain⟨a,t,rfl,hC,he,nah,⟨oh,vh,hoh,hdh,hvh⟩,hE⟩:=h1;refine hGq ?_;clear hGq Gq;refine qA (qJ (hc _ _ (qA (qB ?_))));refine byG λGq hGq=>?_;obtain⟨hp,g,d,tk,os⟩:=s1;refine hGq ?_;clear hGq Gq
 repeat (first|with_reducible refine wpAny_loadPart_at hC ?_|with_reducible refine wpAny_loadPart_at he ?_|(with_reducible refine wpAny_isSubtype_exc hC ?_;rw[hcB])|wp_step)
 have nac:C≠a:=λz=>by have hC':=hC;rw[z,he]at hC';cases hC'
 generalize e2:(hp.update a (Obj.mapFields λx=>x.setIfInBounds 3 Value.none)).update a (Obj.mapFields λx=>x.setIfInBounds 4 (Value.bool true))=h2;have sb2:Heap.SameBut a hp h2:=by rw[<-e2];exact (Heap.SameBut.update ..).trans (Heap.SameBut.update ..)
 have he2:h2.get? a=some ⟨.ref C,none,.fields #[.ref t,.none,.none,.none,.bool true,.none],#[]⟩:=by rw[<-e2];exact Zr _ (Zr _ he rfl) rfl
 have hC2:h2.get? C=some (excClassObj nm qn C N bs tl dy sn sub ab col dd k0 k1 k2 k3 k5 nid):=(sb2.2 C nac).trans hC;have hoh2:h2.get? h=some oh:=(sb2.2 h (Ne.symm nah)).trans hoh;clear e2;refine wpAny_loadPart_at hC2 (qB (qB ?_));unfold setFlight;refine qA (qA (wpAny_field he2 rfl rfl (qB ?_)));unfold raiseNew;refine qA (wpAny_handled ?_);rw[hh];have nb:(Value.ref h != Value.ref a)=true:=bne_iff_ne.mpr λz=>nah (Value.ref.inj z).symm
 dsimp only;rw[qD nb];refine qA (qJ (runValue_entry Hy ?_));unfold Builtin.«proto.unchain»;refine qA (wpAny_field hoh2 hdh hvh ?_);rw[qD (show (Value.none==Value.none)=true from rfl)];refine qB ⟨_,rfl,qA ?_⟩;refine (show wpAny (model prog w) A (setField (.ref a) 2 (.ref h)) _ _ _ from wpAny_setField he2 rfl (by simp) (wpAny_throw ?_));exact hE _ (sb2.trans (Heap.SameBut.update ..)) (Zr _ he2 rfl)
end
def SW(K:qQ)(R:qL)(C:qM)(W:St->XK)(E:XK)(tb:TS)(t:TA):TS:=λD σ H=>tb D σ H/\∀σ' cls D' H',W σ' cls D' H'->PySem.W.exmOne K cls R=some true/\∀a,H' a=none ->
 t σ' (Am H' a (L8 a)) λvs H1=>vs.length<=sizeLine/\H1 a=some (L8 a)/\E (.ref C) none H1
section
variable{n:Str}{R:qM}{E:XK}{b:List Stmt}{tb:TS}{t:TA}{es:List Expr}{nj}{np xp cpos rpos hpos npos:Pos}
theorem RU(hC:PySem.W.excIn X.K C Cp "ValueError.__new__"=true)(hgn:Gl X n)(hmn:X.mg n=some (.ref C))(hfl:SU X (.ref C) E)(hpo:∀v,PassesOwnAt (model X.prog X.w) (X.A.mark (some v)) X.A X.env X.xe)
  (hg:Gl X x) (hm:X.mg x=some (.ref R)) (hst:X.stack=X.env::X.outer) (hfr:X.env.frame=some X.env.locals)
  (hb:∀p,F8 (X.trN p W) b tb) (ha:∀v,PA (X.hdl v) (e::es) t) (hd:(x==("__debug__":Str))=false:=by decide) (hdn:(n==("__debug__":Str))=false:=by decide)
  (he:starEach (e::es) X.env=(false,eval e X.env)::starEach es X.env:=by rfl) (hpl:(backTo cpos (starEach es X.env)).any (·.1)=false:=by rfl):
  PS X (.Try b [.ExceptHandler (some (.Name x xp)) none [.Raise (some (.Call (.Name n np) (e::es) [] cpos)) (some (.Constant .none nj npos)) rpos] hpos] [] [] pos) (SW X.K (.ref R) C W E tb t):=by
 intro ad s σ H D I h;obtain⟨h1,h2⟩:=h;refine wpAny_Try_except (qH (hb (X.pn++ad) [] s σ H D (I.but _) h1) (λf s1 q=>?_) λe s1 q=>?_)
 ·have q':SP X ad D f s1:=SP.unbut (pins':=[]) q;cases f with
  |next=>exact wpAny_execs_nil q'
  |ret u=>exact q'
  |brk=>exact q'
  |cont=>exact q'
 ·refine byG λGq hGq=>?_;obtain⟨pins0,σ0,H0,s0,I0,a,cls,a0,D',B,H',rfl,F,hW⟩:=q;refine hGq ?_;clear hGq Gq;have J0:AW X ad σ0 H0 s0:=I0.unbut;obtain⟨hx,hth⟩:=h2 σ0 cls D' H' hW;have fl:Heap.FlyingW B (X.env::X.outer) a cls a0 s1.heap:=by rw[<-hst];exact F.fly
  refine qH (KT.run (JW _ _) (wpAny_looks_onW (Q:=λ_ s4=>∃h4,s4={s1 with heap:=h4}/\Heap.HeldW B (X.env::X.outer) a cls a0 X.env.locals h4/\s1.heap.UpToSlots h4) (E:=λ_ _=>False) (by rw[<-hst];exact J0.ok.frames) hfr fl λh4 held4 sm4=>⟨h4,rfl,held4,sm4⟩)) (λ_ s4 q=>?_) λ_ _ q=>q.1.elim
  refine byG λGq hGq=>?_;obtain⟨⟨h4,rfl,held4,sm4⟩,dk4⟩:=q;refine hGq ?_;clear hGq Gq;refine qH (KT.run (Bz _ _) (wpAny_landsW (Q:=λ_ s5=>∃h5,s5={s1 with heap:=h5}/\Heap.FlyingW B (X.env::X.outer) a cls a0 h5/\h4.UpToSlots h5) (E:=λ_ _=>False) (s:={s1 with heap:=h4}) held4 λh5 fl5 sm5=>⟨h5,rfl,fl5,sm5⟩)) (λ_ s5 q=>?_) λ_ _ q=>q.1.elim
  refine byG λGq hGq=>?_;obtain⟨⟨h5,rfl,fl5,sm5⟩,dk5⟩:=q;refine hGq ?_;clear hGq Gq;have J5:AW X ad σ0 H' {s1 with heap:=h5,toks:=s1.toks}:=F.land J0 fl5.1 (sm4.trans sm5);have K5:=J5.hdl (.ref a);refine wpAny_handleBy_cons (codeAny_handlers_test (Cq K5 hg hm ?_ hd)) (by intro q;cases q);obtain⟨ob,hob,hobc⟩:=fl5.there
  have LT:PySem.W.Looks (model X.prog X.w) h5 (typeOf (.ref a)) cls:=by subst hobc;exact (PySem.W.Looks.ld hob).andThen .now
  refine (PySem.W.exm_one J5.kIn LT hx).here ?_;show codeAny _ _ _ _ _;refine codeAny_handlers_suite ?_;refine qH (KT.run (Bz _ _) (lands_againW (Q:=λ_ s6=>∃h6,s6={s1 with heap:=h6}/\Heap.FlyingW B (X.env::X.outer) a cls a0 h6/\h5.UpToSlots h6) (E:=λ_ _=>False) (s:={s1 with heap:=h5}) fl5 λh6 fl6 sm6=>⟨h6,rfl,fl6,sm6⟩)) (λ_ s6 q=>?_) λ_ _ q=>q.1.elim
  refine byG λGq hGq=>?_;obtain⟨⟨h6,rfl,fl6,sm6⟩,dk6⟩:=q;refine hGq ?_;clear hGq Gq;have J6:AW X ad σ0 (Am H' a (L8 a)) {s1 with heap:=h6,toks:=s1.toks}:=F.landN J0 fl6 ((sm4.trans sm5).trans sm6) ((dk4.trans dk5).trans dk6);have I7:=J6.hdl (.ref a);refine wpAny_execs_cons ?_;refine byG λGq hGq=>?_;obtain⟨tl,N,nm,qn,bs,dy,sn,sub,ab,col,dd,k0,k1,k2,k3,k5,mN,hO,hN,hni,T⟩:=Mv J6.mod.kin hC;refine hGq ?_;clear hGq Gq;have FB:=ae;rw[arm_exec_Raise];have arg:=ha (.ref a) cpos ad _ _ _ _ I7 (hth a F.fresh.1)
  refine qA (wpAny_standAt (MA (h:=a) (C:=C) (nm:=nm) (qn:=qn) (N:=N) (bs:=bs) (tl:=tl) (dy:=dy) (sn:=sn) (sub:=sub) (ab:=ab) (col:=col) (dd:=dd) (k0:=k0) (k1:=k1) (k2:=k2) (k3:=k3) (k5:=k5) (nid:="ValueError.__new__") (T.hasType FB.hasBase) rfl
   (λQ s q=>qA (Constant_none (qA (wpAny_standAt (qB q))))) (qA (qH (wpAny_Call_ofName (Cq I7 hgn hmn ?_ hdn)) (λv s3 h3=>qA (wpAny_standAt (qB h3))) λ_ _ z=>z))))
  unfold callWith;have arg':wpAny (model X.prog X.w) (X.A.mark (some (.ref a))) (spliced (backTo cpos (starEach (e::es) X.env))) (AP (X.hdl (.ref a)) ad σ0 λvs H1=>vs.length<=sizeLine/\H1 a=some (L8 a)/\E (Value.ref C) none H1) (λ_ _=>False) {heap:=h6,gens:=s1.gens,drawn:=s1.drawn,toks:=s1.toks,os:=s1.os}:=arg;clear arg
  have hplain:(backTo cpos (starEach (e::es) X.env)).any (·.1)=false:=by rw[he];show (false||(backTo cpos (starEach es X.env)).any (·.1))=false;rw[hpl];rfl
  refine qA (qJ (qH (Q:=λa' s2=>∃us,a'=⟨us,[]⟩/\AP (X.hdl (.ref a)) ad σ0 (λvs H1=>vs.length<=sizeLine/\H1 a=some (L8 a)/\E (Value.ref C) none H1) us s2) (E:=λ_ _=>False) ?_ (λa' s2 h2=>qA (wpAny_standAt ?_)) λ_ _ x=>x.elim))
  ·rw[he]at arg'⊢;exact Calls.evalArgs_plain (A9 arg' λus s2 q=>⟨us,rfl,q⟩)
  refine byG λGq hGq=>?_;obtain⟨us,rfl,vs,H2,I2,r,z,hH2,hE⟩:=h2;refine hGq ?_;clear hGq Gq;have J2:AW X ad σ0 H2 s2:=I2.unhdl J0.ok.hd;have hC2:=J2.bk _ _ hO;have hN2:=hN.keeps J2.bk;have T2:=T.keeps J2.bk;refine byG λGq hGq=>?_;obtain⟨⟨oh,vh,hoh,hdh,hvh⟩,_,_⟩:=(show Av X.prog X.w H2 s2.heap a (L8 a) from J2.hok a _ hH2);refine hGq ?_;clear hGq Gq;refine byG λGq hGq=>?_;obtain⟨hp,g,d,tk,os⟩:=s2;refine hGq ?_;clear hGq Gq;simp only[hplain];refine qA (wpAny_keeperOf_exc hC2 ?_);refine qA (wpAny_call_exc_subT (hrest:=by show us.length<=sizeLine;rw[<-r.length];exact z) FB T2 hC2 hN2 hni λh' e' hm=>qA (qJ (wpAny_point (qB ?_))));refine byG λGq hGq=>?_;obtain⟨t',ht,_,_⟩:=hm.there;refine hGq ?_;clear hGq Gq
  have nea:e'≠a:=λq=>by have y:=hm.new;rw[q]at y;exact qE (y.symm.trans hoh) (by simp)
  refine⟨e',t',rfl,hm.keeps _ _ hC2,ht,nea,⟨oh,vh,hm.keeps _ _ hoh,hdh,hvh⟩,λh'' sb he'=>?_⟩;refine hpo (.ref a) _ _ (hfl ad σ0 H2 ⟨hp,g,d,tk,os⟩ h'' e' (.ref t') _ _ J2 (λb o q=>(sb.2 b λy=>?_).trans (hm.keeps b o q)) hm.new he' rfl rfl hE);rw[y]at q;exact qE (hm.new.symm.trans q) (by simp)
end
noncomputable def Ho(X:Cx)(s2:qN)(H2:Hp)(env:Env)(fp:List qM)(N:List Str):Cx:={X with N:=N,s₀:=s2,H₀:=H2,env:=env,outer:=X.stack,ex:=fp,fn:=λ_=>false,pn:=[],xe:=λ_ _=>False}
theorem SX{s2:qN}{H2:Hp}{env:Env}{N:List Str}:(Ho X s2 H2 env fp N).K=X.K:=rfl
noncomputable def Jf(env:Env):List (Str×qM)->Prop
 |[]=>True
 | (y,c)::r=>env.cells.lookup y=some c/\Jf env r
theorem Jf.at'{env:Env}:∀{cl:List (Str×qM)},Jf env cl->∀{y:Str} {c:qM},cl.lookup y=some c->env.cells.lookup y=some c
 |[],_,_,_,h=>by cases h
 | (z,d)::r,⟨h1,h2⟩,y,c,h=>by
  rw[Z4]at h;cases e:y==z with
  |true =>
   rw[e]at h;cases h;rw[eq_of_beq e];exact h1
  |false =>
   rw[e]at h;exact h2.at' h
noncomputable def X8:Option NameKind->Bool
 |some .cell=>true
 |some .free=>true
 |_=>false
theorem TW{k:Option NameKind}(h:X8 k=true):k=some .cell\/k=some .free:=by
 unfold X8 at h
 split at h
 ·exact .inl rfl
 ·exact .inr rfl
 ·cases h
noncomputable def Kx(X:Cx)(scope:Scope)(cl:List (Str×qM)):List (Nat×Str)->Prop
 |[]=>True
 | (j,y)::r=>(X.N[j]?=some y/\X8 (X.env.scope.names.lookup y)=true/\(relabel scope X.env).names.lookup y=X.env.scope.names.lookup y/\(cl.lookup y).isSome=true)/\Kx X scope cl r
theorem Kx.at'{cl:List (Str×qM)}:∀{fv:List (Nat×Str)},Kx X scope cl fv->∀q∈fv,X.N[q.1]?=some q.2/\X8 (X.env.scope.names.lookup q.2)=true/\(relabel scope X.env).names.lookup q.2=X.env.scope.names.lookup q.2/\(cl.lookup q.2).isSome=true
 |[],_,q,h=>by cases h
 | (j,y)::r,⟨h1,h2⟩,q,h=>(Zd.mp h).elim (λe=>by rw[e];exact h1) λz=>h2.at' q z
noncomputable def Ol(σ:St)(fv:List (Nat×Str)):List (Option V):=fv.map λq=>(σ[q.1]?).join
def PF(X:Cx)(ifs:List Expr)(t:TT):Prop:=∀(ad:List (qM×Obj)) (s:qN) (σ:St) (H:Hp) (Q:Bool->Hp->Prop),AW X ad σ H s->t σ H Q ->
 wpAny (model X.prog X.w) X.A (forIn ifs true λc r=>if r=true then do let ok <-isTrue c X.env (eval c X.env);pure (ForInStep.yield ok) else pure (ForInStep.yield r)) (TP X ad σ Q) X.xe s
def Vw:TT:=λ_ H Q=>Q true H
theorem B5:PF X [] Vw:=λad s σ H Q I h=>qB ⟨H,I,h⟩
theorem Pd{c:Expr}{t:TT}(h:PT X c t):PF X [c] t:=λad s σ H Q I q=>by simp only[List.forIn_cons,List.forIn_nil,if_true];exact qA (qA (A9 (h ad s σ H Q I q) λb s1 z=>qB (qB z)))
def C9(J:It)(tt:TT)(te:TE)(σf:List (Option V))(D:qM)(Q:VK)(H:Hp):Prop:=∃W:Nat->Nat->List V->Hp->Prop,(∃n,W n 0 [] (Am H D (.lst [])))/\∀n i c9 H2,W n i c9 H2 ->
 (J.stop i H2/\Q (.ref D) H2)\/(J.go i H2/\∃N:List V->Hp->Prop,(∀l H',N l H'->∃n',n'<n/\W n' (i+1) l H')/\∀v H3,J.yld i H2 v H3->tt (some v::σf) H3 λb H4 =>
  if b=true then te (some v::σf) H4 λy H5=>H5 D=some (.lst c9)/\c9.length<sizeLine/\N (c9++[y]) (Am H5 D (.lst (c9++[y]))) else N c9 H4)
def Pe(wi:TI)(fv:List (Nat×Str))(tt:TT)(te:TE):TE:=λσ H Q=>wi σ H λJ H1=>∀D,H1 D=none->C9 J tt te (Ol σ fv) D Q H1
section
variable{X:Cx}{x:Str}{px pos:Pos}{elt iter:Expr}{ifs:List Expr}{scope:Scope}{cl:List (Str×qM)}{fv:List (Nat×Str)}{wi:TI}{tt:TT}{te:TE}
 {ad:List (qM×Obj)} {σ:St} {H2:Hp} {s2:qN} {fp:List qM} {it:qM} {tn:Nat->Heap->Prop} {J:It}
theorem TX{N:List Str}(I2:AW X ad σ H2 s2)(f2:∀b∈fp,F9 X ad H2 b)(o2:∀b∈fp,∃o,s2.heap.get? b=some o/\∀v,o.data≠.cell v)(hC:s2.heap.objs.size<=C)(hk:scope.kind=.function)(hcl:Jf X.env cl)
  (hhas:((relabel scope X.env).names.all λz=>!(z.2==.cell||z.2==.free)||(cl.lookup z.1).isSome)=true):(Ho X s2 H2 (compEnvC scope cl C X.env) fp N).Ok where
 mod:=I2.ok.mod
 kind:=hk
 glob:=I2.ok.glob
 blt:=I2.ok.blt
 above:=hC
 inj:=λx y c h1 h2=>I2.ok.inj x y c (hcl.at' h1) (hcl.at' h2)
 has:=λy h=>by
  have key:∀k:NameKind,(relabel scope X.env).names.lookup y=some k->(k==.cell||k==.free)=true->∃c,cl.lookup y=some c:=λk hl hk=>by
   have mem:(y,k)∈(relabel scope X.env).names:=by
    generalize (relabel scope X.env).names=l at hl
    induction l with
    |nil=>cases hl
    |cons q r ih =>
     rw[Z4]at hl;cases e:y==q.1 with
     |true =>
      rw[e]at hl;cases hl;rw[eq_of_beq e];exact ZZ
     |false =>
      rw[e]at hl;exact ZS _ (ih hl)
   have z:=Zi.mp hhas _ mem;simp only[hk,Bool.not_true,Bool.false_or]at z;exact bS.mp z
  rcases h with h|h
  ·exact key _ h rfl
  ·exact key _ h rfl
 cab:=λ_ _ h=>nomatch h
 hd:=I2.ok.hd
 frames:=I2.ok.frames
 stk:=.inl rfl
 exf:=λb hb=>by obtain⟨o,e,_⟩:=o2 b hb;exact⟨Zj (ZV (ZO e) hC),λy c h=>(f2 b hb).2.2.2.2.1 y c (hcl.at' h)⟩
 bs:=λb o e=>I2.bs b o e
 bsz:=Zl I2.ok.bsz I2.sz
 noex:=λb o e hb=>by
  obtain⟨_,_,_,h,_⟩:=f2 b hb;rcases h with h|h
  ·exact I2.ok.noex b o e h
  ·exact qE (ZV (ZO e) (Zl I2.ok.bsz h)) (Zn _)
 exfs:=λb hb z=>(Zd.mp (I2.stkSub b z)).elim (f2 b hb).2.1 (f2 b hb).2.2.1
 funs:=I2.stack
 frf:=I2.stkFree
theorem Ky{env:Env}{N:List Str}{σ':St}{pl:List (qM×Obj)}(I2:AW X ad σ H2 s2)(f2:∀b∈fp,F9 X ad H2 b)(Ib:AW (Ho X s2 H2 env fp N) pl σ' H' s'):AW X ad σ H' s':=
 I2.call' (ch:=fp) Ib.os Ib.base Ib.hok Ib.bare λb hb=>⟨(f2 b hb).2.2.2.1,(f2 b hb).2.1,(f2 b hb).2.2.2.2.1,(f2 b hb).2.2.2.2.2⟩
theorem TY{D:qM}{h1:Heap}{t1:Nat}(I2:AW X ad σ H2 s2)(f2:∀b∈fp,F9 X ad H2 b)(o2:∀b∈fp,∃o,s2.heap.get? b=some o/\∀v,o.data≠.cell v)(hD:s2.heap.objs.size<=D)(hC:s2.heap.objs.size<=C)(hDC:D≠C)
  (old:∀b o,s2.heap.get? b=some o->h1.get? b=some o) (hl:h1.PlainList D #[]) (hn:h1.Ns C (λ_=>none)) (hk:scope.kind=.function) (hcl:Jf X.env cl)
  (hhas:((relabel scope X.env).names.all λz=>!(z.2==.cell||z.2==.free)||(cl.lookup z.1).isSome)=true) (hfv:Kx X scope cl fv):
  AW (Ho X s2 H2 (compEnvC scope cl C X.env) fp (x::fv.map (·.2))) [] (none::Ol σ fv) (Am H2 D (.lst [])) {s2 with heap:=h1,toks:=t1} where
 ok:=TX I2 f2 o2 hC hk hcl hhas
 os:=rfl
 bare:=I2.bare
 base:=Un.laid old hD (I2.hok.fresh hD)
 loc:=by
  refine⟨_,hn,λi y v h1' h2' _=>?_⟩;cases i with
  |zero=>cases h2'
  |succ i =>
   have h1':(fv.map (·.2))[i]?=some y:=h1';have h2':(Ol σ fv)[i]?=some (some v):=h2'
   obtain⟨q,hq,e1⟩:∃q,fv[i]?=some q/\q.2=y:=by rw[Zk]at h1';exact aw.mp h1'
   subst e1;refine byG λGq hGq=>?_;obtain⟨g1,g2,g3,g4⟩:=hfv.at' q (Zv hq);refine hGq ?_;clear hGq Gq;unfold Ol at h2';rw[Zk,hq]at h2';have e2:(σ[q.1]?).join=some v:=Option.some.inj h2'
   have e3:σ[q.1]?=some (some v):=by
    cases z:σ[q.1]? with
    |none=>rw[z]at e2;cases e2
    |some w=>rw[z]at e2;exact qK some e2
   obtain⟨m,_,lk⟩:=I2.loc;have g2:=TW g2;obtain⟨u,ru,lu⟩:=lk q.1 q.2 v g1 e3 (.inr g2);refine⟨u,ru,.inr ⟨g2.imp (λz=>g3.trans z) (λz=>g3.trans z),?_⟩⟩;obtain⟨c,hc⟩:=bS.mp g4;refine⟨c,hc,?_⟩;rcases lu with⟨kk,_⟩|⟨_,c',e',⟨o,eo,d⟩⟩
   ·rcases g2 with z|z<;>(rw[show X.env.kindOf q.2=_ from z]at kk;cases kk)
   ·have e4:=hcl.at' hc;rw[e']at e4;cases e4;exact⟨o,old c o eo,d⟩
 cell:=λy c h=>by refine byG λGq hGq=>?_;obtain⟨v,o,eo,d⟩:=I2.cell y c (hcl.at' h);refine hGq ?_;clear hGq Gq;exact⟨v,o,old c o eo,d⟩
 free:=by show Am H2 D _ C=none;rw[AR (Ne.symm hDC)];exact I2.hok.fresh hC
 freeC:=λy c h=>by refine byG λGq hGq=>?_;obtain⟨v,o,eo,d⟩:=I2.cell y c (hcl.at' h);refine hGq ?_;clear hGq Gq;rw[AR (Zj (ZV (ZO eo) hD))];exact I2.freeC y c (hcl.at' h)
 pin:=λp hp=>nomatch hp
 hok:=I2.hok.laid old hD (by obtain⟨n,e⟩:=hl;exact⟨Nat.zero_le _,[],n,.nil,by simpa using e⟩)
 len:=by simp[Ol,Ho]
theorem M4{RR:qL->qM->Result->qN->Prop}{Q:VK}(hc:X.calm=true)(I2:AW X ad σ H2 s2)(T:JG X.prog X.w X.K (.Name x px) J fp it tn)(st2:tn 0 s2.heap)(f2:∀b∈fp,F9 X ad H2 b)
  (hcell:∀y∈scope.names,y.2≠.cell) (hk:scope.kind=.function) (hx:scope.names.lookup x=some .local) (hcl:Jf X.env cl) (hhas:((relabel scope X.env).names.all λz=>!(z.2==.cell||z.2==.free)||(cl.lookup z.1).isSome)=true) (hfv:Kx X scope cl fv) (hnd:(x::fv.map (·.2)).Nodup)
  (hf:∀s H C fp,PF (Ho X s H (compEnvC scope cl C X.env) fp (x::fv.map (·.2))) ifs tt) (he:∀s H C fp,PE (Ho X s H (compEnvC scope cl C X.env) fp (x::fv.map (·.2))) elt te)
  (hw:∀D,H2 D=none->C9 J tt te (Ol σ fv) D Q H2)
  (hRR:∀D C σ' H' s',s2.heap.objs.size<=C->AW (Ho X s2 H2 (compEnvC scope cl C X.env) fp (x::fv.map (·.2))) [] σ' H' s'->Q (.ref D) H'->RR (.ref D) C (.ok .next) s'):
  wpAny (model X.prog X.w) X.A (newList []) (λc9 s3=>wpAny (model X.prog X.w) X.A (newFunctionEnv scope X.env.globals cl [] X.env.qual none .none (some X.env)) (λcenv s4 =>
   codeAny (model X.prog X.w) X.A (.compStart (.ListComp elt [⟨.Name x px,iter,ifs,0⟩] scope pos) 0 (.ref it) c9 {cenv with scope:=relabel scope X.env}) (RR c9 cenv.locals) s4) E s3) E s2:=by
 refine wpAny_newObj_type (wpAny_newFunctionEnv hcell (by intro y hy;simp at hy) (λh1 hns hsb=>?_) hk);dsimp only at hns hsb⊢;generalize hH:s2.heap.push {cls:=.type "list",dict:=none,data:=.seq ([]:List qL).toArray}=HH at hns hsb⊢;have eC:HH.objs.size=s2.heap.objs.size+1:=by rw[<-hH,aC]
 have hDC:s2.heap.objs.size≠HH.objs.size:=by rw[eC];exact Zj (ag _)
 have hC:s2.heap.objs.size<=HH.objs.size:=by rw[eC];exact bA _
 have old:∀b o,s2.heap.get? b=some o->h1.get? b=some o:=λb o e=>hsb.extBut b o (by rw[eC];exact Zj (aa (ZO e))) (ZN _ (hH▸ZN _ e))
 have hacc:h1.PlainList s2.heap.objs.size #[]:=⟨_,hsb.extBut _ _ hDC (ZN _ (hH▸ZU _ rfl))⟩;have o2:=T.obj _ _ st2;refine byG λGq hGq=>?_;obtain⟨W,⟨n0,w0⟩,turn⟩:=hw s2.heap.objs.size (I2.hok.fresh (ZR _));refine hGq ?_;clear hGq Gq;generalize eD:s2.heap.objs.size=D at *;generalize eCC:HH.objs.size=C at *;have Ib:=TY (x:=x) (t1:=s2.toks+([]:List (Str×qL)).length) I2 f2 o2 (by rw[eD];exact ZR _) (by rw[eD];exact hC) hDC old hacc hns hk hcl hhas hfv;have st1:tn 0 h1:=T.keep _ _ _ st2 λb _ o e=>old b o e
 have nD:∀b∈fp,b≠D:=λb hb=>by obtain⟨o,e,_⟩:=o2 b hb;rw[<-eD];exact Zj (ZO e)
 have fr1:∀b∈fp,Am H2 D (.lst []) b=none:=λb hb=>by rw[AR (nD b hb)];exact (f2 b hb).1
 have hxl:(relabel scope X.env).names.lookup x=some .local:=lookup_relabel_local hx
 have stat:∀{H':Hp},(∀b∈fp,H' b=none)->∀b∈fp,F9 (Ho X s2 H2 (compEnvC scope cl C X.env) fp (x::fv.map (·.2))) [] H' b:=λhn b hb=>by obtain⟨o,e,_⟩:=o2 b hb;exact⟨hn b hb,λz=>qE (ZO e) (by rw[z,eD];exact Nat.not_lt.mpr hC),λz=>(Zd.mp (I2.stkSub b z)).elim (f2 b hb).2.1 (f2 b hb).2.2.1,.inl hb,λy c h=>(f2 b hb).2.2.2.2.1 y c (hcl.at' h),λq hq=>nomatch hq⟩
 have loop:codeAny (model X.prog X.w) X.A (.compLoop (.ListComp elt [⟨.Name x px,iter,ifs,0⟩] scope pos) 0 (.ref it) (.ref D) (compEnvC scope cl C X.env)) (RR (.ref D) C) {s2 with heap:=h1,toks:=s2.toks+([]:List (Str×qL)).length}:=by
  refine codeAny_compLoop_tests (λn s'=>∃i c9 σb H',AW (Ho X s2 H2 (compEnvC scope cl C X.env) fp (x::fv.map (·.2))) [] σb H' s'/\σb.tail=Ol σ fv/\tn i s'.heap/\(∀b∈fp,H' b=none)/\W n i c9 H') ?_ n0 ⟨0,[],_,_,Ib,rfl,st1,fr1,w0⟩;intro n s3 hRq;refine byG λGq hGq=>?_;obtain⟨i,c9,σ3,H3,I3,t3,st3,fr3,w3⟩:=hRq;refine hGq ?_;clear hGq Gq;rcases turn n i c9 H3 w3 with⟨stop,qn⟩|⟨go,NN,hNN,step⟩
  ·refine A9 (T.done (Ho X s2 H2 (compEnvC scope cl C X.env) fp (x::fv.map (·.2))) rfl rfl rfl hc i [] s3 σ3 H3 _ I3 (stat fr3) st3 stop) λr s4 q4=>?_;obtain⟨hr,I4⟩:=q4;subst hr;exact hRR D C σ3 H3 s4 hC I4 qn
  ·refine A9 (T.item (Ho X s2 H2 (compEnvC scope cl C X.env) fp (x::fv.map (·.2))) rfl rfl rfl hc i [] s3 σ3 H3 _ I3 (stat fr3) st3 go) λr s4 q4=>?_;obtain⟨u,hr,h4⟩:=q4;subst hr;refine (show wpAny _ _ (letOwnedTupleGo (.Name x px) (.ref it) u >>= λ_=>assign (.Name x px) (compEnvC scope cl C X.env) u) _ _ _ from qA (A9 h4 λ_ s5 q5=>?_));refine byG λGq hGq=>?_;obtain⟨v,H5,I5,r5,y5,st5,fr5⟩:=q5;refine hGq ?_;clear hGq Gq;have I5':=I5.pinned (stat fr5) (T.obj _ _ st5);have again:∀{σ7:St} {H7:Hp} {s7:qN},AW (Ho X s2 H2 (compEnvC scope cl C X.env) fp (x::fv.map (·.2))) ([]++Gc fp s5.heap) σ7 H7 s7->tn (i+1) s7.heap/\∀b∈fp,H7 b=none:=λ{σ7 H7 s7} I7=>by refine⟨T.keep _ _ _ st5 λb hb o e=>(I7.pin (b,o) (Zy _ (Zy _ (DI hb e)))).1,λb hb=>?_⟩;obtain⟨o,e,d⟩:=T.obj _ _ st5 b hb;exact (I7.pin (b,o) (Zy _ (Zy _ (DI hb e)))).2.1
   have sσ:σ3.set 0 (some v)=some v::Ol σ fv:=by
    cases σ3 with
    |nil =>
     have z:=I3.len;simp[Ho]at z
    |cons a b =>
     have z:b=Ol σ fv:=t3;rw[z];rfl
   have g:=Mq (X:=Ho X s2 H2 (compEnvC scope cl C X.env) fp (x::fv.map (λq:Nat×Str=>q.2))) (pos:=px) (i:=0) (x:=x) hnd rfl (.inl hxl) (.inr hxl);refine wpAny_noRaise (A9 (g _ s5 σ3 H5 v u (λσ' H'=>σ'=some v::Ol σ fv/\H'=H5) I5' r5 ⟨sσ,rfl⟩) λ_ s6 q6=>?_);refine byG λGq hGq=>?_;obtain⟨σ6,H6,I6,rfl,rfl⟩:=q6;refine hGq ?_;clear hGq Gq;refine wpAny_noRaise (A9 (hf _ _ _ _ _ s6 _ _ _ I6 (step v _ y5)) λb s7 q7=>?_);obtain⟨H7,I7,q7⟩:=q7;cases b with
   |false =>
    rw[qC (by decide)]at q7⊢;obtain⟨n',hn',w7⟩:=hNN _ _ q7;exact⟨n',hn',i+1,c9,_,H7,I7.unpinned,rfl,(again I7).1,(again I7).2,w7⟩
   |true =>
    rw[qD rfl]at q7⊢;refine wpAny_noRaise (A9 (he _ _ _ _ _ s7 _ _ _ I7 q7) λyv s8 q8=>?_);refine byG λGq hGq=>?_;obtain⟨y,H8,I8,r8,e8,l8,q8⟩:=q8;refine hGq ?_;clear hGq Gq;obtain⟨n',hn',w8⟩:=hNN _ _ q8;refine wpAny_noRaise (A9 (IP (X:=Ho X s2 H2 (compEnvC scope cl C X.env) fp (x::fv.map (·.2))) _ s8 _ H8 (.ref D) [y] (.ref D) [yv] (λ_ H'=>H'=Am H8 D (.lst (c9++[y]))) I8 rfl (.cons r8 .nil) ⟨D,c9,y,rfl,rfl,e8,l8,rfl⟩) λ_ s9 q9=>?_);refine byG λGq hGq=>?_;obtain⟨_,H9,I9,_,rfl⟩:=q9;refine hGq ?_;clear hGq Gq;exact⟨n',hn',i+1,c9++[y],_,_,I9.unpinned,rfl,(again I9).1,(again I9).2,w8⟩
 exact codeAny_compStart_list loop (T.self X.A 0 _ _ _ st1 loop)
theorem AW.letGo(I2:AW X ad σ H2 s2){σ':St}(J:AW X ad σ' H' s')(hC:s2.heap.objs.size<=C)(hn:H' C=none)(sb:Heap.SameBut C s'.heap h'):AW X ad σ' H' {s' with heap:=h',toks:=s'.toks}:=
 J.turned (it:=C) (λb o hb e=>(sb.2 b hb).trans e) hn (aL (ZV I2.lt hC)) (.inr (Zl I2.sz hC)) (λy c e z=>by obtain⟨v,o,eo,d⟩:=I2.cell y c e;exact qE (ZV (ZO eo) (by rw[z];exact hC)) (Zn _)) λp hp z=>qE (ZV (ZO (I2.pin p hp).1) (by rw[z];exact hC)) (Zn _)
theorem RV(hc:X.calm=true)(hi:PI X (.Name x px) iter wi)(hclos:closureFor scope X.env=pure cl)(hcell:∀y∈scope.names,y.2≠.cell)(hk:scope.kind=.function)(hnames:∀z∈scope.names,z.2=.local->scope.names.lookup z.1=some .local)
  (hx:scope.names.lookup x=some .local) (hcl:Jf X.env cl) (hhas:((relabel scope X.env).names.all λz=>!(z.2==.cell||z.2==.free)||(cl.lookup z.1).isSome)=true) (hfv:Kx X scope cl fv) (hnd:(x::fv.map (·.2)).Nodup)
  (hf:∀s H C fp,PF (Ho X s H (compEnvC scope cl C X.env) fp (x::fv.map (·.2))) ifs tt) (he:∀s H C fp,PE (Ho X s H (compEnvC scope cl C X.env) fp (x::fv.map (·.2))) elt te)
  (hs:∀x,foldedSetIterable iter X.env x=pure x:=by intro _;rfl):PE X (.ListComp elt [⟨.Name x px,iter,ifs,0⟩] scope pos) (Pe wi fv tt te):=by
 intro ad s σ H Q I h;rw[eval_ListComp];refine wpAny_comprehension_free (use:=none) rfl hs hclos hk hnames (A9 (hi ad s σ H _ I h) λv s1 h1=>A9 h1 λitv s2 h2=>?_);refine byG λGq hGq=>?_;obtain⟨it,fp,tn,J,H2,e,I2,T,st2,f2,hw⟩:=h2;refine hGq ?_;clear hGq Gq;subst e;refine M4 (RR:=λc9 C=>compPost (model X.prog X.w) X.A X.xe none (EP X ad σ Q) c9 C) hc I2 T st2 f2 hcell hk hx hcl hhas hfv hnd hf he hw λD C σ' H' s' hC Ib q=>?_;obtain⟨m,hn,_⟩:=Ib.loc;exact⟨m,hn,λh' sb=>⟨.ref D,H',AW.letGo I2 (Ky I2 f2 Ib) hC Ib.free sb,rfl,q⟩⟩
theorem RX{y:Str}{iy:Nat}{py spos:Pos}(hc:X.calm=true)(hN:X.N.Nodup)(hy:X.N[iy]?=some y)(hyl:Sz X.env.scope y)(hi:PI X (.Name x px) iter wi)(hsw:swapsWith (.ListComp elt [⟨.Name x px,iter,ifs,0⟩] scope pos) (some (.Name y py)) spos.line X.env=pure true)
  (hclos:closureFor scope X.env=pure cl) (hcell:∀y∈scope.names,y.2≠.cell) (hk:scope.kind=.function) (hnames:∀z∈scope.names,z.2=.local->scope.names.lookup z.1=some .local)
  (hx:scope.names.lookup x=some .local) (hcl:Jf X.env cl) (hhas:((relabel scope X.env).names.all λz=>!(z.2==.cell||z.2==.free)||(cl.lookup z.1).isSome)=true) (hfv:Kx X scope cl fv) (hnd:(x::fv.map (·.2)).Nodup)
  (hf:∀s H C fp,PF (Ho X s H (compEnvC scope cl C X.env) fp (x::fv.map (·.2))) ifs tt) (he:∀s H C fp,PE (Ho X s H (compEnvC scope cl C X.env) fp (x::fv.map (·.2))) elt te)
  (hyf:X.fn y=true\/X.env.scope.names.lookup y=some .local:=by first|exact .inl rfl|exact .inr rfl) (hs:∀x,foldedSetIterable iter X.env x=pure x:=by intro _;rfl):
  PS X (.Assign [.Name y py] (.ListComp elt [⟨.Name x px,iter,ifs,0⟩] scope pos) spos) (On (Pe wi fv tt te) (Gb iy)):=by
 intro ad s σ H D h' h;have I:=h';rw[exec_Assign_Name_used _ _ _ _ hsw];refine qA (wpAny_standAt (qA ?_));show wpAny _ X.A (do let _ <-comprehension (.ListComp elt [⟨.Name x px,iter,ifs,0⟩] scope pos) scope X.env _ (newList []) false (eval iter X.env) (some (assign (.Name y py) X.env))) _ _ s;refine qA (qH (wpAny_comprehension_free (use:=some (assign (.Name y py) X.env)) (Q:=λ_ s'=>SP X ad D .next s') rfl hs hclos hk hnames (A9 (hi ad s σ H _ I h) λv s1 h1=>A9 h1 λitv s2 h2=>?_)) (λ_ s' hq=>qB (qB hq)) λ_ _ e=>e);obtain⟨it,fp,tn,J,H2,e,I2,T,st2,f2,hw⟩:=h2;subst e;refine M4 (Q:=λv H1=>Gb iy v σ H1 D.nx) (RR:=λc9 C=>compPost (model X.prog X.w) X.A X.xe (some (assign (.Name y py) X.env)) (λ_ s'=>SP X ad D .next s') c9 C) hc I2 T st2 f2 hcell hk hx hcl hhas hfv hnd hf he hw λD' C σ' H' s' hC Ib q=>?_;obtain⟨m,hn,_⟩:=Ib.loc;show wpAny _ X.A (assign (.Name y py) X.env (.ref D')) _ _ _;refine wpAny_assign_Name (IH (Ky I2 f2 Ib) hN hy hyl (v:=.ref D') rfl (λs3 I3 hsb=>?_) hyf);obtain⟨a,sb3,ha⟩:=hsb
 have nC:C≠a:=λz=>by
  rcases ha with e|e
  ·exact qE (ZV I2.lt hC) (by rw[z,e];exact Zn _)
  ·obtain⟨v,o,eo,d⟩:=I2.cell y a e;exact qE (ZV (ZO eo) (by rw[<-z];exact hC)) (Zn _)
 exact⟨m,hn.sameBut sb3 nC,λh'' sb=>⟨_,H',AW.letGo I2 I3 hC Ib.free sb,q⟩⟩
end
variable{tt:TT}{σf:List (Option V)}
theorem Bq{D:qM}{Q:VK}(Pv:Nat->List V->Hp->Prop)(h0:Pv 0 [] (Am H D (.lst [])))
  (hs:∀i c9 H2,i<n->Pv i c9 H2->tt (some (.int (lo+i))::σf) H2 λb H4=>if b=true then te (some (.int (lo+i))::σf) H4 λy H5=>H5 D=some (.lst c9)/\c9.length<sizeLine/\Pv (i+1) (c9++[y]) (Am H5 D (.lst (c9++[y]))) else Pv (i+1) c9 H4)
  (hd:∀c9 H2,Pv n c9 H2->Q (.ref D) H2):C9 (SE lo n) tt te σf D Q H:=by
 refine⟨λk i c9 H=>k=n-i/\i<=n/\Pv i c9 H,⟨n,by simp,Nat.zero_le _,h0⟩,?_⟩;rintro k i c9 H2 ⟨rfl,hi,p⟩
 by_cases hlt:i<n
 ·refine .inr ⟨hlt,Pv (i+1),λl H' p'=>⟨n-(i+1),by lia,rfl,hlt,p'⟩,λx H' y=>?_⟩;obtain⟨e,y⟩:=y;subst e y;exact hs i c9 _ hlt p
 ·have e:i=n:=by lia
  subst e;exact .inl ⟨ZR _,hd c9 H2 p⟩
theorem Dw{K:qQ}{D:qM}{Q:VK}(Pv:Nat->List V->Hp->Prop)(h0:Pv 0 [] (Am H D (.lst [])))(hl:∀i c9 H,i<=xs.length->Pv i c9 H->Ac K H a xs)
  (hs:∀i x c9 H2,xs[i]?=some x->Pv i c9 H2->tt (some x::σf) H2 λb H4=>if b=true then te (some x::σf) H4 λy H5=>H5 D=some (.lst c9)/\c9.length<sizeLine/\Pv (i+1) (c9++[y]) (Am H5 D (.lst (c9++[y]))) else Pv (i+1) c9 H4)
  (hd:∀c9 H2,Pv xs.length c9 H2->Q (.ref D) H2):C9 (U5 K a) tt te σf D Q H:=by
 refine⟨λk i c9 H=>k=xs.length-i/\i<=xs.length/\Pv i c9 H,⟨xs.length,by simp,Nat.zero_le _,h0⟩,?_⟩;rintro k i c9 H2 ⟨rfl,hi,p⟩;have q:=hl i c9 H2 hi p
 by_cases hlt:i<xs.length
 ·refine .inr ⟨⟨xs,xs[i],q,by simp[hlt]⟩,Pv (i+1),λl H' p'=>⟨xs.length-(i+1),by lia,rfl,hlt,p'⟩,λx H' y=>?_⟩;obtain⟨e,y⟩:=y;subst e;exact hs i x c9 _ (y xs q) p
 ·have e:i=xs.length:=by lia
  subst e;exact .inl ⟨⟨xs,q,ZR _⟩,hd c9 H2 p⟩
theorem Kz{K:qQ}{D:qM}{Q:VK}(Pv:Nat->List V->Hp->Prop)(h0:Pv 0 [] (Am H D (.lst [])))(hl:∀i c9 H,i<=xs.length->Pv i c9 H->Ao K H a xs)
  (hs:∀i x c9 H2,xs[i]?=some x->Pv i c9 H2->tt (some x::σf) H2 λb H4=>if b=true then te (some x::σf) H4 λy H5=>H5 D=some (.lst c9)/\c9.length<sizeLine/\Pv (i+1) (c9++[y]) (Am H5 D (.lst (c9++[y]))) else Pv (i+1) c9 H4)
  (hd:∀c9 H2,Pv xs.length c9 H2->Q (.ref D) H2):C9 (U6 K a) tt te σf D Q H:=by
 refine⟨λk i c9 H=>k=xs.length-i/\i<=xs.length/\Pv i c9 H,⟨xs.length,by simp,Nat.zero_le _,h0⟩,?_⟩;rintro k i c9 H2 ⟨rfl,hi,p⟩;have q:=hl i c9 H2 hi p
 by_cases hlt:i<xs.length
 ·refine .inr ⟨⟨xs,xs[i],q,by simp[hlt]⟩,Pv (i+1),λl H' p'=>⟨xs.length-(i+1),by lia,rfl,hlt,p'⟩,λx H' y=>?_⟩;obtain⟨e,y⟩:=y;subst e;exact hs i x c9 _ (y xs q) p
 ·have e:i=xs.length:=by lia
  subst e;exact .inl ⟨⟨xs,q,ZR _⟩,hd c9 H2 p⟩
theorem Go:CH X (.type "int") (λxs H Q=>∃i:Int,(xs=[.int i]\/∃b,xs=[.bl b]/\i=if b=true then 1 else 0)/\Q (.int i) H):=by
 intro ad s σ H xs us Q I r h;obtain⟨i,h,q⟩:=h;rcases h with rfl|⟨b,rfl,e⟩
 ·obtain⟨u,rfl,⟨t,rfl⟩⟩:=CQ r;exact call_int_int ⟨.int i,H,I,⟨t,rfl⟩,q⟩
 ·obtain⟨u,rfl,rx⟩:=CQ r;cases rx;subst e;exact call_int_bool ⟨.int _,H,I.tok _,⟨_,rfl⟩,q⟩
theorem Fw:∀(ns:qR) (k:Nat),k<=ns.length->preSum (λi=>ns.getD i 0) k=(ns.take k).sum
 |ns,0,_=>by simp[preSum]
 |ns,k+1,h=>by
  have e:ns.take (k+1)=ns.take k++[ns[k]]:=by rw[aE,ZP (by lia)];rfl
  rw[preSum,Fw ns k (by lia),e,List.sum_append,ZQ,ZP (by lia)];simp
theorem Dh(hc:X.calm=true):CH X (.builtin "sum") (λxs H Q=>∃(p:qM) (ns:qR),xs=[.ref p]/\Ac X.K H p (ns.map V.int)/\Q (.int ns.sum) H):=by
 intro ad s σ H xs us Q I r h;obtain⟨p,ns,rfl,hq,q⟩:=h;obtain⟨u,rfl,rx⟩:=CQ r;cases rx;obtain⟨its,rits,pl,hz⟩:=I.list hq;have hlen:=rits.length;rw[ZM]at hlen;have alt:p<s.heap.objs.size:=by obtain⟨o,e,_⟩:=pl.isList;exact ZO e
 refine call_sum_walkG (wpAny_pyIter_list pl.isList ?_);have up:∀b o,s.heap.get? b=some o->(s.heap.push {cls:=.type "list_iterator",data:=.fields #[.ref p,.int 0 0]}).get? b=some o:=λb o e=>ZN _ e
 refine⟨s.heap.objs.size,[s.heap.objs.size,p],[s.heap.objs.size],its.toArray.size,_,_,λi=>ns.getD i 0,rfl,Walks.list (A:=X.A.in1) (I.ok.hd hc) _ p (Zj alt) its.toArray,⟨⟨_,ZU _ rfl,rfl,rfl⟩,pl.isList.at λo e=>up p o e⟩,λb hb=>?_,λi v hv=>?_,λh' tk t' kk=>?_⟩
 ·show b<(s.heap.push _).objs.size;rw[aC];rcases Zd.mp hb with z|z
  ·rw[z];exact ag _
  ·rw[ZX.mp z];exact aa alt
 ·have hv':its[i]?=some v:=by simpa using hv
  have hi:=(ZW.mp hv').1;obtain⟨u2,hu2,ru2⟩:=rits.get (x:=.int (ns.getD i 0)) (i:=i) (by rw[Zk,ZP (by lia),ZQ,ZP (by lia)];rfl);rw[hv']at hu2;cases hu2;exact ru2
 ·refine⟨.int ns.sum,H,I.kept (t':=tk) λb o e=>kk b o (λz=>?_) (up b o e),⟨t',?_⟩,q⟩
  ·rw[ZX.mp z]at e;exact qE (ZO e) (Zn _)
  ·rw[Fw ns _ (by simp[<-hlen]),List.size_toArray,<-hlen,List.take_length]
structure Pf(K:qQ)(x qual:Str)(st:Stmt)(f:qM)(fd:FuncData)(dT:qM)(its:List qL):Prop where
 ex:∃(oc:qL) (od:Option qM) (kV doc pm:qL) (an:Option qM) (cb ct:qL) (osl:Array (Option qL)),
  fd=PySem.W.fnOf x qual (CT st) (BI st) (AG st) (.ref dT) kV doc pm an cb ct/\K.lookup f=some ⟨oc,od,.func fd,osl⟩/\PySem.W.codeIn K cb qual=true
 df:∃(oc:qL) (od:Option qM) (n:Nat) (osl:Array (Option qL)),K.lookup dT=some ⟨oc,od,.seq its.toArray n,osl⟩
 kp:PySem.W.keepIn K (.ref f)=true
structure RY(P:qO)(w:qP)(K:qQ)(mg:Str->Option qL)(base:Heap)(k:Nat)(f:qM)(ps:List Str)(sp:Sp)(dvs:List V):Prop where
 ex:∃fd,C1 P w K mg base (Ea P w) k f fd ps sp/\Cr K fd ps []/\∃ds,Ag dvs ds/\Cr K fd ps ds
 kp:PySem.W.keepIn K (.ref f)=true
section
variable{P:qO}{w:qP}{K:qQ}{mg:Str->Option qL}{base:Heap}{f:qM}{N:List Str}{sp:Sp}{dvs:List V}
abbrev MB(x qual:Str)(st:Stmt)(ps:List Str)(dT:qM)(its ds:List qL)(n:Nat):Prop:=∀(kV doc pm:qL) (an:Option qM) (cb ct:qL) (us:List qL),us.length=n ->
 ∃c:Option (Array qL)->Sem (List (Str×qL)),bindArgs (PySem.W.fnOf x qual (CT st) (BI st) (AG st) (.ref dT) kV doc pm an cb ct) ⟨us,[]⟩=seqItems? (.ref dT) >>= c/\c (some its.toArray)=pure (ps.zip (us++ds))
theorem Pf.binds{dT:qM}{ds:List qL}(F:Pf K x qual st f fd dT its)(h:MB x qual st ps dT its ds n)(hn:n+ds.length=ps.length):Cr K fd ps ds:=by refine byG λGq hGq=>?_;obtain⟨⟨oc,od,kV,doc,pm,an,cb,ct,osl,rfl,lk,hcd⟩,⟨oc2,od2,n2,osl2,l2⟩,_⟩:=F;refine hGq ?_;clear hGq Gq;intro s us X hl;obtain⟨c,h1,h2⟩:=h kV doc pm an cb ct us (by rw[Zg]at hl;lia);exact BindsTo.of_defaults (T:=dT) rfl (X _ _ l2) rfl h1 h2
theorem RZ(D:∃fd dT,Pf K x qual st f fd dT its)(hv:Ag dvs its)(S:AJ N ps (AG st))(bd:∀dT,MB x qual st ps dT its [] ps.length)(hn:n+its.length=ps.length)(bd2:∀dT,MB x qual st ps dT its its n)(len:∀vs H Q E,sp vs H Q E->vs.length=ps.length)
  (hbody:∀(cb:qL) (A:Around) (outer:List Env) (s:qN) (H:Hp) (vs:List V) (Q:VK) (E:XK),BP k (A.deeper (envOfC qual (AG st) s.heap.objs.size f cb))->sp vs H Q E ->
   ∃t,F8 (Cc (Ea P w) P w K mg base N qual (AG st) f cb A outer s H E) (BI st) t/\t {nx:=λ_ H'=>Q .non H',rt:=Q} (CA N vs) H):RY P w K mg base (k+1) f ps sp dvs:=by
 obtain⟨fd,dT,F⟩:=D;have b1:=F.binds (bd dT) rfl;have b2:=F.binds (bd2 dT) hn;refine byG λGq hGq=>?_;obtain⟨⟨oc,od,kV,doc,pm,an,cb,ct,osl,rfl,lk,hcd⟩,_,kp⟩:=F;refine hGq ?_;clear hGq Gq;exact⟨⟨_,SL lk hcd S len λA outer s H vs Q E hr hsp=>hbody cb A outer s H vs Q E hr hsp,b1,its,hv,b2⟩,kp⟩
end
section
variable{f:qM}{sp:Sp}{dvs:List V}{E:St->XK}{p:Pos}{es:List Expr}{t:TA}
theorem Pg(G:RY X.prog X.w X.K X.mg X.base k f ps sp dvs)(hr:BP k X.A)(hg:Gl X x)(hm:X.mg x=some (.ref f))(hx:Bl (Ea X.prog X.w) X E)
  (ha:PA X (e::es) t) (hdb:(x==("__debug__":Str))=false:=by decide) (he:starEach (e::es) X.env=(false,eval e X.env)::starEach es X.env:=by rfl) (hpl:(backTo pos (starEach es X.env)).any (·.1)=false:=by rfl):
  PE X (.Call (.Name x p) (e::es) [] pos) (FU sp dvs E t):=by
 refine byG λGq hGq=>?_;obtain⟨⟨fd,F,_,ds,hv,b⟩,kp⟩:=G;refine hGq ?_;clear hGq Gq;exact Gj F hr hg hm kp b hv hx ha hdb he hpl
end
def M5(K:qQ)(x:Str)(st:Stmt)(f:qM)(i:Int):Prop:=(∃tk fd dT,Pf K x x st f fd dT [.int i tk])/\PySem.W.nsIn K mainGlobals x=some (some (.ref f))
theorem Ra{K:qQ}{f dT:qM}{i:Int}{tk:Tok}{oc2:qL}{od2:Option qM}{osl2:Array (Option qL)}{kV ct:qL}{n2:Nat}(a:PySem.W.nsIn K mainGlobals x=some (some (.ref f)))
  (l:K.lookup f=some ⟨oc,od,.func (PySem.W.fnOf x x (CT st) (BI st) (AG st) (.ref dT) kV doc pm an cb ct),osl⟩) (e:PySem.W.codeIn K cb x=true) (k:PySem.W.keepIn K (.ref f)=true) (d:K.lookup dT=some ⟨oc2,od2,.seq #[.int i tk] n2,osl2⟩):M5 K x st f i:=
 ⟨⟨tk,_,dT,⟨⟨oc,od,kV,doc,pm,an,cb,ct,osl,rfl,l,e⟩,⟨oc2,od2,n2,osl2,d⟩,k⟩⟩,a⟩
section
variable{prog:qO}{w:qP}{A:Around}
theorem GA{t:qM}{items}{x:qL}(hit:s.heap.IsTupleIter it t i)(ht:s.heap.IsTuple t items)(hx:items[i]?=some x)
  (hQ:∀h',h'.IsTupleIter it t (i+1)->Heap.SameBut it s.heap h'->Q x {s with heap:=h'}):wpAny (model prog w) A (Builtin.SmallTypes.nextOf (.ref it)) Q E s:=by
 refine byG λGq hGq=>?_;obtain⟨o,ho,hc,hd⟩:=id hit;refine hGq ?_;clear hGq Gq;refine byG λGq hGq=>?_;obtain⟨ol,hol,_,nl,hdl⟩:=ht;refine hGq ?_;clear hGq Gq;unfold Builtin.SmallTypes.nextOf;refine qA (wpAny_callSpecial?_slot (name:=Str.ofString "__next__") hit.typeIs F.slot_tuple_iterator_next (wpAny_call_entry F.slot_tuple_iterator_next hit.typeIs F.entry_tuple_iterator_next ?_ (F.args_tuple_iterator_next_1 _)))
 (show wpAny _ _ (field (.ref it) 0 >>= _) _ _ s);refine qA (wpAny_field ho hd (x:=.ref t) rfl ?_)
 (show wpAny _ _ (if (Value.ref t==Value.none)=true then _ else _) _ _ s);rw[qC (show ¬((Value.ref t==Value.none)=true) from ZY)]
 (show wpAny _ _ (field (.ref it) 1 >>= _) _ _ s);refine qA (wpAny_field ho hd (x:=.int i 0) rfl ?_)
 (show wpAny _ _ (seqItems? (.ref t) >>= _) _ _ s);refine qA (wpAny_seqItems hol hdl ?_)
 simp only[Int.toNat_natCast,hx];refine qA (wpAny_setField ho hd (by simp) (qB ⟨x,rfl,qB (hQ _ ⟨_,Heap.get?_update_self _ ho (Obj.isFreed_of_fields (Obj.data_mapFields hd _)),(Obj.cls_mapFields ..).trans hc,by rw[Obj.data_mapFields hd];simp[rawInt]⟩ (Heap.SameBut.update ..))⟩))
theorem Di{t:qM}{items}(hh:A.handled=none)(hit:s.heap.IsTupleIter it t i)(ht:s.heap.IsTuple t items)(hx:items[i]?=none)
  (hE:∀h' e,Heap.ExtBut it s.heap h'->(∃o,h'.get? e=some o/\o.cls=.type "StopIteration")->E (.ref e) {s with heap:=h'}):wpAny (model prog w) A (Builtin.SmallTypes.nextOf (.ref it)) Q E s:=by
 refine byG λGq hGq=>?_;obtain⟨o,ho,hc,hd⟩:=id hit;refine hGq ?_;clear hGq Gq;refine byG λGq hGq=>?_;obtain⟨ol,hol,_,nl,hdl⟩:=ht;refine hGq ?_;clear hGq Gq;unfold Builtin.SmallTypes.nextOf;refine qA (wpAny_callSpecial?_slot (name:=Str.ofString "__next__") hit.typeIs F.slot_tuple_iterator_next (wpAny_call_entry F.slot_tuple_iterator_next hit.typeIs F.entry_tuple_iterator_next ?_ (F.args_tuple_iterator_next_1 _)))
 (show wpAny _ _ (field (.ref it) 0 >>= _) _ _ s);refine qA (wpAny_field ho hd (x:=.ref t) rfl ?_)
 (show wpAny _ _ (if (Value.ref t==Value.none)=true then _ else _) _ _ s);rw[qC (show ¬((Value.ref t==Value.none)=true) from ZY)]
 (show wpAny _ _ (field (.ref it) 1 >>= _) _ _ s);refine qA (wpAny_field ho hd (x:=.int i 0) rfl ?_)
 (show wpAny _ _ (seqItems? (.ref t) >>= _) _ _ s);refine qA (wpAny_seqItems hol hdl ?_)
 simp only[Int.toNat_natCast,hx];refine qA (wpAny_rule (qA (wpAny_setField ho hd (by simp) ?_)));show wpAny _ _ (newExc (.type "StopIteration") [] >>= _) _ _ _;refine qA ?_;simp only[newExc,newTuple];refine qA (wpAny_newObj_type ?_ (by size_fits));refine qA (m:=firstArgMember _ _) (wpAny_of_eq (a:=Value.none) (by first|rfl|(simp only[firstArgMember];rfl)) ?_);refine wpAny_newObj_type ?_ (by size_fits);unfold raiseNew;refine qA (wpAny_handled ?_);(first|rw[show A.in1.handled=none from hh]|rw[hh]);refine qA (qB (wpAny_throw ?_));exact (hE _ _ (((Heap.SameBut.update ..).extBut.push _).push _) ⟨_,ZU _ rfl,rfl⟩)
theorem OF(hh:A.handled=none)(it t:qM)(hne:t≠it)(items:Array qL):Draws prog w A it [it,t] items.size (λi v=>items[i]?=some v) (λi h=>h.IsTupleIter it t i/\h.IsTuple t items) where
 live:=λ_ _ ⟨⟨o,ho,_⟩,_⟩=>⟨o,ho⟩
 frame:=λ_ _ _ ⟨st,o,ho,r⟩ hk=>⟨st.at λo e=>hk it (by simp) o e,o,hk t (by simp) o ho,r⟩
 item:=λi s Q E hi st hQ=>GA st.1 st.2 (x:=items[i]) (by simp[hi]) λh' hit' hs'=>hQ _ h' s.toks (by simp[hi]) ⟨hit',st.2.extBut hs'.extBut hne⟩ hs'
 done:=λs Q E st hE=>Di hh st.1 st.2 (by simp) hE
theorem Ph{a:α}{Q:α->qN->Prop}(h:∀b,Q b s):wpAny (model prog w) A (pure a) Q E s:=qB (h a)
open AutoSeq1 (wpAny_loadPart') in
theorem K0(l:qM)(items:Array qL)(n:Nat)(dct:Option qM)(sl:Array (Option qL)):
  Meets (Builtin.«enumerate.__new__» ⟨[.type "enumerate",.ref l],[]⟩) (λ_ R s=>s.heap.get? l=some {cls:=.type "tuple",dict:=dct,data:=.seq items n,slots:=sl} /\
   R (.ok (.ret (.ref (s.heap.push {cls:=.type "tuple_iterator",data:=.fields #[.ref l,.int 0 0]}).objs.size)))
    {s with heap:=(s.heap.push {cls:=.type "tuple_iterator",data:=.fields #[.ref l,.int 0 0]}).push {cls:=.type "enumerate",data:=.fields #[.none,.bool false,.ref s.heap.objs.size,rawInt 0,.none,.none]}}):=
 .of_wp λprog w A R s h=>by
  obtain⟨hp,g,d,tk,os⟩:=s;obtain⟨hl,h⟩:=h;have hsub:=sub_enumerate;have hL:Heap.IsTuple (Shared.heap ⟨hp,g,d,tk,os⟩) l items:=⟨_,hl,rfl,n,rfl⟩
  wp_walk using wpAny_loadPart' hl
  refine wpAny_stack_any λst=>Ph λb=>?_
  cases b<;>(wp_walk using wpAny_loadPart' hl,wpAny_pyIter_tuple hL)<;>exact⟨_,rfl,h⟩
theorem MC(hL:s.heap.IsTuple l items)
  (h:∀h',IsEnum h' (s.heap.objs.size+1) s.heap.objs.size 0 .none->h'.IsTupleIter s.heap.objs.size l 0->h'.objs.size=s.heap.objs.size+2->(∀b o,s.heap.get? b=some o->h'.get? b=some o)->Q (.ref (s.heap.objs.size+1)) {s with heap:=h'}):
  wpAny (model prog w) A (call (.type "enumerate") [.ref l]) Q E s:=by
 refine byG λGq hGq=>?_;obtain⟨⟨c,dct,dt,sl⟩,hl,hc,n,hd⟩:=hL;refine hGq ?_;clear hGq Gq;replace hc:c=.type "tuple":=hc;replace hd:dt=.seq items n:=hd;subst hc hd;refine callType_new F.called_enumerate (by decide) (F.typeCall_enumerate_1 _) (F.newCall_enumerate_1 _) (λobj=>F.args_object_init_2 obj _) F.entry_enumerate_new (K0 l items n dct sl) ⟨hl,?_⟩;have hz:(s.heap.push {cls:=.type "tuple_iterator",data:=.fields #[.ref l,.int 0 0]}).objs.size=s.heap.objs.size+1:=aC ..;show _/\_;rw[hz]
 have he:IsEnum ((s.heap.push {cls:=.type "tuple_iterator",data:=.fields #[.ref l,.int 0 0]}).push {cls:=.type "enumerate",data:=.fields #[.none,.bool false,.ref s.heap.objs.size,rawInt 0,.none,.none]}) (s.heap.objs.size+1) s.heap.objs.size 0 .none:=by have:=ZU (s.heap.push {cls:=.type "tuple_iterator",data:=.fields #[.ref l,.int 0 0]}) (o:={cls:=.type "enumerate",data:=.fields #[.none,.bool false,.ref s.heap.objs.size,rawInt 0,.none,.none]}) rfl;rw[hz]at this;exact this
 exact⟨⟨_,he,rfl⟩,h _ he ⟨_,ZN _ (ZU _ rfl),rfl,rfl⟩ (by rw[aC,hz]) λb o x=>ZN _ (ZN _ x)⟩
theorem FY{e t:qM}{old:qL}{Q:Option qL->qN->Prop}(hh:A.handled=none)(he:IsEnum s.heap e it i old)(hit:s.heap.IsTupleIter it t i)(ht:s.heap.IsTuple t items)(hx:items[i]?=none)
  (hQ:∀h',Heap.ExtBut it s.heap h'->Q none {s with heap:=h'}):wpAny (model prog w) A (pyNext (.ref e)) Q E s:=by
 have hT:s.TypeIs (.ref e) "enumerate":=⟨_,he,rfl⟩;unfold pyNext;refine qA (wpAny_attempt (wpAny_callSpecial?_slot (name:=Str.ofString "__next__") hT F.slot_enumerate_next (wpAny_call_entry F.slot_enumerate_next hT F.entry_enumerate_next ?_ (F.args_enumerate_next_1 _))))
 (show wpAny _ _ (field (.ref e) 2 >>= _) _ _ _);refine qA (wpAny_field he rfl (x:=.ref it) rfl ?_)
 refine qA (Di hh hit ht hx λh' x he' hx'=>?_);obtain⟨o,ho,hc⟩:=hx';exact qA (wpAny_isInstance (T:="StopIteration") (b:=true) ⟨o,ho,hc⟩ isSubtype_stop (qB (hQ _ he')))
end
noncomputable def Pi(K:qQ)(a:qM):It:=
 ⟨λi H=>∃xs x,Ao K H a xs/\xs[i]?=some x,λi H v H'=>∃p x,v=.ref p/\H p=none/\H'=Am H p (.tup [.int i,x])/\∀xs,Ao K H a xs->xs[i]?=some x,λi H=>∃xs,Ao K H a xs/\xs.length<=i⟩
theorem MD{P:qO}{w:qP}{K:qQ}{elts:List Expr}{ctx}{tpos:Pos}(a e it:qM)(hne:e≠it)(hna:a≠it)(hea:e≠a):
  JG P w K (.Tuple elts ctx tpos) (Pi K a) [e,it] e (λi h=>(∃old,IsEnum h e it ((i:Nat):Int) old)/\h.IsTupleIter it a i) where
 mem:=by simp
 obj:=λi h st b hb=>by
  refine byG λGq hGq=>?_;obtain⟨⟨old,q⟩,o,e1,c,d⟩:=st;refine hGq ?_;clear hGq Gq;rcases Zd.mp hb with z|z
  ·rw[z];exact⟨_,q,λv y=>by cases y⟩
  ·rw[ZX.mp z];exact⟨o,e1,λv y=>by rw[d]at y;cases y⟩
 keep:=λi h h' st k=>by obtain⟨⟨old,q⟩,li⟩:=st;exact⟨⟨old,k e (by simp) _ q⟩,li.at λo z=>k it (by simp) o z⟩
 item:=by
  intro X hP hw hK hc i ad s σ H E I hf st hg;subst hP hw hK;refine byG λGq hGq=>?_;obtain⟨xs,x,hq,hx⟩:=hg;refine hGq ?_;clear hGq Gq;refine byG λGq hGq=>?_;obtain⟨its,rv,p,hz⟩:=I.tuple hq;refine hGq ?_;clear hGq Gq;obtain⟨u,hu,ru⟩:=rv.get hx;obtain⟨⟨old,he⟩,li⟩:=st
  have hil:i<its.toArray.size:=by have:=(ZW.mp hu).1;simpa using this
  refine wpAny_pyNext_enum_itemD (OF (A:=X.A.in1) (show X.A.in1.handled=none from I.ok.hd hc) it a hna its.toArray) he ⟨li,show s.heap.IsTuple a its.toArray from p⟩ hil hne (by simp[hne,hea]) λy h1 tk hy out li1 ht hsz k1=>?_
  have ey:y=u:=by
   have e1:its.toArray[i]?=some u:=by simpa using hu
   rw[e1]at hy;exact (Option.some.inj hy).symm
  subst ey;refine⟨_,rfl,wpAny_letOwnedTupleGo_enum out λh2 he2 sb=>?_⟩;have k2:∀b o,b∉[e,it]->s.heap.get? b=some o->h2.get? b=some o:=λb o hb z=>(sb.2 b λy=>hb (by simp[y])).trans (k1 b o (λy=>hb (by simp[y])) (λy=>hb (by simp[y])) z)
  have hpe:s.heap.objs.size≠e:=aL (ZO he);have ht2:h2.get? s.heap.objs.size=some {cls:=.type "tuple",data:=.seq #[.int ((i:Nat):Int) tk,y]}:=(sb.2 _ hpe).trans ht;have hn:H s.heap.objs.size=none:=I.hok.fresh (ZR _);refine⟨.ref s.heap.objs.size,Am H s.heap.objs.size (.tup [.int ((i:Nat):Int),x]),I.turnedNew (h':=h2) (t':=tk+1) hf k2 (ZR _) ⟨by show 2<=sizeLine;decide,[.int ((i:Nat):Int) tk,y],.cons ⟨_,rfl⟩ (.cons ru .nil),⟨_,ht2,rfl,_,rfl⟩⟩,rfl,⟨_,x,rfl,hn,rfl,λys hy=>by rw[I.tuple_inj hy hq];exact hx⟩,⟨⟨y,?_⟩,?_⟩,λb hb=>?_⟩
  ·have ec:(((i+1:Nat)):Int)=((i:Nat):Int)+1:=by push_cast;rfl
   rw[ec];exact he2
  ·exact li1.1.at λo z=>(sb.2 it (Ne.symm hne)).trans z
  ·have b0:=(hf b hb).1;rw[AR λz=>?_]
   ·exact b0
   ·obtain⟨o,z1,_⟩:=id li;rcases Zd.mp hb with y|y
    ·exact hpe (z.symm.trans y)
    ·exact qE (ZO z1) (by rw[<-ZX.mp y,z];exact Zn _)
 done:=by intro X hP hw hK hc i ad s σ H E I hf st hg;subst hP hw hK;obtain⟨xs,hq,hx⟩:=hg;refine byG λGq hGq=>?_;obtain⟨its,rv,p,hz⟩:=I.tuple hq;refine hGq ?_;clear hGq Gq;obtain⟨⟨old,he⟩,li⟩:=st;refine byG λGq hGq=>?_;obtain⟨f0,f1,f2,f3,f4,f5⟩:=hf it (by simp);refine hGq ?_;clear hGq Gq;have hl:=rv.length;exact FY (I.ok.hd hc) he li p (by simp;lia) λh' eb=>⟨rfl,I.turned (t':=s.toks) (λb o hb e=>eb b o hb e) f0 f1 f3 f4 f5⟩
 self:=λ_ _ _ _ _ st h=>by obtain⟨⟨old,he⟩,_⟩:=st;exact wpAny_pyIter_enum he h
section
variable{elts:List Expr}{ctx}{tpos:Pos}
def TZ(K:qQ)(ta:TA):TI:=λσ H R=>ta σ H λvs H1=>∃a xs,vs=[.ref a]/\Ao K H1 a xs/\R (Pi K a) H1
theorem Pj{l:Expr}{p pos:Pos}(hg:Gl X "enumerate")(hm:X.mg "enumerate"=none)(ha:PA X [l] ta)(hs:starEach [l] X.env=[(false,eval l X.env)]:=by rfl):PI X (.Tuple elts ctx tpos) (.Call (.Name "enumerate" p) [l] [] pos) (TZ X.K ta):=by
 intro ad s σ H R I h;refine Call_ (CM I hg hm boot_enumerate (Zo (A9 (ha pos ad s σ H _ I h) λus s1 z9=>?_) hs rfl));obtain⟨vs,H1,I1,r1,q1⟩:=z9;refine byG λGq hGq=>?_;obtain⟨a,xs,e,hq,q⟩:=q1;refine hGq ?_;clear hGq Gq;subst e;cases r1 with
 |cons r rr =>
  cases rr;cases r;refine byG λGq hGq=>?_;obtain⟨its,rv,pl,hz⟩:=I1.tuple hq;refine hGq ?_;clear hGq Gq;have hal:a<s1.heap.objs.size:=by obtain⟨o,ho,_⟩:=id pl;exact ZO ho
  refine MC pl λh1 he li hsz k1=>?_;refine wpAny_pyIter_enum he ?_;have n1:H1 (s1.heap.objs.size+1)=none:=I1.hok.fresh (bA _);have n0:H1 s1.heap.objs.size=none:=I1.hok.fresh (ZR _);refine⟨s1.heap.objs.size+1,[s1.heap.objs.size+1,s1.heap.objs.size],_,_,H1,rfl,I1.kept (t':=s1.toks) k1,MD a _ _ (Nat.succ_ne_self _) (Zj hal) (aL (aa hal)),⟨⟨_,he⟩,li⟩,λb hb=>?_,q⟩;rcases Zd.mp hb with z|z
  ·rw[z];exact I1.fpOk (bA _) n1
  ·rw[ZX.mp z];exact I1.fpOk (ZR _) n0
theorem OG{K:qQ}{g:TG}{tb:TS}(Pv:Nat->St->Hp->Prop)(h0:Pv 0 σ H)(hl:∀i σ H,i<=xs.length->Pv i σ H->Ao K H a xs)
  (hs:∀i x p σ H,xs[i]?=some x->Pv i σ H->H p=none->g (.ref p) σ (Am H p (.tup [.int ((i:Nat):Int),x])) λσ2 H2=>tb {D with nx:=Pv (i+1),ct:=Pv (i+1),bk:=D.nx} σ2 H2) (hd:∀σ H,Pv xs.length σ H->D.nx σ H):
  ∃W:Nat->Nat->St->Hp->Prop,(∃m,W 0 m σ H)/\∀i m σ H,W i m σ H ->
   ((Pi K a).stop i H/\D.nx σ H)\/((Pi K a).go i H/\∃N:St->Hp->Prop,(∀σ' H',N σ' H'->∃m',m'<m/\W (i+1) m' σ' H')/\∀x H',(Pi K a).yld i H x H'->g x σ H' λσ2 H2=>tb {D with nx:=N,ct:=N,bk:=D.nx} σ2 H2):=by
 refine⟨λi m σ H=>m=xs.length-i/\i<=xs.length/\Pv i σ H,⟨xs.length,by simp,Nat.zero_le _,h0⟩,?_⟩;rintro i m σ H ⟨rfl,hi,p⟩;have q:=hl i σ H hi p
 by_cases hlt:i<xs.length
 ·refine .inr ⟨⟨xs,xs[i],q,by simp[hlt]⟩,Pv (i+1),λσ' H' p'=>⟨xs.length-(i+1),by lia,rfl,hlt,p'⟩,λv H' y=>?_⟩;refine byG λGq hGq=>?_;obtain⟨p2,x,e1,e2,e3,y⟩:=y;refine hGq ?_;clear hGq Gq;subst e1 e3;exact hs i x p2 σ H (y xs q) p e2
 ·have e:i=xs.length:=by lia
  subst e;exact .inl ⟨⟨xs,q,ZR _⟩,hd σ H p⟩
end
end L2
namespace RW
noncomputable def dr(g n:Int):Nat->Int
 |0=>n
 |i+1=>dr g n i/g
noncomputable def Bt(g n:Int):Nat->qR
 |0=>[]
 |i+1=>Bt g n i++[dr g n i%g]
theorem Bh(g n:Int):∀i,(Bt g n i).length=i
 |0=>rfl
 |i+1=>by rw[Bt,Zg,Bh g n i];rfl
theorem A1{g:Int}(hg:2<=g):∀m:Nat,0<g^m
 |0=>by rw[aM];decide
 |m+1=>by rw[Z2];exact Int.mul_pos (A1 hg m) (by lia)
theorem Pk{g:Int}(hg:2<=g)(n:Int):∀i:Nat,dr g n i=n/g^i
 |0=>by rw[dr,aM,Int.ediv_one]
 |i+1=>by rw[dr,Pk hg n i,Z2,Int.ediv_ediv_of_nonneg (ai (A1 hg i))]
theorem M6{g n:Int}(hg:2<=g)(hn:0<=n){m:Nat}(h:n<g^m):dr g n m=0:=by rw[Pk hg];exact bf hn h
theorem Ta{g n:Int}(hg:2<=g){m:Nat}(h:g^m<=n):0<dr g n m:=by
 rw[Pk hg];have h1:1*g^m<=n:=by rw[Int.one_mul];exact h
 have h2:=(Int.le_ediv_iff_mul_le (A1 hg m)).mpr h1;lia
end RW
namespace L2
open PySem
variable{C a b l p:qM}{H H' H1:Hp}{g lo:Int}{i j k n:Nat}{o:HO}{xs:List V}{y:V}{α:Type}
theorem BE(hg:2<=g){m:Nat}(h:m<=n):g^m<=g^n:=by obtain⟨k,rfl⟩:=Nat.exists_eq_add_of_le h;rw[Int.pow_add];have h1:=RW.A1 hg m;have h2:=RW.A1 hg k;have h3:=aU (show 1<=g^k by lia) (ai h1);lia
theorem ME(hg:2<=g){m:Nat}(h:m<n):g^m<g^n:=by have h1:=BE hg (show m+1<=n from h);rw[Z2]at h1;have h2:=RW.A1 hg m;have h3:=aU hg (ai h2);lia
theorem GL(hg:2<=g){m:Nat}(h:g^m=g^n):m=n:=by
 rcases Nat.lt_trichotomy m n with z|z|z
 ·have:=ME hg z;lia
 ·exact z
 ·have:=ME hg z;lia
theorem IR(hg:2<=g):∀{rs:qR},(∀n∈rs,0<=n/\n<g)->0<=low g rs/\low g rs<g^rs.length
 |[],_=>⟨bi _,by show (0:Int)<g^0;rw[aM];decide⟩
 |x::r,h=>by
  obtain⟨h1,h2⟩:=IR hg (rs:=r) λn hn=>h n (ZS _ hn)
  obtain⟨h3,h4⟩:=h x ZZ;have h5:=Int.mul_nonneg (show 0<=g by lia) h1;have h6:=aU (show low g r+1<=g^r.length by lia) (show 0<=g by lia);rw[Int.mul_add,Int.mul_one]at h6;refine⟨by show 0<=x+g*low g r;lia,?_⟩;show x+g*low g r<g^(r.length+1);rw[Z2,aZ (g^r.length)];lia
theorem C3(hg:2<=g){ns:qR}(h:∀n∈ns,0<=n/\n<g):0<=BZ g ns/\BZ g ns<g^ns.length:=by rw[M3,<-aG];exact IR hg λn hn=>h n (bO.mp hn)
theorem Rb{zs:List V}{Q:VK}(h1:H l=some (.lst xs))(h2:H b=some (.lst zs))(hz:xs.length+zs.length<=1000)(q:∀p H',AI H H'->H p=none->H' p=some (.lst (xs++zs))->Q (.ref p) H'):VT (.ref l) (.ref b) H Q:=
 ⟨l,b,xs,zs,rfl,rfl,h1,h2,SR hz,λp hp=>q p _ (AI.new hp _) hp AE⟩
theorem FZ{K:qQ}{lo hi:Option Int}{Q:VK}(h:Ac K H a xs)(q:∀p H',AI H H'->H p=none->H' p=some (.lst (FT xs lo hi))->Q (.ref p) H'):VS K (.ref a) lo hi H Q:=
 ⟨a,xs,rfl,h,λp hp=>q p _ (AI.new hp _) hp AE⟩
theorem GM{x:V}{k:Int}{Q:VK}(h:H l=some (.lst [x]))(k0:0<=k)(k1:k<=1000)(q:∀p H',AI H H'->H p=none->H' p=some (.lst (List.replicate k.toNat x))->Q (.ref p) H'):VU (.ref l) (.int k) H Q:=
 ⟨l,k,[x],rfl,rfl,h,by lia,by lia,by rw[bB,Nat.one_mul];exact SR (by lia),λp hp=>q p _ (AI.new hp _) hp (by rw[AE,PQ])⟩
theorem Rc:FT xs none (some ((k:Nat):Int))=xs.take k:=by
 have e:HT.GG xs.length xs.length (some ((k:Nat):Int))=min k xs.length:=by show (if ((k:Nat):Int)<0 then (((k:Nat):Int)+(xs.length:Int)).toNat else min ((k:Nat):Int).toNat xs.length)=_;rw[qC (by lia),Zh]
 unfold FT;rw[e];show (xs.drop 0).take (min k xs.length-0)=_;rw[List.drop_zero,Nat.sub_zero]
 by_cases z:k<=xs.length
 ·rw[Nat.min_eq_left z]
 ·rw[Nat.min_eq_right (by lia),Zx,Zz (by lia)]
theorem Fa:FT xs (some ((k:Nat):Int)) none=xs.drop k:=by
 have e:HT.GG xs.length 0 (some ((k:Nat):Int))=min k xs.length:=by show (if ((k:Nat):Int)<0 then (((k:Nat):Int)+(xs.length:Int)).toNat else min ((k:Nat):Int).toNat xs.length)=_;rw[qC (by lia),Zh]
 unfold FT;rw[e];show (xs.drop (min k xs.length)).take (xs.length-min k xs.length)=_;rw[Zz (by rw[Z1];exact ZR _)]
 by_cases z:k<=xs.length
 ·rw[Nat.min_eq_left z]
 ·rw[Nat.min_eq_right (by lia),List.drop_length,List.drop_of_length_le (by lia)]
theorem Pl(hij:i<=j)(hj:j<=xs.length):FT xs (some ((i:Nat):Int)) (some ((j:Nat):Int))=(xs.drop i).take (j-i):=by
 have e1:HT.GG xs.length 0 (some ((i:Nat):Int))=i:=by show (if ((i:Nat):Int)<0 then (((i:Nat):Int)+(xs.length:Int)).toNat else min ((i:Nat):Int).toNat xs.length)=_;rw[qC (by lia),Zh];lia
 have e2:HT.GG xs.length xs.length (some ((j:Nat):Int))=j:=by show (if ((j:Nat):Int)<0 then (((j:Nat):Int)+(xs.length:Int)).toNat else min ((j:Nat):Int).toNat xs.length)=_;rw[qC (by lia),Zh];lia
 unfold FT;rw[e1,e2]
theorem N9.same{E:XK}(e:AI H H1)(h:N9 C i H E):N9 C i H1 E:=λH' dx e1 hd=>h H' dx (e.trans e1) hd
theorem D9{ns:qR}(h:k<ns.length):Fu (ns.map V.int) ((k:Nat):Int)=some (.int (ns.getD k 0)):=by refine Ct ?_;rw[Zk,ZP h,ZQ,ZP h];rfl
def Ak(H:Hp)(r:qM)(g lo:Int)(c5:qR):Prop:=∃tb,H r=some (.tup [.int g,.int lo,.ref tb])/\H tb=some (.tup (c5.map V.int))
variable{r:qM}{c5:qR}
theorem Ak.same(e:AI H H')(h:Ak H r g lo c5):Ak H' r g lo c5:=by obtain⟨tb,h1,h2⟩:=h;exact⟨tb,e _ _ h1,e _ _ h2⟩
inductive Cv(vs:List V)(H:Hp)(Q:VK)(z3_:XK):Prop
 |m (g n:Int):vs=[.int g,.int n]->2<=g->g<=9->(∀m:Nat,n=g^m->Q (.int ((m:Nat):Int)) H)->((∀m:Nat,n≠g^m)->Q (.int 0) H)->Cv vs H Q z3_
inductive CK(vs:List V)(H:Hp)(Q:VK)(z3_:XK):Prop
 |m (r:qM) (g lo:Int) (c5:qR) (m:Nat):vs=[.ref r]->2<=g->g<=9->Ak H r g lo c5->(c5.length:Int)=g^m->Q (.int ((m:Nat):Int)) H->CK vs H Q z3_
noncomputable def Dj(g:Int)(m:Nat)(xs:List V):Option Nat:=match BK g (xs.take m) with
 |some i=>some i
 |none=>if xs.length=m then none else some (min xs.length m)
inductive EI(K:qQ)(C:qM)(vs:List V)(H:Hp)(Q:VK)(E:XK):Prop
 |m (a:qM) (xs:List V) (g:Int) (m:Nat):vs=[.ref a,.int g,.int ((m:Nat):Int)]->Ac K H a xs->(∀x∈xs,Kd H x)->(match Dj g m xs with|none=>∀H',AI H H'->Q .non H'|some i=>N9 C i H E)->EI K C vs H Q E
inductive Jg(K:qQ)(C:qM)(vs:List V)(H:Hp)(Q:VK)(E:XK):Prop
 |m (r a:qM) (g lo:Int) (c5:qR) (m:Nat) (xs:List V):vs=[.ref r,.ref a]->2<=g->g<=9->Ak H r g lo c5->(c5.length:Int)=g^m->Ac K H a xs->(∀x∈xs,Kd H x)->(match Dj g m xs with|none=>∀ns:qR,xs=ns.map V.int->∀H',AI H H'->Q (.int (c5.getD (BZ g ns).toNat 0)) H'|some i=>N9 C i H E)->Jg K C vs H Q E
theorem K1{m:Nat}(h:Dj g m xs=none):xs.length=m/\BK g xs=none:=by
 unfold Dj at h;cases e:BK g (xs.take m) with
 |some i=>rw[e]at h;cases h
 |none =>
  rw[e]at h
  by_cases z:xs.length=m
  ·refine⟨z,?_⟩;rw[<-z,Zx]at e;exact e
  ·rw[qC z]at h;cases h
theorem Fx{ns:qR}(h:∀n∈ns,0<=n/\n<g):Dj g ns.length (ns.map V.int)=none:=by unfold Dj;have e:(ns.map V.int).take ns.length=ns.map V.int:=Zz (by rw[ZM];exact ZR _);rw[e,Bg h,ZM];exact qD rfl
noncomputable def Ce(x y:V):Bool:=(match x with
 |.int g=>decide (2<=g)&&decide (g<=9)
 |_=>false)&&M0 y
theorem Jh{x:V}(h:Ce x y=true):∃g lo:Int,x=.int g/\y=.int lo/\2<=g/\g<=9:=by
 unfold Ce at h;cases x with
 |int g =>
  cases y with
  |int lo =>
   simp only[M0,Bool.and_true,Bool.and_eq_true,decide_eq_true_eq]at h;exact⟨g,lo,rfl,rfl,h.1,h.2⟩
  |_=>simp[M0]at h
 |_=>simp at h
theorem EA(g2:2<=g)(g9:g<=9):Ce (.int g) (.int lo)=true:=by show ((decide (2<=g)&&decide (g<=9))&&true)=true;rw[qF g2,qF g9];rfl
inductive MF(C:qM)(vs:List V)(H:Hp)(Q:VK)(E:XK):Prop
 |m (x y:V):vs=[x,y]->Kd H x->Kd H y->(Ce x y=true->Q .non H)->(Ce x y=false->E (.ref C) none H)->MF C vs H Q E
def GB(H:Hp)(a:qM)(xs:List V):Prop:=H a=some (.lst xs)\/H a=some (.tup xs)
theorem GB.same(e:AI H H')(h:GB H a xs):GB H' a xs:=h.elim (λq=>.inl (e _ _ q)) λq=>.inr (e _ _ q)
theorem GB.inj{ys:List V}(h:GB H a xs)(h':GB H a ys):xs=ys:=by
 rcases h with h|h
 ·rcases h' with h'|h'
  ·rw[h]at h';cases h';rfl
  ·rw[h]at h';cases h'
 ·rcases h' with h'|h'
  ·rw[h]at h';cases h'
  ·rw[h]at h';cases h';rfl
theorem GB.sq{K:qQ}(h:GB H a xs):Ac K H a xs\/Ao K H a xs:=h.elim (λq=>.inl (Ac.of q)) λq=>.inr (Ao.of q)
noncomputable def SY(H:Hp):V->Prop
 |.ref a=>∃xs,GB H a xs/\∀x∈xs,Kd H x
 |.non=>True
 |.str _=>True
 |.int _=>True
 |.bl _=>True
 |_=>False
def Dk(g:Int)(xs:List V):Prop:=xs.length<=256/\(∃m:Nat,1<=m/\(xs.length:Int)=g^m)/\BK g xs=none
def GN(H:Hp)(g:Int)(z:V):Prop:=∃a xs,z=.ref a/\GB H a xs/\Dk g xs
inductive Ji(C:qM)(vs:List V)(H:Hp)(Q:VK)(E:XK):Prop
 |m (g:Int) (z:V):vs=[.int g,z]->2<=g->g<=9->SY H z->(GN H g z->∀H',AI H H'->Q .non H')->(¬GN H g z->∀H',AI H H'->E (.ref C) none H')->Ji C vs H Q E
def Pm(H:Hp)(x y z:V):Prop:=Ce x y=true/\∃g,x=.int g/\GN H g z
inductive EJ(C:qM)(vs:List V)(H:Hp)(Q:VK)(E:XK):Prop
 |m (x y z:V):vs=[x,y,z]->Kd H x->Kd H y->SY H z->(∀(g lo:Int) (c5:qR) (a:qM),x=.int g->y=.int lo->z=.ref a->GB H a (c5.map V.int)->2<=g->g<=9->Dk g (c5.map V.int)->(∀n∈c5,0<=n/\n<g)->∀r H',AI H H'->Ak H' r g lo c5->Q (.ref r) H')->(¬Pm H x y z->∀H',AI H H'->E (.ref C) none H')->EJ C vs H Q E
theorem M7(h:i<n):Le n ((i:Nat):Int)=some i:=by unfold Le;rw[qD (by lia),qD (by lia),Zh]
theorem Ak.dat{K:qQ}(h:Ak H r g lo c5):FW K H (.ref r) (.tuple [.int g,.int lo,.tuple (c5.map PyData.int)]):=by obtain⟨tb,h1,h2⟩:=h;exact .tup (Ao.of h1) (.cons (.int g) (.cons (.int lo) (.cons (.tup (Ao.of h2) (Kq c5)) .nil)))
theorem Es(g lo:Int)(c5:qR):(PyData.tuple [.int g,.int lo,.tuple (c5.map PyData.int)]).canLay0=true:=by simp only[PyData.canLay0,PyData.canLayAll0,Kr,Bool.and_self,Bool.true_and]
theorem Gp:∀ns:qR,PyData.depthAll (ns.map PyData.int)=0
 |[]=>by simp only[List.map_nil,PyData.depthAll]
 |n::ns=>by simp only[List.map_cons,PyData.depthAll,PyData.depth,Gp ns,Nat.max_self]
theorem Gr(g lo:Int)(c5:qR):(PyData.tuple [.int g,.int lo,.tuple (c5.map PyData.int)]).depth<=60:=by
 simp only[PyData.depth,PyData.depthAll,Gp]
 decide
def EK(H H':Hp)(r:qM)(ns:qR):Prop:=AI H H'/\H r=none/\H' r=some (.lst (ns.map V.int))
inductive Jj(NS:qM)(vs:List V)(H:Hp)(Q:VK)(E:XK):Prop
 |m (n g m:Int):vs=[.int n,.int g,.int m]->2<=g->g<=9->0<=m->m<=300->((n<0\/g^m.toNat<=n)->∀H',AI H H'->E (.ref NS) none H')->(0<=n->n<g^m.toNat->∀r H',EK H H' r (RW.Bt g n m.toNat).reverse->Q (.ref r) H')->Jj NS vs H Q E
inductive MG(vs:List V)(H:Hp)(Q:VK)(z3_:XK):Prop
 |m (g m:Int):vs=[.int g,.int m]->2<=g->g<=9->1<=m->(g^m.toNat<=256->Q (.int (g^m.toNat)) H)->(256<g^m.toNat->∀r:Int,256<r->Q (.int r) H)->MG vs H Q z3_
inductive EL(vs:List V)(H:Hp)(Q:VK)(z3_:XK):Prop
 |m (r:qM) (g lo:Int) (c5:qR):vs=[.ref r]->2<=g->g<=9->Ak H r g lo c5->(∀n∈c5,0<=n/\n<g)->(∀H',AI H H'->Q (.int (low g c5)) H')->EL vs H Q z3_
theorem M9(g n:Int):∀i:Nat,RW.dr g n (i+1)=RW.dr g (n/g) i
 |0=>rfl
 |i+1=>by rw[RW.dr,M9 g n i];rfl
theorem IS(g n:Int):∀i:Nat,RW.Bt g n (i+1)=n%g::RW.Bt g (n/g) i
 |0=>rfl
 |i+1=>by rw[RW.Bt,IS g n i,M9];rfl
theorem K2(hg:2<=g):∀{l:qR},(∀n∈l,0<=n/\n<g)->RW.Bt g (low g l) l.length=l
 |[],_=>rfl
 |x::r,h=>by obtain⟨h0,h1⟩:=h x ZZ;rw[Zb,IS,low,bH,bj h0 h1,Int.add_mul_ediv_left _ _ (show g≠0 by lia),bf h0 h1,Z0,K2 hg λn hn=>h n (ZS _ hn)]
theorem GO(hg:2<=g)(n:Int):∀i:Nat,∀x∈RW.Bt g n i,0<=x/\x<g
 |0,x,h=>qE h (by simp[RW.Bt])
 |i+1,x,h=>by
  rw[RW.Bt]at h;rcases aQ.mp h with z|z
  ·exact GO hg n i x z
  ·rw[ZX.mp z];exact⟨aR _ (by lia),aD _ (by lia)⟩
theorem Fy(g n:Int):∀i:Nat,low g (RW.Bt g n i)+g^i*RW.dr g n i=n
 |0=>by rw[RW.Bt,low,RW.dr,aM];lia
 |i+1=>by have h:=Fy g n i;have e:=Int.emod_add_mul_ediv (RW.dr g n i) g;rw[RW.Bt,Ko,RW.Bh,RW.dr,Z2,Int.mul_assoc,aZ (RW.dr g n i%g),Int.add_assoc,<-Int.mul_add,e];exact h
theorem Pn{n:Int}(hg:2<=g)(hn:0<=n)(h:n<g^i):low g (RW.Bt g n i)=n:=by have e:=Fy g n i;rw[RW.M6 hg hn h,Int.mul_zero,bT]at e;exact e
theorem AI.into(e:AI H H1)(hp:H p=none):AI H (Am H1 p o):=λb u q=>by rw[AR (Ah q hp)];exact e b u q
theorem Jk(g:Int):∀(n:Int) (l:qR),L7 g n l=n*g^l.length+BZ g l
 |n,[]=>by show n=n*g^0+0;rw[aM];lia
 |n,x::r=>by show L7 g (n*g+x) r=n*g^(r.length+1)+L7 g (0*g+x) r;rw[Jk g (n*g+x) r,Jk g (0*g+x) r,bC,Z0,Int.add_mul,Z2,Int.mul_assoc,aZ g,Int.add_assoc]
theorem Cf(g:Int)(a b:qR):BZ g (a++b)=BZ g a*g^b.length+BZ g b:=by show (a++b).foldl (λm x=>m*g+x) 0=_;rw[List.foldl_append];exact Jk g (L7 g 0 a) b
theorem Jl{ns:qR}{m:Nat}(h:k+m<=ns.length):((ns.drop k).take m).length=m:=by rw[Zt,Z1];lia
theorem Re(hg:2<=g){ns:qR}(hb:∀n∈ns,0<=n/\n<g){m:Nat}(h:k+m<=ns.length):BZ g (ns.take (k+m))%g^m=BZ g ((ns.drop k).take m):=by
 have b:=C3 hg (ns:=(ns.drop k).take m) λn hn=>hb n (aK (aW hn))
 rw[Jl h]at b;rw[List.take_add,Cf,Jl h,Int.add_comm,aZ,bH,bj b.1 b.2]
theorem Po(N g s G:Int):((N%G)*g+s)%G=(N*g+s)%G:=by rw[Int.add_emod,Int.mul_emod,Int.emod_emod,<-Int.mul_emod,<-Int.add_emod]
theorem CV(hg:2<=g)(hb:∀n∈c5,0<=n/\n<g)(k:Nat):0<=c5.getD k 0/\c5.getD k 0<g:=by
 rw[ZQ];cases e:c5[k]? with
 |none=>exact⟨bi _,by show (0:Int)<g;lia⟩
 |some v=>exact hb v (Zv e)
noncomputable def Rf(g:Int)(c5:qR)(m:Nat)(ns:qR)(k:Nat):Int:=c5.getD (BZ g ((ns.drop k).take m)).toNat 0
noncomputable def Fb(g:Int)(c5:qR)(m:Nat)(ns:qR):qR:=(List.range (ns.length+1-m)).map (Rf g c5 m ns)
theorem Pp(g:Int)(c5:qR)(m:Nat)(ns:qR):(Fb g c5 m ns).length=ns.length+1-m:=by unfold Fb;rw[List.length_map,List.length_range]
theorem Rg(hg:2<=g)(hb:∀n∈c5,0<=n/\n<g)(m:Nat)(ns:qR):∀n∈Fb g c5 m ns,0<=n/\n<g:=λn hn=>by unfold Fb at hn;obtain⟨k,_,rfl⟩:=Zs.mp hn;exact CV hg hb _
theorem As(f:Nat->α)(i:Nat):(List.range (i+1)).map f=(List.range i).map f++[f i]:=by rw[aS,Zf];rfl
theorem Pq(hg:2<=g){ns:qR}(hb:∀n∈ns,0<=n/\n<g){m:Nat}(hl:(c5.length:Int)=g^m)(h:k+m<=ns.length):0<=BZ g ((ns.drop k).take m)/\(BZ g ((ns.drop k).take m)).toNat<c5.length:=by
 have b:=C3 hg (ns:=(ns.drop k).take m) λn hn=>hb n (aK (aW hn))
 rw[Jl h]at b;exact⟨b.1,by lia⟩
variable{z:Int}
theorem Bm{ns:qR}(h0:0<=z)(h:z.toNat<ns.length):Fu (ns.map V.int) z=some (.int (ns.getD z.toNat 0)):=by have e:=D9 (ns:=ns) h;rw[show ((z.toNat:Nat):Int)=z by lia]at e;exact e
inductive Jm(K:qQ)(vs:List V)(H:Hp)(Q:VK)(z3_:XK):Prop
 |m (r a:qM) (g lo:Int) (c5:qR) (m:Nat) (ns:qR):vs=[.ref r,.ref a]->2<=g->g<=9->Ak H r g lo c5->(c5.length:Int)=g^m->1<=m->Ac K H a (ns.map V.int)->(∀n∈ns,0<=n/\n<g)->ns.length<=900->(∀p H',EK H H' p (Fb g c5 m ns)->Q (.ref p) H')->Jm K vs H Q z3_
inductive Pr(K:qQ)(C:qM)(vs:List V)(H:Hp)(Q:VK)(E:XK):Prop
 |m (r a:qM) (g lo:Int) (c5:qR) (m:Nat) (xs:List V):vs=[.ref r,.ref a]->2<=g->g<=9->Ak H r g lo c5->(c5.length:Int)=g^m->1<=m->Ac K H a xs->(∀x∈xs,Kd H x)->xs.length<=900->(match BK g xs with|none=>∀ns:qR,xs=ns.map V.int->∀p H',EK H H' p (Fb g c5 m ns)->Q (.ref p) H'|some i=>N9 C i H E)->Pr K C vs H Q E
noncomputable def Dl(ring:qR)(z:Int):Int:=ring.getD (z%(ring.length:Int)).toNat 0
noncomputable def Cg(ring:qR)(m:Nat)(z:Int):qR:=(List.range m).map λj:Nat=>Dl ring (z+(j:Int))
noncomputable def DA(g lo:Int)(c5:qR)(m:Nat)(ring:qR):qR:=(List.range ring.length).map λi:Nat=>c5.getD (BZ g (Cg ring m ((i:Int)+lo))).toNat 0
theorem IT(g lo:Int)(c5:qR)(m:Nat)(ring:qR):(DA g lo c5 m ring).length=ring.length:=by unfold DA;rw[List.length_map,List.length_range]
theorem K3(hg:2<=g)(lo:Int)(hb:∀n∈c5,0<=n/\n<g)(m:Nat)(ring:qR):∀n∈DA g lo c5 m ring,0<=n/\n<g:=λn hn=>by unfold DA at hn;obtain⟨k,_,rfl⟩:=Zs.mp hn;exact CV hg hb _
variable{ring:qR}
theorem Ps(hg:2<=g)(hb:∀n∈ring,0<=n/\n<g)(m:Nat)(z:Int):∀n∈Cg ring m z,0<=n/\n<g:=λn hn=>by unfold Cg at hn;obtain⟨k,_,rfl⟩:=Zs.mp hn;exact CV hg hb _
theorem OH(ring:qR)(m:Nat)(z:Int):(Cg ring m z).length=m:=by unfold Cg;rw[List.length_map,List.length_range]
theorem MH(ring:qR)(z y:Int):Dl ring (z%(ring.length:Int)+y)=Dl ring (z+y):=by unfold Dl;rw[Int.emod_add_emod]
noncomputable def Et(lo:Int)(m:Nat)(ring:qR):qR:=(List.range (ring.length+m-1)).map λk:Nat=>Dl ring (lo%(ring.length:Int)+(k:Int))
theorem Pt(hg:2<=g)(hb:∀n∈ring,0<=n/\n<g)(lo:Int)(m:Nat):∀n∈Et lo m ring,0<=n/\n<g:=λn hn=>by unfold Et at hn;obtain⟨k,_,rfl⟩:=Zs.mp hn;exact CV hg hb _
theorem GC(n k m:Nat)(h:k+m<=n):((List.range n).drop k).take m=(List.range m).map (k+·):=by
 apply bG;intro i;rw[List.getElem?_take,Zk]
 by_cases hi:i<m
 ·rw[qD hi,List.getElem?_drop,bR (by lia),bR hi];rfl
 ·rw[qC hi,Z9 (by rw[Zc];lia)];rfl
theorem OI(lo:Int){m:Nat}(ring:qR)(h:i<ring.length)(hm:1<=m):((Et lo m ring).drop i).take m=Cg ring m ((i:Int)+lo):=by
 unfold Et Cg;rw[<-bX,<-List.map_take,GC _ _ _ (by lia),bq];refine aA λj _=>?_;show Dl ring (lo%(ring.length:Int)+((i+j:Nat):Int))=_;rw[MH]
 congr 1
 lia
theorem OJ(g lo:Int)(c5:qR){m:Nat}(ring:qR)(hm:1<=m):Fb g c5 m (Et lo m ring)=DA g lo c5 m ring:=by
 unfold Fb DA
 have e:(Et lo m ring).length+1-m=ring.length:=by unfold Et;rw[List.length_map,List.length_range];lia
 rw[e];refine aA λi hi=>?_;have:=Z5.mp hi;unfold Rf;rw[OI lo ring this hm]
noncomputable def Gs(g lo:Int)(c5:qR)(m:Nat)(ring:qR):Nat->qR
 |0=>ring
 |n+1=>DA g lo c5 m (Gs g lo c5 m ring n)
theorem Fc(g lo:Int)(c5:qR)(m:Nat)(ring:qR):∀n,(Gs g lo c5 m ring n).length=ring.length
 |0=>rfl
 |n+1=>by rw[Gs,IT,Fc g lo c5 m ring n]
theorem Pu(hg:2<=g)(lo:Int)(hb:∀n∈c5,0<=n/\n<g)(m:Nat)(hr:∀n∈ring,0<=n/\n<g):∀k,∀n∈Gs g lo c5 m ring k,0<=n/\n<g
 |0=>hr
 |k+1=>K3 hg lo hb m _
inductive EM(K:qQ)(vs:List V)(H:Hp)(Q:VK)(z3_:XK):Prop
 |m (r a:qM) (g lo:Int) (c5:qR) (m:Nat) (ns:qR):vs=[.ref r,.ref a]->2<=g->g<=9->Ak H r g lo c5->(c5.length:Int)=g^m->1<=m->m<=8->Ac K H a (ns.map V.int)->(∀n∈ns,0<=n/\n<g)->1<=ns.length->ns.length<=800->(∀p H',EK H H' p (DA g lo c5 m ns)->Q (.ref p) H')->EM K vs H Q z3_
noncomputable def Bi(g:Int)(m:Nat)(xs:List V):Option Nat:=match BK g xs with
 |some i=>some i
 |none=>if xs.length<m then some xs.length else none
inductive DQ(K:qQ)(C:qM)(vs:List V)(H:Hp)(Q:VK)(E:XK):Prop
 |m (a:qM) (xs:List V) (g:Int) (m:Nat):vs=[.ref a,.int g,.int ((m:Nat):Int)]->Ac K H a xs->(∀x∈xs,Kd H x)->(match Bi g m xs with|none=>∀H',AI H H'->Q .non H'|some i=>N9 C i H E)->DQ K C vs H Q E
theorem Hz{m:Nat}{ns:qR}(h:∀n∈ns,0<=n/\n<g)(hm:m<=ns.length):Bi g m (ns.map V.int)=none:=by unfold Bi;rw[Bg h,ZM];exact qC (by lia)
theorem K4{m:Nat}(h:BK g xs=some i):Bi g m xs=some i:=by unfold Bi;rw[h]
theorem IA{m:Nat}(h:Bi g m xs=none):BK g xs=none/\m<=xs.length:=by
 unfold Bi at h;cases e:BK g xs with
 |some i=>rw[e]at h;cases h
 |none =>
  rw[e]at h;refine⟨rfl,?_⟩
  by_cases z:xs.length<m
  ·exact qE h (by show ¬(if xs.length<m then some xs.length else none)=none;rw[qD z];intro y;cases y)
  ·lia
inductive Jn(K:qQ)(C:qM)(vs:List V)(H:Hp)(Q:VK)(E:XK):Prop
 |m (r a:qM) (g lo:Int) (c5:qR) (m:Nat) (xs:List V) (t:Nat):vs=[.ref r,.ref a,.int ((t:Nat):Int)]->2<=g->g<=9->Ak H r g lo c5->(c5.length:Int)=g^m->1<=m->m<=8->(∀n∈c5,0<=n/\n<g)->Ac K H a xs->(∀x∈xs,Kd H x)->xs.length<=800->t<=5000->(match Bi g 1 xs with|none=>∀ns:qR,xs=ns.map V.int->∀p H',EK H H' p (Gs g lo c5 m ns t)->Q (.ref p) H'|some i=>N9 C i H E)->Jn K C vs H Q E
inductive Fd(K:qQ)(C:qM)(vs:List V)(H:Hp)(Q:VK)(E:XK):Prop
 |m (r a:qM) (g lo:Int) (c5:qR) (m:Nat) (xs:List V):vs=[.ref r,.ref a]->2<=g->g<=9->Ak H r g lo c5->(c5.length:Int)=g^m->1<=m->m<=8->(∀n∈c5,0<=n/\n<g)->Ac K H a xs->(∀x∈xs,Kd H x)->xs.length<=800->(match Bi g 1 xs with|none=>∀ns:qR,xs=ns.map V.int->∀p H',EK H H' p (DA g lo c5 m ns)->Q (.ref p) H'|some i=>N9 C i H E)->Fd K C vs H Q E
noncomputable def B6(g n:Int)(m:Nat):qR:=(RW.Bt g n m).reverse
theorem IU(g n:Int)(m:Nat):(B6 g n m).length=m:=by unfold B6;rw[List.length_reverse,RW.Bh]
theorem Gu(hg:2<=g)(n:Int)(m:Nat):∀x∈B6 g n m,0<=x/\x<g:=λx hx=>GO hg n m x (bO.mp hx)
theorem IV{n:Int}(hg:2<=g)(h0:0<=n){m:Nat}(h:n<g^m):BZ g (B6 g n m)=n:=by unfold B6;rw[Dv,Pn hg h0 h]
theorem OK(hg:2<=g){ws:qR}(hb:∀x∈ws,0<=x/\x<g):B6 g (BZ g ws) ws.length=ws:=by
 unfold B6;have e:=K2 hg (l:=ws.reverse) λn hn=>hb n (bO.mp hn)
 rw[aG]at e;rw[M3,e,bK]
noncomputable def Dm(g:Int)(c5:qR)(m:Nat):qR:=(List.range c5.length).map λk:Nat=>c5.getD (BZ g (RW.Bt g (k:Int) m)).toNat 0
theorem Fe(g:Int)(c5:qR)(m:Nat):(Dm g c5 m).length=c5.length:=by unfold Dm;rw[List.length_map,List.length_range]
theorem K6(hg:2<=g)(hb:∀n∈c5,0<=n/\n<g)(m:Nat):∀n∈Dm g c5 m,0<=n/\n<g:=λn hn=>by unfold Dm at hn;obtain⟨k,_,rfl⟩:=Zs.mp hn;exact CV hg hb _
theorem BF{f:Nat->Int}(h:k<n):((List.range n).map f).getD k 0=f k:=by rw[ZQ,Zk,bR h];rfl
theorem BL{a b:qR}(hl:a.length=b.length)(h:∀k,k<a.length->a.getD k 0=b.getD k 0):a=b:=by apply List.ext_getElem hl;intro i h1 h2;have:=h i h1;rw[ZQ,ZQ,ZP h1,ZP h2]at this;exact this
theorem NA(h:1<=n):(z%(n:Int)).toNat<n/\(((z%(n:Int)).toNat:Nat):Int)=z%(n:Int):=by have h1:=aR z (show (n:Int)≠0 by lia);have h2:=aD z (show 0<(n:Int) by lia);exact⟨by lia,by lia⟩
inductive Jo(vs:List V)(H:Hp)(Q:VK)(z3_:XK):Prop
 |m (n g m:Int):vs=[.int n,.int g,.int m]->2<=g->g<=9->0<=m->m<=100->(∀p H',EK H H' p (B6 g n m.toNat)->Q (.ref p) H')->Jo vs H Q z3_
noncomputable def BG(g:Int)(c5:qR)(w:Int):Bool:=(List.range c5.length).any λk:Nat=>!decide (c5.getD k 0=c5.getD ((k:Int)-(k:Int)/w%g*w).toNat 0)
noncomputable def Br(g lo:Int)(c5:qR)(m:Nat):qR:=((List.range m).filter λj=>BG g c5 (g^(m-1-j))).map λj:Nat=>lo+(j:Int)
inductive Gv(vs:List V)(H:Hp)(Q:VK)(z3_:XK):Prop
 |m (r:qM) (g lo:Int) (c5:qR) (w:Int):vs=[.ref r,.int w]->2<=g->g<=9->Ak H r g lo c5->0<w->w<=1000->c5.length<=256->(∀H',AI H H'->Q (.bl (BG g c5 w)) H')->Gv vs H Q z3_
inductive EN(vs:List V)(H:Hp)(Q:VK)(z3_:XK):Prop
 |m (r:qM) (g lo:Int) (c5:qR) (m:Nat):vs=[.ref r]->2<=g->g<=9->Ak H r g lo c5->(c5.length:Int)=g^m->1<=m->m<=8->g^m<=256->(∀p H',EK H H' p (Br g lo c5 m)->Q (.ref p) H')->EN vs H Q z3_
theorem Pw{k w:Int}(hk:0<=k)(hw:0<w)(hg:2<=g):0<=k-k/w%g*w/\k-k/w%g*w<=k:=by
 have h1:=aR (k/w) (show g≠0 by lia);have h2:=Int.ediv_nonneg hk (ai hw)
 have h3:k/w%g<=k/w:=by
  by_cases z:k/w<g
  ·rw[bj h2 z];lia
  ·have:=aD (k/w) (show 0<g by lia);lia
 have h4:=Int.mul_le_mul_of_nonneg_right h3 (ai hw);have h5:=Int.mul_nonneg h1 (ai hw);have h6:=Int.ediv_mul_le k (show w≠0 by lia);exact⟨by lia,by lia⟩
end L2
namespace L2
variable{g lo z:Int}{i j k:Nat}{c5:qR}
theorem Rh(g x:Int):BZ g [x]=x:=by show 0*g+x=x;rw[bC,Z0]
theorem Ff(g:Int)(a:qR)(x:Int)(b:qR):BZ g (a++x::b)=(BZ g a*g+x)*g^b.length+BZ g b:=by rw[show a++x::b=(a++[x])++b by rw[am];rfl,Cf,Kp]
theorem OL(hg:2<=g){a b:qR}{x:Int}(hb:∀n∈b,0<=n/\n<g)(hx:0<=x/\x<g):BZ g (a++x::b)/g^b.length%g=x:=by have b1:=C3 hg hb;have gp:=RW.A1 hg b.length;rw[Ff,Int.add_comm,aZ,Int.add_mul_ediv_left _ _ (by lia),bf b1.1 b1.2,Z0,Int.add_comm,aZ,bH,bj hx.1 hx.2]
theorem K7{w:qR}(h:j<w.length):w=w.take j++w.getD j 0::w.drop (j+1):=by rw[ZQ,ZP h];show w=w.take j++w[j]::w.drop (j+1);rw[<-aj h,List.take_append_drop]
theorem OM{w:qR}(h:j<w.length)(v:Int):w.set j v=w.take j++v::w.drop (j+1):=List.set_eq_take_append_cons_drop▸qD h
theorem Jp(hg:2<=g){w:qR}(hb:∀n∈w,0<=n/\n<g)(h:j<w.length):BZ g w/g^(w.length-1-j)%g=w.getD j 0:=by
 have hl:(w.drop (j+1)).length=w.length-1-j:=by rw[Z1];lia
 have e:=OL hg (a:=w.take j) (b:=w.drop (j+1)) (x:=w.getD j 0) (λn hn=>hb n (aK hn)) (CV hg hb j);rw[<-K7 h,hl]at e;exact e
theorem Gw(hg:2<=g){w:qR}(hb:∀n∈w,0<=n/\n<g)(h:j<w.length):BZ g w-BZ g w/g^(w.length-1-j)%g*g^(w.length-1-j)=BZ g (w.set j 0):=by
 rw[Jp hg hb h,OM h];have hl:(w.drop (j+1)).length=w.length-1-j:=by rw[Z1];lia
 have e:=Ff g (w.take j) (w.getD j 0) (w.drop (j+1));rw[<-K7 h]at e;rw[e,Ff,hl,Int.add_mul,bT];lia
theorem MI{w:Int}(h:BG g c5 w=false)(hk:k<c5.length):c5.getD k 0=c5.getD ((k:Int)-(k:Int)/w%g*w).toNat 0:=by unfold BG at h;rw[List.any_eq_false]at h;have:=h k (Z5.mpr hk);simpa using this
theorem MJ(hg:2<=g){m:Nat}(hl:(c5.length:Int)=g^m){w:qR}(hb:∀n∈w,0<=n/\n<g)(hw:w.length=m)(hj:j<m)(hc:BG g c5 (g^(m-1-j))=false):c5.getD (BZ g w).toNat 0=c5.getD (BZ g (w.set j 0)).toNat 0:=by have b:=C3 hg hb;rw[hw]at b;have e:=MI hc (k:=(BZ g w).toNat) (by lia);have n0:=Gw hg hb (j:=j) (by lia);rw[hw]at n0;rw[show (((BZ g w).toNat:Nat):Int)=BZ g w by lia,n0]at e;exact e
noncomputable def zk(keep:Nat->Bool)(w:qR)(k:Nat):qR:=(List.range w.length).map λj=>if j<k/\keep j=false then 0 else w.getD j 0
theorem CD(keep:Nat->Bool)(w:qR)(k:Nat):(zk keep w k).length=w.length:=by unfold zk;rw[List.length_map,List.length_range]
theorem EO(keep:Nat->Bool)(w:qR)(k:Nat)(h:j<w.length):(zk keep w k).getD j 0=if j<k/\keep j=false then 0 else w.getD j 0:=by unfold zk;exact BF h
theorem Ri(keep:Nat->Bool)(w:qR):zk keep w 0=w:=by refine BL (CD keep w 0) λj hj=>?_;rw[CD]at hj;rw[EO keep w 0 hj,qC (by lia)]
theorem Vx(hg:2<=g){keep:Nat->Bool}{w:qR}(hb:∀n∈w,0<=n/\n<g)(k:Nat):∀n∈zk keep w k,0<=n/\n<g:=λn hn=>by
 unfold zk at hn;obtain⟨j,_,e⟩:=Zs.mp hn;subst e;split
 ·exact⟨bi _,by lia⟩
 ·exact CV hg hb _
theorem K8{w:qR}{v:Int}(h:i<w.length):(w.set i v).getD j 0=if i=j then v else w.getD j 0:=by
 rw[ZQ,List.getElem?_set]
 by_cases e:i=j
 ·rw[qD e,qD e];subst e;rw[qD h];rfl
 ·rw[qC e,qC e,ZQ]
theorem Rj(keep:Nat->Bool)(w:qR)(hk:k<w.length):zk keep w (k+1)=if keep k=false then (zk keep w k).set k 0 else zk keep w k:=by
 by_cases e:keep k=false
 ·rw[qD e];refine BL (by rw[cB,CD,CD]) λj hj=>?_;rw[CD]at hj;rw[EO keep w _ hj,K8 (by rw[CD];exact hk),EO keep w _ hj]
  by_cases z:k=j
  ·subst z;rw[qD ⟨by lia,e⟩,qD rfl]
  ·rw[qC z]
   by_cases y:j<k/\keep j=false
   ·rw[qD y,qD ⟨by lia,y.2⟩]
   ·rw[qC y,qC (λx=>y ⟨by lia,x.2⟩)]
 ·rw[qC e];refine BL (by rw[CD,CD]) λj hj=>?_;rw[CD]at hj;rw[EO keep w _ hj,EO keep w _ hj]
  by_cases y:j<k/\keep j=false
  ·rw[qD y,qD ⟨by lia,y.2⟩]
  ·rw[qC y,qC (λx=>y ⟨Nat.lt_of_le_of_ne (by lia) (λz=>e (z▸x.2)),x.2⟩)]
theorem GP(hg:2<=g){m:Nat}(hl:(c5.length:Int)=g^m){keep:Nat->Bool}(hc:∀j,j<m->keep j=false->BG g c5 (g^(m-1-j))=false){w:qR}(hb:∀n∈w,0<=n/\n<g)(hw:w.length=m):∀k,k<=m->c5.getD (BZ g (zk keep w k)).toNat 0=c5.getD (BZ g w).toNat 0
 |0,_=>by rw[Ri]
 |k+1,h=>by
  rw[Rj keep w (by lia)]
  by_cases e:keep k=false
  ·rw[qD e,<-MJ hg hl (Vx hg hb k) (by rw[CD,hw]) (by lia) (hc k (by lia) e)];exact GP hg hl hc hb hw k (by lia)
  ·rw[qC e];exact GP hg hl hc hb hw k (by lia)
theorem Gx(hg:2<=g){m:Nat}(hl:(c5.length:Int)=g^m){v w:qR}(hv:∀n∈v,0<=n/\n<g)(hw:∀n∈w,0<=n/\n<g)(lv:v.length=m)(lw:w.length=m)
  (h:∀j,j<m->BG g c5 (g^(m-1-j))=true->v.getD j 0=w.getD j 0):c5.getD (BZ g v).toNat 0=c5.getD (BZ g w).toNat 0:=by
 have key:∀j,j<m->(λj=>BG g c5 (g^(m-1-j))) j=false->BG g c5 (g^(m-1-j))=false:=λj _ e=>e
 rw[<-GP hg hl key hv lv m (ZR _),<-GP hg hl key hw lw m (ZR _)]
 congr 3
 refine BL (by rw[CD,CD,lv,lw]) λj hj=>?_;rw[CD,lv]at hj;rw[EO _ _ _ (by lia),EO _ _ _ (by lia)]
 by_cases e:j<m/\BG g c5 (g^(m-1-j))=false
 ·rw[qD e,qD e]
 ·rw[qC e,qC e];refine h j hj ?_;cases z:BG g c5 (g^(m-1-j)) with
  |true=>rfl
  |false=>exact qE ⟨hj,z⟩ e
noncomputable def sn(v:qR)(z:Int):Int:=if z<0\/(v.length:Int)<=z then 0 else v.getD z.toNat 0
theorem SZ(hg:2<=g){v:qR}(hb:∀n∈v,0<=n/\n<g)(z:Int):0<=sn v z/\sn v z<g:=by
 unfold sn;split
 ·exact⟨bi _,by lia⟩
 ·exact CV hg hb _
theorem Px{v:qR}(h:j<v.length):sn v ((j:Nat):Int)=v.getD j 0:=by unfold sn;rw[qC (by lia),Zh]
noncomputable def Lf(v:qR)(d:Int)(m:Nat):qR:=(List.range m).map λj:Nat=>sn v (d+(j:Int))
theorem DR(v:qR)(d:Int)(m:Nat):(Lf v d m).length=m:=by unfold Lf;rw[List.length_map,List.length_range]
theorem MK(hg:2<=g){v:qR}(hb:∀n∈v,0<=n/\n<g)(d:Int)(m:Nat):∀n∈Lf v d m,0<=n/\n<g:=λn hn=>by unfold Lf at hn;obtain⟨j,_,e⟩:=Zs.mp hn;subst e;exact SZ hg hb _
theorem Jq(v:qR)(d:Int){m:Nat}(h:j<m):(Lf v d m).getD j 0=sn v (d+(j:Int)):=by unfold Lf;exact BF h
theorem Py(v:qR):Lf v 0 v.length=v:=by refine BL (DR _ _ _) λj hj=>?_;rw[DR]at hj;rw[Jq v 0 hj,Z0,Px hj]
noncomputable def GQ(g lo:Int)(c5:qR)(m:Nat)(low:Int)(M:Nat):qR:=(List.range (g^M).toNat).map λn:Nat=>c5.getD (BZ g (Lf (B6 g (n:Int) M) (lo-low) m)).toNat 0
theorem Cw(hg:2<=g)(lo:Int)(c5:qR)(m:Nat)(low:Int)(M:Nat):((GQ g lo c5 m low M).length:Int)=g^M:=by unfold GQ;rw[ZM,Zc,aB (ai (RW.A1 hg M))]
theorem Pz(hg:2<=g)(lo:Int)(hb:∀n∈c5,0<=n/\n<g)(m:Nat)(low:Int)(M:Nat):∀n∈GQ g lo c5 m low M,0<=n/\n<g:=λn hn=>by unfold GQ at hn;obtain⟨j,_,e⟩:=Zs.mp hn;subst e;exact CV hg hb _
theorem P0(hg:2<=g)(lo:Int)(c5:qR)(m:Nat)(low:Int){v:qR}(hb:∀n∈v,0<=n/\n<g):(GQ g lo c5 m low v.length).getD (BZ g v).toNat 0=c5.getD (BZ g (Lf v (lo-low) m)).toNat 0:=by have b:=C3 hg hb;unfold GQ;rw[BF (by lia),show (((BZ g v).toNat:Nat):Int)=BZ g v by lia,OK hg hb]
theorem NB(hg:2<=g){m:Nat}(h:(k:Int)<g^m):∃w:qR,w.length=m/\(∀n∈w,0<=n/\n<g)/\BZ g w=(k:Int):=⟨B6 g (k:Int) m,IU _ _ _,Gu hg _ _,IV hg (by lia) h⟩
theorem Tb(hg:2<=g){a b:qR}{m:Nat}(la:(a.length:Int)=g^m)(lb:(b.length:Int)=g^m)(h:∀w:qR,w.length=m->(∀n∈w,0<=n/\n<g)->a.getD (BZ g w).toNat 0=b.getD (BZ g w).toNat 0):a=b:=by refine BL (by lia) λk hk=>?_;obtain⟨w,h1,h2,h3⟩:=NB hg (m:=m) (k:=k) (by lia);have:=h w h1 h2;rw[h3,Zh]at this;exact this
theorem ML{m:Nat}:z∈Br g lo c5 m↔∃j:Nat,j<m/\BG g c5 (g^(m-1-j))=true/\z=lo+(j:Int):=by
 unfold Br;constructor
 ·intro h;obtain⟨j,hj,e⟩:=Zs.mp h;obtain⟨h1,h2⟩:=aP.mp hj;exact⟨j,Z5.mp h1,h2,e.symm⟩
 ·rintro⟨j,hj,hc,rfl⟩;exact Zs.mpr ⟨j,aP.mpr ⟨Z5.mpr hj,hc⟩,rfl⟩
theorem DB{w:Int}:BG g c5 w=true↔∃k:Nat,k<c5.length/\c5.getD k 0≠c5.getD ((k:Int)-(k:Int)/w%g*w).toNat 0:=by
 unfold BG;rw[List.any_eq_true];constructor
 ·rintro⟨k,hk,h⟩;exact⟨k,List.mem_range.mp hk,by simpa using h⟩
 ·rintro⟨k,hk,h⟩;exact⟨k,List.mem_range.mpr hk,by simpa using h⟩
theorem MM(hg:2<=g){m:Nat}(hl:(c5.length:Int)=g^m)(hj:j<m):BG g c5 (g^(m-1-j))=true↔∃w:qR,w.length=m/\(∀n∈w,0<=n/\n<g)/\c5.getD (BZ g w).toNat 0≠c5.getD (BZ g (w.set j 0)).toNat 0:=by
 rw[DB];constructor
 ·rintro⟨k,hk,h⟩;refine byG λGq hGq=>?_;obtain⟨w,h1,h2,h3⟩:=NB hg (m:=m) (k:=k) (by lia);refine hGq ?_;clear hGq Gq;refine⟨w,h1,h2,?_⟩;have n0:=Gw hg h2 (j:=j) (by lia);rw[h1,h3]at n0;rw[<-n0,h3,Zh];exact h
 ·intro hRq;refine byG λGq hGq=>?_;obtain⟨w,h1,h2,h⟩:=hRq;refine hGq ?_;clear hGq Gq;have b:=C3 hg h2;rw[h1]at b;refine⟨(BZ g w).toNat,by lia,?_⟩;have n0:=Gw hg h2 (j:=j) (by lia);rw[h1]at n0;rw[show (((BZ g w).toNat:Nat):Int)=BZ g w by lia,n0];exact h
structure Eu(g lo:Int)(c5:qR)(m:Nat)(low:Int)(M:Nat):Prop where
 one:1<=M
 all:∀j,j<m->BG g c5 (g^(m-1-j))=true->low<=lo+(j:Int)/\lo+(j:Int)<low+(M:Int)
 ends:((∀j,j<m->BG g c5 (g^(m-1-j))=false)/\low=0/\M=1)\/∃j0 j1:Nat,j0<=j1/\j1<m/\low=lo+(j0:Int)/\M=j1-j0+1/\BG g c5 (g^(m-1-j0))=true/\BG g c5 (g^(m-1-j1))=true
theorem EB(p:Nat->Bool)(n:Nat):((List.range n).filter p).Pairwise (·<·):=List.Pairwise.filter p List.pairwise_lt_range
theorem EQ:∀{l:List Nat},l.Pairwise (·<·)->∀x∈l,l.getD 0 0<=x
 |[],_,x,h=>qE h (by simp)
 |a::r,hp,x,h=>by
  rcases Zd.mp h with z|z
  ·rw[z];exact ZR _
  ·exact a8 ((az.mp hp).1 x z)
theorem Dx:∀{l:List Nat},l.Pairwise (·<·)->∀x∈l,x<=l.getD (l.length-1) 0
 |[],_,x,h=>qE h (by simp)
 |[a],_,x,h=>by rw[ZX.mp h];exact ZR _
 |a::b::r,hp,x,h=>by
  have ih:=Dx (l:=b::r) (az.mp hp).2;have e:(a::b::r).getD ((a::b::r).length-1) 0=(b::r).getD ((b::r).length-1) 0:=rfl;rw[e];rcases Zd.mp h with z|z
  ·rw[z];exact Zl (a8 ((az.mp hp).1 b ZZ)) (ih b ZZ)
  ·exact ih x z
theorem Dn:∀{l:List Nat} {k:Nat},k<l.length->l.getD k 0∈l:=λ{l k} h=>by rw[ZQ,ZP h];exact aq h
theorem Cy{f:Nat->Int}{l:List Nat}(h:k<l.length):(l.map f).getD k 0=f (l.getD k 0):=by rw[ZQ,Zk,ZP h,ZQ,ZP h];rfl
theorem P1{m:Nat}(h:Br g lo c5 m=[]):Eu g lo c5 m 0 1:=by
 have f:∀j,j<m->BG g c5 (g^(m-1-j))=false:=λj hj=>by
  cases z:BG g c5 (g^(m-1-j)) with
  |false=>rfl
  |true=>exact qE (ML.mpr ⟨j,hj,z,rfl⟩) (by rw[h];simp)
 exact⟨ZR _,λj hj hc=>qE hc (by rw[f j hj];decide),.inl ⟨f,rfl,rfl⟩⟩
theorem ON{m:Nat}(h:Br g lo c5 m≠[]):∃M:Nat,(M:Int)=(Br g lo c5 m).getD ((Br g lo c5 m).length-1) 0-(Br g lo c5 m).getD 0 0+1/\M<=m/\Eu g lo c5 m ((Br g lo c5 m).getD 0 0) M:=by
 unfold Br at h⊢;generalize hl:((List.range m).filter λj=>BG g c5 (g^(m-1-j)))=l at h⊢
 have hne:0<l.length:=by
  cases l with
  |nil=>exact qE rfl h
  |cons a r=>simp
 have hm:∀j,j∈l↔j<m/\BG g c5 (g^(m-1-j))=true:=λj=>by rw[<-hl,aP,Z5]
 have hp:l.Pairwise (·<·):=by rw[<-hl];exact EB _ _
 rw[ZM,Cy (show l.length-1<l.length by lia),Cy hne];have m0:=(hm _).mp (Dn hne);have m1:=(hm _).mp (Dn (show l.length-1<l.length by lia));have le:=Dx hp _ (Dn hne);refine⟨l.getD (l.length-1) 0-l.getD 0 0+1,by lia,by lia,⟨by lia,λj hj hc=>?_,.inr ⟨l.getD 0 0,l.getD (l.length-1) 0,le,m1.1,rfl,rfl,m0.2,m1.2⟩⟩⟩;have a1:=EQ hp j ((hm j).mpr ⟨hj,hc⟩);have a2:=Dx hp j ((hm j).mpr ⟨hj,hc⟩);lia
end L2
namespace L2
variable{g:Int}{n:Nat}{c5:qR}
noncomputable def BM(n:Nat)(f:Nat->Int):Int:=((List.range n).map f).sum
theorem CY(f:Nat->Int):BM 0 f=0:=rfl
theorem Az(n:Nat)(f:Nat->Int):BM (n+1) f=BM n f+f n:=by unfold BM;rw[aS,Zf,List.sum_append];show _+([f n]:qR).sum=_;rw[List.sum_cons,List.sum_nil,bT]
theorem BW{f g:Nat->Int}(h:∀k,k<n->f k=g k):BM n f=BM n g:=by unfold BM;rw[aA λk hk=>h k (Z5.mp hk)]
theorem P2(n:Nat)(f g:Nat->Int):BM n (λk=>f k+g k)=BM n f+BM n g:=by
 induction n with
 |zero=>rfl
 |succ n ih=>rw[Az,Az,Az,ih];lia
theorem K9(n:Nat)(f:Nat->Int)(c:Int):BM n (λk=>f k*c)=BM n f*c:=by
 induction n with
 |zero=>rw[CY,CY,bC]
 |succ n ih=>rw[Az,Az,ih,Int.add_mul]
theorem Gy(n:Nat)(c:Int):BM n (λ_=>c)=(n:Int)*c:=by
 induction n with
 |zero=>rw[CY];simp
 |succ n ih=>rw[Az,ih,Int.natCast_add,Int.add_mul];simp
theorem Fz{f:Nat->Int}(h:∀k,k<n->0<=f k):0<=BM n f:=by
 induction n with
 |zero=>exact bi _
 |succ n ih =>
  rw[Az];have h1:=ih λk hk=>h k (aa hk)
  have h2:=h n (ag n);lia
theorem OO(a b:Nat)(f:Nat->Nat->Int):BM a (λi=>BM b (λj=>f i j))=BM b (λj=>BM a (λi=>f i j)):=by
 induction a with
 |zero =>
  rw[CY];have:BM b (λ_=>(0:Int))=0:=by rw[Gy,Int.mul_zero]
  exact this.symm
 |succ a ih =>
  rw[Az,ih,<-P2];exact BW λj _=>(Az a _).symm
theorem MN(a b:Nat)(f:Nat->Int):BM (a+b) f=BM a f+BM b (λk=>f (a+k)):=by
 induction b with
 |zero=>rw[CY,bT];rfl
 |succ b ih=>rw[<-Nat.add_assoc,Az,Az,ih,Int.add_assoc]
theorem OP(a b:Nat)(f:Nat->Int):BM (a*b) f=BM a (λi=>BM b (λj=>f (i*b+j))):=by
 induction a with
 |zero=>rw[Nat.zero_mul];rfl
 |succ a ih=>rw[Nat.succ_mul,MN,Az,ih]
noncomputable def Hq(p:Bool)(x:Int):Int:=if p then x else 0
theorem MO{p:Bool}{x:Int}(h:0<=x):0<=Hq p x:=by unfold Hq;split<;>lia
theorem P3(n j:Nat)(hj:j<n)(x:Int):BM n (λk=>Hq (decide (k=j)) x)=x:=by
 induction n with
 |zero=>exact qE hj (cD _)
 |succ n ih =>
  rw[Az]
  by_cases e:j=n
  ·subst e;have z:BM j (λk=>Hq (decide (k=j)) x)=0:=by rw[BW (g:=λ_=>0) λk hk=>by unfold Hq;rw[qG (by lia)];rfl,Gy,Int.mul_zero]
   rw[z];unfold Hq;rw[qF rfl];simp
  ·rw[ih (by lia)];unfold Hq;rw[qG (by lia)];simp
noncomputable def IB(G:Nat)(c5:qR):qR->Nat->Int
 |[],_=>1
 |s::r,h=>BM G λj=>Hq (decide (c5.getD (h*G+j) 0=s)) (IB G c5 r ((h*G+j)%(c5.length/G)))
theorem Gz(G:Nat)(c5:qR):∀(r:qR) (h:Nat),0<=IB G c5 r h
 |[],_=>by show (0:Int)<=1;decide
 |s::r,h=>Fz λj _=>MO (Gz G c5 r _)
noncomputable def P4(G:Nat)(c5:qR)(r:qR):Int:=BM (c5.length/G) (IB G c5 r)
theorem MP(G:Nat)(c5 r:qR):0<=P4 G c5 r:=Fz λh _=>Gz G c5 r h
theorem Ev(hg:2<=g){m:Nat}(hl:(c5.length:Int)=g^m)(hm:1<=m):((c5.length/g.toNat:Nat):Int)=g^(m-1)/\c5.length=c5.length/g.toNat*g.toNat:=by
 obtain⟨k,rfl⟩:∃k,m=k+1:=⟨m-1,by lia⟩
 have e:c5.length=(g^k).toNat*g.toNat:=by have p:=RW.A1 hg k;rw[Z2]at hl;apply Int.ofNat.inj;show (c5.length:Int)=(((g^k).toNat*g.toNat:Nat):Int);rw[hl,Int.natCast_mul,aB (ai p),aB (by lia)]
 have q:c5.length/g.toNat=(g^k).toNat:=by rw[e];exact Nat.mul_div_cancel _ (by lia)
 rw[q,Nat.add_sub_cancel];exact⟨aB (ai (RW.A1 hg k)),e⟩
noncomputable def Vy(G:Nat)(c5:qR)(s:Int)(F:Nat->Int):Nat->Int:=λv=>BM c5.length λa=>Hq (decide (c5.getD a 0=s)&&decide (a%(c5.length/G)=v)) (F (a/G))
theorem P5{G:Nat}(hG:2<=G)(hp:0<c5.length/G)(hd:c5.length=c5.length/G*G)(s:Int)(r:qR)(F:Nat->Int):
  BM (c5.length/G) (λv=>Vy G c5 s F v*IB G c5 r v)=BM (c5.length/G) (λv=>F v*IB G c5 (s::r) v):=by
 have e1:BM (c5.length/G) (λv=>F v*IB G c5 (s::r) v)=BM c5.length (λa=>Hq (decide (c5.getD a 0=s)) (F (a/G)*IB G c5 r (a%(c5.length/G)))):=by
  have h1:BM (c5.length/G*G) (λa=>Hq (decide (c5.getD a 0=s)) (F (a/G)*IB G c5 r (a%(c5.length/G))))=BM (c5.length/G) (λv=>F v*IB G c5 (s::r) v):=by
   rw[OP];refine BW λv _=>?_;show _=F v*BM G λj=>Hq (decide (c5.getD (v*G+j) 0=s)) (IB G c5 r ((v*G+j)%(c5.length/G)))
   rw[aZ (F v),<-K9];refine BW λj hj=>?_;rw[Nat.mul_comm v G,Nat.mul_add_div (by lia),Nat.div_eq_of_lt hj,Nat.add_zero];unfold Hq;split
   ·rw[aZ]
   ·rw[bC]
  rw[<-hd]at h1;exact h1.symm
 rw[e1]
 have e2:∀v,v<c5.length/G->Vy G c5 s F v*IB G c5 r v=BM c5.length (λa=>Hq (decide (c5.getD a 0=s)&&decide (a%(c5.length/G)=v)) (F (a/G))*IB G c5 r v):=λv _=>by unfold Vy;rw[K9]
 rw[BW e2,OO];refine BW λa _=>?_;have hlt:a%(c5.length/G)<c5.length/G:=Nat.mod_lt _ hp;refine Eq.trans (BW (g:=λv=>Hq (decide (v=a%(c5.length/G))) (Hq (decide (c5.getD a 0=s)) (F (a/G)*IB G c5 r (a%(c5.length/G))))) λv _=>?_) (P3 _ _ hlt _)
 by_cases e:v=a%(c5.length/G)
 ·rw[qF e,qF e.symm,Bool.and_true,e];unfold Hq;split
  ·rfl
  ·rw[bC];rfl
 ·rw[qG e,qG (show ¬a%(c5.length/G)=v from λz=>e z.symm),Bool.and_false];show 0*_=0;rw[bC]
end L2
namespace L2
open PySem
variable{C a r:qM}{H H':Hp}{X:Cx}{g lo:Int}{c5:qR}
noncomputable def F0(G:Nat)(c5:qR)(h:Nat)(s:Int):List Nat:=((List.range G).filter λj=>decide (c5.getD (h*G+j) 0=s)).map λj=>h*G+j
theorem MQ(n:Nat)(p:Nat->Bool)(f:Nat->Int):(((List.range n).filter p).map f).sum=BM n λj=>Hq (p j) (f j):=by
 induction n with
 |zero=>rfl
 |succ n ih =>
  rw[Az,aS,aT,Zf,List.sum_append,ih]
  congr 1
  unfold Hq;cases h:p n<;>simp[List.filter,h]
theorem P6(G:Nat)(c5:qR)(h:Nat)(s:Int)(f:Nat->Int):((F0 G c5 h s).map f).sum=BM G λj=>Hq (decide (c5.getD (h*G+j) 0=s)) (f (h*G+j)):=by unfold F0;rw[bq];exact MQ G _ _
theorem P7(G:Nat)(c5:qR)(h:Nat)(s:Int)(r:qR):((F0 G c5 h s).map λn=>IB G c5 r (n%(c5.length/G))).sum=IB G c5 (s::r) h:=P6 G c5 h s _
noncomputable def Fg(G:Nat)(c5 r:qR):qR:=(List.range (c5.length/G)).map (IB G c5 r)
theorem P8(G:Nat)(c5 r:qR):(Fg G c5 r).length=c5.length/G:=by unfold Fg;rw[List.length_map,List.length_range]
theorem P9(G:Nat)(c5 r:qR):(Fg G c5 r).sum=P4 G c5 r:=rfl
theorem QA{G:Nat}{r:qR}{h:Nat}(hh:h<c5.length/G):(Fg G c5 r).getD h 0=IB G c5 r h:=by unfold Fg;exact BF hh
noncomputable def CN(ns:List Nat):qR:=ns.map λn:Nat=>(n:Int)
structure Ap(H:Hp)(r:qM)(g lo:Int)(c5:qR)(m:Nat):Prop where
 v:Ak H r g lo c5
 g2:2<=g
 g9:g<=9
 m1:1<=m
 m8:m<=8
 len:(c5.length:Int)=g^m
 sz:g^m<=256
 tb:∀n∈c5,0<=n/\n<g
theorem Ap.same{m:Nat}(e:AI H H')(h:Ap H r g lo c5 m):Ap H' r g lo c5 m:=⟨h.v.same e,h.g2,h.g9,h.m1,h.m8,h.len,h.sz,h.tb⟩
inductive GR(vs:List V)(H:Hp)(Q:VK)(z3_:XK):Prop
 |m (r:qM) (g lo:Int) (c5:qR) (m:Nat):vs=[.ref r]->Ap H r g lo c5 m->Q (.int ((c5.length/g.toNat:Nat):Int)) H->GR vs H Q z3_
inductive MR(vs:List V)(H:Hp)(Q:VK)(z3_:XK):Prop
 |m (r:qM) (g lo:Int) (c5:qR) (m h:Nat) (s:Int):vs=[.ref r,.int ((h:Nat):Int),.int s]->Ap H r g lo c5 m->h<c5.length/g.toNat->(∀p H',EK H H' p (CN (F0 g.toNat c5 h s))->Q (.ref p) H')->MR vs H Q z3_
inductive G0(vs:List V)(H:Hp)(Q:VK)(z3_:XK):Prop
 |m (r f w:qM) (g lo:Int) (c5:qR) (m:Nat) (fs:List Nat) (ws:qR):vs=[.ref r,.ref f,.ref w]->Ap H r g lo c5 m->H f=some (.lst ((CN fs).map V.int))->fs.length<=300->H w=some (.lst (ws.map V.int))->ws.length=c5.length/g.toNat->(∀p H',EK H H' p (fs.map λn=>ws.getD (n%(c5.length/g.toNat)) 0)->Q (.ref p) H')->G0 vs H Q z3_
def Vz(H:Hp)(p:qM)(G:Nat)(c5 row:qR):Prop:=∃ps:List qM,H p=some (.lst (ps.map V.ref))/\ps.length=row.length+1/\∀(k:Nat) (q:qM),ps[k]?=some q->H q=some (.lst ((Fg G c5 (row.drop k)).map V.int))
inductive MS(K:qQ)(vs:List V)(H:Hp)(Q:VK)(z3_:XK):Prop
 |m (r a:qM) (g lo:Int) (c5:qR) (m:Nat) (ns:qR):vs=[.ref r,.ref a]->Ap H r g lo c5 m->Ac K H a (ns.map V.int)->ns.length<=900->(∀p H',AI H H'->H p=none->Vz H' p g.toNat c5 ns->Q (.ref p) H')->MS K vs H Q z3_
inductive MT(K:qQ)(C:qM)(vs:List V)(H:Hp)(Q:VK)(E:XK):Prop
 |m (r a:qM) (g lo:Int) (c5:qR) (m:Nat) (xs:List V):vs=[.ref r,.ref a]->Ap H r g lo c5 m->Ac K H a xs->(∀x∈xs,Kd H x)->xs.length<=900->(match BK g xs with|none=>∀ns:qR,xs=ns.map V.int->∀H',AI H H'->Q (.int (P4 g.toNat c5 ns)) H'|some i=>N9 C i H E)->MT K C vs H Q E
inductive Fh(vs:List V)(H:Hp)(Q:VK)(z3_:XK):Prop
 |m (g:Int) (m:Nat):vs=[.int g,.int ((m:Nat):Int)]->2<=g->g<=9->m<=100->Q (.int (g^m)) H->Fh vs H Q z3_
inductive CF(vs:List V)(H:Hp)(Q:VK)(z3_:XK):Prop
 |m (r:qM) (g lo:Int) (c5:qR) (m:Nat):vs=[.ref r]->Ap H r g lo c5 m->Q (.int ((m:Nat):Int)) H->CF vs H Q z3_
inductive MU(K:qQ)(vs:List V)(H:Hp)(Q:VK)(z3_:XK):Prop
 |m (r a:qM) (g lo:Int) (c5:qR) (m:Nat) (ns:qR):vs=[.ref r,.ref a]->Ap H r g lo c5 m->Ac K H a (ns.map V.int)->(∀n∈ns,0<=n/\n<g)->ns.length<=100->(∀p H',EK H H' p (Fb g c5 m ns)->Q (.ref p) H')->MU K vs H Q z3_
theorem G1{P:qO}{w:qP}:Bl (Hn true P w) X (λ_=>E0):=λ_ _ _ _ _ _ _ ⟨_,_,_,_,_,_,_,_,h⟩=>h.elim
theorem MV{K:qQ}(h:X.K=K)(hc:X.calm=true):CH X (.builtin "sum") (λxs H Q=>∃(p:qM) (ns:qR),xs=[.ref p]/\Ac K H p (ns.map V.int)/\Q (.int ns.sum) H):=h▸Dh hc
inductive Jr(vs:List V)(H:Hp)(Q:VK)(z3_:XK):Prop
 |m (r:qM) (g lo:Int) (c5:qR) (m:Nat) (by1:Int):vs=[.ref r,.int by1]->Ap H r g lo c5 m->(∀r' H',AI H H'->Ap H' r' g (lo+by1) c5 m->Q (.ref r') H')->Jr vs H Q z3_
inductive Do(vs:List V)(H:Hp)(Q:VK)(z3_:XK):Prop
 |m (r:qM) (g lo:Int) (c5:qR) (m:Nat):vs=[.ref r]->Ap H r g lo c5 m->(∀r' H',AI H H'->Ap H' r' g (1-lo-(m:Int)) (Dm g c5 m) m->Q (.ref r') H')->Do vs H Q z3_
variable{lo':Int}
theorem Ap.turn{r':qM}{m:Nat}(h:Ap H r g lo c5 m)(hv:Ak H' r' g lo' (Dm g c5 m)):Ap H' r' g lo' (Dm g c5 m) m:=⟨hv,h.g2,h.g9,h.m1,h.m8,by rw[Fe];exact h.len,h.sz,K6 h.g2 h.tb m⟩
theorem Ap.tabOk{m:Nat}(h:Ap H r g lo c5 m):Dk g (c5.map V.int):=by have l:=h.len;have z:=h.sz;exact⟨by rw[ZM];lia,⟨m,h.m1,by rw[ZM];exact l⟩,Bg h.tb⟩
theorem Fi{m:Nat}{Q:VK}{E:XK}(g2:2<=g)(g9:g<=9)(m1:1<=m)(len:(c5.length:Int)=g^m)(sz:g^m<=256)(tb:∀n∈c5,0<=n/\n<g)(hs:GB H a (c5.map V.int))
  (q:∀r' H',AI H H'->Ak H' r' g lo c5->Q (.ref r') H'):EJ C [.int g,.int lo,.ref a] H Q E:=by
 have tok:Dk g (c5.map V.int):=⟨by rw[ZM];lia,⟨m,m1,by rw[ZM];exact len⟩,Bg tb⟩;refine⟨_,_,_,rfl,True.intro,True.intro,⟨_,hs,CU⟩,λg' lo' tab' a' e1 e2 e3 hs' _ _ _ _ r' H' e' hR'=>?_,λnok=>qE ⟨EA g2 g9,g,rfl,a,_,rfl,hs,tok⟩ nok⟩;cases e1;cases e2;cases e3;have:=B2 (hs.inj hs');subst this;exact q r' H' e' hR'
inductive G2(K:qQ)(vs:List V)(H:Hp)(Q:VK)(z3_:XK):Prop
 |m (a:qM) (v:qR) (z:Int):vs=[.ref a,.int z]->Ac K H a (v.map V.int)->Q (.int (sn v z)) H->G2 K vs H Q z3_
theorem Ew(hg:2<=g){M:Nat}(h:g^M<=256):M<=8:=by
 apply Nat.le_of_not_lt;intro z;have h1:=BE hg (show 9<=M by lia)
 have h2:(512:Int)<=g^9:=by
  have h2:2*2<=g*g:=bM hg hg (by decide) (by lia);have h4:4*4<=(g*g)*(g*g):=bM (by lia) (by lia) (by decide) (by lia);have h8:16*16<=((g*g)*(g*g))*((g*g)*(g*g)):=bM (by lia) (by lia) (by decide) (by lia);have h9:256*2<=(((g*g)*(g*g))*((g*g)*(g*g)))*g:=bM (by lia) hg (by decide) (by lia);have e:g^9=(((g*g)*(g*g))*((g*g)*(g*g)))*g:=by simp only[Int.pow_succ,Int.pow_zero,Int.one_mul,Int.mul_assoc]
  rw[e];lia
 lia
theorem Ap.bw{r':qM}{m:Nat}(h:Ap H r g lo c5 m){low:Int}{M:Nat}(hM:1<=M)(hz:g^M<=256)(hv:Ak H' r' g low (GQ g lo c5 m low M)):Ap H' r' g low (GQ g lo c5 m low M) M:=
 ⟨hv,h.g2,h.g9,hM,Ew h.g2 hz,Cw h.g2 _ _ _ _ _,hz,Pz h.g2 _ h.tb _ _ _⟩
inductive Js(vs:List V)(H:Hp)(Q:VK)(z3_:XK):Prop
 |m (r:qM) (g lo:Int) (c5:qR) (m:Nat) (low:Int) (M:Nat):vs=[.ref r,.int low,.int ((M:Nat):Int)]->Ap H r g lo c5 m->1<=M->g^M<=256->(∀r' H',AI H H'->Ap H' r' g low (GQ g lo c5 m low M) M->Q (.ref r') H')->Js vs H Q z3_
inductive DC(vs:List V)(H:Hp)(Q:VK)(z3_:XK):Prop
 |m (r:qM) (g lo:Int) (c5:qR) (m:Nat):vs=[.ref r]->Ap H r g lo c5 m->(∀(low:Int) (M:Nat),Eu g lo c5 m low M->∀r' H',AI H H'->Ap H' r' g low (GQ g lo c5 m low M) M->Q (.ref r') H')->DC vs H Q z3_
theorem IW{ns:qR}(h:0<ns.length):Fu (ns.map V.int) (-1)=some (.int (ns.getD (ns.length-1) 0)):=by
 have e:=D9 (ns:=ns) (k:=ns.length-1) (by lia)
 have z:Le (ns.map V.int).length (-1)=some (ns.length-1):=by
  unfold Le;rw[ZM];rw[qC (by decide),qD (by lia)]
  congr 1
  lia
 have y:Le (ns.map V.int).length (((ns.length-1:Nat)):Int)=some (ns.length-1):=by rw[ZM];exact M7 (by lia)
 unfold Fu at e⊢;rw[z];rw[y]at e;exact e
theorem QB{l:List Nat}:CN l=[]↔l=[]:=by unfold CN;rw[List.map_eq_nil_iff]
end L2
namespace L2
open PySem PySem.Spec PyProof.Rows
variable{X:Cx}{pos:Pos}
section
variable{es:List Expr}{t:TA}
theorem Ae{i:Int}{j}(hr:PA X es t):PA X (.Constant (.int i) j pos::es) (Gf (tC (.int i)) t):=AA AD hr (by rfl)
end
@[irreducible] def ZJ (X:Cx) (st:Stmt) (t:TS):Prop:=PS X st t
@[irreducible] def ZH (X:Cx) (ss:List Stmt) (t:TS):Prop:=F8 X ss t
@[irreducible] def ZK (X:Cx) (e:Expr) (te:TE):Prop:=PE X e te
@[irreducible] def ZL (X:Cx) (es:List Expr) (t:TA):Prop:=PA X es t
end L2
namespace L2
open PySem
variable{D:Hr}{H:Hp}{X:Cx}{g lo lo' z:Int}{j:Nat}{c5:qR}{te tl:TE}{tg:Expr}{tt:TT}{x:Str}{σ:St}{σf:List (Option V)}
noncomputable def Ex(x:Int->Int)(lo:Int)(m:Nat):qR:=(List.range m).map λj:Nat=>x (lo+(j:Int))
theorem CL(x:Int->Int)(lo:Int)(m:Nat):(Ex x lo m).length=m:=by unfold Ex;rw[List.length_map,List.length_range]
theorem Ey(x:Int->Int)(lo:Int){m:Nat}(h:j<m):(Ex x lo m).getD j 0=x (lo+(j:Int)):=by unfold Ex;exact BF h
def QC(g:Int)(x:Int->Int):Prop:=∀z,0<=x z/\x z<g
theorem GS{x:Int->Int}(hx:QC g x)(lo:Int)(m:Nat):∀n∈Ex x lo m,0<=n/\n<g:=λn hn=>by unfold Ex at hn;obtain⟨j,_,rfl⟩:=Zs.mp hn;exact hx _
noncomputable def NC(g lo:Int)(c5:qR)(m:Nat)(x:Int->Int):Int:=c5.getD (BZ g (Ex x lo m)).toNat 0
noncomputable def IX(w:qR)(lo:Int):Int->Int:=λz=>sn w (z-lo)
theorem IY(hg:2<=g){w:qR}(hb:∀n∈w,0<=n/\n<g)(lo:Int):QC g (IX w lo):=λz=>SZ hg hb _
theorem Rk(w:qR)(low lo:Int)(m:Nat):Ex (IX w low) lo m=Lf w (lo-low) m:=by unfold Ex Lf IX;exact aA λj _=>by rw[show lo+(j:Int)-low=lo-low+(j:Int) by lia]
theorem F1(w:qR)(lo:Int):Ex (IX w lo) lo w.length=w:=by rw[Rk,Int.sub_self,Py]
theorem GU(hg:2<=g){low:Int}{m M:Nat}(hl:(c5.length:Int)=g^m)(hc:∀j,j<m->BG g c5 (g^(m-1-j))=true->low<=lo+(j:Int)/\lo+(j:Int)<low+(M:Int)){x:Int->Int}(hx:QC g x):NC g low (GQ g lo c5 m low M) M x=NC g lo c5 m x:=by
 unfold NC;have z:=P0 hg lo c5 m low (v:=Ex x low M) (GS hx low M);rw[CL]at z;rw[z];refine Gx hg hl (MK hg (GS hx low M) _ _) (GS hx lo m) (DR ..) (CL ..) λj hj hcj=>?_;obtain⟨a,b⟩:=hc j hj hcj;rw[Jq _ _ hj,Ey _ _ hj,show lo-low+(j:Int)=(((lo+(j:Int)-low).toNat:Nat):Int) by lia,Px (by rw[CL];lia),Ey _ _ (by lia)]
 congr 1
 lia
def Sa(g:Int)(f:(Int->Int)->Int)(z:Int):Prop:=∃x,QC g x/\f x≠f λy=>if y=z then 0 else x y
theorem YW(hg:2<=g){x:Int->Int}(hx:QC g x)(z:Int):QC g λy=>if y=z then 0 else x y:=λy=>by
 show 0<=(if y=z then 0 else x y)/\(if y=z then 0 else x y)<g;split
 ·lia
 ·exact hx y
theorem LA(x:Int->Int)(lo:Int){m:Nat}(hj:j<m):Ex (λy=>if y=lo+(j:Int) then 0 else x y) lo m=(Ex x lo m).set j 0:=by
 refine BL (by rw[cB,CL,CL]) λk hk=>?_;rw[CL]at hk;rw[Ey _ _ hk,K8 (by rw[CL];exact hj),Ey _ _ hk]
 by_cases e:j=k
 ·subst e;rw[qD rfl,qD rfl]
 ·rw[qC e,qC (by lia)]
theorem GV(hg:2<=g){m:Nat}(hl:(c5.length:Int)=g^m)(hj:j<m):BG g c5 (g^(m-1-j))=true↔Sa g (NC g lo c5 m) (lo+(j:Int)):=by
 rw[MM hg hl hj];constructor
 ·rintro⟨w,wl,wb,ne⟩;subst wl;refine⟨IX w lo,IY hg wb lo,?_⟩;unfold NC;rw[LA _ _ hj,F1];exact ne
 ·rintro⟨x,hx,ne⟩;unfold NC at ne;rw[LA _ _ hj]at ne;exact⟨_,CL ..,GS hx lo m,ne⟩
theorem QD{m:Nat}(h:Sa g (NC g lo c5 m) z):∃j:Nat,j<m/\z=lo+(j:Int):=by
 obtain⟨x,hx,ne⟩:=h
 by_cases e:lo<=z/\z<lo+(m:Int)
 ·exact⟨(z-lo).toNat,by lia,by lia⟩
 ·exfalso;apply ne;unfold NC
  congr 3
  unfold Ex;refine aA λj hj=>?_;have:=Z5.mp hj;show x (lo+(j:Int))=if lo+(j:Int)=z then 0 else x (lo+(j:Int));rw[qC (by lia)]
structure MW(g:Int)(f:(Int->Int)->Int)(low:Int)(M:Nat):Prop where
 one:1<=M
 all:∀z,Sa g f z->low<=z/\z<low+(M:Int)
 ends:((∀z,¬Sa g f z)/\low=0/\M=1)\/(Sa g f low/\Sa g f (low+(M:Int)-1))
theorem Eu.toF(hg:2<=g){m:Nat}(hl:(c5.length:Int)=g^m){low:Int}{M:Nat}(h:Eu g lo c5 m low M):MW g (NC g lo c5 m) low M:=by
 refine⟨h.one,λz hz=>?_,?_⟩
 ·obtain⟨j,hj,rfl⟩:=QD hz;exact h.all j hj ((GV hg hl hj).mpr hz)
 ·rcases h.ends with⟨f,a,b⟩|⟨j0,j1,le,lt,a,b,c0,c1⟩
  ·refine .inl ⟨λz hz=>?_,a,b⟩;obtain⟨j,hj,rfl⟩:=QD hz;rw[<-GV hg hl hj,f j hj]at hz;cases hz
  ·have d0:=(GV (lo:=lo) hg hl (show j0<m by lia)).mp c0;have d1:=(GV (lo:=lo) hg hl lt).mp c1;refine .inr ⟨a▸d0,?_⟩;rw[show low+(M:Int)-1=lo+(j1:Int) by lia];exact d1
variable{low':Int}{M':Nat}
theorem MW.uniq{f:(Int->Int)->Int}{low:Int}{M:Nat}(h:MW g f low M)(h':MW g f low' M'):low=low'/\M=M':=by
 have o:=h.one;have o':=h'.one;rcases h.ends with⟨n,a,b⟩|⟨d0,d1⟩
 ·rcases h'.ends with⟨_,a',b'⟩|⟨d0',_⟩
  ·lia
  ·exact qE d0' (n _)
 ·rcases h'.ends with⟨n',_,_⟩|⟨d0',d1'⟩
  ·exact qE d0 (n' _)
  ·have:=h.all _ d0';have:=h.all _ d1';have:=h'.all _ d0;have:=h'.all _ d1;lia
theorem Dy(hg:2<=g){f f':(Int->Int)->Int}(h:∀x,QC g x->f x=f' x)(d:Sa g f z):Sa g f' z:=by obtain⟨x,hx,ne⟩:=d;refine⟨x,hx,?_⟩;rw[<-h x hx,<-h _ (YW hg hx z)];exact ne
theorem MW.congr(hg:2<=g){f f':(Int->Int)->Int}(h:∀x,QC g x->f x=f' x){low:Int}{M:Nat}(n:MW g f low M):MW g f' low M:=by
 have h2:∀x,QC g x->f' x=f x:=λx hx=>(h x hx).symm
 refine⟨n.one,λz d=>n.all z (Dy hg h2 d),?_⟩;rcases n.ends with⟨a,b,c⟩|⟨a,b⟩
 ·exact .inl ⟨λz d=>a z (Dy hg h2 d),b,c⟩
 ·exact .inr ⟨Dy hg h a,Dy hg h b⟩
def G3(g lo:Int)(c5:qR)(m:Nat)(lo':Int)(tab':qR)(m':Nat):Prop:=∀x,QC g x->NC g lo c5 m x=NC g lo' tab' m' x
theorem Tc(hg:2<=g){a b:qR}{m:Nat}(la:(a.length:Int)=g^m)(lb:(b.length:Int)=g^m)(h:∀x,QC g x->NC g lo a m x=NC g lo b m x):a=b:=by refine Tb hg la lb λw wl wb=>?_;subst wl;have z:=h (IX w lo) (IY hg wb lo);unfold NC at z;rw[F1]at z;exact z
theorem DS(hg:2<=g){tab':qR}{m m':Nat}(hl:(c5.length:Int)=g^m)(hl':(tab'.length:Int)=g^m'){low:Int}{M:Nat}(n:Eu g lo c5 m low M)(n':Eu g lo' tab' m' low' M'):
  G3 g lo c5 m lo' tab' m'↔low=low'/\GQ g lo c5 m low M=GQ g lo' tab' m' low' M':=by
 constructor
 ·intro h;obtain⟨e1,e2⟩:=((n.toF hg hl).congr hg h).uniq (n'.toF hg hl');subst e1 e2;refine⟨rfl,Tc hg (lo:=low) (Cw hg ..) (Cw hg ..) λx hx=>?_⟩;rw[GU hg hl n.all hx,GU hg hl' n'.all hx];exact h x hx
 ·rintro⟨rfl,e⟩ x hx;have hM:M=M':=by have a:=Cw hg lo c5 m low M;have b:=Cw hg lo' tab' m' low M';rw[e,b]at a;exact GL hg a.symm
  subst hM;rw[<-GU hg hl n.all hx,<-GU hg hl' n'.all hx,e]
theorem A8{t u:TS}(h:∀N:St->Hp->Prop,(∀σ' H',u D σ' H'->N σ' H')->t {D with nx:=N} σ H):Nm t u D σ H:=h (u D) λ_ _ z=>z
theorem QE(ns:qR):∀ms:qR,(PyData.eqvAll (ns.map PyData.int) (ms.map PyData.int)=true)↔ns=ms:=by
 induction ns with
 |nil =>
  intro ms;cases ms with
  |nil=>simp[PyData.eqvAll]
  |cons b t=>simp[PyData.eqvAll]
 |cons x r ih =>
  intro ms;cases ms with
  |nil=>simp[PyData.eqvAll]
  |cons b t=>simp[PyData.eqvAll,PyData.eqv,ih]
theorem Ez(g lo:Int)(c5:qR)(g' lo':Int)(tab':qR):(PyData.eqv (.tuple [.int g,.int lo,.tuple (c5.map PyData.int)]) (.tuple [.int g',.int lo',.tuple (tab'.map PyData.int)])=true)↔g=g'/\lo=lo'/\c5=tab':=by simp[PyData.eqv,PyData.eqvAll,QE]
inductive MX(vs:List V)(H:Hp)(Q:VK)(z3_:XK):Prop
 |m (r r':qM) (g lo:Int) (c5:qR) (m:Nat) (g' lo':Int) (tab':qR) (m':Nat):vs=[.ref r,.ref r']->Ap H r g lo c5 m->Ap H r' g' lo' tab' m'->(∀(b:Bool) (H':Hp),AI H H'->(b=true↔g=g'/\G3 g lo c5 m lo' tab' m')->Q (.bl b) H')->MX vs H Q z3_
noncomputable def X9(x:Str):It:=⟨λi _=>∃c,x.cps[i]?=some c,λi H v H'=>H'=H/\∃c,x.cps[i]?=some c/\v=.str ⟨#[c]⟩,λi _=>x.cps[i]?=none⟩
def IC(x:Str):Prop:=x.cps.all (·<128)=true
theorem QF{P:qO}{w:qP}{K:qQ}(x:Str)(t:Tok)(it:qM):JG P w K tg (X9 x) [it] it (λi h=>h.IsStrIter it "str_ascii_iterator" x t i) where
 mem:=by simp
 obj:=λi h st b hb=>by
  have e:b=it:=by simpa using hb
  subst e;refine byG λGq hGq=>?_;obtain⟨o,e,c,d⟩:=st;refine hGq ?_;clear hGq Gq;exact⟨o,e,λv z=>by rw[d]at z;cases z⟩
 keep:=λi h h' st k=>by obtain⟨o,e,r⟩:=st;exact⟨o,k it (by simp) o e,r⟩
 item:=by intro X hP hw hK hc i ad s σ H E I hf st hg;subst hP hw hK;obtain⟨c,hx⟩:=hg;refine byG λGq hGq=>?_;obtain⟨f0,f1,f2,f3,f4,f5⟩:=hf it (by simp);refine hGq ?_;clear hGq Gq;refine wpAny_pyNext_ascii_item st hx λh' st' sb=>?_;have I1:AW X ad σ H {s with heap:=h',toks:=s.toks+1}:=I.turned (t':=s.toks+1) (λb o hb e=>(sb.2 b hb).trans e) f0 f1 f3 f4 f5;refine byG λGq hGq=>?_;obtain⟨o,e,cc,d⟩:=id st';refine hGq ?_;clear hGq Gq;exact⟨_,rfl,KY (s:={s with heap:=h',toks:=s.toks+1}) e cc d (by decide) ⟨.str ⟨#[c]⟩,H,I1,⟨_,rfl⟩,⟨rfl,c,hx,rfl⟩,st',λb hb=>(hf b hb).1⟩⟩
 done:=by intro X hP hw hK hc i ad s σ H E I hf st hg;subst hP hw hK;refine byG λGq hGq=>?_;obtain⟨f0,f1,f2,f3,f4,f5⟩:=hf it (by simp);refine hGq ?_;clear hGq Gq;exact wpAny_pyNext_ascii_end (I.ok.hd hc) st hg λh' eb=>⟨rfl,I.turned (t':=s.toks) (λb o hb e=>eb b o hb e) f0 f1 f3 f4 f5⟩
 self:=λ_ _ _ _ _ st h=>wpAny_pyIter_striter_ascii st h
def YX(tl:TE):TI:=λσ H R=>tl σ H λv H1=>∃x,v=.str x/\IC x/\R (X9 x) H1
theorem MY{l:Expr}(hl:PE X l tl):PI X tg l (YX tl):=by
 intro ad s σ H R I h;refine A9 (hl ad s σ H _ I h) λv s1 z9=>?_;obtain⟨x,H1,I1,r1,q1⟩:=z9;refine byG λGq hGq=>?_;obtain⟨z,e,ha,q⟩:=q1;refine hGq ?_;clear hGq Gq;subst e;obtain⟨t,rfl⟩:=r1;refine wpAny_pyIter_ascii ha ?_;refine⟨s1.heap.objs.size,[s1.heap.objs.size],_,_,H1,rfl,I1.kept (t':=s1.toks) λb o e=>ZN _ e,QF z t _,⟨_,ZU _ rfl,rfl,rfl⟩,λb hb=>?_,q⟩;have e:b=s1.heap.objs.size:=by simpa using hb
 subst e;exact I1.fpOk (ZR _) (I1.hok.fresh (ZR _))
theorem G4{D:qM}{Q:VK}(Pv:Nat->List V->Hp->Prop)(h0:Pv 0 [] (Am H D (.lst [])))
  (hs:∀i c c9 H2,x.cps[i]?=some c->Pv i c9 H2->tt (some (.str ⟨#[c]⟩)::σf) H2 λb H4=>if b=true then te (some (.str ⟨#[c]⟩)::σf) H4 λy H5=>H5 D=some (.lst c9)/\c9.length<sizeLine/\Pv (i+1) (c9++[y]) (Am H5 D (.lst (c9++[y]))) else Pv (i+1) c9 H4)
  (hd:∀c9 H2,Pv x.cps.size c9 H2->Q (.ref D) H2):C9 (X9 x) tt te σf D Q H:=by
 refine⟨λk i c9 H=>k=x.cps.size-i/\i<=x.cps.size/\Pv i c9 H,⟨x.cps.size,by simp,Nat.zero_le _,h0⟩,?_⟩;rintro k i c9 H2 ⟨rfl,hi,p⟩
 by_cases hlt:i<x.cps.size
 ·refine .inr ⟨⟨x.cps[i],by simp[hlt]⟩,Pv (i+1),λl H' p'=>⟨x.cps.size-(i+1),by lia,rfl,hlt,p'⟩,λv H' y=>?_⟩;refine byG λGq hGq=>?_;obtain⟨e,c,hc,e2⟩:=y;refine hGq ?_;clear hGq Gq;subst e e2;exact hs i c c9 _ hc p
 ·have e:i=x.cps.size:=by lia
  subst e;exact .inl ⟨by simp[X9],hd c9 H2 p⟩
end L2
namespace L2
open PySem PySem.Spec PyProof.Rows
variable{X:Cx}{g lo lo':Int}{i k:Nat}{pos:Pos}{c5:qR}{x:Str}
theorem E1:CH X (.type "int") (λxs H Q=>∃(x:Str) (n:Int),xs=[.str x]/\x.length<=640/\PySem.intText? x=some n/\Q (.int n) H):=by intro ad s σ H xs us Q I r h;obtain⟨x,n,rfl,hl,hn,q⟩:=h;obtain⟨u,rfl,t,rfl⟩:=CQ r;exact PySem.W.KIN.call_text hn hl ⟨.int n,H,I.tok _,⟨_,rfl⟩,q⟩
theorem Jt:∀{ys:List Str} {us:List qL},Ag (ys.map V.str) us->StrsAre us ys
 |[],_,.nil=>.nil
 |y::ys,_,.cons r rs=>by obtain⟨t,rfl⟩:=r;exact .cons y t (Jt rs)
theorem DT:U7 X "str.join" (λx xs H Q=>∃(sep:Str) (D:qM) (ys:List Str),x=.str sep/\xs=[.ref D]/\Ac X.K H D (ys.map V.str)/\(ys.map (·.length)).sum+ys.length*sep.length<=16777216/\Q (.str (Txt.join sep ys)) H):=by intro ad s σ H x xs v us Q I rx rs h;refine byG λGq hGq=>?_;obtain⟨sep,D,ys,rfl,rfl,hq,hz,q⟩:=h;refine hGq ?_;clear hGq Gq;obtain⟨t,rfl⟩:=rx;obtain⟨u,rfl,ru⟩:=CQ rs;cases ru;refine byG λGq hGq=>?_;obtain⟨its,rv,pl,hz2⟩:=I.list hq;refine hGq ?_;clear hGq Gq;exact join_list pl.isList (Jt rv) hz λt' k=>⟨.str _,H,I.tok _,⟨_,rfl⟩,q⟩
theorem ND{v:qL}{o:Option Int}(p:IsPart v o):∃l:Option (Int×Tok),v=partValue l/\l.map (·.1)=o:=by
 cases p with
 |none=>exact⟨none,rfl,rfl⟩
 |int i t=>exact⟨some (i,t),rfl,rfl⟩
theorem Ju:YN X (λx lo hi H Q=>∃z:Str,x=.str z/\z.length<=sizeLine/\Q (.str (Txt.slice z lo hi)) H):=by intro ad s σ H x v vl vu lo hi sl Q I rx hs pl pu h;refine byG λGq hGq=>?_;obtain⟨z,rfl,hz,q⟩:=h;refine hGq ?_;clear hGq Gq;obtain⟨t,rfl⟩:=rx;obtain⟨l,rfl,rfl⟩:=ND pl;obtain⟨u,rfl,rfl⟩:=ND pu;refine⟨"str",_,F.slot_str_getitem.lookup,typeIs_str s z t,wpAny_getItem_str_slice (l:=l) (u:=u) (st:=none) hs rfl ?_⟩;exact post_val_or_str ⟨Zl (Txt.slice_le z _ _) hz,λt' k=>⟨.str _,H,I.tok _,⟨_,rfl⟩,q⟩⟩
theorem OQ(bs:List Bool):(List.range bs.length).all (λi=>bs.getD i false)=bs.all id:=by
 rw[al,Zi,Zi];constructor
 ·intro h b hb;obtain⟨i,hi,e⟩:=List.getElem_of_mem hb;have z:=h i (Z5.mpr hi);rw[ZQ,ZP hi,e]at z;exact z
 ·intro h i hi;have hi':=Z5.mp hi;rw[ZQ,ZP hi'];exact h _ (aq hi')
theorem F2(hc:X.calm=true):CH X (.builtin "all") (λxs H Q=>∃(p:qM) (bs:List Bool),xs=[.ref p]/\Ac X.K H p (bs.map V.bl)/\Q (.bl (bs.all id)) H):=by
 intro ad s σ H xs us Q I r h;refine byG λGq hGq=>?_;obtain⟨p,bs,rfl,hq,q⟩:=h;refine hGq ?_;clear hGq Gq;obtain⟨u,rfl,rx⟩:=CQ r;cases rx;refine byG λGq hGq=>?_;obtain⟨its,rits,pl,hz⟩:=I.list hq;refine hGq ?_;clear hGq Gq;have hlen:=rits.length;rw[ZM]at hlen;have alt:p<s.heap.objs.size:=by obtain⟨o,e,_⟩:=pl.isList;exact ZO e
 refine call_all_walk (wpAny_pyIter_list pl.isList ?_);have up:∀b o,s.heap.get? b=some o->(s.heap.push {cls:=.type "list_iterator",data:=.fields #[.ref p,.int 0 0]}).get? b=some o:=λb o e=>ZN _ e
 refine⟨s.heap.objs.size,[s.heap.objs.size,p],[s.heap.objs.size],its.toArray.size,_,_,λi=>bs.getD i false,rfl,Walks.list (A:=X.A.in1) (I.ok.hd hc) _ p (Zj alt) its.toArray,⟨⟨_,ZU _ rfl,rfl,rfl⟩,pl.isList.at λo e=>up p o e⟩,λi v Q' E' s' hv hq'=>?_,λh' tk kk=>?_⟩
 ·have hv':its[i]?=some v:=by simpa using hv
  have hi:=(ZW.mp hv').1;obtain⟨u2,hu2,ru2⟩:=rits.get (x:=.bl (bs.getD i false)) (i:=i) (by rw[Zk,ZP (by lia),ZQ,ZP (by lia)];rfl);rw[hv']at hu2;cases hu2;cases ru2;exact wpAny_truthy_bool hq'
 ·refine⟨.bl (bs.all id),H,I.kept (t':=tk) λb o e=>kk b o (λz=>?_) (up b o e),?_,q⟩
  ·rw[ZX.mp z]at e;exact qE (ZO e) (Zn _)
  ·rw[Zq,<-hlen,OQ];rfl
theorem IZ{i:Str}(hg:Gl X x)(hm:∃t,X.mg x=some (.str i t))(hd:(x==("__debug__":Str))=false:=by decide):PE X (.Name x pos) (tC (.str i)):=by obtain⟨t,hm⟩:=hm;exact JD (v:=.str i) hg hm ⟨t,rfl⟩ hd
theorem Rm:∀c,c<128->(!(Builtin.Str.occurrences (Str.ofString "0123456789") ⟨#[c]⟩ 0 (Str.ofString "0123456789").length 1).isEmpty)=(decide (48<=c)&&decide (c<=57)):=by decide +kernel
theorem Rn:∀c,c<58->48<=c->PySem.intText? ⟨#[c]⟩=some ((c:Int)-48):=by decide +kernel
theorem E2:∀n,n<9->Str.ofString (toString ((n:Nat):Int))=⟨#[48+n]⟩:=by decide +kernel
section
variable{K:qQ}
theorem QG:PySem.W.kitOne K (.type "str") (.type "str")=some true:=by kernel_rfl
theorem V0:PySem.W.kitOne K (.type "int") (.type "str")=some false:=by kernel_rfl
theorem V1:PySem.W.kitOne K (.type "bool") (.type "str")=some false:=by kernel_rfl
theorem V2:PySem.W.kitOne K (.type "NoneType") (.type "str")=some false:=by kernel_rfl
theorem V3:PySem.W.kitOne K (.type "list") (.type "str")=some false:=by kernel_rfl
theorem V4:PySem.W.kitOne K (.type "tuple") (.type "str")=some false:=by kernel_rfl
end
theorem E3:∀n,n<9->(Int.natAbs ((n:Nat):Int)).log2<1920:=by decide +kernel
theorem G5(f:Int->Nat):∀ns:qR,Str.join (Str.ofString "") (ns.map λn=>(⟨#[f n]⟩:Str))=⟨(ns.map f).toArray⟩
 |[]=>rfl
 |[_]=>rfl
 |n::m::r=>by
  have z:=G5 f (m::r);rw[Zp]at z⊢;rw[Zp]at z⊢;show (⟨#[f n]⟩:Str)++Str.ofString ""++Str.join (Str.ofString "") ((⟨#[f m]⟩:Str)::r.map λn=>(⟨#[f n]⟩:Str))=_;rw[z];show (⟨(#[f n]++#[])++(f m::r.map f).toArray⟩:Str)=_
  congr 1
  simp
theorem Bj(f:Int->Nat)(ns:qR):Txt.join (Str.ofString "") (ns.map λn=>(⟨#[f n]⟩:Str))=⟨(ns.map f).toArray⟩:=by show Builtin.Str.glued (Str.ofString "") _=_;rw[PySem.StrLaws.glued_eq_join];exact G5 f ns
theorem E4(f:Int->Nat)(ns:qR):((ns.map λn=>(⟨#[f n]⟩:Str)).map (·.length)).sum=ns.length:=by
 induction ns with
 |nil=>rfl
 |cons n r ih =>
  rw[Zp,Zp,List.sum_cons,ih,Zb];show 1+r.length=r.length+1;lia
theorem OR:U7 X "str.startswith" (λx xs H Q=>∃a b:Str,x=.str a/\xs=[.str b]/\Q (.bl (Txt.startswith a b)) H):=by intro ad s σ H x xs v us Q I rx rs h;obtain⟨a,b,rfl,rfl,q⟩:=h;obtain⟨t,rfl⟩:=rx;obtain⟨u,rfl,t2,rfl⟩:=CQ rs;exact SC.startswith ⟨.bl _,H,I,rfl,q⟩
theorem Ia:∀(ys:List Str) (k:Nat),Ag (ys.map V.str) (strsFrom k ys)
 |[],_=>.nil
 |_::r,k=>.cons ⟨k,rfl⟩ (Ia r (k+1))
theorem LB:U7 X "str.split" (λx xs H Q=>∃a b:Str,x=.str a/\xs=[.str b]/\(b.length==0)=false/\a.length<=sizeLine/\(Txt.split a b).length<=sizeLine/\∀l,H l=none->Q (.ref l) (Am H l (.lst ((Txt.split a b).map V.str)))):=by
 intro ad s σ H x xs v us Q I rx rs h;obtain⟨a,b,rfl,rfl,hb,ha,hp,q⟩:=h;obtain⟨t,rfl⟩:=rx;obtain⟨u,rfl,t2,rfl⟩:=CQ rs;have fresh:=I.hok.fresh (ZR s.heap.objs.size)
 have one:∀(e:Txt.split a b=[a]),EP X ad σ Q (.ref s.heap.objs.size) {s with heap:=s.heap.push {cls:=.type "list",data:=.seq [Value.str a t].toArray}}:=λe=>by refine⟨.ref s.heap.objs.size,_,I.laid (t':=s.toks) (o:=.lst ((Txt.split a b).map V.str)) (λc o z=>ZN _ z) (ZR _) ?_,rfl,q _ fresh⟩;exact⟨by rw[ZM];exact hp,[Value.str a t],0,by rw[e];exact .cons ⟨t,rfl⟩ .nil,ZU _ rfl⟩
 cases h1:(decide (a.length<b.length)||decide (Builtin.Str.strKind a<Builtin.Str.strKind b)) with
 |true=>exact call_meets F.slot_str_split (typeIs_str _ _ _) F.entry_str_split (F.args_str_split_2 _ _) (meets_str_split_cannot_occur a b t t2 h1) (one (qD h1))
 |false =>
  cases hf:(Builtin.Str.occurrences a b 0 a.length (a.length+1)).isEmpty with
  |true=>exact call_meets F.slot_str_split (typeIs_str _ _ _) F.entry_str_split (F.args_str_split_2 _ _) (meets_str_split_not_found a b t t2 h1 hb hf) (one ((qC (ne_true_of_eq_false h1)).trans (qD hf)))
  |false =>
   have e:Txt.split a b=Builtin.Str.partsBetween a (Builtin.Str.occurrences a b 0 a.length (a.length+1)) b.length:=(qC (ne_true_of_eq_false h1)).trans (qC (ne_true_of_eq_false hf));rw[e]at hp;refine call_meets F.slot_str_split (typeIs_str _ _ _) F.entry_str_split (F.args_str_split_2 _ _) (meets_str_split_sep a b t t2 h1 hb hf ha hp) ?_;refine⟨.ref s.heap.objs.size,_,I.laid (o:=.lst ((Txt.split a b).map V.str)) (λc o z=>ZN _ z) (ZR _) ?_,rfl,q _ fresh⟩;exact⟨by rw[ZM,e];exact hp,strsFrom s.toks (Builtin.Str.partsBetween a (Builtin.Str.occurrences a b 0 a.length (a.length+1)) b.length),0,by rw[e];exact Ia _ _,ZU _ rfl⟩
def DZ(x:Str):Prop:=IC x/\x.cps.size<=600
noncomputable def YY(H:Hp):V->Prop
 |.str x=>DZ x
 |.int _=>True
 |.bl _=>True
 |.non=>True
 |.ref a=>∃xs,H a=some (.lst xs)\/H a=some (.tup xs)
 |_=>False
noncomputable def Ch(x:Str):qR:=x.cps.toList.map λc:Nat=>(c:Int)-48
noncomputable def Ba(hi:Nat)(x:Str):Bool:=x.cps.toList.all λc:Nat=>decide (48<=c)&&decide (c<=hi)
noncomputable def G6(x:Str):Option (qR):=if x=Str.ofString "-" then some [] else if x.cps.size=0 then none else if Ba 56 x then some (Ch x) else none
noncomputable def Ro:V->Option (qR)
 |.str x=>G6 x
 |_=>none
variable{c:Nat}
theorem Jv(h:IC x)(hc:x.cps[i]?=some c):c<128:=by unfold IC at h;rw[Array.all_eq_true]at h;obtain⟨hi,e⟩:=ac.mp hc;have:=h i hi;rw[e]at this;exact qI this
noncomputable def CW(ws:qR):Str:=⟨(ws.map λn=>(48+n).toNat).toArray⟩
inductive Jw(K:qQ)(vs:List V)(H:Hp)(Q:VK)(z3_:XK):Prop
 |m (a:qM) (ws:qR):vs=[.ref a]->Ac K H a (ws.map V.int)->(∀n∈ws,0<=n/\n<9)->ws.length<=300->(∀H',AI H H'->Q (.str (CW ws)) H')->Jw K vs H Q z3_
noncomputable def Ci(ws:qR):Str:=if ws=[] then Str.ofString "-" else CW ws
inductive DU(K:qQ)(vs:List V)(H:Hp)(Q:VK)(z3_:XK):Prop
 |m (a:qM) (ws:qR):vs=[.ref a]->Ac K H a (ws.map V.int)->(∀n∈ws,0<=n/\n<9)->ws.length<=300->(∀H',AI H H'->Q (.str (Ci ws)) H')->DU K vs H Q z3_
inductive E5(C:qM)(vs:List V)(H:Hp)(Q:VK)(E:XK):Prop
 |m (v:V):vs=[v]->YY H v->((∃x,v=.str x)->Q .non H)->((∀x,v≠.str x)->∀H',AI H H'->E (.ref C) none H')->E5 C vs H Q E
inductive E6(C:qM)(vs:List V)(H:Hp)(Q:VK)(E:XK):Prop
 |m (x:Str):vs=[.str x]->DZ x->(x.cps.size≠0->Ba 57 x=true->∀p H',EK H H' p (Ch x)->Q (.ref p) H')->((x.cps.size=0\/Ba 57 x=false)->∀H',AI H H'->E (.ref C) none H')->E6 C vs H Q E
inductive E7(C:qM)(vs:List V)(H:Hp)(Q:VK)(E:XK):Prop
 |m (v:V):vs=[v]->YY H v->(∀ws,Ro v=some ws->∀p H',EK H H' p ws->Q (.ref p) H')->(Ro v=none->∀H',AI H H'->E (.ref C) none H')->E7 C vs H Q E
theorem OS{hi:Nat}:((x.cps.toList.take x.cps.size).map λc:Nat=>decide (48<=c)&&decide (c<=hi)).all id=Ba hi x:=by rw[Zz (by rw[ZT];exact ZR _),List.all_map];rfl
theorem QH{hi:Nat}(h:Ba hi x=true)(hc:x.cps[i]?=some c):48<=c/\c<=hi:=by
 have hm:c∈x.cps.toList:=by rw[<-Array.getElem?_toList]at hc;exact Zv hc
 have z:=Zi.mp h c hm;rw[Ze,decide_eq_true_iff,decide_eq_true_iff]at z;exact z
theorem OT(h:Ba 57 x=false):Ba 56 x=false:=by
 cases e:Ba 56 x with
 |false=>rfl
 |true =>
  have y:Ba 57 x=true:=by unfold Ba at e⊢;rw[Zi]at e⊢;intro c hc;have z:=e c hc;rw[Ze,decide_eq_true_iff,decide_eq_true_iff]at z⊢;lia
  rw[h]at y;cases y
theorem ER(hc:x.cps[i]?=some c):x.cps.toList[i]?=some c:=by rw[Array.getElem?_toList];exact hc
theorem Rp(h:Ba 57 x=true):U8 (V.int 9) ((Ch x).map V.int)=!Ba 56 x:=by
 unfold U8 Ch Ba;unfold Ba at h;rw[List.any_map,List.any_map,List.all_eq_not_any_not,Bool.not_not]
 have e:∀c∈x.cps.toList,O0 (V.int ((c:Int)-48)) (V.int 9)=!(decide (48<=c)&&decide (c<=56)):=by
  intro c hc;have z:=Zi.mp h c hc;rw[Ze,decide_eq_true_iff,decide_eq_true_iff]at z;show ((c:Int)-48==9)=_
  by_cases y:c<=56
  ·rw[qF z.1,qF y];show ((c:Int)-48==9)=false;rw[beq_eq_false_iff_ne];lia
  ·rw[qF z.1,qG y];show ((c:Int)-48==9)=true;rw[beq_iff_eq];lia
 rw[al,List.any_eq_true,List.any_eq_true];constructor
 ·rintro⟨c,hc,z⟩;have y:O0 (V.int ((c:Int)-48)) (V.int 9)=true:=z;rw[e c hc]at y;exact⟨c,hc,y⟩
 ·rintro⟨c,hc,z⟩;exact⟨c,hc,show O0 (V.int ((c:Int)-48)) (V.int 9)=true by rw[e c hc];exact z⟩
theorem OU(ns:qR):(ns.map V.int).all Eh=true:=by rw[List.all_map,Zi];intro n _;rfl
theorem Cj(h:x.cps.size<=600):x.length<=sizeLine:=Zl h (by decide)
theorem OV(h:IC x)(l u:Option Int):IC (Txt.slice x l u):=by
 unfold Txt.slice;split
 ·exact h
 ·unfold IC;dsimp only;rw[List.all_toArray,Zi];intro c hc;obtain⟨i,_,e⟩:=ah.mp hc;exact qF (Jv h e)
theorem QI{ws:qR}(hb:∀n∈ws,0<=n/\n<9):G6 (Ci ws)=some ws:=by
 unfold Ci;split
 ·rename_i h
  rw[h];rfl
 ·rename_i h
  have hp:=ap.mpr h
  have fg:Ba 56 (CW ws)=true:=by unfold Ba CW;dsimp only;rw[Zi];intro c hc;obtain⟨n,hn,rfl⟩:=Zs.mp hc;have:=hb n hn;rw[Ze,decide_eq_true_iff,decide_eq_true_iff];lia
  have sz:¬(CW ws).cps.size=0:=by show ¬((ws.map λn=>(48+n).toNat).toArray).size=0;rw[Zq,ZM];lia
  have nd:¬CW ws=Str.ofString "-":=λz=>by rw[z]at fg;exact qE fg (by decide)
  unfold G6;rw[qC nd,qC sz,qD fg]
  congr 1
  unfold Ch CW;dsimp only;rw[bq];refine (aA λn hn=>?_).trans (List.map_id ws);have:=hb n hn;show (((48+n).toNat:Nat):Int)-48=n;lia
theorem Fj{m:Nat}(h:¬m<10):Nat.toDigits 10 m=Nat.toDigits 10 (m/10)++[Nat.digitChar (m%10)]:=by have hm:m%10<10:=Nat.mod_lt m (by decide);have t:Nat.toDigits 10 (m/10)++Nat.toDigits 10 (m%10)=Nat.toDigits 10 (10*(m/10)+m%10):=Nat.toDigits_append_toDigits (by decide) (by lia) hm;rw[Nat.div_add_mod]at t;rw[<-t,bY hm]
theorem Jx:∀(k m:Nat),m<10^(k+1)->(Nat.toDigits 10 m).length<=k+1
 |0,m,h=>by rw[Nat.toDigits_of_lt_base (by simpa using h)];exact ZR _
 |k+1,m,h=>by
  by_cases z:m<10
  ·rw[bY z];show 1<=_;lia
  ·rw[Fj z,Zg];have:=Jx k (m/10) (by rw[Nat.div_lt_iff_lt_mul (by decide)];rw[Nat.pow_succ]at h;exact h);show _+1<=_;lia
theorem Jy:∀(k m:Nat),10^k<=m->k+1<=(Nat.toDigits 10 m).length
 |0,m,_=>by
  by_cases z:m<10
  ·rw[bY z];exact ZR _
  ·rw[Fj z,Zg];show 1<=_+1;lia
 |k+1,m,h=>by
  have z:¬m<10:=λz=>by have:10^1<=10^(k+1):=Nat.pow_le_pow_right (by decide) (by lia);lia
  rw[Fj z,Zg];have:=Jy k (m/10) (by rw[Nat.le_div_iff_mul_le (by decide)];rw[Nat.pow_succ]at h;exact h);show _<=_+1;lia
noncomputable def Bf(n:Int):Str:=Str.ofString (toString n)
theorem Ck(m:Nat):(Bf (m:Int)).cps.toList=(Nat.toDigits 10 m).map Char.toNat:=PySem.W.KIN.signs_num m
theorem E8(m:Nat):(Bf (Int.negSucc m)).cps.toList=45::(Nat.toDigits 10 (m+1)).map Char.toNat:=by unfold Bf;rw[signs_ofString];show ("-"++Nat.repr (m+1)).toList.map Char.toNat=_;rw[String.toList_append,Zf,Nat.toList_repr];rfl
theorem DD(m:Nat):PySem.NumText.AllDigits ((Nat.toDigits 10 m).map Char.toNat):=by intro c hc;obtain⟨ch,hch,e⟩:=Zs.mp hc;have r:=digit_range (Nat.isDigit_of_mem_toDigits (by decide) (by decide) hch);rw[<-e];exact r
theorem Jz(m:Nat):(Nat.toDigits 10 m).map Char.toNat≠[]:=λe=>by
 have h:=Jy 0 m
 by_cases z:m=0
 ·subst z;exact qE e (by decide)
 ·have:=h (by lia);rw[List.map_eq_nil_iff.mp e]at this;exact qE this (by decide)
theorem ES{n:Int}(h:(Bf n).cps.size<=640):PySem.intText? (Bf n)=some n:=by
 have h2:(Bf n).length<=4300:=Zl h (by decide);cases n with
 |ofNat m =>
  have e:=PySem.intText_digits (x:=Bf (m:Int)) (by rw[Ck];exact DD m) (by rw[Ck];exact Jz m) h2;rw[Ck,PySem.W.KIN.val_back]at e;exact e
 |negSucc m =>
  have e:=PySem.intText_neg (E8 m) (DD (m+1)) (Jz (m+1)) h2;rw[PySem.W.KIN.val_back]at e;exact e
noncomputable def B7(c:Nat):List Nat->List (List Nat)
 |[]=>[[]]
 |a::r=>if a=c then[]::B7 c r else match B7 c r with
  |p::ps=>(a::p)::ps
  |[]=>[[a]]
theorem Dz:∀p:List Nat,c∉p->B7 c p=[p]
 |[],_=>rfl
 |a::r,h=>by rw[B7,qC (λz=>h (by rw[z];exact ZZ)),Dz r λz=>h (ZS _ z)]
theorem E9(r:List Nat):∀p:List Nat,c∉p->B7 c (p++c::r)=p::B7 c r
 |[],_=>by rw[List.nil_append,B7,qD rfl]
 |a::p,h=>by rw[bz,B7,qC (λz=>h (by rw[z];exact ZZ)),E9 r p λz=>h (ZS _ z)]
theorem Ic:∀ps:List Str,ps≠[]->(∀p∈ps,c∉p.cps.toList)->B7 c (Str.join ⟨#[c]⟩ ps).cps.toList=ps.map (·.cps.toList)
 |[],h,_=>qE rfl h
 |[x],_,h=>Dz _ (h x ZZ)
 |x::y::r,_,h=>by
  have z:=Ic (y::r) (by simp) λp hp=>h p (List.mem_cons_of_mem _ hp)
  show B7 c ((x.cps++#[c])++(Str.join ⟨#[c]⟩ (y::r)).cps).toList=_;rw[aN,aN,am];show B7 c (x.cps.toList++c::(Str.join ⟨#[c]⟩ (y::r)).cps.toList)=_;rw[E9 _ _ (h x ZZ),z];rfl
theorem QJ(x y:Str):Txt.split x y≠[]:=by
 unfold Txt.split;split
 ·simp
 ·split
  ·simp
  ·rw[StrLaws.partsBetween_eq];obtain⟨p,r,e⟩:=StrLaws.partsFrom_ne x y.length 0 (Builtin.Str.occurrences x y 0 x.length (x.length+1));rw[e];simp
theorem G7(x:Str)(c:Nat):(Txt.split x ⟨#[c]⟩).map (·.cps.toList)=B7 c x.cps.toList:=by have z:=Ic (Txt.split x ⟨#[c]⟩) (QJ _ _) (StrLaws.split_free x c);rw[StrLaws.join_split]at z;exact z.symm
theorem G8(c:Nat):∀l:List Nat,(B7 c l).length<=l.length+1/\∀p∈B7 c l,p.length<=l.length/\∀a∈p,a∈l
 |[]=>⟨ZR _,λp hp=>by rw[ZX.mp hp];exact⟨ZR _,λ_ z=>z⟩⟩
 |a::r=>by
  obtain⟨h1,h2⟩:=G8 c r;rw[B7];split
  ·refine⟨by rw[Zb,Zb];lia,λp hp=>?_⟩;rcases Zd.mp hp with z|z
   ·rw[z];exact⟨Nat.zero_le _,λ_ y=>qE y (by simp)⟩
   ·obtain⟨h3,h4⟩:=h2 p z;exact⟨by rw[Zb];lia,λb hb=>ZS _ (h4 b hb)⟩
  ·split
   ·rename_i q qs e
    rw[e]at h1 h2;refine⟨by rw[Zb]at h1⊢;rw[Zb];lia,λp hp=>?_⟩;rcases Zd.mp hp with z|z
    ·obtain⟨h3,h4⟩:=h2 q ZZ;rw[z];refine⟨by rw[Zb,Zb];lia,λb hb=>?_⟩;rcases Zd.mp hb with y|y
     ·rw[y];exact ZZ
     ·exact ZS _ (h4 b y)
    ·obtain⟨h3,h4⟩:=h2 p (ZS _ z);exact⟨by rw[Zb];lia,λb hb=>ZS _ (h4 b hb)⟩
   ·refine⟨by rw[Zb];exact Nat.le_add_left _ _,λp hp=>?_⟩;rw[ZX.mp hp];refine⟨by rw[Zb,Zb];exact Nat.succ_le_succ (Zw _),λb hb=>?_⟩;rw[ZX.mp hb];exact ZZ
noncomputable def BX(x:Str):List Str:=Txt.split x (Str.ofString ":")
theorem Sb:Str.ofString ":"=⟨#[58]⟩:=by decide +kernel
theorem Ie(x:Str):(BX x).map (·.cps.toList)=B7 58 x.cps.toList:=by unfold BX;rw[Sb];exact G7 x 58
theorem LC(h:DZ x):(BX x).length<=601/\∀p∈BX x,DZ p:=by have e:=Ie x;obtain⟨h1,h2⟩:=G8 58 x.cps.toList;have hs:=h.2;have hl:x.cps.toList.length=x.cps.size:=ZT;rw[<-e,ZM]at h1;refine⟨by lia,λp hp=>?_⟩;obtain⟨h3,h4⟩:=h2 p.cps.toList (by rw[<-e];exact List.mem_map_of_mem hp);rw[ZT,ZT]at h3;refine⟨?_,by lia⟩;have ha:=h.1;unfold IC at ha⊢;rw[<-Array.all_toList,Zi]at ha⊢;exact λc hc=>ha c (h4 c hc)
theorem J1{y:Str}(h:x.cps.toList=y.cps.toList):x=y:=by
 cases x;cases y
 congr 1
 exact Array.toList_inj.mp h
theorem B8{a b:List Str}(h:a.map (·.cps.toList)=b.map (·.cps.toList)):a=b:=by refine List.map_inj_right (f:=λx:Str=>x.cps.toList) (λx y e=>J1 e) |>.mp h
theorem LF{a b c:Str}(ha:58∉a.cps.toList)(hb:58∉b.cps.toList)(hc:58∉c.cps.toList):BX (a++Str.ofString ":"++b++Str.ofString ":"++c)=[a,b,c]:=by refine B8 ?_;rw[Ie];show B7 58 ((((a.cps++(Str.ofString ":").cps)++b.cps)++(Str.ofString ":").cps)++c.cps).toList=_;rw[Sb];simp only[Array.toList_append,List.append_assoc];show B7 58 (a.cps.toList++58::(b.cps.toList++58::c.cps.toList))=_;rw[E9 _ _ ha,E9 _ _ hb,Dz _ hc];rfl
theorem V5:Str.ofString "-"=⟨#[45]⟩:=by decide +kernel
theorem DV(x:Str):Txt.startswith x (Str.ofString "-")=true↔∃r,x.cps.toList=45::r:=by
 rw[V5];unfold Txt.startswith;rw[Ze,decide_eq_true_iff];rw[StrLaws.subAt_one x 45 0];cases x.cps.toList with
 |nil=>exact⟨λz=>by simp at z,λ⟨_,z⟩=>by cases z⟩
 |cons a r =>
  constructor
  ·intro z;have:a=45:=by simpa using z
   exact⟨r,by rw[this]⟩
  ·rintro⟨r',z⟩;cases z;rfl
noncomputable def A4(x:Str):Str:=if Txt.startswith x (Str.ofString "-")=true then Txt.slice x (some 1) none else x
theorem F3{r:List Nat}(h:x.cps.toList=45::r):(A4 x).cps.toList=r:=by
 unfold A4;rw[qD ((DV x).mpr ⟨r,h⟩)]
 have hl:x.length=r.length+1:=by show x.cps.size=_;rw[<-ZT,h,Zb]
 rw[slice_from_eq (x:=x) (i:=1) (b:=(x.length:Int)) (by decide) (by lia) rfl];show ((x.cps.toList.drop (Int.toNat 1)).take (((x.length:Int)-1).toNat))=r;rw[h];show r.take _=r;rw[Zz (by lia)]
theorem Dp(h:Txt.startswith x (Str.ofString "-")≠true):A4 x=x:=qC h
theorem MZ(h:DZ x):DZ (A4 x):=by
 unfold A4;split
 ·exact⟨OV h.1 _ _,Zl (Txt.slice_le x _ _) h.2⟩
 ·exact h
theorem NE:∀(cs:List Nat) (a:Nat),PySem.NumText.AllDigits cs->cs.foldl (λc9 c=>c9*10+(c-48)) a<(a+1)*10^cs.length
 |[],a,_=>by show a<(a+1)*1;lia
 |c::r,a,h=>by have h1:=NE r (a*10+(c-48)) h.tail;have h2:=h.head;have h3:(a*10+(c-48)+1)*10^r.length<=((a+1)*10)*10^r.length:=Nat.mul_le_mul_right _ (by lia);show r.foldl _ (a*10+(c-48))<(a+1)*10^(r.length+1);rw[Nat.pow_succ,Nat.mul_comm (10^r.length),<-Nat.mul_assoc];exact ZV h1 h3
theorem J3(cs:List Nat)(h:PySem.NumText.AllDigits cs):PySem.NumText.digitsVal cs<10^cs.length:=by have z:=NE cs 0 h;rw[Nat.zero_add,Nat.one_mul]at z;exact z
theorem LG(h:Ba 57 x=true):PySem.NumText.AllDigits x.cps.toList:=by intro c hc;have z:=Zi.mp h c hc;rw[Ze,decide_eq_true_iff,decide_eq_true_iff]at z;exact z
theorem CZ{n:Int}(h:n.natAbs<10^k)(hk:k<=200):n.natAbs.log2<1920:=by
 by_cases z:n.natAbs=0
 ·rw[z]
  decide
 ·rw[Nat.log2_lt z];have h1:10^k<=10^200:=Nat.pow_le_pow_right (by decide) hk;have h2:10^200<2^1920:=by decide +kernel
  exact ZV h (Zl h1 (a8 h2))
theorem OW(hx:x.cps.size<=600)(h0:(A4 x).cps.size≠0)(hf:Ba 57 (A4 x)=true)(h6:(A4 x).cps.size<=60):∃n:Int,PySem.intText? x=some n/\n.natAbs.log2<1920:=by
 have hd:=LG hf;have hv:=J3 _ hd;rw[ZT]at hv;have hne:(A4 x).cps.toList≠[]:=λz=>h0 (by rw[<-ZT,z];rfl)
 have h2:x.length<=4300:=Zl hx (by decide)
 by_cases hs:Txt.startswith x (Str.ofString "-")=true
 ·obtain⟨r,hr⟩:=(DV x).mp hs;have e:=F3 hr;rw[e]at hd hne hv;refine⟨_,PySem.intText_neg hr hd hne h2,CZ (k:=(A4 x).cps.size) ?_ (by lia)⟩;rw[Int.natAbs_neg,Int.natAbs_natCast];exact hv
 ·rw[Dp hs]at hd hne hv;refine⟨_,PySem.intText_digits hd hne h2,CZ (k:=x.cps.size) ?_ ?_⟩
  ·rw[Int.natAbs_natCast];exact hv
  ·rw[Dp hs]at h6;lia
structure ID(x:Str)(n:Int):Prop where
 n0:(A4 x).cps.size≠0
 fg:Ba 57 (A4 x)=true
 le:(A4 x).cps.size<=60
 eq:Bf n=x
theorem Fk{m:Nat}(h:x.cps.toList=(Nat.toDigits 10 m).map Char.toNat):Ba 57 x=true/\x.cps.size=(Nat.toDigits 10 m).length:=by
 constructor
 ·unfold Ba;rw[h,Zi];intro c hc;have z:=DD m c hc;rw[Ze,decide_eq_true_iff,decide_eq_true_iff];exact z
 ·rw[<-ZT,h,ZM]
theorem Ig(n:Int):(A4 (Bf n)).cps.toList=(Nat.toDigits 10 n.natAbs).map Char.toNat:=by
 cases n with
 |ofNat m =>
  have e:=Ck m
  have hs:Txt.startswith (Bf (m:Int)) (Str.ofString "-")≠true:=λz=>by obtain⟨r,hr⟩:=(DV _).mp z;rw[e]at hr;have:=DD m 45 (by rw[hr];exact ZZ);lia
  show (A4 (Bf (m:Int))).cps.toList=_;rw[Dp hs];exact e
 |negSucc m=>exact F3 (E8 m)
theorem J4{n:Int}(h:n.natAbs<10^60):ID (Bf n) n:=by have e:=Ig n;obtain⟨h1,h2⟩:=Fk e;have h3:=Jx 59 n.natAbs h;have h4:=Jy 0 n.natAbs;refine⟨λz=>Jz n.natAbs (by rw[<-e,<-List.length_eq_zero_iff,ZT];exact z),h1,by lia,rfl⟩
theorem DE{n:Int}(h:n.natAbs<10^(k+1)):(Bf n).cps.size<=k+2:=by
 have h3:=Jx k n.natAbs h;cases n with
 |ofNat m =>
  have h2:=(Fk (x:=Bf (m:Int)) (Ck m)).2;have h3':(Nat.toDigits 10 m).length<=k+1:=h3;show (Bf (m:Int)).cps.size<=_;lia
 |negSucc m =>
  have h3':(Nat.toDigits 10 (m+1)).length<=k+1:=h3;rw[<-ZT,E8,Zb,ZM];lia
theorem G9(n:Int):∀c∈(Bf n).cps.toList,c=45\/(48<=c/\c<=57):=by
 cases n with
 |ofNat m =>
  intro c hc;have hc':c∈(Bf (m:Int)).cps.toList:=hc;rw[Ck]at hc';exact .inr (DD m c hc')
 |negSucc m =>
  intro c hc;rw[E8]at hc;rcases Zd.mp hc with z|z
  ·exact .inl z
  ·exact .inr (DD (m+1) c z)
theorem Fl(hx:x.cps.size<=600){n m:Int}(h:PySem.intText? x=some m)(z:ID x n):n=m:=by have e:=ES (n:=n) (by rw[z.eq];lia);rw[z.eq,h]at e;exact (Option.some.inj e).symm
noncomputable def FC(g lo:Int)(c5:qR):Str:=⟨#[(48+g).toNat]⟩++Str.ofString ":"++Bf lo++Str.ofString ":"++CW c5
structure LH(x:Str)(g lo:Int)(c5:qR):Prop where
 pt:∃a b c,BX x=[a,b,c]/\a.cps.size=1/\Ba 57 a=true/\Ch a=[g]/\ID b lo/\c.cps.size≠0/\Ba 57 c=true/\Ch c=c5
 g2:2<=g
 g9:g<=9
 ok:Dk g (c5.map V.int)
noncomputable def Fm:V->Int->Int->qR->Prop
 |.str x,g,lo,c5=>LH x g lo c5
 |_,_,_,_=>False
inductive GW(C:qM)(vs:List V)(H:Hp)(Q:VK)(E:XK):Prop
 |m (x:Str):vs=[.str x]->DZ x->(∀n,ID x n->∀H',AI H H'->Q (.int n) H')->((∀n,¬ID x n)->∀H',AI H H'->E (.ref C) none H')->GW C vs H Q E
inductive J7(C:qM)(vs:List V)(H:Hp)(Q:VK)(E:XK):Prop
 |m (v:V):vs=[v]->YY H v->(∀g lo c5,Fm v g lo c5->(∀n∈c5,0<=n/\n<g)->∀r H',AI H H'->Ak H' r g lo c5->Q (.ref r) H')->((∀g lo c5,¬Fm v g lo c5)->∀H',AI H H'->E (.ref C) none H')->J7 C vs H Q E
inductive HN(vs:List V)(H:Hp)(Q:VK)(z3_:XK):Prop
 |m (a:qM) (ws:qR):vs=[.ref a]->H a=some (.tup (ws.map V.int))->(∀n∈ws,0<=n/\n<9)->ws.length<=300->(∀H',AI H H'->Q (.str (CW ws)) H')->HN vs H Q z3_
structure V6(H:Hp)(r:qM)(g lo:Int)(c5:qR):Prop where
 rv:Ak H r g lo c5
 g2:2<=g
 g9:g<=9
 ok:Dk g (c5.map V.int)
 tb:∀n∈c5,0<=n/\n<g
 far:lo.natAbs<10^130
inductive Fn(vs:List V)(H:Hp)(Q:VK)(z3_:XK):Prop
 |m (r:qM) (g lo:Int) (c5:qR):vs=[.ref r]->V6 H r g lo c5->(∀H',AI H H'->Q (.str (FC g lo c5)) H')->Fn vs H Q z3_
theorem NF:∀n,n<10->Str.ofString (toString ((n:Nat):Int))=⟨#[48+n]⟩:=by decide +kernel
theorem DF(hb:∀n∈c5,0<=n/\n<9):∀c∈(CW c5).cps.toList,48<=c/\c<=56:=by intro c hc;obtain⟨n,hn,rfl⟩:=Zs.mp (show c∈c5.map λn=>(48+n).toNat from hc);have:=hb n hn;lia
theorem DG(c5:qR):(CW c5).cps.size=c5.length:=by show ((c5.map λn=>(48+n).toNat).toArray).size=_;rw[Zq,ZM]
theorem OX(hb:∀n∈c5,0<=n/\n<9):Ch (CW c5)=c5:=by unfold Ch CW;dsimp only;rw[bq];refine (aA λn hn=>?_).trans (List.map_id c5);have:=hb n hn;show (((48+n).toNat:Nat):Int)-48=n;lia
theorem Ma(g2:2<=g)(g9:g<=9)(hb:∀n∈c5,0<=n/\n<9):BX (FC g lo c5)=[⟨#[(48+g).toNat]⟩,Bf lo,CW c5]:=by
 refine LF (λz=>?_) (λz=>?_) λz=>?_
 ·have:58=(48+g).toNat:=by simpa using z
  lia
 ·have:=G9 lo _ z;lia
 ·have:=DF hb _ z;lia
theorem OY(g2:2<=g)(g9:g<=9)(hb:∀n∈c5,0<=n/\n<9)(ok:Dk g (c5.map V.int))(hl:lo.natAbs<10^60):LH (FC g lo c5) g lo c5:=by
 have fg:∀x:Str,(∀c∈x.cps.toList,48<=c/\c<=57)->Ba 57 x=true:=λx h=>by unfold Ba;rw[Zi];intro c hc;rw[Ze,decide_eq_true_iff,decide_eq_true_iff];exact h c hc
 refine⟨⟨_,_,_,Ma g2 g9 hb,rfl,fg _ (λc hc=>?_),?_,J4 hl,?_,fg _ (λc hc=>?_),OX hb⟩,g2,g9,ok⟩
 ·have:c=(48+g).toNat:=by simpa using hc
  lia
 ·show[(((48+g).toNat:Nat):Int)-48]=[g]
  congr 1
  lia
 ·obtain⟨_,⟨m,m1,e⟩,_⟩:=ok;rw[DG];rw[ZM]at e;have:=RW.A1 g2 m;lia
 ·have:=DF hb c hc;lia
theorem Mb(tx:DZ x){g':Int}{tab':qR}(h:LH x g lo c5)(h':LH x g' lo' tab'):g=g'/\lo=lo'/\c5=tab':=by refine byG λGq hGq=>?_;obtain⟨⟨a,b,c,e,a1,a2,a3,a4,a5,a6,a7⟩,_,_,_⟩:=h;refine hGq ?_;clear hGq Gq;refine byG λGq hGq=>?_;obtain⟨⟨a',b',c',e',b1,b2,b3,b4,b5,b6,b7⟩,_,_,_⟩:=h';refine hGq ?_;clear hGq Gq;have kb:=(LC tx).2 b (by rw[e];simp);rw[e]at e';cases e';rw[a3]at b3;refine⟨(List.cons.inj b3).1,?_,a7.symm.trans b7⟩;have r:=ES (n:=lo') (by rw[b4.eq];have:=kb.2;lia);rw[b4.eq]at r;exact Fl kb.2 r a4
theorem Rq(c:Nat):∀l:List Nat,B7 c l≠[]
 |[]=>by simp[B7]
 |a::l=>by
  rw[B7];split
  ·simp
  ·split<;>simp
theorem Mc{a:Nat}(h2:a<=x.length):(Txt.slice x (some ((a:Nat):Int)) none).cps.toList=x.cps.toList.drop a:=by rw[slice_from_eq (x:=x) (i:=((a:Nat):Int)) (b:=(x.length:Int)) (by lia) (by lia) rfl];show (x.cps.toList.drop ((a:Nat):Int).toNat).take ((x.length:Int)-((a:Nat):Int)).toNat=_;rw[Zh,Zz];rw[Z1,ZT];show x.cps.size-a<=((x.cps.size:Int)-(a:Int)).toNat;lia
end L2
namespace L2
theorem NG{i j:Int}:Nq (.int i) (.int j)=true:=rfl
theorem NH{i j:Bool}:Nq (.bl i) (.bl j)=true:=rfl
theorem NI:Nq .non .non=true:=rfl
theorem NJ{i:Int}:Nq (.int i) .non=true:=rfl
end L2
namespace L2
open PySem PySem.Spec PyProof.Rows
variable{E Q:qL->qN->Prop}{H H':Hp}{T:String}{X:Cx}{a b:qM}{e:Expr}{h h':Heap}{ad:List (qM×Obj)}{pos:Pos}{s:qN}{t':Nat}{u:qL}{y:V}{σ:St}
section
variable{κ:Type}[DecidableEq κ]
noncomputable def Da(kvs:List (κ×V))(k:κ):Option V:=(kvs.find? λkv=>decide (kv.1=k)).map (·.2)
noncomputable def D5(kvs:List (κ×V))(k:κ)(v:V):List (κ×V):=
 if (kvs.any λkv=>decide (kv.1=k))=true then kvs.map (λkv=>if kv.1=k then (kv.1,v) else kv) else kvs++[(k,v)]
noncomputable def FD(kvs:List (κ×V))(k:κ):List (κ×V):=kvs.filter λkv=>decide (kv.1≠k)
theorem FE{p:κ×V}{r:List (κ×V)}{k:κ}(e:p.1=k):Da (p::r) k=some p.2:=by simp[Da,List.find?_cons,e]
theorem HP{p:κ×V}{r:List (κ×V)}{k:κ}(e:¬p.1=k):Da (p::r) k=Da r k:=by simp[Da,List.find?_cons,e]
theorem LI(k:κ):∀kvs:List (κ×V),(kvs.any λkv=>decide (kv.1=k))=(Da kvs k).isSome
 |[]=>rfl
 |p::r=>by
  rw[aX]
  by_cases e:p.1=k
  ·simp only[FE e,qF e,Bool.true_or,Option.isSome_some]
  ·rw[HP e,qG e,Bool.false_or];exact LI k r
theorem F4(kvs:List (κ×V))(k:κ)(v:V):(D5 kvs k v).length<=kvs.length+1:=by
 unfold D5;split
 ·rw[ZM];lia
 ·rw[Zg,Zb,List.length_nil];lia
theorem Co.isSome_eq{o:Option V}{u:Option qL}(r:Co o u):o.isSome=u.isSome:=by
 cases o with
 |none=>cases u with
  |none=>rfl
  |some _=>exact (show False from r).elim
 |some _=>cases u with
  |none=>exact (show False from r).elim
  |some _=>rfl
theorem Co.getD{o:Option V}{u:Option qL}{d:V}{d':qL}(r:Co o u)(rd:Al d d'):Al (o.getD d) (u.getD d'):=by
 cases o with
 |none=>cases u with
  |none=>exact rd
  |some _=>exact (show False from r).elim
 |some _=>cases u with
  |none=>exact (show False from r).elim
  |some _=>exact r
theorem KV.val{kvs:List (κ×V)}{vs:List (κ×qL)}(r:KV kvs vs)(k:κ):Co (Da kvs k) (valueAt vs k):=by
 unfold KV at r
 induction r with
 |nil=>exact True.intro
 | @cons p q ps qs h t ih =>
  obtain⟨h1,h2⟩:=h
  by_cases e:p.1=k
  ·have e':q.1=k:=h1.symm.trans e;have b:valueAt (q::qs) k=some q.2:=by simp[valueAt,List.find?_cons,e']
   rw[FE e,b];exact h2
  ·have e':¬q.1=k:=λz=>e (h1.trans z)
   have b:valueAt (q::qs) k=valueAt qs k:=by simp[valueAt,List.find?_cons,e']
   rw[HP e,b];exact ih
theorem KV.any{kvs:List (κ×V)}{vs:List (κ×qL)}(r:KV kvs vs)(k:κ):(kvs.any λkv=>decide (kv.1=k))=vs.any λkv=>decide (kv.1=k):=by
 unfold KV at r
 induction r with
 |nil=>rfl
 |cons h t ih=>rw[aX,aX,ih,h.1]
theorem KV.repl{kvs:List (κ×V)}{vs:List (κ×qL)}(r:KV kvs vs)(k:κ)(ry:Al y u):
  KV (kvs.map λkv=>if kv.1=k then (kv.1,y) else kv) (vs.map λkv=>if kv.1=k then (kv.1,u) else kv):=by
 unfold KV at r⊢
 induction r with
 |nil=>exact .nil
 | @cons p q ps qs h t ih =>
  rw[Zp,Zp];refine .cons ?_ ih;obtain⟨h1,h2⟩:=h
  by_cases e:p.1=k
  ·rw[qD e,qD (h1.symm.trans e)];exact⟨h1,ry⟩
  ·rw[qC e,qC (λz=>e (h1.trans z))];exact⟨h1,h2⟩
theorem KV.put{kvs:List (κ×V)}{vs:List (κ×qL)}(r:KV kvs vs)(k:κ)(ry:Al y u):KV (D5 kvs k y) (stored vs k u):=by
 unfold D5 stored;rw[r.any k]
 by_cases e:(vs.any λkv=>decide (kv.1=k))=true
 ·rw[qD e,qD e];exact r.repl k ry
 ·rw[qC e,qC e];exact Paired.snoc r ⟨rfl,ry⟩
theorem KV.drop{kvs:List (κ×V)}{vs:List (κ×qL)}(r:KV kvs vs)(k:κ):KV (FD kvs k) (without vs k):=by
 unfold KV at r⊢;unfold FD without
 induction r with
 |nil=>exact .nil
 | @cons p q ps qs h t ih =>
  obtain⟨h1,h2⟩:=h;rw[au,au]
  by_cases e:p.1=k
  ·have a:¬decide (p.1≠k)=true:=by simp[e]
   have b:¬decide (q.1≠k)=true:=by simp[h1.symm.trans e]
   rw[qC a,qC b];exact ih
  ·have e':¬q.1=k:=λz=>e (h1.trans z)
   have a:decide (p.1≠k)=true:=by simp[e]
   have b:decide (q.1≠k)=true:=by simp[e']
   rw[qD a,qD b];exact .cons ⟨h1,h2⟩ ih
theorem KV.length{kvs:List (κ×V)}{vs:List (κ×qL)}(r:KV kvs vs):kvs.length=vs.length:=Paired.length r
theorem QK(kvs:List (κ×V))(k:κ):(FD kvs k).length<=kvs.length:=aH _ _
end
theorem Ih{P:qO}{w:qP}{k:CG}(r:Al (kV k) u):(BA P w).is k u=true:=by
 cases k with
 |inl i=>obtain⟨t,e⟩:=(show ∃t,u=Value.int i t from r);subst e;exact KS P w i t
 |inr x=>obtain⟨t,e⟩:=(show ∃t,u=Value.str x t from r);subst e;exact KU P w x t
theorem Ii{P:qO}{w:qP}:∀{ks:List CG} {us:List qL},Ag (ks.map kV) us->ItemsAre (BA P w) ks us
 |[],_,r=>by rw[List.map_nil]at r;cases r;exact .nil
 |k::ks,_,r=>by
  rw[Zp]at r;cases r with
  |cons h t=>exact .cons (Ih h) (Ii t)
abbrev NK(H:Hp):List (List CG×V)->List (List CG×qM×qL)->Prop:=Paired λp q=>p.1=q.1/\H q.2.1=some (.tup (p.1.map kV))/\Al p.2 q.2.2
variable{kvs:List (List CG×V)}
theorem NK.val{xs:List (List CG×qM×qL)}(r:NK H kvs xs)(k:List CG):Co (Da kvs k) ((atKey xs k).map (·.2)):=by
 induction r with
 |nil=>exact True.intro
 | @cons p q ps qs h t ih =>
  obtain⟨h1,_,h2⟩:=h
  by_cases e:p.1=k
  ·have e':q.1=k:=h1.symm.trans e;have b:atKey (q::qs) k=some q.2:=by simp[atKey,List.find?_cons,e']
   rw[FE e,b];exact h2
  ·have e':¬q.1=k:=λz=>e (h1.trans z)
   have b:atKey (q::qs) k=atKey qs k:=by simp[atKey,List.find?_cons,e']
   rw[HP e,b];exact ih
theorem NK.repl{xs:List (List CG×qM×qL)}(r:NK H kvs xs)(k:List CG)(ry:Al y u):
  NK H (kvs.map λkv=>if kv.1=k then (kv.1,y) else kv) (xs.map (putAt k u)):=by
 induction r with
 |nil=>exact .nil
 | @cons p q ps qs h t ih =>
  rw[Zp,Zp];refine .cons ?_ ih;obtain⟨h1,h2,h3⟩:=h;unfold putAt
  by_cases e:p.1=k
  ·rw[qD e,qD (h1.symm.trans e)];exact⟨h1,h2,ry⟩
  ·rw[qC e,qC (λz=>e (h1.trans z))];exact⟨h1,h2,h3⟩
theorem NK.put{xs:List (List CG×qM×qL)}(r:NK H kvs xs)(k:List CG)(hb:H b=some (.tup (k.map kV)))(ry:Al y u):
  NK H (D5 kvs k y) (storedH xs k b u):=by
 have e:(kvs.any λkv=>decide (kv.1=k))=(atKey xs k).isSome:=by rw[LI,(r.val k).isSome_eq,Option.isSome_map]
 unfold D5 storedH;rw[e]
 by_cases q:(atKey xs k).isSome=true
 ·rw[qD q,qD q];exact r.repl k ry
 ·rw[qC q,qC q];exact Paired.snoc r ⟨rfl,hb,ry⟩
theorem NK.keeps{xs:List (List CG×qM×qL)}(r:NK H kvs xs)(ht:∀b ys,H b=some (.tup ys)->H' b=some (.tup ys)):NK H' kvs xs:=
 Paired.mapP r λ_ _ z=>⟨z.1,ht _ _ z.2.1,z.2.2⟩
section
variable{P:qO}{w:qP}
theorem Sc{u:HO}(ok:Ds P w H h)(e:Rd H a u):Av P w H h a u:=e.ok ok
theorem HQ{kvs:List (CG×V)}(ok:Ds P w H h)(e:Rd H a (.dK kvs)):kvs.length<=sizeLine/\(a==sysModules)=false/\∃vs,KV kvs vs/\h.DictOf (BA P w) a vs:=
 show Av P w H h a (.dK kvs) from Sc ok e
theorem Sd{kvs:List (CG×V)}(ok:Ds P w H h)(e:H a=some (.dK kvs)):kvs.length<=sizeLine/\(a==sysModules)=false/\∃vs,KV kvs vs/\h.DictOf (BA P w) a vs:=HQ ok (.inl e)
theorem HR{ks:List CG}(ok:Ds P w H h)(e:H a=some (.tup (ks.map kV))):(tupleKind (BA P w)).is h ks a:=by refine byG λGq hGq=>?_;obtain⟨_,its,r,o,h1,h2,n,h3⟩:=(show Av P w H h a (.tup (ks.map kV)) from ok a _ e);refine hGq ?_;clear hGq Gq;exact⟨o,its.toArray,n,h1,h2,h3,by simpa using Ii r⟩
theorem Ij(ok:Ds P w H h)(e:Rd H a (.dT kvs)):kvs.length<=sizeLine/\(a==sysModules)=false /\
  ∃xs,NK H kvs xs/\h.DictOfH (tupleKind (BA P w)) a xs:=by
 refine byG λGq hGq=>?_;obtain⟨z,y,xs,r,o,es,ep,h1,h2,h3,h4,h5⟩:=(show Av P w H h a (.dT kvs) from Sc ok e);refine hGq ?_;clear hGq Gq;refine⟨z,y,xs,r,o,es,ep,h1,h2,h3,h4,λx hx=>?_,h5⟩
 have all:∀{l:List (List CG×V)} {m:List (List CG×qM×qL)},NK H l m->∀x∈m,(tupleKind (BA P w)).is h x.1 x.2.1:=by
  intro l m q
  induction q with
  |nil=>intro x hx;exact nomatch hx
  | @cons p q ps qs hq t ih =>
   intro x hx;rcases Zd.mp hx with e|hx
   ·subst e;exact HR ok (by rw[<-hq.1];exact hq.2.1)
   ·exact ih x hx
 exact all r x hx
theorem V7(ok:Ds P w H h)(e:H a=some (.dT kvs)):kvs.length<=sizeLine/\(a==sysModules)=false /\
  ∃xs,NK H kvs xs/\h.DictOfH (tupleKind (BA P w)) a xs:=Ij ok (.inl e)
end
def IE(H:Hp)(a:qM)(y:V)(r:Option V):Prop:=
 (∃kvs k,Rd H a (.dK kvs)/\y=kV k/\r=Da kvs k)\/∃kvs k b,Rd H a (.dT kvs)/\y=.ref b/\H b=some (.tup (k.map kV))/\r=Da kvs k
def V8(H:Hp)(a:qM)(y v:V)(H':Hp):Prop:=
 (∃kvs k,H a=some (.dK kvs)/\y=kV k/\kvs.length<sizeLine/\H'=Am H a (.dK (D5 kvs k v))) \/
 ∃kvs k b,H a=some (.dT kvs)/\y=.ref b/\H b=some (.tup (k.map kV))/\kvs.length<sizeLine/\H'=Am H a (.dT (D5 kvs k v))
section
variable{v:V}{r:qL}{o:Option V}{A:Around}
theorem AW.big(I:AW X ad σ H s):sysModules<s.heap.objs.size:=by have h:mainGlobals<s.heap.objs.size:=(I.mod.glob.keeps I.bk).lt;exact br (by decide) h
theorem OZ(hu:A.units+1<cLine)(I:AW X ad σ H s)(g:IE H a y (some v))(ry:Al y u)(h:∀w' s',AW X ad σ H s'->Al v w'->Q w' s'):
  wpAny (model X.prog X.w) A (getItem (.ref a) u) Q E s:=by
 rcases g with⟨kvs,k,e,ey,l⟩|⟨kvs,k,b,e,ey,eb,l⟩
 ·subst ey;refine byG λGq hGq=>?_;obtain⟨z,hd,vs,rel,dd⟩:=HQ I.hok e;refine hGq ?_;clear hGq Gq;obtain⟨w',hw,rw'⟩:=Co.some_of (v:=v) (o:=valueAt vs k) (by rw[l];exact rel.val k);exact wpAny_getItem_of (Ih ry) dd.mapOf hw (h w' _ (I.tok _) rw')
 ·subst ey;cases (show u=Value.ref b from ry);refine byG λGq hGq=>?_;obtain⟨z,hd,xs,rel,dd⟩:=Ij I.hok e;refine hGq ?_;clear hGq Gq;obtain⟨w',hw,rw'⟩:=Co.some_of (v:=v) (o:=(atKey xs k).map (·.2)) (by rw[l];exact rel.val k);obtain⟨p,hp,hp2⟩:=aw.mp hw;refine wpAny_getItem_heap (tupleKind_room_in1 hu) (HR I.hok eb) dd hp ?_;rw[hp2];exact h w' _ (I.tok _) rw'
theorem Rr(hu:A.units+1<cLine)(I:AW X ad σ H s)(g:IE H a y o)(ry:Al y u)(h:∀s',AW X ad σ H s'->Q (.bool (!o.isSome)) s'):
  wpAny (model X.prog X.w) A (compareOp .NotIn u (.ref a)) Q E s:=by
 rcases g with⟨kvs,k,e,ey,l⟩|⟨kvs,k,b,e,ey,eb,l⟩
 ·subst ey;refine byG λGq hGq=>?_;obtain⟨z,hd,vs,rel,dd⟩:=HQ I.hok e;refine hGq ?_;clear hGq Gq;refine wpAny_notIn_of (Ih ry) hd dd.mapOf ?_;rw[<-(rel.val k).isSome_eq,<-l];exact h _ (I.tok _)
 ·subst ey;cases (show u=Value.ref b from ry);refine byG λGq hGq=>?_;obtain⟨z,hd,xs,rel,dd⟩:=Ij I.hok e;refine hGq ?_;clear hGq Gq;refine wpAny_notIn_heap (tupleKind_room_in1 hu) (HR I.hok eb) hd dd ?_;have q:=(rel.val k).isSome_eq;rw[Option.isSome_map]at q;rw[<-q,<-l];exact h _ (I.tok _)
theorem J8{ob:HO}(I:AW X ad σ H s)(mu:VC (H a))(hs:Heap.SameBut a s.heap h')(he:∃q,h'.get? a=some q)(new:Av X.prog X.w (Am H a ob) h' a ob):
  AW X ad σ (Am H a ob) {s with heap:=h',toks:=t'}:=
 I.write (x:=a) (e:=a) mu (.inl rfl) (λb q hb z=>(hs.2 b hb).trans z) he new
theorem QL{P:qO}{w:qP}{kvs:List (CG×V)}{vs:List (CG×qL)}(z:kvs.length<=sizeLine)(hd:(a==sysModules)=false)(rel:KV kvs vs)(dd:h'.DictOf (BA P w) a vs):
  Av P w H' h' a (.dK kvs):=⟨z,hd,vs,rel,dd⟩
theorem Oa{Q:Unit->qN->Prop}(hu:A.units+1<cLine)(I:AW X ad σ H s)(g:V8 H a y v H')(ry:Al y u)(rv:Al v r)(h:∀s',AW X ad σ H' s'->Q () s'):
  wpAny (model X.prog X.w) A (setItem (.ref a) u r) Q E s:=by
 rcases g with⟨kvs,k,e,ey,l,eH⟩|⟨kvs,k,b,e,ey,eb,l,eH⟩
 ·subst ey eH;refine byG λGq hGq=>?_;obtain⟨z,hd,vs,rel,dd⟩:=Sd I.hok e;refine hGq ?_;clear hGq Gq;have hz:vs.length<=sizeLine:=by rw[<-rel.length];exact z
  have hl:(D5 kvs k v).length<=sizeLine:=by have:=F4 kvs k v;lia
  refine wpAny_setItem_pairs (hsz:=hz) (Ih ry) dd λh' dd' hs=>h _ ?_
  have he:∃q,h'.get? a=some q:=let ⟨q,_,_,hq,_⟩:=dd';⟨q,hq⟩;exact J8 I (by rw[e];exact True.intro) hs he (QL hl hd (rel.put k rv) dd')
 ·subst ey eH;cases (show u=Value.ref b from ry);refine byG λGq hGq=>?_;obtain⟨z,hd,xs,rel,dd⟩:=V7 I.hok e;refine hGq ?_;clear hGq Gq;have hz:xs.length<=sizeLine:=by rw[<-Paired.length rel];exact z
  have hl:(D5 kvs k v).length<=sizeLine:=by have:=F4 kvs k v;lia
  refine wpAny_setItem_heap (hsz:=hz) (tupleKind_room_in1 hu) (HR I.hok eb) dd λh' dd' hs=>h _ ?_
  refine byG λGq hGq=>?_;obtain⟨q,es,ep,hq,h2,h3,h4,_,h5⟩:=dd';refine hGq ?_;clear hGq Gq;refine J8 I (by rw[e];exact True.intro) hs ⟨q,hq⟩ ⟨hl,hd,_,(rel.put k eb rv).keeps λc ys ec=>?_,q,es,ep,hq,h2,h3,h4,h5⟩;rw[AR (VB ec e (λz=>nomatch z))];exact ec
end
section
variable{kvs:List (CG×V)}{k:CG}{A:Around}
theorem V9{v:V}{more:List qL}(I:AW X ad σ H s)(e:H a=some (.dK kvs))(ry:Al (kV k) u)(l:Da kvs k=some v)(hm:more=[]\/∃x,more=[x])
  (h:∀w' s',AW X ad σ (Am H a (.dK (FD kvs k))) s'->Al v w'->Q w' s'):wpAny (model X.prog X.w) A (call (.builtin "dict.pop") (.ref a::u::more)) Q E s:=by
 obtain⟨z,hd,vs,rel,dd⟩:=Sd I.hok e;obtain⟨w',hw,rw'⟩:=Co.some_of (v:=v) (o:=valueAt vs k) (by rw[<-l];exact rel.val k)
 have hp:(keyPart u).isSome=true:=by
  cases k with
  |inl i=>obtain⟨t,q⟩:=(show ∃t,u=Value.int i t from ry);subst q;rfl
  |inr x=>obtain⟨t,q⟩:=(show ∃t,u=Value.str x t from ry);subst q;rfl
 have ha:argsOk "dict.pop" ⟨.ref a::u::more,[]⟩:=by
  rcases hm with q|⟨x,q⟩
  ·subst q;exact PySem.F.args_dict_pop_2 _ _
  ·subst q;exact PySem.F.args_dict_pop_3 _ _ _
 refine call_meetsIn bt dd.typeIs PySem.F.entry_dict_pop ha (meets_dict_pop_there (BA X.prog X.w) a (Ih ry) more hm hp)
  ⟨vs,w',dd,by rw[<-rel.length];exact z,hw,λh' dd' hs=>h w' _ ?_ rw'⟩
 have he:∃q,h'.get? a=some q:=let ⟨q,_,_,hq,_⟩:=dd';⟨q,hq⟩;exact J8 I (by rw[e];exact True.intro) hs he (QL (Zl (QK kvs k) z) hd (rel.drop k) dd')
end
def Td(i:Expr):Prop:=∀ov iv,subscripted i false ov iv=operate [ov,iv] (getItem ov iv)
theorem NL{prog:qO}{w:qP}{A:Around}{env:Env}{value slice:Expr}{id:String}
  (hl:typeLookup (.type T) "__getitem__"=pure (some (.builtin id))) (hs:Td slice)
  (h:wpAny (model prog w) A (eval value env) (λo s₁=>wpAny (model prog w) A (eval slice env) (λi s₂=>s₂.TypeIs o T/\wpAny (model prog w) A (getItem o i) Q E s₂) E s₁) E s):
  wpAny (model prog w) A (eval (.Subscript value slice pos) env) Q E s:=by
 refine Subscript_ (qH h (λo s₁ h₁=>qH h₁ (λi s₂ h₂=>?_) λ_ _ x=>x) λ_ _ x=>x);obtain⟨hT,h₂⟩:=h₂;unfold subscriptTail;refine qA ?_;rw[getitemInPython_of_ne hT.not_modules];refine qA (wpAny_specialOf hT hl ?_)
 have fin:wpAny (model prog w) A (subscripted slice false o i) (λr s₃=>wpAny (model prog w) A (letTemporaryGo value o r >>= λ_=>pure r) Q E s₃) E s₂:=by rw[hs o i];exact wpAny_operating (qH h₂ (λr s₃ h₃=>qA (wpAny_letTemporaryGo (qB h₃))) λ_ _ x=>x)
 first
  |exact qB (qA fin)
  |exact qA (qB (qA fin))
  |exact qA fin
theorem LJ{o:Option V}(I:AW X ad σ H s)(g:IE H a y o):s.TypeIs (.ref a) "dict":=by
 rcases g with⟨kvs,k,e,_,_⟩|⟨kvs,k,b,e,_,_,_⟩
 ·obtain⟨_,_,vs,_,dd⟩:=HQ I.hok e;exact dd.typeIs
 ·obtain⟨_,_,xs,_,dd⟩:=Ij I.hok e;exact dd.typeIs
def WA(td ty:TE):TE:=λσ H Q=>td σ H λx H1=>ty σ H1 λy H2=>∃a v,x=.ref a/\IE H2 a y (some v)/\Q v H2
def Rt(ty td:TE):TE:=λσ H Q=>ty σ H λy H1=>td σ H1 λx H2=>∃a o,x=.ref a/\IE H2 a y o/\Q (.bl (!o.isSome)) H2
def WB(td ty tv:TE):TS:=λD σ H=>tv σ H λv H1=>td σ H1 λx H2=>ty σ H2 λy H3=>∃a H4,x=.ref a/\V8 H3 a y v H4/\D.nx σ H4
section
variable{o i value:Expr}{pos' tpos:Pos}{td ty tv:TE}
theorem Cz(hu:X.A.units+1<cLine)(ho:PE X o td)(hi:PE X i ty)(hs:Td i):PE X (.Subscript o i pos) (WA td ty):=by intro ad s σ H Q I h;refine NL PySem.F.slot_dict_getitem.lookup hs (A9 (ho ad s σ H _ I h) λu s1 ⟨x,H1,I1,rx,q1⟩=>A9 (hi ad s1 σ H1 _ I1 q1) λiv s2 z9=>?_);obtain⟨y,H2,I2,ry,a,v,ex,g,q2⟩:=z9;subst ex;obtain rfl:u=Value.ref a:=rx;exact⟨LJ I2 g,OZ hu I2 g ry λw' s3 I3 rw'=>⟨v,H2,I3,rw',q2⟩⟩
theorem D0(hu:X.A.units+1<cLine)(hi:PE X i ty)(ho:PE X o td):PC X .NotIn i o (Rt ty td):=by
 intro ad s σ H Q I h;refine A9 (hi ad s σ H _ I h) λiv s1 ⟨y,H1,I1,ry,q1⟩=>A9 (ho ad s1 σ H1 _ I1 q1) λu s2 z9=>?_
 obtain⟨x,H2,I2,rx,a,ov,ex,g,q2⟩:=z9;subst ex;obtain rfl:u=Value.ref a:=rx;exact Rr hu I2 g ry λs3 I3=>⟨.bl (!ov.isSome),H2,I3,rfl,q2⟩
theorem GX(hu:X.A.units+1<cLine)(ho:PE X o td)(hi:PE X i ty)(hv:PE X value tv)(hs:swapsWith value (some (.Subscript o i pos')) pos.line X.env=pure false):
  PS X (.Assign [.Subscript o i pos'] value pos) (WB td ty tv):=by
 intro ad s σ H D I h;refine wpAny_Assign_Subscript (A9 (hv ad s σ H _ I h) λr s1 ⟨v,H1,I1,rv,q1⟩=>A9 (ho ad s1 σ H1 _ I1 q1) λu s2 ⟨x,H2,I2,rx,q2⟩=>A9 (hi ad s2 σ H2 _ I2 q2) λiv s3 z9=>?_) hs;obtain⟨y,H3,I3,ry,a,H4,ex,g,q3⟩:=z9;subst ex;obtain rfl:u=Value.ref a:=rx;exact Oa hu I3 g ry rv λs4 I4=>⟨σ,H4,I4,q3⟩
end
theorem QM{P:qO}{w:qP}(h:Heap)(hb:sysModules<h.objs.size):Av P w H (h.push {cls:=.type "dict",data:=.dict #[]}) h.objs.size (.dK []):=
 ⟨Zw _,beq_eq_false_iff_ne.mpr (Ne.symm (Zj hb)),[],.nil,Heap.DictOf.new h⟩
def Te:TE:=λ_ H Q=>∀p,H p=none->Q (.ref p) (Am H p (.dK []))
theorem LK:PE X (.Dict [] [] pos) Te:=λad s σ H Q I h =>
 wpAny_Dict_empty ⟨.ref s.heap.objs.size,_,I.laid (a:=s.heap.objs.size) (o:=.dK []) (t':=s.toks) (λ_ _ q=>ZN _ q) (ZR _) (QM s.heap I.big),rfl,h _ (I.hok.fresh (ZR _))⟩
structure M2(X:Cx)(o:Expr)(m:Str)(apos:Pos)(e f:Expr)(cpos:Pos):Prop where
 base:attributeBase o m X.env (eval o X.env)=eval o X.env
 few:((backTo cpos (starEach [e,f] X.env)).all (λx=>!x.1)&&(backToKw cpos (keywordEach [] X.env)).all (λx=>x.1.isSome)
  && decide (([e,f]:List Expr).length+([]:List Keyword).length+(if ([]:List Keyword).isEmpty then 0 else 1)<30))=true
 line:(apos.endLine==cpos.line)=true
 trees:backTo cpos (starEach [e,f] X.env)=[(false,eval e X.env),(false,eval f X.env)]
def Y9(H:Hp)(a:qM):Prop:=(∃kvs,Rd H a (.dK kvs))\/∃kvs,Rd H a (.dT kvs)
theorem Tf(I:AW X ad σ H s)(d:Y9 H a):
  s.TypeIs (.ref a) "dict"/\(∀b,Value.ref a=.ref b->∃ob,s.heap.get? b=some ob/\ob.dict=none)/\(a==sysModules)=false:=by
 rcases d with⟨kvs,e⟩|⟨kvs,e⟩
 ·obtain⟨_,hd,vs,_,dd⟩:=HQ I.hok e;refine⟨dd.typeIs,λb q=>?_,hd⟩;cases q;obtain⟨ob,_,_,h1,h2,_⟩:=dd;exact⟨ob,h1,h2.2.1⟩
 ·obtain⟨_,hd,xs,_,dd⟩:=Ij I.hok e;refine⟨dd.typeIs,λb q=>?_,hd⟩;cases q;obtain⟨ob,_,_,h1,h2,_⟩:=dd;exact⟨ob,h1,h2.2.1⟩
section
variable{d:V}{r:qL}{o:Option V}{A:Around}
theorem Tg(hu:A.units+1<cLine)(I:AW X ad σ H s)(g:IE H a y o)(ry:Al y u)(rd:Al d r)(h:∀w' s',AW X ad σ H s'->Al (o.getD d) w'->Q w' s'):
  wpAny (model X.prog X.w) A (call (.builtin "dict.get") [.ref a,u,r]) Q E s:=by
 rcases g with⟨kvs,k,e,ey,l⟩|⟨kvs,k,b,e,ey,eb,l⟩
 ·subst ey;refine byG λGq hGq=>?_;obtain⟨z,hd,vs,rel,dd⟩:=HQ I.hok e;refine hGq ?_;clear hGq Gq;refine call_meetsIn bu dd.typeIs PySem.F.entry_dict_get (PySem.F.args_dict_get_3 _ _ _) (meets_dict_get_default (BA X.prog X.w) a (Ih ry) hd r) ⟨_,dd.mapOf,h _ _ (I.tok _) ?_⟩;rw[l];exact (rel.val k).getD rd
 ·subst ey;cases (show u=Value.ref b from ry);refine byG λGq hGq=>?_;obtain⟨z,hd,xs,rel,dd⟩:=Ij I.hok e;refine hGq ?_;clear hGq Gq;refine call_meetsIn bu dd.typeIs PySem.F.entry_dict_get (PySem.F.args_dict_get_3 _ _ _) (meetsH_dict_get_default (tupleKind (BA X.prog X.w)) a b hd r) ⟨tupleKind_room_in1 hu,k,xs,HR I.hok eb,dd,h _ _ (I.tok _) ?_⟩;rw[l];exact (rel.val k).getD rd
end
def Th(td ty tx:TE):TE:=λσ H Q=>td σ H λx H1=>∃a,x=.ref a/\Y9 H1 a/\ty σ H1 λy H2=>tx σ H2 λz H3=>∃o,IE H3 a y o/\Q (o.getD z) H3
section
variable{o f:Expr}{apos cpos:Pos}{td ty tx:TE}
theorem LL(hu:X.A.units+1<cLine)(ho:PE X o td)(he:PE X e ty)(hf:PE X f tx)(m:M2 X o "get" apos e f cpos):PE X (.Call (.Attribute o "get" apos) [e,f] [] cpos) (Th td ty tx):=by
 intro ad s σ H Q I h;refine wpAny_Call_method m.base m.few m.line bZ bu PySem.F.type_dict_get (A9 (ho ad s σ H _ I h) λu s1 z9=>?_);obtain⟨x,H1,I1,rx,a,ex,d,q1⟩:=z9;subst ex;obtain rfl:u=Value.ref a:=rx;obtain⟨t1,t2,_⟩:=Tf I1 d;refine⟨t1,t2,?_⟩;rw[m.trees]
 refine Calls.callWith_builtin rfl (Calls.evalArgs_plain (Calls.spliced_cons (A9 (he ad s1 σ H1 _ I1 q1) λiv s2 ⟨y,H2,I2,ry,q2⟩ =>
  Calls.spliced_cons (A9 (hf ad s2 σ H2 _ I2 q2) λfv s3 ⟨z,H3,I3,rz,ov,g,q3⟩=>Calls.spliced_nil ?_))))
 exact Tg hu I3 g ry rz λw' s4 I4 rw'=>⟨_,H3,I4,rw',q3⟩
end
end L2
namespace PySem
end PySem
namespace L2
open PySem PySem.Spec PyProof.Rows
variable{X:Cx}{e:Expr}{fd:FuncData}{i k:Nat}{pos:Pos}{ps:List Str}{qual x:Str}{scope:Scope}{st:Stmt}{te:TE}{tt:TT}
section
variable{p:List qL->Prop}
theorem b0(h:p []):∀us:List qL,us.length=0->p us:=λus e=>by cases us with
 |nil=>exact h
 |cons a r=>cases e
theorem b1(h:∀a,p [a]):∀us:List qL,us.length=1->p us:=λus e=>by cases us with
 |nil=>cases e
 |cons a r=>exact b0 (p:=λl=>p (a::l)) (h a) r (Nat.succ.inj e)
theorem b2(h:∀a b,p [a,b]):∀us:List qL,us.length=2->p us:=λus e=>by cases us with
 |nil=>cases e
 |cons a r=>exact b1 (p:=λl=>p (a::l)) (h a) r (Nat.succ.inj e)
theorem b3(h:∀a b c,p [a,b,c]):∀us:List qL,us.length=3->p us:=λus e=>by cases us with
 |nil=>cases e
 |cons a r=>exact b2 (p:=λl=>p (a::l)) (h a) r (Nat.succ.inj e)
theorem b4(h:∀a b c d,p [a,b,c,d]):∀us:List qL,us.length=4->p us:=λus e=>by cases us with
 |nil=>cases e
 |cons a r=>exact b3 (p:=λl=>p (a::l)) (h a) r (Nat.succ.inj e)
end
noncomputable def ZA(N P:List Str)(sc:Scope):Bool:=decide (sc.kind=.function)&&!sc.isCoroutine&&!sc.isGenerator&&decide N.Nodup&&decide (N.take P.length=P) &&
 P.all (λx=>decide (sc.names.lookup x=some .local\/sc.names.lookup x=some .cell))&&sc.names.all λy=>decide (y.2≠.free)
theorem BS{N P:List Str}{sc:Scope}(h:ZA N P sc=true:=by decide +kernel):AJ N P sc:=by unfold ZA at h;simp only[Bool.and_eq_true,decide_eq_true_eq,Bool.not_eq_true',List.all_eq_true]at h;obtain⟨⟨⟨⟨⟨⟨a,b⟩,c⟩,d⟩,e⟩,f⟩,g⟩:=h;exact⟨a,b,c,d,e,f,g⟩
section
variable{P:qO}{w:qP}{K:qQ}{mg:Str->Option qL}{base:Heap}{f:qM}{N:List Str}{sp:Sp}
theorem BD.okY(F:BD K x qual st f fd)(S:AJ N ps (AG st)) (h:∀vs H Q E,sp vs H Q E->vs.length=ps.length /\
  ∀(cb:qL) (A:Around) (outer:List Env) (s:qN),BP k (A.deeper (envOfC qual (AG st) s.heap.objs.size f cb)) ->
   ∃t,F8 (Cc (Ea P w) P w K mg base N qual (AG st) f cb A outer s H E).nox (BI st) t/\t {nx:=λ_ H'=>Q .non H',rt:=Q} (CA N vs) H):C1 P w K mg base (Ea P w) (k+1) f fd ps sp:=
 F.ok0 S (λvs H Q E q=>(h vs H Q E q).1) λcb A outer s H vs Q E hr q=>(h vs H Q E q).2 cb A outer s hr
theorem Ar(D:∃fd,BD K x qual st f fd)(S:AJ N ps (AG st)) (h:∀vs H Q E,sp vs H Q E->vs.length=ps.length /\
  ∀(cb:qL) (A:Around) (outer:List Env) (s:qN),BP k (A.deeper (envOfC qual (AG st) s.heap.objs.size f cb)) ->
   ∃t,F8 (Cc (Ea P w) P w K mg base N qual (AG st) f cb A outer s H E).nox (BI st) t/\t {nx:=λ_ H'=>Q .non H',rt:=Q} (CA N vs) H) (bd:Df x qual st ps:=by first|exact λ_ _ _ _ _ _=>b1 λ_=>rfl|exact λ_ _ _ _ _ _=>b2 λ_ _=>rfl|exact λ_ _ _ _ _ _=>b3 λ_ _ _=>rfl|exact λ_ _ _ _ _ _=>b4 λ_ _ _ _=>rfl):Aa P w K mg base (k+1) f ps sp:=
 RP D S bd (λvs H Q E q=>(h vs H Q E q).1) λcb A outer s H vs Q E hr q=>(h vs H Q E q).2 cb A outer s hr
theorem BQ(D:∃fd,BD K x qual st f fd)(S:AJ N ps (AG st)) (h:∀vs H Q E,sp vs H Q E->vs.length=ps.length /\
  ∀(cb:qL) (A:Around) (outer:List Env) (s:qN),BP k (A.deeper (envOfC qual (AG st) s.heap.objs.size f cb)) ->
   ∃t,F8 (Cc (Ea P w) P w K mg base N qual (AG st) f cb A outer s H E) (BI st) t/\t {nx:=λ_ H'=>Q .non H',rt:=Q} (CA N vs) H) (bd:Df x qual st ps:=by first|exact λ_ _ _ _ _ _=>b1 λ_=>rfl|exact λ_ _ _ _ _ _=>b2 λ_ _=>rfl|exact λ_ _ _ _ _ _=>b3 λ_ _ _=>rfl|exact λ_ _ _ _ _ _=>b4 λ_ _ _ _=>rfl):Aa P w K mg base (k+1) f ps sp:=
 RQ D S bd (λvs H Q E q=>(h vs H Q E q).1) λcb A outer s H vs Q E hr q=>(h vs H Q E q).2 cb A outer s hr
end
section
variable{elt iter:Expr}{es:List Expr}{t:TA}{pos' p px:Pos}{N:List Str}{sc:Scope}{k':Nat}{f:qM}{sp:Sp}{cl:List (Str×qM)}{fv:List (Nat×Str)}{ifs:List Expr}{wi:TI}
theorem AV(hr:BP k' X.A)(G:Aa X.prog X.w X.K X.mg X.base k f ps sp)(hm:X.mg x=some (.ref f))(ha:PA X (e::es) t)(hk:k<=k':=by decide)(hg:Gl X x:=by rfl)
  (hdb:(x==("__debug__":Str))=false:=by decide) (he:starEach (e::es) X.env=(false,eval e X.env)::starEach es X.env:=by rfl) (hpl:(backTo pos (starEach es X.env)).any (·.1)=false:=by rfl):
  PE X (.Call (.Name x p) (e::es) [] pos) (FU sp [] (λ_=>E0) t):=AZ G (hr.mono hk) hg hm Mw ha hdb he hpl
theorem AN(i:Nat)(S:AJ X.N ps sc)(he:PE X e te)(hi:X.N[i]?=some x:=by rfl)(hx:Sz X.env.scope x:=by first|exact Or.inl rfl|exact Or.inr rfl)(hs:swapsWith e (some (.Name x pos')) pos.line X.env=pure false:=by rfl)
  (hf:X.fn x=true\/X.env.scope.names.lookup x=some .local:=by first|exact .inl rfl|exact .inr rfl|assumption):PS X (.Assign [.Name x pos'] e pos) (On te (Gb i)):=Lj S.nd hi hx he hs hf
theorem BR(i:Nat)(S:AJ X.N ps sc)(hi:X.N[i]?=some x:=by rfl)(hx:Sz X.env.scope x:=by first|exact Or.inl rfl|exact Or.inr rfl)
  (hf:X.fn x=true\/X.env.scope.names.lookup x=some .local:=by first|exact .inl rfl|exact .inr rfl|assumption):PG X (.Name x pos) (Gb i):=Mq S.nd hi hx hf
theorem Cm(fv:List (Nat×Str))(cl:List (Str×qM))(hi:PI X (.Name x px) iter wi)(hf:∀s H C fp,PF (Ho X s H (compEnvC scope cl C X.env) fp (x::fv.map (·.2))) ifs tt)(he:∀s H C fp,PE (Ho X s H (compEnvC scope cl C X.env) fp (x::fv.map (·.2))) elt te)
  (hclos:closureFor scope X.env=pure cl:=by with_unfolding_all rfl) (hcell:∀y∈scope.names,y.2≠.cell:=by decide +kernel) (hk:scope.kind=.function:=by rfl) (hnames:∀z∈scope.names,z.2=.local->scope.names.lookup z.1=some .local:=by decide +kernel)
  (hx:scope.names.lookup x=some .local:=by rfl) (hcl:Jf X.env cl:=by repeat' first|exact trivial|with_unfolding_all rfl|constructor) (hhas:((relabel scope X.env).names.all λz=>!(z.2==.cell||z.2==.free)||(cl.lookup z.1).isSome)=true:=by with_unfolding_all rfl)
  (hfv:Kx X scope cl fv:=by repeat' first|exact trivial|with_unfolding_all rfl|constructor) (hnd:(x::fv.map (·.2)).Nodup:=by decide) (hc:X.calm=true:=by rfl) (hs:∀x,foldedSetIterable iter X.env x=pure x:=by intro _;rfl):
  PE X (.ListComp elt [⟨.Name x px,iter,ifs,0⟩] scope pos) (Pe wi fv tt te):=RV hc hi hclos hcell hk hnames hx hcl hhas hfv hnd hf he hs
end
end L2
namespace PySem
open Sem (wp)
end PySem
namespace L2
open PySem PySem.Spec PyProof.Rows RW
variable{M':Nat}{g lo low':Int}{c5:qR}
theorem QN(hg:2<=g){m:Nat}(hl:(c5.length:Int)=g^m){low:Int}{M:Nat}(n:Eu g lo c5 m low M)(n':Eu g lo c5 m low' M'):low=low'/\M=M':=by
 obtain⟨e1,e2⟩:=(DS hg hl hl n n').mp λ_ _=>rfl
 refine⟨e1,?_⟩;have a:=Cw hg lo c5 m low M;rw[e2,Cw hg]at a;exact (GL hg a).symm
end L2
namespace L2
open PySem PySem.Spec PyProof.Rows
end L2
namespace PySem
end PySem
namespace L2
open PySem PySem.Spec PyProof.Rows
end L2
namespace PySem
end PySem
namespace L2
open PySem PySem.Spec PyProof.Rows
variable{X:Cx}{tg:Expr}{u:qL}{α β:Type}
theorem HS{F:α->β->Prop}:∀{l₁:List α} {l₂:List β} {i:Nat} {x:α},Paired F l₁ l₂->l₁[i]?=some x->∃y,l₂[i]?=some y/\F x y
 |_,_,_,_,.nil,e=>by simp at e
 |_,_,0,_,.cons r _,e=>by simp at e;subst e;exact⟨_,rfl,r⟩
 |_,_,i+1,x,.cons _ t,e=>by obtain⟨u,h1,h2⟩:=HS (i:=i) (x:=x) t (by simpa using e);exact⟨u,by simpa using h1,h2⟩
theorem WC{P:qO}{w:qP}{k:CG}(h:(BA P w).is k u=true):Al (kV k) u:=by
 rcases BC h with⟨i,t,e1,e2⟩|⟨x,t,e1,e2⟩
 ·subst e1 e2;exact⟨_,rfl⟩
 ·subst e1 e2;exact⟨_,rfl⟩
end L2
namespace PySem
end PySem
namespace L2
open PySem PySem.Spec PyProof.Rows
variable{X:Cx}{pos:Pos}{tg:Expr}
section
variable{o i value:Expr}{pos':Pos}{td ty tv:TE}
section
variable{P:qO}{w:qP}{K:qQ}
noncomputable def Se(K:qQ)(a:qM)(ns:qR):Bool:=match K.lookup a with
 |some o=>o.cls==.type "tuple"&&(match o.data with|.seq its _=>decide (its.size<=1000)&&decide (its.toList.map Hs=ns.map λn=>some (V.int n))|_=>false)
 |none=>false
end
end
end L2
namespace PySem
open Sem (wp)
section
variable{prog:qO}{w:qP}{K:Type}[DecidableEq K]{knd:KeyKind prog w K}{A:Around}{E:qL->qN->Prop}{s:qN}
theorem hint_dict{d:qM}{Q:Bool->qN->Prop}(hT:s.TypeIs (.ref d) "dict")(h:Q false s):wpAny (model prog w) A (Builtin.List.listLengthHint (.ref d)) Q E s:=by
 unfold Builtin.List.listLengthHint;refine qA (wpAny_specialOf hT F.slot_dict_len.lookup ?_);generalize hid:("dict.__len__":String)=id0
 wp_delta
 rw[show splitId id0=some ("dict","__len__") from by subst hid;decide +kernel];subst hid;refine qA (wpAny_isInstance (T:="dict") (b:=true) hT (by rw[isSubtype_type];kernel_rfl) ?_);refine wpAny_ite_split (λhab=>qE hab (by decide)) (λ_=>?_);refine wpAny_ite_split (λ_=>?_) (λhab=>qE (by decide +kernel) hab);refine qA (wpAny_typeOf hT ?_);exact qB h
theorem extend_dict{R:Result->qN->Prop}{d:qM}{kvs:List (K×qL)}{ep:Nat}(hh:A.handled=none)(hm:(d==sysModules)=false)(hr:s.heap.DictAt knd d kvs ep)(hlen:kvs.length<=sizeLine)(S:qM)(res:qL)(c₀:Nat)(hS:s.heap.get? S=some {cls:=.type "list",data:=.seq #[] c₀})
  (hR:∀h' tk acc' c',(∀b o,b≠S->s.heap.get? b=some o->h'.get? b=some o)->h'.get? S=some {cls:=.type "list",dict:=none,data:=.seq acc' c',slots:=#[]} ->
   ItemsOf (λi v=>∃k x,kvs[i]?=some (k,x)/\knd.is k v=true) acc' kvs.length->R (.ok (.ret res)) {s with heap:=h',toks:=tk}):
  wpAny (model prog w) A.in1 (Builtin.List.listExtendWith (.ref S) (.ref d) res)
   (λfin s'=>match fin with|.done f=>R (.ok f) s'|.again c'=>c'.quiet=true/\codeAny (model prog w) A c' R s') (λe s'=>R (.error e) s') s:=by
 refine byG λGq hGq=>?_;obtain⟨o,es,ho,hc,hdat,hk,hp,hn⟩:=id hr;refine hGq ?_;clear hGq Gq;have hT:s.TypeIs (.ref d) "dict":=⟨o,ho,hc.1⟩
 have hSr:S≠d:=λe=>by rw[e,ho]at hS;cases hS;cases hdat
 have hSlt:S<s.heap.objs.size:=ZO hS;have hSI:S≠s.heap.objs.size:=Zj hSlt;have hdI:d≠s.heap.objs.size:=Zj (ZO ho)
 have hSf:S∉[s.heap.objs.size,d]:=λhm=>by
  rcases Zd.mp hm with z|z
  ·exact hSI z
  ·exact hSr (ZX.mp z)
 have W:=(Walks.dictKeys (prog:=prog) (w:=w) (A:=A.in1) (knd:=knd) hh s.heap.objs.size d hdI kvs ep).toS
 have key:∀(h:Heap) (c₁ tk:Nat),h.IsKeyIter s.heap.objs.size d 0 kvs.length ep->h.DictAt knd d kvs ep->(∀b o,b≠S->s.heap.get? b=some o->h.get? b=some o) ->
   h.get? S=some {cls:=.type "list",data:=.seq #[] c₁}->codeAny (model prog w) A (.builtin "list.extend.loop" ⟨[.ref S,.ref s.heap.objs.size,res],[]⟩) R {s with heap:=h,toks:=tk}:=by
  intro h c₁ tk hit hda hk hS₁;refine codeAny_extend_loopS W hlen S hSf res kvs.length 0 _ #[] c₁ rfl (Zw _) ⟨hit,hda⟩ hS₁ (ItemsOf.nil _) λs' acc' c' hm hS' hacc=>?_;rw[Moved.eq_with hm];refine hR s'.heap s'.toks acc' c' (λb o hb e=>hm.heap b o (λhmem=>?_) (hk b o hb e)) hS' hacc;rcases Zd.mp hmem with e'|hmem
  ·exact hb e'
  ·exact qE (ZO e) (by rw[ZX.mp hmem];exact Zn _)
 unfold Builtin.List.listExtendWith;refine qA (wpAny_typeOf (T:="dict") hT ?_);have h1:Builtin.List.listSameRef (.ref S) (.ref d)=false:=by simp[Builtin.List.listSameRef,hSr]
 have h2:(Value.type "dict"==Value.type "list")=false:=by decide
 have h3:(Value.type "dict"==Value.type "tuple")=false:=by decide
 simp only[h1,h2,h3,Bool.or_false,Bool.false_eq_true,if_false];refine qA (wpAny_pyIter_dict hm hr ?_);obtain⟨itO,hIt⟩:∃itO:Obj,itO={cls:=.type "dict_keyiterator",data:=.fields #[.ref d,.int 0 0,.int kvs.length 0,.int ep 0]}:=⟨_,rfl⟩;rw[<-hIt];have kp:∀b o,s.heap.get? b=some o->(s.heap.push itO).get? b=some o:=λb o e=>ZN _ e
 refine qA (qJ (hint_dict ⟨o,kp _ _ ho,hc.1⟩ ?_));have hit₁:(s.heap.push itO).IsKeyIter s.heap.objs.size d 0 kvs.length ep:=⟨_,ZU _ (by rw[hIt];rfl),by rw[hIt],by rw[hIt];rfl⟩;have hd₁:(s.heap.push itO).DictAt knd d kvs ep:=hr.at' λo e=>kp d o e
 have hS₁:=kp _ _ hS;refine wpAny_ite_split (λ_=>?_) (λhab=>qE (by decide +kernel) hab);refine qA (wpAny_rule ?_);refine qA ?_;show wpAny _ _ (updateSeq S (·.push .none) >>= λ_=>updateSeq S (·.pop)) _ _ _;refine qA (wpAny_updateSeq hS₁ rfl ?_);have hS₂:=Zr (Obj.mapSeq (·.push Value.none)) hS₁ rfl;refine wpAny_updateSeq (hz:=by seq_fits) hS₂ rfl ?_;have hS₃:=Zr (Obj.mapSeq (·.pop)) hS₂ rfl;have up:∀b o,b≠S->(s.heap.push itO).get? b=some o->(((s.heap.push itO).update S (Obj.mapSeq (·.push Value.none))).update S (Obj.mapSeq (·.pop))).get? b=some o:=λb o hb e=>(Z6 _ _ (Ne.symm hb)).trans ((Z6 _ _ (Ne.symm hb)).trans e)
 refine qB ⟨plainId_quiet F.plain_extend_loop _,key _ _ _ (hit₁.at λo e=>up _ o (Ne.symm hSI) e) (hd₁.at' λo e=>up _ o (Ne.symm hSr) e) (λb o hb e=>up b o hb (kp b o e)) hS₃⟩
end
end PySem
namespace L2
open PySem PySem.Spec PyProof.Rows
end L2
namespace PySem
open Sem (wp)
open PyProof.Rows
section
variable{prog:qO}{w:qP}{K:Type}[DecidableEq K]{knd:KeyKind prog w K}{A:Around}{E:qL->qN->Prop}{s:qN}
theorem collect_dS{R:List qL->qN->Prop}{d:qM}{kvs:List (K×qL)}{ep:Nat}(hh:A.handled=none)(hm:(d==sysModules)=false)(hr:s.heap.DictAt knd d kvs ep)(hlen:kvs.length<=sizeLine)
  (q:∀h' tk c9,s.heap.objs.size<h'.objs.size->(∀b o,s.heap.get? b=some o->h'.get? b=some o)->ItemsOf (λi v=>∃k x,kvs[i]?=some (k,x)/\knd.is k v=true) c9 kvs.length->R c9.toList {s with heap:=h',toks:=tk}):wpAny (model prog w) A (collect (.ref d)) R E s:=by
 unfold collect;apply qA;apply wpAny_runValue;refine codeAny_builtin F.entry_proto_collect ?_;rw[A.under_plainId F.plain_proto_collect];show wpAny _ A.in1 (newList [] >>= λz=>again (.builtin "list.__iadd__" ⟨[z,.ref d],[]⟩)) _ _ s;apply qA;refine wpAny_newObj_type ?_;apply qB;refine⟨plainId_quiet F.plain_list_iadd _,?_⟩;refine codeAny_builtin F.entry_list_iadd ?_;rw[A.under_plainId F.plain_list_iadd];generalize hS:s.heap.objs.size=S;generalize hG:s.heap.push {cls:=.type "list",data:=.seq ([]:List qL).toArray}=G;have gS:G.get? S=some {cls:=.type "list",data:=.seq #[] 0}:=by rw[<-hG,<-hS];exact ZU _ rfl
 have gk:∀b o,s.heap.get? b=some o->G.get? b=some o:=λb o e=>by rw[<-hG];exact ZN _ e
 show wpAny _ A.in1 (Builtin.List.listExtendWith (.ref S) (.ref d) (.ref S)) _ _ _;refine qH (extend_dict (A:=A) (s:={s with heap:=G}) (knd:=knd) (R:=λx s'=>x=.ok (.ret (.ref S))/\∃(h':Heap) (tk:Nat) (c9:Array qL) (c':Nat),s'={s with heap:=h',toks:=tk}/\(∀b o,s.heap.get? b=some o->h'.get? b=some o)/\h'.get? S=some {cls:=.type "list",dict:=none,data:=.seq c9 c',slots:=#[]}/\ItemsOf (λi v=>∃k x,kvs[i]?=some (k,x)/\knd.is k v=true) c9 kvs.length) hh hm (hr.at' λo e=>gk d o e) hlen S (.ref S) 0 gS λh' tk c9 c' hk hS' hacc=>⟨rfl,h',tk,c9,c',rfl,λb o e=>hk b o (λz=>?_) (gk b o e),hS',hacc⟩) (λfin s' h=>?_) (λe s' h=>?_)
 ·have:=ZO e;rw[z,hS]at this;exact Zn _ this
 ·have last:∀(x:Result) (s':qN),(x=.ok (.ret (.ref S))/\∃(h':Heap) (tk:Nat) (c9:Array qL) (c':Nat),s'={s with heap:=h',toks:=tk}/\(∀b o,s.heap.get? b=some o->h'.get? b=some o)/\h'.get? S=some {cls:=.type "list",dict:=none,data:=.seq c9 c',slots:=#[]}/\ItemsOf (λi v=>∃k x,kvs[i]?=some (k,x)/\knd.is k v=true) c9 kvs.length)->wpAny (model prog w) A (match Value.ref S with
    |Value.ref a=>do
     match (<-load a).data with
      |Data.seq xs _=>pure xs.toList
      |_=>unsupported "internal:collect"
    |_=>unsupported "internal:collect") R E s':=by
   rintro x s' ⟨rfl,h',tk,c9,c',rfl,hk,hS',hacc⟩;show wpAny _ A (load S >>= _) _ _ _;apply qA;refine wpAny_load hS' ?_;exact qB (q h' tk c9 (by rw[hS];exact ZO hS') hk hacc)
  cases fin with
  |done f =>
   have e:=h.1;cases e;exact last _ _ h
  |again c'=>exact⟨h.1,codeAny_mono h.2 λx s2 hx=>by have e:=hx.1;subst e;exact last _ _ hx⟩
 ·exact nomatch h.1
end
end PySem
namespace L2
open PySem PySem.Spec PyProof.Rows
variable{C a r:qM}{CX:Oj}{D:Hr}{E Q:qL->qN->Prop}{H:Hp}{X:Cx}{e:Expr}{fd:FuncData}{g lo:Int}{h:Heap}{k n:Nat}{ad:List (qM×Obj)}{pos:Pos}{ps:List Str}{s:qN}{c5:qR}{tl:TE}{u:qL}{us:List qL}{x:Str}{xs:List V}{α β:Type}{σ:St}
section
variable{prog:qO}{w:qP}{A:Around}
theorem Md{w:qP}{P:qO}{kvs:List (CG×qL)}{A:List Str}{c9:Array qL}(hA:kvs.map (·.1)=A.map Sum.inr)(h:ItemsOf (λi v=>∃k x,kvs[i]?=some (k,x)/\(BA P w).is k v=true) c9 kvs.length):StrsAre c9.toList A:=by
 have ln:A.length=kvs.length:=by have z:=qK List.length hA;simpa using z.symm
 have vl:Ag (A.map V.str) c9.toList:=by refine Mz (by have z:=h.1;rw[List.length_map,ln];simp only[Array.length_toList];lia) λi x u e1 e2=>?_;obtain⟨k,x',hk,is⟩:=h.2 i u (by simpa using e2);rw[Zk]at e1;obtain⟨a,ha,rfl⟩:=aw.mp e1;have z:=qK (λl=>l[i]?) hA;simp only[List.getElem?_map,hk,ha,Option.map_some]at z;rw[show k=Sum.inr a from Option.some.inj z]at is;exact WC is
 exact Jt vl
theorem J9{vs:List qL}{ns:List Str}(h:StrsAre vs ns):Ag (ns.map V.str) vs:=by
 induction h with
 |nil=>exact .nil
 |cons n t _ ih=>exact .cons ⟨t,rfl⟩ ih
theorem Me{d:qM}{kvs:List (CG×qL)}{ep:Nat}{A':List Str}(hh:A.handled=none)(hm:(d==sysModules)=false)(hr:s.heap.DictAt (BA prog w) d kvs ep)(hA:kvs.map (·.1)=A'.map Sum.inr)(hlen:kvs.length<64)
  (h:∀(D:qM) (h':Heap) (tk:Nat) (out:Array qL) (ss:List Str) (e:Nat),s.heap.objs.size<=D->(∀b o,s.heap.get? b=some o->h'.get? b=some o)->h'.get? D=some (seqObj "list" out e)->StrsAre out.toList ss->ss.Perm A'->sortedS ss=true->Q (.ref D) {s with heap:=h',toks:=tk}):
  wpAny (model prog w) A (call (.builtin "sorted") [.ref d]) Q E s:=by
 refine Calls.call_function_entry kind_sorted plain_sorted entry_sorted (args_sorted1 _) ?_;unfold Builtin.«sorted»;refine qA (m:=checkCount "sorted" 1 1 _) (qB (qA (collect_dS (A:=A.in1) hh hm hr (by rw[sizeLine_eq];lia) λh' tk c9 sl kp hacc=>?_)));have hS:=Md hA hacc;have zl:c9.toList.length<64:=by rw[ZT,hacc.1];exact hlen
 refine qA (wpAny_newList ?_);have gL:(h'.push (seqObj "list" c9.toList.toArray 0)).get? h'.objs.size=some (seqObj "list" c9.toList.toArray 0):=ZU _ rfl;show wpAny _ _ _ _ _ {s with heap:=h'.push (seqObj "list" c9.toList.toArray 0),toks:=tk};refine qA (qJ (wpAny_call_entry slot_list_sort ⟨_,gL,rfl⟩ entry_list_sort (list_sort_treeK strKind_oneLt gL hS.keysOf (λv₁ v₂ rest e=>keyKind_strs (by rw[<-e];exact hS)) zl λst' a1 a2=>⟨_,rfl,?_⟩) (args_list_sort _)));obtain⟨ss',b1,b2,b3⟩:=sorted_out_str hS a1 a2;obtain⟨e,he⟩:=sortedHeap_at (out:=(arrOf st').map (·.2)) gL;refine qB ⟨_,rfl,h _ _ _ _ ss' e ?_ (λc o z=>?_) he b1 b2 b3⟩
 ·exact a8 sl
 ·have lt:=ZO (kp c o z);rw[sortedHeap_old (Zj lt) (by rw[size_push'];exact aa lt)];exact ZN _ (kp c o z)
end
theorem F5(hc:X.calm=true):CH X (.builtin "sorted") (λxs H Q=>∃(d:qM) (kvs:List (CG×V)) (A:List Str),xs=[.ref d]/\Rd H d (.dK kvs)/\kvs.map (·.1)=A.map Sum.inr/\kvs.length<64/\∀l zs,H l=none->zs.Perm A->sortedS zs=true->Q (.ref l) (Am H l (.lst (zs.map V.str)))):=by
 intro ad s σ H xs us Q I r h;obtain⟨d,kvs,A,rfl,hd,hA,l64,q⟩:=h;obtain⟨u,rfl,ru⟩:=CQ r;cases ru;obtain⟨z,hd,vs,rel,dd⟩:=HQ I.hok hd;obtain⟨ep,da⟩:=dd.dictAt;have hl:=rel.length;refine Me (A':=A) (I.ok.hd hc) hd da ?_ (by lia) λD h' tk out zs e hD kp he hI hp ho=>?_
 ·rw[<-hA];apply bG;intro i;rw[Zk,Zk];rcases e1:kvs[i]? with _|⟨k,v'⟩
  ·have:vs[i]?=none:=by rw[List.getElem?_eq_none_iff]at e1⊢;lia
   rw[this];rfl
  ·obtain⟨y,hy,ry⟩:=HS rel e1;rw[hy,Option.map_some,Option.map_some,show k=y.1 from ry.1]
 ·refine⟨.ref D,_,I.laid (t':=tk) kp hD (show Av X.prog X.w _ h' _ (.lst (zs.map V.str)) from⟨?_,out.toList,e,J9 hI,by rw[Array.toArray_toList];exact he⟩),rfl,q D zs (I.hok.fresh hD) hp ho⟩;have y:=qK List.length hA;rw[ZM,ZM]at y;rw[ZM,hp.length_eq,<-y];exact z
abbrev YA(a b:Str):Prop:=a.cps.toList<=b.cps.toList
theorem Ob:∀{l:List Str} {p:Str},risingS p l=true->(p::l).Pairwise YA:=by
 intro l
 induction l with
 |nil=>intro p _;exact List.pairwise_singleton ..
 |cons x l ih =>
  intro p h;obtain⟨h1,h2⟩:=(Ze ..).mp (show (!ltCps x.cps.toList p.cps.toList&&risingS x l)=true from h)
  have px:YA p x:=by rw[ltCps_eq]at h1;exact of_decide_eq_false (Bool.not_eq_true' _ |>.mp h1)
  have r:=ih h2;refine az.mpr ⟨λy hy=>?_,r⟩;rcases Zd.mp hy with e|hy
  ·rw[e];exact px
  ·exact List.le_trans px ((az.mp r).1 y hy)
theorem Ik{l:List Str}(h:sortedS l=true):l.Pairwise YA:=by
 cases l with
 |nil=>exact .nil
 |cons x l=>exact Ob h
theorem LM{l l':List Str}(h:sortedS l=true)(h':sortedS l'=true)(p:l.Perm l'):l=l':=by refine List.Perm.eq_of_pairwise (le:=YA) (λa b _ _ x y=>?_) (Ik h) (Ik h') p;have e:=List.le_antisymm x y;obtain⟨⟨a⟩⟩:=a;obtain⟨⟨b⟩⟩:=b;exact qK (λl=>Str.mk ⟨l⟩) e
def Ti(C:qM)(m:Str)(sp:Sp)(E:St->XK)(ta:TE)(t:TA):TE:=λσ H Q=>ta σ H λx H1=>∃a dx fs,x=.ref a/\H1 a=some (.ins C dx fs)/\fs.lookup m=none/\t σ H1 λvs H2=>sp (x::vs) H2 Q (E σ)
section
variable{f:qM}{sp:Sp}{E:St->XK}{m:Str}{p apos:Pos}{o:Expr}{es:List Expr}{ta ta':TE}{t:TA}
theorem NM{Q:VK}{vs:List V}(F:C1 X.prog X.w X.K X.mg X.base CX k f fd ps sp)(hr:BP k X.A)(hb:Cr X.K fd ps [])(hx:Bl CX X E)
  (I:AW X ad σ H s) (r:Ag vs us) (h:sp vs H Q (E σ)):wpAny (model X.prog X.w) X.A (call (.ref f) us) (EP X ad σ Q) X.xe s:=by
 have hl:(us++[]).length=ps.length:=by rw[a9,<-r.length];exact F.len _ _ _ _ h
 have hb':=hb s us I.kIn hl;rw[a9]at hb';refine wpAny_call (codeAny_mono (F.run X.A X.stack s H ⟨us,[]⟩ us vs Q (E σ) hr I.env0 hb' r h) λrs s2 hq=>?_);rcases rs with er|fl
 ·exact hx ad σ H s er s2 I hq
 ·cases fl with
  |ret u=>exact I.after hq
  |next=>exact False.elim hq
  |brk=>exact False.elim hq
  |cont=>exact False.elim hq
theorem FF{pl:Sem Bool}(he:PE X o ta)(c:Qv X.K C)(hm:S9 X.K C m f)(G:Aa X.prog X.w X.K X.mg X.base k f ps sp)(hr:BP k X.A)(hx:Bl (Ea X.prog X.w) X E)(ha:PA X (e::es) t)
  (hst:starEach (e::es) X.env=(false,eval e X.env)::starEach es X.env:=by rfl) (hpl:(backTo pos (starEach es X.env)).any (·.1)=false:=by rfl)
  (ht:eval (.Call (.Attribute o m apos) (e::es) [] pos) X.env=(do
   let ov <-eval o X.env
   standAt apos.atName
   let (f,first) <-holding [ov] (getMethod ov m pl)
   callWith pos f first (backTo pos (starEach (e::es) X.env)) (backToKw pos (keywordEach [] X.env))):=by rfl):
  PE X (.Call (.Attribute o m apos) (e::es) [] pos) (Ti C m sp E ta t):=by
 refine byG λGq hGq=>?_;obtain⟨⟨fd,F,b⟩,kp⟩:=G;refine hGq ?_;clear hGq Gq;intro ad s σ H Q I h;refine PySem.W.methodCall_KW (pl:=pl) (A9 (he ad s σ H _ I h) λu s1 z9=>?_) ht;obtain⟨x,H1,I1,rx,a,dx,fs,ex,ea,l,q⟩:=z9;subst ex;obtain rfl:u=Value.ref a:=rx;refine Lp I1 ea c hm l ?_;refine bW (first:=[.ref a]) (h₀:=X.base) I.ok.mod.kin hm.kp (A9 (ha pos ad s1 σ H1 _ I1 q) λus s2 ⟨vs,H2,I2,r,q2⟩=>⟨I2.kIn,?_⟩) hst hpl;exact NM (us:=.ref a::us) (vs:=.ref a::vs) F hr b hx I2 (.cons rfl r) q2
theorem Tj{P:qO}{w:qP}:Lv (Ea P w) X E0:=λ_ _ _ _ _ _ _ ⟨_,_,_,_,_,_,_,_,h⟩=>h.elim
end
structure ZI(K:qQ)(C:qM):Prop where
 cl:Qv K C
 ca:PySem.W.findIn K (.ref C) "__class__"=some (some (.builtin "object.__class__"))
 sg:PySem.W.specialIn K (.builtin "object.__class__") "__get__"=some (some (.builtin "getset_descriptor.__get__"))
 tk:PySem.W.takesIn K (.builtin "object.__class__")=some true
 mo:PySem.W.mroIn K C (.type "object")=some true
theorem NO{v:V}(h:Hs u=some v):Al v u:=by cases u<;>first|(cases h;exact rfl)|(cases h;exact⟨_,rfl⟩)|cases h
noncomputable def LN:qL->Option Str
 |.str x _=>some x
 |_=>none
structure QO(P:Params)(K:qQ)(a:qM)(kvs:List (Str×V)):Prop where
 ex:∃es n,K.lookup a=some ⟨.type "dict",none,.dict es n,#[]⟩/\PySem.W.KeysLit P es.toList/\es.toList.map (λe=>(LN e.key,Hs e.val))=kvs.map λp=>(some p.1,some p.2)
 no:(a==sysModules)=false
theorem QP:∀{l:List DictEntry} {kvs:List (Str×V)},l.map (λe=>(LN e.key,Hs e.val))=kvs.map (λp=>(some p.1,some p.2))->Co (kvs.lookup x) ((l.find? λd=>Value.isStrOf x d.key).map (·.val)):=by
 intro l
 induction l with
 |nil =>
  intro kvs h;cases kvs with
  |nil=>exact trivial
  |cons p kvs=>cases h
 |cons e l ih =>
  intro kvs h;cases kvs with
  |nil=>cases h
  |cons p kvs =>
   rw[Zp,Zp]at h
   injection h with h1 h2
   injection h1 with k1 k2
   have ke:∃t,e.key=.str p.1 t:=by
    cases q:e.key with
    |str y t=>rw[q]at k1;cases k1;exact⟨t,rfl⟩
    |_=>rw[q]at k1;cases k1
   obtain⟨t,ke⟩:=ke;rw[List.find?_cons,ke,Z4]
   have e1:Value.isStrOf x (.str p.1 t)=(x==p.1):=by
    by_cases z:x=p.1
    ·rw[z,beq_self_eq_true];simp[Value.isStrOf]
    ·rw[beq_eq_false_iff_ne.mpr z];simp[Value.isStrOf];exact λy=>z y.symm
   rw[e1];cases x==p.1 with
   |true=>exact NO k2
   |false=>exact ih h2
section
variable{P:Params}{K:qQ}{kvs:List (Str×V)}{i:Expr}{ti:TE}{p:Pos}
theorem QO.map(d:QO P K a kvs){prog:qO}{w:qP}(hP:w.params=P)(kin:K.In h):∃f:Str->Option qL,h.MapOf (strKind prog w) a f/\∀x,Co (kvs.lookup x) (f x):=by obtain⟨⟨es,n,h1,h2,h3⟩,_⟩:=d;refine⟨_,PySem.W.mapOf_K kin h1 (hP▸h2),λx=>?_⟩;obtain⟨l⟩:=es;unfold findBy;rw[List.find?_toArray];exact QP h3
def WD(kvs:List (Str×V))(ti:TE):TE:=λσ H Q=>ti σ H λy H1=>∃x v,y=.str x/\kvs.lookup x=some v/\Q v H1
theorem NP(d:QO P X.K a kvs)(hP:X.w.params=P)(hg:Gl X x)(hm:X.mg x=some (.ref a))(hi:PE X i ti)(hs:Td i)(hd:(x==("__debug__":Str))=false:=by decide):PE X (.Subscript (.Name x p) i pos) (WD kvs ti):=by intro ad s σ H Q I h;have ho:PE X (.Name x p) (tC (.ref a)):=Gk hg hm hd;have h:tC (.ref a) σ H (λv H1=>v=.ref a/\ti σ H1 λy H1=>∃x v,y=.str x/\kvs.lookup x=some v/\Q v H1):=⟨rfl,h⟩;refine NL PySem.F.slot_dict_getitem.lookup hs (A9 (ho ad s σ H _ I h) λu s1 z1=>?_);obtain⟨v1,H1,I1,rx,e1,q1⟩:=z1;subst e1;obtain rfl:u=Value.ref a:=rx;refine A9 (hi ad s1 σ H1 _ I1 q1) λiv s2 z2=>?_;obtain⟨y,H2,I2,ry,z,v,ey,hv,q2⟩:=z2;subst ey;obtain⟨t,rfl⟩:=ry;obtain⟨f,mp,fx⟩:=d.map (prog:=X.prog) hP I2.kIn;obtain⟨w',hw,rw'⟩:=Co.some_of (v:=v) (o:=f z) (by rw[<-hv];exact fx z);exact⟨mp.typeIs,wpAny_getItem_of (strKind_is X.prog X.w z t) mp hw ⟨v,H2,I2.tok _,rw',q2⟩⟩
def Ru(kvs:List (Str×V))(ti:TE):TE:=λσ H Q=>ti σ H λy H1=>∃x,y=.str x/\Q (.bl (!(kvs.lookup x).isSome)) H1
theorem Oc(d:QO P X.K a kvs)(hP:X.w.params=P)(hg:Gl X x)(hm:X.mg x=some (.ref a))(hi:PE X i ti)(hd:(x==("__debug__":Str))=false:=by decide):PC X .NotIn i (.Name x p) (Ru kvs ti):=by intro ad s σ H Q I h;refine A9 (hi ad s σ H _ I h) λiv s1 z1=>?_;obtain⟨y,H1,I1,ry,z,ey,q1⟩:=z1;subst ey;obtain⟨t,rfl⟩:=ry;have ho:PE X (.Name x p) (tC (.ref a)):=Gk hg hm hd;have h:tC (.ref a) σ H1 (λv H1=>v=.ref a/\Q (.bl (!(kvs.lookup z).isSome)) H1):=⟨rfl,q1⟩;refine A9 (ho ad s1 σ H1 _ I1 h) λu s2 z2=>?_;obtain⟨v2,H2,I2,rx,e2,q2⟩:=z2;subst e2;obtain rfl:u=Value.ref a:=rx;obtain⟨f,mp,fx⟩:=d.map (prog:=X.prog) hP I2.kIn;refine wpAny_notIn_of (strKind_is X.prog X.w z t) d.no mp ?_;rw[<-(fx z).isSome_eq];exact⟨.bl (!(kvs.lookup z).isSome),H2,I2.tok _,rfl,q2⟩
end
def QQ(P:qO)(w:qP)(K:qQ)(mg:Str->Option qL)(base:Heap)(k:Nat)(E:St->XK)(tf:TE)(t:TA):TE:=λσ H Q=>tf σ H λv H1=>∃f ps sp,v=.ref f/\Aa P w K mg base k f ps sp/\t σ H1 λvs H2=>sp vs H2 Q (E σ)
section
variable{f:qM}{sp:Sp}{E:St->XK}{p:Pos}{fe:Expr}{es:List Expr}{t:TA}{tf:TE}
theorem QR(hr:BP k X.A)(hx:Bl (Ea X.prog X.w) X E)(hf:PE X fe tf)(ha:PA X (e::es) t)(he:starEach (e::es) X.env=(false,eval e X.env)::starEach es X.env:=by rfl)(hpl:(backTo pos (starEach es X.env)).any (·.1)=false:=by rfl)
  (hev:eval (.Call fe (e::es) [] pos) X.env=(do callWith pos (<-eval fe X.env) [] (backTo pos (starEach (e::es) X.env)) (backToKw pos (keywordEach [] X.env))):=by rfl):PE X (.Call fe (e::es) [] pos) (QQ X.prog X.w X.K X.mg X.base k E tf t):=by
 intro ad s σ H Q I h;refine Call_ (A9 (hf ad s σ H _ I h) λu s1 z1=>?_) hev;obtain⟨v,H1,I1,rv,f,ps,sp,ev,⟨⟨fd,F,b⟩,kp⟩,q1⟩:=z1;subst ev;obtain rfl:u=Value.ref f:=rv;refine bW (h₀:=X.base) I.ok.mod.kin kp (A9 (ha pos ad s1 σ H1 _ I1 q1) λus s2 z2=>?_) he hpl;obtain⟨vs,H2,I2,r,q⟩:=z2;exact⟨I2.kIn,NM (us:=us) (vs:=vs) F hr b hx I2 r q⟩
theorem Od{P:qO}{w:qP}{K:qQ}{mg:Str->Option qL}{base:Heap}(hr:BP k X.A)(hx:Bl (Ea X.prog X.w) X E)(hf:PE X fe tf)(ha:PA X (e::es) t)(hP:X.prog=P:=by rfl)(hw:X.w=w:=by rfl)(hK:X.K=K:=by rfl)(hm:X.mg=mg:=by rfl)(hb:X.base=base:=by rfl)(he:starEach (e::es) X.env=(false,eval e X.env)::starEach es X.env:=by rfl)(hpl:(backTo pos (starEach es X.env)).any (·.1)=false:=by rfl)
  (hev:eval (.Call fe (e::es) [] pos) X.env=(do callWith pos (<-eval fe X.env) [] (backTo pos (starEach (e::es) X.env)) (backToKw pos (keywordEach [] X.env))):=by rfl):PE X (.Call fe (e::es) [] pos) (QQ P w K mg base k E tf t):=by
 subst hP hw hK hm hb;exact QR hr hx hf ha he hpl hev
theorem Il(M:Mk X.K C f)(G:Aa X.prog X.w X.K X.mg X.base k f ps sp)(hr:BP (k+1) X.A)(hg:Gl X x)(hm:X.mg x=some (.ref C))
  (hdb:(x==("__debug__":Str))=false:=by decide):PE X (.Call (.Name x p) [] [] pos) (SK C sp [] E0 Nw):=by
 obtain⟨⟨fd,F,b⟩,kp⟩:=G;exact Ox M F hr hg hm b .nil Tj hdb
end
noncomputable def CO(K:qQ)(a:qM)(vs:List V):Bool:=match K.lookup a with
 |some o=>o.cls==.type "tuple"&&(match o.data with|.seq its _=>decide (its.size<=1000)&&decide (its.toList.map Hs=vs.map some)|_=>false)
 |none=>false
theorem Oe:∀{vs:List V} {us:List qL},us.map Hs=vs.map some->Ag vs us:=by
 intro vs
 induction vs with
 |nil=>intro us h;cases us with|nil=>exact .nil|cons u us=>cases h
 |cons v vs ih =>
  intro us h;cases us with
  |nil=>cases h
  |cons u us =>
   rw[Zp,Zp]at h
   injection h with h1 h2
   exact .cons (NO h1) (ih h2)
theorem Rv{K:qQ}{vs:List V}(h:CO K a vs=true)(H:Hp):Ao K H a vs:=by
 delta CO at h
 cases e:K.lookup a with
 |none=>rw[e]at h;cases h
 |some o =>
  rw[e]at h;obtain⟨h1,h2⟩:=(Ze ..).mp h;cases ed:o.data with
  |seq its n =>
   rw[ed]at h2;have h2:=(Ze ..).mp h2;have s:=qI h2.1;exact .inr ⟨o,its,n,e,eq_of_beq h1,ed,by rw[sizeLine_eq];lia,Oe (qI h2.2)⟩
  |_=>rw[ed]at h2;cases h2
theorem Rw:U7 X "str.find" (λx xs H Q=>∃a b:Str,x=.str a/\xs=[.str b]/\Q (.int (Txt.find a b)) H):=by intro ad s σ H x xs v us Q I rx rs h;obtain⟨a,b,rfl,rfl,q⟩:=h;obtain⟨t,rfl⟩:=rx;obtain⟨u,rfl,t2,rfl⟩:=CQ rs;exact SC.find ⟨.int _,H,I.tok _,⟨_,rfl⟩,q⟩
theorem NQ:U7 X "dict.pop" (λx xs H Q=>∃(d:qM) (kvs:List (CG×V)) (k:CG) (y:V),x=.ref d/\xs=[kV k]/\H d=some (.dK kvs)/\Da kvs k=some y/\Q y (Am H d (.dK (FD kvs k)))):=by intro ad s σ H x xs v us Q I rx rs h;obtain⟨d,kvs,k,y,rfl,rfl,e,hv,q⟩:=h;obtain⟨u1,rfl,r1⟩:=CQ rs;cases rx;exact V9 I e r1 hv (.inl rfl) λu' s' I' r'=>⟨y,_,I',r',q⟩
section
variable(K:qQ)
theorem Bk(h:X.K=K:=by rfl):SN X (RA K):=h▸Mu
theorem BN(h:X.K=K:=by rfl):SN X (RC K):=h▸Oy
theorem Eb(h:X.K=K:=by rfl):CH X (.builtin "len") (λxs H Q=>∃p ys,xs=[V.ref p]/\(Ac K H p ys\/Ao K H p ys)/\Q (.int ((ys.length:Nat):Int)) H):=h▸JO
theorem Qw{tg l:Expr}(hl:PE X l tl)(h:X.K=K:=by rfl):PI X tg l (SG K tl):=h▸Qz hl
theorem QS{o:Expr}{to:TE}{t:TA}{apos cpos:Pos}(ho:PE X o to)(ha:PA X [e] t)(hK:X.K=K:=by rfl)
  (hbase:attributeBase o "append" X.env (eval o X.env)=eval o X.env:=by rfl)
  (hfew:((backTo cpos (starEach [e] X.env)).all (λx=>!x.1)&&(backToKw cpos (keywordEach [] X.env)).all (λx=>x.1.isSome)&&decide (([e]:List Expr).length+([]:List Keyword).length+(if ([]:List Keyword).isEmpty then 0 else 1)<30))=true:=by rfl)
  (hline:(apos.endLine==cpos.line)=true:=by rfl) (hs:starEach [e] X.env=(false,eval e X.env)::starEach [] X.env:=by rfl) (hplain:(backTo cpos (starEach [] X.env)).any (·.1)=false:=by rfl):
  PE X (.Call (.Attribute o "append" apos) [e] [] cpos) (YR K "list" JQ to t):=by
 subst hK;exact Cu PySem.F.plainAttrs_list PySem.F.slot_list_append PySem.F.type_list_append IP ho ha hbase hfew hline hs hplain
end
theorem HU{t u:TS}(Z:St->Hp->Prop)(h1:∀N:St->Hp->Prop,(∀σ' H',Z σ' H'->N σ' H')->t {D with nx:=N} σ H)(h2:∀G:St->Hp->Prop,(∀σ H,u D σ H->G σ H)->∀σ' H',Z σ' H'->G σ' H'):Nm t u D σ H:=ZG Z h1 (h2 _ λ_ _ z=>z)
theorem LO{Pv:Nat->St->Hp->Prop}{g:TG}{tb:TS}{R:VK}{B0:St->Hp->Prop}
  (h:∀(C B:St->Hp->Prop) i x,∀G:St->Hp->Prop,(∀σ H,(g x σ H λσ2 H2=>tb {nx:=Pv (i+1),rt:=R,bk:=B,ct:=C} σ2 H2)->G σ H)->∀σ H,xs[i]?=some x->Pv i σ H->G σ H):
  ∀i x σ H,xs[i]?=some x->Pv i σ H->g x σ H λσ2 H2=>tb {nx:=Pv (i+1),rt:=R,bk:=B0,ct:=Pv (i+1)} σ2 H2:=λi x σ H hx p=>h _ _ i x _ (λ_ _ z=>z) σ H hx p
theorem C0{f:Nat->V}{Pv:Nat->St->Hp->Prop}{g:TG}{tb:TS}{R:VK}{B0:St->Hp->Prop}
  (h:∀(C B:St->Hp->Prop) i,∀G:St->Hp->Prop,(∀σ H,(g (f i) σ H λσ2 H2=>tb {nx:=Pv (i+1),rt:=R,bk:=B,ct:=C} σ2 H2)->G σ H)->∀σ H,i<n->Pv i σ H->G σ H):
  ∀i σ H,i<n->Pv i σ H->g (f i) σ H λσ2 H2=>tb {nx:=Pv (i+1),rt:=R,bk:=B0,ct:=Pv (i+1)} σ2 H2:=λi σ H hx p=>h _ _ i _ (λ_ _ z=>z) σ H hx p
theorem KA{A:Nat->V->α->β->Prop}{c:Nat->V->Prop}{Pv:Nat->α->β->Prop}(h:∀i x,∀G:α->β->Prop,(∀a b,A i x a b->G a b)->∀a b,c i x->Pv i a b->G a b):∀i x a b,c i x->Pv i a b->A i x a b:=λi x a b hc p=>h i x _ (λ_ _ z=>z) a b hc p
theorem ET{A:Nat->α->β->Prop}{c:Nat->Prop}{Pv:Nat->α->β->Prop}(h:∀i,∀G:α->β->Prop,(∀a b,A i a b->G a b)->∀a b,c i->Pv i a b->G a b):∀i a b,c i->Pv i a b->A i a b:=λi a b hc p=>h i _ (λ_ _ z=>z) a b hc p
theorem Ak.el{P:Prop}(h:Ak H r g lo c5)(k:∀tb,H r=some (.tup [.int g,.int lo,.ref tb])->H tb=some (.tup (c5.map V.int))->P):P:=by obtain⟨tb,h1,h2⟩:=h;exact k tb h1 h2
theorem Bu{K:qQ}{i:Int}{v:V}{Q:VK}(h:Ac K H a xs)(hi:Fu xs i=some v)(q:Q v H):RA K (.ref a) (.int i) H Q:=⟨a,xs,i,v,rfl,rfl,h,hi,q⟩
theorem BU{K:qQ}{i:Int}{v:V}{Q:VK}(h:Ao K H a xs)(hi:Fu xs i=some v)(q:Q v H):RC K (.ref a) (.int i) H Q:=⟨a,xs,i,v,rfl,rfl,h,hi,q⟩
end L2
local macro_rules|`(tactic|walk_at "")=>`(tactic| ((try dsimp only[L2.PL,L2.YU,L2.SQ,L2.Nm,L2.SB,L2.VH,L2.VV,L2.SJ,L2.VN,L2.Y4,L2.S0,L2.tC,L2.O8,L2.Gf,L2.Nw,L2.VP,L2.TD,L2.On,L2.Gb,L2.SD,L2.YR,L2.YQ,L2.JQ,L2.VG,L2.SO,L2.Pc,L2.SX,L2.Vw,L2.Ol,Option.join_some,L2.SW,L2.Vv,L2.VQ,L2.FU,L2.Kk,L2.JY,L2.SS,L2.TR,L2.PU,L2.M0,L2.VX,L2.VF,L2.VE,L2.Y2,L2.tB,L2.R9,L2.SA,L2.rI,L2.Q3,L2.rU,L2.TM,L2.PB,L2.Y7,L2.SM,L2.JI,L2.CA,L2.S7,L2.Op,L2.S8,L2.Y5,L2.Y6,L2.NG,L2.NI,L2.NJ,L2.NH,List.map_cons,List.map_nil,List.length_cons,List.length_nil,List.cons_append,List.nil_append,List.replicate,List.getElem?_cons_zero,List.getElem?_cons_succ,List.set_cons_zero,List.set_cons_succ,Nat.reduceAdd,Nat.reduceSub]);try simp only[L2.PL,L2.SQ,L2.SX,L2.Ol,Option.join_some,L2.TR,L2.M0,L2.PB,L2.CA,L2.S7,L2.Op,L2.S8,L2.NG,L2.NI,L2.NJ,L2.NH,List.map_cons,List.map_nil,List.length_cons,List.length_nil,List.cons_append,List.nil_append,List.replicate,List.getElem?_cons_zero,List.getElem?_cons_succ,List.set_cons_zero,List.set_cons_succ,Nat.reduceAdd,Nat.reduceSub,Option.some.injEq,L2.V.int.injEq,L2.V.bl.injEq,L2.V.ref.injEq,L2.V.str.injEq,List.cons.injEq,and_true,true_and,exists_eq_left',exists_eq_left,exists_eq_right,exists_and_left,exists_and_right,exists_eq,and_assoc,if_true,if_false,reduceIte,reduceCtorEq,not_true_eq_false,not_false_eq_true,Bool.false_eq_true,Bool.not_true,Bool.not_false,decide_eq_true_eq,Bool.not_eq_true',decide_eq_false_iff_not]))
namespace K84
open PySem L2 RW
def BV(i:Nat):Stmt:=PySem.Challenge.pw_rowrules_k84_a_book_told_and_asked.main.body.getD i (.Pass ⟨0,0,0,0⟩)
abbrev CP:Stmt:=JS (BV 3) 0
abbrev EU:Stmt:=BV 12
abbrev Tk:Stmt:=BV 13
abbrev Tl:Stmt:=BV 14
abbrev YZ:Stmt:=BV 15
abbrev Ya:Stmt:=BV 16
abbrev Tn:Stmt:=BV 17
abbrev To:Stmt:=BV 18
abbrev Tp:Stmt:=BV 21
abbrev Tq:Stmt:=BV 22
abbrev Yb:Stmt:=BV 23
abbrev Tr:Stmt:=BV 24
abbrev Ts:Stmt:=BV 25
abbrev Tt:Stmt:=BV 26
abbrev Tu:Stmt:=BV 27
abbrev Tv:Stmt:=BV 28
abbrev Tw:Stmt:=BV 29
abbrev Tx:Stmt:=BV 30
abbrev Tz:Stmt:=BV 32
abbrev T0:Stmt:=BV 33
abbrev T1:Stmt:=BV 34
abbrev T3:Stmt:=BV 36
abbrev T4:Stmt:=BV 35
abbrev T5:Stmt:=BV 38
abbrev T6:Stmt:=BV 39
abbrev T7:Stmt:=BV 42
abbrev T8:Stmt:=BV 45
abbrev T9:Stmt:=BV 46
abbrev Yc:Stmt:=BV 47
abbrev UA:Stmt:=BV 48
abbrev UB:Stmt:=BV 49
abbrev UC:Stmt:=BV 50
abbrev UD:Stmt:=BV 89
abbrev UE:Stmt:=BV 90
abbrev UF:Stmt:=BV 98
abbrev Yd:Stmt:=BV 99
abbrev UG:Stmt:=BV 100
abbrev UH:Stmt:=BV 101
abbrev Ye:Stmt:=BV 102
abbrev Yf:Stmt:=BV 102
abbrev UI:Stmt:=BV 103
abbrev UJ:Stmt:=BV 104
abbrev UK:Stmt:=BV 105
abbrev UL:Stmt:=BV 109
abbrev UM:Stmt:=BV 110
abbrev UN:Stmt:=BV 111
abbrev UO:Stmt:=BV 112
abbrev UP:Stmt:=BV 113
abbrev UQ:Stmt:=BV 115
abbrev UR:Stmt:=BV 117
abbrev US:Stmt:=BV 118
abbrev UT:Stmt:=BV 119
abbrev UU:Stmt:=BV 120
abbrev UV:Stmt:=BV 121
abbrev UW:Stmt:=BV 122
abbrev UX:Stmt:=BV 123
abbrev UY:Stmt:=BV 124
abbrev UZ:Stmt:=BV 125
abbrev Yg:Stmt:=JS (BV 131) 0
abbrev Ua:Stmt:=JS (BV 131) 1
abbrev Yh:Stmt:=BV 133
abbrev Ub:Stmt:=BV 134
abbrev Uc:Stmt:=BV 135
abbrev Ud:Stmt:=BV 136
abbrev Ue:Stmt:=BV 137
abbrev Uf:Stmt:=BV 138
abbrev Ug:Stmt:=BV 139
abbrev Yi:Stmt:=BV 140
abbrev Uh:Stmt:=BV 141
abbrev Ui:Stmt:=BV 142
abbrev Uj:Stmt:=BV 143
abbrev Uk:Stmt:=BV 144
abbrev Ul:Stmt:=BV 145
abbrev Um:Stmt:=BV 146
abbrev Uo:Stmt:=BV 147
abbrev Up:Stmt:=BV 148
abbrev Uq:Stmt:=BV 149
abbrev Ur:Stmt:=BV 150
abbrev Us:Stmt:=BV 151
abbrev Ut:Stmt:=BV 152
abbrev Rx:Stmt:=BV 153
set_option genInjectivity false
structure EC where
 (c_51 c_71 c_80 c_72 c_50 c_64 c_28 c_73 c_70 c_79 c_84:qM)
 (f_2 f_55 f_65 f_24 f_6 f_0 f_40 f_69 f_22 f_25 f_9 f_16 f_86 f_76 f_38 f_39 f_47 f_82 f_85 f_37 f_89 f_81 f_56 f_77 f_68 f_17 f_74 f_54 f_1 f_36 f_75 f_87 f_83 f_78 f_23 f_7 f_18 f_42 f_8 f_45 f_43 f_46 f_41 f_66 f_90 f_48 f_60 f_63 f_58 f_57 f_44 f_62 f_27 f_61 f_67 f_59 f_26 f_4 f_49 f_5 f_14 f_33 f_13 f_35 f_21 f_53 f_3 f_30 f_34 f_20 f_11 f_12 f_15 f_19 f_31 f_29 f_10 f_52 f_32 f_88:qM)
 (k_EVEN:qM)
 (k_ROWS k_ROWS_rule k_ROWS_join k_ROWS_turn k_ROWS_back k_ROWS_move k_ROWS_drop k_ROWS_names k_ROWS_show k_ROWS_number k_ROWS_same k_ROWS_led k_ROWS_ring k_ROWS_before k_ROWS_onto k_ROWS_one k_ROWS_kept:qM)
noncomputable def Im(t:EC):List (Str×V):=[("rule",.ref t.k_ROWS_rule),("join",.ref t.k_ROWS_join),("turn",.ref t.k_ROWS_turn),("back",.ref t.k_ROWS_back),("move",.ref t.k_ROWS_move),("drop",.ref t.k_ROWS_drop),("names",.ref t.k_ROWS_names),("show",.ref t.k_ROWS_show),("number",.ref t.k_ROWS_number),("same",.ref t.k_ROWS_same),("led",.ref t.k_ROWS_led),("ring",.ref t.k_ROWS_ring),("before",.ref t.k_ROWS_before),("onto",.ref t.k_ROWS_onto),("one",.ref t.k_ROWS_one),("kept",.ref t.k_ROWS_kept)]
structure A5(w:qP)(K:qQ)(mg:Str->Option qL)(t:EC):Prop where
 m_51:mg "RowError"=some (.ref t.c_51)
 m_71:mg "NoRule"=some (.ref t.c_71)
 m_80:mg "NoRow"=some (.ref t.c_80)
 m_72:mg "NoSuch"=some (.ref t.c_72)
 m_50:mg "NoWindow"=some (.ref t.c_50)
 m_64:mg "TooWide"=some (.ref t.c_64)
 m_28:mg "NoWayBack"=some (.ref t.c_28)
 m_73:mg "NoText"=some (.ref t.c_73)
 m_70:mg "NoName"=some (.ref t.c_70)
 m_79:mg "NoAsk"=some (.ref t.c_79)
 m_84:mg "Book"=some (.ref t.c_84)
 m_EVEN:mg "EVEN"=some (.ref t.k_EVEN)
 q_EVEN:Se K t.k_EVEN [0,0]=true
 d_2:∃fd,BD K "__init__" "NoRow.__init__" CP t.f_2 fd
 m_55:mg "is_whole"=some (.ref t.f_55)
 d_55:∃fd,BD K "is_whole" "is_whole" EU t.f_55 fd
 m_65:mg "is_sign"=some (.ref t.f_65)
 d_65:∃fd,BD K "is_sign" "is_sign" Tk t.f_65 fd
 m_24:mg "check_word"=some (.ref t.f_24)
 d_24:∃fd,BD K "check_word" "check_word" Tl t.f_24 fd
 m_6:mg "check_length"=some (.ref t.f_6)
 d_6:∃fd,BD K "check_length" "check_length" YZ t.f_6 fd
 m_0:mg "check_at_least"=some (.ref t.f_0)
 d_0:∃fd,BD K "check_at_least" "check_at_least" Ya t.f_0 fd
 m_40:mg "number_of"=some (.ref t.f_40)
 d_40:∃fd,BD K "number_of" "number_of" Tn t.f_40 fd
 m_69:mg "word_of"=some (.ref t.f_69)
 d_69:∃fd,BD K "word_of" "word_of" To t.f_69 fd
 m_22:mg "check_head"=some (.ref t.f_22)
 d_22:∃fd,BD K "check_head" "check_head" Tp t.f_22 fd
 m_25:mg "places_for"=some (.ref t.f_25)
 d_25:∃fd,BD K "places_for" "places_for" Tq t.f_25 fd
 m_9:mg "table_length"=some (.ref t.f_9)
 d_9:∃fd,BD K "table_length" "table_length" Yb t.f_9 fd
 m_16:mg "check_table"=some (.ref t.f_16)
 d_16:∃fd,BD K "check_table" "check_table" Tr t.f_16 fd
 m_86:mg "rule"=some (.ref t.f_86)
 d_86:∃fd,BD K "rule" "rule" Ts t.f_86 fd
 m_76:mg "places"=some (.ref t.f_76)
 d_76:∃fd,BD K "places" "places" Tt t.f_76 fd
 m_38:mg "next_sign"=some (.ref t.f_38)
 d_38:∃fd,BD K "next_sign" "next_sign" Tu t.f_38 fd
 m_39:mg "number_by"=some (.ref t.f_39)
 d_39:∃fd,BD K "number_by" "number_by" Tv t.f_39 fd
 m_47:mg "told_from"=some (.ref t.f_47)
 d_47:∃fd,BD K "told_from" "told_from" Tw t.f_47 fd
 m_82:mg "heads"=some (.ref t.f_82)
 d_82:∃fd,BD K "heads" "heads" Tx t.f_82 fd
 m_85:mg "lead"=some (.ref t.f_85)
 d_85:∃fd,BD K "lead" "lead" Tz t.f_85 fd
 m_37:mg "lead_ring"=some (.ref t.f_37)
 d_37:∃fd,BD K "lead_ring" "lead_ring" T0 t.f_37 fd
 m_89:mg "led"=some (.ref t.f_89)
 d_89:∃fd,BD K "led" "led" T1 t.f_89 fd
 m_81:mg "after"=some (.ref t.f_81)
 d_81:∃tk fd dT,Pf K "after" "after" T3 t.f_81 fd dT [.int 1 tk]
 m_56:mg "led_ring"=some (.ref t.f_56)
 d_56:∃fd,BD K "led_ring" "led_ring" T4 t.f_56 fd
 m_77:mg "shares"=some (.ref t.f_77)
 d_77:∃fd,BD K "shares" "shares" T5 t.f_77 fd
 m_68:mg "ways_on"=some (.ref t.f_68)
 d_68:∃fd,BD K "ways_on" "ways_on" T6 t.f_68 fd
 m_17:mg "many_before"=some (.ref t.f_17)
 d_17:∃fd,BD K "many_before" "many_before" T7 t.f_17 fd
 m_74:mg "counts"=some (.ref t.f_74)
 d_74:∃fd,BD K "counts" "counts" T8 t.f_74 fd
 m_54:mg "counting"=some (.ref t.f_54)
 d_54:∃fd,BD K "counting" "counting" T9 t.f_54 fd
 m_1:mg "sign_or_nought"=some (.ref t.f_1)
 d_1:∃fd,BD K "sign_or_nought" "sign_or_nought" Yc t.f_1 fd
 m_36:mg "by_window"=some (.ref t.f_36)
 d_36:∃fd,BD K "by_window" "by_window" UA t.f_36 fd
 m_75:mg "narrow"=some (.ref t.f_75)
 d_75:∃fd,BD K "narrow" "narrow" UB t.f_75 fd
 m_87:mg "same"=some (.ref t.f_87)
 d_87:∃fd,BD K "same" "same" UC t.f_87 fd
 m_83:mg "moved"=some (.ref t.f_83)
 d_83:∃fd,BD K "moved" "moved" UD t.f_83 fd
 m_78:mg "turned"=some (.ref t.f_78)
 d_78:∃fd,BD K "turned" "turned" UE t.f_78 fd
 m_23:mg "check_text"=some (.ref t.f_23)
 d_23:∃fd,BD K "check_text" "check_text" UF t.f_23 fd
 m_7:mg "read_figures"=some (.ref t.f_7)
 d_7:∃fd,BD K "read_figures" "read_figures" Yd t.f_7 fd
 m_18:mg "read_number"=some (.ref t.f_18)
 d_18:∃fd,BD K "read_number" "read_number" UG t.f_18 fd
 m_42:mg "read_rule"=some (.ref t.f_42)
 d_42:∃fd,BD K "read_rule" "read_rule" UH t.f_42 fd
 m_8:mg "show_figures"=some (.ref t.f_8)
 d_8:∃fd,BD K "show_figures" "show_figures" Ye t.f_8 fd
 m_45:mg "show_rule"=some (.ref t.f_45)
 d_45:∃fd,BD K "show_rule" "show_rule" UI t.f_45 fd
 m_43:mg "read_word"=some (.ref t.f_43)
 d_43:∃fd,BD K "read_word" "read_word" UJ t.f_43 fd
 m_46:mg "show_word"=some (.ref t.f_46)
 d_46:∃fd,BD K "show_word" "show_word" UK t.f_46 fd
 m_41:mg "read_name"=some (.ref t.f_41)
 d_41:∃fd,BD K "read_name" "read_name" UL t.f_41 fd
 m_66:mg "rule_by"=some (.ref t.f_66)
 d_66:∃fd,BD K "rule_by" "rule_by" UM t.f_66 fd
 m_90:mg "put"=some (.ref t.f_90)
 d_90:∃fd,BD K "put" "put" UN t.f_90 fd
 m_48:mg "yes_or_no"=some (.ref t.f_48)
 d_48:∃fd,BD K "yes_or_no" "yes_or_no" UO t.f_48 fd
 m_60:mg "say_rule"=some (.ref t.f_60)
 d_60:∃fd,BD K "say_rule" "say_rule" UP t.f_60 fd
 m_63:mg "say_turn"=some (.ref t.f_63)
 d_63:∃fd,BD K "say_turn" "say_turn" UQ t.f_63 fd
 m_58:mg "say_move"=some (.ref t.f_58)
 d_58:∃fd,BD K "say_move" "say_move" UR t.f_58 fd
 m_57:mg "say_drop"=some (.ref t.f_57)
 d_57:∃fd,BD K "say_drop" "say_drop" US t.f_57 fd
 m_44:mg "say_names"=some (.ref t.f_44)
 d_44:∃fd,BD K "say_names" "say_names" UT t.f_44 fd
 m_62:mg "say_show"=some (.ref t.f_62)
 d_62:∃fd,BD K "say_show" "say_show" UU t.f_62 fd
 m_27:mg "say_number"=some (.ref t.f_27)
 d_27:∃fd,BD K "say_number" "say_number" UV t.f_27 fd
 m_61:mg "say_same"=some (.ref t.f_61)
 d_61:∃fd,BD K "say_same" "say_same" UW t.f_61 fd
 m_67:mg "say_led"=some (.ref t.f_67)
 d_67:∃fd,BD K "say_led" "say_led" UX t.f_67 fd
 m_59:mg "say_ring"=some (.ref t.f_59)
 d_59:∃fd,BD K "say_ring" "say_ring" UY t.f_59 fd
 m_26:mg "say_before"=some (.ref t.f_26)
 d_26:∃fd,BD K "say_before" "say_before" UZ t.f_26 fd
 d_4:∃fd,BD K "__init__" "Book.__init__" Yg t.f_4 fd
 d_49:∃fd,BD K "say" "Book.say" Ua t.f_49 fd
 m_5:mg "_law_cell_at"=some (.ref t.f_5)
 d_5:∃fd,BD K "_law_cell_at" "_law_cell_at" Yh t.f_5 fd
 m_14:mg "_law_stream"=some (.ref t.f_14)
 d_14:∃fd,BD K "_law_stream" "_law_stream" Ub t.f_14 fd
 m_33:mg "_law_size"=some (.ref t.f_33)
 d_33:∃fd,BD K "_law_size" "_law_size" Uc t.f_33 fd
 m_13:mg "_law_places"=some (.ref t.f_13)
 d_13:∃fd,BD K "_law_places" "_law_places" Ud t.f_13 fd
 m_35:mg "_law_word"=some (.ref t.f_35)
 d_35:∃fd,BD K "_law_word" "_law_word" Ue t.f_35 fd
 m_21:mg "_law_value"=some (.ref t.f_21)
 d_21:∃fd,BD K "_law_value" "_law_value" Uf t.f_21 fd
 m_53:mg "_law_led"=some (.ref t.f_53)
 d_53:∃fd,BD K "_law_led" "_law_led" Ug t.f_53 fd
 m_3:mg "_law_ring_led"=some (.ref t.f_3)
 d_3:∃fd,BD K "_law_ring_led" "_law_ring_led" Yi t.f_3 fd
 m_30:mg "_law_many"=some (.ref t.f_30)
 d_30:∃fd,BD K "_law_many" "_law_many" Uh t.f_30 fd
 m_34:mg "_law_text"=some (.ref t.f_34)
 d_34:∃fd,BD K "_law_text" "_law_text" Ui t.f_34 fd
 m_20:mg "_law_shown"=some (.ref t.f_20)
 d_20:∃fd,BD K "_law_shown" "_law_shown" Uj t.f_20 fd
 m_11:mg "_law_counts"=some (.ref t.f_11)
 d_11:∃fd,BD K "_law_counts" "_law_counts" Uk t.f_11 fd
 m_12:mg "_law_narrow"=some (.ref t.f_12)
 d_12:∃fd,BD K "_law_narrow" "_law_narrow" Ul t.f_12 fd
 m_15:mg "_law_turned"=some (.ref t.f_15)
 d_15:∃fd,BD K "_law_turned" "_law_turned" Um t.f_15 fd
 m_19:mg "_law_names"=some (.ref t.f_19)
 d_19:∃fd,BD K "_law_names" "_law_names" Uo t.f_19 fd
 m_31:mg "_law_rule"=some (.ref t.f_31)
 d_31:∃fd,BD K "_law_rule" "_law_rule" Up t.f_31 fd
 m_29:mg "_law_deed"=some (.ref t.f_29)
 d_29:∃fd,BD K "_law_deed" "_law_deed" Uq t.f_29 fd
 m_10:mg "_law_answer"=some (.ref t.f_10)
 d_10:∃fd,BD K "_law_answer" "_law_answer" Ur t.f_10 fd
 m_52:mg "_law_ask"=some (.ref t.f_52)
 d_52:∃fd,BD K "_law_ask" "_law_ask" Us t.f_52 fd
 m_32:mg "_law_said"=some (.ref t.f_32)
 d_32:∃fd,BD K "_law_said" "_law_said" Ut t.f_32 fd
 m_88:mg "law"=some (.ref t.f_88)
 d_88:∃fd,BD K "law" "law" Rx t.f_88 fd
 m_ROWS:mg "ROWS"=some (.ref t.k_ROWS)
 r_ROWS:QO w.params K t.k_ROWS (Im t)
 q_ROWS_rule:CO K t.k_ROWS_rule [.int 3,.ref t.f_60]=true
 q_ROWS_turn:CO K t.k_ROWS_turn [.int 3,.ref t.f_63]=true
 q_ROWS_move:CO K t.k_ROWS_move [.int 4,.ref t.f_58]=true
 q_ROWS_drop:CO K t.k_ROWS_drop [.int 2,.ref t.f_57]=true
 q_ROWS_names:CO K t.k_ROWS_names [.int 1,.ref t.f_44]=true
 q_ROWS_show:CO K t.k_ROWS_show [.int 2,.ref t.f_62]=true
 q_ROWS_number:CO K t.k_ROWS_number [.int 2,.ref t.f_27]=true
 q_ROWS_same:CO K t.k_ROWS_same [.int 3,.ref t.f_61]=true
 q_ROWS_led:CO K t.k_ROWS_led [.int 3,.ref t.f_67]=true
 q_ROWS_ring:CO K t.k_ROWS_ring [.int 3,.ref t.f_59]=true
 q_ROWS_before:CO K t.k_ROWS_before [.int 3,.ref t.f_26]=true
 z_len:mg "len"=none
 z_list:mg "list"=none
 z_reversed:mg "reversed"=none
 z_isinstance:mg "isinstance"=none
 z_range:mg "range"=none
 z_int:mg "int"=none
 z_bool:mg "bool"=none
 z_ValueError:mg "ValueError"=none
 z_tuple:mg "tuple"=none
 z_enumerate:mg "enumerate"=none
 z_min:mg "min"=none
 z_max:mg "max"=none
 z_str:mg "str"=none
 z_sum:mg "sum"=none
 z_sorted:mg "sorted"=none
 z_abs:mg "abs"=none
 z_any:mg "any"=none
 z_all:mg "all"=none
 z_zip:mg "zip"=none
 g_LONGEST_TABLE:∃k,mg "LONGEST_TABLE"=some (.int 256 k)
 g_MOST_NODES:∃k,mg "MOST_NODES"=some (.int 9 k)
 g_FIGURES:∃k,mg "FIGURES"=some (.str "0123456789" k)
 g_MOST_FIGURES:∃k,mg "MOST_FIGURES"=some (.int 60 k)
 g_LETTERS:∃k,mg "LETTERS"=some (.str "abcdefghijklmnopqrstuvwxyz" k)
 g_LONGEST_NAME:∃k,mg "LONGEST_NAME"=some (.int 8 k)
 th_84:ZI K t.c_84
 na_Book_rules:EE K t.c_84 "rules"
 mk_84:Mk K t.c_84 t.f_4
 me_49:S9 K t.c_84 "say" t.f_49
 x_71:PySem.W.excIn K t.c_71 Cp "ValueError.__new__"=true
 x_72:PySem.W.excIn K t.c_72 Cp "ValueError.__new__"=true
 x_50:PySem.W.excIn K t.c_50 Cp "ValueError.__new__"=true
 x_64:PySem.W.excIn K t.c_64 Cp "ValueError.__new__"=true
 x_28:PySem.W.excIn K t.c_28 Cp "ValueError.__new__"=true
 x_73:PySem.W.excIn K t.c_73 Cp "ValueError.__new__"=true
 x_70:PySem.W.excIn K t.c_70 Cp "ValueError.__new__"=true
 x_79:PySem.W.excIn K t.c_79 Cp "ValueError.__new__"=true
 xm_80:X7 K t.c_80 t.f_2
 ek_80:JX K t.c_80
 ek_70:JX K t.c_70
 xa_NoRow_at:XA K t.c_80 t.c_51 "at"
 kt_70_70:PySem.W.kitOne K (.ref t.c_70) (.ref t.c_70)=some true
 kt_NoName_ValueError:PySem.W.kitOne K (.ref t.c_70) (.type "ValueError")=some true
 kt_70_79:PySem.W.kitOne K (.ref t.c_70) (.ref t.c_79)=some false
 kt_70_73:PySem.W.kitOne K (.ref t.c_70) (.ref t.c_73)=some false
 em_70_51:PySem.W.exmOne K (.ref t.c_70) (.ref t.c_51)=some true
 em_71_71:PySem.W.exmOne K (.ref t.c_71) (.ref t.c_71)=some true
noncomputable def cA(t:EC):Nat->qM:=λ_=>t.c_70
def LP(t:EC)(c:Nat)(H:Hp)(E:XK):Prop:=∀D H',AI H H'->E (.ref (cA t c)) D H'
theorem LP.same{t:EC}{c:Nat}{H H':Hp}{E:XK}(h:LP t c H E)(e:AI H H'):LP t c H' E:=λD H2 e2=>h D H2 (e.trans e2)
structure Rl where
 (g lo:Int) (tq:qR) (m:Nat)
def EV(H:Hp)(a:qM)(q:Rl):Prop:=Ap H a q.g q.lo q.tq q.m
abbrev Rs:=List (Str×Rl)
def DW(H:Hp)(d:qM)(rs:Rs):Prop:=rs.length<=30/\∃kvs:List (CG×V),H d=some (.dK kvs)/\Paired (λ(q:CG×V) (p:Str×Rl)=>q.1=.inr p.1/\∃a,q.2=.ref a/\EV H a p.2) kvs rs
theorem DW.same{H H':Hp}{d:qM}{rs:Rs}(e:AI H H')(h:DW H d rs):DW H' d rs:=by obtain⟨l,kvs,hd,hp⟩:=h;exact⟨l,kvs,e _ _ hd,Paired.mapP hp λq p z=>⟨z.1,z.2.elim λa y=>⟨a,y.1,Ap.same e y.2⟩⟩⟩
theorem Fo{H:Hp}{x:Str}{kvs:List (CG×V)}{rs:Rs}(h:Paired (λ(q:CG×V) (p:Str×Rl)=>q.1=.inr p.1/\∃a,q.2=.ref a/\EV H a p.2) kvs rs):
  (rs.lookup x=none->Da kvs (.inr x)=none)/\∀q,rs.lookup x=some q->∃a,Da kvs (.inr x)=some (.ref a)/\EV H a q:=by
 induction h with
 |nil=>exact⟨λ_=>rfl,λq z=>by cases z⟩
 | @cons q p kvs rs r _ ih =>
  obtain⟨k,v⟩:=q;obtain⟨e1,a,e2,ok⟩:=r;dsimp only at e1 e2;subst e1 e2;rw[Z4]
  by_cases z:x=p.1
  ·subst z;rw[beq_self_eq_true,FE rfl];refine⟨λy=>?_,λq y=>?_⟩
   ·cases y
   ·cases y;exact⟨a,rfl,ok⟩
  ·rw[beq_eq_false_iff_ne.mpr z];have e:Da ((Sum.inr p.1,V.ref a)::kvs) (.inr x)=Da kvs (.inr x):=by unfold Da;rw[List.find?_cons,qG (λy=>z (Sum.inr.inj y).symm)]
   rw[e];exact ih
theorem DW.miss{H:Hp}{d:qM}{rs:Rs}{x:Str}(h:DW H d rs)(e:rs.lookup x=none):IE H d (.str x) none:=by obtain⟨_,kvs,hd,hp⟩:=h;exact .inl ⟨kvs,.inr x,.inl hd,rfl,((Fo hp).1 e).symm⟩
theorem DW.hit{H:Hp}{d:qM}{rs:Rs}{x:Str}{q:Rl}(h:DW H d rs)(e:rs.lookup x=some q):∃a,IE H d (.str x) (some (.ref a))/\EV H a q:=by obtain⟨_,kvs,hd,hp⟩:=h;obtain⟨a,h1,h2⟩:=(Fo hp).2 q e;exact⟨a,.inl ⟨kvs,.inr x,.inl hd,rfl,h1.symm⟩,h2⟩
def A0(d:qM)(H H':Hp):Prop:=∀a o,a≠d->H a=some o->H' a=some o
theorem A0.of{d:qM}{H H':Hp}(e:AI H H'):A0 d H H':=λa o _ h=>e a o h
def BJ(x:Str):Prop:=1<=x.cps.size/\x.cps.size<=8/\∀c∈x.cps.toList,97<=c/\c<=122
inductive Fp(t:EC)(vs:List V)(H:Hp)(Q:VK)(E:XK):Prop
 |m (x:Str):vs=[.str x]->DZ x->(BJ x->∀H',AI H H'->Q (.str x) H')->(¬BJ x->LP t 1 H E)->Fp t vs H Q E
inductive GD(t:EC)(vs:List V)(H:Hp)(Q:VK)(E:XK):Prop
 |m (d:qM) (x:Str) (rs:Rs):vs=[.ref d,.str x]->DW H d rs->(∀q a,rs.lookup x=some q->EV H a q->Q (.ref a) H)->(rs.lookup x=none->LP t 1 H E)->GD t vs H Q E
noncomputable def Dq(rs:Rs)(x:Str)(q:Rl):Rs:=if (rs.any λp=>decide (p.1=x))=true then rs.map (λp=>if p.1=x then (p.1,q) else p) else rs++[(x,q)]
noncomputable def Io(rs:Rs)(x:Str):Rs:=rs.filter λp=>decide (p.1≠x)
inductive LQ(vs:List V)(H:Hp)(Q:VK)(z3_:XK):Prop
 |m (d a:qM) (x:Str) (rs:Rs) (q:Rl):vs=[.ref d,.str x,.ref a]->DW H d rs->rs.length<=29->EV H a q->(∀H',A0 d H H'->DW H' d (Dq rs x q)->Q (.str "ok") H')->LQ vs H Q z3_
def WE(q:Rl):Prop:=2<=q.g/\q.g<=9/\1<=q.m/\q.m<=8/\(q.tq.length:Int)=q.g^q.m/\q.g^q.m<=256/\∀n∈q.tq,0<=n/\n<q.g
abbrev EW:=Rs->List Str->Hp->qM->VK->XK->Prop
noncomputable def Ip(q:Rl):Rl:=⟨q.g,1-q.lo-(q.m:Int),Dm q.g q.tq q.m,q.m⟩
noncomputable def Mf(q:Rl)(n:Int):Rl:=⟨q.g,q.lo+n,q.tq,q.m⟩
def HV:EW:=λ_ _ _ _ _ _=>False
def GY:EW:=λrs ws H d Q _=>∃w0 x y,ws=[w0,x,y]/\BJ x/\rs.length<=29/\∃q:Rl,Fm (.str y) q.g q.lo q.tq/\WE q/\∀H',A0 d H H'->DW H' d (Dq rs x q)->Q (.str "ok") H'
def FG(t:EC):EW:=λrs ws H d Q E=>∃w0 x y,ws=[w0,x,y]/\BJ x/\rs.length<=29/\((rs.lookup y=none/\LP t 1 H E)\/∃q:Rl,rs.lookup y=some q/\∀H',A0 d H H'->DW H' d (Dq rs x (Ip q))->Q (.str "ok") H')
def FH(t:EC):EW:=λrs ws H d Q E=>∃w0 x y z,ws=[w0,x,y,z]/\BJ x/\rs.length<=29/\((rs.lookup y=none/\LP t 1 H E)\/∃(q:Rl) (n:Int),rs.lookup y=some q/\ID z n/\∀H',A0 d H H'->DW H' d (Dq rs x (Mf q n))->Q (.str "ok") H')
def FI(t:EC):EW:=λrs ws H d Q E=>∃w0 x,ws=[w0,x]/\((rs.lookup x=none/\LP t 1 H E)\/∃q:Rl,rs.lookup x=some q/\∀H',A0 d H H'->DW H' d (Io rs x)->Q (.str "ok") H')
def WF(l:List Str):Prop:=PyProof.Rows.sortedS l=true
def FJ:EW:=λrs ws H _ Q _=>∃w0,ws=[w0]/\(∀p∈rs,p.1.cps.size<=8)/\∀l,l.Perm (rs.map Prod.fst)->WF l->∀H',AI H H'->Q (.str (PySem.Txt.join (Str.ofString " ") l)) H'
def FK(t:EC):EW:=λrs ws H _ Q E=>∃w0 x,ws=[w0,x]/\((rs.lookup x=none/\LP t 1 H E)\/∃(q:Rl) (lo:Int) (M:Nat),rs.lookup x=some q/\Eu q.g q.lo q.tq q.m lo M/\lo.natAbs<10^130/\∀H',AI H H'->Q (.str (FC q.g lo (GQ q.g q.lo q.tq q.m lo M))) H')
def HW(t:EC):EW:=λrs ws H _ Q E=>∃w0 x,ws=[w0,x]/\((rs.lookup x=none/\LP t 1 H E)\/∃q,rs.lookup x=some q/\(low q.g q.tq).natAbs<10^130/\∀H',AI H H'->Q (.str (Str.ofString (toString (low q.g q.tq)))) H')
noncomputable def Ry(b:Bool):Str:=if b then Str.ofString "yes" else Str.ofString "no"
def FL(t:EC):EW:=λrs ws H _ Q E=>∃w0 x y,ws=[w0,x,y]/\((rs.lookup x=none/\LP t 1 H E)\/∃q,rs.lookup x=some q/\((rs.lookup y=none/\LP t 1 H E)\/∃r,rs.lookup y=some r/\∀(b:Bool) H',(b=true↔q.g=r.g/\G3 q.g q.lo q.tq q.m r.lo r.tq r.m)->AI H H'->Q (.str (Ry b)) H'))
def Cn(t:EC)(f:Rl->qR->Str)(n:Nat):EW:=λrs ws H _ Q E=>∃w0 x y,ws=[w0,x,y]/\((rs.lookup x=none/\LP t 1 H E)\/∃q us,rs.lookup x=some q/\Ro (.str y)=some us/\(∀k∈us,0<=k/\k<q.g)/\n<=us.length/\us.length<=100/\∀H',AI H H'->Q (.str (f q us)) H')
noncomputable def Mg(q:Rl)(us:qR):Str:=Ci (Fb q.g q.tq q.m us)
noncomputable def HZ(q:Rl)(us:qR):Str:=Ci (DA q.g q.lo q.tq q.m us)
noncomputable def Mh(q:Rl)(us:qR):Str:=Str.ofString (toString (P4 q.g.toNat q.tq us))
inductive Bb(f:EW)(vs:List V)(H:Hp)(Q:VK)(E:XK):Prop
 |m (d a:qM) (rs:Rs) (ws:List Str):vs=[.ref d,.ref a]->DW H d rs->H a=some (.lst (ws.map V.str))->(∀x∈ws,DZ x)->f rs ws H d Q E->Bb f vs H Q E
theorem Mi:∀c,c<128->(!(Builtin.Str.occurrences (Str.ofString "abcdefghijklmnopqrstuvwxyz") ⟨#[c]⟩ 0 (Str.ofString "abcdefghijklmnopqrstuvwxyz").length 1).isEmpty)=(decide (97<=c)&&decide (c<=122)):=by decide +kernel
theorem Iq{x:Str}:(((x.cps.toList.take x.cps.size).map λc:Nat=>decide (97<=c)&&decide (c<=122)).all id=true)↔∀c∈x.cps.toList,97<=c/\c<=122:=by
 rw[Zz (by rw[ZT];exact ZR _),List.all_map,Zi];refine forall_congr' λc=>forall_congr' λ_=>?_
 show (decide (97<=c)&&decide (c<=122))=true↔_;rw[Ze,decide_eq_true_eq,decide_eq_true_eq]
theorem Bs{t:EC}{H:Hp}{Q:VK}{E:XK}{d:qM}{x:Str}{rs:Rs}(hR:DW H d rs)(h:(rs.lookup x=none/\LP t 1 H E)\/∃q,rs.lookup x=some q/\∀a,EV H a q->Q (.ref a) H):GD t [.ref d,.str x] H Q E:=by
 refine⟨d,x,rs,rfl,hR,λq a e ok=>?_,λe=>?_⟩
 ·rcases h with⟨z,_⟩|⟨q',z,h⟩
  ·rw[z]at e;cases e
  ·rw[z]at e;cases e;exact h a ok
 ·rcases h with⟨_,r⟩|⟨q',z,_⟩
  ·exact r
  ·rw[z]at e;cases e
theorem QT{t:EC}{H:Hp}{Q:VK}{E:XK}{x:Str}(tx:DZ x)(h:(¬BJ x/\LP t 1 H E)\/(BJ x/\∀H',AI H H'->Q (.str x) H')):Fp t [.str x] H Q E:=by
 refine⟨x,rfl,tx,λn=>?_,λn=>?_⟩
 ·rcases h with⟨z,_⟩|⟨_,h⟩
  ·exact qE n z
  ·exact h
 ·rcases h with⟨_,r⟩|⟨z,_⟩
  ·exact r
  ·exact qE z n
theorem EV.same{H H':Hp}{a:qM}{q:Rl}(e:AI H H')(h:EV H a q):EV H' a q:=Ap.same e h
theorem Ha{n:Int}(h:n.natAbs<10^130):n.natAbs.log2<1920:=by
 rcases Nat.eq_zero_or_pos n.natAbs with z|z
 ·rw[z];decide
 ·refine (Nat.log2_lt (aL z)).mpr (br h ?_)
  decide +kernel
def IF(t:EC)(H:Hp)(b d:qM)(rs:Rs):Prop:=(∃dx,H b=some (.ins t.c_84 dx [("rules",.ref d)]))/\DW H d rs
inductive QU(t:EC)(vs:List V)(H:Hp)(Q:VK)(z3_:XK):Prop
 |m (x dx):vs=[.ref x]->H x=some (.ins t.c_84 dx [])->(∀d H',(∀H2,AI H2 H->H2 x=none->AI H2 H')->H d=none->IF t H' x d []->Q .non H')->QU t vs H Q z3_
noncomputable def Uu(t:EC):List (Str×Nat×EW):=[("rule",3,GY),("join",4,HV),("turn",3,FG t),("back",3,HV),("move",4,FH t),("drop",2,FI t),("names",1,FJ),("show",2,FK t),("number",2,HW t),("same",3,FL t),("led",3,Cn t Mg 0),("ring",3,Cn t HZ 1),("before",3,Cn t Mh 0),("onto",2,HV),("one",2,HV),("kept",2,HV)]
def Uv(t:EC)(rs:Rs)(x:Str)(H:Hp)(d:qM)(Q:VK)(E:XK):Prop:=∃w ws,PySem.Txt.split x (Str.ofString " ")=w::ws/\∃n f,(Uu t).lookup w=some (n,f)/\ws.length+1=n/\∀H1,AI H H1->f rs (w::ws) H1 d Q E
inductive Hb(t:EC)(vs:List V)(H:Hp)(Q:VK)(E:XK):Prop
 |m (b d:qM) (rs:Rs) (x:Str):vs=[.ref b,.str x]->IF t H b d rs->DZ x->Uv t rs x H d Q E->Hb t vs H Q E
theorem NR{l:List Str}(h:∀x∈l,x.cps.size<=8):(l.map λx=>x.length).sum<=8*l.length:=by
 induction l with
 |nil=>exact ZR _
 |cons x l ih =>
  rw[Zp,List.sum_cons,Zb];have a:=h x (ZZ ..);have b:=ih λy hy=>h y (ZS _ hy)
  have c:x.length=x.cps.size:=rfl;lia
theorem Ir{H:Hp}{kvs:List (CG×V)}{rs:Rs}(h:Paired (λ(q:CG×V) (p:Str×Rl)=>q.1=.inr p.1/\∃a,q.2=.ref a/\EV H a p.2) kvs rs):kvs.map (·.1)=(rs.map Prod.fst).map Sum.inr:=by
 induction h with
 |nil=>rfl
 |cons r _ ih=>rw[Zp,Zp,Zp,r.1,ih]
theorem LR{β γ:Type}{R:β->γ->Prop}{w:Str}{l:List (Str×β)}{l':List (Str×γ)}(h:Paired (λ(p:Str×β) (q:Str×γ)=>p.1=q.1/\R p.2 q.2) l l'):(l.lookup w=none/\l'.lookup w=none)\/∃b c,l.lookup w=some b/\l'.lookup w=some c/\R b c:=by
 induction h with
 |nil=>exact .inl ⟨rfl,rfl⟩
 | @cons p q l l' r _ ih =>
  obtain⟨k,b⟩:=p;obtain⟨k',c⟩:=q;obtain⟨e,r⟩:=r;dsimp only at e r;subst e;rw[Z4,Z4];cases w==k with
  |true=>exact .inr ⟨b,c,rfl,rfl,r⟩
  |false=>exact ih
def WG(P:qO)(w:qP)(K:qQ)(mg:Str->Option qL)(base:Heap)(b:Nat×EW)(v:V):Prop:=∃k,v=.ref k/\(b.2=HV\/∃fa ps,CO K k [.int ((b.1:Nat):Int),.ref fa]=true/\Aa P w K mg base 9 fa ps (Bb b.2))
noncomputable def D1(x:Str):List Str:=PySem.Txt.split x (Str.ofString " ")
theorem WH:Str.ofString " "=⟨#[32]⟩:=by decide +kernel
theorem Ca(x:Str):(D1 x).map (·.cps.toList)=B7 32 x.cps.toList:=by unfold D1;rw[WH];exact G7 x 32
theorem QV{x:Str}(h:DZ x):(D1 x).length<=601/\∀p∈D1 x,DZ p:=by have e:=Ca x;obtain⟨h1,h2⟩:=G8 32 x.cps.toList;have hs:=h.2;have hl:x.cps.toList.length=x.cps.size:=ZT;rw[<-e,ZM]at h1;refine⟨by lia,λp hp=>?_⟩;obtain⟨h3,h4⟩:=h2 p.cps.toList (by rw[<-e];exact List.mem_map_of_mem hp);rw[ZT,ZT]at h3;refine⟨?_,by lia⟩;have ha:=h.1;unfold IC at ha⊢;rw[<-Array.all_toList,Zi]at ha⊢;exact λc hc=>ha c (h4 c hc)
structure VA(n0 n1 n2 n3:Str):Prop where
 o0:BJ n0
 o1:BJ n1
 o2:BJ n2
 o3:BJ n3
 d01:n0≠n1
 d02:n0≠n2
 d03:n0≠n3
 d12:n1≠n2
 d13:n1≠n3
 d23:n2≠n3
inductive KB(vs:List V)(H:Hp)(Q:VK)(z3_:XK):Prop
 |m (c:Int):vs=[.int c]->(∀p n0 n1 n2 n3 H',AI H H'->H' p=some (.lst [.str n0,.str n1,.str n2,.str n3])->VA n0 n1 n2 n3->Q (.ref p) H')->KB vs H Q z3_
theorem Uw{xs:qR}{j:Nat}(h:j<xs.length):Fu (xs.map V.int) (j:Int)=some (.int (xs.getD j 0)):=Ct (by rw[Zk,ZP h,ZQ,ZP h];rfl)
theorem QW:∀k,k<26->Fu (Str.ofString "abcdefghijklmnopqrstuvwxyz").cps.toList ((k:Nat):Int)=some (97+k):=by decide +kernel
theorem Ux:∀k,k<26->Fu (Str.ofString "bcdefghijklmnopqrstuvwxyza").cps.toList ((k:Nat):Int)=some (97+(k+1)%26):=by decide +kernel
theorem QX:∀k,k<26->PySem.Txt.find (Str.ofString "abcdefghijklmnopqrstuvwxyz") ⟨#[97+k]⟩=((k:Nat):Int):=by decide +kernel
theorem Hc{x:Str}{b:Nat}(h2:b<=x.length):(PySem.Txt.slice x none (some ((b:Nat):Int))).cps.toList=x.cps.toList.take b:=by have z:=beq_iff_eq.mp (PyProof.Rows.slice_closes_toL (x:=x) (j:=((b:Nat):Int)) (by lia) (by lia));rw[z];show (x.cps.toList.drop 0).take (((b:Nat):Int)-0).toNat=_;rw[List.drop_zero,show (((b:Nat):Int)-0).toNat=b by lia]
theorem Mj{x:Str}(h:1<=x.length):(PySem.Txt.slice x none (some (-1))).cps.toList=x.cps.toList.take (x.length-1):=by rw[PyProof.Rows.slice_to_neg (by decide),show max 0 ((x.length:Int)+(-1))=((x.length-1:Nat):Int) by lia,Hc (Nat.sub_le _ _)]
theorem NT{x:Str}{l:List Nat}(e:x.cps.toList=l)(h1:1<=l.length)(h8:l.length<=8)(h:∀c∈l,97<=c/\c<=122):BJ x:=by
 have z:x.cps.size=l.length:=by rw[<-e,ZT]
 exact⟨by lia,by lia,by rw[e];exact h⟩
theorem Hd{x y:Str}(h:x.cps.toList.length≠y.cps.toList.length):x≠y:=λe=>h (by rw[e])
theorem VA.mk'{B n1 n2 n3:Str}{a c:Nat}{b:Nat}(l2:2<=B.cps.toList.length)(l7:B.cps.toList.length<=7)(bc:∀a∈B.cps.toList,97<=a/\a<=122)(hb:b<B.cps.toList.length)(ha:B.cps.toList[b]?≠some a)(la:97<=a/\a<=122)(lc:97<=c/\c<=122)
  (e1:n1.cps.toList=B.cps.toList.take b++a::B.cps.toList.drop (b+1)) (e2:n2.cps.toList=B.cps.toList.take (B.cps.toList.length-1)) (e3:n3.cps.toList=B.cps.toList++[c]):VA B n1 n2 n3:=by
 have k1:(B.cps.toList.take b++a::B.cps.toList.drop (b+1)).length=B.cps.toList.length:=by rw[Zg,Zb,Zt,Z1];lia
 have k2:(B.cps.toList.take (B.cps.toList.length-1)).length=B.cps.toList.length-1:=by rw[Zt];lia
 have k3:(B.cps.toList++[c]).length=B.cps.toList.length+1:=by rw[Zg];rfl
 refine⟨NT rfl (by lia) (by lia) bc,NT e1 (by lia) (by lia) λz hz=>?_,NT e2 (by lia) (by lia) λz hz=>bc z (aW hz),NT e3 (by lia) (by lia) λz hz=>?_,λe=>?_,Hd (by rw[e2];lia),Hd (by rw[e3];lia),Hd (by rw[e1,e2];lia),Hd (by rw[e1,e3];lia),Hd (by rw[e2,e3];lia)⟩
 ·rcases aQ.mp hz with y|y
  ·exact bc z (aW y)
  ·rcases Zd.mp y with y|y
   ·rw[y];exact la
   ·exact bc z (aK y)
 ·rcases aQ.mp hz with y|y
  ·exact bc z y
  ·rw[ZX.mp y];exact lc
 ·rw[<-e]at e1;refine ha ?_;rw[e1,af (by rw[Zt];lia),Zt,show b-min b B.cps.toList.length=0 by lia];rfl
noncomputable def Iu(x:Str):Bool:=x.cps.toList.all λc=>c != 32
noncomputable def C4(k:Nat)(x:Str):Bool:=x.cps.toList.all (λc=>decide (c<128))&&decide (x.cps.toList.length<=k)
theorem Dr(a b:Str):(a++b).cps.toList=a.cps.toList++b.cps.toList:=by show (a.cps++b.cps).toList=_;rw[aN]
theorem KC(a b c:Str):a++b++c=a++(b++c):=J1 (by rw[Dr,Dr,Dr,Dr,am])
theorem KD{a b:Str}(h:Iu a=true)(h':Iu b=true):Iu (a++b)=true:=by unfold Iu at *;rw[Dr,List.all_append,h,h'];rfl
theorem A3{j k:Nat}{a b:Str}(h:C4 j a=true)(h':C4 k b=true):C4 (j+k) (a++b)=true:=by unfold C4 at *;obtain⟨h1,h2⟩:=(Ze ..).mp h;obtain⟨h3,h4⟩:=(Ze ..).mp h';have h2:=qI h2;have h4:=qI h4;rw[Dr,List.all_append,h1,h3,Zg];exact qF (by lia)
theorem QY{k:Nat}{x:Str}(h:C4 k x=true)(hk:k<=600):DZ x:=by unfold C4 at h;obtain⟨h1,h2⟩:=(Ze ..).mp h;have h2:=qI h2;rw[ZT]at h2;refine⟨?_,by lia⟩;unfold IC;rw[<-Array.all_toList];exact h1
theorem BJ.fr{x:Str}(h:BJ x):Iu x=true:=by unfold Iu;rw[Zi];intro c hc;have:=h.2.2 c hc;exact bne_iff_ne.mpr (by lia)
theorem BJ.tx{x:Str}(h:BJ x):C4 8 x=true:=by unfold C4;rw[Ze,Zi,ZT];exact⟨λc hc=>qF (by have:=h.2.2 c hc;lia),qF h.2.1⟩
theorem Uy{x:Str}(h:Iu x=true):32∉x.cps.toList:=λz=>by unfold Iu at h;have:=Zi.mp h 32 z;cases this
structure WT(x:Str)(ws:List Str)(k:Nat):Prop where
 w:D1 x=ws
 t:C4 k x=true
noncomputable def Sf(x:Str)(ws:List Str)(k:Nat):Bool:=decide (B7 32 x.cps.toList=ws.map (·.cps.toList))&&C4 k x
theorem Iv{x:Str}{ws:List Str}{k:Nat}(h:Sf x ws k=true):WT x ws k:=by obtain⟨h1,h2⟩:=(Ze ..).mp h;exact⟨B8 ((Ca x).trans (qI h1)),h2⟩
theorem KE{x:Str}{k:Nat}(h:Iu x=true)(t:C4 k x=true):WT x [x] k:=by refine⟨B8 ((Ca x).trans ?_),t⟩;rw[Dz _ (Uy h)];rfl
theorem Rz(a b:List Nat):B7 32 (a++32::b)=B7 32 a++B7 32 b:=by
 induction a with
 |nil=>exact qD rfl
 |cons c a ih =>
  rw[bz,B7,ih,B7];split
  ·rfl
  ·cases e:B7 32 a with
   |nil=>exact qE e (Rq _ _)
   |cons p ps=>rfl
theorem KG{r x c:Str}{l ws:List Str}{j k i:Nat}(h:WT r l j)(e:c.cps.toList=32::x.cps.toList)(hx:WT x ws i)(t:C4 k c=true):WT (r++c) (l++ws) (j+k):=by refine⟨B8 ((Ca _).trans ?_),A3 h.t t⟩;rw[Dr,e,Rz,<-Ca,<-Ca,h.w,hx.w,Zf]
theorem LS{r x:Str}{l:List Str}{j:Nat}(h:WT r l j)(hx:BJ x):WT (r++Str.ofString " "++x) (l++[x]) (j+9):=by rw[KC];exact KG h (by rw[Dr];rfl) (KE hx.fr hx.tx) (A3 (j:=1) (k:=8) (by decide +kernel) hx.tx)
theorem He{ks k x:Str}{l:List Str}{j:Nat}(e:ks=k++Str.ofString " ")(h:WT k l j)(hx:BJ x):WT (ks++x) (l++[x]) (j+9):=by rw[e];exact LS h hx
theorem LU{a b:Str}{j k:Nat}(ha:C4 j a=true)(hb:C4 k b=true)(h:j+k<=1000):a.length+b.length<=sizeLine:=by have h1:=qI ((Ze ..).mp ha).2;have h2:=qI ((Ze ..).mp hb).2;rw[ZT]at h1 h2;have e1:a.length=a.cps.size:=rfl;have e2:b.length=b.cps.size:=rfl;exact Zl (show a.length+b.length<=1000 by lia) (by decide)
theorem YB{x:Str}(h:Ba 57 x=true):Iu x=true:=by unfold Iu Ba at *;rw[Zi]at h⊢;intro c hc;have:=h c hc;rw[Ze,decide_eq_true_eq,decide_eq_true_eq]at this;exact bne_iff_ne.mpr (by lia)
theorem YC{x:Str}{k:Nat}(h:Ba 57 x=true)(l:x.cps.size<=k):C4 k x=true:=by unfold C4;unfold Ba at h;rw[Zi]at h;rw[Ze,Zi,ZT];refine⟨λc hc=>?_,qF l⟩;have:=h c hc;rw[Ze,decide_eq_true_eq,decide_eq_true_eq]at this;exact qF (by lia)
theorem WI{N:Int}(N1:0<=N)(N2:N<10^60):Ba 57 (Bf N)=true/\(Bf N).cps.size<=60:=by obtain⟨m,rfl⟩:∃m:Nat,N=(m:Int):=⟨N.toNat,by lia⟩;obtain⟨h1,h2⟩:=Fk (Ck m);refine⟨h1,?_⟩;have z:=(J4 (n:=(m:Int)) (by lia)).le;have e:=qK List.length (Ig (m:Int));rw[ZT,ZM,show (m:Int).natAbs=m from rfl]at e;lia
theorem WE.tq{q:Rl}(h:WE q):Dk q.g (q.tq.map V.int):=by obtain⟨h1,h2,h3,h4,h5,h6,h7⟩:=h;exact⟨by rw[ZM];lia,⟨q.m,h3,by rw[ZM];exact h5⟩,Bg h7⟩
theorem R0{g lo:Int}{c5:qR}{k:Nat}(h1:Iu ⟨#[(48+g).toNat]⟩=true)(h2:Iu (Bf lo)=true)(h3:Iu (CW c5)=true)(k1:C4 1 ⟨#[(48+g).toNat]⟩=true)(k2:C4 60 (Bf lo)=true)(k3:C4 k (CW c5)=true):Iu (FC g lo c5)=true/\C4 (1+1+60+1+k) (FC g lo c5)=true:=by
 have c:Iu (Str.ofString ":")=true:=by decide +kernel
 have c1:C4 1 (Str.ofString ":")=true:=by decide +kernel
 exact⟨KD (KD (KD (KD h1 c) h2) c) h3,A3 (A3 (A3 (A3 k1 c1) k2) c1) k3⟩
theorem R1{j k:Nat}{x:Str}(h:C4 j x=true)(l:j<=k):C4 k x=true:=by unfold C4 at *;obtain⟨h1,h2⟩:=(Ze ..).mp h;have h2:=qI h2;rw[h1,qF (show x.cps.toList.length<=k by lia)];rfl
theorem IF.same{t:EC}{H H':Hp}{b d:qM}{rs:Rs}(e:AI H H')(h:IF t H b d rs):IF t H' b d rs:=⟨h.1.elim λdx z=>⟨dx,e _ _ z⟩,h.2.same e⟩
theorem IF.put{t:EC}{H H':Hp}{b d:qM}{rs rs':Rs}(h:IF t H b d rs)(sx:A0 d H H')(hR:DW H' d rs'):IF t H' b d rs':=by obtain⟨⟨dx,hb⟩,_,kvs,hd,_⟩:=h;exact⟨⟨dx,sx _ _ (λe=>by rw[e,hd]at hb;cases hb) hb⟩,hR⟩
theorem A0.into{d:qM}{H0 H H':Hp}(e:AI H0 H)(n:H0 d=none)(sx:A0 d H H'):AI H0 H':=λa o z=>sx a o (λy=>by rw[y,n]at z;cases z) (e a o z)
theorem EV.x{d a:qM}{H H':Hp}{q:Rl}(sx:A0 d H H')(hd:∃kvs,H d=some (.dK kvs))(z:EV H a q):EV H' a q:=by obtain⟨kvs,hd⟩:=hd;obtain⟨tb,h1,h2⟩:=z.v;exact⟨⟨tb,sx _ _ (λy=>by rw[y,hd]at h1;cases h1) h1,sx _ _ (λy=>by rw[y,hd]at h2;cases h2) h2⟩,z.g2,z.g9,z.m1,z.m8,z.len,z.sz,z.tb⟩
theorem DW.dct{H:Hp}{d:qM}{rs:Rs}(h:DW H d rs):∃kvs,H d=some (.dK kvs):=h.2.elim λkvs z=>⟨kvs,z.1⟩
theorem DW.x{d s:qM}{H H':Hp}{rs:Rs}(sx:A0 d H H')(hd:∃kvs,H d=some (.dK kvs))(ne:s≠d)(h:DW H s rs):DW H' s rs:=by obtain⟨l,kvs,hs,hp⟩:=h;exact⟨l,kvs,sx _ _ ne hs,Paired.mapP hp λq p z=>⟨z.1,z.2.elim λa y=>⟨a,y.1,y.2.x sx hd⟩⟩⟩
theorem Ml{α β:Type}{F:α->β->Prop}{a:List α}{b:List β}{c:List α}{d:List β}(p:Paired F a b)(h:Paired F c d):Paired F (a++c) (b++d):=by
 induction p with
 |nil=>exact h
 |cons r _ ih=>exact .cons r ih
theorem A0.upd{H:Hp}{d:qM}(o:HO):A0 d H (Am H d o):=λb o' n z=>by rw[AR n];exact z
theorem QZ{H:Hp}{x:Str}{kvs:List (CG×V)}{rs:Rs}(h:Paired (λ(q:CG×V) (p:Str×Rl)=>q.1=.inr p.1/\∃a,q.2=.ref a/\EV H a p.2) kvs rs):(kvs.any λkv=>decide (kv.1=Sum.inr x))=rs.any λp=>decide (p.1=x):=by
 induction h with
 |nil=>rfl
 |cons r _ ih =>
  rw[aX,aX,ih,r.1]
  congr 1
  exact decide_eq_decide.mpr ⟨λz=>Sum.inr.inj z,λz=>by rw[z]⟩
theorem DW.put{H:Hp}{d a:qM}{x:Str}{rs:Rs}{q:Rl}(h:DW H d rs)(l8:rs.length<=29)(ha:EV H a q):
  ∃kvs,H d=some (.dK kvs)/\kvs.length<sizeLine/\DW (Am H d (.dK (D5 kvs (.inr x) (.ref a)))) d (Dq rs x q):=by
 obtain⟨l9,kvs,hd,hp⟩:=h;have ln:=Paired.length hp;have kp:∀{b:qM} {p:Rl},EV H b p->EV (Am H d (.dK (D5 kvs (.inr x) (.ref a)))) b p:=λ{b p} z=>z.x (A0.upd _) ⟨_,hd⟩
 refine⟨kvs,hd,by rw[ln];exact Ad (by lia),?_,_,AE,?_⟩
 ·unfold Dq;split
  ·rw[ZM];lia
  ·rw[Zg,bB];lia
 generalize Am H d (.dK (D5 kvs (.inr x) (.ref a)))=H' at kp;unfold D5 Dq;rw[QZ hp]
 by_cases e:(rs.any λp=>decide (p.1=x))=true
 ·rw[qD e,qD e];clear e ln l8 l9 hd
  induction hp with
  |nil=>exact .nil
  | @cons u p kvs rs r _ ih =>
   obtain⟨e1,b,e2,ok⟩:=r;rw[Zp,Zp];refine .cons ?_ ih
   by_cases y:p.1=x
   ·rw[qD (by rw[e1,y]),qD y];exact⟨e1,a,rfl,kp ha⟩
   ·rw[qC (λz=>y (Sum.inr.inj (e1.symm.trans z))),qC y];exact⟨e1,b,e2,kp ok⟩
 ·rw[qC e,qC e];exact Ml (Paired.mapP hp λk p z=>⟨z.1,z.2.elim λb y=>⟨b,y.1,kp y.2⟩⟩) (.cons ⟨rfl,a,rfl,kp ha⟩ .nil)
theorem DW.drop{H:Hp}{d:qM}{x:Str}{rs:Rs}{q:Rl}(h:DW H d rs)(lk:rs.lookup x=some q):
  ∃kvs a,H d=some (.dK kvs)/\Da kvs (.inr x)=some (.ref a)/\DW (Am H d (.dK (FD kvs (.inr x)))) d (Io rs x):=by
 obtain⟨l9,kvs,hd,hp⟩:=h;obtain⟨a,va,_⟩:=(Fo (x:=x) hp).2 q lk;have kp:∀{b:qM} {p:Rl},EV H b p->EV (Am H d (.dK (FD kvs (.inr x)))) b p:=λ{b p} z=>z.x (A0.upd _) ⟨_,hd⟩
 refine⟨kvs,a,hd,va,Zl (aH ..) l9,_,AE,?_⟩;generalize Am H d (.dK (FD kvs (.inr x)))=H' at kp;clear lk va hd l9;unfold FD Io
 induction hp with
 |nil=>exact .nil
 | @cons u p kvs rs r _ ih =>
  obtain⟨e1,b,e2,ok⟩:=r;rw[au,au]
  by_cases y:p.1=x
  ·rw[qC (by rw[qG (λz=>z (by rw[e1,y]))];decide),qC (by rw[qG (λz=>z y)];decide)];exact ih
  ·have y':u.1≠Sum.inr x:=λz=>y (Sum.inr.inj (e1.symm.trans z))
   rw[qD (qF y'),qD (qF y)];exact .cons ⟨e1,b,e2,kp ok⟩ ih
theorem Qa{rs:Rs}{x:Str}{q:Rl}(h:rs.lookup x=some q):(x,q)∈rs:=by
 induction rs with
 |nil=>cases h
 |cons p l ih =>
  obtain⟨k,r⟩:=p;rw[Z4]at h;cases e:x==k with
  |true=>rw[e]at h;cases h;rw[eq_of_beq e];exact ZZ ..
  |false=>rw[e]at h;exact ZS _ (ih h)
def RB(i:Nat)(q:Rl):Prop:=q.m<=4/\q.tq.length<=27/\q.lo.natAbs<=200000000000000000*(i+1)
def Bd(i:Nat)(rs:Rs):Prop:=rs.length<=i/\∀p∈rs,BJ p.1/\RB i p.2
theorem RB.up{i:Nat}{q:Rl}(h:RB i q):RB (i+1) q:=⟨h.1,h.2.1,by have:=h.2.2;lia⟩
theorem Bd.at{i:Nat}{rs:Rs}{x:Str}{q:Rl}(h:Bd i rs)(e:rs.lookup x=some q):BJ x/\RB i q:=h.2 _ (Qa e)
theorem Bd.up{i:Nat}{rs:Rs}(h:Bd i rs):Bd (i+1) rs:=⟨by have:=h.1;lia,λp hp=>⟨(h.2 p hp).1,(h.2 p hp).2.up⟩⟩
theorem Bd.put{i:Nat}{rs:Rs}{x:Str}{q:Rl}(h:Bd i rs)(nx:BJ x)(rb:RB (i+1) q):Bd (i+1) (Dq rs x q):=by
 have u:=h.up;have l:=h.1;unfold Dq;split
 ·refine⟨by rw[ZM];lia,λp hp=>?_⟩;obtain⟨p0,h0,rfl⟩:=Zs.mp hp;split
  ·exact⟨(h.2 p0 h0).1,rb⟩
  ·exact u.2 p0 h0
 ·refine⟨by rw[Zg,bB];lia,λp hp=>?_⟩;rcases aQ.mp hp with z|z
  ·exact u.2 p z
  ·rw[ZX.mp z];exact⟨nx,rb⟩
theorem Bd.drop{i:Nat}{rs:Rs}(h:Bd i rs)(x:Str):Bd (i+1) (Io rs x):=⟨Zl (aH ..) h.up.1,λp hp=>h.up.2 p (aP.mp hp).1⟩
theorem RB.turn{i:Nat}{q:Rl}(h:RB i q):RB (i+1) (Ip q):=by obtain⟨h1,h2,h3⟩:=h;refine⟨h1,by show (Dm q.g q.tq q.m).length<=27;rw[Fe];exact h2,?_⟩;show (1-q.lo-(q.m:Int)).natAbs<=_;lia
theorem RB.mov{i:Nat}{q:Rl}{n:Int}(h:RB i q)(hn:n.natAbs<=100000000000000000):RB (i+1) (Mf q n):=by obtain⟨h1,h2,h3⟩:=h;refine⟨h1,h2,?_⟩;show (q.lo+n).natAbs<=_;lia
def CS(rs rs':Rs)(row:Str)(due:V):Prop:=DZ row/\((due=.non/\rs'=rs)\/∃y:Str,due=.str y)/\∀t H d Q E,DW H d rs->(due=.non->LP t 1 H E)->(∀y:Str,due=.str y->∀H',A0 d H H'->DW H' d rs'->Q (.str y) H')->Uv t rs row H d Q E
inductive Cb(vs:List V)(H:Hp)(Q:VK)(z3_:XK):Prop
 |m (c m:Int):vs=[.int c,.int m]->0<=m->m<=300->(∀(r:qM) (H':Hp) (l:qR),l.length=m.toNat->(∀x∈l,0<=x/\x<2147483647)->AI H H'->H r=none->H' r=some (.lst (l.map V.int))->Q (.ref r) H')->Cb vs H Q z3_
inductive R3(K:qQ)(vs:List V)(H:Hp)(Q:VK)(z3_:XK):Prop
 |m (a:qM) (ws:qR) (g:Int):vs=[.ref a,.int g]->Ac K H a (ws.map V.int)->Q (.int (BZ g ws)) H->R3 K vs H Q z3_
inductive FM(vs:List V)(H:Hp)(Q:VK)(z3_:XK):Prop
 |m (a:qM) (ws:qR) (g:Int):vs=[.ref a,.int g]->H a=some (.lst (ws.map V.int))->2<=g->g<=9->Q (.int (BZ g ws)) H->FM vs H Q z3_
inductive Fq(K:qQ)(vs:List V)(H:Hp)(Q:VK)(z3_:XK):Prop
 |m (r a:qM) (g lo:Int) (c5:qR) (m:Nat) (ns:qR):vs=[.ref r,.ref a]->Ap H r g lo c5 m->Ac K H a (ns.map V.int)->(∀n∈ns,0<=n/\n<g)->1<=ns.length->ns.length<=100->(∀p H',EK H H' p (DA g lo c5 m ns)->Q (.ref p) H')->Fq K vs H Q z3_
inductive EY(vs:List V)(H:Hp)(Q:VK)(z3_:XK):Prop
 |m (r:qM) (g lo:Int) (c5:qR) (m j:Nat):vs=[.ref r,.int ((j:Nat):Int)]->Ap H r g lo c5 m->j<m->Q (.bl (BG g c5 (g^(m-1-j)))) H->EY vs H Q z3_
inductive Hf(vs:List V)(H:Hp)(Q:VK)(z3_:XK):Prop
 |m (n c:Int):vs=[.int n,.int c]->0<=n->(∀(r:qM) (q:Rl) (H':Hp),AI H H'->EV H' r q->RB 0 q->Q (.ref r) H')->Hf vs H Q z3_
def ZB(H:Hp)(p:qM)(n0 n1 n2 n3:Str):Prop:=H p=some (.lst [.str n0,.str n1,.str n2,.str n3])/\VA n0 n1 n2 n3
inductive Mm(vs:List V)(H:Hp)(Q:VK)(z3_:XK):Prop
 |m (x p s:qM) (xs:qR) (n0 n1 n2 n3:Str) (rs:Rs) (i:Nat):vs=[.ref x,.ref p,.ref s]->H x=some (.lst (xs.map V.int))->xs.length=16->(∀n∈xs,0<=n/\n<2147483647)->ZB H p n0 n1 n2 n3->DW H s rs->Bd i rs->i<=28->(∀(r:qM) (H':Hp) (rs':Rs) (row:Str) (due:V),A0 s H H'->DW H' s rs'->H' r=some (.lst [.str row,due])->CS rs rs' row due->Bd (i+1) rs'->Q (.ref r) H')->Mm vs H Q z3_
def Sg(way:Nat)(q r:Rl)(us:qR)(y:Str):Prop:=match way with
 |0=>∃(lo:Int) (M:Nat),Eu q.g q.lo q.tq q.m lo M/\lo.natAbs<10^130/\y=FC q.g lo (GQ q.g q.lo q.tq q.m lo M)
 |1=>(low q.g q.tq).natAbs<10^130/\y=Str.ofString (toString (low q.g q.tq))
 |2=>∃b:Bool,(b=true↔q.g=r.g/\G3 q.g q.lo q.tq q.m r.lo r.tq r.m)/\y=Ry b
 |3=>y=Mg q us
 |4=>y=HZ q us
 |_=>y=Mh q us
inductive Hg(K:qQ)(vs:List V)(H:Hp)(Q:VK)(z3_:XK):Prop
 |m (way:Nat) (a b x:qM) (q r:Rl) (us:qR) (i:Nat):vs=[.int ((way:Nat):Int),.ref a,.ref b,.ref x]->way<6->EV H a q->EV H b r->RB i q->RB i r->i<=30->Ac K H x (us.map V.int)->(∀k∈us,0<=k/\k<q.g)->us.length<=13->(way=4->1<=us.length)->(∀(y:Str) H',AI H H'->Sg way q r us y->Q (.str y) H')->Hg K vs H Q z3_
inductive Qb(K:qQ)(vs:List V)(H:Hp)(Q:VK)(z3_:XK):Prop
 |m (x p s:qM) (xs:qR) (n0 n1 n2 n3:Str) (rs:Rs) (i:Nat):vs=[.ref x,.ref p,.ref s]->Ac K H x (xs.map V.int)->5<=xs.length->xs.length<=16->(∀n∈xs,0<=n/\n<2147483647)->ZB H p n0 n1 n2 n3->DW H s rs->Bd i rs->i<=29->(∀(r:qM) (H':Hp) (row:Str) (due:V),AI H H'->H' r=some (.lst [.str row,due])->CS rs rs row due->Q (.ref r) H')->Qb K vs H Q z3_
inductive Hh(t:EC)(vs:List V)(H:Hp)(Q:VK)(z3_:XK):Prop
 |m (b d r:qM) (rs rs':Rs) (row:Str) (due:V):vs=[.ref b,.ref r]->IF t H b d rs->H r=some (.lst [.str row,due])->CS rs rs' row due->(∀H',A0 d H H'->IF t H' b d rs'->Q (.bl true) H')->Hh t vs H Q z3_
inductive Qc(vs:List V)(H:Hp)(Q:VK)(z3_:XK):Prop
 |m (b:Bool):vs=[.bl b]->Q (.str (Ry b)) H->Qc vs H Q z3_
theorem Qd{x:Str}{n m:Int}(tx:DZ x)(h:ID x n)(h':ID x m):n=m:=Fl tx.2 (by rw[<-h'.eq];exact ES (by rw[h'.eq];have:=tx.2;lia)) h
section
variable{H:Hp}{r:qM}{q:Rl}{us:qR}
theorem LV(ok:EV H r q):∀n∈Fb q.g q.tq q.m us,0<=n/\n<9:=λn hn=>by have a:=Rg ok.g2 ok.tb q.m us n hn;have b:=ok.g9;lia
theorem Iw{g:Int}{c5:qR}{m:Nat}(us:qR)(h:us.length<=100):(Fb g c5 m us).length<=300:=by rw[Pp];lia
theorem Ix(ok:EV H r q):∀n∈DA q.g q.lo q.tq q.m us,0<=n/\n<9:=λn hn=>by have a:=K3 ok.g2 q.lo ok.tb q.m us n hn;have b:=ok.g9;lia
theorem Hi{g lo:Int}{c5:qR}{m:Nat}(us:qR)(h:us.length<=100):(DA g lo c5 m us).length<=300:=by rw[IT];lia
end
theorem NU{n:Nat}{f:Nat->Int}{c:Int}(h:∀k,k<n->f k<=c):BM n f<=(n:Int)*c:=by
 induction n with
 |zero=>rw[CY];simp
 |succ n ih =>
  rw[Az,Int.natCast_add,Int.add_mul];have a:=ih λk hk=>h k (aa hk)
  have b:=h n (ag n);simp only[Int.natCast_one,Int.one_mul];lia
theorem Uz{G:Nat}(c5:qR):∀(r:qR) (h:Nat),IB G c5 r h<=(G:Int)^r.length:=by
 intro r
 induction r with
 |nil=>intro h;exact bi _
 |cons s r ih =>
  intro h;rw[Zb,Z2,aZ];refine NU λj _=>?_;unfold Hq;split
  ·exact ih _
  ·exact Int.pow_nonneg (Int.natCast_nonneg _)
theorem LW{g:Int}(g2:2<=g)(g9:g<=9):∀n:Nat,g^n<=9^n:=by
 intro n
 induction n with
 |zero=>rw[aM,aM];exact bi _
 |succ n ih =>
  rw[Z2,Z2];exact bM ih g9 (by lia) (Int.pow_nonneg (by decide))
theorem NV{H:Hp}{r:qM}{q:Rl}{us:qR}(ok:EV H r q)(h:us.length<=100):(P4 q.g.toNat q.tq us).natAbs<10^130:=by
 have a:=MP q.g.toNat q.tq us;have b:P4 q.g.toNat q.tq us<=((q.tq.length/q.g.toNat:Nat):Int)*((q.g.toNat:Nat):Int)^us.length:=NU λk _=>Uz q.tq us k
 have g9:=ok.g9;have g2:=ok.g2
 have c1:(((q.g.toNat:Nat):Int)^us.length)<=9^100:=by rw[aB (by lia)];exact Int.le_trans (LW g2 g9 _) (BE (by decide) h)
 have c2:((q.tq.length/q.g.toNat:Nat):Int)<=256:=by have:=cE q.tq.length q.g.toNat;have l:=ok.len;have s:=ok.sz;lia
 have d:=bM c2 c1 (Int.pow_nonneg (Int.natCast_nonneg _)) (by decide);have e:(256:Int)*9^100<10^130:=by decide
 lia
theorem KH{n:Nat}(h:n<=1000):n<=sizeLine:=Zl h (by decide)
theorem DX(a b:Str):(a++b).length=a.length+b.length:=by show (a.cps++b.cps).size=_;rw[Array.size_append];rfl
theorem U0{g:Int}(h:g=2\/g=3\/g=4\/g=5\/g=9):∃b:Int,Fu [V.int 4,V.int 3,V.int 2,V.int 2,V.int 1,V.int 1,V.int 1,V.int 1] (g-2)=some (.int b)/\(1<=b/\b<=4)/\g^b.toNat<=27:=by
 rcases h with rfl|rfl|rfl|rfl|rfl
 ·exact⟨4,rfl,by decide,by decide⟩
 ·exact⟨3,rfl,by decide,by decide⟩
 ·exact⟨2,rfl,by decide,by decide⟩
 ·exact⟨2,rfl,by decide,by decide⟩
 ·exact⟨1,rfl,by decide,by decide⟩
noncomputable def GF(G:Nat)(c5:qR)(s:Int)(F:Nat->Int)(k v:Nat):Int:=BM k λa=>Hq (decide (c5.getD a 0=s)&&decide (a%(c5.length/G)=v)) (F (a/G))
theorem R4{G:Nat}{c5:qR}{s:Int}{F:Nat->Int}{k:Nat}(h:¬c5.getD k 0=s):GF G c5 s F (k+1)=GF G c5 s F k:=by
 funext v
 unfold GF;rw[Az,qG h,Bool.false_and];show _+(0:Int)=_;rw[bT]
theorem Qe{G:Nat}{c5:qR}{s:Int}{F:Nat->Int}{k:Nat}(h:c5.getD k 0=s):
  ((List.range (c5.length/G)).map (GF G c5 s F k)).set (k%(c5.length/G)) (GF G c5 s F k (k%(c5.length/G))+F (k/G))=(List.range (c5.length/G)).map (GF G c5 s F (k+1)):=by
 apply List.ext_getElem
 ·rw[cB,ZM,ZM]
 ·intro v h1 h2;rw[List.getElem_set,List.getElem_map,List.getElem_map,List.getElem_range];unfold GF;rw[Az,qF h,Bool.true_and];split
  ·rename_i e
   rw[e,qF rfl];rfl
  ·rename_i e
   rw[qG e];show _=_+(0:Int);rw[bT]
theorem WJ(G:Nat)(c5:qR)(s:Int)(F:Nat->Int):GF G c5 s F c5.length=Vy G c5 s F:=rfl
theorem Of(G:Nat)(c5:qR)(s:Int)(F:Nat->Int)(n:Nat):(List.range n).map (GF G c5 s F 0)=List.replicate n 0:=by rw[bD];refine⟨by rw[ZM,Zc],λb hb=>?_⟩;obtain⟨x,_,e⟩:=Zs.mp hb;rw[<-e];rfl
inductive KI(K:qQ)(vs:List V)(H:Hp)(Q:VK)(z3_:XK):Prop
 |m (r a:qM) (g lo:Int) (c5:qR) (m:Nat) (ns:qR):vs=[.ref r,.ref a]->Ap H r g lo c5 m->Ac K H a (ns.map V.int)->ns.length<=100->(∀H',AI H H'->Q (.int (P4 g.toNat c5 ns)) H')->KI K vs H Q z3_
theorem R5{g lo:Int}{c5:qR}{m M:Nat}{l:Int}{i:Nat}(h:Eu g lo c5 m l M)(m8:m<=8)(b:lo.natAbs<=200000000000000000*(i+1))(hi:i<=30):l.natAbs<10^130:=by
 have z:(7000000000000000000:Nat)<10^130:=by decide
 rcases h.ends with⟨_,e,_⟩|⟨j0,j1,le,lt,e,_⟩
 ·lia
 ·lia
theorem R6{H:Hp}{r:qM}{q:Rl}(ok:EV H r q)(h:q.tq.length<=27):(low q.g q.tq).natAbs<10^130:=by
 have a:=C3 ok.g2 (show ∀n∈q.tq.reverse,0<=n/\n<q.g from λn hn=>ok.tb n (bO.mp hn));rw[Dv,aG]at a;have b:=Int.le_trans (LW ok.g2 ok.g9 q.tq.length) (BE (show (2:Int)<=9 by decide) h);have c:(9:Int)^27<10^130:=by decide
 lia
theorem KJ(g:Int)(k:Nat):BZ g (List.replicate k 0)=0:=by
 induction k with
 |zero=>rfl
 |succ k ih=>rw[aF,show (0:Int)::List.replicate k 0=[0]++List.replicate k 0 from rfl,Cf,Rh,ih,bC];rfl
theorem U1{g lo:Int}{c5:qR}{m:Nat}(hg:2<=g)(hl:(c5.length:Int)=g^m)(h:∀j,j<m->BG g c5 (g^(m-1-j))=false):List.replicate g.toNat (c5.getD 0 0)=GQ g lo c5 m 0 1:=by
 unfold GQ;rw[show g^1=g by rw[Z2,aM,Int.one_mul]]
 symm
 rw[bD];refine⟨by rw[ZM,Zc],λb hb=>?_⟩;obtain⟨n,_,rfl⟩:=Zs.mp hb;have e:=Gx hg hl (v:=Lf (B6 g (n:Int) 1) (lo-0) m) (w:=List.replicate m 0) (MK hg (Gu hg _ _) _ _) (λk hk=>by rw[(List.mem_replicate.mp hk).2];lia) (DR _ _ _) Z8 (λj hj hc=>by rw[h j hj]at hc;cases hc);rw[e,KJ];rfl
theorem R7{g lo:Int}{c5:qR}{m j0 j1:Nat}(hg:2<=g)(h:j0<=j1)(h1:j1<m):(List.range (g^(j1-j0+1)).toNat).map (λk:Nat=>c5.getD ((k:Int)*g^(m-1-j1)).toNat 0)=GQ g lo c5 m (lo+(j0:Int)) (j1-j0+1):=by
 unfold GQ;refine aA λk hk=>?_;have hk:=Z5.mp hk
 congr 2
 have w:=IU g (k:Int) (j1-j0+1)
 have e:Lf (B6 g (k:Int) (j1-j0+1)) (lo-(lo+(j0:Int))) m=List.replicate j0 0++B6 g (k:Int) (j1-j0+1)++List.replicate (m-1-j1) 0:=by
  refine BL (by rw[DR,Zg,Zg,Z8,Z8,w];lia) λj hj=>?_;rw[DR]at hj;rw[Jq _ _ hj];unfold sn;rw[w,am,ZQ,ZQ]
  by_cases a:j<j0
  ·rw[qD (by lia),bN (by rw[Z8];exact a),bU,qD a];rfl
  ·rw[af (by rw[Z8];lia),Z8]
   by_cases b:j<=j1
   ·rw[qC (by lia),bN (by rw[w];lia),show (lo-(lo+(j0:Int))+(j:Int)).toNat=j-j0 by lia]
   ·rw[qD (by lia),af (by rw[w];lia),bU,qD (by rw[w];lia)];rfl
 rw[e,Cf,Cf,KJ,KJ,bC,Z0,bT,Z8,IV hg (by lia) (by lia)]
theorem KL{n0 n1 n2 n3:Str}(nm:VA n0 n1 n2 n3)(c:Int):∃x:Str,Fu [V.str n0,V.str n1,V.str n2,V.str n3] (c%4)=some (.str x)/\BJ x:=by
 have h:c%4=0\/c%4=1\/c%4=2\/c%4=3:=by lia
 rcases h with e|e|e|e<;>rw[e]
 ·exact⟨_,rfl,nm.o0⟩
 ·exact⟨_,rfl,nm.o1⟩
 ·exact⟨_,rfl,nm.o2⟩
 ·exact⟨_,rfl,nm.o3⟩
theorem Qf{rs:Rs}{x:Str}{q:Rl}:(Dq rs x q).lookup x=some q:=by
 unfold Dq
 by_cases e:(rs.any λp=>decide (p.1=x))=true
 ·rw[qD e]
  induction rs with
  |nil=>cases e
  |cons p l ih =>
   rw[Zp]
   by_cases y:p.1=x
   ·rw[qD y,Z4,y,beq_self_eq_true]
   ·rw[qC y,Z4,beq_eq_false_iff_ne.mpr (Ne.symm y)];refine ih ?_;rw[aX,qG y,Bool.false_or]at e;exact e
 ·rw[qC e]
  induction rs with
  |nil=>rw[List.nil_append,Z4,beq_self_eq_true]
  |cons p l ih =>
   have y:¬p.1=x:=λz=>e (by rw[aX,qF z,Bool.true_or])
   rw[bz,Z4,beq_eq_false_iff_ne.mpr (Ne.symm y)];refine ih λz=>e ?_
   rw[aX,z,Bool.or_true]
theorem A2{rs rs':Rs}{row w:Str}{ws:List Str}{k n:Nat}{f:EC->EW}{due:V}(W:WT row (w::ws) k)(hk:k<=600)(e:∀t,(Uu t).lookup w=some (n,f t))(l:ws.length+1=n)(dd:(due=.non/\rs'=rs)\/∃y:Str,due=.str y)
  (h:∀t H d Q E,DW H d rs->(due=.non->LP t 1 H E)->(∀y:Str,due=.str y->∀H',A0 d H H'->DW H' d rs'->Q (.str y) H')->f t rs (w::ws) H d Q E):CS rs rs' row due:=
 ⟨QY W.t hk,dd,λt H d Q E hR a b=>⟨w,ws,W.w,n,f t,e t,l,λH1 e1=>h t H1 d Q E (hR.same e1) (λz=>(a z).same e1) λy z H2 sx hR2=>b y z H2 (λc o ne q=>sx c o ne (e1 _ _ q)) hR2⟩⟩
theorem KM{x:Str}(h:∀c∈x.cps.toList,32<c):Iu x=true:=by unfold Iu;rw[Zi];exact λc hc=>bne_iff_ne.mpr (by have:=h c hc;lia)
theorem KN{x:Str}{k:Nat}(h:∀c∈x.cps.toList,c<128)(l:x.cps.size<=k):C4 k x=true:=by unfold C4;rw[Ze,Zi,ZT];exact⟨λc hc=>qF (h c hc),qF l⟩
theorem Qg(n:Int):Iu (Bf n)=true:=KM λc hc=>by have:=G9 n c hc;lia
theorem KO{n:Int}(h:n.natAbs<10^31):C4 32 (Bf n)=true:=KN (λc hc=>by have:=G9 n c hc;lia) (DE (k:=30) h)
theorem Sh{n:Int}{i:Nat}(h:n.natAbs<=200000000000000000*(i+1))(hi:i<=30):n.natAbs<10^31:=by
 have z:(7000000000000000000:Nat)<10^31:=by decide
 lia
section
variable{rs:Rs}{x y:Str}{q:Rl}{n:Int}
theorem Qh(nx:BJ x)(l:rs.length<=29)(ok:WE q)(rb:RB 0 q):CS rs (Dq rs x q) (Str.ofString "rule "++x++Str.ofString " "++FC q.g q.lo q.tq) (.str "ok"):=by
 obtain⟨g2,g9,_,_,_,_,tb⟩:=id ok;have tb9:∀n∈q.tq,0<=n/\n<9:=λn hn=>by have:=tb n hn;lia
 have far:=Sh rb.2.2 (by decide);have k1:48<=(48+q.g).toNat/\(48+q.g).toNat<128:=by lia
 obtain⟨h1,h2⟩:=R0 (g:=q.g) (lo:=q.lo) (c5:=q.tq) (k:=27) (KM λc hc=>by rw[ZX.mp hc];lia) (Qg _) (KM λc hc=>by have:=DF tb9 c hc;lia) (KN (λc hc=>by rw[ZX.mp hc];lia) (ZR _)) (R1 (KO far) (by decide)) (KN (λc hc=>by have:=DF tb9 c hc;lia) (by rw[DG];exact rb.2.1));have W:=He (ks:=Str.ofString "rule ") (k:=Str.ofString "rule") (by decide +kernel) (Iv (show Sf (Str.ofString "rule") [Str.ofString "rule"] 4=true by decide +kernel)) nx;have W2:=KG (c:=Str.ofString " "++FC q.g q.lo q.tq) (k:=91) W (by rw[Dr];rfl) (KE h1 h2) (A3 (j:=1) (show C4 1 (Str.ofString " ")=true by decide +kernel) h2);rw[<-KC]at W2;refine A2 (f:=λ_=>GY) W2 (by decide) (λt=>rfl) rfl (.inr ⟨_,rfl⟩) λt H d Q E hR _ b=>⟨_,_,_,rfl,nx,l,q,?_,ok,λH' sx h'=>b _ rfl H' sx h'⟩
 exact OY g2 g9 tb9 ok.tq (br far (by decide))
theorem NW(nx:BJ x)(ny:BJ y):WT (Str.ofString "turn "++x++Str.ofString " "++y) [Str.ofString "turn",x,y] 22:=LS (He (ks:=Str.ofString "turn ") (k:=Str.ofString "turn") (by decide +kernel) (Iv (show Sf (Str.ofString "turn") [Str.ofString "turn"] 4=true by decide +kernel)) nx) ny
theorem Qi(nx:BJ x)(ny:BJ y)(l:rs.length<=29)(lk:rs.lookup y=some q):CS rs (Dq rs x (Ip q)) (Str.ofString "turn "++x++Str.ofString " "++y) (.str "ok"):=
 A2 (f:=FG) (NW nx ny) (by decide) (λt=>rfl) rfl (.inr ⟨_,rfl⟩) λt H d Q E hR _ b=>⟨_,_,_,rfl,nx,l,.inr ⟨q,lk,λH' sx h'=>b _ rfl H' sx h'⟩⟩
theorem Og(nx:BJ x)(ny:BJ y)(l:rs.length<=29)(lk:rs.lookup y=none):CS rs rs (Str.ofString "turn "++x++Str.ofString " "++y) .non:=
 A2 (f:=FG) (NW nx ny) (by decide) (λt=>rfl) rfl (.inl ⟨rfl,rfl⟩) λt H d Q E hR a _=>⟨_,_,_,rfl,nx,l,.inl ⟨lk,a rfl⟩⟩
theorem NX(nx:BJ x)(ny:BJ y)(far:n.natAbs<10^31):WT (Str.ofString "move "++x++Str.ofString " "++y++Str.ofString " "++Bf n) [Str.ofString "move",x,y,Bf n] 55:=by have W:=LS (He (ks:=Str.ofString "move ") (k:=Str.ofString "move") (by decide +kernel) (Iv (show Sf (Str.ofString "move") [Str.ofString "move"] 4=true by decide +kernel)) nx) ny;have W2:=KG (c:=Str.ofString " "++Bf n) (k:=33) W (by rw[Dr];rfl) (KE (Qg n) (KO far)) (A3 (j:=1) (show C4 1 (Str.ofString " ")=true by decide +kernel) (KO far));rw[<-KC]at W2;exact W2
theorem Qj(nx:BJ x)(ny:BJ y)(far:n.natAbs<10^31)(l:rs.length<=29)(lk:rs.lookup y=some q):CS rs (Dq rs x (Mf q n)) (Str.ofString "move "++x++Str.ofString " "++y++Str.ofString " "++Bf n) (.str "ok"):=
 A2 (f:=FH) (NX nx ny far) (by decide) (λt=>rfl) rfl (.inr ⟨_,rfl⟩) λt H d Q E hR _ b=>⟨_,_,_,_,rfl,nx,l,.inr ⟨q,n,lk,J4 (br far (by decide)),λH' sx h'=>b _ rfl H' sx h'⟩⟩
theorem Oh(nx:BJ x)(ny:BJ y)(far:n.natAbs<10^31)(l:rs.length<=29)(lk:rs.lookup y=none):CS rs rs (Str.ofString "move "++x++Str.ofString " "++y++Str.ofString " "++Bf n) .non:=
 A2 (f:=FH) (NX nx ny far) (by decide) (λt=>rfl) rfl (.inl ⟨rfl,rfl⟩) λt H d Q E hR a _=>⟨_,_,_,_,rfl,nx,l,.inl ⟨lk,a rfl⟩⟩
theorem NY(nx:BJ x):WT (Str.ofString "drop "++x) [Str.ofString "drop",x] 13:=He (ks:=Str.ofString "drop ") (k:=Str.ofString "drop") (by decide +kernel) (Iv (show Sf (Str.ofString "drop") [Str.ofString "drop"] 4=true by decide +kernel)) nx
theorem Qk(nx:BJ x)(lk:rs.lookup x=some q):CS rs (Io rs x) (Str.ofString "drop "++x) (.str "ok"):=
 A2 (f:=FI) (NY nx) (by decide) (λt=>rfl) rfl (.inr ⟨_,rfl⟩) λt H d Q E hR _ b=>⟨_,_,rfl,.inr ⟨q,lk,λH' sx h'=>b _ rfl H' sx h'⟩⟩
theorem Oi(nx:BJ x)(lk:rs.lookup x=none):CS rs rs (Str.ofString "drop "++x) .non:=
 A2 (f:=FI) (NY nx) (by decide) (λt=>rfl) rfl (.inl ⟨rfl,rfl⟩) λt H d Q E hR a _=>⟨_,_,rfl,.inl ⟨lk,a rfl⟩⟩
end
theorem EV.okR{H:Hp}{a:qM}{q:Rl}(h:EV H a q):WE q:=⟨h.g2,h.g9,h.m1,h.m8,h.len,h.sz,h.tb⟩
theorem RB.le{i j:Nat}{q:Rl}(h:RB i q)(l:i<=j):RB j q:=⟨h.1,h.2.1,by have:=h.2.2;lia⟩
noncomputable def Ql(w:Nat)(rs:Rs)(x y:Str)(q:Rl)(n:Int):Rs:=if w=2 then Io rs y else if w=3 then Dq rs x (Ip q) else Dq rs x (Mf q n)
theorem Qm{w i:Nat}{rs:Rs}{x y:Str}{n:Int}(h2:2<=w)(h5:w<5)(nx:BJ x)(ny:BJ y)(far:n.natAbs<=100000000000000000)(bd:Bd i rs)(i28:i<=28):
  ∃row:Str,Fu [V.str (Str.ofString "drop "++y),V.str (Str.ofString "turn "++x++Str.ofString " "++y),V.str (Str.ofString "move "++x++Str.ofString " "++y++Str.ofString " "++Bf n)] ((w:Int)-2)=some (.str row) /\
   (rs.lookup y=none->CS rs rs row .non)/\∀q,rs.lookup y=some q->CS rs (Ql w rs x y q n) row (.str "ok")/\Bd (i+1) (Ql w rs x y q n):=by
 have l29:rs.length<=29:=by have:=bd.1;lia
 have f31:n.natAbs<10^31:=bV far (by decide);have h:w=2\/w=3\/w=4:=by lia
 unfold Ql;rcases h with rfl|rfl|rfl
 ·exact⟨_,rfl,Oi ny,λq lk=>⟨Qk ny lk,bd.drop _⟩⟩
 ·exact⟨_,rfl,Og nx ny l29,λq lk=>⟨Qi nx ny l29 lk,bd.put nx (bd.at lk).2.turn⟩⟩
 ·exact⟨_,rfl,Oh nx ny f31 l29,λq lk=>⟨Qj nx ny f31 l29 lk,bd.put nx ((bd.at lk).2.mov far)⟩⟩
noncomputable def KP(w:Nat):Str:=[Str.ofString "show ",Str.ofString "number ",Str.ofString "same ",Str.ofString "led ",Str.ofString "ring ",Str.ofString "before "].getD w (Str.ofString "")
theorem ZC{p:Nat->Prop}(h0:p 0)(h1:p 1)(h2:p 2)(h3:p 3)(h4:p 4)(h5:p 5){w:Nat}(h:w<6):p w:=by
 rcases w with _|_|_|_|_|_|w
 ·exact h0
 ·exact h1
 ·exact h2
 ·exact h3
 ·exact h4
 ·exact h5
 ·lia
theorem U2{w:Nat}(h:w<6):Fu [V.str (Str.ofString "show "),V.str (Str.ofString "number "),V.str (Str.ofString "same "),V.str (Str.ofString "led "),V.str (Str.ofString "ring "),V.str (Str.ofString "before ")] (w:Int)=some (.str (KP w)):=
 ZC (p:=λw:Nat=>Fu [V.str (Str.ofString "show "),V.str (Str.ofString "number "),V.str (Str.ofString "same "),V.str (Str.ofString "led "),V.str (Str.ofString "ring "),V.str (Str.ofString "before ")] (w:Int)=some (.str (KP w))) rfl rfl rfl rfl rfl rfl h
theorem KQ{w:Nat}(h:w<6):C4 7 (KP w)=true:=ZC (p:=λw=>C4 7 (KP w)=true) (by decide +kernel) (by decide +kernel) (by decide +kernel) (by decide +kernel) (by decide +kernel) (by decide +kernel) h
noncomputable def Mn(w:Nat)(x y:Str)(us:qR):Str:=if w=2 then KP w++x++Str.ofString " "++y else if 2<w then KP w++x++Str.ofString " "++Ci us else KP w++x
theorem NZ{us:qR}(ub:∀n∈us,0<=n/\n<9)(ul:us.length<=13):Iu (Ci us)=true/\C4 13 (Ci us)=true:=by
 unfold Ci;split
 ·exact⟨by decide +kernel,by decide +kernel⟩
 ·exact⟨KM λc hc=>by have:=DF ub c hc;lia,KN (λc hc=>by have:=DF ub c hc;lia) (by rw[DG];exact ul)⟩
theorem EZ{ks k x:Str}(e:ks=k++Str.ofString " ")(h:Sf k [k] 6=true)(nx:BJ x):WT (ks++x) [k,x] 15:=He e (Iv h) nx
theorem D3{ks k x:Str}{us:qR}(e:ks=k++Str.ofString " ")(h:Sf k [k] 6=true)(nx:BJ x)(ub:∀n∈us,0<=n/\n<9)(ul:us.length<=13):WT (ks++x++Str.ofString " "++Ci us) [k,x,Ci us] 29:=by obtain⟨f,t⟩:=NZ ub ul;have W:=KG (c:=Str.ofString " "++Ci us) (k:=14) (EZ e h nx) (by rw[Dr];rfl) (KE f t) (A3 (j:=1) (show C4 1 (Str.ofString " ")=true by decide +kernel) t);rw[<-KC]at W;exact W
theorem Hj{w:Nat}{rs:Rs}{x y:Str}{us:qR}(h:w<6)(nx:BJ x)(ny:BJ y)(ub:∀n∈us,0<=n/\n<9)(ul:us.length<=13)(lk:rs.lookup x=none\/(w=2/\∃q,rs.lookup x=some q/\rs.lookup y=none)):CS rs rs (Mn w x y us) .non:=by
 have d:((V.non:V)=.non/\rs=rs)\/∃y:Str,(V.non:V)=.str y:=.inl ⟨rfl,rfl⟩
 by_cases w2:w=2
 ·subst w2;refine A2 (f:=FL) (LS (EZ (ks:=Str.ofString "same ") (k:=Str.ofString "same") (by decide +kernel) (by decide +kernel) nx) ny) (by decide) (λt=>rfl) rfl d λt H e Q E hR a _=>⟨_,_,_,rfl,?_⟩
  rcases lk with lk|⟨_,q,lk,lk'⟩
  ·exact .inl ⟨lk,a rfl⟩
  ·exact .inr ⟨q,lk,.inl ⟨lk',a rfl⟩⟩
 have lk0:rs.lookup x=none:=lk.elim id λz=>qE z.1 w2
 clear lk;have h':w=0\/w=1\/w=3\/w=4\/w=5:=by lia
 rcases h' with rfl|rfl|rfl|rfl|rfl
 ·exact A2 (f:=FK) (EZ (ks:=Str.ofString "show ") (k:=Str.ofString "show") (by decide +kernel) (by decide +kernel) nx) (by decide) (λt=>rfl) rfl d λt H e Q E hR a _=>⟨_,_,rfl,.inl ⟨lk0,a rfl⟩⟩
 ·exact A2 (f:=HW) (EZ (ks:=Str.ofString "number ") (k:=Str.ofString "number") (by decide +kernel) (by decide +kernel) nx) (by decide) (λt=>rfl) rfl d λt H e Q E hR a _=>⟨_,_,rfl,.inl ⟨lk0,a rfl⟩⟩
 ·exact A2 (f:=λt=>Cn t Mg 0) (D3 (ks:=Str.ofString "led ") (k:=Str.ofString "led") (by decide +kernel) (by decide +kernel) nx ub ul) (by decide) (λt=>rfl) rfl d λt H e Q E hR a _=>⟨_,_,_,rfl,.inl ⟨lk0,a rfl⟩⟩
 ·exact A2 (f:=λt=>Cn t HZ 1) (D3 (ks:=Str.ofString "ring ") (k:=Str.ofString "ring") (by decide +kernel) (by decide +kernel) nx ub ul) (by decide) (λt=>rfl) rfl d λt H e Q E hR a _=>⟨_,_,_,rfl,.inl ⟨lk0,a rfl⟩⟩
 ·exact A2 (f:=λt=>Cn t Mh 0) (D3 (ks:=Str.ofString "before ") (k:=Str.ofString "before") (by decide +kernel) (by decide +kernel) nx ub ul) (by decide) (λt=>rfl) rfl d λt H e Q E hR a _=>⟨_,_,_,rfl,.inl ⟨lk0,a rfl⟩⟩
theorem Mo{us:qR}(ub:∀n∈us,0<=n/\n<9):Ro (.str (Ci us))=some us:=QI ub
theorem Qn{w:Nat}{rs:Rs}{x y z:Str}{us:qR}{q r:Rl}(h:w<6)(nx:BJ x)(ny:BJ y)(ub:∀n∈us,0<=n/\n<q.g)(g9:q.g<=9)(ul:us.length<=13)(u4:w=4->1<=us.length)(lk:rs.lookup x=some q)(lk':w=2->rs.lookup y=some r)(an:Sg w q r us z):CS rs rs (Mn w x y us) (.str z):=by
 have d:(V.str z=.non/\rs=rs)\/∃y:Str,V.str z=.str y:=.inr ⟨_,rfl⟩;have ub9:∀n∈us,0<=n/\n<9:=λn hn=>by have:=ub n hn;lia
 by_cases w2:w=2
 ·subst w2;obtain⟨b,hb,rfl⟩:=an;refine A2 (f:=FL) (LS (EZ (ks:=Str.ofString "same ") (k:=Str.ofString "same") (by decide +kernel) (by decide +kernel) nx) ny) (by decide) (λt=>rfl) rfl d λt H e Q E hR _ b'=>⟨_,_,_,rfl,.inr ⟨q,lk,.inr ⟨r,lk' rfl,λv H' hv sm=>?_⟩⟩⟩
  obtain rfl:v=b:=al.mpr (hv.trans hb.symm);exact b' _ rfl H' (A0.of sm) (hR.same sm)
 have h':w=0\/w=1\/w=3\/w=4\/w=5:=by lia
 rcases h' with rfl|rfl|rfl|rfl|rfl
 ·obtain⟨lo,M,nw,far,rfl⟩:=an;exact A2 (f:=FK) (EZ (ks:=Str.ofString "show ") (k:=Str.ofString "show") (by decide +kernel) (by decide +kernel) nx) (by decide) (λt=>rfl) rfl d λt H e Q E hR _ b=>⟨_,_,rfl,.inr ⟨q,lo,M,lk,nw,far,λH' sm=>b _ rfl H' (A0.of sm) (hR.same sm)⟩⟩
 ·obtain⟨far,rfl⟩:=an;exact A2 (f:=HW) (EZ (ks:=Str.ofString "number ") (k:=Str.ofString "number") (by decide +kernel) (by decide +kernel) nx) (by decide) (λt=>rfl) rfl d λt H e Q E hR _ b=>⟨_,_,rfl,.inr ⟨q,lk,far,λH' sm=>b _ rfl H' (A0.of sm) (hR.same sm)⟩⟩
 ·obtain rfl:z=Mg q us:=an;exact A2 (f:=λt=>Cn t Mg 0) (D3 (ks:=Str.ofString "led ") (k:=Str.ofString "led") (by decide +kernel) (by decide +kernel) nx ub9 ul) (by decide) (λt=>rfl) rfl d λt H e Q E hR _ b=>⟨_,_,_,rfl,.inr ⟨q,us,lk,Mo ub9,ub,Zw _,by lia,λH' sm=>b _ rfl H' (A0.of sm) (hR.same sm)⟩⟩
 ·obtain rfl:z=HZ q us:=an;exact A2 (f:=λt=>Cn t HZ 1) (D3 (ks:=Str.ofString "ring ") (k:=Str.ofString "ring") (by decide +kernel) (by decide +kernel) nx ub9 ul) (by decide) (λt=>rfl) rfl d λt H e Q E hR _ b=>⟨_,_,_,rfl,.inr ⟨q,us,lk,Mo ub9,ub,u4 rfl,by lia,λH' sm=>b _ rfl H' (A0.of sm) (hR.same sm)⟩⟩
 ·obtain rfl:z=Mh q us:=an;exact A2 (f:=λt=>Cn t Mh 0) (D3 (ks:=Str.ofString "before ") (k:=Str.ofString "before") (by decide +kernel) (by decide +kernel) nx ub9 ul) (by decide) (λt=>rfl) rfl d λt H e Q E hR _ b=>⟨_,_,_,rfl,.inr ⟨q,us,lk,Mo ub9,ub,Zw _,by lia,λH' sm=>b _ rfl H' (A0.of sm) (hR.same sm)⟩⟩
theorem IF.x{t:EC}{H H':Hp}{b d s:qM}{rs:Rs}(sx:A0 s H H')(hs:∃kvs,H s=some (.dK kvs))(ne:d≠s)(h:IF t H b d rs):IF t H' b d rs:=by obtain⟨⟨dx,hb⟩,hR⟩:=h;refine⟨⟨dx,sx _ _ (λe=>?_) hb⟩,hR.x sx hs ne⟩;obtain⟨kvs,hs⟩:=hs;rw[e,hs]at hb;cases hb
structure KR(t:EC)(H0 HX:Hp)(b d b2 d2 s:qM)(rs:Rs):Prop where
 e:AI H0 HX
 bk:IF t HX b d rs
 b2:IF t HX b2 d2 []
 sh:DW HX s rs
theorem KR.same{t:EC}{H0 H H':Hp}{b d b2 d2 s:qM}{rs:Rs}(h:KR t H0 H b d b2 d2 s rs)(e:AI H H'):KR t H0 H' b d b2 d2 s rs:=⟨h.e.trans e,h.bk.same e,h.b2.same e,h.sh.same e⟩
structure U3(H0:Hp)(d d2 s:qM):Prop where
 nd:H0 d=none
 n2:H0 d2=none
 ns:H0 s=none
 ds:d≠s
 d2s:d2≠s
 dd:d2≠d
theorem Iy{t:EC}{rs:Rs}{H:Hp}{d:qM}{Q:VK}{E:XK}(h8:∀p∈rs,p.1.cps.size<=8)(qq:∀l,l.Perm (rs.map Prod.fst)->WF l->∀H',AI H H'->Q (.str (PySem.Txt.join (Str.ofString " ") l)) H'):Uv t rs (Str.ofString "names") H d Q E:=by have W:=Iv (show Sf (Str.ofString "names") [Str.ofString "names"] 5=true by decide +kernel);exact⟨_,_,W.w,1,FJ,rfl,rfl,λH1 e1=>⟨_,rfl,h8,λl pm so H2 e2=>qq l pm so H2 (e1.trans e2)⟩⟩
theorem A0.lst{s a:qM}{H H':Hp}{xs:List V}(sx:A0 s H H')(hs:∃kvs,H s=some (.dK kvs))(h:H a=some (.lst xs)):H' a=some (.lst xs):=by obtain⟨kvs,hs⟩:=hs;exact sx _ _ (λe=>by rw[e,hs]at h;cases h) h
theorem R8(ns:qR):(PN ns (some 3) (some 23)).length<=20:=by unfold PN;rw[Zt,Z1];have a:HT.GG ns.length ns.length (some 23)=min 23 ns.length:=rfl;have b:HT.GG ns.length 0 (some 3)=min 3 ns.length:=rfl;lia
theorem KR.deed{t:EC}{H0 H H':Hp}{b d b2 d2 s:qM}{rs:Rs}(h:KR t H0 H b d b2 d2 s rs)(n:U3 H0 d d2 s)(sx:A0 s H H'):AI H0 H'/\IF t H' b d rs/\IF t H' b2 d2 []:=⟨sx.into h.e n.ns,h.bk.x sx h.sh.dct n.ds,h.b2.x sx h.sh.dct n.d2s⟩
theorem KR.said{t:EC}{H0 H H':Hp}{b d b2 d2 s:qM}{rs rs':Rs}(n:U3 H0 d d2 s)(e:AI H0 H)(bk:IF t H b d rs)(k2:IF t H b2 d2 [])(sh:DW H s rs')(sx:A0 d H H')(bk':IF t H' b d rs'):KR t H0 H' b d b2 d2 s rs':=⟨sx.into e n.nd,bk',k2.x sx bk.2.dct n.dd,sh.x sx bk.2.dct (Ne.symm n.ds)⟩
section
variable{P:qO}{w:qP}{K:qQ}{mg:Str->Option qL}{base:Heap}{t:EC}
theorem Yj:AJ ["self","at"] ["self","at"] (AG CP):=BS
theorem Yk(T:A5 w K mg t) :Aa P w K mg base 1 t.f_2 ["self","at"] (Gm K t.c_80 t.c_51):=by refine Ar T.d_2 Yj λvs H Q E h=>?_;obtain⟨a,n,y,rfl,ea,q⟩:=h;refine⟨rfl,λcb A outer s hr=>?_⟩;refine⟨_,(AF (TU (pv 0) (pv 1))),?_⟩;walk_at "";exact⟨_,_,n,ea,T.xa_NoRow_at,q⟩
theorem WK:AJ ["thing"] ["thing"] (AG EU):=BS
theorem WL(T:A5 w K mg t) :Aa P w K mg base 1 t.f_55 ["thing"] (GI):=by
 refine Ar T.d_55 WK λvs H Q E h=>?_;obtain⟨x,rfl,kd,q⟩:=h;refine⟨rfl,λcb A outer s hr=>?_⟩;refine⟨_,(AF (AL (Db (DN rfl T.z_isinstance (pv 0) (Fv rfl T.z_int PyProof.Rows.boot_int)) (FP (Lh (DN rfl T.z_isinstance (pv 0) (Fv rfl T.z_bool PyProof.Rows.boot_bool))))))),?_⟩;walk_at "";cases x with
 |int i =>
  refine⟨_,.of (.int i),_,Vb,?_⟩;rw[qD rfl];exact⟨_,.of (.int i),_,Vc,q⟩
 |bl b =>
  refine⟨_,.of (.bl b),_,Vd,?_⟩;rw[qD rfl];exact⟨_,.of (.bl b),_,Ve,q⟩
 |non =>
  refine⟨_,.of .non,_,Vf,?_⟩;rw[qC (by decide)];exact q
 |str y =>
  refine⟨_,.of (.str y),_,Vg,?_⟩;rw[qC (by decide)];exact q
 |ref a =>
  obtain⟨xs,z|z⟩:=kd
  ·refine⟨_,.of (.lst z),_,Vh,?_⟩;rw[qC (by decide)];exact q
  ·refine⟨_,.of (.tup z),_,Vl,?_⟩;rw[qC (by decide)];exact q
 |byt _=>exact kd.elim
 |flt _=>exact kd.elim
 |ty _=>exact kd.elim
theorem WM:AJ ["thing","signs"] ["thing","signs"] (AG Tk):=BS
theorem WN(T:A5 w K mg t)(G_55:Aa P w K mg base 1 t.f_55 ["thing"] (GI)):Aa P w K mg base 2 t.f_65 ["thing","signs"] (Ja):=by
 refine Ar T.d_65 WM λvs H Q E h=>?_;obtain⟨x,g,rfl,kd,q⟩:=h;refine⟨rfl,λcb A outer s hr=>?_⟩;refine⟨_,(AF (AL (Db (AV hr G_55 T.m_55 (AA (pv 0) AB)) (Db (Bx SH AD (pv 0) (AY _)) (FP (Bx Dc (pv 0) (pv 1) (AY _))))))),?_⟩;walk_at "";refine⟨x,rfl,kd,?_⟩;cases x with
 |int i =>
  walk_at "";simp only[PV]at q
  by_cases h:0<=i
  ·rw[qF h,Bool.true_and]at q;rw[qD h];exact q
  ·rw[qG h,Bool.false_and]at q;rw[qC h];exact q
 |_=>exact⟨false,rfl,YS q⟩
theorem Qo:AJ ["word","signs","at","thing"] ["word","signs"] (AG Tl):=BS
theorem WO(T:A5 w K mg t)(G_65:Aa P w K mg base 2 t.f_65 ["thing","signs"] (Ja))(G_2:Aa P w K mg base 1 t.f_2 ["self","at"] (Gm K t.c_80 t.c_51)):Aa P w K mg base 3 t.f_24 ["word","signs"] (DP K t.c_80):=by
 refine BQ T.d_24 Qo λvs H Q E h=>?_;obtain⟨a,xs,g,rfl,hS,kd,h⟩:=h;refine⟨rfl,λcb A outer s hr=>?_⟩;refine⟨_,(AF (BB PassesOwn.leaving rfl (My rfl T.z_enumerate (AA (pv 0) AB)) (Li rfl (C5 (BR 2 Qo) (C5 (BR 3 Qo) JF))) (AF (Ai (Bv (Bc (AV hr G_65 T.m_65 (AA (pv 3) (AA (pv 1) AB))))) (AF (FV rfl T.xm_80 G_2 (hr.mono (by decide)) rfl T.m_80 DO (AA (pv 2) AB))) AX)))),?_⟩;refine⟨_,rfl,a,xs,rfl,hS,?_⟩;refine Kl (xs:=xs) (λi σ H1=>BK g (xs.take i)=none/\(∃x2 x3,σ=[some (.ref a),some (.int g),x2,x3])/\AI H H1) ⟨rfl,⟨none,none,rfl⟩,AI.refl _⟩ (λi σ H1 _ z=>z.2.2.seq hS) ?_ ?_
 ·rintro i x p σ H1 hx ⟨hb,⟨x2,x3,rfl⟩,e⟩ hp;have e2:AI H (Am H1 p (.tup [.int ((i:Nat):Int),x])):=e.trans (AI.new hp _);refine⟨p,_,rfl,Ao.of AE,rfl,_,_,rfl,_,_,rfl,rfl,?_⟩;walk_at "";refine⟨x,g,rfl,(kd x (Zv hx)).same e2,?_⟩;cases hs:PV g x with
  |true =>
   walk_at "";exact⟨EG hb hx hs,⟨_,rfl⟩,e2⟩
  |false =>
   walk_at "";refine⟨by decide,λea hea=>⟨ea,true,_,rfl,AE,λdx hdx=>⟨rfl,some dx,?_,?_⟩⟩⟩
   ·rw[AR (Ne.symm (CI hdx).1),AE]
   ·rw[EH hb hx hs]at h;exact h _ dx (EF e2 hea hdx) (by rw[B1 (CI hdx).1,AE])
 ·rintro σ H1 ⟨hb,_,e⟩;rw[Zx]at hb;rw[hb]at h;exact h H1 e
theorem Yl:AJ ["word","signs","many"] ["word","signs","many"] (AG YZ):=BS
theorem Ym(T:A5 w K mg t)(G_24:Aa P w K mg base 3 t.f_24 ["word","signs"] (DP K t.c_80))(G_2:Aa P w K mg base 1 t.f_2 ["self","at"] (Gm K t.c_80 t.c_51)):Aa P w K mg base 4 t.f_6 ["word","signs","many"] (EI K t.c_80):=by
 refine BQ T.d_6 Yl λvs H Q E h=>?_;obtain⟨a,xs,g,m,rfl,hS,kd,h⟩:=h;refine⟨rfl,λcb A outer s hr=>?_⟩
 refine⟨_,(AC (Ax (AZ G_24 (hr.mono (by decide)) rfl T.m_24 AM (AA (Bn Dt (pv 0) Cs (Bp (pv 2))) (AA (pv 1) AB))))
  (AF (Ai (AU Ef (AT (Eb K) rfl T.z_len Za (AA (pv 0) AB)) (pv 2) (AY _)) (AF (FV rfl T.xm_80 G_2 (hr.mono (by decide)) rfl T.m_80 DO (AA (AT (Nr rfl) rfl T.z_min PyProof.Rows.boot_min (AA (AT (Eb K) rfl T.z_len Za (AA (pv 0) AB)) (AA (pv 2) AB))) AB))) AX))),?_⟩
 walk_at "";refine FZ hS λp H1 e1 _ h1=>?_;rw[Rc]at h1;refine⟨p,_,g,rfl,Ac.of h1,λx hx=>(kd x (aW hx)).same e1,?_⟩;unfold Dj at h;cases hb:BK g (xs.take m) with
 |some i =>
  rw[hb]at h;exact N9.same e1 h
 |none =>
  rw[hb]at h;dsimp only at h;intro H2 e2;refine⟨xs,.inl ((e1.trans e2).seq hS),?_⟩
  by_cases hl:xs.length=m
  ·rw[qD hl]at h;rw[qC (by lia)];exact h _ (e1.trans e2)
  ·rw[qC hl]at h;rw[qD (by lia)];refine⟨xs,.inl ((e1.trans e2).seq hS),by decide,λea hea=>⟨ea,true,_,rfl,AE,λdx hdx=>⟨rfl,some dx,?_,?_⟩⟩⟩
   ·rw[AR (Ne.symm (CI hdx).1),AE]
   ·refine h _ dx (EF (e1.trans e2) hea hdx) ?_;rw[B1 (CI hdx).1,AE];have e:(if (m:Int)<(xs.length:Int) then (m:Int) else (xs.length:Int))=((min xs.length m:Nat):Int):=by split<;>lia
    rw[e]
theorem Yn:AJ ["word","signs","fewest"] ["word","signs","fewest"] (AG Ya):=BS
theorem Yo(T:A5 w K mg t)(G_24:Aa P w K mg base 3 t.f_24 ["word","signs"] (DP K t.c_80))(G_2:Aa P w K mg base 1 t.f_2 ["self","at"] (Gm K t.c_80 t.c_51)):Aa P w K mg base 4 t.f_0 ["word","signs","fewest"] (DQ K t.c_80):=by
 refine BQ T.d_0 Yn λvs H Q E h=>?_;obtain⟨a,xs,g,m,rfl,hS,kd,h⟩:=h;refine⟨rfl,λcb A outer s hr=>?_⟩
 refine⟨_,(AC (Ax (AZ G_24 (hr.mono (by decide)) rfl T.m_24 AM (AA (pv 0) (AA (pv 1) AB))))
  (AF (Ai (AU Dc (AT (Eb K) rfl T.z_len Za (AA (pv 0) AB)) (pv 2) (AY _)) (AF (FV rfl T.xm_80 G_2 (hr.mono (by decide)) rfl T.m_80 DO (AA (AT (Eb K) rfl T.z_len Za (AA (pv 0) AB)) AB))) AX))),?_⟩
 walk_at "";refine⟨a,xs,g,rfl,hS,kd,?_⟩;cases hb:BK g xs with
 |some i =>
  rw[K4 hb]at h;exact h
 |none =>
  unfold Bi at h;rw[hb]at h;dsimp only at h;intro H1 e;refine⟨xs,.inl (e.seq hS),?_⟩
  by_cases z:xs.length<m
  ·rw[qD z]at h;rw[qD (by lia)];refine⟨xs,.inl (e.seq hS),by decide,λea hea=>⟨ea,true,_,rfl,AE,λdx hdx=>⟨rfl,some dx,?_,?_⟩⟩⟩
   ·rw[AR (Ne.symm (CI hdx).1),AE]
   ·refine h _ dx (EF e hea hdx) ?_;rw[B1 (CI hdx).1,AE]
  ·rw[qC z]at h;rw[qC (by lia)];exact h _ e
theorem Na:AJ ["word","signs","number","sign"] ["word","signs"] (AG Tn):=BS
theorem WP(T:A5 w K mg t)(G_24:Aa P w K mg base 3 t.f_24 ["word","signs"] (DP K t.c_80)):Aa P w K mg base 4 t.f_40 ["word","signs"] (El K t.c_80):=by
 refine BQ T.d_40 Na λvs H Q E h=>?_;obtain⟨a,xs,g,rfl,g2,g9,hS,kd,h⟩:=h;refine⟨rfl,λcb A outer s hr=>?_⟩
 refine⟨_,(AC (Ax (AZ G_24 (hr.mono (by decide)) rfl T.m_24 AM (AA (pv 0) (AA (pv 1) AB))))
  (AC (AN 2 Na AD)
  (AC (PS.nox (BB PassesOwn.never rfl (Qw K (pv 0)) (BR 3 Na) (AF (AN 2 Na (AK Aw (AK Be (pv 2) (pv 1)) (pv 3))))))
  (AF (AL (pv 2)))))),?_⟩
 walk_at "";refine⟨a,xs,g,rfl,hS,kd,?_⟩;cases hb:BK g xs with
 |some i =>
  rw[hb]at h;exact h
 |none =>
  rw[hb]at h;obtain⟨ns,rfl,hns⟩:=CC hb;intro H1 e;refine⟨_,rfl,a,rfl,⟨_,e.seq hS⟩,?_⟩;refine C6 (xs:=ns.map V.int) (λi σ H2=>(∃x3,σ=[some (.ref a),some (.int g),some (.int (BZ g (ns.take i))),x3])/\H2=H1) ⟨⟨none,rfl⟩,rfl⟩ (λi σ H2 _ z=>by rw[z.2];exact e.seq hS) ?_ ?_
  ·refine LO ?_;rintro _ _ i x _ hGo σ H2 hx ⟨⟨x3,rfl⟩,rfl⟩;refine hGo _ _ ?_;obtain⟨n,hn,rfl⟩:=B3 hx;walk_at "";refine⟨.inr ⟨by lia,by lia⟩,?_⟩;rw[Dg hn];exact⟨rfl,_,rfl⟩
  ·rintro σ H2 ⟨⟨x3,rfl⟩,rfl⟩;walk_at "";rw[ZM,Zx];exact h ns rfl _ e
theorem Nb:AJ ["number","signs","many","backwards","rest"] ["number","signs","many"] (AG To):=BS
theorem WQ(T:A5 w K mg t) :Er P w K mg base 1 t.f_69 ["number","signs","many"] (Jj t.c_72):=by
 refine GK T.d_69 Nb (λ_ _ _ _ _ _=>b3 λ_ _ _=>rfl) (λvs H Q E h=>?_) (λcb A outer s H vs Q E hr h=>?_)
 ·obtain⟨n,g,m,rfl,g2,g9,m0,m3,hbad,hgood⟩:=h;rfl
 obtain⟨n,g,m,rfl,g2,g9,m0,m3,hbad,hgood⟩:=h
 refine⟨_,(AC (Ai (AU Dc (pv 0) AD (AY _)) (AF (A6 rfl T.x_72 rfl T.m_72 Aj (AA AS AB))) AX)
  (AC (AN 3 Nb (Ay AB))
  (AC (AN 4 Nb (pv 0))
  (AC (PS.nox (Ed PassesOwn.never (AU Dc (AT (Eb K) rfl T.z_len Za (AA (pv 3) AB)) (pv 2) (AY _)) (AC (Ax (QS K (pv 3) (AA (AK At (pv 4) (pv 1)) AB)))
  (AF (AN 4 Nb (AK Bw (pv 4) (pv 1)))))))
  (AC (Ai (AU Ge (pv 4) AD (AY _)) (AF (A6 rfl T.x_72 rfl T.m_72 Aj (AA AS AB))) AX)
  (AF (AL (Ej rfl rfl T.z_reversed rfl T.z_list (AA (pv 3) AB))))))))),?_⟩
 walk_at ""
 by_cases hn:n<0
 ·rw[qD hn];exact⟨by decide,hbad (.inl hn) H (AI.refl H)⟩
 rw[qC hn];refine⟨Zw _,λp hp=>?_⟩
 refine Ee (λσ H1=>∃i:Nat,i<=m.toNat/\σ=[some (.int n),some (.int g),some (.int m),some (.ref p),some (.int (dr g n i))]/\H1=Am H p (.lst ((Bt g n i).map V.int)))
  (λσ H1=>match H1 p with|some (.lst xs)=>m.toNat-xs.length|_=>0) ⟨0,Zw _,rfl,rfl⟩ ?_ ?_
 ·rintro σ H1 ⟨i,hi,rfl,rfl⟩;walk_at "";have hl:((Bt g n i).map V.int).length=i:=by rw[ZM,Bh]
  refine⟨_,.inl (Ac.of AE),?_⟩;rw[hl]
  by_cases hlt:(i:Int)<m
  ·rw[qD hlt];refine⟨.inl ⟨_,Ac.of AE⟩,by lia,_,AE,by rw[hl];exact Ad (by lia),by lia,by lia,⟨i+1,by lia,rfl,?_⟩,?_⟩
   ·rw[BH,Bt,Zf];rfl
   ·rw[AE,AE];show m.toNat-(List.map V.int (Bt g n i)++[V.int (dr g n i%g)]).length<m.toNat-(List.map V.int (Bt g n i)).length;rw[Zg,hl];simp only[List.length_cons,List.length_nil];lia
  ·rw[qC hlt];have ei:i=m.toNat:=by lia
   by_cases hd:0<dr g n i
   ·rw[qD hd];refine⟨by decide,hbad (.inr (Int.not_lt.mp λz=>?_)) _ (AI.new hp _)⟩;rw[ei,M6 g2 (by lia) z]at hd;lia
   ·rw[qC hd];refine⟨_,Ac.of AE,λr hr'=>hgood (by lia) (Int.not_le.mp λz=>?_) r _ ⟨(AI.new hp _).trans (AI.new hr' _),(CI hr').2,?_⟩⟩
    ·rw[ei]at hd;exact hd (Ta g2 z)
    ·rw[AE,ei,aV]
 ·intro σ H1 Q1 Q2 hq;walk_at "";rintro⟨v,h1,p,h2,x,h3,v2,h4,x1,h5,h6⟩;exact⟨v,h1,p,h2,x,h3,v2,h4,x1,h5,hq _ _ h6⟩
theorem WR:AJ ["signs","low"] ["signs","low"] (AG Tp):=BS
theorem WS(T:A5 w K mg t)(G_55:Aa P w K mg base 1 t.f_55 ["thing"] (GI)):Er P w K mg base 2 t.f_22 ["signs","low"] (MF t.c_71):=by
 refine GK T.d_22 WR (λ_ _ _ _ _ _=>b2 λ_ _=>rfl) (λvs H Q E h=>?_) (λcb A outer s H vs Q E hr h=>?_)
 ·obtain⟨x,y,rfl,kx,ky,hg,hbad⟩:=h;rfl
 obtain⟨x,y,rfl,kx,ky,hg,hbad⟩:=h
 refine⟨_,(AC (Ai (PW.pt (DY (Bv (Bc (AV hr G_55 T.m_55 (AA (pv 0) AB)))) (DY (AU Dc (pv 0) AD (AY _)) (DH (AU Ge (pv 0) AD (AY _)))))) (AF (A6 rfl T.x_71 rfl T.m_71 Aj (AA AS AB))) AX)
  (AF (Ai (Bv (Bc (AV hr G_55 T.m_55 (AA (pv 1) AB)))) (AF (A6 rfl T.x_71 rfl T.m_71 Aj (AA AS AB))) AX))),?_⟩
 walk_at "";refine⟨x,rfl,kx,M0 x,rfl,?_⟩;cases x with
 |int g =>
  show if true=false then _ else _;rw[qC (by decide)];refine⟨g,rfl,?_⟩
  by_cases h2:g<2
  ·rw[qD h2];exact⟨by decide,hbad (by show ((decide (2<=g)&&decide (g<=9))&&M0 y)=false;rw[qG (p:=2<=g) (by lia)];rfl)⟩
  rw[qC h2];refine⟨g,rfl,?_⟩
  by_cases h9:9<g
  ·rw[qD h9];exact⟨by decide,hbad (by show ((decide (2<=g)&&decide (g<=9))&&M0 y)=false;rw[qG (p:=g<=9) (by lia),Bool.and_false];rfl)⟩
  rw[qC h9]
  have e:Ce (.int g) y=M0 y:=by show ((decide (2<=g)&&decide (g<=9))&&M0 y)=M0 y;rw[qF (p:=2<=g) (by lia),qF (p:=g<=9) (by lia)];rfl
  rw[e]at hg hbad;refine⟨y,rfl,ky,M0 y,rfl,?_⟩;cases hy:M0 y with
  |false =>
   rw[qD rfl];exact⟨by decide,hbad hy⟩
  |true =>
   rw[qC (by decide)];exact hg hy
 |_ =>
  show if false=false then _ else _;rw[qD rfl];exact⟨by decide,hbad rfl⟩
theorem LX:AJ ["signs","length","many","words"] ["signs","length"] (AG Tq):=BS
theorem WU(T:A5 w K mg t) :Aa P w K mg base 1 t.f_25 ["signs","length"] (Cv):=by
 refine Ar T.d_25 LX λvs H Q E h=>?_;obtain⟨g,n,rfl,g2,g9,hy,hn⟩:=h;refine⟨rfl,λcb A outer s hr=>?_⟩
 refine⟨_,(AC (AN 2 LX AD)
  (AC (AN 3 LX AD)
  (AC (Ed PassesOwn.never (AU Dc (pv 3) (pv 1) (AY _)) (AC (AN 3 LX (AK Be (pv 3) (pv 0)))
  (AF (AN 2 LX (AK Aw (pv 2) AD)))))
  (AC (Ai (AU BY (pv 3) (pv 1) (AY _)) (AF (AL (pv 2))) AX)
  (AF (AL AD)))))),?_⟩
 walk_at ""
 refine Ee (λσ H1=>∃i:Nat,σ=[some (.int g),some (.int n),some (.int ((i:Nat):Int)),some (.int (g^i))]/\H1=H/\∀j,j<i->g^j<n)
  (λ(σ:St) (H1:Hp)=>match σ[3]? with|some (some (V.int x))=>(n-x).toNat|_=>0) ⟨0,by rw[aM];rfl,rfl,λj hj=>qE hj (cD _)⟩ ?_ ?_
 ·rintro σ H1 ⟨i,rfl,rfl,hj⟩;have gp:=RW.A1 g2 i;walk_at ""
  by_cases hlt:g^i<n
  ·rw[qD hlt];refine⟨.inr ⟨by lia,by lia⟩,⟨i+1,rfl,?_,λj hj2=>?_⟩,?_⟩
   ·rw[Z2]
   ·by_cases z:j=i
    ·rw[z];exact hlt
    ·exact hj j (by lia)
   ·have:g^i<g^i*g:=by
     have:=aU g2 (ai gp);lia
    lia
  ·rw[qC hlt]
   by_cases he:g^i=n
   ·rw[qD he];exact hy i he.symm
   ·rw[qC he];refine hn λm z=>?_
    by_cases hm:m<i
    ·have:=hj m hm;lia
    ·have:=BE g2 (Nat.le_of_not_lt hm);lia
 ·intro σ H1 Q1 Q2 hq;walk_at "";rintro⟨v,h1,v2,h2,i,h3,x,h4,h5⟩;exact⟨v,h1,v2,h2,i,h3,x,h4,hq _ _ h5⟩
theorem Qp:AJ ["signs","many","length","done"] ["signs","many"] (AG Yb):=BS
theorem Yp(T:A5 w K mg t) :Aa P w K mg base 1 t.f_9 ["signs","many"] (MG):=by
 refine Ar T.d_9 Qp λvs H Q E h=>?_;obtain⟨g,m,rfl,g2,g9,m1,hy,hn⟩:=h;refine⟨rfl,λcb A outer s hr=>?_⟩
 refine⟨_,(AC (AN 2 Qp AD)
  (AC (AN 3 Qp AD)
  (AC (Ed PassesOwn.never (PW.pt (Lg (AU Dc (pv 3) (pv 1) (AY _)) (JE (AU SH (pv 2) (Du rfl T.g_LONGEST_TABLE) (AY _))))) (AC (AN 2 Qp (AK Be (pv 2) (pv 0)))
  (AF (AN 3 Qp (AK Aw (pv 3) AD)))))
  (AF (AL (pv 2)))))),?_⟩
 walk_at ""
 refine Ee (λσ H1=>∃i:Nat,i<=m.toNat/\σ=[some (.int g),some (.int m),some (.int (g^i)),some (.int ((i:Nat):Int))]/\H1=H)
  (λ(σ:St) (H1:Hp)=>match σ[3]? with|some (some (V.int x))=>(m-x).toNat|_=>0) ⟨0,Zw _,by rw[aM];rfl,rfl⟩ ?_ ?_
 ·rintro σ H1 ⟨i,hi,rfl,rfl⟩;have gp:=RW.A1 g2 i;walk_at ""
  by_cases hlt:(i:Int)<m
  ·rw[qD hlt]
   by_cases hle:g^i<=256
   ·rw[qD hle];exact⟨.inr ⟨by lia,by lia⟩,⟨i+1,by lia,by rw[Z2],by lia⟩,by lia⟩
   ·rw[qC hle];have:=BE g2 hi;exact hn (by lia) _ (by lia)
  ·rw[qC hlt];have ei:i=m.toNat:=by lia
   subst ei
   by_cases hle:g^m.toNat<=256
   ·exact hy hle
   ·exact hn (by lia) _ (by lia)
 ·intro σ H1 Q1 Q2 hq;walk_at "";rintro⟨v,h1,v2,h2,i,h3,x,h4,h5⟩;refine⟨v,h1,v2,h2,i,h3,x,h4,?_⟩
  by_cases z:i<x
  ·rw[qD z]at h5⊢;obtain⟨v3,h6,j,h7,h8⟩:=h5;exact⟨v3,h6,j,h7,hq _ _ h8⟩
  ·rw[qC z]at h5⊢;exact hq _ _ h5
theorem Si:AJ ["signs","table","told"] ["signs","table"] (AG Tr):=BS
theorem WV(T:A5 w K mg t)(G_25:Aa P w K mg base 1 t.f_25 ["signs","length"] (Cv))(G_65:Aa P w K mg base 2 t.f_65 ["thing","signs"] (Ja)):Er P w K mg base 3 t.f_16 ["signs","table"] (Ji t.c_71):=by
 refine GK T.d_16 Si (λ_ _ _ _ _ _=>b2 λ_ _=>rfl) (λvs H Q E h=>?_) (λcb A outer s H vs Q E hr h=>?_)
 ·obtain⟨g,z,rfl,g2,g9,kz,hg,hbad⟩:=h;rfl
 obtain⟨g,z,rfl,g2,g9,kz,hg,hbad⟩:=h
 refine⟨_,(AC (Ai (Bv (Bc (RO rfl T.z_isinstance (pv 1) (AA (Fv rfl T.z_list PyProof.Rows.boot_list) (AA (Fv rfl T.z_tuple PyProof.Rows.boot_tuple) AB))))) (AF (A6 rfl T.x_71 rfl T.m_71 Aj (AA AS AB))) AX)
  (AC (Ai (PW.pt (DY (AU Ge (AT (Eb K) rfl T.z_len Za (AA (pv 1) AB)) (Du rfl T.g_LONGEST_TABLE) (AY _)) (DH (AU BY (AV hr G_25 T.m_25 (AA (pv 0) (AA (AT (Eb K) rfl T.z_len Za (AA (pv 1) AB)) AB))) AD (AY _))))) (AF (A6 rfl T.x_71 rfl T.m_71 Aj (AA AS AB))) AX)
  (AF (BB PassesOwn.leaving rfl (Vm (Qw K (pv 1)) (Lm (pv 1))) (BR 2 Si) (AF (Ai (Bv (Bc (AV hr G_65 T.m_65 (AA (pv 2) (AA (pv 0) AB))))) (AF (A6 rfl T.x_71 rfl T.m_71 Aj (AA AS AB))) AX)))))),?_⟩
 walk_at "";refine⟨by decide,λp hp=>?_⟩;have e1:=AI.new hp (.tup [V.ty "list",V.ty "tuple"]);have h1:Am H p (.tup [V.ty "list",V.ty "tuple"]) p=some (.tup [V.ty "list",V.ty "tuple"]):=AE;generalize Am H p (HO.tup [V.ty "list",V.ty "tuple"])=H1 at e1 h1⊢;cases z with
 |ref a =>
  obtain⟨xs,hs,kx⟩:=kz;have hs1:=hs.same e1
  have notk:¬Dk g xs->¬GN H g (.ref a):=by rintro h ⟨b,ys,e,hs2,ok⟩;cases e;have:=hs.inj hs2;subst this;exact h ok
  obtain⟨tt,ty,hk⟩:∃tt,U9 K H1 (.ref a) tt/\PySem.W.kitAny K tt [.type "list",.type "tuple"]=some true:=hs1.elim (λq=>⟨_,.of (.lst q),Y8 Vi _⟩) λq=>⟨_,.of (.tup q),RS Vk (Y8 Vj _)⟩
  refine⟨tt,ty,_,h1,[.type "list",.type "tuple"],rfl,true,hk,?_⟩;rw[qC (by decide)];refine⟨a,rfl,xs,hs1.sq,?_⟩
  by_cases h256:(256:Int)<xs.length
  ·rw[qD h256];exact⟨by decide,hbad (notk λok=>by have:=ok.1;lia) _ e1⟩
  rw[qC h256];refine⟨a,rfl,xs,hs1.sq,g,_,rfl,g2,g9,λm hm=>⟨rfl,?_⟩,λhno=>⟨rfl,?_⟩⟩
  ·by_cases hm0:m=0
   ·subst hm0;rw[qD (show V.int ((0:Nat):Int)=V.int 0 from rfl)];refine⟨by decide,hbad (notk λok=>?_) _ e1⟩;obtain⟨m',hm1,hl⟩:=ok.2.1;have:=GL g2 (hm.symm.trans hl);lia
   rw[qC (by intro z;injection z with z;lia)];rcases hs1 with hL|hT
   ·refine Or.inl ⟨_,rfl,a,rfl,⟨_,Ac.of hL⟩,?_⟩;refine C6 (xs:=xs) (λi σ H2=>BK g (xs.take i)=none/\(∃x2,σ=[some (.int g),some (.ref a),x2])/\H2=H1) ⟨rfl,⟨none,rfl⟩,rfl⟩ (λi σ H2 _ z=>by rw[z.2.2];exact Ac.of hL) ?_ ?_
    ·refine LO ?_;rintro _ _ i x _ hGo σ H2 hx ⟨hb,⟨x2,rfl⟩,rfl⟩;refine hGo _ _ ?_;walk_at "";refine⟨x,g,rfl,(kx x (Zv hx)).same e1,?_⟩;cases hsg:PV g x with
     |true =>
      walk_at "";exact⟨EG hb hx hsg,_,rfl⟩
     |false =>
      walk_at "";exact⟨by decide,hbad (notk λok=>by have z:=ok.2.2;rw[EH hb hx hsg]at z;cases z) _ e1⟩
    ·rintro σ H2 ⟨hb,_,rfl⟩;rw[Zx]at hb;exact hg ⟨a,xs,rfl,hs,by lia,⟨m,by lia,hm⟩,hb⟩ _ e1
   ·refine Or.inr ⟨_,rfl,a,rfl,⟨_,Ao.of hT⟩,?_⟩;refine Q0 (xs:=xs) (λi σ H2=>BK g (xs.take i)=none/\(∃x2,σ=[some (.int g),some (.ref a),x2])/\H2=H1) ⟨rfl,⟨none,rfl⟩,rfl⟩ (λi σ H2 _ z=>by rw[z.2.2];exact Ao.of hT) ?_ ?_
    ·rintro i x σ H2 hx ⟨hb,⟨x2,rfl⟩,rfl⟩;walk_at "";refine⟨x,g,rfl,(kx x (Zv hx)).same e1,?_⟩;cases hsg:PV g x with
     |true =>
      walk_at "";exact⟨EG hb hx hsg,_,rfl⟩
     |false =>
      walk_at "";exact⟨by decide,hbad (notk λok=>by have z:=ok.2.2;rw[EH hb hx hsg]at z;cases z) _ e1⟩
    ·rintro σ H2 ⟨hb,_,rfl⟩;rw[Zx]at hb;exact hg ⟨a,xs,rfl,hs,by lia,⟨m,by lia,hm⟩,hb⟩ _ e1
  ·rw[qD rfl];refine⟨by decide,hbad (notk λok=>?_) _ e1⟩;obtain⟨m',_,hl⟩:=ok.2.1;exact hno m' hl
 |non =>
  refine⟨_,.of .non,_,h1,[.type "list",.type "tuple"],rfl,false,RS Vn (RS Vo rfl),?_⟩;rw[qD rfl];exact⟨by decide,hbad (λ⟨_,_,e,_⟩=>nomatch e) _ e1⟩
 |str y =>
  refine⟨_,.of (.str y),_,h1,[.type "list",.type "tuple"],rfl,false,RS Vp (RS Vq rfl),?_⟩;rw[qD rfl];exact⟨by decide,hbad (λ⟨_,_,e,_⟩=>nomatch e) _ e1⟩
 |int y =>
  refine⟨_,.of (.int y),_,h1,[.type "list",.type "tuple"],rfl,false,RS Vr (RS Vs rfl),?_⟩;rw[qD rfl];exact⟨by decide,hbad (λ⟨_,_,e,_⟩=>nomatch e) _ e1⟩
 |bl y =>
  refine⟨_,.of (.bl y),_,h1,[.type "list",.type "tuple"],rfl,false,RS Vt (RS Vu rfl),?_⟩;rw[qD rfl];exact⟨by decide,hbad (λ⟨_,_,e,_⟩=>nomatch e) _ e1⟩
 |byt _=>exact kz.elim
 |flt _=>exact kz.elim
 |ty _=>exact kz.elim
theorem WW:AJ ["signs","low","table"] ["signs","low","table"] (AG Ts):=BS
theorem WX(T:A5 w K mg t)(G_22:Er P w K mg base 2 t.f_22 ["signs","low"] (MF t.c_71))(G_16:Er P w K mg base 3 t.f_16 ["signs","table"] (Ji t.c_71)):Er P w K mg base 4 t.f_86 ["signs","low","table"] (EJ t.c_71):=by
 refine GK T.d_86 WW (λ_ _ _ _ _ _=>b3 λ_ _ _=>rfl) (λvs H Q E h=>?_) (λcb A outer s H vs Q E hr h=>?_)
 ·obtain⟨x,y,z,rfl,kx,ky,kz,hg,hbad⟩:=h;rfl
 obtain⟨x,y,z,rfl,kx,ky,kz,hg,hbad⟩:=h
 refine⟨_,(AC (Ax (CJ G_22 (hr.mono (by decide)) rfl T.m_22 AM (AA (pv 0) (AA (pv 1) AB))))
  (AC (Ax (CJ G_16 (hr.mono (by decide)) rfl T.m_16 AM (AA (pv 0) (AA (pv 2) AB))))
  (AF (AL (DL (AA (pv 0) (AA (pv 1) (AA (Af Bo rfl T.z_tuple aY (AA (pv 2) AB)) AB)))))))),?_⟩
 walk_at "";refine⟨x,y,rfl,kx,ky,λhgood=>?_,λhb=>hbad (λh=>by rw[h.1]at hb;cases hb) _ (AI.refl _)⟩;obtain⟨g,lo,rfl,rfl,g2,g9⟩:=Jh hgood;refine⟨g,z,rfl,g2,g9,kz,λok H1 e1=>?_,λnok H1 e1=>hbad (λh=>?_) _ e1⟩
 ·obtain⟨a,xs,rfl,hs,ok⟩:=ok;obtain⟨c5,rfl,htab⟩:=CC ok.2.2;refine⟨a,rfl,c5.map V.int,?_⟩;rcases hs with hL|hT
  ·refine .inl ⟨Ac.of (e1 _ _ hL),λl hl=>⟨by decide,λp hp=>?_⟩⟩;have e2:=AI.new hl (.tup (c5.map V.int));have e3:=AI.new hp (.tup [.int g,.int lo,.ref l]);exact hg g lo c5 a rfl rfl rfl (.inl hL) g2 g9 ok htab p _ ((e1.trans e2).trans e3) ⟨l,AE,e3 _ _ AE⟩
  ·refine .inr ⟨Ao.of (e1 _ _ hT),by decide,λp hp=>?_⟩;have e3:=AI.new hp (.tup [.int g,.int lo,.ref a]);exact hg g lo c5 a rfl rfl rfl (.inr hT) g2 g9 ok htab p _ (e1.trans e3) ⟨a,AE,e3 _ _ (e1 _ _ hT)⟩
 ·obtain⟨_,g',e,h'⟩:=h;cases e;exact nok h'
theorem WY:AJ ["one"] ["one"] (AG Tt):=BS
theorem WZ(T:A5 w K mg t)(G_25:Aa P w K mg base 1 t.f_25 ["signs","length"] (Cv)):Aa P w K mg base 2 t.f_76 ["one"] (CK):=by
 refine Ar T.d_76 WY λvs H Q E h=>?_;obtain⟨r,g,lo,c5,m,rfl,g2,g9,⟨tb,h1,h2⟩,hl,q⟩:=h;refine⟨rfl,λcb A outer s hr=>?_⟩;refine⟨_,(AF (AL (AV hr G_25 T.m_25 (AA (AH (BN K) (pv 0) AD (λ_ _=>rfl)) (AA (AT (Eb K) rfl T.z_len Za (AA (AH (BN K) (pv 0) AD (λ_ _=>rfl)) AB)) AB))))),?_⟩;walk_at "";refine (BU (v:=.int g) (Ao.of h1) (Ct rfl) (BU (v:=.ref tb) (Ao.of h1) (Ct rfl) ?_));walk_at "";refine⟨_,.inr (Ao.of h2),g,_,rfl,g2,g9,λm' e=>?_,λz=>?_⟩
 ·rw[ZM,hl]at e;rw[<-GL g2 e];exact q
 ·exact qE (by rw[ZM,hl]) (z m)
theorem Wa:AJ ["one","word"] ["one","word"] (AG Tu):=BS
theorem Wb(T:A5 w K mg t)(G_6:Aa P w K mg base 4 t.f_6 ["word","signs","many"] (EI K t.c_80))(G_76:Aa P w K mg base 2 t.f_76 ["one"] (CK))(G_40:Aa P w K mg base 4 t.f_40 ["word","signs"] (El K t.c_80)):Aa P w K mg base 5 t.f_38 ["one","word"] (Jg K t.c_80):=by
 refine BQ T.d_38 Wa λvs H Q E h=>?_;obtain⟨r,a,g,lo,c5,m,xs,rfl,g2,g9,hR,hl,hS,kd,h⟩:=h;refine⟨rfl,λcb A outer s hr=>?_⟩
 refine⟨_,(AC (Ax (AZ G_6 (hr.mono (by decide)) rfl T.m_6 AM (AA (pv 1) (AA (AH (BN K) (pv 0) AD (λ_ _=>rfl)) (AA (AV hr G_76 T.m_76 (AA (pv 0) AB)) AB)))))
  (AF (AL (AH (BN K) (AH (BN K) (pv 0) AD (λ_ _=>rfl)) (AZ G_40 (hr.mono (by decide)) rfl T.m_40 AM (AA (pv 1) (AA (AH (BN K) (pv 0) AD (λ_ _=>rfl)) AB))) (λ_ _=>rfl))))),?_⟩
 refine Ak.el hR λtb h1 h2=>?_;walk_at "";refine (BU (Ao.of h1) rfl ⟨r,g,lo,c5,m,rfl,g2,g9,hR,hl,a,xs,g,m,rfl,hS,kd,?_⟩);cases hb:Dj g m xs with
 |some i =>
  rw[hb]at h;exact h
 |none =>
  rw[hb]at h;obtain⟨hlen,hbi⟩:=K1 hb;obtain⟨ns,rfl,hns⟩:=CC hbi;rw[ZM]at hlen;intro H1 e1;refine (BU (Ao.of (e1 _ _ h1)) rfl (BU (Ao.of (e1 _ _ h1)) rfl ⟨a,_,g,rfl,g2,g9,e1.seq hS,CU,?_⟩));rw[hbi];intro ms hms H2 e2;have:=B2 hms;subst this;have nb:=C3 g2 hns;rw[hlen,<-hl]at nb;refine (BU (v:=.int (c5.getD (BZ g ns).toNat 0)) (Ao.of (e2 _ _ (e1 _ _ h2))) ?_ (h ns rfl _ (e1.trans e2)));have z:=D9 (ns:=c5) (k:=(BZ g ns).toNat) (by lia);rw[show (((BZ g ns).toNat:Nat):Int)=BZ g ns by lia]at z;exact z
theorem Wc:AJ ["one"] ["one"] (AG Tv):=BS
theorem Wd(T:A5 w K mg t)(G_40:Aa P w K mg base 4 t.f_40 ["word","signs"] (El K t.c_80)):Aa P w K mg base 5 t.f_39 ["one"] (EL):=by refine Ar T.d_39 Wc λvs H Q E h=>?_;obtain⟨r,g,lo,c5,rfl,g2,g9,hR,hb,q⟩:=h;refine⟨rfl,λcb A outer s hr=>?_⟩;refine⟨_,(AF (AL (AV hr G_40 T.m_40 (AA (Kv rfl rfl T.z_reversed rfl T.z_list (AA (AH (BN K) (pv 0) AD (λ_ _=>rfl)) AB)) (AA (AH (BN K) (pv 0) AD (λ_ _=>rfl)) AB))))),?_⟩;refine Ak.el hR λtb h1 h2=>?_;walk_at "";refine (BU (Ao.of h1) rfl ?_);refine⟨tb,rfl,_,Ao.of h2,λl hl=>?_⟩;have e1:=AI.new hl (.lst (c5.map V.int).reverse);refine (BU (Ao.of (e1 _ _ h1)) rfl ⟨l,(c5.reverse).map V.int,g,rfl,g2,g9,Ac.of (by rw[AE,aV]),CU,?_⟩);rw[Bg λn hn=>hb n (bO.mp hn)];intro ms ems H' e';have z:=B2 ems;subst z;rw[Dv];exact q _ (e1.trans e')
theorem Sj:AJ ["one","head","sign","first"] ["one","head","sign"] (AG Tw):=BS
theorem We(T:A5 w K mg t) :Aa P w K mg base 1 t.f_47 ["one","head","sign"] (MR):=by
 refine Ar T.d_47 Sj λvs H Q E h=>?_;obtain⟨r,g,lo,c5,m,h,s',rfl,ok,hh,q⟩:=h;refine⟨rfl,λcb A outer s hr=>?_⟩
 refine⟨_,(AC (AN 3 Sj (AK Be (pv 1) (AH (BN K) (pv 0) AD (λ_ _=>rfl))))
  (AF (AL (Cm [(2,"sign"),(0,"one")] [("sign",_),("one",_)] (No rfl T.z_range (AA (pv 3) (AA (AK Aw (pv 3) (AH (BN K) (pv 0) AD (λ_ _=>rfl))) AB))) (λ_ _ _ _=>(Pd (AU BY (AH (GJ (K:=K) rfl) (AH (GJ (K:=K) rfl) (pv 2) AD (λ_ _=>rfl)) (pv 0) (λ_ _=>rfl)) (pv 1) (AY _)))) (λ_ _ _ _=>(pv 0)))))),?_⟩
 refine Ak.el ok.v λtb h1 h2=>?_;have g2:=ok.g2;have g9:=ok.g9;have m1:=ok.m1;have m8:=ok.m8;have hl:=ok.len;have sz:=ok.sz;have hlm:(c5.map V.int).length=c5.length:=ZM ..;have hd:=Ev g2 hl m1;walk_at "";have gn:((g.toNat:Nat):Int)=g:=by lia
 have hb2:h*g.toNat+g.toNat<=c5.length:=by have:=Nat.mul_le_mul_right g.toNat (show h+1<=c5.length/g.toNat from hh);rw[Nat.add_mul,Nat.one_mul]at this;lia
 refine (BU (Ao.of h1) rfl ⟨g,rfl,.inr ⟨by lia,by lia⟩,?_⟩);refine⟨_,rfl,_,rfl,_,rfl,r,_,0,_,rfl,rfl,Ao.of h1,rfl,_,_,rfl,rfl,_,_,rfl,?_⟩;have eh:(h:Int)*g=((h*g.toNat:Nat):Int):=by rw[Int.natCast_mul,gn]
 rw[eh];refine⟨⟨by lia,by lia,by lia,by lia⟩,λD hD=>?_⟩;rw[show (((h*g.toNat:Nat):Int)+g-((h*g.toNat:Nat):Int)).toNat=g.toNat by lia];refine Bq (lo:=((h*g.toNat:Nat):Int)) (n:=g.toNat) (λi c9 Hx=>c9=(CN (((List.range i).filter λj=>decide (c5.getD (h*g.toNat+j) 0=s')).map λj=>h*g.toNat+j)).map V.int/\Hx=Am H D (.lst c9)) ⟨rfl,rfl⟩ ?_ ?_
 ·refine ET ?_;rintro i _ hGo c9 Hx hi ⟨rfl,rfl⟩;refine hGo _ _ ?_;have en:=AI.new hD (.lst ((CN (((List.range i).filter λj=>decide (c5.getD (h*g.toNat+j) 0=s')).map λj=>h*g.toNat+j)).map V.int));have ei:((h*g.toNat:Nat):Int)+(i:Int)=((h*g.toNat+i:Nat):Int):=by lia
  have fl:((List.range i).filter λj=>decide (c5.getD (h*g.toNat+j) 0=s')).length<=i:=by have:=aH (λj=>decide (c5.getD (h*g.toNat+j) 0=s')) (List.range i);rw[Zc]at this;exact this
  rw[ei];walk_at "";refine (BU (Ao.of (en _ _ h1)) rfl (BU (Ao.of (en _ _ h2)) (D9 (by lia)) ⟨rfl,?_⟩))
  by_cases hc:c5.getD (h*g.toNat+i) 0=s'
  ·rw[qD (by rw[hc])];refine⟨AE,?_,?_,by rw[BH]⟩
   ·unfold CN;rw[ZM,ZM,ZM];exact Ad (by lia)
   ·unfold CN;have f1:([i]:List Nat).filter (λj=>decide (c5.getD (h*g.toNat+j) 0=s'))=[i]:=by rw[au,qD (qF hc)];rfl
    rw[aS,aT,f1,Zf,Zf,Zf];rfl
  ·rw[qC (by intro z;exact hc (V.int.inj z))];have f1:([i]:List Nat).filter (λj=>decide (c5.getD (h*g.toNat+j) 0=s'))=[]:=by rw[au,qC (by rw[qG hc];decide)];rfl
   rw[aS,aT,f1,a9];exact⟨rfl,rfl⟩
 ·rintro c9 Hx ⟨rfl,rfl⟩;exact q D _ ⟨AI.new hD _,hD,AE⟩
theorem Wf:AJ ["one"] ["one"] (AG Tx):=BS
theorem Wg(T:A5 w K mg t) :Aa P w K mg base 1 t.f_82 ["one"] (GR):=by
 refine Ar T.d_82 Wf λvs H Q E h=>?_;obtain⟨r,g,lo,c5,m,rfl,ok,q⟩:=h;refine⟨rfl,λcb A outer s hr=>?_⟩;refine⟨_,(AF (AL (AK Bw (AT (Eb K) rfl T.z_len Za (AA (AH (BN K) (pv 0) AD (λ_ _=>rfl)) AB)) (AH (BN K) (pv 0) AD (λ_ _=>rfl))))),?_⟩;refine Ak.el ok.v λtb h1 h2=>?_;have g2:=ok.g2;have g9:=ok.g9;have m1:=ok.m1;have m8:=ok.m8;have hl:=ok.len;have sz:=ok.sz;have hlm:(c5.map V.int).length=c5.length:=ZM ..;walk_at "";refine (BU (Ao.of h1) rfl ?_);walk_at "";refine⟨_,.inr (Ao.of h2),BU (Ao.of h1) rfl ⟨g,rfl,by lia,by lia,?_⟩⟩
 have e:(((c5.map V.int).length:Nat):Int)/g=((c5.length/g.toNat:Nat):Int):=by rw[hlm,b8,aB (by lia)]
 rw[e];exact q
theorem FN:AJ ["one","row","signs","table","short","number","told","at","sign"] ["one","row"] (AG Tz):=BS
theorem Wh(T:A5 w K mg t)(G_76:Aa P w K mg base 2 t.f_76 ["one"] (CK)):Aa P w K mg base 3 t.f_85 ["one","row"] (Jm K):=by
 refine Ar T.d_85 FN λvs H Q E h=>?_;obtain⟨r,a,g,lo,c5,m,ns,rfl,g2,g9,hR,hl,m1,hS,hb,hn,q⟩:=h;refine⟨rfl,λcb A outer s hr=>?_⟩
 refine⟨_,(AC (AN 2 FN (AH (BN K) (pv 0) AD (λ_ _=>rfl)))
  (AC (AN 3 FN (AH (BN K) (pv 0) AD (λ_ _=>rfl)))
  (AC (AN 4 FN (AK BO (AV hr G_76 T.m_76 (AA (pv 0) AB)) AD))
  (AC (AN 5 FN AD)
  (AC (AN 6 FN (Ay AB))
  (AC (BB PassesOwn.never rfl (My rfl T.z_enumerate (AA (pv 1) AB)) (Li rfl (C5 (BR 7 FN) (C5 (BR 8 FN) JF))) (AC (AN 5 FN (AK At (AK Aw (AK Be (pv 5) (pv 2)) (pv 8)) (AT (Eb K) rfl T.z_len Za (AA (pv 3) AB))))
  (AF (Ai (AU SI (pv 7) (pv 4) (AY _)) (AF (Ax (QS K (pv 6) (AA (AH (BN K) (pv 3) (pv 5) (λ_ _=>rfl)) AB)))) AX))))
  (AF (AL (pv 6))))))))),?_⟩
 refine Ak.el hR λtb h1 h2=>?_;walk_at "";refine (BU (Ao.of h1) rfl ?_);walk_at "";refine (BU (Ao.of h1) rfl ?_);walk_at "";refine⟨r,g,lo,c5,m,rfl,g2,g9,hR,hl,?_⟩;walk_at "";refine⟨Zw _,λp hp=>?_⟩;have gp:=RW.A1 g2 m;refine⟨_,rfl,a,_,rfl,(AI.new hp _).seq hS,?_⟩;refine Kl (xs:=ns.map V.int) (λi σ H1=>(∃x7 x8,σ=[some (.ref r),some (.ref a),some (.int g),some (.ref tb),some (.int ((m:Int)-1)),some (.int (BZ g (ns.take i)%g^m)),some (.ref p),x7,x8])/\AI H H1/\H1 p=some (.lst (((List.range (i+1-m)).map (Rf g c5 m ns)).map V.int))) ⟨⟨none,none,by rw[List.take_zero];rfl⟩,AI.new hp _,by rw[AE,show 0+1-m=0 by lia];rfl⟩ (λi σ H1 _ z=>z.2.1.seq hS) ?_ ?_
 ·rintro i x p2 σ H1 hx ⟨⟨x7,x8,rfl⟩,e,hp1⟩ hp2;obtain⟨n,hn1,rfl⟩:=B3 hx;have hi:i<ns.length:=(ZW.mp hn1).1;have e2:AI H (Am H1 p2 (.tup [.int ((i:Nat):Int),.int n])):=e.trans (AI.new hp2 _);have hp3:=AI.new hp2 (.tup [.int ((i:Nat):Int),.int n]) _ _ hp1;refine⟨p2,_,rfl,Ao.of AE,rfl,_,_,rfl,_,_,rfl,rfl,?_⟩;walk_at "";have htl:((c5.map V.int).length:Int)=g^m:=by rw[ZM,hl]
  have hst:(BZ g (ns.take i)%g^m*g+n)%g^m=BZ g (ns.take (i+1))%g^m:=by rw[Po,Dg hn1]
  refine⟨.inr ⟨by lia,by lia⟩,_,.inr (Ao.of (e2 _ _ h2)),by lia,?_⟩;rw[htl,hst]
  by_cases hge:(m:Int)-1<=(i:Int)
  ·rw[qD hge];have hw:=Re g2 hb (k:=i+1-m) (m:=m) (by lia);rw[show i+1-m+m=i+1 by lia]at hw;have wi:=Pq g2 hb hl (k:=i+1-m) (by lia);rw[hw];refine⟨.inl ⟨_,Ac.of hp3⟩,BU (Ao.of (e2 _ _ h2)) (Bm wi.1 wi.2) ⟨_,hp3,?_,rfl,⟨_,rfl⟩,e2.into hp,?_⟩⟩
   ·rw[ZM,ZM,Zc];exact Ad (by lia)
   ·rw[AE,show i+1+1-m=(i+1-m)+1 by lia,As,Zf];rfl
  ·rw[qC hge];refine⟨rfl,⟨_,rfl⟩,e2,?_⟩;rw[hp3,show i+1-m=0 by lia,show i+1+1-m=0 by lia]
 ·rintro σ H1 ⟨⟨x7,x8,rfl⟩,e,hp1⟩;walk_at "";rw[ZM]at hp1;exact q p H1 ⟨e,hp,hp1⟩
theorem Qq:AJ ["one","ring","many","first"] ["one","ring"] (AG T0):=BS
theorem Wi(T:A5 w K mg t)(G_85:Aa P w K mg base 3 t.f_85 ["one","row"] (Jm K))(G_76:Aa P w K mg base 2 t.f_76 ["one"] (CK)):Aa P w K mg base 4 t.f_37 ["one","ring"] (EM K):=by
 refine Ar T.d_37 Qq λvs H Q E h=>?_;obtain⟨r,a,g,lo,c5,m,ns,rfl,g2,g9,hR,hl,m1,m8,hS,hb,n1,n8,q⟩:=h;refine⟨rfl,λcb A outer s hr=>?_⟩
 refine⟨_,(AC (AN 2 Qq (AT (Eb K) rfl T.z_len Za (AA (pv 1) AB)))
  (AC (AN 3 Qq (AK At (AH (BN K) (pv 0) AD (λ_ _=>rfl)) (pv 2)))
  (AF (AL (AV hr G_85 T.m_85 (AA (pv 0) (AA (Cm [(1,"ring"),(2,"many"),(3,"first")] [("ring",_),("many",_),("first",_)] (Aq rfl T.z_range (AA (AK BO (AK Aw (pv 2) (AV hr G_76 T.m_76 (AA (pv 0) AB))) AD) AB)) (λ_ _ _ _=>B5) (λ_ _ _ _=>(AH (Em (K:=K) rfl) (pv 1) (AK At (AK Aw (pv 3) (pv 0)) (pv 2)) (λ_ _=>rfl)))) AB))))))),?_⟩
 refine Ak.el hR λtb h1 h2=>?_;have hns:(ns.map V.int).length=ns.length:=ZM ..;walk_at "";refine⟨_,.inl hS,?_⟩;rw[hns];refine (BU (Ao.of h1) rfl ⟨lo,rfl,by lia,?_⟩);refine⟨_,rfl,_,rfl,r,g,lo,c5,m,rfl,g2,g9,hR,hl,_,_,rfl,rfl,_,_,rfl,rfl,_,rfl,by lia,by lia,λD hD=>?_⟩;rw[show ((ns.length:Int)+(m:Int)-1).toNat=ns.length+m-1 by lia];refine Bq (n:=ns.length+m-1) (λi c9 Hx=>c9=((List.range i).map λk:Nat=>Dl ns (lo%(ns.length:Int)+(k:Int))).map V.int/\Hx=Am H D (.lst c9)) ⟨rfl,rfl⟩ ?_ ?_
 ·refine ET ?_;rintro i _ hGo c9 Hx hi ⟨rfl,rfl⟩;refine hGo _ _ ?_;have rz:=NA (z:=lo%(ns.length:Int)+(i:Int)) n1;walk_at "";refine⟨by lia,?_⟩;rw[Z0];refine⟨a,_,_,_,rfl,rfl,(AI.new hD _).seq hS,Bm (by lia) rz.1,AE,?_,?_,by rw[BH]⟩
  ·rw[ZM,ZM,Zc];exact Ad (by lia)
  ·rw[As,Zf];rfl
 ·rintro c9 Hx ⟨rfl,rfl⟩;refine⟨r,D,g,lo,c5,m,Et lo m ns,rfl,g2,g9,hR.same (AI.new hD _),hl,m1,Ac.of AE,Pt g2 hb lo m,?_,λp H' hN=>?_⟩
  ·unfold Et;rw[ZM,Zc];lia
  ·rw[OJ g lo c5 ns m1]at hN;exact q p H' ⟨(AI.new hD _).trans hN.1,(AI.new hD _).free hN.2.1,hN.2.2⟩
theorem Wj:AJ ["one","row"] ["one","row"] (AG T1):=BS
theorem Wk(T:A5 w K mg t)(G_24:Aa P w K mg base 3 t.f_24 ["word","signs"] (DP K t.c_80))(G_85:Aa P w K mg base 3 t.f_85 ["one","row"] (Jm K)):Aa P w K mg base 4 t.f_89 ["one","row"] (Pr K t.c_80):=by
 refine BQ T.d_89 Wj λvs H Q E h=>?_;obtain⟨r,a,g,lo,c5,m,xs,rfl,g2,g9,hR,hl,m1,hS,kd,hn,h⟩:=h;refine⟨rfl,λcb A outer s hr=>?_⟩
 refine⟨_,(AC (Ax (AZ G_24 (hr.mono (by decide)) rfl T.m_24 AM (AA (pv 1) (AA (AH (BN K) (pv 0) AD (λ_ _=>rfl)) AB))))
  (AF (AL (AV hr G_85 T.m_85 (AA (pv 0) (AA (pv 1) AB)))))),?_⟩
 refine Ak.el hR λtb h1 h2=>?_;walk_at "";refine (BU (Ao.of h1) rfl ?_);walk_at "";refine⟨a,xs,g,rfl,hS,kd,?_⟩;cases hb:BK g xs with
 |some i =>
  rw[hb]at h;exact h
 |none =>
  rw[hb]at h;obtain⟨ns,rfl,hns⟩:=CC hb;rw[ZM]at hn;intro H1 e;exact⟨r,a,g,lo,c5,m,ns,rfl,g2,g9,hR.same e,hl,m1,e.seq hS,hns,hn,λp H' hN=>h ns rfl p H' ⟨e.trans hN.1,e.free hN.2.1,hN.2.2⟩⟩
theorem Nc:AJ ["one","ring","times","come","done"] ["one","ring","times"] (AG T3):=BS
theorem Wl(T:A5 w K mg t)(G_0:Aa P w K mg base 4 t.f_0 ["word","signs","fewest"] (DQ K t.c_80))(G_37:Aa P w K mg base 4 t.f_37 ["one","ring"] (EM K)):RY P w K mg base 5 t.f_81 ["one","ring","times"] (Jn K t.c_80) [.int 1]:=by
 obtain⟨tk,D⟩:=T.d_81;refine RZ (n:=2) D (.cons ⟨_,rfl⟩ .nil) Nc (λ_ _ _ _ _ _ _=>b3 λ_ _ _=>⟨_,rfl,rfl⟩) rfl (λ_ _ _ _ _ _ _=>b2 λ_ _=>⟨_,rfl,rfl⟩) (λvs H Q E h=>?_) (λcb A outer s H vs Q E hr h=>?_)
 ·obtain⟨r,a,g,lo,c5,m,xs,tm,rfl,g2,g9,hR,hl,m1,m8,tabb,hS,kd,hn,htm,h⟩:=h;rfl
 obtain⟨r,a,g,lo,c5,m,xs,tm,rfl,g2,g9,hR,hl,m1,m8,tabb,hS,kd,hn,htm,h⟩:=h
 refine⟨_,(AC (Ax (AZ G_0 (hr.mono (by decide)) rfl T.m_0 AM (AA (pv 1) (AA (AH (BN K) (pv 0) AD (λ_ _=>rfl)) (Ae AB)))))
  (AC (AN 3 Nc (Af JP rfl T.z_list be (AA (pv 1) AB)))
  (AC (PS.nox (BB PassesOwn.never rfl (Aq rfl T.z_range (AA (pv 2) AB)) (BR 4 Nc) (AF (AN 3 Nc (AV hr G_37 T.m_37 (AA (pv 0) (AA (pv 3) AB)))))))
  (AF (AL (pv 3)))))),?_⟩
 refine Ak.el hR λtb h1 h2=>?_;walk_at "";refine (BU (Ao.of h1) rfl ?_);refine⟨a,xs,g,1,rfl,hS,kd,?_⟩;cases hb:Bi g 1 xs with
 |some i =>
  rw[hb]at h;exact h
 |none =>
  rw[hb]at h;obtain⟨hbi,hlen⟩:=IA hb;obtain⟨ns,rfl,hns⟩:=CC hbi;rw[ZM]at hn hlen;intro H1 e1;refine⟨_,.inl (e1.seq hS),λp hp=>?_⟩;refine⟨_,rfl,_,rfl,by lia,by lia,?_⟩;refine A7 (n:=tm) (λi σ H2=>∃q' x4,σ=[some (.ref r),some (.ref a),some (.int ((tm:Nat):Int)),some (.ref q'),x4]/\EK H H2 q' (Gs g lo c5 m ns i)) ⟨p,none,rfl,e1.trans (AI.new hp _),e1.free hp,AE⟩ ?_ ?_
  ·refine C0 ?_;rintro _ _ i _ hGo σ H2 hi ⟨q',x4,rfl,hN⟩;refine hGo _ _ ?_;walk_at "";refine⟨r,q',g,lo,c5,m,Gs g lo c5 m ns i,rfl,g2,g9,hR.same hN.1,hl,m1,m8,Ac.of hN.2.2,Pu g2 lo tabb m hns i,by rw[Fc];exact hlen,by rw[Fc];exact hn,λp2 H3 hN2=>?_⟩;exact⟨p2,rfl,hN.1.trans hN2.1,hN.1.free hN2.2.1,hN2.2.2⟩
  ·rintro σ H2 ⟨q',x4,rfl,hN⟩;walk_at "";exact h ns rfl q' H2 hN
theorem Wm:AJ ["one","ring"] ["one","ring"] (AG T4):=BS
theorem Wn(T:A5 w K mg t)(G_81:RY P w K mg base 5 t.f_81 ["one","ring","times"] (Jn K t.c_80) [.int 1]):Aa P w K mg base 6 t.f_56 ["one","ring"] (Fd K t.c_80):=by refine BQ T.d_56 Wm λvs H Q E h=>?_;obtain⟨r,a,g,lo,c5,m,xs,rfl,g2,g9,hR,hl,m1,m8,tabb,hS,kd,hn,h⟩:=h;refine⟨rfl,λcb A outer s hr=>?_⟩;refine⟨_,(AF (AL (Pg G_81 (hr.mono (by decide)) rfl T.m_81 AM (AA (pv 0) (AA (pv 1) AB))))),?_⟩;walk_at "";refine⟨r,a,g,lo,c5,m,xs,1,rfl,g2,g9,hR,hl,m1,m8,tabb,hS,kd,hn,by decide,?_⟩;exact h
theorem Wo:AJ ["one","fitting","ways"] ["one","fitting","ways"] (AG T5):=BS
theorem Wp(T:A5 w K mg t)(G_82:Aa P w K mg base 1 t.f_82 ["one"] (GR)):Aa P w K mg base 2 t.f_77 ["one","fitting","ways"] (G0):=by
 refine Ar T.d_77 Wo λvs H Q E h=>?_;obtain⟨r,f,w',g,lo,c5,m,fs,ws,rfl,ok,hf,fl,hw,wl,q⟩:=h;refine⟨rfl,λcb A outer s hr=>?_⟩;refine⟨_,(AF (AL (Cm [(2,"ways"),(0,"one")] [("ways",_),("one",_)] (Qw K (pv 1)) (λ_ _ _ _=>B5) (λ_ _ _ _=>(AH (Em (K:=K) rfl) (pv 1) (AK At (pv 0) (AV hr G_82 T.m_82 (AA (pv 2) AB))) (λ_ _=>rfl)))))),?_⟩;refine Ak.el ok.v λtb h1 h2=>?_;have g2:=ok.g2;have g9:=ok.g9;have m1:=ok.m1;have m8:=ok.m8;have hl:=ok.len;have sz:=ok.sz;have hlm:(c5.map V.int).length=c5.length:=ZM ..;have hd:=Ev g2 hl m1;have hp:=RW.A1 g2 (m-1);have hp2:0<c5.length/g.toNat:=by lia
 walk_at "";refine⟨_,rfl,f,rfl,⟨_,Ac.of hf⟩,λD hD=>?_⟩;refine Dw (xs:=(CN fs).map V.int) (λi c9 Hx=>c9=((fs.take i).map λn=>ws.getD (n%(c5.length/g.toNat)) 0).map V.int/\Hx=Am H D (.lst c9)) ⟨rfl,rfl⟩ (λi c9 Hx _ z=>by rw[z.2];exact Ac.of (AI.new hD _ _ _ hf)) ?_ ?_
 ·refine KA ?_;rintro i x _ hGo c9 Hx hx ⟨rfl,rfl⟩;refine hGo _ _ ?_;obtain⟨v,hv,rfl⟩:=B3 hx
  obtain⟨n,hn,rfl⟩:∃n:Nat,fs[i]?=some n/\v=(n:Int):=by
   unfold CN at hv;rw[Zk]at hv;cases z:fs[i]? with
   |none=>rw[z]at hv;cases hv
   |some n=>rw[z]at hv;exact⟨n,rfl,(Option.some.inj hv).symm⟩
  have en:=AI.new hD (.lst (((fs.take i).map λn=>ws.getD (n%(c5.length/g.toNat)) 0).map V.int));have md:(n:Int)%((c5.length/g.toNat:Nat):Int)=((n%(c5.length/g.toNat):Nat):Int):=(Int.natCast_emod ..).symm;have lt:=Nat.mod_lt n hp2;walk_at "";refine⟨r,g,lo,c5,m,rfl,ok.same en,_,rfl,by lia,?_⟩;rw[md];refine (Bu (Ac.of (en _ _ hw)) (D9 (by lia)) ⟨AE,?_,?_,by rw[BH]⟩)
  ·rw[ZM,ZM,Zt];exact Ad (by lia)
  ·rw[aE,hn];simp
 rintro c9 Hx ⟨rfl,rfl⟩;have lf:((CN fs).map V.int).length=fs.length:=by unfold CN;rw[List.length_map,List.length_map]
 rw[lf,Zx];exact q D _ ⟨AI.new hD _,hD,AE⟩
theorem Nd:AJ ["one","row","ways","sign","ends"] ["one","row"] (AG T6):=BS
theorem Wq(T:A5 w K mg t)(G_82:Aa P w K mg base 1 t.f_82 ["one"] (GR))(G_77:Aa P w K mg base 2 t.f_77 ["one","fitting","ways"] (G0))(G_47:Aa P w K mg base 1 t.f_47 ["one","head","sign"] (MR)):Aa P w K mg base 3 t.f_68 ["one","row"] (MS K):=by
 refine Ar T.d_68 Nd λvs H Q E h=>?_;obtain⟨r,a,g,lo,c5,m,ns,rfl,ok,hS,hn,q⟩:=h;refine⟨rfl,λcb A outer s hr=>?_⟩
 refine⟨_,(AC (AN 2 Nd (Ay (AA (AK JR (Ay (Ae AB)) (AV hr G_82 T.m_82 (AA (pv 0) AB))) AB)))
  (AC (BB PassesOwn.never rfl (TN rfl T.z_reversed (AA (pv 1) AB)) (BR 3 Nd) (AC (AN 4 Nd (AH (Bk K) (pv 2) (Ka Gd AD) (λ_ _=>rfl)))
  (AF (Ax (QS K (pv 2) (AA (Cm [(3,"sign"),(0,"one"),(4,"ends")] [("sign",_),("one",_),("ends",_)] (Aq rfl T.z_range (AA (AV hr G_82 T.m_82 (AA (pv 0) AB)) AB)) (λ_ _ _ _=>B5) (λ_ _ _ _=>(AT (MV (K:=K) rfl rfl) rfl T.z_sum bv (AA (AV hr G_77 T.m_77 (AA (pv 2) (AA (AV hr G_47 T.m_47 (AA (pv 2) (AA (pv 0) (AA (pv 1) AB)))) (AA (pv 3) AB)))) AB)))) AB))))))
  (AF (AL (Ej rfl rfl T.z_reversed rfl T.z_list (AA (pv 2) AB)))))),?_⟩
 refine Ak.el ok.v λtb h1 h2=>?_;have g2:=ok.g2;have g9:=ok.g9;have m1:=ok.m1;have m8:=ok.m8;have hl:=ok.len;have sz:=ok.sz;have hlm:(c5.map V.int).length=c5.length:=ZM ..;have hd:=Ev g2 hl m1;have hp:=RW.A1 g2 (m-1);have hm1:=BE g2 (show m-1<=m by lia);walk_at "";refine⟨by decide,λp1 hp1=>?_⟩;have f1:=AI.new hp1 (.lst [V.int 1]);refine⟨r,g,lo,c5,m,rfl,ok.same f1,?_⟩;refine GM AE (by lia) (by lia) λp2 H2 f2 n2 h2'=>⟨by decide,λpw hpw=>?_⟩
 rw[Zh]at h2';have f3:=AI.new hpw (.lst [.ref p2])
 have c0:H2 p2=some (.lst ((Fg g.toNat c5 []).map V.int)):=by
  rw[h2']
  congr 2
  unfold Fg;rw[bq]
  symm
  rw[bD];refine⟨by rw[ZM,Zc],λb hb=>?_⟩;obtain⟨x,_,e⟩:=Zs.mp hb;rw[<-e];rfl
 have sA:AI H (Am H2 pw (.lst [.ref p2])):=(f1.trans f2).trans f3;have npw:H pw=none:=(f1.trans f2).free hpw;refine⟨_,rfl,a,_,rfl,sA.seq hS,?_⟩;refine RJ (xs:=ns.map V.int) (λi σ H3=>∃(ps:List qM) (x3 x4:Option V),σ=[some (.ref r),some (.ref a),some (.ref pw),x3,x4]/\AI H H3/\H3 pw=some (.lst (ps.map V.ref))/\ps.length=i+1/\∀(j:Nat) (q':qM),ps[j]?=some q'->H3 q'=some (.lst ((Fg g.toNat c5 (ns.drop (ns.length-j))).map V.int))) ⟨[p2],none,none,rfl,sA,AE,rfl,λj q' hq=>?_⟩ (λi σ H3 _ z=>by obtain⟨_,_,_,_,e,_⟩:=z;exact e.seq hS) ?_ ?_
 ·have hj:j=0:=by
   have:=(ZW.mp hq).1;simpa using this
  subst hj;have:q'=p2:=by simpa using hq.symm
  subst this;rw[Nat.sub_zero,List.drop_length];exact f3 _ _ c0
 ·rintro i x σ H3 hx ⟨ps,x3,x4,rfl,e3,hpw3,pl,hps⟩;rw[<-aV]at hx;obtain⟨sg,hsg,rfl⟩:=B3 hx;walk_at "";have il:i<ns.length:=by have:=(ZW.mp hsg).1;rw[aG]at this;exact this
  have dr:ns.drop (ns.length-(i+1))=sg::ns.drop (ns.length-i):=by rw[bo il]at hsg;obtain⟨hlt,hget⟩:=ZW.mp hsg;rw[show ns.length-(i+1)=ns.length-1-i by lia,aj hlt,hget,show ns.length-1-i+1=ns.length-i by lia]
  obtain⟨q0,hq0⟩:∃q0,ps[i]?=some q0:=⟨ps[i],ZP (by lia)⟩;have hv0:=hps i q0 hq0
  have la:Fu (ps.map V.ref) (-1)=some (V.ref q0):=by
   have z:Le (ps.map V.ref).length (-1)=some i:=by
    unfold Le;rw[ZM,qC (by decide),qD (by lia)]
    congr 1
    lia
   unfold Fu;rw[z];show (ps.map V.ref)[i]?=_;rw[Zk,hq0];rfl
  refine (Bu (Ac.of hpw3) la ⟨.inl ⟨_,Ac.of hpw3⟩,?_⟩);refine⟨_,rfl,r,g,lo,c5,m,rfl,ok.same e3,_,rfl,by lia,by lia,λD hD=>?_⟩;rw[Zh]
  have hne:D≠pw:=λz=>by rw[z,hpw3]at hD;cases hD
  refine Bq (n:=c5.length/g.toNat) (λk c9 Hx=>c9=((List.range k).map (IB g.toNat c5 (sg::ns.drop (ns.length-i)))).map V.int/\AI H3 Hx/\Hx D=some (.lst c9)) ⟨rfl,AI.new hD _,AE⟩ ?_ ?_
  ·refine ET ?_;rintro k _ hGo c9 Hx hk ⟨rfl,ex,hDx⟩;refine hGo _ _ ?_;walk_at "";refine⟨r,g,lo,c5,m,k,sg,by rw[Z0],ok.same (e3.trans ex),hk,λp5 H5 hN5=>?_⟩;have fl:(F0 g.toNat c5 k sg).length<=9:=by unfold F0;rw[ZM];have:=aH (λj=>decide (c5.getD (k*g.toNat+j) 0=sg)) (List.range g.toNat);rw[Zc]at this;lia
   refine⟨r,p5,q0,g,lo,c5,m,F0 g.toNat c5 k sg,Fg g.toNat c5 (ns.drop (ns.length-i)),rfl,ok.same ((e3.trans ex).trans hN5.1),hN5.2.2,by lia,hN5.1 _ _ (ex _ _ hv0),P8 ..,λp6 H6 hN6=>?_⟩
   have sumE:((F0 g.toNat c5 k sg).map λn=>(Fg g.toNat c5 (ns.drop (ns.length-i))).getD (n%(c5.length/g.toNat)) 0).sum=IB g.toNat c5 (sg::ns.drop (ns.length-i)) k:=by
    rw[<-P7]
    congr 1
    refine aA λn _=>QA (Nat.mod_lt _ (by lia))
   refine⟨p6,rfl,_,Ac.of hN6.2.2,hN6.1 _ _ (hN5.1 _ _ hDx),?_,?_,((ex.trans hN5.1).trans hN6.1).into hD,AE⟩
   ·rw[ZM,ZM,Zc];exact Ad (by lia)
   ·rw[sumE,As,Zf];rfl
  ·rintro c9 Hx ⟨rfl,ex,hDx⟩;refine⟨_,ex _ _ hpw3,?_,(e3.trans ex).into npw,ps++[D],?_,?_,λj q' hq=>?_⟩
   ·rw[ZM];exact Ad (by lia)
   ·rw[AE,Zf];rfl
   ·rw[Zg,pl];rfl
   ·by_cases hj:j<ps.length
    ·rw[bN hj]at hq;have hh:=hps j q' hq
     have:q'≠pw:=λz=>by
      rw[z,hpw3]at hh;have z2:=HO.lst.inj (Option.some.inj hh);have e1:(ps.map V.ref)[i]?=some (V.ref q0):=by rw[Zk,hq0];rfl
      rw[z2,Zk]at e1;cases hz:(Fg g.toNat c5 (ns.drop (ns.length-j)))[i]? with
      |none=>rw[hz]at e1;cases e1
      |some c=>rw[hz]at e1;cases e1
     rw[AR this];exact ex _ _ hh
    ·have hj2:=(ZW.mp hq).1;rw[Zg]at hj2;have hj3:j=i+1:=by simp only[List.length_cons,List.length_nil]at hj2;lia
     subst hj3;rw[af (by lia),pl,Nat.sub_self]at hq;have:q'=D:=(Option.some.inj hq).symm;subst this;rw[AR hne,hDx,dr];rfl
 ·rintro σ H3 ⟨ps,x3,x4,rfl,e3,hpw3,pl,hps⟩;walk_at "";refine⟨_,Ac.of hpw3,λp9 hp9=>?_⟩;have f9:=AI.new hp9 (.lst (ps.map V.ref).reverse);rw[ZM]at pl;refine q p9 _ (e3.trans f9) (e3.free hp9) ⟨ps.reverse,by rw[AE,aV],by rw[aG,pl],λk q' hq=>?_⟩;have kl:=(ZW.mp hq).1;rw[aG]at kl;rw[bo kl]at hq;have hh:=hps _ q' hq;rw[show ns.length-(ps.length-1-k)=k by lia]at hh;exact f9 _ _ hh
theorem Wr:AJ ["one","row"] ["one","row"] (AG T7):=BS
theorem Ws(T:A5 w K mg t)(G_24:Aa P w K mg base 3 t.f_24 ["word","signs"] (DP K t.c_80))(G_68:Aa P w K mg base 3 t.f_68 ["one","row"] (MS K)):Aa P w K mg base 4 t.f_17 ["one","row"] (MT K t.c_80):=by
 refine BQ T.d_17 Wr λvs H Q E h=>?_;obtain⟨r,a,g,lo,c5,m,xs,rfl,ok,hS,kd,hn,h⟩:=h;refine⟨rfl,λcb A outer s hr=>?_⟩
 refine⟨_,(AC (Ax (AZ G_24 (hr.mono (by decide)) rfl T.m_24 AM (AA (pv 1) (AA (AH (BN K) (pv 0) AD (λ_ _=>rfl)) AB))))
  (AF (AL (AT (Dh rfl) rfl T.z_sum bv (AA (AH (Bk K) (AV hr G_68 T.m_68 (AA (pv 0) (AA (pv 1) AB))) AD (λ_ _=>rfl)) AB))))),?_⟩
 refine Ak.el ok.v λtb h1 h2=>?_;walk_at "";refine (BU (Ao.of h1) rfl ⟨a,xs,g,rfl,hS,kd,?_⟩);cases hb:BK g xs with
 |some i =>
  rw[hb]at h;exact h
 |none =>
  rw[hb]at h;obtain⟨ns,rfl,hns⟩:=CC hb;rw[ZM]at hn;intro H1 e1;refine⟨r,a,g,lo,c5,m,ns,rfl,ok.same e1,e1.seq hS,hn,λp H2 e2 hp hW=>?_⟩;obtain⟨ps,hp2,pl,hps⟩:=hW;obtain⟨q0,hq0⟩:∃q0,ps[0]?=some q0:=⟨ps[0],ZP (by lia)⟩;have hv:=hps 0 q0 hq0;rw[List.drop_zero]at hv;refine (Bu (v:=.ref q0) (Ac.of hp2) ?_ ⟨q0,rfl,Fg g.toNat c5 ns,Ac.of hv,?_⟩)
  ·exact Ct (by rw[Zk,hq0];rfl)
  ·rw[P9];exact h ns rfl H2 (e1.trans e2)
theorem LY:AJ ["one","weight","table","number","told","there"] ["one","weight"] (AG T8):=BS
theorem Wt(T:A5 w K mg t) :Aa P w K mg base 1 t.f_74 ["one","weight"] (Gv):=by
 refine Ar T.d_74 LY λvs H Q E h=>?_;obtain⟨r,g,lo,c5,wt,rfl,g2,g9,hR,w0,w3,tl,q⟩:=h;refine⟨rfl,λcb A outer s hr=>?_⟩
 refine⟨_,(AC (AN 2 LY (AH (BN K) (pv 0) AD (λ_ _=>rfl)))
  (AC (BB PassesOwn.never rfl (Pj rfl T.z_enumerate (AA (pv 2) AB)) (Li rfl (C5 (BR 3 LY) (C5 (BR 4 LY) JF))) (AC (AN 5 LY (AK At (AK Bw (pv 3) (pv 1)) (AH (BN K) (pv 0) AD (λ_ _=>rfl))))
  (AF (Ai (AU Ef (pv 4) (AH (BN K) (pv 2) (AK BO (pv 3) (AK Be (pv 5) (pv 1))) (λ_ _=>rfl)) (AY _)) (AF (AL D6)) AX))))
  (AF (AL D6)))),?_⟩
 refine Ak.el hR λtb h1 h2=>?_;walk_at "";refine (BU (Ao.of h1) rfl ?_);walk_at "";refine⟨_,rfl,tb,_,rfl,Ao.of h2,?_⟩;refine OG (xs:=c5.map V.int) (λi σ H1=>(∃x3 x4 x5,σ=[some (.ref r),some (.int wt),some (.ref tb),x3,x4,x5])/\AI H H1/\∀k,k<i->c5.getD k 0=c5.getD ((k:Int)-(k:Int)/wt%g*wt).toNat 0) ⟨⟨none,none,none,rfl⟩,AI.refl _,λk hk=>qE hk (cD _)⟩ (λi σ H1 _ z=>Ao.of (z.2.1 _ _ h2)) ?_ ?_
 ·rintro i x p2 σ H1 hx ⟨⟨x3,x4,x5,rfl⟩,e,hall⟩ hp2;obtain⟨n,hn,rfl⟩:=B3 hx;have hi:i<c5.length:=(ZW.mp hn).1;have e2:AI H (Am H1 p2 (.tup [.int ((i:Nat):Int),.int n])):=e.trans (AI.new hp2 _);refine⟨p2,_,rfl,Ao.of AE,rfl,_,_,rfl,_,_,rfl,rfl,?_⟩;walk_at "";have ix:=Pw (k:=(i:Int)) (w:=wt) (g:=g) (by lia) w0 g2;have gA:=Bm (ns:=c5) ix.1 (by lia);have ng:n=c5.getD i 0:=by rw[ZQ,hn];rfl
  refine⟨w0,by lia,BU (Ao.of (e2 _ _ h1)) rfl ⟨g,rfl,by lia,.inr ⟨by lia,by lia⟩,BU (Ao.of (e2 _ _ h2)) gA ⟨rfl,?_⟩⟩⟩
  by_cases hd:V.int n=V.int (c5.getD ((i:Int)-(i:Int)/wt%g*wt).toNat 0)
  ·rw[qC (λz=>z hd)];refine⟨⟨_,rfl⟩,e2,λk hk=>?_⟩
   by_cases z:k=i
   ·subst z;rw[<-ng];exact V.int.inj hd
   ·exact hall k (by lia)
  ·rw[qD hd];have z:BG g c5 wt=true:=DB.mpr ⟨i,hi,λy=>hd (by rw[ng,y])⟩;rw[z]at q;exact q _ e2
 ·rintro σ H1 ⟨⟨x3,x4,x5,rfl⟩,e,hall⟩;walk_at "";rw[ZM]at hall
  have z:BG g c5 wt=false:=by
   cases z:BG g c5 wt with
   |false=>rfl
   |true =>
    obtain⟨k,hk,h⟩:=DB.mp z;exact qE (hall k hk) h
  rw[z]at q;exact q H1 e
theorem LZ:AJ ["one","found","weight","at"] ["one"] (AG T9):=BS
theorem Wu(T:A5 w K mg t)(G_76:Aa P w K mg base 2 t.f_76 ["one"] (CK))(G_74:Aa P w K mg base 1 t.f_74 ["one","weight"] (Gv)):Aa P w K mg base 3 t.f_54 ["one"] (EN):=by
 refine Ar T.d_54 LZ λvs H Q E h=>?_;obtain⟨r,g,lo,c5,m,rfl,g2,g9,hR,hl,m1,m8,gm,q⟩:=h;refine⟨rfl,λcb A outer s hr=>?_⟩
 refine⟨_,(AC (AN 1 LZ (Ay AB))
  (AC (AN 2 LZ (AT (Eb K) rfl T.z_len Za (AA (AH (BN K) (pv 0) AD (λ_ _=>rfl)) AB)))
  (AC (BB PassesOwn.never rfl (Aq rfl T.z_range (AA (AV hr G_76 T.m_76 (AA (pv 0) AB)) AB)) (BR 3 LZ) (AC (AN 2 LZ (AK Bw (pv 2) (AH (BN K) (pv 0) AD (λ_ _=>rfl))))
  (AF (Ai (Bc (AV hr G_74 T.m_74 (AA (pv 0) (AA (pv 2) AB)))) (AF (Ax (QS K (pv 1) (AA (AK Aw (AH (BN K) (pv 0) AD (λ_ _=>rfl)) (pv 3)) AB)))) AX))))
  (AF (AL (pv 1)))))),?_⟩
 refine Ak.el hR λtb h1 h2=>?_;walk_at "";refine⟨Zw _,λp hp=>?_⟩;have e0:=AI.new hp (.lst []);refine (BU (Ao.of (e0 _ _ h1)) rfl ?_);walk_at "";refine⟨_,.inr (Ao.of (e0 _ _ h2)),?_⟩;rw[ZM];refine⟨_,rfl,r,g,lo,c5,m,rfl,g2,g9,hR.same e0,hl,_,rfl,by lia,by lia,?_⟩;refine A7 (n:=m) (λi σ H1=>∃x3,σ=[some (.ref r),some (.ref p),some (.int (g^(m-i))),x3]/\AI H H1/\H1 p=some (.lst ((((List.range i).filter λj=>BG g c5 (g^(m-1-j))).map λj:Nat=>lo+(j:Int)).map V.int))) ⟨none,by rw[hl,Nat.sub_zero],e0,AE⟩ ?_ ?_
 ·refine C0 ?_;rintro _ _ i _ hGo σ H1 hi ⟨x3,rfl,e,hp1⟩;refine hGo _ _ ?_;have dv:g^(m-i)/g=g^(m-1-i):=by rw[show m-i=(m-1-i)+1 by lia,Z2,Int.mul_ediv_cancel _ (by lia)]
  have gp:=RW.A1 g2 (m-1-i);have gb:=BE g2 (show m-1-i<=m by lia);walk_at "";refine (BU (Ao.of (e _ _ h1)) rfl ?_);walk_at "";rw[dv];refine⟨by lia,by lia,r,g,lo,c5,_,rfl,g2,g9,hR.same e,gp,by lia,by lia,λH2 e2=>?_⟩;have e3:=e.trans e2;refine⟨_,rfl,?_⟩;cases hc:BG g c5 (g^(m-1-i)) with
  |true =>
   rw[qD rfl];refine⟨.inl ⟨_,Ac.of (e2 _ _ hp1)⟩,BU (Ao.of (e3 _ _ h1)) rfl ⟨lo,rfl,_,e2 _ _ hp1,?_,by rw[show m-(i+1)=m-1-i by lia],e3.into hp,?_⟩⟩
   ·rw[ZM,ZM];have:=aH (λj=>BG g c5 (g^(m-1-j))) (List.range i);rw[Zc]at this;exact Ad (by lia)
   ·rw[AE,aS,aT,Zf,Zf,Z0];simp[List.filter,hc]
  |false =>
   rw[qC (by decide)];refine⟨by rw[show m-(i+1)=m-1-i by lia],e3,?_⟩;rw[e2 _ _ hp1,aS,aT];simp[List.filter,hc]
 ·rintro σ H1 ⟨x3,rfl,e,hp1⟩;walk_at "";exact q p H1 ⟨e,hp,hp1⟩
theorem Yq:AJ ["word","at"] ["word","at"] (AG Yc):=BS
theorem Yr(T:A5 w K mg t) :Aa P w K mg base 1 t.f_1 ["word","at"] (G2 K):=by
 refine Ar T.d_1 Yq λvs H Q E h=>?_;obtain⟨a,v,z,rfl,hS,q⟩:=h;refine⟨rfl,λcb A outer s hr=>?_⟩
 refine⟨_,(AC (Ai (PW.pt (DY (AU Dc (pv 1) AD (AY _)) (DH (AU SI (pv 1) (AT (Eb K) rfl T.z_len Za (AA (pv 0) AB)) (AY _))))) (AF (AL AD)) AX)
  (AF (AL (AH (Bk K) (pv 0) (pv 1) (λ_ _=>rfl))))),?_⟩
 have hlm:(v.map V.int).length=v.length:=ZM ..;unfold sn at q;walk_at ""
 by_cases h0:z<0
 ·rw[qD (.inl h0)]at q;rw[qD h0];exact q
 rw[qC h0];refine⟨_,.inl hS,?_⟩;rw[hlm]
 by_cases h1:(v.length:Int)<=z
 ·rw[qD (.inr h1)]at q;rw[qD h1];exact q
 rw[qC h1];rw[qC (by lia)]at q;exact⟨a,_,_,_,rfl,rfl,hS,Bm (by lia) (by lia),q⟩
theorem La:AJ ["one","low","many","ahead","table","number","word"] ["one","low","many"] (AG UA):=BS
theorem Wv(T:A5 w K mg t)(G_86:Er P w K mg base 4 t.f_86 ["signs","low","table"] (EJ t.c_71))(G_9:Aa P w K mg base 1 t.f_9 ["signs","many"] (MG))(G_69:Er P w K mg base 1 t.f_69 ["number","signs","many"] (Jj t.c_72))(G_38:Aa P w K mg base 5 t.f_38 ["one","word"] (Jg K t.c_80))(G_1:Aa P w K mg base 1 t.f_1 ["word","at"] (G2 K))(G_76:Aa P w K mg base 2 t.f_76 ["one"] (CK)):Aa P w K mg base 6 t.f_36 ["one","low","many"] (Js):=by
 refine Ar T.d_36 La λvs H Q E h=>?_;obtain⟨r,g,lo,c5,m,low,M,rfl,ok,M1,gM,q⟩:=h;refine⟨rfl,λcb A outer s hr=>?_⟩
 refine⟨_,(AC (AN 3 La (AK BO (AH (BN K) (pv 0) AD (λ_ _=>rfl)) (pv 1)))
  (AC (AN 4 La (Ay AB))
  (AC (BB PassesOwn.never rfl (Aq rfl T.z_range (AA (AV hr G_9 T.m_9 (AA (AH (BN K) (pv 0) AD (λ_ _=>rfl)) (AA (pv 2) AB))) AB)) (BR 5 La) (AC (AN 6 La (CJ G_69 (hr.mono (by decide)) rfl T.m_69 G1 (AA (pv 5) (AA (AH (BN K) (pv 0) AD (λ_ _=>rfl)) (AA (pv 2) AB)))))
  (AF (Ax (QS K (pv 4) (AA (AV hr G_38 T.m_38 (AA (pv 0) (AA (Cm [(6,"word"),(3,"ahead")] [("word",_),("ahead",_)] (Aq rfl T.z_range (AA (AV hr G_76 T.m_76 (AA (pv 0) AB)) AB)) (λ_ _ _ _=>B5) (λ_ _ _ _=>(AV hr G_1 T.m_1 (AA (pv 1) (AA (AK Aw (pv 2) (pv 0)) AB))))) AB))) AB))))))
  (AF (AL (CJ G_86 (hr.mono (by decide)) rfl T.m_86 G1 (AA (AH (BN K) (pv 0) AD (λ_ _=>rfl)) (AA (pv 1) (AA (pv 4) AB))))))))),?_⟩
 refine Ak.el ok.v λtb h1 h2=>?_;have g2:=ok.g2;have g9:=ok.g9;have m8:=ok.m8;have hl:=ok.len;have gp:=RW.A1 g2 M;have M8:=Ew g2 gM;walk_at "";refine (BU (Ao.of h1) rfl ⟨lo,rfl,Zw _,λp hp=>?_⟩);have e0:=AI.new hp (.lst []);refine⟨_,rfl,r,_,0,_,rfl,rfl,Ao.of (e0 _ _ h1),rfl,_,rfl,?_⟩;refine⟨g,_,rfl,g2,g9,by lia,λ_=>?_,λz=>qE z (by rw[Zh];lia)⟩;rw[Zh];refine⟨_,rfl,by lia,by lia,?_⟩;refine A7 (n:=(g^M).toNat) (λi σ H1=>∃x5 x6,σ=[some (.ref r),some (.int low),some (.int ((M:Nat):Int)),some (.int (lo-low)),some (.ref p),x5,x6]/\AI H H1/\H1 p=some (.lst (((List.range i).map λn:Nat=>c5.getD (BZ g (Lf (B6 g (n:Int) M) (lo-low) m)).toNat 0).map V.int))) ⟨none,none,rfl,e0,AE⟩ ?_ ?_
 ·refine C0 ?_;rintro _ _ i _ hGo σ H1 hi ⟨x5,x6,rfl,e,hp1⟩;refine hGo _ _ ?_;walk_at "";refine (BU (Ao.of (e _ _ h1)) rfl ⟨_,g,_,rfl,g2,g9,by lia,by lia,λz=>qE z (by rw[Zh];lia),λ_ _ pw H2 hN2=>?_⟩);rw[Zh,Z0]at hN2;have e2:=e.trans hN2.1;have hp2:=hN2.1 _ _ hp1;refine⟨.inl ⟨_,Ac.of hp2⟩,?_⟩;refine⟨_,rfl,r,g,lo,c5,m,rfl,g2,g9,ok.v.same e2,hl,_,rfl,by lia,by lia,λD hD=>?_⟩;rw[Zh];have hw2:H2 pw=some (.lst ((B6 g (i:Int) M).map V.int)):=hN2.2.2;refine Bq (n:=m) (λj c9 Hx=>c9=((List.range j).map λk:Nat=>sn (B6 g (i:Int) M) (lo-low+(k:Int))).map V.int/\Hx=Am H2 D (.lst c9)) ⟨rfl,rfl⟩ ?_ ?_
  ·refine ET ?_;rintro j _ hGo c9 Hx hj ⟨rfl,rfl⟩;refine hGo _ _ ?_;walk_at "";rw[Z0];refine⟨pw,_,_,rfl,Ac.of (AI.new hD _ _ _ hw2),AE,?_,?_,by rw[BH]⟩
   ·rw[ZM,ZM,Zc];exact Ad (by lia)
   ·rw[As,Zf];rfl
  ·rintro c9 Hx ⟨rfl,rfl⟩;have en:=AI.new hD (.lst ((Lf (B6 g (i:Int) M) (lo-low) m).map V.int));have bb:=MK g2 (Gu g2 (i:Int) M) (lo-low) m;have bl:=Fx bb;rw[DR]at bl;refine⟨r,D,g,lo,c5,m,(Lf (B6 g (i:Int) M) (lo-low) m).map V.int,rfl,g2,g9,(ok.v.same e2).same en,hl,Ac.of AE,CU,?_⟩;rw[bl];intro ms hms H4 e4;have:=B2 hms;subst this;have e24:=en.trans e4;refine⟨_,e24 _ _ hp2,?_,(e2.trans e24).into hp,?_⟩
   ·rw[ZM,ZM,Zc];exact Ad (by lia)
   ·rw[AE,As,Zf];rfl
 ·rintro σ H1 ⟨x5,x6,rfl,e,hp1⟩;walk_at "";refine (BU (Ao.of (e _ _ h1)) rfl ?_);exact Fi (c5:=GQ g lo c5 m low M) g2 g9 M1 (Cw g2 _ _ _ _ _) gM (Pz g2 _ ok.tb _ _ _) (.inl hp1) λr' H' e' hR=>q r' H' (e.trans e') (ok.bw M1 gM hR)
theorem Sk:AJ ["one","found"] ["one"] (AG UB):=BS
theorem Ww(T:A5 w K mg t)(G_54:Aa P w K mg base 3 t.f_54 ["one"] (EN))(G_36:Aa P w K mg base 6 t.f_36 ["one","low","many"] (Js)):Aa P w K mg base 7 t.f_75 ["one"] (DC):=by
 refine Ar T.d_75 Sk λvs H Q E h=>?_;obtain⟨r,g,lo,c5,m,rfl,ok,q⟩:=h;refine⟨rfl,λcb A outer s hr=>?_⟩
 refine⟨_,(AC (AN 1 Sk (AV hr G_54 T.m_54 (AA (pv 0) AB)))
  (AC (Ai (AU BY (AT (Eb K) rfl T.z_len Za (AA (pv 1) AB)) AD (AY _)) (AF (AL (AV hr G_36 T.m_36 (AA (pv 0) (Ae (Ae AB)))))) AX)
  (AF (AL (AV hr G_36 T.m_36 (AA (pv 0) (AA (AH (Bk K) (pv 1) AD (λ_ _=>rfl)) (AA (AK Aw (AK BO (AH (Bk K) (pv 1) (Ka Gd AD) (λ_ _=>rfl)) (AH (Bk K) (pv 1) AD (λ_ _=>rfl))) AD) AB)))))))),?_⟩
 have g2:=ok.g2;have g9:=ok.g9;have m1:=ok.m1;have m8:=ok.m8;have sz:=ok.sz;walk_at "";refine⟨r,g,lo,c5,m,rfl,g2,g9,ok.v,ok.len,m1,m8,sz,λp H1 hN1=>?_⟩;have hcl:((Br g lo c5 m).map V.int).length=(Br g lo c5 m).length:=ZM ..;walk_at "";refine⟨_,.inl (Ac.of hN1.2.2),?_⟩;rw[hcl]
 by_cases hc:Br g lo c5 m=[]
 ·rw[qD (by rw[hc];rfl)];have g1:g^1=g:=by rw[Z2,aM,Int.one_mul]
  exact⟨r,g,lo,c5,m,0,1,rfl,ok.same hN1.1,ZR _,by lia,λr' H' e' ok'=>q 0 1 (P1 hc) r' H' (hN1.1.trans e') ok'⟩
 ·obtain⟨M,hM,hMm,hW⟩:=ON hc;have hp0:0<(Br g lo c5 m).length:=ap.mpr hc;rw[qC (by lia)];have gM:=BE g2 hMm;refine (Bu (Ac.of hN1.2.2) (Bm (by decide) (by show 0<_;lia)) (Bu (Ac.of hN1.2.2) (IW hp0) (Bu (Ac.of hN1.2.2) (Bm (by decide) (by show 0<_;lia)) ⟨_,rfl,_,rfl,?_⟩)));refine⟨r,g,lo,c5,m,(Br g lo c5 m).getD 0 0,M,?_,ok.same hN1.1,hW.one,by lia,λr' H' e' ok'=>q _ M hW r' H' (hN1.1.trans e') ok'⟩;rw[hM];rfl
theorem Wx:AJ ["one","other"] ["one","other"] (AG UC):=BS
theorem Wy(T:A5 w K mg t)(G_75:Aa P w K mg base 7 t.f_75 ["one"] (DC)):Aa P w K mg base 8 t.f_87 ["one","other"] (MX):=by
 refine Ar T.d_87 Wx λvs H Q E h=>?_;obtain⟨r,r',g,lo,c5,m,g',lo',tab',m',rfl,ok,ok',q⟩:=h;refine⟨rfl,λcb A outer s hr=>?_⟩;refine⟨_,(AF (AL (Db (Bx BY (AH (BN K) (pv 0) AD (λ_ _=>rfl)) (AH (BN K) (pv 1) AD (λ_ _=>rfl)) (AY _)) (FP (Bx (PX hr.units) (AV hr G_75 T.m_75 (AA (pv 0) AB)) (AV hr G_75 T.m_75 (AA (pv 1) AB)) (AY _)))))),?_⟩;refine Ak.el ok.v λtb h1 h2=>?_;refine Ak.el ok'.v λtb' h1' h2'=>?_;walk_at "";refine (BU (Ao.of h1) rfl (BU (Ao.of h1') rfl ⟨rfl,?_⟩))
 by_cases e:g=g'
 ·subst e;rw[qD rfl];refine⟨r,g,lo,c5,m,rfl,ok,λlow M hW r2 H2 e2 ok2=>?_⟩;refine⟨r',g,lo',tab',m',rfl,ok'.same e2,λlow' M' hW' r3 H3 e3 ok3=>?_⟩;refine⟨_,_,(ok2.same e3).v.dat,ok3.v.dat,Es ..,Es ..,Gr ..,?_⟩;refine q _ _ (e2.trans e3) ?_;rw[Ez,DS ok.g2 ok.len ok'.len hW hW']
 ·rw[qC (λz=>e (V.int.inj z))];exact q false H (AI.refl _) ⟨(λz=>Bool.noConfusion z),λz=>qE z.1 e⟩
theorem Wz:AJ ["one","by"] ["one","by"] (AG UD):=BS
theorem W0(T:A5 w K mg t)(G_86:Er P w K mg base 4 t.f_86 ["signs","low","table"] (EJ t.c_71)):Aa P w K mg base 5 t.f_83 ["one","by"] (Jr):=by refine Ar T.d_83 Wz λvs H Q E h=>?_;obtain⟨r,g,lo,c5,m,by1,rfl,ok,q⟩:=h;refine⟨rfl,λcb A outer s hr=>?_⟩;refine⟨_,(AF (AL (CJ G_86 (hr.mono (by decide)) rfl T.m_86 G1 (AA (AH (BN K) (pv 0) AD (λ_ _=>rfl)) (AA (AK Aw (AH (BN K) (pv 0) AD (λ_ _=>rfl)) (pv 1)) (AA (AH (BN K) (pv 0) AD (λ_ _=>rfl)) AB)))))),?_⟩;refine Ak.el ok.v λtb h1 h2=>?_;walk_at "";refine (BU (Ao.of h1) rfl (BU (Ao.of h1) rfl ⟨lo,rfl,BU (Ao.of h1) rfl ?_⟩));exact Fi ok.g2 ok.g9 ok.m1 ok.len ok.sz ok.tb (.inr h2) λr' H' e hR=>q r' H' e ⟨hR,ok.g2,ok.g9,ok.m1,ok.m8,ok.len,ok.sz,ok.tb⟩
theorem Nf:AJ ["one","many","table","number"] ["one"] (AG UE):=BS
theorem W1(T:A5 w K mg t)(G_76:Aa P w K mg base 2 t.f_76 ["one"] (CK))(G_86:Er P w K mg base 4 t.f_86 ["signs","low","table"] (EJ t.c_71))(G_38:Aa P w K mg base 5 t.f_38 ["one","word"] (Jg K t.c_80))(G_69:Er P w K mg base 1 t.f_69 ["number","signs","many"] (Jj t.c_72)):Aa P w K mg base 6 t.f_78 ["one"] (Do):=by
 refine Ar T.d_78 Nf λvs H Q E h=>?_;obtain⟨r,g,lo,c5,m,rfl,ok,q⟩:=h;refine⟨rfl,λcb A outer s hr=>?_⟩
 refine⟨_,(AC (AN 1 Nf (AV hr G_76 T.m_76 (AA (pv 0) AB)))
  (AC (AN 2 Nf (Ay AB))
  (AC (BB PassesOwn.never rfl (Aq rfl T.z_range (AA (AT (Eb K) rfl T.z_len Za (AA (AH (BN K) (pv 0) AD (λ_ _=>rfl)) AB)) AB)) (BR 3 Nf) (AF (Ax (QS K (pv 2) (AA (AV hr G_38 T.m_38 (AA (pv 0) (AA (Ej rfl rfl T.z_reversed rfl T.z_list (AA (CJ G_69 (hr.mono (by decide)) rfl T.m_69 G1 (AA (pv 3) (AA (AH (BN K) (pv 0) AD (λ_ _=>rfl)) (AA (pv 1) AB)))) AB)) AB))) AB)))))
  (AF (AL (CJ G_86 (hr.mono (by decide)) rfl T.m_86 G1 (AA (AH (BN K) (pv 0) AD (λ_ _=>rfl)) (AA (AK BO (AK BO AD (AH (BN K) (pv 0) AD (λ_ _=>rfl))) (pv 1)) (AA (pv 2) AB))))))))),?_⟩
 refine Ak.el ok.v λtb h1 h2=>?_;have g2:=ok.g2;have g9:=ok.g9;have m8:=ok.m8;have hl:=ok.len;have sz:=ok.sz;have hlm:(c5.map V.int).length=c5.length:=ZM ..;walk_at "";refine⟨r,g,lo,c5,m,rfl,g2,g9,ok.v,hl,?_⟩;walk_at "";refine⟨Zw _,λp hp=>?_⟩;have e0:=AI.new hp (.lst []);refine⟨_,rfl,r,_,2,_,rfl,rfl,Ao.of (e0 _ _ h1),rfl,tb,rfl,_,.inr (Ao.of (e0 _ _ h2)),_,rfl,by lia,by lia,?_⟩;rw[hlm];refine A7 (n:=c5.length) (λi σ H1=>∃x3,σ=[some (.ref r),some (.int ((m:Nat):Int)),some (.ref p),x3]/\AI H H1/\H1 p=some (.lst (((List.range i).map λk:Nat=>c5.getD (BZ g (Bt g (k:Int) m)).toNat 0).map V.int))) ⟨none,rfl,e0,AE⟩ ?_ ?_
 ·refine C0 ?_;rintro _ _ i _ hGo σ H1 hi ⟨x3,rfl,e,hp1⟩;refine hGo _ _ ?_;walk_at "";refine⟨.inl ⟨_,Ac.of hp1⟩,BU (Ao.of (e _ _ h1)) rfl ?_⟩;refine⟨_,g,_,rfl,g2,g9,by lia,by lia,λz=>qE z (by rw[Zh];lia),λ_ _ pw H2 hN2=>?_⟩;rw[Z0,Zh]at hN2;refine⟨pw,rfl,_,Ac.of hN2.2.2,λp1 hp1'=>?_⟩;rw[<-aV,bK];have e3:=AI.new hp1' (.lst ((Bt g (i:Int) m).map V.int));have bl:=Fx (GO g2 (i:Int) m);rw[Bh]at bl;refine⟨r,p1,g,lo,c5,m,_,rfl,g2,g9,(ok.v.same e).same (hN2.1.trans e3),hl,Ac.of AE,CU,?_⟩;rw[bl];intro ms hms H4 e4;have:=B2 hms;subst this;have e14:=(hN2.1.trans e3).trans e4;refine⟨_,e14 _ _ hp1,?_,(e.trans e14).into hp,?_⟩
  ·rw[ZM,ZM,Zc];exact Ad (by lia)
  ·rw[AE,As,Zf];rfl
 ·rintro σ H1 ⟨x3,rfl,e,hp1⟩;walk_at "";refine (BU (Ao.of (e _ _ h1)) rfl (BU (Ao.of (e _ _ h1)) rfl ⟨lo,rfl,?_⟩));exact Fi (c5:=Dm g c5 m) g2 g9 ok.m1 (by rw[Fe];exact hl) sz (K6 g2 ok.tb m) (.inl hp1) λr' H' e' hR=>q r' H' (e.trans e') (ok.turn hR)
theorem W3:AJ ["text"] ["text"] (AG UF):=BS
theorem W4(T:A5 w K mg t) :Aa P w K mg base 1 t.f_23 ["text"] (E5 t.c_73):=by
 refine BQ T.d_23 W3 λvs H Q E h=>?_;obtain⟨v,rfl,kv,hy,hn⟩:=h;refine⟨rfl,λcb A outer s hr=>?_⟩;refine⟨_,(AF (Ai (Bv (Bc (DN rfl T.z_isinstance (pv 0) (Fv rfl T.z_str PyProof.Rows.boot_str)))) (AF (A6 rfl T.x_73 rfl T.m_73 Aj (AA AS AB))) AX)),?_⟩;walk_at "";cases v with
 |str x =>
  refine⟨_,.of (.str x),_,QG,?_⟩;rw[qC (by decide)];exact hy ⟨x,rfl⟩
 |int y =>
  refine⟨_,.of (.int y),_,V0,?_⟩;rw[qD rfl];exact⟨by decide,hn (λ_ e=>nomatch e) _ (AI.refl _)⟩
 |bl y =>
  refine⟨_,.of (.bl y),_,V1,?_⟩;rw[qD rfl];exact⟨by decide,hn (λ_ e=>nomatch e) _ (AI.refl _)⟩
 |non =>
  refine⟨_,.of .non,_,V2,?_⟩;rw[qD rfl];exact⟨by decide,hn (λ_ e=>nomatch e) _ (AI.refl _)⟩
 |ref a =>
  obtain⟨xs,hs⟩:=kv;rcases hs with hL|hT
  ·refine⟨_,.of (.lst hL),_,V3,?_⟩;rw[qD rfl];exact⟨by decide,hn (λ_ e=>nomatch e) _ (AI.refl _)⟩
  ·refine⟨_,.of (.tup hT),_,V4,?_⟩;rw[qD rfl];exact⟨by decide,hn (λ_ e=>nomatch e) _ (AI.refl _)⟩
 |byt _=>exact kv.elim
 |flt _=>exact kv.elim
 |ty _=>exact kv.elim
theorem Ys:AJ ["text"] ["text"] (AG Yd):=BS
theorem Yt(T:A5 w K mg t) :Aa P w K mg base 1 t.f_7 ["text"] (E6 t.c_73):=by
 refine BQ T.d_7 Ys λvs H Q E h=>?_;obtain⟨x,rfl,tx,hy,hn⟩:=h;refine⟨rfl,λcb A outer s hr=>?_⟩
 refine⟨_,(AC (Ai (PW.pt (DY (AU BY (AT By rfl T.z_len Za (AA (pv 0) AB)) AD (AY _)) (DH (Bv (Bc (AT (F2 rfl) rfl T.z_all PyProof.Rows.boot_all (AA (Cm [] [] (MY (pv 0)) (λ_ _ _ _=>B5) (λ_ _ _ _=>(Bx II (pv 0) (IZ rfl T.g_FIGURES) (by with_unfolding_all rfl)))) AB))))))) (AF (A6 rfl T.x_73 rfl T.m_73 Aj (AA AS AB))) AX)
  (AF (AL (Cm [] [] (MY (pv 0)) (λ_ _ _ _=>B5) (λ_ _ _ _=>(Af E1 rfl T.z_int bE (AA (pv 0) AB))))))),?_⟩
 walk_at "";refine⟨Cj tx.2,?_⟩
 by_cases h0:x.cps.size=0
 ·rw[qD (show ((x.length:Nat):Int)=0 by show ((x.cps.size:Nat):Int)=0;lia)];exact⟨by decide,hn (.inl h0) _ (AI.refl _)⟩
 rw[qC (show ¬((x.length:Nat):Int)=0 by show ¬((x.cps.size:Nat):Int)=0;lia)];refine⟨_,rfl,x,rfl,tx.1,λD hD=>?_⟩;refine G4 (λi c9 Hx=>c9=((x.cps.toList.take i).map λc:Nat=>decide (48<=c)&&decide (c<=57)).map V.bl/\Hx=Am H D (.lst c9)) ⟨rfl,rfl⟩ ?_ ?_
 ·rintro i c c9 Hx hc ⟨rfl,rfl⟩;walk_at "";rw[Rm c (Jv tx.1 hc)];refine⟨AE,?_,?_,by rw[BH]⟩
  ·rw[ZM,ZM,Zt,ZT];have:=tx.2;exact Ad (by lia)
  ·rw[aE,ER hc];simp
 rintro c9 Hx ⟨rfl,rfl⟩;have e1:=AI.new hD (.lst (((x.cps.toList.take x.cps.size).map λc:Nat=>decide (48<=c)&&decide (c<=57)).map V.bl));refine⟨D,rfl,_,Ac.of AE,?_⟩;rw[OS];cases hf:Ba 57 x with
 |false =>
  rw[qD rfl];exact⟨by decide,hn (.inr hf) _ e1⟩
 |true =>
  rw[qC (by decide)];refine⟨_,rfl,x,rfl,tx.1,λD2 hD2=>?_⟩;generalize Am H D (.lst (((x.cps.toList.take x.cps.size).map λc:Nat=>decide (48<=c)&&decide (c<=57)).map V.bl))=H1 at e1 hD2⊢;refine G4 (λi c9 Hx=>c9=((x.cps.toList.take i).map λc:Nat=>(c:Int)-48).map V.int/\Hx=Am H1 D2 (.lst c9)) ⟨rfl,rfl⟩ ?_ ?_
  ·rintro i c c9 Hx hc ⟨rfl,rfl⟩;have fg:=QH hf hc;walk_at "";refine⟨by show 1<=640;decide,_,Rn c (by lia) fg.1,AE,?_,?_,by rw[BH]⟩
   ·rw[ZM,ZM,Zt,ZT];have:=tx.2;exact Ad (by lia)
   ·rw[aE,ER hc];simp
  rintro c9 Hx ⟨rfl,rfl⟩;rw[Zz (by rw[ZT];exact ZR _)];exact hy h0 hf D2 _ ⟨e1.trans (AI.new hD2 _),e1.free hD2,AE⟩
theorem Qr:AJ ["text","figures","number"] ["text"] (AG UG):=BS
theorem W5(T:A5 w K mg t)(G_7:Aa P w K mg base 1 t.f_7 ["text"] (E6 t.c_73)):Aa P w K mg base 2 t.f_18 ["text"] (GW t.c_73):=by
 refine BQ T.d_18 Qr λvs H Q E h=>?_;obtain⟨x,rfl,tx,hy,hn⟩:=h;refine⟨rfl,λcb A outer s hr=>?_⟩
 refine⟨_,(AC (AN 1 Qr (KW (Bc (Cu Zu PySem.F.slot_str_startswith PySem.F.type_str_startswith OR (pv 0) (AA AS AB))) (Bn Ju (pv 0) (Bp AD) Cs) (pv 0)))
  (AC (Ai (AU Ge (AT (Eb K) rfl T.z_len Za (AA (AZ G_7 (hr.mono (by decide)) rfl T.m_7 AM (AA (pv 1) AB)) AB)) (Du rfl T.g_MOST_FIGURES) (AY _)) (AF (A6 rfl T.x_73 rfl T.m_73 Aj (AA AS AB))) AX)
  (AC (AN 2 Qr (Af E1 rfl T.z_int bE (AA (pv 0) AB)))
  (AC (Ai (AU Ef (Af An rfl T.z_str Zm (AA (pv 2) AB)) (pv 0) (AY _)) (AF (A6 rfl T.x_73 rfl T.m_73 Aj (AA AS AB))) AX)
  (AF (AL (pv 2))))))),?_⟩
 refine A8 λN hN=>?_;unfold YE;walk_at ""
 suffices go:N [some (.str x),some (.str (A4 x)),none] H by
  by_cases hs:PySem.Txt.startswith x (Str.ofString "-")=true
  ·rw[qD hs];unfold A4 at go;rw[qD hs]at go;exact⟨Cj tx.2,go⟩
  ·rw[qC hs];unfold A4 at go;rw[qC hs]at go;exact go
 refine hN _ _ ?_;clear hN N;refine A8 λN hN=>?_;walk_at "";refine⟨A4 x,rfl,MZ tx,λh0 hf p H1 n1=>?_,λhb H1 e1=>hn (λn z=>hb.elim z.n0 λy=>qE z.fg (by rw[y];decide)) _ e1⟩;refine⟨p,rfl,_,.inl (Ac.of n1.2.2),?_⟩
 have wl:((Ch (A4 x)).map V.int).length=(A4 x).cps.size:=by unfold Ch;rw[ZM,ZM,ZT]
 rw[wl]
 by_cases h6:60<(((A4 x).cps.size:Nat):Int)
 ·rw[qD h6];exact⟨by decide,hn (λn z=>by have:=z.le;lia) _ n1.1⟩
 rw[qC h6];refine hN _ _ ?_;clear hN N;obtain⟨n,hr,hl⟩:=OW tx.2 h0 hf (by lia);walk_at "";refine⟨Zl tx.2 (by decide),n,hr,hl,?_⟩
 by_cases he:Bf n=x
 ·rw[qC (λz=>z he)];exact⟨rfl,hy n ⟨h0,hf,by lia,he⟩ _ n1.1⟩
 ·rw[qD (show ¬Str.ofString (toString n)=x from he)];refine⟨rfl,by decide,hn (λk z=>he ?_) _ n1.1⟩;rw[<-Fl tx.2 hr z];exact z.eq
theorem Lb:AJ ["text","parts","signs","low","table"] ["text"] (AG UH):=BS
theorem W6(T:A5 w K mg t)(G_23:Aa P w K mg base 1 t.f_23 ["text"] (E5 t.c_73))(G_18:Aa P w K mg base 2 t.f_18 ["text"] (GW t.c_73))(G_7:Aa P w K mg base 1 t.f_7 ["text"] (E6 t.c_73))(G_86:Er P w K mg base 4 t.f_86 ["signs","low","table"] (EJ t.c_71)):Aa P w K mg base 5 t.f_42 ["text"] (J7 t.c_73):=by
 refine BQ T.d_42 Lb λvs H Q E h=>?_;obtain⟨v,rfl,kv,hy,hn⟩:=h;refine⟨rfl,λcb A outer s hr=>?_⟩
 refine⟨_,(AC (Ax (AZ G_23 (hr.mono (by decide)) rfl T.m_23 AM (AA (pv 0) AB)))
  (AC (AN 1 Lb (Cu Zu PySem.F.slot_str_split PySem.F.type_str_split LB (pv 0) (AA AS AB)))
  (AC (Ai (PW.pt (DY (AU Ef (AT (Eb K) rfl T.z_len Za (AA (pv 1) AB)) AD (AY _)) (DH (AU Ef (AT By rfl T.z_len Za (AA (AH (Bk K) (pv 1) AD (λ_ _=>rfl)) AB)) AD (AY _))))) (AF (A6 rfl T.x_73 rfl T.m_73 Aj (AA AS AB))) AX)
  (AC (AN 2 Lb (AH (Bk K) (AZ G_7 (hr.mono (by decide)) rfl T.m_7 AM (AA (AH (Bk K) (pv 1) AD (λ_ _=>rfl)) AB)) AD (λ_ _=>rfl)))
  (AC (AN 3 Lb (AZ G_18 (hr.mono (by decide)) rfl T.m_18 AM (AA (AH (Bk K) (pv 1) AD (λ_ _=>rfl)) AB)))
  (AC (AN 4 Lb (AZ G_7 (hr.mono (by decide)) rfl T.m_7 AM (AA (AH (Bk K) (pv 1) AD (λ_ _=>rfl)) AB)))
  (AF (RU (W:=λσ cls D H'=>cls=.ref t.c_71/\D=none/\AI H H'/\∀g lo c5,¬Fm v g lo c5) T.x_73 rfl T.m_73 L9 (λ_=>PassesOwnAt.leaving) rfl T.m_71 rfl rfl (λ_=>(AF (AL (CJ G_86 (hr.mono (by decide)) rfl T.m_86 Kw (AA (pv 2) (AA (pv 3) (AA (pv 4) AB))))))) (λ_=>(AA AS AB)))))))))),?_⟩
 refine A8 λN hN=>?_;walk_at "";refine⟨v,rfl,kv,λhx=>hN _ _ ?_,λhx H1 e1=>hn (λg lo c5 z=>?_) _ e1⟩
 case refine_2 =>
  cases v with
  |str x=>exact hx x rfl
  |_=>exact z
 clear hN N;obtain⟨x,rfl⟩:=hx;have tx:DZ x:=kv;obtain⟨pl,pk⟩:=LC tx;refine A8 λN hN=>?_;walk_at "";refine⟨by decide,Cj tx.2,?_,λl hl=>hN _ _ ?_⟩
 ·exact Nat.le_trans (show _<=1000 by unfold BX at pl;lia) (by decide)
 clear hN N;have e1:=AI.new hl (.lst ((BX x).map V.str));have h1:Am H l (.lst ((BX x).map V.str)) l=some (.lst ((BX x).map V.str)):=AE;show Nm _ _ _ _ (Am H l (.lst ((BX x).map V.str)));generalize Am H l (.lst ((BX x).map V.str))=H1 at e1 h1⊢
 have no:∀(B:Prop),(∀a b c g lo c5,BX x=[a,b,c]->a.cps.size=1->Ba 57 a=true->Ch a=[g]->ID b lo->c.cps.size≠0->Ba 57 c=true->Ch c=c5->2<=g->g<=9->Dk g (c5.map V.int)->False)->∀g lo c5,¬Fm (V.str x) g lo c5:=λ_ h g lo c5 z=>by obtain⟨⟨a,b,c,e,k1,k2,k3,k4,k5,k6,k7⟩,g2,g9,ok⟩:=(z:LH x g lo c5);exact h a b c g lo c5 e k1 k2 k3 k4 k5 k6 k7 g2 g9 ok
 generalize hps:BX x=ps at pl pk h1 no;refine A8 λN hN=>?_;walk_at "";refine⟨_,.inl (Ac.of h1),?_⟩;rw[ZM]
 by_cases h3:((ps.length:Nat):Int)=3
 case neg =>
  rw[qD h3];exact⟨by decide,hn (no True λa b c g lo c5 e=>qE (by rw[e];rfl) h3) _ e1⟩
 rw[qC (λz=>z h3)]
 obtain⟨a,b,c,rfl⟩:∃a b c,ps=[a,b,c]:=by
  match ps,h3 with
  |[a,b,c],_=>exact⟨a,b,c,rfl⟩
  |[],h=>exact qE h (by decide)
  |[_],h=>exact qE h (by simp only[List.length_cons,List.length_nil];lia)
  |[_,_],h=>exact qE h (by simp only[List.length_cons,List.length_nil];lia)
  |_::_::_::_::r,h=>exact qE h (by simp only[List.length_cons];lia)
 have no2:(∀g lo c5,a.cps.size=1->Ba 57 a=true->Ch a=[g]->ID b lo->c.cps.size≠0->Ba 57 c=true->Ch c=c5->2<=g->g<=9->Dk g (c5.map V.int)->False)->∀g lo c5,¬Fm (V.str x) g lo c5:=λh=>no True λa' b' c' g lo c5 e=>by cases e;exact h g lo c5
 clear no h3 pl;have ka:=pk a (by simp);have kb:=pk b (by simp);have kc:=pk c (by simp);clear pk;refine (Bu (Ac.of h1) rfl ⟨a,rfl,Cj ka.2,?_⟩)
 by_cases h2:((a.length:Nat):Int)=1
 case neg =>
  rw[qD h2];exact⟨by decide,hn (no2 λg lo c5 k1=>qE (by show ((a.cps.size:Nat):Int)=1;lia) h2) _ e1⟩
 rw[qC (λz=>z h2)];refine hN _ _ ?_;clear hN N
 have a1:a.cps.size=1:=by have z:((a.cps.size:Nat):Int)=1:=h2;lia
 refine A8 λN hN=>?_;walk_at "";refine (Bu (Ac.of h1) rfl ⟨a,rfl,ka,λ_ fa p3 H3 n3=>?_,λz H3 e3=>hn (no2 λg lo c5 k1 k2=>z.elim (λy=>by lia) λy=>qE k2 (by rw[y];decide)) _ (e1.trans e3)⟩)
 obtain⟨g,hg⟩:∃g:Int,Ch a=[g]:=by
  have z:(Ch a).length=1:=by unfold Ch;rw[ZM,ZT];exact a1
  match h:Ch a,z with
  |[g],_=>exact⟨g,rfl⟩
 have h3:=n3.2.2;rw[hg]at h3;refine (Bu (Ac.of h3) rfl (hN _ _ ?_));clear hN N;have e13:=e1.trans n3.1;have h13:=n3.1 _ _ h1;clear n3 h3 e1 h1;refine A8 λN hN=>?_;walk_at "";refine (Bu (Ac.of h13) rfl ⟨b,rfl,kb,λlo hlo H4 e4=>hN _ _ ?_,λz H4 e4=>hn (no2 λg lo c5 _ _ _ k4 _ _ _ _ _ _=>z lo k4) _ (e13.trans e4)⟩);clear hN N;have e14:=e13.trans e4;have h14:=e4 _ _ h13;clear e4 h13 e13;refine A8 λN hN=>?_;walk_at "";refine (Bu (Ac.of h14) rfl ⟨c,rfl,kc,λc0 fc p5 H5 n5=>hN _ _ ?_,λz H5 e5=>hn (no2 λg lo c5 _ _ _ _ k5 k6 _ _ _ _=>z.elim (λy=>k5 y) λy=>qE k6 (by rw[y];decide)) _ (e14.trans e5)⟩);clear hN N;have e15:=e14.trans n5.1;have h5:=n5.2.2;clear n5 h14 e14;walk_at "";refine⟨⟨.int g,.int lo,.ref p5,rfl,True.intro,True.intro,⟨_,.inl h5,CU⟩,λg' lo' c5 a' eg el ep hs gg2 gg9 tok tbb r H6 e6 hR=>?_,λnb H6 e6=>⟨rfl,rfl,e15.trans e6,no2 λg' lo' c5 k1 k2 k3 k4 k5 k6 k7 k8 k9 k10=>nb ?_⟩⟩,?_⟩
 ·cases eg;cases el;cases ep;have zz:=B2 (hs.inj (.inl h5));subst zz;exact hy g lo (Ch c) ⟨⟨a,b,c,hps,a1,fa,hg,hlo,c0,fc,rfl⟩,gg2,gg9,tok⟩ tbb r H6 (e15.trans e6) hR
 ·have eg:g=g':=by
   rw[hg]at k3;exact (List.cons.inj k3).1
  subst eg;rw[<-k7]at k10;exact⟨EA k8 k9,g,rfl,p5,_,rfl,.inl h5,k10⟩
 ·rintro σ' cls D' H' ⟨rfl,rfl,e,nb⟩;exact⟨T.em_71_71,λea hea=>⟨by decide,AE,hn nb _ (e.trans (AI.new hea _))⟩⟩
theorem Yu:AJ ["signs"] ["signs"] (AG Ye):=BS
theorem Yv(T:A5 w K mg t) :Aa P w K mg base 1 t.f_8 ["signs"] (Jw K):=by
 refine Ar T.d_8 Yu λvs H Q E h=>?_;obtain⟨a,ws,rfl,hS,hb,hl,q⟩:=h;refine⟨rfl,λcb A outer s hr=>?_⟩;refine⟨_,(AF (AL (Cu Zu aI aJ DT AS (AA (Cm [] [] (Qw K (pv 0)) (λ_ _ _ _=>B5) (λ_ _ _ _=>(Af An rfl T.z_str Zm (AA (pv 0) AB)))) AB)))),?_⟩;walk_at "";refine⟨_,rfl,a,rfl,⟨_,hS⟩,λD hD=>?_⟩;refine Dw (xs:=ws.map V.int) (λi c9 Hx=>c9=((ws.take i).map λn=>(⟨#[(48+n).toNat]⟩:Str)).map V.str/\Hx=Am H D (.lst c9)) ⟨rfl,rfl⟩ (λi c9 Hx _ z=>by rw[z.2];exact (AI.new hD _).seq hS) ?_ ?_
 ·refine KA ?_;rintro i x _ hGo c9 Hx hx ⟨rfl,rfl⟩;refine hGo _ _ ?_;obtain⟨v,hv,rfl⟩:=B3 hx;obtain⟨k,hk,k9⟩:∃k:Nat,v=((k:Nat):Int)/\k<9:=by have:=hb v (Zv hv);exact⟨v.toNat,by lia,by lia⟩
  subst hk;walk_at "";refine⟨E3 k k9,AE,?_,?_,by rw[BH]⟩
  ·rw[ZM,ZM,Zt];exact Ad (by lia)
  ·rw[aE,hv,E2 k k9];simp;lia
 rintro c9 Hx ⟨rfl,rfl⟩;rw[ZM,Zx];refine⟨D,rfl,_,Ac.of AE,?_,?_⟩
 ·rw[E4 (λn=>(48+n).toNat)];show ws.length+_*0<=_;lia
 ·rw[Bj (λn=>(48+n).toNat)];exact q _ (AI.new hD _)
theorem W7:AJ ["signs"] ["signs"] (AG Yf):=BS
theorem W8(T:A5 w K mg t) :Aa P w K mg base 1 t.f_8 ["signs"] (HN):=by
 refine Ar T.d_8 W7 λvs H Q E h=>?_;obtain⟨a,ws,rfl,hS,hb,hl,q⟩:=h;refine⟨rfl,λcb A outer s hr=>?_⟩;refine⟨_,(AF (AL (Cu Zu aI aJ DT AS (AA (Cm [] [] (Lm (pv 0)) (λ_ _ _ _=>B5) (λ_ _ _ _=>(Af An rfl T.z_str Zm (AA (pv 0) AB)))) AB)))),?_⟩;walk_at "";refine⟨_,rfl,a,rfl,⟨_,Ao.of hS⟩,λD hD=>?_⟩;refine Kz (xs:=ws.map V.int) (λi c9 Hx=>c9=((ws.take i).map λn=>(⟨#[(48+n).toNat]⟩:Str)).map V.str/\Hx=Am H D (.lst c9)) ⟨rfl,rfl⟩ (λi c9 Hx _ z=>by rw[z.2];exact Ao.of (AI.new hD _ _ _ hS)) ?_ ?_
 ·rintro i x c9 Hx hx ⟨rfl,rfl⟩;obtain⟨v,hv,rfl⟩:=B3 hx;obtain⟨k,hk,k9⟩:∃k:Nat,v=((k:Nat):Int)/\k<9:=by have:=hb v (Zv hv);exact⟨v.toNat,by lia,by lia⟩
  subst hk;walk_at "";refine⟨E3 k k9,AE,?_,?_,by rw[BH]⟩
  ·rw[ZM,ZM,Zt];exact Ad (by lia)
  ·rw[aE,hv,E2 k k9];simp;lia
 rintro c9 Hx ⟨rfl,rfl⟩;rw[ZM,Zx];refine⟨D,rfl,_,Ac.of AE,?_,?_⟩
 ·rw[E4 (λn=>(48+n).toNat)];show ws.length+_*0<=_;lia
 ·rw[Bj (λn=>(48+n).toNat)];exact q _ (AI.new hD _)
theorem W9:AJ ["one"] ["one"] (AG UI):=BS
theorem XB(T:A5 w K mg t)(G_91:Aa P w K mg base 1 t.f_8 ["signs"] (HN)):Aa P w K mg base 2 t.f_45 ["one"] (Fn):=by
 refine Ar T.d_45 W9 λvs H Q E h=>?_;obtain⟨r,g,lo,c5,rfl,hT,q⟩:=h;refine⟨rfl,λcb A outer s hr=>?_⟩;refine⟨_,(AF (AL (Cu Zu aI aJ DT AS (AA (Ay (AA (Af An rfl T.z_str Zm (AA (AH (BN K) (pv 0) AD (λ_ _=>rfl)) AB)) (AA (Af An rfl T.z_str Zm (AA (AH (BN K) (pv 0) AD (λ_ _=>rfl)) AB)) (AA (AV hr G_91 T.m_8 (AA (AH (BN K) (pv 0) AD (λ_ _=>rfl)) AB)) AB)))) AB)))),?_⟩;obtain⟨tb,h1,h2⟩:=id hT.rv;have hg2:=hT.g2;have hg9:=hT.g9;obtain⟨k,hk,k10⟩:∃k:Nat,g=((k:Nat):Int)/\k<10:=⟨g.toNat,by lia,by lia⟩;have ok:=hT.ok.1;rw[ZM]at ok;walk_at "";refine (BU (Ao.of h1) rfl ⟨g,rfl,CZ (k:=1) (by lia) (by decide),?_⟩);refine (BU (Ao.of h1) rfl ⟨lo,rfl,CZ hT.far (by decide),?_⟩);refine (BU (Ao.of h1) rfl ⟨tb,c5,rfl,h2,λn hn=>by have:=hT.tb n hn;lia,by lia,λH1 e1=>⟨by decide,λp hp=>?_⟩⟩);refine⟨[Str.ofString (toString g),Bf lo,CW c5],Ac.of AE,?_,?_⟩
 ·have s1:=DE (k:=0) (n:=g) (by lia);have s2:=DE (k:=129) hT.far;have s3:=DG c5;show (Bf g).cps.size+((Bf lo).cps.size+((CW c5).cps.size+0))+3*1<=_;lia
 ·have e:PySem.Txt.join (Str.ofString ":") [Str.ofString (toString g),Bf lo,CW c5]=FC g lo c5:=by
   show Builtin.Str.glued _ _=_;rw[PySem.StrLaws.glued_eq_join];show Str.ofString (toString g)++Str.ofString ":"++(Bf lo++Str.ofString ":"++CW c5)=_;rw[hk,NF k k10];unfold FC;refine J1 ?_;show (_++_++(_++_++_):Array Nat).toList=(_++_++_++_++_:Array Nat).toList;simp only[Array.toList_append,List.append_assoc];rw[show (48+((k:Nat):Int)).toNat=48+k by lia]
  rw[e];exact q _ (e1.trans (AI.new hp _))
theorem Sl:AJ ["text","word"] ["text"] (AG UJ):=BS
theorem XC(T:A5 w K mg t)(G_23:Aa P w K mg base 1 t.f_23 ["text"] (E5 t.c_73))(G_7:Aa P w K mg base 1 t.f_7 ["text"] (E6 t.c_73)):Aa P w K mg base 2 t.f_43 ["text"] (E7 t.c_73):=by
 refine BQ T.d_43 Sl λvs H Q E h=>?_;obtain⟨v,rfl,kv,hy,hn⟩:=h;refine⟨rfl,λcb A outer s hr=>?_⟩
 refine⟨_,(AC (Ax (AZ G_23 (hr.mono (by decide)) rfl T.m_23 AM (AA (pv 0) AB)))
  (AC (Ai (AU BY (pv 0) AS (AY _)) (AF (AL (Ay AB))) AX)
  (AC (AN 1 Sl (AZ G_7 (hr.mono (by decide)) rfl T.m_7 AM (AA (pv 0) AB)))
  (AC (Ai (AU Ny AD (pv 1) (by with_unfolding_all rfl)) (AF (A6 rfl T.x_73 rfl T.m_73 Aj (AA AS AB))) AX)
  (AF (AL (pv 1))))))),?_⟩
 walk_at "";refine⟨v,rfl,kv,λ⟨x,e⟩=>?_,λhx H' e=>?_⟩
 ·subst e;refine⟨rfl,?_⟩
  by_cases d:x=Str.ofString "-"
  ·rw[qD (by rw[d])];exact⟨by decide,λp hp=>hy [] (by show G6 x=_;unfold G6;rw[qD d]) p _ ⟨AI.new hp _,hp,AE⟩⟩
  rw[qC (λz=>d (V.str.inj z))];refine⟨x,rfl,kv,λh0 hf p H' n=>?_,λhz H' e=>?_⟩
  ·refine⟨p,_,rfl,.inl (Ac.of n.2.2),rfl,OU _,_,rfl,?_⟩;have e9:(if false=true then !U8 (V.int 9) ((Ch x).map V.int) else U8 (V.int 9) ((Ch x).map V.int))=!Ba 56 x:=by rw[qC (by decide),Rp hf]
   rw[e9];cases f6:Ba 56 x with
   |true =>
    rw[qC (by decide)];exact hy (Ch x) (by show G6 x=_;unfold G6;rw[qC d,qC h0,qD f6]) p _ n
   |false =>
    rw[qD (by decide)];exact⟨by decide,hn (by show G6 x=_;unfold G6;rw[qC d,qC h0,qC (by rw[f6];decide)]) _ n.1⟩
  ·refine hn ?_ _ e;show G6 x=none;unfold G6;rw[qC d];rcases hz with z|z
   ·rw[qD z]
   ·rw[qC (show ¬Ba 56 x=true by rw[OT z];decide)]
    split<;>rfl
 ·refine hn ?_ _ e;cases v with
  |str x=>exact qE rfl (hx x)
  |_=>rfl
theorem XD:AJ ["word"] ["word"] (AG UK):=BS
theorem XE(T:A5 w K mg t)(G_8:Aa P w K mg base 1 t.f_8 ["signs"] (Jw K)):Aa P w K mg base 2 t.f_46 ["word"] (DU K):=by
 refine Ar T.d_46 XD λvs H Q E h=>?_;obtain⟨a,ws,rfl,hS,hb,hl,q⟩:=h;refine⟨rfl,λcb A outer s hr=>?_⟩
 refine⟨_,(AC (Ai (AU BY (AT (Eb K) rfl T.z_len Za (AA (pv 0) AB)) AD (AY _)) (AF (AL AS)) AX)
  (AF (AL (AV hr G_8 T.m_8 (AA (pv 0) AB))))),?_⟩
 walk_at "";refine⟨_,.inl hS,?_⟩;rw[ZM];unfold Ci at q
 by_cases h:ws=[]
 ·rw[qD h]at q;rw[qD (by rw[h];rfl)];exact q _ (AI.refl _)
 ·rw[qC h]at q;have:=ap.mpr h;rw[qC (by lia)];exact⟨a,ws,rfl,hS,hb,hl,q⟩
theorem XF:AJ ["text"] ["text"] (AG UL):=BS
theorem XG(T:A5 w K mg t) :Aa P w K mg base 1 t.f_41 ["text"] (Fp t):=by
 refine BQ T.d_41 XF λvs H Q E h=>?_;obtain⟨x,rfl,tx,hy,hn⟩:=h;refine⟨rfl,λcb A outer s hr=>?_⟩
 refine⟨_,(AC (Ai (PW.pt (DY (AU BY (AT By rfl T.z_len Za (AA (pv 0) AB)) AD (AY _)) (DY (AU Ge (AT By rfl T.z_len Za (AA (pv 0) AB)) (Du rfl T.g_LONGEST_NAME) (AY _)) (DH (Bv (Bc (AT (F2 rfl) rfl T.z_all PyProof.Rows.boot_all (AA (Cm [] [] (MY (pv 0)) (λ_ _ _ _=>B5) (λ_ _ _ _=>(Bx II (pv 0) (IZ rfl T.g_LETTERS) (by with_unfolding_all rfl)))) AB)))))))) (AF (A6 rfl T.x_70 rfl T.m_70 Aj (AA AS AB))) AX)
  (AF (AL (pv 0)))),?_⟩
 walk_at "";refine⟨Cj tx.2,?_⟩
 by_cases h0:x.cps.size=0
 ·rw[qD (show ((x.length:Nat):Int)=0 by show ((x.cps.size:Nat):Int)=0;lia)];exact⟨by decide,hn (λz=>by have:=z.1;lia) _ _ (AI.refl _)⟩
 rw[qC (show ¬((x.length:Nat):Int)=0 by show ¬((x.cps.size:Nat):Int)=0;lia)];refine⟨Cj tx.2,?_⟩
 by_cases h8:x.cps.size<=8
 rotate_left
 ·rw[qD (show 8<((x.length:Nat):Int) by show 8<((x.cps.size:Nat):Int);lia)];exact⟨by decide,hn (λz=>h8 z.2.1) _ _ (AI.refl _)⟩
 rw[qC (show ¬8<((x.length:Nat):Int) by show ¬8<((x.cps.size:Nat):Int);lia)];refine⟨_,rfl,x,rfl,tx.1,λD hD=>?_⟩;refine G4 (λi c9 Hx=>c9=((x.cps.toList.take i).map λc:Nat=>decide (97<=c)&&decide (c<=122)).map V.bl/\Hx=Am H D (.lst c9)) ⟨rfl,rfl⟩ ?_ ?_
 ·rintro i c c9 Hx hc ⟨rfl,rfl⟩;walk_at "";rw[Mi c (Jv tx.1 hc)];refine⟨AE,?_,?_,by rw[BH]⟩
  ·rw[ZM,ZM,Zt,ZT];exact Ad (by lia)
  ·rw[aE,ER hc];simp
 rintro c9 Hx ⟨rfl,rfl⟩;have e1:=AI.new hD (.lst (((x.cps.toList.take x.cps.size).map λc:Nat=>decide (97<=c)&&decide (c<=122)).map V.bl));refine⟨D,rfl,_,Ac.of AE,?_⟩;cases hf:(((x.cps.toList.take x.cps.size).map λc:Nat=>decide (97<=c)&&decide (c<=122)).all id) with
 |false =>
  rw[qD rfl];exact⟨by decide,hn (λz=>by rw[Iq.mpr z.2.2]at hf;cases hf) _ _ e1⟩
 |true =>
  rw[qC (by decide)];exact hy ⟨by lia,h8,Iq.mp hf⟩ _ e1
theorem XH:AJ ["rules","text"] ["rules","text"] (AG UM):=BS
theorem XI(T:A5 w K mg t) :Aa P w K mg base 1 t.f_66 ["rules","text"] (GD t):=by
 refine BQ T.d_66 XH λvs H Q E h=>?_;obtain⟨d,x,rs,rfl,hR,hy,hn⟩:=h;refine⟨rfl,λcb A outer s hr=>?_⟩
 refine⟨_,(AC (Ai (Ga (D0 (CB hr) (pv 1) (pv 0))) (AF (A6 rfl T.x_70 rfl T.m_70 Aj (AA AS AB))) AX)
  (AF (AL (Cz (CB hr) (pv 0) (pv 1) (λ_ _=>rfl))))),?_⟩
 walk_at "";refine⟨_,rfl,_,rfl,d,?_⟩;cases e:rs.lookup x with
 |none =>
  refine⟨_,rfl,hR.miss e,true,rfl,?_⟩;rw[qD rfl];exact⟨by decide,hn e _ _ (AI.refl _)⟩
 |some q =>
  obtain⟨b,g,ok⟩:=hR.hit e;refine⟨_,rfl,g,false,rfl,?_⟩;rw[qC (by decide)];exact⟨_,rfl,_,rfl,d,_,rfl,g,hy q b e ok⟩
theorem XJ:AJ ["rules","name","one"] ["rules","name","one"] (AG UN):=BS
theorem XM(T:A5 w K mg t) :Aa P w K mg base 1 t.f_90 ["rules","name","one"] (LQ):=by
 refine Ar T.d_90 XJ λvs H Q E h=>?_;obtain⟨d,a,x,rs,q,rfl,hR,l8,ha,qq⟩:=h;refine⟨rfl,λcb A outer s hr=>?_⟩
 refine⟨_,(AC (GX (CB hr) (pv 0) (pv 1) (pv 2) rfl)
  (AF (AL AS))),?_⟩
 walk_at "";obtain⟨kvs,hd,lk,hR'⟩:=hR.put l8 ha;exact⟨_,rfl,_,rfl,_,rfl,d,_,rfl,.inl ⟨kvs,.inr x,hd,rfl,lk,rfl⟩,qq _ (A0.upd _) hR'⟩
theorem XN:AJ ["truth"] ["truth"] (AG UO):=BS
theorem XO(T:A5 w K mg t) :Aa P w K mg base 1 t.f_48 ["truth"] (Qc):=by
 refine Ar T.d_48 XN λvs H Q E h=>?_;obtain⟨b,rfl,q⟩:=h;refine⟨rfl,λcb A outer s hr=>?_⟩;refine⟨_,(AF (AL (KW (Bc (pv 0)) AS AS))),?_⟩;unfold YE;walk_at "";unfold Ry at q;cases b with
 |true=>exact q
 |false=>exact q
theorem Sm:AJ ["rules","words","name"] ["rules","words"] (AG UP):=BS
theorem XQ(T:A5 w K mg t)(G_41:Aa P w K mg base 1 t.f_41 ["text"] (Fp t))(G_90:Aa P w K mg base 1 t.f_90 ["rules","name","one"] (LQ))(G_42:Aa P w K mg base 5 t.f_42 ["text"] (J7 t.c_73)):Aa P w K mg base 6 t.f_60 ["rules","words"] (Bb GY):=by
 refine BQ T.d_60 Sm λvs H Q E h=>?_;obtain⟨d,a,rs,ws,rfl,hR,hw,tx,h⟩:=h;refine⟨rfl,λcb A outer s hr=>?_⟩
 refine⟨_,(AC (AN 2 Sm (AZ G_41 (hr.mono (by decide)) rfl T.m_41 AM (AA (AH (Bk K) (pv 1) AD (λ_ _=>rfl)) AB)))
  (AF (AL (AV hr G_90 T.m_90 (AA (pv 0) (AA (pv 2) (AA (AZ G_42 (hr.mono (by decide)) rfl T.m_42 AM (AA (AH (Bk K) (pv 1) AD (λ_ _=>rfl)) AB)) AB))))))),?_⟩
 walk_at "";obtain⟨w0,x,y,rfl,nx,l29,q,hX,ok,qq⟩:=h;have ty:=tx y (ZS _ (ZS _ (ZZ ..)));refine (Bu (v:=.str x) (Ac.of hw) rfl ?_);refine QT (tx x (ZS _ (ZZ ..))) (.inr ⟨nx,λH1 e1=>?_⟩);refine (Bu (v:=.str y) (Ac.of (e1 _ _ hw)) rfl ?_);refine⟨.str y,rfl,ty,λg lo c5 z hb r H2 e2 rv=>?_,λz=>qE hX (z _ _ _)⟩;obtain⟨rfl,rfl,rfl⟩:=Mb ty z hX;obtain⟨o1,o2,o3,o4,o5,o6,o7⟩:=ok;have e12:=e1.trans e2;exact⟨d,r,x,rs,q,rfl,hR.same e12,l29,⟨rv,o1,o2,o3,o4,o5,o6,o7⟩,λH' sx hR'=>qq H' (λb o n z=>sx b o n (e12 _ _ z)) hR'⟩
theorem Sn:AJ ["rules","words","name"] ["rules","words"] (AG UQ):=BS
theorem XR(T:A5 w K mg t)(G_41:Aa P w K mg base 1 t.f_41 ["text"] (Fp t))(G_90:Aa P w K mg base 1 t.f_90 ["rules","name","one"] (LQ))(G_78:Aa P w K mg base 6 t.f_78 ["one"] (Do))(G_66:Aa P w K mg base 1 t.f_66 ["rules","text"] (GD t)):Aa P w K mg base 7 t.f_63 ["rules","words"] (Bb (FG t)):=by
 refine BQ T.d_63 Sn λvs H Q E h=>?_;obtain⟨d,a,rs,ws,rfl,hR,hw,tx,h⟩:=h;refine⟨rfl,λcb A outer s hr=>?_⟩
 refine⟨_,(AC (AN 2 Sn (AZ G_41 (hr.mono (by decide)) rfl T.m_41 AM (AA (AH (Bk K) (pv 1) AD (λ_ _=>rfl)) AB)))
  (AF (AL (AV hr G_90 T.m_90 (AA (pv 0) (AA (pv 2) (AA (AV hr G_78 T.m_78 (AA (AZ G_66 (hr.mono (by decide)) rfl T.m_66 AM (AA (pv 0) (AA (AH (Bk K) (pv 1) AD (λ_ _=>rfl)) AB))) AB)) AB))))))),?_⟩
 walk_at "";obtain⟨w0,x,y,rfl,nx,l29,h⟩:=h;refine (Bu (v:=.str x) (Ac.of hw) rfl ?_);refine QT (tx x (ZS _ (ZZ ..))) (.inr ⟨nx,λH1 e1=>?_⟩);refine (Bu (v:=.str y) (Ac.of (e1 _ _ hw)) rfl ?_);rcases h with⟨lk,r⟩|⟨q,lk,qq⟩
 ·exact Bs (hR.same e1) (.inl ⟨lk,r.same e1⟩)
 refine Bs (hR.same e1) (.inr ⟨q,lk,λb ok=>?_⟩);refine⟨b,q.g,q.lo,q.tq,q.m,rfl,ok,λr H2 e2 ok2=>?_⟩;have e12:=e1.trans e2;exact⟨d,r,x,rs,Ip q,rfl,hR.same e12,l29,ok2,λH' sx hR'=>qq H' (λb o n z=>sx b o n (e12 _ _ z)) hR'⟩
theorem Qs:AJ ["rules","words","name","one"] ["rules","words"] (AG UR):=BS
theorem XS(T:A5 w K mg t)(G_41:Aa P w K mg base 1 t.f_41 ["text"] (Fp t))(G_66:Aa P w K mg base 1 t.f_66 ["rules","text"] (GD t))(G_90:Aa P w K mg base 1 t.f_90 ["rules","name","one"] (LQ))(G_83:Aa P w K mg base 5 t.f_83 ["one","by"] (Jr))(G_18:Aa P w K mg base 2 t.f_18 ["text"] (GW t.c_73)):Aa P w K mg base 6 t.f_58 ["rules","words"] (Bb (FH t)):=by
 refine BQ T.d_58 Qs λvs H Q E h=>?_;obtain⟨d,a,rs,ws,rfl,hR,hw,tx,h⟩:=h;refine⟨rfl,λcb A outer s hr=>?_⟩
 refine⟨_,(AC (AN 2 Qs (AZ G_41 (hr.mono (by decide)) rfl T.m_41 AM (AA (AH (Bk K) (pv 1) AD (λ_ _=>rfl)) AB)))
  (AC (AN 3 Qs (AZ G_66 (hr.mono (by decide)) rfl T.m_66 AM (AA (pv 0) (AA (AH (Bk K) (pv 1) AD (λ_ _=>rfl)) AB))))
  (AF (AL (AV hr G_90 T.m_90 (AA (pv 0) (AA (pv 2) (AA (AV hr G_83 T.m_83 (AA (pv 3) (AA (AZ G_18 (hr.mono (by decide)) rfl T.m_18 AM (AA (AH (Bk K) (pv 1) AD (λ_ _=>rfl)) AB)) AB))) AB)))))))),?_⟩
 walk_at "";obtain⟨w0,x,y,z,rfl,nx,l29,h⟩:=h;have tz:=tx z (ZS _ (ZS _ (ZS _ (ZZ ..))));refine (Bu (v:=.str x) (Ac.of hw) rfl ?_);refine QT (tx x (ZS _ (ZZ ..))) (.inr ⟨nx,λH1 e1=>?_⟩);refine (Bu (v:=.str y) (Ac.of (e1 _ _ hw)) rfl ?_);rcases h with⟨lk,r⟩|⟨q,n,lk,hz,qq⟩
 ·exact Bs (hR.same e1) (.inl ⟨lk,r.same e1⟩)
 refine Bs (hR.same e1) (.inr ⟨q,lk,λb ok=>?_⟩);refine (Bu (v:=.str z) (Ac.of (e1 _ _ hw)) rfl ?_);refine⟨z,rfl,tz,λn' hn' H2 e2=>?_,λno=>qE hz (no n)⟩;obtain rfl:n'=n:=Qd tz hn' hz;refine⟨b,q.g,q.lo,q.tq,q.m,n',rfl,ok.same e2,λr H3 e3 ok3=>?_⟩;have e13:=(e1.trans e2).trans e3;exact⟨d,r,x,rs,Mf q n',rfl,hR.same e13,l29,ok3,λH' sx hR'=>qq H' (λb o n z=>sx b o n (e13 _ _ z)) hR'⟩
theorem XT:AJ ["rules","words"] ["rules","words"] (AG US):=BS
theorem XU(T:A5 w K mg t)(G_66:Aa P w K mg base 1 t.f_66 ["rules","text"] (GD t)):Aa P w K mg base 2 t.f_57 ["rules","words"] (Bb (FI t)):=by
 refine BQ T.d_57 XT λvs H Q E h=>?_;obtain⟨d,a,rs,ws,rfl,hR,hw,tx,h⟩:=h;refine⟨rfl,λcb A outer s hr=>?_⟩
 refine⟨_,(AC (Ax (AZ G_66 (hr.mono (by decide)) rfl T.m_66 AM (AA (pv 0) (AA (AH (Bk K) (pv 1) AD (λ_ _=>rfl)) AB))))
  (AC (Ax (Cu bZ bt PySem.F.type_dict_pop NQ (pv 0) (AA (AH (Bk K) (pv 1) AD (λ_ _=>rfl)) AB)))
  (AF (AL AS)))),?_⟩
 walk_at "";obtain⟨w0,x,rfl,h⟩:=h;refine (Bu (v:=.str x) (Ac.of hw) rfl ?_);rcases h with h|⟨q,lk,qq⟩
 ·exact Bs hR (.inl h)
 refine Bs hR (.inr ⟨q,lk,λb ok=>?_⟩);obtain⟨kvs,c,hd,vv,hR'⟩:=hR.drop lk;exact⟨.inr (.inr (.inl (.inl ⟨kvs,hd⟩))),Bu (v:=.str x) (Ac.of hw) rfl ⟨kvs,.inr x,rfl,hd,⟨_,vv⟩,qq _ (A0.upd _) hR'⟩⟩
theorem XV:AJ ["rules","words"] ["rules","words"] (AG UT):=BS
theorem XW(T:A5 w K mg t) :Aa P w K mg base 1 t.f_44 ["rules","words"] (Bb FJ):=by
 refine BQ T.d_44 XV λvs H Q E h=>?_;obtain⟨d,a,rs,ws,rfl,hR,hw,tx,h⟩:=h;refine⟨rfl,λcb A outer s hr=>?_⟩;refine⟨_,(AF (AL (Cu Zu aI aJ DT AS (AA (AT (F5 rfl) rfl T.z_sorted PyProof.Rows.boot_sorted (AA (pv 0) AB)) AB)))),?_⟩;walk_at "";obtain⟨w0,rfl,h8,q⟩:=h;obtain⟨l9,kvs,hd,hp⟩:=hR;have ln:=Paired.length hp;refine⟨kvs,.inl hd,rs.map Prod.fst,Ir hp,by lia,λl zs hl pm so=>⟨zs,Ac.of AE,?_,q zs pm so _ (AI.new hl _)⟩⟩
 have a:=NR (l:=zs) λx hx=>by obtain⟨p,hp,rfl⟩:=Zs.mp (pm.mem_iff.mp hx);exact h8 p hp
 have b:=pm.length_eq;rw[ZM]at b;show _+zs.length*1<=_;lia
theorem XX:AJ ["rules","words"] ["rules","words"] (AG UU):=BS
theorem XY(T:A5 w K mg t)(G_45:Aa P w K mg base 2 t.f_45 ["one"] (Fn))(G_75:Aa P w K mg base 7 t.f_75 ["one"] (DC))(G_66:Aa P w K mg base 1 t.f_66 ["rules","text"] (GD t)):Aa P w K mg base 8 t.f_62 ["rules","words"] (Bb (FK t)):=by
 refine BQ T.d_62 XX λvs H Q E h=>?_;obtain⟨d,a,rs,ws,rfl,hR,hw,tx,h⟩:=h;refine⟨rfl,λcb A outer s hr=>?_⟩;refine⟨_,(AF (AL (AV hr G_45 T.m_45 (AA (AV hr G_75 T.m_75 (AA (AZ G_66 (hr.mono (by decide)) rfl T.m_66 AM (AA (pv 0) (AA (AH (Bk K) (pv 1) AD (λ_ _=>rfl)) AB))) AB)) AB)))),?_⟩;walk_at "";obtain⟨w0,x,rfl,h⟩:=h;refine (Bu (v:=.str x) (Ac.of hw) rfl ?_);rcases h with h|⟨q,l,M,lk,nw,far,qq⟩
 ·exact Bs hR (.inl h)
 refine Bs hR (.inr ⟨q,lk,λb ok=>?_⟩);refine⟨b,q.g,q.lo,q.tq,q.m,rfl,ok,λl' M' n r H1 e1 ok1=>?_⟩;obtain⟨rfl,rfl⟩:=QN ok.g2 ok.len n nw;exact⟨r,q.g,l',_,rfl,⟨ok1.v,ok1.g2,ok1.g9,ok1.tabOk,ok1.tb,far⟩,λH2 e2=>qq H2 (e1.trans e2)⟩
theorem XZ:AJ ["rules","words"] ["rules","words"] (AG UV):=BS
theorem Xa(T:A5 w K mg t)(G_39:Aa P w K mg base 5 t.f_39 ["one"] (EL))(G_66:Aa P w K mg base 1 t.f_66 ["rules","text"] (GD t)):Aa P w K mg base 6 t.f_27 ["rules","words"] (Bb (HW t)):=by
 refine BQ T.d_27 XZ λvs H Q E h=>?_;obtain⟨d,a,rs,ws,rfl,hR,hw,tx,h⟩:=h;refine⟨rfl,λcb A outer s hr=>?_⟩;refine⟨_,(AF (AL (Af An rfl T.z_str Zm (AA (AV hr G_39 T.m_39 (AA (AZ G_66 (hr.mono (by decide)) rfl T.m_66 AM (AA (pv 0) (AA (AH (Bk K) (pv 1) AD (λ_ _=>rfl)) AB))) AB)) AB)))),?_⟩;walk_at "";obtain⟨w0,x,rfl,h⟩:=h;refine (Bu (v:=.str x) (Ac.of hw) rfl ?_);rcases h with h|⟨q,lk,far,qq⟩
 ·exact Bs hR (.inl h)
 refine Bs hR (.inr ⟨q,lk,λb ok=>?_⟩);exact⟨b,q.g,q.lo,q.tq,rfl,ok.g2,ok.g9,ok.v,ok.tb,λH1 e1=>⟨_,rfl,Ha far,qq H1 e1⟩⟩
theorem So:AJ ["rules","words","one"] ["rules","words"] (AG UW):=BS
theorem Xb(T:A5 w K mg t)(G_66:Aa P w K mg base 1 t.f_66 ["rules","text"] (GD t))(G_48:Aa P w K mg base 1 t.f_48 ["truth"] (Qc))(G_87:Aa P w K mg base 8 t.f_87 ["one","other"] (MX)):Aa P w K mg base 9 t.f_61 ["rules","words"] (Bb (FL t)):=by
 refine BQ T.d_61 So λvs H Q E h=>?_;obtain⟨d,a,rs,ws,rfl,hR,hw,tx,h⟩:=h;refine⟨rfl,λcb A outer s hr=>?_⟩
 refine⟨_,(AC (AN 2 So (AZ G_66 (hr.mono (by decide)) rfl T.m_66 AM (AA (pv 0) (AA (AH (Bk K) (pv 1) AD (λ_ _=>rfl)) AB))))
  (AF (AL (AV hr G_48 T.m_48 (AA (AV hr G_87 T.m_87 (AA (pv 2) (AA (AZ G_66 (hr.mono (by decide)) rfl T.m_66 AM (AA (pv 0) (AA (AH (Bk K) (pv 1) AD (λ_ _=>rfl)) AB))) AB))) AB))))),?_⟩
 walk_at "";obtain⟨w0,x,y,rfl,h⟩:=h;refine (Bu (v:=.str x) (Ac.of hw) rfl ?_);rcases h with h|⟨q,lk,h⟩
 ·exact Bs hR (.inl h)
 refine Bs hR (.inr ⟨q,lk,λb ok=>?_⟩);refine (Bu (v:=.str y) (Ac.of hw) rfl ?_);rcases h with h|⟨r,lr,qq⟩
 ·exact Bs hR (.inl h)
 refine Bs hR (.inr ⟨r,lr,λc ok'=>?_⟩);exact⟨b,c,q.g,q.lo,q.tq,q.m,r.g,r.lo,r.tq,r.m,rfl,ok,ok',λv H1 e1 hv=>⟨v,rfl,qq v H1 hv e1⟩⟩
theorem Sq:AJ ["rules","words","one"] ["rules","words"] (AG UX):=BS
theorem Xc(T:A5 w K mg t)(G_66:Aa P w K mg base 1 t.f_66 ["rules","text"] (GD t))(G_46:Aa P w K mg base 2 t.f_46 ["word"] (DU K))(G_89:Aa P w K mg base 4 t.f_89 ["one","row"] (Pr K t.c_80))(G_43:Aa P w K mg base 2 t.f_43 ["text"] (E7 t.c_73)):Aa P w K mg base 5 t.f_67 ["rules","words"] (Bb (Cn t Mg 0)):=by
 refine BQ T.d_67 Sq λvs H Q E h=>?_;obtain⟨d,a,rs,ws,rfl,hR,hw,tx,h⟩:=h;refine⟨rfl,λcb A outer s hr=>?_⟩
 refine⟨_,(AC (AN 2 Sq (AZ G_66 (hr.mono (by decide)) rfl T.m_66 AM (AA (pv 0) (AA (AH (Bk K) (pv 1) AD (λ_ _=>rfl)) AB))))
  (AF (AL (AV hr G_46 T.m_46 (AA (AZ G_89 (hr.mono (by decide)) rfl T.m_89 AM (AA (pv 2) (AA (AZ G_43 (hr.mono (by decide)) rfl T.m_43 AM (AA (AH (Bk K) (pv 1) AD (λ_ _=>rfl)) AB)) AB))) AB))))),?_⟩
 walk_at "";obtain⟨w0,x,y,rfl,h⟩:=h;refine (Bu (v:=.str x) (Ac.of hw) rfl ?_);rcases h with h|⟨q,us,lk,hu,ub,_,ul,qq⟩
 ·exact Bs hR (.inl h)
 refine Bs hR (.inr ⟨q,lk,λb ok=>?_⟩);refine (Bu (v:=.str y) (Ac.of hw) rfl ?_);refine⟨.str y,rfl,tx y (ZS _ (ZS _ (ZZ ..))),λws z p H1 n=>?_,λz=>(by rw[hu]at z;cases z)⟩;rw[hu]at z;cases z;refine⟨b,p,q.g,q.lo,q.tq,q.m,_,rfl,ok.g2,ok.g9,ok.v.same n.1,ok.len,ok.m1,Ac.of n.2.2,CU,by rw[ZM];lia,?_⟩;rw[Bg ub];intro ns hns p2 H2 n2;obtain rfl:=B2 hns;exact⟨p2,_,rfl,Ac.of n2.2.2,LV ok,Iw us ul,λH3 e3=>qq H3 ((n.1.trans n2.1).trans e3)⟩
theorem Sr:AJ ["rules","words","one"] ["rules","words"] (AG UY):=BS
theorem Xd(T:A5 w K mg t)(G_66:Aa P w K mg base 1 t.f_66 ["rules","text"] (GD t))(G_46:Aa P w K mg base 2 t.f_46 ["word"] (DU K))(G_56:Aa P w K mg base 6 t.f_56 ["one","ring"] (Fd K t.c_80))(G_43:Aa P w K mg base 2 t.f_43 ["text"] (E7 t.c_73)):Aa P w K mg base 7 t.f_59 ["rules","words"] (Bb (Cn t HZ 1)):=by
 refine BQ T.d_59 Sr λvs H Q E h=>?_;obtain⟨d,a,rs,ws,rfl,hR,hw,tx,h⟩:=h;refine⟨rfl,λcb A outer s hr=>?_⟩
 refine⟨_,(AC (AN 2 Sr (AZ G_66 (hr.mono (by decide)) rfl T.m_66 AM (AA (pv 0) (AA (AH (Bk K) (pv 1) AD (λ_ _=>rfl)) AB))))
  (AF (AL (AV hr G_46 T.m_46 (AA (AZ G_56 (hr.mono (by decide)) rfl T.m_56 AM (AA (pv 2) (AA (AZ G_43 (hr.mono (by decide)) rfl T.m_43 AM (AA (AH (Bk K) (pv 1) AD (λ_ _=>rfl)) AB)) AB))) AB))))),?_⟩
 walk_at "";obtain⟨w0,x,y,rfl,h⟩:=h;refine (Bu (v:=.str x) (Ac.of hw) rfl ?_);rcases h with h|⟨q,us,lk,hu,ub,u1,ul,qq⟩
 ·exact Bs hR (.inl h)
 refine Bs hR (.inr ⟨q,lk,λb ok=>?_⟩);refine (Bu (v:=.str y) (Ac.of hw) rfl ?_);refine⟨.str y,rfl,tx y (ZS _ (ZS _ (ZZ ..))),λws z p H1 n=>?_,λz=>(by rw[hu]at z;cases z)⟩;rw[hu]at z;cases z;refine⟨b,p,q.g,q.lo,q.tq,q.m,_,rfl,ok.g2,ok.g9,ok.v.same n.1,ok.len,ok.m1,ok.m8,ok.tb,Ac.of n.2.2,CU,by rw[ZM];lia,?_⟩;rw[Hz ub u1];intro ns hns p2 H2 n2;obtain rfl:=B2 hns;exact⟨p2,_,rfl,Ac.of n2.2.2,Ix ok,Hi us ul,λH3 e3=>qq H3 ((n.1.trans n2.1).trans e3)⟩
theorem Ss:AJ ["rules","words","one"] ["rules","words"] (AG UZ):=BS
theorem Xe(T:A5 w K mg t)(G_66:Aa P w K mg base 1 t.f_66 ["rules","text"] (GD t))(G_17:Aa P w K mg base 4 t.f_17 ["one","row"] (MT K t.c_80))(G_43:Aa P w K mg base 2 t.f_43 ["text"] (E7 t.c_73)):Aa P w K mg base 5 t.f_26 ["rules","words"] (Bb (Cn t Mh 0)):=by
 refine BQ T.d_26 Ss λvs H Q E h=>?_;obtain⟨d,a,rs,ws,rfl,hR,hw,tx,h⟩:=h;refine⟨rfl,λcb A outer s hr=>?_⟩
 refine⟨_,(AC (AN 2 Ss (AZ G_66 (hr.mono (by decide)) rfl T.m_66 AM (AA (pv 0) (AA (AH (Bk K) (pv 1) AD (λ_ _=>rfl)) AB))))
  (AF (AL (Af An rfl T.z_str Zm (AA (AZ G_17 (hr.mono (by decide)) rfl T.m_17 AM (AA (pv 2) (AA (AZ G_43 (hr.mono (by decide)) rfl T.m_43 AM (AA (AH (Bk K) (pv 1) AD (λ_ _=>rfl)) AB)) AB))) AB))))),?_⟩
 walk_at "";obtain⟨w0,x,y,rfl,h⟩:=h;refine (Bu (v:=.str x) (Ac.of hw) rfl ?_);rcases h with h|⟨q,us,lk,hu,ub,u1,ul,qq⟩
 ·exact Bs hR (.inl h)
 refine Bs hR (.inr ⟨q,lk,λb ok=>?_⟩);refine (Bu (v:=.str y) (Ac.of hw) rfl ?_);refine⟨.str y,rfl,tx y (ZS _ (ZS _ (ZZ ..))),λws z p H1 n=>?_,λz=>(by rw[hu]at z;cases z)⟩;rw[hu]at z;cases z;refine⟨b,p,q.g,q.lo,q.tq,q.m,_,rfl,ok.same n.1,Ac.of n.2.2,CU,by rw[ZM];lia,?_⟩;rw[Bg ub];intro ns hns H2 e2;obtain rfl:=B2 hns;exact⟨_,rfl,Ha (NV ok ul),qq H2 (n.1.trans e2)⟩
theorem Yw:AJ ["self"] ["self"] (AG Yg):=BS
theorem Yx(T:A5 w K mg t) :Aa P w K mg base 1 t.f_4 ["self"] (QU t):=by
 refine Ar T.d_4 Yw λvs H Q E h=>?_;obtain⟨x,dx,rfl,hx,q⟩:=h;refine⟨rfl,λcb A outer s hr=>?_⟩;refine⟨_,(AF (TC (pv 0) LK rfl)),?_⟩;walk_at "";intro d hd;have dx':d≠x:=λe=>by rw[e,hx]at hd;cases hd
 refine⟨_,rfl,x,_,dx,[],rfl,AI.new hd _ _ _ hx,T.th_84.cl,T.na_Book_rules,by decide,?_⟩;exact q d _ (λH2 e n=>(e.trans (AI.new hd _)).into n) hd ⟨⟨dx,AE⟩,Zw _,[],by rw[AR dx'];exact AE,.nil⟩
theorem Su:AJ ["self","row","words"] ["self","row"] (AG Ua):=BS
theorem Xf(T:A5 w K mg t)(G_60:Aa P w K mg base 6 t.f_60 ["rules","words"] (Bb GY))(G_63:Aa P w K mg base 7 t.f_63 ["rules","words"] (Bb (FG t)))(G_58:Aa P w K mg base 6 t.f_58 ["rules","words"] (Bb (FH t)))(G_57:Aa P w K mg base 2 t.f_57 ["rules","words"] (Bb (FI t)))(G_44:Aa P w K mg base 1 t.f_44 ["rules","words"] (Bb FJ))(G_62:Aa P w K mg base 8 t.f_62 ["rules","words"] (Bb (FK t)))(G_27:Aa P w K mg base 6 t.f_27 ["rules","words"] (Bb (HW t)))(G_61:Aa P w K mg base 9 t.f_61 ["rules","words"] (Bb (FL t)))(G_67:Aa P w K mg base 5 t.f_67 ["rules","words"] (Bb (Cn t Mg 0)))(G_59:Aa P w K mg base 7 t.f_59 ["rules","words"] (Bb (Cn t HZ 1)))(G_26:Aa P w K mg base 5 t.f_26 ["rules","words"] (Bb (Cn t Mh 0))):Aa P w K mg base 10 t.f_49 ["self","row"] (Hb t):=by
 refine BQ T.d_49 Su λvs H Q E h=>?_;obtain⟨b,d,rs,x,rfl,bk,tx,w0,ws,hsp,n0,f0,y0,wn,h⟩:=h;refine⟨rfl,λcb A outer s hr=>?_⟩
 refine⟨_,(AC (Ai (Bv (Bc (DN rfl T.z_isinstance (pv 1) (Fv rfl T.z_str PyProof.Rows.boot_str)))) (AF (A6 rfl T.x_79 rfl T.m_79 Aj (AA AS AB))) AX)
  (AC (AN 2 Su (Cu Zu PySem.F.slot_str_split PySem.F.type_str_split LB (pv 1) (AA AS AB)))
  (AC (Ai (PW.pt (DY (Ga (Oc T.r_ROWS rfl rfl T.m_ROWS (AH (Bk K) (pv 2) AD (λ_ _=>rfl))) (h1:=by with_unfolding_all rfl)) (DH (AU Ef (AT (Eb K) rfl T.z_len Za (AA (pv 2) AB)) (AH (BN K) (NP T.r_ROWS rfl rfl T.m_ROWS (AH (Bk K) (pv 2) AD (λ_ _=>rfl)) (λ_ _=>rfl)) AD (λ_ _=>rfl)) (AY _))))) (AF (A6 rfl T.x_79 rfl T.m_79 Aj (AA AS AB))) AX)
  (AF (AL (Od (P:=P) (w:=w) (K:=K) (mg:=mg) (base:=base) (k:=9) (hr.mono (by decide)) AM (AH (BN K) (NP T.r_ROWS rfl rfl T.m_ROWS (AH (Bk K) (pv 2) AD (λ_ _=>rfl)) (λ_ _=>rfl)) AD (λ_ _=>rfl)) (AA (TB (pv 0) rfl) (AA (pv 2) AB)))))))),?_⟩
 have no:∀{k:qM} {n:Nat},WG P w K mg base (n,HV) (.ref k):=λ{k n}=>⟨k,rfl,.inl rfl⟩
 have c5:Paired (λ(p:Str×Nat×EW) (q:Str×V)=>p.1=q.1/\WG P w K mg base p.2 q.2) (Uu t) (Im t):=(.cons ⟨rfl,_,rfl,.inr ⟨_,_,T.q_ROWS_rule,G_60.mono (by decide)⟩⟩ (.cons ⟨rfl,no⟩ (.cons ⟨rfl,_,rfl,.inr ⟨_,_,T.q_ROWS_turn,G_63.mono (by decide)⟩⟩ (.cons ⟨rfl,no⟩ (.cons ⟨rfl,_,rfl,.inr ⟨_,_,T.q_ROWS_move,G_58.mono (by decide)⟩⟩ (.cons ⟨rfl,_,rfl,.inr ⟨_,_,T.q_ROWS_drop,G_57.mono (by decide)⟩⟩ (.cons ⟨rfl,_,rfl,.inr ⟨_,_,T.q_ROWS_names,G_44.mono (by decide)⟩⟩ (.cons ⟨rfl,_,rfl,.inr ⟨_,_,T.q_ROWS_show,G_62.mono (by decide)⟩⟩ (.cons ⟨rfl,_,rfl,.inr ⟨_,_,T.q_ROWS_number,G_27.mono (by decide)⟩⟩ (.cons ⟨rfl,_,rfl,.inr ⟨_,_,T.q_ROWS_same,G_61.mono (by decide)⟩⟩ (.cons ⟨rfl,_,rfl,.inr ⟨_,_,T.q_ROWS_led,G_67.mono (by decide)⟩⟩ (.cons ⟨rfl,_,rfl,.inr ⟨_,_,T.q_ROWS_ring,G_59.mono (by decide)⟩⟩ (.cons ⟨rfl,_,rfl,.inr ⟨_,_,T.q_ROWS_before,G_26.mono (by decide)⟩⟩ (.cons ⟨rfl,no⟩ (.cons ⟨rfl,no⟩ (.cons ⟨rfl,no⟩ .nil))))))))))))))));walk_at "";refine⟨_,.of (.str x),true,QG,?_⟩;rw[qC (by decide)];obtain⟨wl,wk⟩:=QV tx;unfold D1 at wl wk;refine⟨rfl,Cj tx.2,Zl (show _<=1000 by lia) (by decide),λl hl=>?_⟩;rw[hsp]at wl wk⊢;have e1:=AI.new hl (.lst ((w0::ws).map V.str));have h1:Am H l (.lst ((w0::ws).map V.str)) l=some (.lst ((w0::ws).map V.str)):=AE;obtain⟨⟨dx,hb⟩,hR⟩:=bk;generalize Am H l (.lst ((w0::ws).map V.str))=H1 at e1 h1⊢;have a0:Fu ((w0::ws).map V.str) 0=some (.str w0):=Ct (j:=0) rfl;refine⟨_,rfl,l,_,0,.str w0,rfl,rfl,Ac.of h1,a0,w0,rfl,?_⟩;rcases LR (w:=w0) c5 with⟨z,_⟩|⟨⟨n,f⟩,v',z,z',k,rfl,hk⟩
 ·rw[z]at y0;cases y0
 rw[z]at y0;cases y0;rw[z'];refine⟨false,rfl,?_⟩;rw[qC (by decide)];rcases hk with rfl|⟨fa,ps,tv,G⟩
 ·exact (h _ e1).elim
 have sq:=Rv tv H1;refine⟨_,.inl (Ac.of h1),_,rfl,l,_,0,.str w0,rfl,rfl,Ac.of h1,a0,w0,_,rfl,z',k,_,0,_,rfl,rfl,sq,rfl,rfl,?_⟩;rw[ZM,Zb];rw[qC (λy=>y (by rw[wn]))];refine⟨_,rfl,l,_,0,.str w0,rfl,rfl,Ac.of h1,a0,w0,_,rfl,z',k,_,1,_,rfl,rfl,sq,rfl,fa,ps,Bb _,rfl,G,_,rfl,b,_,dx,_,.ref d,rfl,e1 _ _ hb,T.th_84.cl,T.na_Book_rules,rfl,_,rfl,?_⟩;exact⟨d,l,rs,w0::ws,rfl,hR.same e1,h1,wk,h _ e1⟩
theorem Yy:AJ ["_law_script","_law_k"] ["_law_script","_law_k"] (AG Yh):=BS
theorem Yz(T:A5 w K mg t) :Aa P w K mg base 1 t.f_5 ["_law_script","_law_k"] (L6 K):=by
 refine Ar T.d_5 Yy λvs H Q E h=>?_;obtain⟨a,ns,k,rfl,hS,h63,q⟩:=h;refine⟨rfl,λcb A outer s hr=>?_⟩
 refine⟨_,(AC (Ai (AU Dc (pv 1) (AT (Eb K) rfl T.z_len Za (AA (pv 0) AB)) (AY _)) (AF (AL (AH (Bk K) (pv 0) (pv 1) (λ_ _=>rfl)))) AX)
  (AF (AL AD))),?_⟩
 walk_at "";refine⟨_,.inl hS,?_⟩;rw[ZM]
 by_cases h:(k:Int)<(ns.length:Int)
 ·rw[qD h];have hk:k<ns.length:=by lia
  refine⟨a,_,k,.int (ns.getD k 0),rfl,rfl,hS,Ct ?_,q⟩;rw[Zk,ZP hk,ZQ,ZP hk];rfl
 ·rw[qC h];have e:ns.getD k 0=0:=by rw[ZQ,Z9 (by lia)];rfl
  rw[e]at q;exact q
theorem Lc:AJ ["_law_cell","_law_many_here","_law_found","_law_number","_law_k"] ["_law_cell","_law_many_here"] (AG Ub):=BS
theorem Xg(T:A5 w K mg t) :Aa P w K mg base 1 t.f_14 ["_law_cell","_law_many_here"] (Cb):=by
 refine Ar T.d_14 Lc λvs H Q E h=>?_;obtain⟨c,m,rfl,m0,m3,q⟩:=h;refine⟨rfl,λcb A outer s hr=>?_⟩
 refine⟨_,(AC (AN 2 Lc (Ay AB))
  (AC (AN 3 Lc (AK Aw (AK At (pv 0) AD) AD))
  (AC (BB PassesOwn.never rfl (Aq rfl T.z_range (AA (pv 1) AB)) (BR 4 Lc) (AC (AN 3 Lc (AK At (AK Aw (AK Aw (AK Be (pv 3) AD) (AK Be (pv 4) (pv 4))) AD) AD))
  (AF (Ax (QS K (pv 2) (AA (AK Bw (pv 3) AD) AB))))))
  (AF (AL (pv 2)))))),?_⟩
 walk_at "";refine⟨Zw _,λp hp=>⟨by decide,?_⟩⟩;refine⟨_,rfl,m,rfl,by lia,by lia,?_⟩;refine A7 (n:=m.toNat) (λi σ H1=>∃(l:qR) (x3:Int) (x4:Option V),(l.length=i/\∀x∈l,0<=x/\x<2147483647)/\σ=[some (.int c),some (.int m),some (.ref p),some (.int x3),x4]/\H1=Am H p (.lst (l.map V.int))) ⟨[],_,none,⟨rfl,λx h=>by cases h⟩,rfl,rfl⟩ ?_ ?_
 ·refine C0 ?_;rintro _ _ i _ hGo σ H1 hi ⟨l,x3,x4,⟨hl,hb⟩,rfl,rfl⟩;refine hGo _ _ ?_;walk_at "";refine⟨.inr ⟨by decide,by decide⟩,.inl ⟨by lia,by lia⟩,by decide,.inl ⟨_,Ac.of AE⟩,by decide,by decide,_,AE,?_,l++[(x3*48271+(0+(i:Int))*(0+(i:Int))+11)%2147483647/7],?_,λx hx=>?_,?_⟩
  ·rw[ZM];exact Ad (by lia)
  ·rw[Zg,hl];rfl
  ·rcases aQ.mp hx with y|y
   ·exact hb x y
   ·rw[ZX.mp y];generalize x3*48271+(0+(i:Int))*(0+(i:Int))+11=u;lia
  ·rw[BH,Zf];rfl
 ·rintro σ H1 ⟨l,x3,x4,⟨hl,hb⟩,rfl,rfl⟩;walk_at "";exact q p _ l hl hb (AI.new hp _) hp AE
theorem Ng:AJ ["_law_signs","_law_many_here","_law_size_here","_law_k"] ["_law_signs","_law_many_here"] (AG Uc):=BS
theorem Xh(T:A5 w K mg t) :Aa P w K mg base 1 t.f_33 ["_law_signs","_law_many_here"] (Fh):=by
 refine Ar T.d_33 Ng λvs H Q E h=>?_;obtain⟨g,m,rfl,g2,g9,m3,q⟩:=h;refine⟨rfl,λcb A outer s hr=>?_⟩
 refine⟨_,(AC (AN 2 Ng AD)
  (AC (BB PassesOwn.never rfl (Aq rfl T.z_range (AA (pv 1) AB)) (BR 3 Ng) (AF (AN 2 Ng (AK Be (pv 2) (pv 0)))))
  (AF (AL (pv 2))))),?_⟩
 walk_at "";refine⟨_,rfl,_,rfl,by lia,by lia,?_⟩;refine A7 (n:=m) (λi σ H1=>∃x,σ=[some (.int g),some (.int ((m:Nat):Int)),some (.int (g^i)),x]/\H1=H) ⟨none,by rw[aM],rfl⟩ ?_ ?_
 ·refine C0 ?_;rintro _ _ i _ hGo σ H1 hi ⟨x,rfl,rfl⟩;refine hGo _ _ ?_;walk_at "";refine⟨.inr ⟨by lia,by lia⟩,?_⟩;rw[Z2];exact⟨rfl,_,rfl⟩
 ·rintro σ H1 ⟨x,rfl,rfl⟩;walk_at "";exact q
theorem Qt:AJ ["_law_one","_law_many_here"] ["_law_one"] (AG Ud):=BS
theorem Xi(T:A5 w K mg t)(G_33:Aa P w K mg base 1 t.f_33 ["_law_signs","_law_many_here"] (Fh)):Aa P w K mg base 2 t.f_13 ["_law_one"] (CF):=by
 refine Ar T.d_13 Qt λvs H Q E h=>?_;obtain⟨r,g,lo,c5,m,rfl,ok,q⟩:=h;refine⟨rfl,λcb A outer s hr=>?_⟩
 refine⟨_,(AC (AN 1 Qt AD)
  (AC (Ed PassesOwn.never (AU Dc (AV hr G_33 T.m_33 (AA (AH (BN K) (pv 0) AD (λ_ _=>rfl)) (AA (pv 1) AB))) (AT (Eb K) rfl T.z_len Za (AA (AH (BN K) (pv 0) AD (λ_ _=>rfl)) AB)) (AY _)) (AF (AN 1 Qt (AK Aw (pv 1) AD))))
  (AF (AL (pv 1))))),?_⟩
 refine Ak.el ok.v λtb h1 h2=>?_;have g2:=ok.g2;have g9:=ok.g9;have m1:=ok.m1;have m8:=ok.m8;have hl:=ok.len;have sz:=ok.sz;have hlm:(c5.map V.int).length=c5.length:=ZM ..;walk_at ""
 refine Ee (λσ H1=>∃i:Nat,1<=i/\i<=m/\σ=[some (.ref r),some (.int ((i:Nat):Int))]/\H1=H)
  (λ(σ:St) (H1:Hp)=>match σ[1]? with|some (some (V.int x))=>m-x.toNat|_=>0) ⟨1,ZR _,m1,rfl,rfl⟩ ?_ ?_
 ·rintro σ H1 ⟨i,i1,im,rfl,rfl⟩;have pi:=BE g2 im;walk_at "";refine (BU (Ao.of h1) rfl ⟨g,i,rfl,g2,g9,by lia,?_⟩);refine (BU (Ao.of h1) rfl ⟨tb,rfl,_,.inr (Ao.of h2),_,rfl,?_⟩);rw[hlm,hl]
  by_cases him:i<m
  ·rw[qD (ME g2 him)];exact⟨⟨i+1,by lia,by lia,by lia,rfl⟩,by lia⟩
  ·have:i=m:=by lia
   subst this;rw[qC (Int.lt_irrefl _)];exact q
 ·intro σ H1 Q1 Q2 hq;walk_at "";rintro⟨v,c1,p,xs,k,w,e1,e2,e3,e4,v2,c2,gg,mm',e5,a1,a2,a3,v3,c3,p',xs',k',w',e6,e7,e8,e9,q',e10,y,hy,i,e11,c6⟩;exact⟨v,c1,p,xs,k,w,e1,e2,e3,e4,v2,c2,gg,mm',e5,a1,a2,a3,v3,c3,p',xs',k',w',e6,e7,e8,e9,q',e10,y,hy,i,e11,hq _ _ c6⟩
theorem Nh:AJ ["_law_number","_law_signs","_law_many_here","_law_word_here","_law_k"] ["_law_number","_law_signs","_law_many_here"] (AG Ue):=BS
theorem Xj(T:A5 w K mg t) :Aa P w K mg base 1 t.f_35 ["_law_number","_law_signs","_law_many_here"] (Jo):=by
 refine Ar T.d_35 Nh λvs H Q E h=>?_;obtain⟨n,g,m,rfl,g2,g9,m0,m3,q⟩:=h;refine⟨rfl,λcb A outer s hr=>?_⟩
 refine⟨_,(AC (AN 3 Nh (Ay AB))
  (AC (BB PassesOwn.never rfl (Aq rfl T.z_range (AA (pv 2) AB)) (BR 4 Nh) (AC (Ax (QS K (pv 3) (AA (AK At (pv 0) (pv 1)) AB)))
  (AF (AN 0 Nh (AK Bw (pv 0) (pv 1))))))
  (AF (AL (Ej rfl rfl T.z_reversed rfl T.z_list (AA (pv 3) AB)))))),?_⟩
 walk_at "";refine⟨Zw _,λp hp=>?_⟩;refine⟨_,rfl,m,rfl,by lia,by lia,?_⟩;refine A7 (n:=m.toNat) (λi σ H1=>∃x4,σ=[some (.int (dr g n i)),some (.int g),some (.int m),some (.ref p),x4]/\AI H H1/\H1 p=some (.lst ((Bt g n i).map V.int))) ⟨none,rfl,AI.new hp _,AE⟩ ?_ ?_
 ·refine C0 ?_;rintro _ _ i _ hGo σ H1 hi ⟨x4,rfl,e,hp1⟩;refine hGo _ _ ?_;walk_at "";refine⟨.inl ⟨_,Ac.of hp1⟩,by lia,_,hp1,?_,by lia,by lia,rfl,e.into hp,?_⟩
  ·rw[ZM,Bh];exact Ad (by lia)
  ·rw[AE,Bt,Zf];rfl
 ·rintro σ H1 ⟨x4,rfl,e,hp1⟩;walk_at "";refine⟨_,Ac.of hp1,λp2 hp2=>q p2 _ ⟨e.trans (AI.new hp2 _),e.free hp2,?_⟩⟩;rw[AE,<-aV];rfl
theorem Ni:AJ ["_law_word_here","_law_signs","_law_number","_law_sign"] ["_law_word_here","_law_signs"] (AG Uf):=BS
theorem Xk(T:A5 w K mg t) :Aa P w K mg base 1 t.f_21 ["_law_word_here","_law_signs"] (FM):=by
 refine Ar T.d_21 Ni λvs H Q E h=>?_;obtain⟨a,ws,g,rfl,hS,g2,g9,q⟩:=h;refine⟨rfl,λcb A outer s hr=>?_⟩
 refine⟨_,(AC (AN 2 Ni AD)
  (AC (BB PassesOwn.never rfl (Qw K (pv 0)) (BR 3 Ni) (AF (AN 2 Ni (AK Aw (AK Be (pv 2) (pv 1)) (pv 3)))))
  (AF (AL (pv 2))))),?_⟩
 walk_at "";refine⟨_,rfl,a,rfl,⟨_,Ac.of hS⟩,?_⟩;refine C6 (xs:=ws.map V.int) (λi σ H1=>∃x3,σ=[some (.ref a),some (.int g),some (.int (BZ g (ws.take i))),x3]/\H1=H) ⟨_,rfl,rfl⟩ (λi σ H1 _ z=>by obtain⟨_,_,e⟩:=z;rw[e];exact Ac.of hS) ?_ ?_
 ·refine LO ?_;rintro _ _ i x _ hGo σ H1 hx ⟨x3,rfl,rfl⟩;refine hGo _ _ ?_;obtain⟨n,hn,rfl⟩:=B3 hx;walk_at "";refine⟨.inr ⟨by lia,by lia⟩,?_⟩;rw[Dg hn];exact⟨rfl,_,rfl⟩
 ·rintro σ H1 ⟨x3,rfl,rfl⟩;rw[ZM,Zx];walk_at "";exact q
theorem Hk:AJ ["_law_one","_law_row","_law_many_here","_law_found","_law_k","_law_at","_law_sign"] ["_law_one","_law_row"] (AG Ug):=BS
theorem Xl(T:A5 w K mg t)(G_13:Aa P w K mg base 2 t.f_13 ["_law_one"] (CF)):Aa P w K mg base 3 t.f_53 ["_law_one","_law_row"] (MU K):=by
 refine Ar T.d_53 Hk λvs H Q E h=>?_;obtain⟨r,a,g,lo,c5,m,ns,rfl,ok,hS,hb,hn,q⟩:=h;refine⟨rfl,λcb A outer s hr=>?_⟩
 refine⟨_,(AC (AN 2 Hk (AV hr G_13 T.m_13 (AA (pv 0) AB)))
  (AC (AN 3 Hk (Ay AB))
  (AC (BB PassesOwn.never rfl (Aq rfl T.z_range (AA (AK Aw (AK BO (AT (Eb K) rfl T.z_len Za (AA (pv 1) AB)) (pv 2)) AD) AB)) (BR 4 Hk) (AC (AN 5 Hk AD)
  (AC (BB PassesOwn.never rfl (Qw K (Bn Dt (pv 1) (Bp (pv 4)) (Bp (AK Aw (pv 4) (pv 2))))) (BR 6 Hk) (AF (AN 5 Hk (AK Aw (AK Be (pv 5) (AH (BN K) (pv 0) AD (λ_ _=>rfl))) (pv 6)))))
  (AF (Ax (QS K (pv 3) (AA (AH (BN K) (AH (BN K) (pv 0) AD (λ_ _=>rfl)) (pv 5) (λ_ _=>rfl)) AB)))))))
  (AF (AL (pv 3)))))),?_⟩
 refine Ak.el ok.v λtb h1 h2=>?_;have g2:=ok.g2;have g9:=ok.g9;have m8:=ok.m8;have hl:=ok.len;have hns:(ns.map V.int).length=ns.length:=ZM ..;walk_at "";refine⟨r,g,lo,c5,m,rfl,ok,Zw _,λp hp=>?_⟩;refine⟨_,rfl,a,rfl,_,.inl ((AI.new hp _).seq hS),_,rfl,_,_,rfl,rfl,_,_,rfl,rfl,_,rfl,?_,?_,?_⟩
 ·rw[hns];lia
 ·rw[hns];lia
 rw[hns];refine A7 (n:=((ns.length:Int)-(m:Int)+1).toNat) (λi σ H1=>∃x4 x5 x6,σ=[some (.ref r),some (.ref a),some (.int m),some (.ref p),x4,x5,x6]/\AI H H1/\H1 p=some (.lst (((List.range i).map (Rf g c5 m ns)).map V.int))) ⟨none,none,none,rfl,AI.new hp _,AE⟩ ?_ ?_
 ·refine C0 ?_;rintro _ _ i _ hGo σ H1 hi ⟨x4,x5,x6,rfl,e,hp1⟩;refine hGo _ _ ?_;walk_at "";have hi':i+m<=ns.length:=by lia
  have ei:(0:Int)+(i:Int)=((i:Nat):Int):=by lia
  have ej:((i:Nat):Int)+((m:Nat):Int)=((i+m:Nat):Int):=by lia
  rw[ei];refine⟨_,rfl,_,rfl,_,rfl,_,rfl,_,rfl,_,_,rfl,rfl,_,rfl,?_⟩;rw[ej];refine FZ (e.seq hS) λp8 H8 e8 _ h8=>?_;rw[Pl (by lia) (by rw[ZM];lia),<-bX,<-List.map_take,show i+m-i=m by lia]at h8;have wb:∀n∈(ns.drop i).take m,0<=n/\n<g:=λn hn=>hb n (aK (aW hn))
  have e9:=e.trans e8;have wi:=Pq g2 hb hl (k:=i) hi';refine⟨p8,rfl,⟨_,Ac.of h8⟩,?_⟩;refine C6 (xs:=((ns.drop i).take m).map V.int) (λj σ H2=>(∃x6,σ=[some (.ref r),some (.ref a),some (.int ((m:Nat):Int)),some (.ref p),some (.int ((i:Nat):Int)),some (.int (BZ g (((ns.drop i).take m).take j))),x6])/\H2=H8) ⟨⟨_,rfl⟩,rfl⟩ (λj σ H2 _ z=>by rw[z.2];exact Ac.of h8) ?_ ?_
  ·refine LO ?_;rintro _ _ j x _ hGo σ H2 hx ⟨⟨x6,rfl⟩,rfl⟩;refine hGo _ _ ?_;obtain⟨n,hn,rfl⟩:=B3 hx;walk_at "";refine (BU (Ao.of (e9 _ _ h1)) rfl ?_);walk_at "";refine⟨.inr ⟨by lia,by lia⟩,?_⟩;rw[Dg hn];exact⟨rfl,_,rfl⟩
  ·rintro σ H2 ⟨⟨x6,rfl⟩,rfl⟩;rw[ZM,Zx];walk_at "";refine⟨.inl ⟨_,Ac.of (e8 _ _ hp1)⟩,BU (Ao.of (e9 _ _ h1)) rfl (BU (Ao.of (e9 _ _ h2)) (Bm wi.1 wi.2) ⟨_,e8 _ _ hp1,?_,?_⟩)⟩
   ·rw[ZM,ZM,Zc];exact Ad (by lia)
   refine⟨⟨_,rfl⟩,e9.into hp,?_⟩;rw[AE,As,Zf];rfl
 ·rintro σ H1 ⟨x4,x5,x6,rfl,e,hp1⟩;walk_at "";refine q p H1 ⟨e,hp,?_⟩;rw[hp1];unfold Fb;rw[show ((ns.length:Int)-(m:Int)+1).toNat=ns.length+1-m by lia]
theorem Mp:AJ ["_law_one","_law_ring","_law_many_here","_law_found","_law_i","_law_at","_law_j"] ["_law_one","_law_ring"] (AG Yi):=BS
theorem Y0(T:A5 w K mg t)(G_13:Aa P w K mg base 2 t.f_13 ["_law_one"] (CF)):Aa P w K mg base 3 t.f_3 ["_law_one","_law_ring"] (Fq K):=by
 refine Ar T.d_3 Mp λvs H Q E h=>?_;obtain⟨r,a,g,lo,c5,m,ns,rfl,ok,hS,hb,n1,n3,q⟩:=h;refine⟨rfl,λcb A outer s hr=>?_⟩
 refine⟨_,(AC (AN 2 Mp (AV hr G_13 T.m_13 (AA (pv 0) AB)))
  (AC (AN 3 Mp (Ay AB))
  (AC (BB PassesOwn.never rfl (Aq rfl T.z_range (AA (AT (Eb K) rfl T.z_len Za (AA (pv 1) AB)) AB)) (BR 4 Mp) (AC (AN 5 Mp AD)
  (AC (BB PassesOwn.never rfl (Aq rfl T.z_range (AA (pv 2) AB)) (BR 6 Mp) (AF (AN 5 Mp (AK Aw (AK Be (pv 5) (AH (BN K) (pv 0) AD (λ_ _=>rfl))) (AH (Bk K) (pv 1) (AK At (AK Aw (AK Aw (pv 4) (AH (BN K) (pv 0) AD (λ_ _=>rfl))) (pv 6)) (AT (Eb K) rfl T.z_len Za (AA (pv 1) AB))) (λ_ _=>rfl))))))
  (AF (Ax (QS K (pv 3) (AA (AH (BN K) (AH (BN K) (pv 0) AD (λ_ _=>rfl)) (pv 5) (λ_ _=>rfl)) AB)))))))
  (AF (AL (pv 3)))))),?_⟩
 refine Ak.el ok.v λtb h1 h2=>?_;have g2:=ok.g2;have g9:=ok.g9;have m8:=ok.m8;have hl:=ok.len;have hns:(ns.map V.int).length=ns.length:=ZM ..;walk_at "";refine⟨r,g,lo,c5,m,rfl,ok,Zw _,λp hp=>?_⟩;refine⟨_,rfl,a,rfl,_,.inl ((AI.new hp _).seq hS),_,rfl,?_,?_,?_⟩
 ·lia
 ·lia
 rw[hns];refine A7 (n:=ns.length) (λi σ H1=>∃x4 x5 x6,σ=[some (.ref r),some (.ref a),some (.int ((m:Nat):Int)),some (.ref p),x4,x5,x6]/\H1=Am H p (.lst (((List.range i).map (λi:Nat=>c5.getD (BZ g (Cg ns m ((i:Int)+lo))).toNat 0)).map V.int))) ⟨none,none,none,rfl,rfl⟩ ?_ ?_
 ·refine C0 ?_;rintro _ _ i _ hGo σ H1 hi ⟨x4,x5,x6,rfl,rfl⟩;refine hGo _ _ ?_;walk_at "";have ei:(0:Int)+(i:Int)=((i:Nat):Int):=by lia
  rw[ei];have ex:=AI.new hp (.lst (((List.range i).map (λi:Nat=>c5.getD (BZ g (Cg ns m ((i:Int)+lo))).toNat 0)).map V.int));have wl:=OH ns m ((i:Int)+lo);have wb:=Ps g2 hb m ((i:Int)+lo);have nb:=C3 g2 wb;rw[wl,<-hl]at nb;refine⟨_,rfl,_,rfl,by lia,by lia,?_⟩;refine A7 (n:=m) (λj σ H2=>(∃x6,σ=[some (.ref r),some (.ref a),some (.int ((m:Nat):Int)),some (.ref p),some (.int ((i:Nat):Int)),some (.int (BZ g ((Cg ns m ((i:Int)+lo)).take j))),x6])/\H2=Am H p (.lst (((List.range i).map (λi:Nat=>c5.getD (BZ g (Cg ns m ((i:Int)+lo))).toNat 0)).map V.int))) ⟨⟨_,rfl⟩,rfl⟩ ?_ ?_
  ·refine C0 ?_;rintro _ _ j _ hGo σ H2 hj ⟨⟨x6,rfl⟩,rfl⟩;refine hGo _ _ ?_;walk_at "";refine (BU (Ao.of (ex _ _ h1)) rfl ?_);walk_at "";have gj:(Cg ns m ((i:Int)+lo))[j]?=some (Dl ns ((i:Int)+lo+(j:Int))):=by unfold Cg;rw[Zk,bR hj];rfl
   have rz:=NA (z:=(i:Int)+lo+(j:Int)) n1;refine⟨.inr ⟨by lia,by lia⟩,BU (Ao.of (ex _ _ h1)) rfl ⟨lo,rfl,_,.inl (ex.seq hS),by rw[hns];lia,?_⟩⟩;rw[hns,Z0];refine⟨a,_,_,_,rfl,rfl,ex.seq hS,Bm (by lia) rz.1,_,rfl,?_,⟨_,rfl⟩,rfl⟩;rw[Dg gj];rfl
  ·rintro σ H2 ⟨⟨x6,rfl⟩,rfl⟩;have tk:(Cg ns m ((i:Int)+lo)).take m=Cg ns m ((i:Int)+lo):=Zz (by lia);rw[tk];walk_at "";refine⟨.inl ⟨_,Ac.of AE⟩,BU (Ao.of (ex _ _ h1)) rfl (BU (Ao.of (ex _ _ h2)) (Bm nb.1 (by lia)) ⟨_,AE,?_,⟨_,rfl⟩,?_⟩)⟩
   ·rw[ZM,ZM,Zc];exact Ad (by lia)
   rw[BH,As,Zf];rfl
 ·rintro σ H1 ⟨x4,x5,x6,rfl,rfl⟩;walk_at "";exact q p _ ⟨AI.new hp _,hp,AE⟩
theorem Hl:AJ ["_law_one","_law_row","_law_ends","_law_now","_law_sign","_law_then","_law_at"] ["_law_one","_law_row"] (AG Uh):=BS
theorem Xm(T:A5 w K mg t) :Aa P w K mg base 1 t.f_30 ["_law_one","_law_row"] (KI K):=by
 refine Ar T.d_30 Hl λvs H Q E h=>?_;obtain⟨r,a,g,lo,c5,m,ns,rfl,ok,hS,hn,q⟩:=h;refine⟨rfl,λcb A outer s hr=>?_⟩
 refine⟨_,(AC (AN 2 Hl (AK Bw (AT (Eb K) rfl T.z_len Za (AA (AH (BN K) (pv 0) AD (λ_ _=>rfl)) AB)) (AH (BN K) (pv 0) AD (λ_ _=>rfl))))
  (AC (AN 3 Hl (AK JR (Ay (Ae AB)) (pv 2)))
  (AC (BB PassesOwn.never rfl (Qw K (pv 1)) (BR 4 Hl) (AC (AN 5 Hl (AK JR (Ay (Ae AB)) (pv 2)))
  (AC (BB PassesOwn.never rfl (Aq rfl T.z_range (AA (AT (Eb K) rfl T.z_len Za (AA (AH (BN K) (pv 0) AD (λ_ _=>rfl)) AB)) AB)) (BR 6 Hl) (AF (Ai (AU BY (AH (BN K) (AH (BN K) (pv 0) AD (λ_ _=>rfl)) (pv 6) (λ_ _=>rfl)) (pv 4) (AY _)) (AF (S5 (AK Aw (AH (Bk K) (pv 5) (AK At (pv 6) (pv 2)) (λ_ _=>rfl)) (AH (Bk K) (pv 3) (AK Bw (pv 6) (AH (BN K) (pv 0) AD (λ_ _=>rfl))) (λ_ _=>rfl))) (S4 (pv 5) (AK At (pv 6) (pv 2)) Oz))) AX)))
  (AF (AN 3 Hl (pv 5))))))
  (AF (AL (AT (Dh rfl) rfl T.z_sum bv (AA (pv 3) AB))))))),?_⟩
 refine Ak.el ok.v λtb h1 h2=>?_;have g2:=ok.g2;have g9:=ok.g9;have m1:=ok.m1;have m8:=ok.m8;have hl:=ok.len;have sz:=ok.sz;have hlm:(c5.map V.int).length=c5.length:=ZM ..;have hd:=Ev g2 hl m1;have hp:=RW.A1 g2 (m-1);have hw1:0<c5.length/g.toNat:=by lia
 have hw2:=cE c5.length g.toNat;refine A8 λN hN=>?_;walk_at "";refine (BU (Ao.of h1) rfl ⟨tb,rfl,_,.inr (Ao.of h2),BU (Ao.of h1) rfl ⟨_,rfl,by lia,by lia,hN _ _ ?_⟩⟩);clear hN N;rw[hlm,show (c5.length:Int)/g=((c5.length/g.toNat:Nat):Int) by rw[b8,aB (by lia)]];refine A8 λN hN=>?_;walk_at "";refine⟨by decide,λp1 hp1=>?_⟩;have e1:=AI.new hp1 (.lst [V.int 1]);refine GM AE (by lia) (by lia) λp2 H2 e2 n2 hp2=>hN _ _ ?_
 clear hN N;rw[Zh]at hp2;have eA:=e1.trans e2
 have c0:H2 p2=some (.lst (((List.range (c5.length/g.toNat)).map λ_=>(1:Int)).map V.int)):=by
  rw[hp2,bq]
  congr 2
  symm
  rw[bD];refine⟨by rw[ZM,Zc],λb hb=>?_⟩;obtain⟨x,_,e⟩:=Zs.mp hb;exact e.symm
 refine HU (λσ HX=>∃(d:qM) (F:Nat->Int) (x4 x5 x6:Option V),σ=[some (.ref r),some (.ref a),some (.int ((c5.length/g.toNat:Nat):Int)),some (.ref d),x4,x5,x6]/\AI H HX/\HX d=some (.lst (((List.range (c5.length/g.toNat)).map F).map V.int))/\BM (c5.length/g.toNat) F=P4 g.toNat c5 ns) (λN hN=>?_) ?_
 ·refine⟨_,rfl,a,rfl,⟨_,eA.seq hS⟩,?_⟩;refine C6 (xs:=ns.map V.int) (λi σ HX=>∃(d:qM) (F:Nat->Int) (x4 x5 x6:Option V),σ=[some (.ref r),some (.ref a),some (.int ((c5.length/g.toNat:Nat):Int)),some (.ref d),x4,x5,x6]/\AI H HX/\HX d=some (.lst (((List.range (c5.length/g.toNat)).map F).map V.int))/\BM (c5.length/g.toNat) (λv=>F v*IB g.toNat c5 (ns.drop i) v)=P4 g.toNat c5 ns) ⟨p2,λ_=>1,none,none,none,rfl,eA,c0,?_⟩ (λi σ HX _ z=>by obtain⟨_,_,_,_,_,_,e,_⟩:=z;exact e.seq hS) ?_ ?_
  ·unfold P4;refine BW λk _=>?_;rw[Int.one_mul,List.drop_zero]
  ·rintro i x σ HX hx ⟨d,F,x4,x5,x6,rfl,eX,hd1,inv⟩;obtain⟨s,hs,rfl⟩:=B3 hx;refine A8 λN2 hN2=>?_;walk_at "";refine⟨by decide,λp3 hp3=>?_⟩;have e3:=AI.new hp3 (.lst [V.int 0]);refine GM AE (by lia) (by lia) λp4 H4 e4 n4 hp4=>hN2 _ _ ?_
   clear hN2 N2;rw[Zh]at hp4;have eB:=e3.trans e4;have n4':HX p4=none:=e3.free n4;have hz:H4 p4=some (.lst (((List.range (c5.length/g.toNat)).map (GF g.toNat c5 s F 0)).map V.int)):=by rw[hp4,Of,List.map_replicate]
   refine HU (λσ HY=>(∃x6,σ=[some (.ref r),some (.ref a),some (.int ((c5.length/g.toNat:Nat):Int)),some (.ref d),some (.int s),some (.ref p4),x6])/\AI HX HY/\HY p4=some (.lst (((List.range (c5.length/g.toNat)).map (GF g.toNat c5 s F c5.length)).map V.int))) (λN2 hN2=>?_) ?_
   ·refine⟨_,rfl,r,_,2,_,rfl,rfl,Ao.of (eB _ _ (eX _ _ h1)),rfl,tb,_,rfl,.inr (Ao.of (eB _ _ (eX _ _ h2))),_,rfl,by lia,by lia,?_⟩;rw[hlm];refine A7 (n:=c5.length) (λk σ HY=>(∃x6,σ=[some (.ref r),some (.ref a),some (.int ((c5.length/g.toNat:Nat):Int)),some (.ref d),some (.int s),some (.ref p4),x6])/\AI HX HY/\HY p4=some (.lst (((List.range (c5.length/g.toNat)).map (GF g.toNat c5 s F k)).map V.int))) ⟨⟨_,rfl⟩,eB,hz⟩ ?_ λσ HY z=>hN2 _ _ z
    refine C0 ?_;rintro _ _ k _ hGo σ HY hk ⟨⟨x6,rfl⟩,eY,hy⟩;refine hGo _ _ ?_;walk_at "";rw[Z0];have k1:=eY _ _ (eX _ _ h1);have k2:=eY _ _ (eX _ _ h2);refine (BU (Ao.of k1) rfl (BU (Ao.of k2) (D9 hk) ⟨rfl,?_⟩))
    by_cases es:c5.getD k 0=s
    ·rw[qD (by rw[es])];have km:(k:Int)%((c5.length/g.toNat:Nat):Int)=((k%(c5.length/g.toNat):Nat):Int):=(Int.natCast_emod ..).symm;have kd:(k:Int)/g=((k/g.toNat:Nat):Int):=by rw[b8,aB (by lia)]
     have kl:=Nat.mod_lt k hw1
     have kq:k/g.toNat<c5.length/g.toNat:=by rw[Nat.div_lt_iff_lt_mul (by lia),<-hd.2];exact hk
     rw[km];refine⟨by lia,Bu (Ac.of hy) (D9 (by rw[ZM,Zc];exact kl)) (BU (Ao.of k1) rfl ⟨_,rfl,by lia,by lia,Bu (Ac.of (eY _ _ hd1)) (by rw[kd];exact D9 (by rw[ZM,Zc];exact kq)) ⟨_,rfl,_,rfl,?_⟩⟩)⟩;rw[BF kl,BF kq];refine⟨_,rfl,_,rfl,_,rfl,_,_,rfl,rfl,by lia,p4,_,_,k%(c5.length/g.toNat),rfl,rfl,hy,?_,?_⟩
     ·rw[km,ZM,ZM,Zc];exact M7 kl
     ·refine⟨⟨_,rfl⟩,eY.into n4',?_⟩;rw[AE,<-List.map_set,Qe es]
    ·rw[qC (λz=>es (V.int.inj z))];refine⟨⟨_,rfl⟩,eY,?_⟩;rw[R4 es];exact hy
   rintro _ hGo σ HY ⟨⟨x6',rfl⟩,eY,hy⟩;refine hGo _ _ ?_;walk_at "";refine⟨eX.trans eY,Vy g.toNat c5 s F,hy,?_⟩
   have dr:ns.drop i=s::ns.drop (i+1):=by obtain⟨hlt,hget⟩:=ZW.mp hs;rw[aj hlt,hget]
   rw[P5 (by lia) hw1 hd.2 s (ns.drop (i+1)) F,<-dr];exact inv
  ·rintro σ HX ⟨d,F,x4,x5,x6,rfl,eX,hd1,inv⟩;refine hN _ _ ⟨d,F,x4,x5,x6,rfl,eX,hd1,?_⟩;rw[<-inv,ZM,List.drop_length];refine BW λk _=>?_;show F k=F k*1;rw[Int.mul_one]
 rintro _ hGo σ HX ⟨d,F,x4,x5,x6,rfl,eX,hd1,inv⟩;refine hGo _ _ ?_;walk_at "";refine⟨(List.range (c5.length/g.toNat)).map F,Ac.of hd1,?_⟩;have inv2:((List.range (c5.length/g.toNat)).map F).sum=P4 g.toNat c5 ns:=inv;rw[inv2];exact q _ eX
theorem Xn:AJ ["_law_one"] ["_law_one"] (AG Ui):=BS
theorem Xo(T:A5 w K mg t) :Aa P w K mg base 1 t.f_34 ["_law_one"] (Fn):=by
 refine Ar T.d_34 Xn λvs H Q E h=>?_;obtain⟨r,g,lo,c5,rfl,hT,q⟩:=h;refine⟨rfl,λcb A outer s hr=>?_⟩;refine⟨_,(AF (AL (AK Ab (AK Ab (AK Ab (AK Ab (Af An rfl T.z_str Zm (AA (AH (BN K) (pv 0) AD (λ_ _=>rfl)) AB)) AS) (Af An rfl T.z_str Zm (AA (AH (BN K) (pv 0) AD (λ_ _=>rfl)) AB))) AS) (Cu Zu aI aJ DT AS (AA (Cm [] [] (Lm (AH (BN K) (pv 0) AD (λ_ _=>rfl))) (λ_ _ _ _=>B5) (λ_ _ _ _=>(Af An rfl T.z_str Zm (AA (pv 0) AB)))) AB))))),?_⟩;obtain⟨tb,h1,h2⟩:=id hT.rv;have hg2:=hT.g2;have hg9:=hT.g9;obtain⟨k,hk,k10⟩:∃k:Nat,g=((k:Nat):Int)/\k<10:=⟨g.toNat,by lia,by lia⟩;have ok:=hT.ok.1;rw[ZM]at ok;have hb:∀n∈c5,0<=n/\n<9:=λn hn=>by have:=hT.tb n hn;lia
 walk_at "";refine (BU (Ao.of h1) rfl ⟨g,rfl,CZ (k:=1) (by lia) (by decide),?_⟩);have s1:=DE (k:=0) (n:=g) (by lia);have s2:=DE (k:=129) hT.far;have L1:(Str.ofString (toString g)).length<=2:=s1;have L2:(Str.ofString (toString lo)).length<=131:=s2;have c1:(Str.ofString ":").length=1:=by decide +kernel
 refine⟨KH (by lia),BU (Ao.of h1) rfl ⟨lo,rfl,CZ hT.far (by decide),KH (by rw[DX];lia),KH (by rw[DX,DX];lia),?_⟩⟩;refine⟨_,rfl,r,_,2,_,rfl,rfl,Ao.of h1,rfl,tb,rfl,⟨_,Ao.of h2⟩,λD hD=>?_⟩;refine Kz (xs:=c5.map V.int) (λi c9 Hx=>c9=((c5.take i).map λn=>(⟨#[(48+n).toNat]⟩:Str)).map V.str/\Hx=Am H D (.lst c9)) ⟨rfl,rfl⟩ (λi c9 Hx _ z=>by rw[z.2];exact Ao.of (AI.new hD _ _ _ h2)) ?_ ?_
 ·rintro i x c9 Hx hx ⟨rfl,rfl⟩;obtain⟨v,hv,rfl⟩:=B3 hx;obtain⟨k,hk,k9⟩:∃k:Nat,v=((k:Nat):Int)/\k<9:=by have:=hb v (Zv hv);exact⟨v.toNat,by lia,by lia⟩
  subst hk;walk_at "";refine⟨E3 k k9,AE,?_,?_,by rw[BH]⟩
  ·rw[ZM,ZM,Zt];exact Ad (by lia)
  ·rw[aE,hv,E2 k k9];simp;lia
 rintro c9 Hx ⟨rfl,rfl⟩;rw[ZM,Zx];refine⟨D,rfl,_,Ac.of AE,?_,?_,?_⟩
 ·rw[E4 (λn=>(48+n).toNat)];show c5.length+_*0<=_;lia
 ·rw[Bj (λn=>(48+n).toNat)];refine KH ?_;have s3:(CW c5).length=c5.length:=DG c5;rw[DX,DX,DX];show _+(CW c5).length<=1000;lia
 ·rw[Bj (λn=>(48+n).toNat)];have e:Str.ofString (toString g)++Str.ofString ":"++Str.ofString (toString lo)++Str.ofString ":"++CW c5=FC g lo c5:=by rw[hk,NF k k10];unfold FC;rw[show (48+((k:Nat):Int)).toNat=48+k by lia];rfl
  show Q (V.str (Str.ofString (toString g)++Str.ofString ":"++Str.ofString (toString lo)++Str.ofString ":"++CW c5)) _;rw[e];exact q _ (AI.new hD _)
theorem Xp:AJ ["_law_word_here"] ["_law_word_here"] (AG Uj):=BS
theorem Xq(T:A5 w K mg t) :Aa P w K mg base 1 t.f_20 ["_law_word_here"] (DU K):=by
 refine Ar T.d_20 Xp λvs H Q E h=>?_;obtain⟨a,ws,rfl,hS,hb,hl,q⟩:=h;refine⟨rfl,λcb A outer s hr=>?_⟩
 refine⟨_,(AC (Ai (AU BY (AT (Eb K) rfl T.z_len Za (AA (pv 0) AB)) AD (AY _)) (AF (AL AS)) AX)
  (AF (AL (Cu Zu aI aJ DT AS (AA (Cm [] [] (Qw K (pv 0)) (λ_ _ _ _=>B5) (λ_ _ _ _=>(Af An rfl T.z_str Zm (AA (pv 0) AB)))) AB))))),?_⟩
 walk_at "";refine⟨_,.inl hS,?_⟩;rw[ZM];unfold Ci at q
 by_cases h:ws=[]
 ·rw[qD h]at q;rw[qD (by rw[h];rfl)];exact q _ (AI.refl _)
 rw[qC h]at q;have:=ap.mpr h;rw[qC (by lia)];refine⟨_,rfl,a,rfl,⟨_,hS⟩,λD hD=>?_⟩;refine Dw (xs:=ws.map V.int) (λi c9 Hx=>c9=((ws.take i).map λn=>(⟨#[(48+n).toNat]⟩:Str)).map V.str/\Hx=Am H D (.lst c9)) ⟨rfl,rfl⟩ (λi c9 Hx _ z=>by rw[z.2];exact (AI.new hD _).seq hS) ?_ ?_
 ·refine KA ?_;rintro i x _ hGo c9 Hx hx ⟨rfl,rfl⟩;refine hGo _ _ ?_;obtain⟨v,hv,rfl⟩:=B3 hx;obtain⟨k,hk,k9⟩:∃k:Nat,v=((k:Nat):Int)/\k<9:=by have:=hb v (Zv hv);exact⟨v.toNat,by lia,by lia⟩
  subst hk;walk_at "";refine⟨E3 k k9,AE,?_,?_,by rw[BH]⟩
  ·rw[ZM,ZM,Zt];exact Ad (by lia)
  ·rw[aE,hv,E2 k k9];simp;lia
 rintro c9 Hx ⟨rfl,rfl⟩;rw[ZM,Zx];refine⟨D,rfl,_,Ac.of AE,?_,?_⟩
 ·rw[E4 (λn=>(48+n).toNat)];show ws.length+_*0<=_;lia
 ·rw[Bj (λn=>(48+n).toNat)];exact q _ (AI.new hD _)
theorem Qu:AJ ["_law_one","_law_place","_law_worth","_law_at"] ["_law_one","_law_place"] (AG Uk):=BS
theorem Xr(T:A5 w K mg t)(G_33:Aa P w K mg base 1 t.f_33 ["_law_signs","_law_many_here"] (Fh))(G_13:Aa P w K mg base 2 t.f_13 ["_law_one"] (CF)):Aa P w K mg base 3 t.f_11 ["_law_one","_law_place"] (EY):=by
 refine Ar T.d_11 Qu λvs H Q E h=>?_;obtain⟨r,g,lo,c5,m,j,rfl,ok,hj,q⟩:=h;refine⟨rfl,λcb A outer s hr=>?_⟩
 refine⟨_,(AC (AN 2 Qu (AV hr G_33 T.m_33 (AA (AH (BN K) (pv 0) AD (λ_ _=>rfl)) (AA (AK BO (AK BO (AV hr G_13 T.m_13 (AA (pv 0) AB)) AD) (pv 1)) AB))))
  (AC (BB PassesOwn.never rfl (Aq rfl T.z_range (AA (AT (Eb K) rfl T.z_len Za (AA (AH (BN K) (pv 0) AD (λ_ _=>rfl)) AB)) AB)) (BR 3 Qu) (AF (Ai (AU Ef (AH (BN K) (AH (BN K) (pv 0) AD (λ_ _=>rfl)) (pv 3) (λ_ _=>rfl)) (AH (BN K) (AH (BN K) (pv 0) AD (λ_ _=>rfl)) (AK BO (pv 3) (AK Be (AK At (AK Bw (pv 3) (pv 2)) (AH (BN K) (pv 0) AD (λ_ _=>rfl))) (pv 2))) (λ_ _=>rfl)) (AY _)) (AF (AL D6)) AX)))
  (AF (AL D6)))),?_⟩
 refine Ak.el ok.v λtb h1 h2=>?_;have g2:=ok.g2;have g9:=ok.g9;have m8:=ok.m8;have hl:=ok.len;have gm:=ok.sz;walk_at "";refine (BU (Ao.of h1) rfl ?_);walk_at "";refine⟨r,g,lo,c5,m,rfl,ok,_,rfl,g,m-1-j,by rw[show (m:Int)-1-(j:Int)=((m-1-j:Nat):Int) by lia],g2,g9,by lia,?_⟩;have wp:=RW.A1 g2 (m-1-j);have wq:=BE g2 (show m-1-j<=m by lia);obtain⟨wt,hwt⟩:∃wt:Int,wt=g^(m-1-j):=⟨_,rfl⟩;rw[<-hwt]at wp wq q⊢;have hlm:(c5.map V.int).length=c5.length:=ZM ..;refine⟨_,rfl,r,_,2,_,rfl,rfl,Ao.of h1,rfl,tb,rfl,_,.inr (Ao.of h2),_,rfl,by lia,by lia,?_⟩;rw[hlm];refine A7 (n:=c5.length) (λi σ H1=>(∃x4,σ=[some (.ref r),some (.int ((j:Nat):Int)),some (.int wt),x4])/\H1=H/\∀k,k<i->c5.getD k 0=c5.getD ((k:Int)-(k:Int)/wt%g*wt).toNat 0) ⟨⟨none,rfl⟩,rfl,λk hk=>qE hk (cD _)⟩ ?_ ?_
 ·refine C0 ?_;rintro _ _ i _ hGo σ H1 hi ⟨⟨x4,rfl⟩,rfl,hall⟩;refine hGo _ _ ?_;have ix:=Pw (k:=(i:Int)) (w:=wt) (g:=g) (by lia) wp g2;have gA:=Bm (ns:=c5) ix.1 (by lia);walk_at "";rw[Z0];refine (BU (Ao.of h1) rfl (BU (Ao.of h2) (D9 hi) ?_));refine (BU (Ao.of h1) rfl ⟨wp,by lia,?_⟩);refine (BU (Ao.of h1) rfl ⟨g,rfl,by lia,.inr ⟨by lia,by lia⟩,BU (Ao.of h2) gA ⟨rfl,?_⟩⟩)
  by_cases hd:V.int (c5.getD i 0)=V.int (c5.getD ((i:Int)-(i:Int)/wt%g*wt).toNat 0)
  ·rw[qC (λz=>z hd)];refine⟨⟨_,rfl⟩,rfl,λk hk=>?_⟩
   by_cases z:k=i
   ·subst z;exact V.int.inj hd
   ·exact hall k (by lia)
  ·rw[qD hd];have z:BG g c5 wt=true:=DB.mpr ⟨i,hi,λy=>hd (by rw[y])⟩;rw[z]at q;exact q
 ·rintro σ H1 ⟨⟨x4,rfl⟩,rfl,hall⟩;walk_at ""
  have z:BG g c5 wt=false:=by
   cases z:BG g c5 wt with
   |false=>rfl
   |true =>
    obtain⟨k,hk,h⟩:=DB.mp z;exact qE (hall k hk) h
  rw[z]at q;exact q
theorem Iz:AJ ["_law_one","_law_many_here","_law_seen","_law_first","_law_wide","_law_below"] ["_law_one"] (AG Ul):=BS
theorem Xs(T:A5 w K mg t)(G_13:Aa P w K mg base 2 t.f_13 ["_law_one"] (CF))(G_33:Aa P w K mg base 1 t.f_33 ["_law_signs","_law_many_here"] (Fh))(G_11:Aa P w K mg base 3 t.f_11 ["_law_one","_law_place"] (EY)):Aa P w K mg base 4 t.f_12 ["_law_one"] (DC):=by
 refine Ar T.d_12 Iz λvs H Q E h=>?_;obtain⟨r,g,lo,c5,m,rfl,ok,q⟩:=h;refine⟨rfl,λcb A outer s hr=>?_⟩
 refine⟨_,(AC (AN 1 Iz (AV hr G_13 T.m_13 (AA (pv 0) AB)))
  (AC (RX (iy:=2) (fv:=[(0,"_law_one")]) (cl:=[("_law_one",_)]) rfl Iz.nd rfl (Or.inl rfl) (Aq rfl T.z_range (AA (pv 1) AB)) (by with_unfolding_all rfl) (by with_unfolding_all rfl) (by decide +kernel) rfl (by decide +kernel) rfl ⟨(by with_unfolding_all rfl),trivial⟩ (by with_unfolding_all rfl) ⟨⟨rfl,rfl,(by with_unfolding_all rfl),rfl⟩,trivial⟩ (by decide) (λ_ _ _ _=>(Pd (Bc (AV hr G_11 T.m_11 (AA (pv 1) (AA (pv 0) AB)))))) (λ_ _ _ _=>(pv 0)))
  (AC (Ai (AU (TQ hr.units) (pv 2) (Ay AB) (AY _)) (AF (AL (DL (AA (AH (BN K) (pv 0) AD (λ_ _=>rfl)) (Ae (AA (Af Bo rfl T.z_tuple aY (AA (AK JR (Ay (AA (AH (BN K) (AH (BN K) (pv 0) AD (λ_ _=>rfl)) AD (λ_ _=>rfl)) AB)) (AH (BN K) (pv 0) AD (λ_ _=>rfl))) AB)) AB)))))) AX)
  (AC (AN 3 Iz (AH (Bk K) (pv 2) AD (λ_ _=>rfl)))
  (AC (AN 4 Iz (AK Aw (AK BO (AH (Bk K) (pv 2) (Ka Gd AD) (λ_ _=>rfl)) (pv 3)) AD))
  (AC (AN 5 Iz (AV hr G_33 T.m_33 (AA (AH (BN K) (pv 0) AD (λ_ _=>rfl)) (AA (AK BO (AK BO (pv 1) AD) (AH (Bk K) (pv 2) (Ka Gd AD) (λ_ _=>rfl))) AB))))
  (AF (AL (DL (AA (AH (BN K) (pv 0) AD (λ_ _=>rfl)) (AA (AK Aw (AH (BN K) (pv 0) AD (λ_ _=>rfl)) (pv 3)) (AA (Af Bo rfl T.z_tuple aY (AA (Cm [(0,"_law_one"),(5,"_law_below")] [("_law_one",_),("_law_below",_)] (Aq rfl T.z_range (AA (AV hr G_33 T.m_33 (AA (AH (BN K) (pv 0) AD (λ_ _=>rfl)) (AA (pv 4) AB))) AB)) (λ_ _ _ _=>B5) (λ_ _ _ _=>(AH (GJ (K:=K) rfl) (AH (GJ (K:=K) rfl) (pv 1) AD (λ_ _=>rfl)) (AK Be (pv 0) (pv 2)) (λ_ _=>rfl)))) AB)) AB)))))))))))),?_⟩
 refine Ak.el ok.v λtb h1 h2=>?_;have g2:=ok.g2;have g9:=ok.g9;have m1:=ok.m1;have m8:=ok.m8;have hl:=ok.len;have sz:=ok.sz;refine A8 λN hN=>?_;walk_at "";refine⟨r,g,lo,c5,m,rfl,ok,hN _ _ ?_⟩;clear hN N;refine A8 λN hN=>?_;walk_at "";refine⟨_,rfl,_,rfl,by lia,by lia,λD hD=>?_⟩;have eD:=λo=>AI.new hD o
 refine Bq (n:=m) (λi c9 HX=>c9=(CN ((List.range i).filter λj=>BG g c5 (g^(m-1-j)))).map V.int/\HX=Am H D (.lst c9)) ⟨rfl,rfl⟩ ?_ ?_
 ·refine ET ?_;rintro i _ hGo c9 HX hi ⟨rfl,rfl⟩;refine hGo _ _ ?_;walk_at "";rw[Z0];refine⟨r,g,lo,c5,m,i,rfl,ok.same (eD _),hi,_,rfl,?_⟩;cases hc:BG g c5 (g^(m-1-i)) with
  |true =>
   rw[qD rfl];refine⟨AE,?_,?_,by rw[BH]⟩
   ·unfold CN;rw[ZM,ZM];have:=aH (λj=>BG g c5 (g^(m-1-j))) (List.range i);rw[Zc]at this;exact Ad (by lia)
   ·unfold CN;rw[aS,aT,Zf,Zf];simp[List.filter,hc]
  |false =>
   rw[qC (by decide)];refine⟨?_,rfl⟩;rw[aS,aT];simp[List.filter,hc]
 rintro c9 HX ⟨rfl,rfl⟩;refine hN _ _ ?_;clear hN N;have hD1:=eD (.lst ((CN ((List.range m).filter λj=>BG g c5 (g^(m-1-j)))).map V.int));have hDD:Am H D (.lst ((CN ((List.range m).filter λj=>BG g c5 (g^(m-1-j)))).map V.int)) D=some (.lst ((CN ((List.range m).filter λj=>BG g c5 (g^(m-1-j)))).map V.int)):=AE;generalize Am H D (.lst ((CN ((List.range m).filter λj=>BG g c5 (g^(m-1-j)))).map V.int))=H1 at hD1 hDD⊢;obtain⟨l,hll⟩:∃l:List Nat,l=(List.range m).filter λj=>BG g c5 (g^(m-1-j)):=⟨_,rfl⟩
 rw[<-hll]at hDD;refine A8 λN hN=>?_;walk_at "";refine⟨Zw _,λp hp=>?_⟩;have f1:=AI.new hp (.lst []);refine⟨CN l,Ac.of (f1 _ _ hDD),[],Ac.of AE,?_⟩;have e2:=hD1.trans f1;have hDp:=f1 _ _ hDD;generalize Am H1 p (.lst [])=H2 at e2 hDp⊢;clear f1 hp;have l1:=e2 _ _ h1;have l2:=e2 _ _ h2;have t0:0<c5.length:=by have:=RW.A1 g2 m;lia
 by_cases hc:l=[]
 ·rw[qD (by rw[hc];rfl)];refine (BU (Ao.of l1) rfl (BU (Ao.of l1) rfl (BU (Ao.of l2) (Bm (by decide) (by show 0<_;lia)) ⟨by decide,λp3 hp3=>?_⟩)));have f3:=AI.new hp3 (.lst [V.int (c5.getD 0 0)]);refine (BU (Ao.of (f3 _ _ l1)) rfl ?_);refine GM AE (by lia) (by lia) λp4 H4 e4 _ h4=>?_;rw[<-List.map_replicate (f:=V.int)]at h4;refine⟨p4,rfl,_,.inl ⟨Ac.of h4,λl4 hl4=>⟨by decide,λp5 hp5=>?_⟩⟩⟩
  have f:∀j,j<m->BG g c5 (g^(m-1-j))=false:=λj hj=>by
   cases z:BG g c5 (g^(m-1-j)) with
   |false=>rfl
   |true =>
    have y:j∈l:=by rw[hll];exact aP.mpr ⟨Z5.mpr hj,z⟩
    rw[hc]at y;exact qE y bP
  have g1:g^1=g:=by rw[Z2,aM,Int.one_mul]
  have nw:Eu g lo c5 m 0 1:=⟨ZR _,λj hj y=>qE y (by rw[f j hj];decide),.inl ⟨f,rfl,rfl⟩⟩;refine q 0 1 nw p5 _ (e2.trans (f3.trans (e4.trans ((AI.new hl4 _).trans (AI.new hp5 _))))) (ok.bw (ZR _) (by lia) ⟨l4,AE,?_⟩);rw[<-U1 g2 hl f];exact AI.new hp5 _ _ _ AE
 rw[qC (λz=>hc (QB.mp z))];refine hN _ _ ?_;clear hN N;refine A8 λN hN=>?_;walk_at "";have l0:=ap.mpr hc;have nl:(CN l).length=l.length:=ZM ..;have so:l.Pairwise (·<·):=by rw[hll];exact EB _ _
 have a0:=Bm (ns:=CN l) (z:=0) (by decide) (by show 0<_;lia);have a1:=IW (ns:=CN l) (by lia);rw[show (CN l).getD (Int.toNat 0) 0=((l.getD 0 0:Nat):Int) from Cy l0]at a0;rw[nl,show (CN l).getD (l.length-1) 0=((l.getD (l.length-1) 0:Nat):Int) from Cy (by lia)]at a1;have m0:=Dn (l:=l) (k:=0) l0;have m9:=Dn (l:=l) (k:=l.length-1) (by lia);have le:=EQ so _ m9
 have all:∀j,j<m->BG g c5 (g^(m-1-j))=true->l.getD 0 0<=j/\j<=l.getD (l.length-1) 0:=λj hj hc=>by
  have y:j∈l:=by rw[hll];exact aP.mpr ⟨Z5.mpr hj,hc⟩
  exact⟨EQ so _ y,Dx so _ y⟩
 generalize l.getD 0 0=j0 at *;generalize l.getD (l.length-1) 0=j1 at *;rw[hll]at m0 m9;have c0:=aP.mp m0;have c1:=aP.mp m9;have j1m:=Z5.mp c1.1;refine (Bu (Ac.of hDp) a0 (hN _ _ ?_));clear hN N;refine A8 λN hN=>?_;walk_at "";refine (Bu (Ac.of hDp) a1 ⟨_,rfl,hN _ _ ?_⟩);clear hN N;refine A8 λN hN=>?_;walk_at "";refine (BU (Ao.of l1) rfl (Bu (Ac.of hDp) a1 ⟨_,rfl,g,m-1-j1,by rw[show (m:Int)-1-(j1:Int)=((m-1-j1:Nat):Int) by lia],g2,g9,by lia,hN _ _ ?_⟩));clear hN N;have bp:=RW.A1 g2 (m-1-j1);have bl:=BE g2 (show m-1-j1<=m by lia);walk_at "";refine (BU (Ao.of l1) rfl (BU (Ao.of l1) rfl ⟨lo,rfl,?_⟩));have pa:g^(j1-j0+1)*g^(m-1-j1)=g^(m-j0):=by rw[<-Int.pow_add,show j1-j0+1+(m-1-j1)=m-j0 by lia]
 have pl:=BE g2 (show m-j0<=m by lia);have wp:=RW.A1 g2 (j1-j0+1);have wl:=BE g2 (show j1-j0+1<=m by lia);refine⟨_,rfl,r,_,0,_,rfl,rfl,Ao.of l1,rfl,_,rfl,g,j1-j0+1,by rw[show (j1:Int)-(j0:Int)+1=((j1-j0+1:Nat):Int) by lia];rfl,g2,g9,by lia,_,rfl,by lia,by lia,λD2 hD2=>?_⟩;have f2:=λo=>AI.new hD2 o
 refine Bq (n:=(g^(j1-j0+1)).toNat) (λi c9 HX=>c9=((List.range i).map λk:Nat=>c5.getD ((k:Int)*g^(m-1-j1)).toNat 0).map V.int/\HX=Am H2 D2 (.lst c9)) ⟨rfl,rfl⟩ ?_ ?_
 ·refine ET ?_;rintro i _ hGo c9 HX hi ⟨rfl,rfl⟩;refine hGo _ _ ?_;walk_at "";rw[Z0];have ib:(i:Int)*g^(m-1-j1)<g^(j1-j0+1)*g^(m-1-j1):=Int.mul_lt_mul_of_pos_right (by lia) bp;have i0:0<=(i:Int)*g^(m-1-j1):=Int.mul_nonneg (by lia) (by lia);refine (BU (Ao.of (f2 _ _ _ l1)) rfl ⟨.inr ⟨by lia,by lia⟩,BU (Ao.of (f2 _ _ _ l2)) (Bm i0 (by lia)) ⟨AE,?_,?_,by rw[BH]⟩⟩)
  ·rw[ZM,ZM,Zc];exact Ad (by lia)
  ·rw[As,Zf];rfl
 rintro c9 HX ⟨rfl,rfl⟩;refine⟨D2,rfl,_,.inl ⟨Ac.of AE,λl4 hl4=>⟨by decide,λp5 hp5=>?_⟩⟩⟩;have nw:Eu g lo c5 m (lo+(j0:Int)) (j1-j0+1):=⟨by lia,λj hj y=>by have:=all j hj y;lia,.inr ⟨j0,j1,le,j1m,rfl,rfl,c0.2,c1.2⟩⟩;refine q _ _ nw p5 _ (e2.trans ((f2 _).trans ((AI.new hl4 _).trans (AI.new hp5 _)))) (ok.bw (by lia) (by lia) ⟨l4,AE,?_⟩);rw[<-R7 g2 le j1m];exact AI.new hp5 _ _ _ AE
theorem Ld:AJ ["_law_one","_law_many_here","_law_table","_law_at","_law_word_here"] ["_law_one"] (AG Um):=BS
theorem Xt(T:A5 w K mg t)(G_13:Aa P w K mg base 2 t.f_13 ["_law_one"] (CF))(G_35:Aa P w K mg base 1 t.f_35 ["_law_number","_law_signs","_law_many_here"] (Jo))(G_21:Aa P w K mg base 1 t.f_21 ["_law_word_here","_law_signs"] (FM)):Aa P w K mg base 3 t.f_15 ["_law_one"] (Do):=by
 refine Ar T.d_15 Ld λvs H Q E h=>?_;obtain⟨r,g,lo,c5,m,rfl,ok,q⟩:=h;refine⟨rfl,λcb A outer s hr=>?_⟩
 refine⟨_,(AC (AN 1 Ld (AV hr G_13 T.m_13 (AA (pv 0) AB)))
  (AC (AN 2 Ld (Ay AB))
  (AC (BB PassesOwn.never rfl (Aq rfl T.z_range (AA (AT (Eb K) rfl T.z_len Za (AA (AH (BN K) (pv 0) AD (λ_ _=>rfl)) AB)) AB)) (BR 3 Ld) (AC (AN 4 Ld (AV hr G_35 T.m_35 (AA (pv 3) (AA (AH (BN K) (pv 0) AD (λ_ _=>rfl)) (AA (pv 1) AB)))))
  (AF (Ax (QS K (pv 2) (AA (AH (BN K) (AH (BN K) (pv 0) AD (λ_ _=>rfl)) (AV hr G_21 T.m_21 (AA (Ej rfl rfl T.z_reversed rfl T.z_list (AA (pv 4) AB)) (AA (AH (BN K) (pv 0) AD (λ_ _=>rfl)) AB))) (λ_ _=>rfl)) AB))))))
  (AF (AL (DL (AA (AH (BN K) (pv 0) AD (λ_ _=>rfl)) (AA (AK BO (AK BO AD (AH (BN K) (pv 0) AD (λ_ _=>rfl))) (pv 1)) (AA (Af Bo rfl T.z_tuple aY (AA (pv 2) AB)) AB))))))))),?_⟩
 refine Ak.el ok.v λtb h1 h2=>?_;have g2:=ok.g2;have g9:=ok.g9;have m8:=ok.m8;have hl:=ok.len;have sz:=ok.sz;have hlm:(c5.map V.int).length=c5.length:=ZM ..;walk_at "";refine⟨r,g,lo,c5,m,rfl,ok,?_⟩;walk_at "";refine⟨Zw _,λp hp=>?_⟩;have e0:=AI.new hp (.lst []);refine⟨_,rfl,r,_,2,_,rfl,rfl,Ao.of (e0 _ _ h1),rfl,tb,rfl,_,.inr (Ao.of (e0 _ _ h2)),_,rfl,by lia,by lia,?_⟩;rw[hlm];refine A7 (n:=c5.length) (λi σ H1=>∃x3 x4,σ=[some (.ref r),some (.int ((m:Nat):Int)),some (.ref p),x3,x4]/\AI H H1/\H1 p=some (.lst (((List.range i).map λk:Nat=>c5.getD (BZ g (Bt g (k:Int) m)).toNat 0).map V.int))) ⟨none,none,rfl,e0,AE⟩ ?_ ?_
 ·refine C0 ?_;rintro _ _ i _ hGo σ H1 hi ⟨x3,x4,rfl,e,hp1⟩;refine hGo _ _ ?_;walk_at "";have nb:=C3 g2 (GO g2 (i:Int) m);rw[Bh,<-hl]at nb;refine (BU (Ao.of (e _ _ h1)) rfl ?_);refine⟨_,g,_,rfl,g2,g9,by lia,by lia,λpw H2 hN2=>?_⟩;rw[Z0,Zh]at hN2;have e2:=e.trans hN2.1;refine⟨.inl ⟨_,Ac.of (hN2.1 _ _ hp1)⟩,BU (Ao.of (e2 _ _ h1)) rfl ⟨pw,rfl,_,Ac.of hN2.2.2,λp1 hp1'=>?_⟩⟩;rw[<-aV,show (B6 g (i:Int) m).reverse=Bt g (i:Int) m from bK _];have e3:=AI.new hp1' (.lst ((Bt g (i:Int) m).map V.int));have e23:=e2.trans e3;refine (BU (Ao.of (e23 _ _ h1)) rfl ⟨p1,Bt g (i:Int) m,g,rfl,AE,g2,g9,?_⟩);refine (BU (Ao.of (e23 _ _ h2)) (Bm nb.1 (by lia)) ⟨_,(hN2.1.trans e3) _ _ hp1,?_,e23.into hp,?_⟩)
  ·rw[ZM,ZM,Zc];exact Ad (by lia)
  ·rw[AE,As,Zf];rfl
 ·rintro σ H1 ⟨x3,x4,rfl,e,hp1⟩;walk_at "";refine (BU (Ao.of (e _ _ h1)) rfl (BU (Ao.of (e _ _ h1)) rfl ⟨lo,rfl,_,.inl ⟨Ac.of hp1,λl hl'=>⟨by decide,λr' hr'=>?_⟩⟩⟩));have e1:=AI.new hl' (.tup ((Dm g c5 m).map V.int));have e2:=e1.trans (AI.new hr' (.tup [V.int g,V.int (1-lo-(m:Int)),V.ref l]));refine q r' _ (e.trans e2) (ok.turn ⟨l,AE,AI.new hr' _ _ _ AE⟩)
theorem Hm:AJ ["_law_cell","_law_xs","_law_base","_law_k","_law_at","_law_turned_one"] ["_law_cell"] (AG Uo):=BS
theorem Xu(T:A5 w K mg t)(G_14:Aa P w K mg base 1 t.f_14 ["_law_cell","_law_many_here"] (Cb)):Aa P w K mg base 2 t.f_19 ["_law_cell"] (KB):=by
 refine Ar T.d_19 Hm λvs H Q E h=>?_;obtain⟨c,rfl,q⟩:=h;refine⟨rfl,λcb A outer s hr=>?_⟩
 refine⟨_,(AC (AN 1 Hm (AV hr G_14 T.m_14 (AA (pv 0) (Ae AB))))
  (AC (AN 2 Hm AS)
  (AC (BB PassesOwn.never rfl (Aq rfl T.z_range (AA (AK Aw AD (AK At (AH (Bk K) (pv 1) AD (λ_ _=>rfl)) AD)) AB)) (BR 3 Hm) (AF (AN 2 Hm (AK Ab (pv 2) (AH JL AS (AK At (AH (Bk K) (pv 1) (AK Aw (pv 3) AD) (λ_ _=>rfl)) AD) (λ_ _=>rfl))))))
  (AC (AN 4 Hm (AK At (AH (Bk K) (pv 1) AD (λ_ _=>rfl)) (AT By rfl T.z_len Za (AA (pv 2) AB))))
  (AC (AN 5 Hm (AH JL AS (Cu Zu PySem.F.slot_str_find PySem.F.type_str_find Rw AS (AA (AH JL (pv 2) (pv 4) (λ_ _=>rfl)) AB)) (λ_ _=>rfl)))
  (AF (AL (Ay (AA (pv 2) (AA (AK Ab (AK Ab (Bn Ju (pv 2) Cs (Bp (pv 4))) (pv 5)) (Bn Ju (pv 2) (Bp (AK Aw (pv 4) AD)) Cs)) (AA (Bn Ju (pv 2) Cs (Bp (Ka Gd AD))) (AA (AK Ab (pv 2) (AH JL AS (AK At (AH (Bk K) (pv 1) AD (λ_ _=>rfl)) AD) (λ_ _=>rfl))) AB)))))))))))),?_⟩
 refine A8 λN hN=>?_;walk_at "";refine⟨c,11,rfl,by decide,by decide,λr H1 xs lx _ e1 _ h1=>hN _ _ ?_⟩;clear hN N;have lx:xs.length=11:=lx;refine A8 λN hN=>?_;walk_at "";refine hN _ _ ?_;clear hN N;obtain⟨n,hn⟩:∃n:Nat,(n:Int)=2+xs.getD 0 0%6:=⟨(2+xs.getD 0 0%6).toNat,by lia⟩;refine HU (λσ HX=>∃x3 B,σ=[some (.int c),some (.ref r),some (.str B),x3,none,none]/\HX=H1/\B.cps.size=n/\∀a∈B.cps.toList,97<=a/\a<=122) (λN hN=>?_) ?_
 ·refine⟨_,rfl,r,_,0,_,rfl,rfl,Ac.of h1,Uw (j:=0) (by lia),_,_,rfl,rfl,(show (0:Int)<6 by decide),_,_,rfl,rfl,_,rfl,by lia,by lia,?_⟩;rw[show (2+xs.getD 0 0%6).toNat=n by lia];refine A7 (n:=n) (λi σ HX=>∃x3 B,σ=[some (.int c),some (.ref r),some (.str B),x3,none,none]/\HX=H1/\B.cps.size=i/\∀a∈B.cps.toList,97<=a/\a<=122) ⟨none,Str.ofString "",rfl,rfl,rfl,λa h=>qE (show a∈([]:List Nat) from h) bP⟩ ?_ ?_
  ·refine C0 ?_;rintro _ _ i _ hGo σ HX hi ⟨x3,B,rfl,rfl,bl,bc⟩;refine hGo _ _ ?_;walk_at "";obtain⟨m,hm⟩:∃m:Nat,(m:Int)=xs.getD (i+1) 0%26:=⟨(xs.getD (i+1) 0%26).toNat,by lia⟩;have bl':B.length=i:=bl;refine (Bu (v:=.int (xs.getD (i+1) 0)) (i:=0+(i:Int)+1) (Ac.of h1) ?_ ⟨_,rfl,by decide,?_⟩)
   ·rw[show 0+(i:Int)+1=((i+1:Nat):Int) by lia];exact Uw (by lia)
   rw[<-hm];refine⟨_,_,_,rfl,rfl,by decide,QW m (by lia),_,rfl,Zl (show B.length+1<=1000 by lia) (by decide),rfl,?_,λa ha=>?_⟩
   ·show (B.cps++#[97+m]).size=_;rw[Array.size_append,bl];rfl
   ·have z:a∈B.cps.toList++[97+m]:=by
     have:(B++(⟨#[97+m]⟩:Str)).cps.toList=B.cps.toList++[97+m]:=by show (B.cps++#[97+m]).toList=_;rw[aN]
     rwa [this]at ha
    rcases aQ.mp z with y|y
    ·exact bc a y
    ·rw[ZX.mp y];lia
  ·rintro σ HX ⟨x3,B,rfl,rfl,bl,bc⟩;exact hN _ _ ⟨x3,B,rfl,rfl,bl,bc⟩
 rintro _ hGo σ HX ⟨x3,B,rfl,rfl,bl,bc⟩;refine hGo _ _ ?_;refine A8 λN hN=>?_;walk_at "";have bl':B.length=n:=bl;obtain⟨b,hb⟩:∃b:Nat,(b:Int)=xs.getD 9 0%(B.length:Int):=⟨(xs.getD 9 0%(B.length:Int)).toNat,by have:=aR (xs.getD 9 0) (show (B.length:Int)≠0 by lia);lia⟩;have bn:b<n:=by have:=aD (xs.getD 9 0) (show 0<(B.length:Int) by lia);lia
 refine (Bu (Ac.of h1) (Uw (j:=9) (by lia)) ⟨Zl (show B.length<=1000 by lia) (by decide),_,rfl,by lia,?_⟩);rw[<-hb];refine hN _ _ ?_;clear hN N;have tl:B.cps.toList.length=n:=by rw[ZT];exact bl
 have gb:B.cps.toList[b]?=some (B.cps.toList[b]'(by lia)):=ZP _;generalize B.cps.toList[b]'(by lia)=a at gb;have la:=bc a (Zv gb);obtain⟨k,hk⟩:∃k,a=97+k:=⟨a-97,by lia⟩;subst hk;refine A8 λN hN=>?_;walk_at "";refine⟨B,_,_,rfl,rfl,Zl (show B.length<=1000 by lia) (by decide),Ct gb,_,rfl,?_⟩;rw[QX k (by lia)];refine⟨_,_,_,rfl,rfl,by decide,Ux k (by lia),hN _ _ ?_⟩;clear hN N;walk_at "";have tl2:∀{o:Nat},o<=1000->o<=sizeLine:=λh=>Zl h (by decide)
 have s1:=PySem.Txt.slice_le B none (some (b:Int));have s2:=PySem.Txt.slice_le B (some ((b:Int)+1)) none
 have s3:(PySem.Txt.slice B none (some (b:Int))++(⟨#[97+(k+1)%26]⟩:Str)).length=(PySem.Txt.slice B none (some (b:Int))).length+1:=by show ((PySem.Txt.slice B none (some (b:Int))).cps++#[97+(k+1)%26]).size=_;rw[Array.size_append];rfl
 obtain⟨m,hm⟩:∃m:Nat,(m:Int)=xs.getD 10 0%26:=⟨(xs.getD 10 0%26).toNat,by lia⟩;refine⟨tl2 (by lia),tl2 (by show _+1<=_;lia),tl2 (by lia),tl2 (by lia),tl2 (by lia),Bu (Ac.of h1) (Uw (j:=10) (by lia)) ⟨_,rfl,by decide,?_⟩⟩;rw[<-hm];refine⟨_,_,_,rfl,rfl,by decide,QW m (by lia),_,rfl,tl2 (by show _+1<=_;lia),by decide,λp hp=>?_⟩;refine q p _ _ _ _ _ (e1.trans (AI.new hp _)) AE (VA.mk' (a:=97+(k+1)%26) (c:=97+m) (b:=b) (by lia) (by lia) bc (by lia) ?_ (by lia) (by lia) ?_ ?_ ?_)
 ·rw[gb];intro z;have:=Option.some.inj z;lia
 ·show ((PySem.Txt.slice B none (some (b:Int))).cps++#[97+(k+1)%26]++(PySem.Txt.slice B (some ((b:Int)+1)) none).cps).toList=_;rw[aN,aN,Hc (by lia),show ((b:Int)+1)=((b+1:Nat):Int) by lia,Mc (by lia),am];rfl
 ·rw[Mj (by lia),bl',tl]
 ·show (B.cps++#[97+m]).toList=_;rw[aN]
theorem F6:AJ ["_law_number","_law_more","_law_signs","_law_many_here","_law_xs","_law_low","_law_table"] ["_law_number","_law_more"] (AG Up):=BS
theorem Xv(T:A5 w K mg t)(G_14:Aa P w K mg base 1 t.f_14 ["_law_cell","_law_many_here"] (Cb))(G_33:Aa P w K mg base 1 t.f_33 ["_law_signs","_law_many_here"] (Fh)):Aa P w K mg base 2 t.f_31 ["_law_number","_law_more"] (Hf):=by
 refine Ar T.d_31 F6 λvs H Q E h=>?_;obtain⟨n,c,rfl,n0,q⟩:=h;refine⟨rfl,λcb A outer s hr=>?_⟩
 refine⟨_,(AC (AN 2 F6 (AH (Bk K) (Ay (Ae (Ae (Ae (Ae (Ae (Ae (Ae (Ae AB))))))))) (AK At (pv 0) AD) (λ_ _=>rfl)))
  (AC (AN 3 F6 (AK Aw AD (AK At (AK Bw (pv 0) AD) (AH (Bk K) (Ay (Ae (Ae (Ae (Ae (Ae (Ae (Ae (Ae AB))))))))) (AK BO (pv 2) AD) (λ_ _=>rfl)))))
  (AC (AN 4 F6 (AV hr G_14 T.m_14 (AA (pv 1) (AA (AK Aw (AV hr G_33 T.m_33 (AA (pv 2) (AA (pv 3) AB))) AD) AB))))
  (AC (AN 5 F6 (AK BO (AK At (AK Be (AH (Bk K) (pv 4) AD (λ_ _=>rfl)) (AH (Bk K) (pv 4) AD (λ_ _=>rfl))) (AK Be AD (AK JH AD AD))) (AK JH AD AD)))
  (AC (Ai (AU Ge (AK At (pv 0) AD) AD (AY _)) (AF (AN 5 F6 (AK BO (AK At (pv 0) AD) AD))) AX)
  (AC (Lj (i:=6) F6.nd rfl (Or.inr rfl) (Cm [(2,"_law_signs")] [("_law_signs",_)] (Qw K (Bn Dt (pv 4) (Bp AD) Cs)) (λ_ _ _ _=>B5) (λ_ _ _ _=>(AK At (pv 0) (pv 1)))) (hs:=by with_unfolding_all rfl))
  (AC (Ai (AU BY (AK At (pv 0) AD) AD (AY _)) (AF (Lj (i:=6) F6.nd rfl (Or.inr rfl) (Cm [(6,"_law_table"),(2,"_law_signs")] [("_law_table",_),("_law_signs",_)] (Aq rfl T.z_range (AA (AT (Eb K) rfl T.z_len Za (AA (pv 6) AB)) AB)) (λ_ _ _ _=>B5) (λ_ _ _ _=>(AH (Em (K:=K) rfl) (pv 1) (AK Bw (pv 0) (pv 2)) (λ_ _=>rfl)))) (hs:=by with_unfolding_all rfl))) AX)
  (AF (AL (DL (AA (pv 2) (AA (pv 5) (AA (Af Bo rfl T.z_tuple aY (AA (pv 6) AB)) AB))))))))))))),?_⟩
 refine A8 λN hN=>?_;walk_at "";refine⟨by decide,λp1 hp1=>⟨by decide,Bu (Ac.of AE) (Bm (ns:=[2,3,4,5,2,3,2,9]) (by lia) (by show (n%8).toNat<8;lia)) (hN _ _ ?_)⟩⟩;clear hN N;refine Cd (λHX=>AI H HX) (AI.new hp1 (.lst (([2,3,4,5,2,3,2,9]:qR).map V.int))) ?_;clear hp1 p1;rintro H1 e1;obtain⟨g,hg⟩:∃g:Int,g=([2,3,4,5,2,3,2,9]:qR).getD (n%8).toNat 0:=⟨_,rfl⟩;rw[<-hg]
 have gb:g=2\/g=3\/g=4\/g=5\/g=9:=by
  have z:∀i<8,([2,3,4,5,2,3,2,9]:qR).getD i 0=2\/([2,3,4,5,2,3,2,9]:qR).getD i 0=3\/([2,3,4,5,2,3,2,9]:qR).getD i 0=4\/([2,3,4,5,2,3,2,9]:qR).getD i 0=5\/([2,3,4,5,2,3,2,9]:qR).getD i 0=9:=by decide
  rw[hg];exact z _ (by lia)
 clear hg;have g2:2<=g:=by lia
 have g9:g<=9:=by lia
 obtain⟨b,b1,b4,bm⟩:=U0 gb;refine A8 λN hN=>?_;walk_at "";refine⟨by decide,by decide,by decide,λp2 hp2=>(Bu (Ac.of AE) b1 ⟨_,rfl,by lia,hN _ _ ?_⟩)⟩;clear hN N;refine Cd (λHX=>AI H HX) (e1.trans (AI.new hp2 (.lst [V.int 4,V.int 3,V.int 2,V.int 2,V.int 1,V.int 1,V.int 1,V.int 1]))) ?_;clear e1 hp2 p2 H1 b1;rintro H1 e1
 obtain⟨m,hm,m1,mb⟩:∃m:Nat,((m:Nat):Int)=1+n/8%b/\1<=m/\(m:Int)<=b:=⟨(1+n/8%b).toNat,by have a1:=aR (n/8) (show b≠0 by lia);have a2:=aD (n/8) (show 0<b by lia);lia⟩
 rw[<-hm];clear hm;have gm:g^m<=27:=Int.le_trans (BE g2 (show m<=b.toNat by lia)) bm;have gp:=RW.A1 g2 m;refine A8 λN hN=>?_;walk_at "";refine⟨g,m,rfl,g2,g9,by lia,_,rfl,c,_,rfl,by lia,by lia,λps H2 xs lx bx e2 _ hps=>hN _ _ ?_⟩;clear hN N;refine Cd (λHX=>AI H HX/\HX ps=some (.lst (xs.map V.int))) ⟨e1.trans e2,hps⟩ ?_;clear e1 e2 hps;rintro H3 ⟨e3,hps⟩;obtain⟨x0,hx0⟩:∃x0:Int,x0=xs.getD 0 0:=⟨_,rfl⟩
 have x0b:0<=x0/\x0<2147483647:=by rw[hx0,ZQ,ZP (by lia)];exact bx _ (aq _)
 have ax:=Bm (ns:=xs) (z:=0) (by decide) (by show 0<xs.length;lia);rw[show (0:Int).toNat=0 from rfl,<-hx0]at ax;refine A8 λN hN=>?_;walk_at "";refine (Bu (Ac.of hps) ax (Bu (Ac.of hps) ax ⟨x0,rfl,x0,rfl,.inl ⟨by lia,by lia⟩,by decide,by decide,by decide,.inl ⟨by decide,by decide⟩,by decide,by decide,by decide,by decide,hN _ _ ?_⟩));clear hN N;have lb:=aR (x0*x0) (show (2*10^Int.toNat 17:Int)≠0 by decide);have lc:=aD (x0*x0) (show (0:Int)<2*10^Int.toNat 17 by decide);have ld:(10:Int)^Int.toNat 17=100000000000000000:=by decide
 have le:(x0*x0%(2*10^Int.toNat 17)-10^Int.toNat 17).natAbs<=100000000000000000:=by lia
 generalize x0*x0%(2*10^Int.toNat 17)-10^Int.toNat 17=l0 at le⊢;clear lb lc ld ax hx0;refine HU (λσ HX=>∃lo:Int,σ=[some (.int n),some (.int c),some (.int g),some (.int ((m:Nat):Int)),some (.ref ps),some (.int lo),none]/\HX=H3/\lo.natAbs<=100000000000000000) (λN hN=>?_) ?_
 ·walk_at "";refine⟨by decide,?_⟩
  by_cases z:0<n%3
  ·rw[qD z];exact⟨by decide,hN _ _ ⟨n%11-5,rfl,rfl,by lia⟩⟩
  ·rw[qC z];exact hN _ _ ⟨l0,rfl,rfl,le⟩
 rintro _ hGo σ HX ⟨lo,rfl,rfl,lob⟩;refine hGo _ _ ?_;clear le l0;refine A8 λN hN=>?_;refine⟨_,rfl,1,rfl,?_⟩;dsimp only[JI];refine FZ (Ac.of hps) λp4 H4 e4 _ h4=>?_;rw[show (1:Int)=((1:Nat):Int) from rfl,Fa,<-bX]at h4;obtain⟨ys,hys⟩:∃ys:qR,ys=xs.drop 1:=⟨_,rfl⟩;rw[<-hys]at h4;have yl:(ys.length:Int)=g^m:=by rw[hys,Z1];lia
 refine⟨p4,rfl,⟨_,Ac.of h4⟩,λp5 hp5=>?_⟩;refine Dw (xs:=ys.map V.int) (λi c9 HX=>c9=((ys.take i).map λx=>x%g).map V.int/\HX=Am H4 p5 (.lst c9)) ⟨rfl,rfl⟩ (λi c9 HX _ z=>by rw[z.2];exact Ac.of (AI.new hp5 _ _ _ h4)) ?_ ?_
 ·refine KA ?_;rintro i x _ hGo c9 HX hx ⟨rfl,rfl⟩;refine hGo _ _ ?_;obtain⟨v,hv,rfl⟩:=B3 hx;have il:=(ZW.mp hv).1;walk_at "";refine⟨by lia,AE,?_,?_,by rw[BH]⟩
  ·rw[ZM,ZM,Zt];exact Ad (by lia)
  ·rw[aE,hv];simp
 rintro c9 HX ⟨rfl,rfl⟩;rw[ZM,Zx];refine hN _ _ ?_;clear hN N;obtain⟨tab0,ht0⟩:∃tab0:qR,tab0=ys.map λx=>x%g:=⟨_,rfl⟩
 rw[<-ht0];have tl0:(tab0.length:Int)=g^m:=by rw[ht0,ZM];exact yl
 have tb0:∀n∈tab0,0<=n/\n<g:=λn hn=>by rw[ht0]at hn;obtain⟨x,_,rfl⟩:=Zs.mp hn;exact⟨aR _ (by lia),aD _ (by lia)⟩
 clear ht0;have e5:=(e3.trans e4).trans (AI.new hp5 (.lst (tab0.map V.int)));have h5:Am H4 p5 (.lst (tab0.map V.int)) p5=some (.lst (tab0.map V.int)):=AE;generalize Am H4 p5 (.lst (tab0.map V.int))=H5 at e5 h5⊢;refine HU (λσ HX=>∃(p6:qM) (c5:qR),σ=[some (.int n),some (.int c),some (.int g),some (.int ((m:Nat):Int)),some (.ref ps),some (.int lo),some (.ref p6)]/\AI H HX/\HX p6=some (.lst (c5.map V.int))/\(c5.length:Int)=g^m/\∀n∈c5,0<=n/\n<g) (λN hN=>?_) ?_
 ·walk_at "";refine⟨by decide,?_⟩
  by_cases z:n%5=0
  ·rw[qD z];refine⟨_,rfl,p5,rfl,_,.inl (Ac.of h5),_,rfl,by rw[ZM];lia,by rw[ZM];lia,λp7 hp7=>?_⟩;rw[ZM];have e7:=λo=>AI.new hp7 o
   refine Bq (n:=tab0.length) (λi c9 HX=>c9=((List.range i).map λk:Nat=>tab0.getD (k/g.toNat) 0).map V.int/\HX=Am H5 p7 (.lst c9)) ⟨rfl,rfl⟩ ?_ ?_
   ·refine ET ?_;rintro i _ hGo c9 HX hi ⟨rfl,rfl⟩;refine hGo _ _ ?_;walk_at "";have di:(0+(i:Int))/g=((i/g.toNat:Nat):Int):=by rw[Z0,b8,aB (by lia)]
    rw[di];have dl:=cE i g.toNat;refine⟨by lia,by lia,Bu (Ac.of (e7 _ _ _ h5)) (D9 (by lia)) ⟨AE,?_,?_,by rw[BH]⟩⟩
    ·rw[ZM,ZM,Zc];exact Ad (by lia)
    ·rw[As,Zf];rfl
   rintro c9 HX ⟨rfl,rfl⟩;refine hN _ _ ⟨p7,_,rfl,e5.trans (e7 _),AE,by rw[ZM,Zc];exact tl0,λn hn=>?_⟩;obtain⟨k,hk,rfl⟩:=Zs.mp hn;have hk:=Z5.mp hk;have dl:=cE k g.toNat;rw[ZQ,ZP (by lia)];exact tb0 _ (aq _)
  ·rw[qC z];exact hN _ _ ⟨p5,tab0,rfl,e5,h5,tl0,tb0⟩
 rintro _ hGo σ H6 ⟨p6,c5,rfl,e6,h6,tl,tb⟩;refine hGo _ _ ?_;walk_at "";refine⟨_,.inl ⟨Ac.of h6,λl hl=>⟨by decide,λp hp=>?_⟩⟩⟩;refine q p ⟨g,lo,c5,m⟩ _ (e6.trans ((AI.new hl _).trans (AI.new hp _))) ⟨⟨l,AE,AI.new hp _ _ _ AE⟩,g2,g9,m1,(show m<=8 by lia),tl,(show g^m<=256 by lia),tb⟩ ⟨(show m<=4 by lia),?_,?_⟩
 ·show c5.length<=27;lia
 ·show lo.natAbs<=_;lia
theorem JA:AJ ["_law_xs","_law_names_here","_law_shelf","_law_new","_law_one","_law_way","_law_by","_law_row"] ["_law_xs","_law_names_here","_law_shelf"] (AG Uq):=BS
theorem Xw(T:A5 w K mg t)(G_31:Aa P w K mg base 2 t.f_31 ["_law_number","_law_more"] (Hf))(G_15:Aa P w K mg base 3 t.f_15 ["_law_one"] (Do))(G_34:Aa P w K mg base 1 t.f_34 ["_law_one"] (Fn)):Aa P w K mg base 4 t.f_29 ["_law_xs","_law_names_here","_law_shelf"] (Mm):=by
 refine Ar T.d_29 JA λvs H Q E h=>?_;obtain⟨x,p,sh,xs,n0,n1,n2,n3,rs,i,rfl,hx,lx,bx,hp,hR,bd,i28,q⟩:=h;refine⟨rfl,λcb A outer s hr=>?_⟩
 refine⟨_,(AC (AN 3 JA (AH (Bk K) (pv 1) (AK At (AH (Bk K) (pv 0) AD (λ_ _=>rfl)) AD) (λ_ _=>rfl)))
  (AC (AN 4 JA (AH (Bk K) (pv 1) (AK At (AH (Bk K) (pv 0) AD (λ_ _=>rfl)) AD) (λ_ _=>rfl)))
  (AC (AN 5 JA (AK At (AH (Bk K) (pv 0) AD (λ_ _=>rfl)) AD))
  (AC (Ai (AU Dc (pv 5) AD (AY _)) (AC (GX (CB hr) (pv 2) (pv 3) (AV hr G_31 T.m_31 (AA (AH (Bk K) (pv 0) AD (λ_ _=>rfl)) (AA (AH (Bk K) (pv 0) AD (λ_ _=>rfl)) AB))) rfl)
  (AF (AL (Ay (AA (AK Ab (AK Ab (AK Ab AS (pv 3)) AS) (AV hr G_34 T.m_34 (AA (Cz (CB hr) (pv 2) (pv 3) (λ_ _=>rfl)) AB))) (AA AS AB)))))) AX)
  (AC (AN 6 JA (AK BO (AK At (AK Be (AH (Bk K) (pv 0) AD (λ_ _=>rfl)) (AH (Bk K) (pv 0) AD (λ_ _=>rfl))) (AK Be AD (AK JH AD AD))) (AK JH AD AD)))
  (AC (AN 7 JA (AH (Bk K) (Ay (AA (AK Ab AS (pv 4)) (AA (AK Ab (AK Ab (AK Ab AS (pv 3)) AS) (pv 4)) (AA (AK Ab (AK Ab (AK Ab (AK Ab (AK Ab AS (pv 3)) AS) (pv 4)) AS) (Af An rfl T.z_str Zm (AA (pv 6) AB))) AB)))) (AK BO (pv 5) AD) (λ_ _=>rfl)))
  (AC (Ai (Ga (D0 (CB hr) (pv 4) (pv 2))) (AF (AL (Ay (AA (pv 7) (AA ED AB))))) AX)
  (AC (Ai (AU BY (pv 5) AD (AY _)) (AF (Ax (Cu bZ bt PySem.F.type_dict_pop NQ (pv 2) (AA (pv 4) AB)))) (AF (Ai (AU BY (pv 5) AD (AY _)) (AF (GX (CB hr) (pv 2) (pv 3) (AV hr G_15 T.m_15 (AA (Cz (CB hr) (pv 2) (pv 4) (λ_ _=>rfl)) AB)) rfl)) (AF (GX (CB hr) (pv 2) (pv 3) (DL (AA (AH (BN K) (Cz (CB hr) (pv 2) (pv 4) (λ_ _=>rfl)) AD (λ_ _=>rfl)) (AA (AK Aw (AH (BN K) (Cz (CB hr) (pv 2) (pv 4) (λ_ _=>rfl)) AD (λ_ _=>rfl)) (pv 6)) (AA (AH (BN K) (Cz (CB hr) (pv 2) (pv 4) (λ_ _=>rfl)) AD (λ_ _=>rfl)) AB)))) rfl)))))
  (AF (AL (Ay (AA (pv 7) (AA AS AB))))))))))))),?_⟩
 have xb:∀j:Nat,j<16->0<=xs.getD j 0/\xs.getD j 0<2147483647:=λj hj=>by rw[ZQ,ZP (by lia)];exact bx _ (aq _)
 have ax:∀j:Nat,j<16->Fu (xs.map V.int) (j:Int)=some (.int (xs.getD j 0)):=λj hj=>Uw (by lia)
 obtain⟨hp,nm⟩:=hp;obtain⟨x1,a1,o1⟩:=KL nm (xs.getD 1 0);obtain⟨x2,a2,o2⟩:=KL nm (xs.getD 2 0);have t1:C4 1 (Str.ofString " ")=true:=by decide +kernel
 refine A8 λN hN=>?_;walk_at "";refine (Bu (Ac.of hx) (ax 1 (by decide)) ⟨_,rfl,by decide,Bu (Ac.of hp) a1 (hN _ _ ?_)⟩);clear hN N;refine A8 λN hN=>?_;walk_at "";refine (Bu (Ac.of hx) (ax 2 (by decide)) ⟨_,rfl,by decide,Bu (Ac.of hp) a2 (hN _ _ ?_)⟩);clear hN N;refine A8 λN hN=>?_;walk_at "";refine (Bu (Ac.of hx) (ax 0 (by decide)) ⟨_,rfl,by decide,hN _ _ ?_⟩);clear hN N a1 a2;obtain⟨w,hw,w5⟩:∃w:Nat,(w:Int)=xs.getD 0 0%5/\w<5:=⟨(xs.getD 0 0%5).toNat,by lia,by lia⟩;rw[<-hw];clear hw;refine A8 λN hN=>?_;walk_at "";have l29:rs.length<=29:=by have:=bd.1;lia
 by_cases z2:w<2
 ·rw[qD (by lia)];refine⟨_,rfl,x,_,3,_,rfl,rfl,Ac.of hx,ax 3 (by decide),_,rfl,x,_,4,_,rfl,rfl,Ac.of hx,ax 4 (by decide),_,_,rfl,(xb 3 (by decide)).1,λra qn H1 e1 ok rb=>?_⟩;obtain⟨kvs,hd,lk,hR'⟩:=(hR.same e1).put (x:=x1) l29 ok;refine⟨_,rfl,_,rfl,sh,_,rfl,.inl ⟨kvs,.inr x1,hd,rfl,lk,rfl⟩,?_⟩;have sx:A0 sh H (Am H1 sh (.dK (D5 kvs (.inr x1) (.ref ra)))):=λb o n z=>A0.upd _ b o n (e1 _ _ z)
  generalize Am H1 sh (.dK (D5 kvs (.inr x1) (.ref ra)))=H2 at hR' sx⊢;obtain⟨rb2,gt,ok2⟩:=hR'.hit Qf;walk_at "";have t5:C4 5 (Str.ofString "rule ")=true:=by decide +kernel
  have ro:=Qh (rs:=rs) o1 l29 ok.okR rb;refine⟨LU t5 o1.tx (by decide),LU (A3 t5 o1.tx) t1 (by decide),_,rfl,_,rfl,sh,_,rfl,gt,rb2,qn.g,qn.lo,qn.tq,rfl,⟨ok2.v,ok2.g2,ok2.g9,ok2.tabOk,ok2.tb,br (Sh rb.2.2 (by decide)) (by decide)⟩,λH3 e3=>⟨_,rfl,?_,by decide,λr hr=>?_⟩⟩
  ·rw[<-DX];exact Zl ro.1.2 (by decide)
  have e4:=e3.trans (AI.new hr (.lst [V.str (Str.ofString "rule "++x1++Str.ofString " "++FC qn.g qn.lo qn.tq),V.str (Str.ofString "ok")]));exact q r _ (Dq rs x1 qn) _ _ (λb o n z=>e4 _ _ (sx b o n z)) (hR'.same e4) AE ro (bd.put o1 (rb.le (Zw _)))
 rw[qC (by lia)];refine hN _ _ ?_;clear hN N;refine A8 λN hN=>?_;walk_at "";have b4:=xb 4 (by decide);have b5:=xb 5 (by decide);refine (Bu (Ac.of hx) (ax 4 (by decide)) (Bu (Ac.of hx) (ax 5 (by decide)) ⟨_,rfl,_,rfl,.inl ⟨by lia,by lia⟩,by decide,by decide,by decide,.inl ⟨by decide,by decide⟩,by decide,by decide,by decide,by decide,hN _ _ ?_⟩));clear hN N;have lb:=aR (xs.getD 4 0*xs.getD 5 0) (show (2*10^Int.toNat 17:Int)≠0 by decide);have lc:=aD (xs.getD 4 0*xs.getD 5 0) (show (0:Int)<2*10^Int.toNat 17 by decide);have ld:(10:Int)^Int.toNat 17=100000000000000000:=by decide
 have le:(xs.getD 4 0*xs.getD 5 0%(2*10^Int.toNat 17)-10^Int.toNat 17).natAbs<=100000000000000000:=by lia
 generalize xs.getD 4 0*xs.getD 5 0%(2*10^Int.toNat 17)-10^Int.toNat 17=l0 at le⊢;clear lb lc ld b4 b5;have f31:l0.natAbs<10^31:=bV le (by decide);obtain⟨row,ar,r0,r1⟩:=Qm (w:=w) (by lia) w5 o1 o2 le bd i28;have td:C4 5 (Str.ofString "drop ")=true:=by decide +kernel
 have tt:C4 5 (Str.ofString "turn ")=true:=by decide +kernel
 have tm:C4 5 (Str.ofString "move ")=true:=by decide +kernel
 refine A8 λN hN=>?_;walk_at "";refine⟨LU td o2.tx (by decide),LU tt o1.tx (by decide),LU (A3 tt o1.tx) t1 (by decide),LU (A3 (A3 tt o1.tx) t1) o2.tx (by decide),LU tm o1.tx (by decide),LU (A3 tm o1.tx) t1 (by decide),LU (A3 (A3 tm o1.tx) t1) o2.tx (by decide),LU (A3 (A3 (A3 tm o1.tx) t1) o2.tx) t1 (by decide),?_⟩;refine⟨Ha (br f31 (by decide)),LU (A3 (A3 (A3 (A3 tm o1.tx) t1) o2.tx) t1) (KO f31) (by decide),by decide,λp1 hp1=>(Bu (Ac.of AE) ar (hN _ _ ?_))⟩;clear hN N ar td tt tm;refine Cd (λHX=>AI H HX) (AI.new hp1 _) ?_;clear hp1 p1;rintro H1 e1;have hR1:=hR.same e1;refine A8 λN hN=>?_;walk_at "";refine⟨_,rfl,_,rfl,sh,?_⟩;cases lk:rs.lookup x2 with
 |none =>
  refine⟨_,rfl,hR1.miss lk,true,rfl,?_⟩;rw[qD rfl];refine⟨by decide,λr hr=>?_⟩;have e2:=e1.trans (AI.new hr (.lst [V.str row,V.non]));exact q r _ rs row .non (A0.of e2) (hR.same e2) AE (r0 lk) bd.up
 |some qn =>
  obtain⟨ra,gt,ok⟩:=hR1.hit lk;refine⟨_,rfl,gt,false,rfl,?_⟩;rw[qC (by decide)];refine hN _ _ ?_;clear hN N;obtain⟨ro,bd'⟩:=r1 qn lk;refine Ak.el ok.v λtb k1 k2=>?_;refine HU (λσ HX=>σ=[some (V.ref x),some (V.ref p),some (V.ref sh),some (V.str x1),some (V.str x2),some (V.int ((w:Nat):Int)),some (V.int l0),some (V.str row)]/\A0 sh H HX/\DW HX sh (Ql w rs x1 x2 qn l0)) (λN hN=>?_) ?_
  ·unfold Ql at hN;walk_at ""
   by_cases y2:w=2
   ·rw[qD (by lia)];obtain⟨kvs,c,hd,vv,hR'⟩:=hR1.drop lk;refine⟨.inr (.inr (.inl (.inl ⟨kvs,hd⟩))),kvs,.inr x2,rfl,hd,⟨_,vv⟩,hN _ _ ⟨rfl,λb o n z=>A0.upd _ b o n (e1 _ _ z),?_⟩⟩;rw[qD y2];exact hR'
   rw[qC (by lia)]
   by_cases y3:w=3
   ·rw[qD (by lia)];refine⟨_,rfl,_,rfl,sh,_,rfl,gt,ra,qn.g,qn.lo,qn.tq,qn.m,rfl,ok,λr2 H2 e2 ok2=>?_⟩;obtain⟨kvs,hd,lz,hR'⟩:=(hR1.same e2).put (x:=x1) (q:=Ip qn) l29 ok2;refine⟨_,rfl,_,rfl,sh,_,rfl,.inl ⟨kvs,.inr x1,hd,rfl,lz,rfl⟩,hN _ _ ⟨rfl,λb o n z=>A0.upd _ b o n (e2 _ _ (e1 _ _ z)),?_⟩⟩;rw[qC y2,qD y3];exact hR'
   rw[qC (by lia)];refine⟨_,rfl,_,rfl,sh,_,rfl,gt,ra,(_),0,_,rfl,rfl,Ao.of k1,rfl,_,rfl,_,rfl,sh,_,rfl,gt,ra,(_),1,_,rfl,rfl,Ao.of k1,rfl,_,rfl,_,_,rfl,rfl,_,rfl,_,rfl,sh,_,rfl,gt,ra,(_),2,_,rfl,rfl,Ao.of k1,rfl,(show 3<=sizeLine by decide),λr2 hr2=>?_⟩;have e2:=AI.new hr2 (.tup [V.int qn.g,V.int (qn.lo+l0),V.ref tb]);have ok2:EV (Am H1 r2 (.tup [V.int qn.g,V.int (qn.lo+l0),V.ref tb])) r2 (Mf qn l0):=⟨⟨tb,AE,e2 _ _ k2⟩,ok.g2,ok.g9,ok.m1,ok.m8,ok.len,ok.sz,ok.tb⟩;obtain⟨kvs,hd,lz,hR'⟩:=(hR1.same e2).put (x:=x1) (q:=Mf qn l0) l29 ok2;refine⟨_,rfl,_,rfl,sh,_,rfl,.inl ⟨kvs,.inr x1,hd,rfl,lz,rfl⟩,hN _ _ ⟨rfl,λb o n z=>A0.upd _ b o n (e2 _ _ (e1 _ _ z)),?_⟩⟩;rw[qC y2,qC y3];exact hR'
  rintro _ hGo σ H2 ⟨rfl,sx,hR2⟩;refine hGo _ _ ?_;walk_at "";refine⟨by decide,λr hr=>?_⟩;have e4:=AI.new hr (.lst [V.str row,V.str (Str.ofString "ok")]);exact q r _ _ _ _ (λb o n z=>e4 _ _ (sx b o n z)) (hR2.same e4) AE ro bd'
theorem Xx:AJ ["_law_way","_law_one","_law_other","_law_word_here"] ["_law_way","_law_one","_law_other","_law_word_here"] (AG Ur):=BS
theorem Xy(T:A5 w K mg t)(G_34:Aa P w K mg base 1 t.f_34 ["_law_one"] (Fn))(G_20:Aa P w K mg base 1 t.f_20 ["_law_word_here"] (DU K))(G_30:Aa P w K mg base 1 t.f_30 ["_law_one","_law_row"] (KI K))(G_12:Aa P w K mg base 4 t.f_12 ["_law_one"] (DC))(G_21:Aa P w K mg base 1 t.f_21 ["_law_word_here","_law_signs"] (FM))(G_53:Aa P w K mg base 3 t.f_53 ["_law_one","_law_row"] (MU K))(G_3:Aa P w K mg base 3 t.f_3 ["_law_one","_law_ring"] (Fq K)):Aa P w K mg base 5 t.f_10 ["_law_way","_law_one","_law_other","_law_word_here"] (Hg K):=by
 refine Ar T.d_10 Xx λvs H Q E h=>?_;obtain⟨way,a,b,x,q,r,us,i,rfl,w6,ok,ok',rb,rb',i30,hx,ub,ul,u4,qq⟩:=h;refine⟨rfl,λcb A outer s hr=>?_⟩
 refine⟨_,(AC (Ai (AU BY (pv 0) AD (AY _)) (AF (AL (AV hr G_34 T.m_34 (AA (AV hr G_12 T.m_12 (AA (pv 1) AB)) AB)))) AX)
  (AC (Ai (AU BY (pv 0) AD (AY _)) (AF (AL (Af An rfl T.z_str Zm (AA (AV hr G_21 T.m_21 (AA (Kv rfl rfl T.z_reversed rfl T.z_list (AA (AH (BN K) (pv 1) AD (λ_ _=>rfl)) AB)) (AA (AH (BN K) (pv 1) AD (λ_ _=>rfl)) AB))) AB)))) AX)
  (AC (Ai (AU BY (pv 0) AD (AY _)) (AF (AL (AH (Bk K) (Ay (AA AS (AA AS AB))) (Af Go rfl T.z_int bE (AA (Bx (PX hr.units) (AV hr G_12 T.m_12 (AA (pv 1) AB)) (AV hr G_12 T.m_12 (AA (pv 2) AB)) (AY _)) AB)) (λ_ _=>rfl)))) AX)
  (AC (Ai (AU BY (pv 0) AD (AY _)) (AF (AL (AV hr G_20 T.m_20 (AA (AV hr G_53 T.m_53 (AA (pv 1) (AA (pv 3) AB))) AB)))) AX)
  (AC (Ai (AU BY (pv 0) AD (AY _)) (AF (AL (AV hr G_20 T.m_20 (AA (AV hr G_3 T.m_3 (AA (pv 1) (AA (pv 3) AB))) AB)))) AX)
  (AF (AL (Af An rfl T.z_str Zm (AA (AV hr G_30 T.m_30 (AA (pv 1) (AA (pv 3) AB))) AB))))))))),?_⟩
 refine Ak.el ok.v λtb h1 h2=>?_;walk_at ""
 by_cases z0:way=0
 ·rw[qD (by lia)];subst z0;refine⟨a,q.g,q.lo,q.tq,q.m,rfl,ok,λl M nw r1 H1 e1 ok1=>?_⟩;have far:=R5 nw ok.m8 rb.2.2 i30;exact⟨r1,q.g,l,_,rfl,⟨ok1.v,ok1.g2,ok1.g9,ok1.tabOk,ok1.tb,far⟩,λH2 e2=>qq _ H2 (e1.trans e2) ⟨l,M,nw,far,rfl⟩⟩
 rw[qC (by lia)]
 by_cases z1:way=1
 ·rw[qD (by lia)];subst z1;refine (BU (Ao.of h1) rfl ⟨tb,rfl,_,Ao.of h2,λp hp=>?_⟩);rw[<-aV];have far:=R6 ok rb.2.1;have e1:=AI.new hp (.lst (q.tq.reverse.map V.int));refine (BU (Ao.of (e1 _ _ h1)) rfl ⟨p,_,_,rfl,AE,ok.g2,ok.g9,_,rfl,?_⟩);rw[Dv];exact⟨Ha far,qq _ _ e1 ⟨far,rfl⟩⟩
 rw[qC (by lia)]
 by_cases z2:way=2
 ·rw[qD (by lia)];subst z2;refine⟨by decide,λp hp=>?_⟩;have e1:=AI.new hp (.lst [V.str (Str.ofString "no"),V.str (Str.ofString "yes")]);refine⟨a,q.g,q.lo,q.tq,q.m,rfl,Ap.same e1 ok,λl M nw r1 H1 f1 ok1=>?_⟩;refine⟨b,r.g,r.lo,r.tq,r.m,rfl,Ap.same (e1.trans f1) ok',λl' M' nw' r2 H2 f2 ok2=>?_⟩;refine⟨_,_,(ok1.same f2).v.dat,ok2.v.dat,Es ..,Es ..,Gr ..,?_⟩;have hv:=Ez q.g l (GQ q.g q.lo q.tq q.m l M) r.g l' (GQ r.g r.lo r.tq r.m l' M');generalize PyData.eqv (.tuple [.int q.g,.int l,.tuple ((GQ q.g q.lo q.tq q.m l M).map PyData.int)]) (.tuple [.int r.g,.int l',.tuple ((GQ r.g r.lo r.tq r.m l' M').map PyData.int)])=v at hv⊢;have hp2:=(f1.trans f2) _ _ (AE (H:=H) (a:=p) (o:=.lst [V.str (Str.ofString "no"),V.str (Str.ofString "yes")]));have e12:=e1.trans (f1.trans f2)
  have iff:v=true↔q.g=r.g/\G3 q.g q.lo q.tq q.m r.lo r.tq r.m:=by
   rw[hv];refine and_congr_right λeg=>?_;rw[<-eg];have len':(r.tq.length:Int)=q.g^r.m:=by rw[eg];exact ok'.len
   rw[<-eg]at nw';exact (DS ok.g2 ok.len len' nw nw').symm
  cases v with
  |true=>exact⟨1,.inr ⟨true,rfl,rfl⟩,Bu (Ac.of hp2) rfl (qq _ _ e12 ⟨true,iff,rfl⟩)⟩
  |false=>exact⟨0,.inr ⟨false,rfl,rfl⟩,Bu (Ac.of hp2) rfl (qq _ _ e12 ⟨false,iff,rfl⟩)⟩
 rw[qC (by lia)]
 by_cases z3:way=3
 ·rw[qD (by lia)];subst z3;exact⟨a,x,q.g,q.lo,q.tq,q.m,us,rfl,ok,hx,ub,by lia,λp H1 n1=>⟨p,_,rfl,Ac.of n1.2.2,LV ok,Iw us (by lia),λH2 e2=>qq _ H2 (n1.1.trans e2) rfl⟩⟩
 rw[qC (by lia)]
 by_cases z4:way=4
 ·rw[qD (by lia)];subst z4;exact⟨a,x,q.g,q.lo,q.tq,q.m,us,rfl,ok,hx,ub,u4 rfl,by lia,λp H1 n1=>⟨p,_,rfl,Ac.of n1.2.2,Ix ok,Hi us (by lia),λH2 e2=>qq _ H2 (n1.1.trans e2) rfl⟩⟩
 rw[qC (by lia)];obtain rfl:way=5:=by lia
 exact⟨a,x,q.g,q.lo,q.tq,q.m,us,rfl,ok,hx,by lia,λH1 e1=>⟨_,rfl,Ha (NV ok (by lia)),qq _ H1 e1 rfl⟩⟩
theorem FO:AJ ["_law_xs","_law_names_here","_law_shelf","_law_one","_law_other","_law_way","_law_signs","_law_word_here","_law_row"] ["_law_xs","_law_names_here","_law_shelf"] (AG Us):=BS
theorem Xz(T:A5 w K mg t)(G_10:Aa P w K mg base 5 t.f_10 ["_law_way","_law_one","_law_other","_law_word_here"] (Hg K))(G_14:Aa P w K mg base 1 t.f_14 ["_law_cell","_law_many_here"] (Cb))(G_20:Aa P w K mg base 1 t.f_20 ["_law_word_here"] (DU K)):Aa P w K mg base 6 t.f_52 ["_law_xs","_law_names_here","_law_shelf"] (Qb K):=by
 refine Ar T.d_52 FO λvs H Q E h=>?_;obtain⟨x,p,sh,xs,n0,n1,n2,n3,rs,i,rfl,hx,l5,l16,bx,hp,hR,bd,i29,q⟩:=h;refine⟨rfl,λcb A outer s hr=>?_⟩
 refine⟨_,(AC (AN 3 FO (AH (Bk K) (pv 1) (AK At (AH (Bk K) (pv 0) AD (λ_ _=>rfl)) AD) (λ_ _=>rfl)))
  (AC (AN 4 FO (AH (Bk K) (pv 1) (AK At (AH (Bk K) (pv 0) AD (λ_ _=>rfl)) AD) (λ_ _=>rfl)))
  (AC (AN 5 FO (AK At (AH (Bk K) (pv 0) AD (λ_ _=>rfl)) AD))
  (AC (AN 6 FO (AH (BN K) (LL (CB hr) (pv 2) (pv 3) (DL (Ae (Ae (AA (DL (Ae (Ae AB))) AB)))) ⟨rfl,rfl,rfl,rfl⟩) AD (λ_ _=>rfl)))
  (AC (L0 (iy:=7) (ig:=6) rfl FO.nd rfl rfl rfl rfl (AV hr G_14 T.m_14 (AA (AH (Bk K) (pv 0) AD (λ_ _=>rfl)) (AA (AK Aw (AK At (AH (Bk K) (pv 0) AD (λ_ _=>rfl)) AD) (Af Go rfl T.z_int bE (AA (Bx BY (pv 5) AD (AY _)) AB))) AB))) (by with_unfolding_all rfl) (by with_unfolding_all rfl) (by with_unfolding_all rfl) (by decide +kernel) rfl (by decide +kernel) rfl (by with_unfolding_all rfl))
  (AC (AN 8 FO (AK Ab (AH (Bk K) (Ay (AA AS (AA AS (AA AS (AA AS (AA AS (AA AS AB))))))) (pv 5) (λ_ _=>rfl)) (pv 3)))
  (AC (Ai (AU BY (pv 5) AD (AY _)) (AF (AN 8 FO (AK Ab (AK Ab (pv 8) AS) (pv 4)))) AX)
  (AC (Ai (AU Ge (pv 5) AD (AY _)) (AF (AN 8 FO (AK Ab (AK Ab (pv 8) AS) (AV hr G_20 T.m_20 (AA (pv 7) AB))))) AX)
  (AC (Ai (PW.pt (DY (Ga (D0 (CB hr) (pv 3) (pv 2))) (DH (PW.pt (Lg (AU BY (pv 5) AD (AY _)) (JE (Ga (D0 (CB hr) (pv 4) (pv 2))))))))) (AF (AL (Ay (AA (pv 8) (AA ED AB))))) AX)
  (AF (AL (Ay (AA (pv 8) (AA (AV hr G_10 T.m_10 (AA (pv 5) (AA (Cz (CB hr) (pv 2) (pv 3) (λ_ _=>rfl)) (AA (LL (CB hr) (pv 2) (pv 4) (Cz (CB hr) (pv 2) (pv 3) (λ_ _=>rfl)) ⟨rfl,rfl,rfl,rfl⟩) (AA (pv 7) AB))))) AB)))))))))))))),?_⟩
 have xb:∀j:Nat,j<5->0<=xs.getD j 0/\xs.getD j 0<2147483647:=λj hj=>by rw[ZQ,ZP (by lia)];exact bx _ (aq _)
 have ax:∀j:Nat,j<5->Fu (xs.map V.int) (j:Int)=some (.int (xs.getD j 0)):=λj hj=>Uw (by lia)
 obtain⟨hp,nm⟩:=hp;obtain⟨x1,a1,o1⟩:=KL nm (xs.getD 1 0);obtain⟨x2,a2,o2⟩:=KL nm (xs.getD 2 0);refine A8 λN hN=>?_;walk_at "";refine⟨x,_,1,_,rfl,rfl,hx,ax 1 (by decide),_,rfl,by decide,Bu (Ac.of hp) a1 (hN _ _ ?_)⟩;clear hN N;refine A8 λN hN=>?_;walk_at "";refine⟨x,_,2,_,rfl,rfl,hx,ax 2 (by decide),_,rfl,by decide,Bu (Ac.of hp) a2 (hN _ _ ?_)⟩;clear hN N;refine A8 λN hN=>?_;walk_at "";refine⟨x,_,0,_,rfl,rfl,hx,ax 0 (by decide),_,rfl,by decide,hN _ _ ?_⟩;clear hN N a1 a2;obtain⟨w,hw,w6⟩:∃w:Nat,(w:Int)=xs.getD 0 0%6/\w<6:=⟨(xs.getD 0 0%6).toNat,by lia,by lia⟩;rw[<-hw];clear hw;refine HU (λσ HX=>∃g:Int,σ=[some (V.ref x),some (V.ref p),some (V.ref sh),some (V.str x1),some (V.str x2),some (V.int ((w:Nat):Int)),some (V.int g),none,none]/\AI H HX/\2<=g/\g<=9/\∀q,rs.lookup x1=some q->q.g=g) (λN hN=>?_) ?_
 ·obtain⟨kvs,hd⟩:=hR.dct;walk_at "";refine⟨_,rfl,sh,rfl,.inl ⟨kvs,.inl hd⟩,_,rfl,(show 2<=sizeLine by decide),λp5 hp5=>⟨(show 3<=sizeLine by decide),λp6 hp6=>?_⟩⟩;have e6:=(AI.new hp5 (.tup [V.int 0,V.int 1])).trans (AI.new hp6 (.tup [V.int 2,V.int 0,V.ref p5]));cases lk:rs.lookup x1 with
  |none=>exact⟨none,(hR.same e6).miss lk,BU (Ao.of AE) rfl (hN _ _ ⟨2,rfl,e6,by decide,by decide,λq z=>by rw[lk]at z;cases z⟩)⟩
  |some qn =>
   obtain⟨ra,gt,ok⟩:=(hR.same e6).hit lk;refine Ak.el ok.v λtb k1 k2=>?_;exact⟨some (.ref ra),gt,BU (Ao.of k1) rfl (hN _ _ ⟨qn.g,rfl,e6,ok.g2,ok.g9,λq z=>by rw[lk]at z;cases z;rfl⟩)⟩
 rintro _ hGo σ H1 ⟨g,rfl,e1,g2,g9,hg⟩;refine hGo _ _ ?_;refine A8 λN hN=>?_;walk_at "";have b4:=xb 4 (by decide);have i4:0<=(if ((w:Nat):Int)=4 then (1:Int) else 0)/\(if ((w:Nat):Int)=4 then (1:Int) else 0)<=1:=by split<;>lia
 refine⟨by lia,x,_,3,_,rfl,rfl,e1.seq hx,ax 3 (by decide),x,_,4,_,rfl,rfl,e1.seq hx,ax 4 (by decide),_,rfl,by decide,_,.inr rfl,_,_,rfl,by lia,by lia,λps H2 l ll _ e2 _ hps=>⟨ps,rfl,l,Ac.of hps,λp7 hp7=>hN _ _ ?_⟩⟩;clear hN N;obtain⟨us,hus⟩:∃us:qR,us=l.map λx=>x%g:=⟨_,rfl⟩
 rw[<-hus]
 have ub:∀n∈us,0<=n/\n<g:=λn hn=>by rw[hus]at hn;obtain⟨x,_,rfl⟩:=Zs.mp hn;exact⟨aR _ (by lia),aD _ (by lia)⟩
 have ulen:us.length=l.length:=by rw[hus,ZM]
 have ul:us.length<=13:=by lia
 have u4:w=4->1<=us.length:=λz=>by rw[qD (by lia)]at ll;lia
 have ub9:∀n∈us,0<=n/\n<9:=λn hn=>by have:=ub n hn;lia
 clear hus ulen ll b4 i4;refine Cd (λHX=>AI H HX/\HX p7=some (.lst (us.map V.int))) ⟨(e1.trans e2).trans (AI.new hp7 _),AE⟩ ?_;clear hps hp7 e2;rintro H3 ⟨e3,h7⟩;refine A8 λN hN=>?_;walk_at "";refine⟨by decide,λp8 hp8=>(Bu (Ac.of AE) (U2 w6) ⟨_,rfl,LU (KQ w6) o1.tx (by decide),hN _ _ ?_⟩)⟩;clear hN N;refine Cd (λHX=>AI H HX/\HX p7=some (.lst (us.map V.int))) ⟨e3.trans (AI.new hp8 _),AI.new hp8 _ _ _ h7⟩ ?_;clear hp8 h7 e3;rintro H4 ⟨e4,h7⟩;have t1:C4 1 (Str.ofString " ")=true:=by decide +kernel
 refine HU (λσ HX=>σ=[some (V.ref x),some (V.ref p),some (V.ref sh),some (V.str x1),some (V.str x2),some (V.int ((w:Nat):Int)),some (V.int g),some (V.ref p7),some (V.str (if w=2 then KP w++x1++Str.ofString " "++x2 else KP w++x1))]/\HX=H4) (λN hN=>?_) ?_
 ·walk_at ""
  by_cases z:w=2
  ·rw[qD (by lia)];exact⟨LU (A3 (KQ w6) o1.tx) t1 (by decide),LU (A3 (A3 (KQ w6) o1.tx) t1) o2.tx (by decide),hN _ _ ⟨by rw[qD z],rfl⟩⟩
  ·rw[qC (by lia)];exact hN _ _ ⟨by rw[qC z],rfl⟩
 rintro _ hGo σ HX ⟨rfl,rfl⟩;refine hGo _ _ ?_;refine HU (λσ HX=>σ=[some (V.ref x),some (V.ref p),some (V.ref sh),some (V.str x1),some (V.str x2),some (V.int ((w:Nat):Int)),some (V.int g),some (V.ref p7),some (V.str (Mn w x1 x2 us))]/\AI H HX/\HX p7=some (.lst (us.map V.int))) (λN hN=>?_) ?_
 ·unfold Mn at hN;walk_at ""
  by_cases z:2<w
  ·rw[qD (by lia)];have tk:=A3 (KQ w6) o1.tx;rw[qC (show ¬w=2 by lia)];refine⟨LU tk t1 (by decide),p7,us,rfl,Ac.of h7,ub9,by lia,λH6 e6=>⟨_,rfl,LU (A3 tk t1) (NZ ub9 ul).2 (by decide),hN _ _ ⟨?_,e4.trans e6,e6 _ _ h7⟩⟩⟩;rw[qC (show ¬w=2 by lia),qD z]
  ·rw[qC (by lia)];refine hN _ _ ⟨?_,e4,h7⟩
   by_cases z2:w=2
   ·rw[qD z2,qD z2]
   ·rw[qC z2,qC z2,qC z]
 rintro _ hGo σ H5 ⟨rfl,e5,h5⟩;refine hGo _ _ ?_;clear e4 h7;have hR5:=hR.same e5;refine A8 λN hN=>?_;walk_at "";have no:∀{H6:Hp} (r:qM),AI H5 H6->H6 r=none->CS rs rs (Mn w x1 x2 us) .non->Q (.ref r) (Am H6 r (.lst [V.str (Mn w x1 x2 us),V.non])):=λr e6 hr ro=>q r _ _ _ ((e5.trans e6).trans (AI.new hr _)) AE ro
 refine⟨_,rfl,_,rfl,sh,?_⟩;cases lk:rs.lookup x1 with
 |none =>
  refine⟨_,rfl,hR5.miss lk,true,rfl,?_⟩;rw[qD rfl];exact⟨by decide,λr hr=>no r (AI.refl _) hr (Hj w6 o1 o2 ub9 ul (.inl lk))⟩
 |some qn =>
  obtain⟨ra,gt,ok⟩:=hR5.hit lk
  have fin:(w=2->∃r,rs.lookup x2=some r)->N [some (V.ref x),some (V.ref p),some (V.ref sh),some (V.str x1),some (V.str x2),some (V.int ((w:Nat):Int)),some (V.int g),some (V.ref p7),some (V.str (Mn w x1 x2 us))] H5:=λhh=>by
   refine hN _ _ ?_;clear hN N no;walk_at "";obtain⟨kvs,hd⟩:=hR5.dct;have ubq:∀n∈us,0<=n/\n<qn.g:=λn hn=>by rw[hg qn lk];exact ub n hn
   have rbq:=(bd.at lk).2
   obtain⟨o,rb,rq,go,eo,okr,rbr,lk'⟩:∃(o:Option V) (rb:qM) (rq:Rl),IE H5 sh (.str x2) o/\o.getD (.ref ra)=.ref rb/\EV H5 rb rq/\RB i rq/\(w=2->rs.lookup x2=some rq):=by
    cases lk2:rs.lookup x2 with
    |none=>exact⟨none,ra,qn,hR5.miss lk2,rfl,ok,rbq,λz=>(hh z).elim λr y=>by rw[lk2]at y;cases y⟩
    |some r =>
     obtain⟨rb,gt2,okr⟩:=hR5.hit lk2;exact⟨_,rb,r,gt2,rfl,okr,(bd.at lk2).2,λ_=>rfl⟩
   refine⟨_,rfl,_,rfl,sh,_,rfl,gt,_,rfl,sh,rfl,.inl ⟨kvs,.inl hd⟩,_,rfl,_,rfl,_,rfl,sh,_,rfl,gt,o,go,?_⟩;rw[eo];exact⟨w,ra,rb,p7,qn,rq,us,i,rfl,w6,ok,okr,rbq,rbr,by lia,Ac.of h5,ubq,ul,u4,λy H6 e6 an=>⟨by decide,λr hr=>q r _ _ _ ((e5.trans e6).trans (AI.new hr _)) AE (Qn w6 o1 o2 ubq ok.g9 ul u4 lk lk' an)⟩⟩
  refine⟨_,rfl,gt,false,rfl,?_⟩;rw[qC (by decide)]
  by_cases z2:w=2
  ·rw[qD (by lia)];refine⟨_,rfl,_,rfl,sh,?_⟩;cases lk2:rs.lookup x2 with
   |none =>
    refine⟨_,rfl,hR5.miss lk2,true,rfl,?_⟩;rw[qD rfl];exact⟨by decide,λr hr=>no r (AI.refl _) hr (Hj w6 o1 o2 ub9 ul (.inr ⟨z2,qn,lk,lk2⟩))⟩
   |some r =>
    obtain⟨rb,gt2,_⟩:=hR5.hit lk2;refine⟨_,rfl,gt2,false,rfl,?_⟩;rw[qC (by decide)];exact fin λ_=>⟨r,lk2⟩
  ·rw[qC (by lia)];exact fin λz=>qE z z2
theorem JB:AJ ["_law_book","_law_two","_law_caught","_law_told","error"] ["_law_book","_law_two"] (AG Ut):=BS
theorem X0(T:A5 w K mg t)(G_49:Aa P w K mg base 10 t.f_49 ["self","row"] (Hb t)):Aa P w K mg base 11 t.f_32 ["_law_book","_law_two"] (Hh t):=by
 refine Ar T.d_32 JB λvs H Q E h=>?_;obtain⟨b,d,r,rs,rs',row,due,rfl,bk,hr2,ro,q⟩:=h;refine⟨rfl,λcb A outer s hr=>?_⟩
 refine⟨_,(AC (AN 2 JB ED)
  (AC (AN 3 JB AS)
  (AC (TL (i:=4) (W:=λσ cls D H'=>σ=[some (.ref b),some (.ref r),some .non,some (.str ""),none]/\cls=.ref t.c_70/\due=.non/\rs'=rs/\AI H H') JB.nd rfl rfl rfl T.m_51 rfl rfl (λ_=>(AF (AN 3 JB (FF (pv 0) T.th_84.cl T.me_49 G_49 (hr.mono (by decide)) Ly (AA (AH (Em (K:=K) rfl) (pv 1) AD (λ_ _=>rfl)) AB))))) (λ_=>(AF (AN 2 JB (pv 4)))))
  (AC (Ai (AU Q5 (AH (Bk K) (pv 1) AD (λ_ _=>rfl)) ED (AY _)) (AF (AL (Db (Bx Os (pv 2) ED (AY _)) (Db (DN rfl T.z_isinstance (pv 3) (Fv rfl T.z_str PyProof.Rows.boot_str)) (FP (Bx BY (pv 3) (AH (Bk K) (pv 1) AD (λ_ _=>rfl)) (AY _))))))) AX)
  (AC (Ai (PW.pt (DY (AU Os (pv 2) ED (AY _)) (DY (Bv (Bc (DN rfl T.z_isinstance (pv 2) (Gk rfl T.m_70)))) (DH (Bv (Bc (DN rfl T.z_isinstance (pv 2) (Fv rfl T.z_ValueError PyProof.Rows.Boot.«ValueError»)))))))) (AF (AL D6)) AX)
  (AF (AL (Db (Lh (DN rfl T.z_isinstance (pv 2) (Gk rfl T.m_79))) (FP (Lh (DN rfl T.z_isinstance (pv 2) (Gk rfl T.m_73)))))))))))),?_⟩
 obtain⟨tx,dd,say⟩:=ro;obtain⟨⟨dx,hb⟩,hR⟩:=id bk;have rd':r≠d:=λe=>by obtain⟨kvs,z⟩:=hR.dct;rw[<-e,hr2]at z;cases z
 refine A8 λN hN=>?_;walk_at "";refine hN _ _ ?_;clear hN N;refine A8 λN hN=>?_;walk_at "";refine hN _ _ ?_;clear hN N;refine A8 λN hN=>?_;walk_at "";refine⟨⟨_,rfl,b,dx,_,rfl,hb,rfl,_,rfl,r,_,0,_,rfl,rfl,Ac.of hr2,rfl,⟨b,d,rs,row,rfl,bk,tx,say t H d _ _ hR (λz D H' e=>⟨rfl,rfl,z,?_,e⟩) (λy z H1 sx hR1=>hN _ _ ?_)⟩⟩,?_⟩
 ·rcases dd with⟨_,e⟩|⟨y,e⟩
  ·exact e
  ·rw[z]at e;cases e
 ·clear hN N say;subst z;have hr3:=sx _ _ rd' hr2;have bk1:=bk.put sx hR1;walk_at "";refine (Bu (Ac.of hr3) rfl ?_);rw[qD (by intro z;cases z)];refine⟨_,.of (.str y),true,QG,?_⟩;rw[qD rfl];refine (Bu (Ac.of hr3) rfl ⟨rfl,?_⟩);rw[qF rfl];exact q _ sx bk1
 rintro σ' cls D' H' ⟨rfl,rfl,rfl,rfl,e⟩;refine⟨T.em_70_51,λea hea=>⟨_,rfl,hN _ _ ?_⟩⟩;clear hN N say;have he:Am H' ea (Hu ea (.ref t.c_70) D' false) ea=some (Hu ea (.ref t.c_70) D' false):=AE;have e1:=e.trans (AI.new hea (Hu ea (.ref t.c_70) D' false));generalize Am H' ea (Hu ea (.ref t.c_70) D' false)=H1 at he e1⊢;have hr3:=e1 _ _ hr2;walk_at "";refine (Bu (Ac.of hr3) rfl ?_);rw[qC (λz=>z rfl)];refine⟨_,.exc he T.ek_70,_,T.kt_70_70,?_⟩;rw[qC (by decide)];refine⟨_,.exc he T.ek_70,_,T.kt_NoName_ValueError,?_⟩;rw[qC (by decide)];refine⟨_,.exc he T.ek_70,_,T.kt_70_79,?_⟩;rw[qD rfl];exact⟨_,.exc he T.ek_70,_,T.kt_70_73,q _ (A0.of e1) (bk.same e1)⟩
theorem F7:AJ ["_law_script","_law_names_here","_law_book","_law_other","_law_shelf","_law_cell","_law_xs","_law_standing"] ["_law_script"] (AG Rx):=BS
theorem X1{f:qM}{fd:FuncData}(T:A5 w K mg t)(F:BD K "law" "law" Rx f fd)(G_19:Aa P w K mg base 2 t.f_19 ["_law_cell"] (KB))(G_4:Aa P w K mg base 1 t.f_4 ["self"] (QU t))(G_5:Aa P w K mg base 1 t.f_5 ["_law_script","_law_k"] (L6 K))(G_14:Aa P w K mg base 1 t.f_14 ["_law_cell","_law_many_here"] (Cb))(G_32:Aa P w K mg base 11 t.f_32 ["_law_book","_law_two"] (Hh t))(G_29:Aa P w K mg base 4 t.f_29 ["_law_xs","_law_names_here","_law_shelf"] (Mm))(G_52:Aa P w K mg base 6 t.f_52 ["_law_xs","_law_names_here","_law_shelf"] (Qb K))(G_49:Aa P w K mg base 10 t.f_49 ["self","row"] (Hb t)):C1 P w K mg base (Ea P w) 12 f fd ["_law_script"] (Kn K):=by
 refine F.okY F7 λvs H Q E h=>?_;obtain⟨a,ns,rfl,hS,hl,q⟩:=h;refine⟨rfl,λcb A outer s hr=>?_⟩
 refine⟨_,(AC (AN 1 F7 (AV hr G_19 T.m_19 (AA (AV hr G_5 T.m_5 (AA (pv 0) (Ae AB))) AB)))
  (AC (AN 2 F7 (Il T.mk_84 G_4 (hr.mono (by decide)) rfl T.m_84))
  (AC (AN 3 F7 (Il T.mk_84 G_4 (hr.mono (by decide)) rfl T.m_84))
  (AC (AN 4 F7 LK)
  (AC (BB PassesOwn.never rfl (Qw K (AK TJ (Ay (AA (AV hr G_5 T.m_5 (AA (pv 0) (Ae AB))) (AA (AV hr G_5 T.m_5 (AA (pv 0) (Ae AB))) AB))) (Bn Dt (pv 0) (Bp AD) (Bp AD)))) (BR 5 F7) (AC (AN 6 F7 (AV hr G_14 T.m_14 (AA (pv 5) (Ae AB))))
  (AC (Ai (Bv (Bc (AV hr G_32 T.m_32 (AA (pv 2) (AA (AV hr G_29 T.m_29 (AA (pv 6) (AA (pv 1) (AA (pv 4) AB)))) AB))))) (AF (AL D6)) AX)
  (AC (AN 7 F7 (Cu Zu aI aJ DT AS (AA (AT (F5 rfl) rfl T.z_sorted PyProof.Rows.boot_sorted (AA (pv 4) AB)) AB)))
  (AC (Ai (PW.pt (Lg (AU BY (AK At (AH (Bk K) (pv 6) AD (λ_ _=>rfl)) AD) AD (AY _)) (JE (AU Ef (FF (pv 2) T.th_84.cl T.me_49 G_49 (hr.mono (by decide)) Mw (AA AS AB)) (pv 7) (AY _))))) (AF (AL D6)) AX)
  (AC (Ai (Bv (Bc (AV hr G_32 T.m_32 (AA (pv 2) (AA (AV hr G_52 T.m_52 (AA (Bn Dt (pv 6) (Bp AD) Cs) (AA (pv 1) (AA (pv 4) AB)))) AB))))) (AF (AL D6)) AX)
  (AC (Ai (Bv (Bc (AV hr G_32 T.m_32 (AA (pv 2) (AA (AV hr G_52 T.m_52 (AA (Bn Dt (pv 6) (Bp AD) Cs) (AA (pv 1) (AA (pv 4) AB)))) AB))))) (AF (AL D6)) AX)
  (AF (Ai (AU Ef (FF (pv 2) T.th_84.cl T.me_49 G_49 (hr.mono (by decide)) Mw (AA AS AB)) (pv 7) (AY _)) (AF (AL D6)) AX)))))))))
  (AF (AL (Db (Bx BY (FF (pv 3) T.th_84.cl T.me_49 G_49 (hr.mono (by decide)) Mw (AA AS AB)) AS (AY _)) (FP (AV hr G_32 T.m_32 (AA (pv 3) (AA (Ay (AA (AK Ab AS (AH (Bk K) (pv 1) AD (λ_ _=>rfl))) (AA ED AB))) AB)))))))))))),?_⟩
 refine A8 λN hN=>?_;walk_at "";refine⟨a,ns,0,rfl,hS,hl,_,rfl,λp n0 n1 n2 n3 H1 e1 hp nm=>hN _ _ ?_⟩;clear hN N;have hS1:Ac K H1 a (ns.map V.int):=e1.seq hS;refine A8 λN hN=>?_;walk_at "";intro b dx hb hdx nb;refine⟨b,dx,rfl,AE,λd H2 sm hd bk=>⟨rfl,hN _ _ ?_⟩⟩;clear hN N;have e2:=sm H1 ((AI.new hdx (.own b)).into hb) hb;have d1:H1 d=none:=((AI.new hdx (.own b)).into hb).free hd;clear sm hd hdx nb hb dx;refine A8 λN hN=>?_;walk_at "";intro b2 dx hb hdx nb;refine⟨b2,dx,rfl,AE,λd2 H3 sm hd bk2=>⟨rfl,hN _ _ ?_⟩⟩;clear hN N;have e3:=sm H2 ((AI.new hdx (.own b2)).into hb) hb;have d2n:H2 d2=none:=((AI.new hdx (.own b2)).into hb).free hd;clear sm hd hdx nb hb dx;refine A8 λN hN=>?_;walk_at "";intro sh hs;refine hN _ _ ?_;clear hN N
 have nw:U3 H1 d d2 sh:=by obtain⟨kv1,h1⟩:=bk.2.dct;obtain⟨kv2,h2⟩:=bk2.2.dct;exact⟨d1,e2.free d2n,(e2.trans e3).free hs,λe=>(by rw[<-e,e3 _ _ h1]at hs;cases hs),λe=>(by rw[<-e,h2]at hs;cases hs),λe=>(by rw[e,h1]at d2n;cases d2n)⟩
 have st:KR t H1 (Am H3 sh (.dK [])) b d b2 d2 sh []:=⟨(e2.trans e3).trans (AI.new hs _),(bk.same e3).same (AI.new hs _),bk2.same (AI.new hs _),Zw _,[],AE,.nil⟩;generalize Am H3 sh (.dK [])=H4 at st;clear hs d2n bk2 bk e2 e3 d1;refine HU (λσ HX=>∃x5 x6 x7 rs,σ=[some (.ref a),some (.ref p),some (.ref b),some (.ref b2),some (.ref sh),x5,x6,x7]/\KR t H1 HX b d b2 d2 sh rs) (λN hN=>?_) ?_
 ·have hS4:=st.e.seq hS1;refine⟨_,rfl,a,ns,1,rfl,hS4,hl,_,rfl,a,ns,2,rfl,hS4,hl,(show 2<=sizeLine by decide),λpl hpl=>?_⟩;have el:=AI.new hpl (.lst [V.int (ns.getD 1 0),V.int (ns.getD 2 0)]);refine⟨_,rfl,3,rfl,23,rfl,FZ (el.seq hS4) λps H6 e6 _ h6=>?_⟩;rw[PP]at h6;have lc:=R8 ns;refine Rb (e6 _ _ AE) h6 (by rw[ZM];show 2+_<=1000;lia) λpc H7 e7 _ h7=>?_;obtain⟨cs,hcs⟩:∃cs:qR,cs=ns.getD 1 0::ns.getD 2 0::PN ns (some 3) (some 23):=⟨_,rfl⟩;have h7:H7 pc=some (.lst (cs.map V.int)):=by rw[hcs];exact h7
  have cl:cs.length<=22:=by rw[hcs,Zb,Zb];lia
  have st7:=st.same ((el.trans e6).trans e7);clear hcs el e6 e7 hS4 st lc h6;refine⟨pc,rfl,⟨_,Ac.of h7⟩,?_⟩;refine C6 (xs:=cs.map V.int) (λi σ HX=>∃x5 x6 x7 rs,σ=[some (.ref a),some (.ref p),some (.ref b),some (.ref b2),some (.ref sh),x5,x6,x7]/\KR t H1 HX b d b2 d2 sh rs/\Bd i rs/\HX pc=some (.lst (cs.map V.int))) ⟨_,_,_,[],rfl,st7,⟨ZR _,λp h=>qE h bP⟩,h7⟩ (λi σ HX _ z=>by obtain⟨_,_,_,_,_,_,_,z⟩:=z;exact Ac.of z) ?_ ?_
  ·refine LO ?_;rintro _ _ i v _ hGo σ HX hv ⟨x5,x6,x7,rs,rfl,st,bd,hpc⟩;refine hGo _ _ ?_;have il:=(ZW.mp hv).1;rw[ZM]at il;obtain⟨c,hc,rfl⟩:=B3 hv;refine A8 λN hN=>?_;walk_at "";refine⟨c,16,rfl,by decide,by decide,λpx HA xs lx bx eA _ hpx=>hN _ _ ?_⟩;clear hN N;have lx:xs.length=16:=lx;refine Cd (λHX=>KR t H1 HX b d b2 d2 sh rs/\HX pc=some (.lst (cs.map V.int))/\HX px=some (.lst (xs.map V.int))) ⟨st.same eA,eA _ _ hpc,hpx⟩ ?_;clear st hpc hpx eA;rintro HB ⟨st,hpc,hpx⟩;refine A8 λN hN=>?_;walk_at "";refine⟨px,p,sh,xs,n0,n1,n2,n3,rs,i,rfl,hpx,lx,bx,⟨st.e _ _ hp,nm⟩,st.sh,bd,by lia,λr HC rs' row due sx hRC hr ro bd'=>?_⟩;obtain⟨eC,bkC,b2C⟩:=st.deed nw sx;have cC:=sx.lst st.sh.dct hpc;have xC:=sx.lst st.sh.dct hpx;refine⟨b,d,r,rs,rs',row,due,rfl,bkC,hr,ro,λHD sd bkD=>⟨true,rfl,?_⟩⟩;rw[qC (by decide)];refine hN _ _ ?_;clear hN N;refine Cd (λHX=>KR t H1 HX b d b2 d2 sh rs'/\HX pc=some (.lst (cs.map V.int))/\HX px=some (.lst (xs.map V.int))) ⟨KR.said nw eC bkC b2C hRC sd bkD,sd.lst bkC.2.dct cC,sd.lst bkC.2.dct xC⟩ ?_;clear st hpc hpx eC bkC b2C cC xC sd bkD hRC hr ro sx row due r;rintro HE ⟨st,hpc,hpx⟩;refine A8 λN hN=>?_;walk_at "";obtain⟨_,kvs,hd,hpr⟩:=id st.sh;have ln:=Paired.length hpr;have bl:=bd'.1;have h8:∀q∈rs',q.1.cps.size<=8:=λq hq=>(bd'.2 q hq).1.2.1
   refine⟨kvs,.inl hd,rs'.map Prod.fst,Ir hpr,by lia,λl zs hl pm so=>⟨zs,Ac.of AE,?_,hN _ _ ?_⟩⟩
   ·have u:=NR (l:=zs) λy hy=>by
     obtain⟨q,hq,rfl⟩:=Zs.mp (pm.mem_iff.mp hy);exact h8 q hq
    have v:=pm.length_eq;rw[ZM]at v;show _+zs.length*1<=_;lia
   clear hN N;refine Cd (λHX=>KR t H1 HX b d b2 d2 sh rs'/\HX pc=some (.lst (cs.map V.int))/\HX px=some (.lst (xs.map V.int))) ⟨st.same (AI.new hl _),AI.new hl _ _ _ hpc,AI.new hl _ _ _ hpx⟩ ?_;clear st hpc hpx hl hd hpr ln;rintro HF ⟨st,hpc,hpx⟩;have nmT:∀{HX:Hp} {Q:VK} {E:XK},IF t HX b d rs'->(∀H',AI HX H'->Q (.str (PySem.Txt.join (Str.ofString " ") zs)) H')->Hb t [.ref b,.str (Str.ofString "names")] HX Q E:=λbk qq=>⟨b,d,rs',_,rfl,bk,QY (show C4 5 (Str.ofString "names")=true by decide +kernel) (by decide),Iy h8 λl pm' so' H' e=>by rw[LM so' so (pm'.trans pm.symm)];exact qq H' e⟩
   clear so pm;generalize PySem.Txt.join (Str.ofString " ") zs=sd at nmT⊢;refine HU (λσ HX=>σ=[some (.ref a),some (.ref p),some (.ref b),some (.ref b2),some (.ref sh),some (.int c),some (.ref px),some (.str sd)]/\AI HF HX) (λN hN=>?_) ?_
   ·obtain⟨dx,hb⟩:=st.bk.1;walk_at "";refine (Bu (Ac.of hpx) (Uw (j:=15) (by lia)) ⟨_,rfl,by decide,?_⟩)
    by_cases z:xs.getD 15 0%2=0
    ·rw[qD z];refine⟨_,rfl,b,dx,_,rfl,hb,rfl,nmT st.bk λH' e'=>⟨rfl,?_⟩⟩;rw[qC (λy=>y rfl)];exact hN _ _ ⟨rfl,e'⟩
    ·rw[qC z];exact hN _ _ ⟨rfl,AI.refl _⟩
   rintro _ hGo σ HG ⟨rfl,eG⟩;refine hGo _ _ ?_;have st:=st.same eG;have hpc:=eG _ _ hpc;have hpx:=eG _ _ hpx;clear eG;refine A8 λN hN=>?_;walk_at "";refine FZ (Ac.of hpx) λp5 HI eI _ h5=>?_;rw[show (5:Int)=((5:Nat):Int) from rfl,Fa,<-bX]at h5;have stI:=st.same eI;refine⟨p5,p,sh,xs.drop 5,n0,n1,n2,n3,rs',i+1,rfl,Ac.of h5,by rw[Z1];lia,by rw[Z1];lia,λn hn=>bx n (aK hn),⟨stI.e _ _ hp,nm⟩,stI.sh,bd',by lia,λr HJ row due eJ hr ro=>?_⟩;have stJ:=stI.same eJ;have eJ:=eI.trans eJ;refine⟨b,d,r,rs',rs',row,due,rfl,stJ.bk,hr,ro,λHK sd bkK=>⟨true,rfl,?_⟩⟩;rw[qC (by decide)];refine hN _ _ ?_;clear hN N;refine Cd (λHX=>KR t H1 HX b d b2 d2 sh rs'/\HX pc=some (.lst (cs.map V.int))/\HX px=some (.lst (xs.map V.int))) ⟨KR.said nw stJ.e stJ.bk stJ.b2 stJ.sh sd bkK,sd.lst stJ.bk.2.dct (eJ _ _ hpc),sd.lst stJ.bk.2.dct (eJ _ _ hpx)⟩ ?_;clear st hpc hpx stI stJ eI eJ sd bkK hr ro h5 r row due;rintro HL ⟨st,hpc,hpx⟩;refine A8 λN hN=>?_;walk_at "";refine FZ (Ac.of hpx) λp5 HI eI _ h5=>?_;rw[show (10:Int)=((10:Nat):Int) from rfl,Fa,<-bX]at h5;have stI:=st.same eI;refine⟨p5,p,sh,xs.drop 10,n0,n1,n2,n3,rs',i+1,rfl,Ac.of h5,by rw[Z1];lia,by rw[Z1];lia,λn hn=>bx n (aK hn),⟨stI.e _ _ hp,nm⟩,stI.sh,bd',by lia,λr HJ row due eJ hr ro=>?_⟩;have stJ:=stI.same eJ;have eJ:=eI.trans eJ;refine⟨b,d,r,rs',rs',row,due,rfl,stJ.bk,hr,ro,λHK sd bkK=>⟨true,rfl,?_⟩⟩;rw[qC (by decide)];refine hN _ _ ?_;clear hN N;refine Cd (λHX=>KR t H1 HX b d b2 d2 sh rs'/\HX pc=some (.lst (cs.map V.int))/\HX px=some (.lst (xs.map V.int))) ⟨KR.said nw stJ.e stJ.bk stJ.b2 stJ.sh sd bkK,sd.lst stJ.bk.2.dct (eJ _ _ hpc),sd.lst stJ.bk.2.dct (eJ _ _ hpx)⟩ ?_;clear st hpc hpx stI stJ eI eJ sd bkK hr ro h5 r row due;rintro HM ⟨st,hpc,hpx⟩;obtain⟨dx,hb⟩:=st.bk.1;walk_at "";refine⟨_,rfl,b,dx,_,rfl,hb,rfl,nmT st.bk λH' e'=>⟨rfl,?_⟩⟩;rw[qC (λy=>y rfl)];exact⟨rs',st.same e',bd',e' _ _ hpc⟩
  ·rintro σ HX ⟨x5,x6,x7,rs,rfl,st,bd,hpc⟩;exact hN _ _ ⟨x5,x6,x7,rs,rfl,st⟩
 rintro _ hGo σ HX ⟨x5,x6,x7,rs,rfl,st⟩;refine hGo _ _ ?_;walk_at "";obtain⟨dx,hb⟩:=st.b2.1;refine⟨_,rfl,b2,dx,_,rfl,hb,rfl,b2,d2,[],_,rfl,st.b2,QY (show C4 5 (Str.ofString "names")=true by decide +kernel) (by decide),Iy (λp h=>qE h bP) λl pm so H' e'=>?_⟩;obtain rfl:l=[]:=List.perm_nil.mp pm;refine⟨rfl,?_⟩;rw[qD (by decide)];have t5:C4 5 (Str.ofString "show ")=true:=by decide +kernel
 refine (Bu (v:=.str n0) (Ac.of (e' _ _ (st.e _ _ hp))) rfl ⟨n0,rfl,LU t5 nm.o0.tx (by decide),by decide,λr hr=>?_⟩);exact⟨b2,d2,r,[],[],_,.non,rfl,(st.b2.same e').same (AI.new hr _),AE,Hj (w:=0) (us:=[]) (by decide) nm.o0 nm.o0 (λn h=>qE h bP) (by decide) (.inl rfl),λH' _ _=>q _⟩
end
theorem U4{l:PySem.W.OpenLaw}{w:qP}{K:qQ}{h:Heap}{mg:Str->Option qL}{fa c_51 c_71 c_80 c_72 c_50 c_64 c_28 c_73 c_70 c_79 c_84 f_2 f_55 f_65 f_24 f_6 f_0 f_40 f_69 f_22 f_25 f_9 f_16 f_86 f_76 f_38 f_39 f_47 f_82 f_85 f_37 f_89 f_81 f_56 f_77 f_68 f_17 f_74 f_54 f_1 f_36 f_75 f_87 f_83 f_78 f_23 f_7 f_18 f_42 f_8 f_45 f_43 f_46 f_41 f_66 f_90 f_48 f_60 f_63 f_58 f_57 f_44 f_62 f_27 f_61 f_67 f_59 f_26 f_4 f_49 f_5 f_14 f_33 f_13 f_35 f_21 f_53 f_3 f_30 f_34 f_20 f_11 f_12 f_15 f_19 f_31 f_29 f_10 f_52 f_32 f_88 k_EVEN k_ROWS k_ROWS_rule k_ROWS_join k_ROWS_turn k_ROWS_back k_ROWS_move k_ROWS_drop k_ROWS_names k_ROWS_show k_ROWS_number k_ROWS_same k_ROWS_led k_ROWS_ring k_ROWS_before k_ROWS_onto k_ROWS_one k_ROWS_kept:qM}{g_LONGEST_TABLE g_MOST_NODES g_FIGURES g_MOST_FIGURES g_LETTERS g_LONGEST_NAME:Tok}(X:K.In h)(G:h.Ns mainGlobals mg)(hfa:mg "law"=some (.ref fa))
  (n_51:PySem.W.nsIn K mainGlobals "RowError"=some (some (.ref c_51)))
  (n_71:PySem.W.nsIn K mainGlobals "NoRule"=some (some (.ref c_71)))
  (n_80:PySem.W.nsIn K mainGlobals "NoRow"=some (some (.ref c_80)))
  (n_72:PySem.W.nsIn K mainGlobals "NoSuch"=some (some (.ref c_72)))
  (n_50:PySem.W.nsIn K mainGlobals "NoWindow"=some (some (.ref c_50)))
  (n_64:PySem.W.nsIn K mainGlobals "TooWide"=some (some (.ref c_64)))
  (n_28:PySem.W.nsIn K mainGlobals "NoWayBack"=some (some (.ref c_28)))
  (n_73:PySem.W.nsIn K mainGlobals "NoText"=some (some (.ref c_73)))
  (n_70:PySem.W.nsIn K mainGlobals "NoName"=some (some (.ref c_70)))
  (n_79:PySem.W.nsIn K mainGlobals "NoAsk"=some (some (.ref c_79)))
  (n_84:PySem.W.nsIn K mainGlobals "Book"=some (some (.ref c_84)))
  (n_EVEN:PySem.W.nsIn K mainGlobals "EVEN"=some (some (.ref k_EVEN)))
  (q_EVEN:Se K k_EVEN [0,0]=true)
  (a_2:PySem.W.findIn K (.ref c_80) "__init__"=some (some (.ref f_2)))
  (h_2:∃fd,BD K "__init__" "NoRow.__init__" CP f_2 fd)
  (h_55:AO K "is_whole" EU f_55)
  (h_65:AO K "is_sign" Tk f_65)
  (h_24:AO K "check_word" Tl f_24)
  (h_6:AO K "check_length" YZ f_6)
  (h_0:AO K "check_at_least" Ya f_0)
  (h_40:AO K "number_of" Tn f_40)
  (h_69:AO K "word_of" To f_69)
  (h_22:AO K "check_head" Tp f_22)
  (h_25:AO K "places_for" Tq f_25)
  (h_9:AO K "table_length" Yb f_9)
  (h_16:AO K "check_table" Tr f_16)
  (h_86:AO K "rule" Ts f_86)
  (h_76:AO K "places" Tt f_76)
  (h_38:AO K "next_sign" Tu f_38)
  (h_39:AO K "number_by" Tv f_39)
  (h_47:AO K "told_from" Tw f_47)
  (h_82:AO K "heads" Tx f_82)
  (h_85:AO K "lead" Tz f_85)
  (h_37:AO K "lead_ring" T0 f_37)
  (h_89:AO K "led" T1 f_89)
  (h_81:M5 K "after" T3 f_81 1)
  (h_56:AO K "led_ring" T4 f_56)
  (h_77:AO K "shares" T5 f_77)
  (h_68:AO K "ways_on" T6 f_68)
  (h_17:AO K "many_before" T7 f_17)
  (h_74:AO K "counts" T8 f_74)
  (h_54:AO K "counting" T9 f_54)
  (h_1:AO K "sign_or_nought" Yc f_1)
  (h_36:AO K "by_window" UA f_36)
  (h_75:AO K "narrow" UB f_75)
  (h_87:AO K "same" UC f_87)
  (h_83:AO K "moved" UD f_83)
  (h_78:AO K "turned" UE f_78)
  (h_23:AO K "check_text" UF f_23)
  (h_7:AO K "read_figures" Yd f_7)
  (h_18:AO K "read_number" UG f_18)
  (h_42:AO K "read_rule" UH f_42)
  (h_8:AO K "show_figures" Ye f_8)
  (h_45:AO K "show_rule" UI f_45)
  (h_43:AO K "read_word" UJ f_43)
  (h_46:AO K "show_word" UK f_46)
  (h_41:AO K "read_name" UL f_41)
  (h_66:AO K "rule_by" UM f_66)
  (h_90:AO K "put" UN f_90)
  (h_48:AO K "yes_or_no" UO f_48)
  (h_60:AO K "say_rule" UP f_60)
  (h_63:AO K "say_turn" UQ f_63)
  (h_58:AO K "say_move" UR f_58)
  (h_57:AO K "say_drop" US f_57)
  (h_44:AO K "say_names" UT f_44)
  (h_62:AO K "say_show" UU f_62)
  (h_27:AO K "say_number" UV f_27)
  (h_61:AO K "say_same" UW f_61)
  (h_67:AO K "say_led" UX f_67)
  (h_59:AO K "say_ring" UY f_59)
  (h_26:AO K "say_before" UZ f_26)
  (a_4:PySem.W.findIn K (.ref c_84) "__init__"=some (some (.ref f_4)))
  (h_4:∃fd,BD K "__init__" "Book.__init__" Yg f_4 fd)
  (a_49:PySem.W.findIn K (.ref c_84) "say"=some (some (.ref f_49)))
  (h_49:∃fd,BD K "say" "Book.say" Ua f_49 fd)
  (h_5:AO K "_law_cell_at" Yh f_5)
  (h_14:AO K "_law_stream" Ub f_14)
  (h_33:AO K "_law_size" Uc f_33)
  (h_13:AO K "_law_places" Ud f_13)
  (h_35:AO K "_law_word" Ue f_35)
  (h_21:AO K "_law_value" Uf f_21)
  (h_53:AO K "_law_led" Ug f_53)
  (h_3:AO K "_law_ring_led" Yi f_3)
  (h_30:AO K "_law_many" Uh f_30)
  (h_34:AO K "_law_text" Ui f_34)
  (h_20:AO K "_law_shown" Uj f_20)
  (h_11:AO K "_law_counts" Uk f_11)
  (h_12:AO K "_law_narrow" Ul f_12)
  (h_15:AO K "_law_turned" Um f_15)
  (h_19:AO K "_law_names" Uo f_19)
  (h_31:AO K "_law_rule" Up f_31)
  (h_29:AO K "_law_deed" Uq f_29)
  (h_10:AO K "_law_answer" Ur f_10)
  (h_52:AO K "_law_ask" Us f_52)
  (h_32:AO K "_law_said" Ut f_32)
  (h_88:AO K "law" Rx f_88)
  (n_ROWS:PySem.W.nsIn K mainGlobals "ROWS"=some (some (.ref k_ROWS)))
  (r_ROWS:∃es n,K.lookup k_ROWS=some ⟨.type "dict",none,.dict es n,#[]⟩/\PySem.W.KeysLit w.params es.toList/\es.toList.map (λe=>(LN e.key,Hs e.val))=([(some (Str.ofString "rule"),some (V.ref k_ROWS_rule)),(some (Str.ofString "join"),some (V.ref k_ROWS_join)),(some (Str.ofString "turn"),some (V.ref k_ROWS_turn)),(some (Str.ofString "back"),some (V.ref k_ROWS_back)),(some (Str.ofString "move"),some (V.ref k_ROWS_move)),(some (Str.ofString "drop"),some (V.ref k_ROWS_drop)),(some (Str.ofString "names"),some (V.ref k_ROWS_names)),(some (Str.ofString "show"),some (V.ref k_ROWS_show)),(some (Str.ofString "number"),some (V.ref k_ROWS_number)),(some (Str.ofString "same"),some (V.ref k_ROWS_same)),(some (Str.ofString "led"),some (V.ref k_ROWS_led)),(some (Str.ofString "ring"),some (V.ref k_ROWS_ring)),(some (Str.ofString "before"),some (V.ref k_ROWS_before)),(some (Str.ofString "onto"),some (V.ref k_ROWS_onto)),(some (Str.ofString "one"),some (V.ref k_ROWS_one)),(some (Str.ofString "kept"),some (V.ref k_ROWS_kept))]:List (Option Str×Option V)))
  (no_ROWS:(k_ROWS==sysModules)=false)
  (q_ROWS_rule:CO K k_ROWS_rule [.int 3,.ref f_60]=true)
  (q_ROWS_turn:CO K k_ROWS_turn [.int 3,.ref f_63]=true)
  (q_ROWS_move:CO K k_ROWS_move [.int 4,.ref f_58]=true)
  (q_ROWS_drop:CO K k_ROWS_drop [.int 2,.ref f_57]=true)
  (q_ROWS_names:CO K k_ROWS_names [.int 1,.ref f_44]=true)
  (q_ROWS_show:CO K k_ROWS_show [.int 2,.ref f_62]=true)
  (q_ROWS_number:CO K k_ROWS_number [.int 2,.ref f_27]=true)
  (q_ROWS_same:CO K k_ROWS_same [.int 3,.ref f_61]=true)
  (q_ROWS_led:CO K k_ROWS_led [.int 3,.ref f_67]=true)
  (q_ROWS_ring:CO K k_ROWS_ring [.int 3,.ref f_59]=true)
  (q_ROWS_before:CO K k_ROWS_before [.int 3,.ref f_26]=true)
  (z_len:PySem.W.nsIn K mainGlobals "len"=some none)
  (z_list:PySem.W.nsIn K mainGlobals "list"=some none)
  (z_reversed:PySem.W.nsIn K mainGlobals "reversed"=some none)
  (z_isinstance:PySem.W.nsIn K mainGlobals "isinstance"=some none)
  (z_range:PySem.W.nsIn K mainGlobals "range"=some none)
  (z_int:PySem.W.nsIn K mainGlobals "int"=some none)
  (z_bool:PySem.W.nsIn K mainGlobals "bool"=some none)
  (z_ValueError:PySem.W.nsIn K mainGlobals "ValueError"=some none)
  (z_tuple:PySem.W.nsIn K mainGlobals "tuple"=some none)
  (z_enumerate:PySem.W.nsIn K mainGlobals "enumerate"=some none)
  (z_min:PySem.W.nsIn K mainGlobals "min"=some none)
  (z_max:PySem.W.nsIn K mainGlobals "max"=some none)
  (z_str:PySem.W.nsIn K mainGlobals "str"=some none)
  (z_sum:PySem.W.nsIn K mainGlobals "sum"=some none)
  (z_sorted:PySem.W.nsIn K mainGlobals "sorted"=some none)
  (z_abs:PySem.W.nsIn K mainGlobals "abs"=some none)
  (z_any:PySem.W.nsIn K mainGlobals "any"=some none)
  (z_all:PySem.W.nsIn K mainGlobals "all"=some none)
  (z_zip:PySem.W.nsIn K mainGlobals "zip"=some none)
  (w_LONGEST_TABLE:PySem.W.nsIn K mainGlobals "LONGEST_TABLE"=some (some (.int 256 g_LONGEST_TABLE)))
  (w_MOST_NODES:PySem.W.nsIn K mainGlobals "MOST_NODES"=some (some (.int 9 g_MOST_NODES)))
  (w_FIGURES:PySem.W.nsIn K mainGlobals "FIGURES"=some (some (.str "0123456789" g_FIGURES)))
  (w_MOST_FIGURES:PySem.W.nsIn K mainGlobals "MOST_FIGURES"=some (some (.int 60 g_MOST_FIGURES)))
  (w_LETTERS:PySem.W.nsIn K mainGlobals "LETTERS"=some (some (.str "abcdefghijklmnopqrstuvwxyz" g_LETTERS)))
  (w_LONGEST_NAME:PySem.W.nsIn K mainGlobals "LONGEST_NAME"=some (some (.int 8 g_LONGEST_NAME)))
  (pg_84:PySem.W.plainGet K c_84 Str.empty=true)
  (hd_84:PySem.W.hasDictIn K c_84=true)
  (po_84:PySem.W.plainOver K c_84=true)
  (sa_84:PySem.W.findIn K (.ref c_84) "__setattr__"=some (some (.builtin "object.__setattr__")))
  (ca_84:PySem.W.findIn K (.ref c_84) "__class__"=some (some (.builtin "object.__class__")))
  (sg_84:PySem.W.specialIn K (.builtin "object.__class__") "__get__"=some (some (.builtin "getset_descriptor.__get__")))
  (tk_84:PySem.W.takesIn K (.builtin "object.__class__")=some true)
  (mo_84:PySem.W.mroIn K c_84 (.type "object")=some true)
  (na_Book_rules:PySem.W.findIn K (.ref c_84) "rules"=some none)
  (ms_84:PySem.W.makesIn K c_84=true)
  (if_84:PySem.W.isFn K (.ref f_4)=true)
  (kc_84:PySem.W.keepIn K (.ref c_84)=true)
  (mf_49:PySem.W.isFn K (.ref f_49)=true)
  (mp_49:PySem.W.keepIn K (.ref f_49)=true)
  (x_71:PySem.W.excIn K c_71 Cp "ValueError.__new__"=true)
  (x_72:PySem.W.excIn K c_72 Cp "ValueError.__new__"=true)
  (x_50:PySem.W.excIn K c_50 Cp "ValueError.__new__"=true)
  (x_64:PySem.W.excIn K c_64 Cp "ValueError.__new__"=true)
  (x_28:PySem.W.excIn K c_28 Cp "ValueError.__new__"=true)
  (x_73:PySem.W.excIn K c_73 Cp "ValueError.__new__"=true)
  (x_70:PySem.W.excIn K c_70 Cp "ValueError.__new__"=true)
  (x_79:PySem.W.excIn K c_79 Cp "ValueError.__new__"=true)
  (xi_80:X6 K c_80 f_2=true)
  (xt_80:PySem.W.typeIn K (.ref f_2)=some (.type "function"))
  (xk_80:PySem.W.keepIn K (.ref c_80)=true)
  (ci_80:(PySem.W.clsIn K c_80).isSome=true)
  (ga_80:PySem.W.findIn K (.ref c_80) "__getattribute__"=some (some (.builtin "BaseException.__getattribute__")))
  (gn_80:PySem.W.findIn K (.ref c_80) "__getattr__"=some none)
  (ca_80:PySem.W.findIn K (.ref c_80) "__class__"=some (some (.builtin "object.__class__")))
  (sg_80:PySem.W.specialIn K (.builtin "object.__class__") "__get__"=some (some (.builtin "getset_descriptor.__get__")))
  (tk_80:PySem.W.takesIn K (.builtin "object.__class__")=some true)
  (mo_80:PySem.W.mroIn K c_80 (.type "object")=some true)
  (mb_80:PySem.W.mroIn K c_80 (.type "BaseException")=some true)
  (ci_70:(PySem.W.clsIn K c_70).isSome=true)
  (ga_70:PySem.W.findIn K (.ref c_70) "__getattribute__"=some (some (.builtin "BaseException.__getattribute__")))
  (gn_70:PySem.W.findIn K (.ref c_70) "__getattr__"=some none)
  (ca_70:PySem.W.findIn K (.ref c_70) "__class__"=some (some (.builtin "object.__class__")))
  (sg_70:PySem.W.specialIn K (.builtin "object.__class__") "__get__"=some (some (.builtin "getset_descriptor.__get__")))
  (tk_70:PySem.W.takesIn K (.builtin "object.__class__")=some true)
  (mo_70:PySem.W.mroIn K c_70 (.type "object")=some true)
  (mb_70:PySem.W.mroIn K c_70 (.type "BaseException")=some true)
  (sa_80:PySem.W.findIn K (.ref c_80) "__setattr__"=some (some (.builtin "object.__setattr__")))
  (hd_80:PySem.W.hasDictIn K c_80=true)
  (mr_80:VY K c_80 c_51=true)
  (no_80:PySem.W.findIn K (.ref c_80) "at"=some none)
  (kt_70_70:PySem.W.kitOne K (.ref c_70) (.ref c_70)=some true)
  (kt_NoName_ValueError:PySem.W.kitOne K (.ref c_70) (.type "ValueError")=some true)
  (kt_70_79:PySem.W.kitOne K (.ref c_70) (.ref c_79)=some false)
  (kt_70_73:PySem.W.kitOne K (.ref c_70) (.ref c_73)=some false)
  (em_70_51:PySem.W.exmOne K (.ref c_70) (.ref c_51)=some true)
  (em_71_71:PySem.W.exmOne K (.ref c_71) (.ref c_71)=some true)
  : ∃fd:FuncData,(∀(s:qN) (v:qL),BindsTo s fd ⟨[v],[]⟩ [("_law_script",v)])/\∀base:Heap,K.In base->base.Ns mainGlobals mg->C1 l.prog w K mg base (Ea l.prog w) 12 fa fd ["_law_script"] (Kn K):=by
 have mo:∀{n:Str}{v:Value},PySem.W.nsIn K mainGlobals n=some (some v)->mg n=some v:=λe=>PySem.W.mg_of X G e;have T:A5 w K mg ⟨c_51,c_71,c_80,c_72,c_50,c_64,c_28,c_73,c_70,c_79,c_84,f_2,f_55,f_65,f_24,f_6,f_0,f_40,f_69,f_22,f_25,f_9,f_16,f_86,f_76,f_38,f_39,f_47,f_82,f_85,f_37,f_89,f_81,f_56,f_77,f_68,f_17,f_74,f_54,f_1,f_36,f_75,f_87,f_83,f_78,f_23,f_7,f_18,f_42,f_8,f_45,f_43,f_46,f_41,f_66,f_90,f_48,f_60,f_63,f_58,f_57,f_44,f_62,f_27,f_61,f_67,f_59,f_26,f_4,f_49,f_5,f_14,f_33,f_13,f_35,f_21,f_53,f_3,f_30,f_34,f_20,f_11,f_12,f_15,f_19,f_31,f_29,f_10,f_52,f_32,f_88,k_EVEN,k_ROWS,k_ROWS_rule,k_ROWS_join,k_ROWS_turn,k_ROWS_back,k_ROWS_move,k_ROWS_drop,k_ROWS_names,k_ROWS_show,k_ROWS_number,k_ROWS_same,k_ROWS_led,k_ROWS_ring,k_ROWS_before,k_ROWS_onto,k_ROWS_one,k_ROWS_kept⟩:=⟨mo n_51,mo n_71,mo n_80,mo n_72,mo n_50,mo n_64,mo n_28,mo n_73,mo n_70,mo n_79,mo n_84,mo n_EVEN,q_EVEN,h_2,mo h_55.2,h_55.1,mo h_65.2,h_65.1,mo h_24.2,h_24.1,mo h_6.2,h_6.1,mo h_0.2,h_0.1,mo h_40.2,h_40.1,mo h_69.2,h_69.1,mo h_22.2,h_22.1,mo h_25.2,h_25.1,mo h_9.2,h_9.1,mo h_16.2,h_16.1,mo h_86.2,h_86.1,mo h_76.2,h_76.1,mo h_38.2,h_38.1,mo h_39.2,h_39.1,mo h_47.2,h_47.1,mo h_82.2,h_82.1,mo h_85.2,h_85.1,mo h_37.2,h_37.1,mo h_89.2,h_89.1,mo h_81.2,h_81.1,mo h_56.2,h_56.1,mo h_77.2,h_77.1,mo h_68.2,h_68.1,mo h_17.2,h_17.1,mo h_74.2,h_74.1,mo h_54.2,h_54.1,mo h_1.2,h_1.1,mo h_36.2,h_36.1,mo h_75.2,h_75.1,mo h_87.2,h_87.1,mo h_83.2,h_83.1,mo h_78.2,h_78.1,mo h_23.2,h_23.1,mo h_7.2,h_7.1,mo h_18.2,h_18.1,mo h_42.2,h_42.1,mo h_8.2,h_8.1,mo h_45.2,h_45.1,mo h_43.2,h_43.1,mo h_46.2,h_46.1,mo h_41.2,h_41.1,mo h_66.2,h_66.1,mo h_90.2,h_90.1,mo h_48.2,h_48.1,mo h_60.2,h_60.1,mo h_63.2,h_63.1,mo h_58.2,h_58.1,mo h_57.2,h_57.1,mo h_44.2,h_44.1,mo h_62.2,h_62.1,mo h_27.2,h_27.1,mo h_61.2,h_61.1,mo h_67.2,h_67.1,mo h_59.2,h_59.1,mo h_26.2,h_26.1,h_4,h_49,mo h_5.2,h_5.1,mo h_14.2,h_14.1,mo h_33.2,h_33.1,mo h_13.2,h_13.1,mo h_35.2,h_35.1,mo h_21.2,h_21.1,mo h_53.2,h_53.1,mo h_3.2,h_3.1,mo h_30.2,h_30.1,mo h_34.2,h_34.1,mo h_20.2,h_20.1,mo h_11.2,h_11.1,mo h_12.2,h_12.1,mo h_15.2,h_15.1,mo h_19.2,h_19.1,mo h_31.2,h_31.1,mo h_29.2,h_29.1,mo h_10.2,h_10.1,mo h_52.2,h_52.1,mo h_32.2,h_32.1,mo h_88.2,h_88.1,mo n_ROWS,⟨r_ROWS,no_ROWS⟩,q_ROWS_rule,q_ROWS_turn,q_ROWS_move,q_ROWS_drop,q_ROWS_names,q_ROWS_show,q_ROWS_number,q_ROWS_same,q_ROWS_led,q_ROWS_ring,q_ROWS_before,PySem.W.mg_none_of X G z_len,PySem.W.mg_none_of X G z_list,PySem.W.mg_none_of X G z_reversed,PySem.W.mg_none_of X G z_isinstance,PySem.W.mg_none_of X G z_range,PySem.W.mg_none_of X G z_int,PySem.W.mg_none_of X G z_bool,PySem.W.mg_none_of X G z_ValueError,PySem.W.mg_none_of X G z_tuple,PySem.W.mg_none_of X G z_enumerate,PySem.W.mg_none_of X G z_min,PySem.W.mg_none_of X G z_max,PySem.W.mg_none_of X G z_str,PySem.W.mg_none_of X G z_sum,PySem.W.mg_none_of X G z_sorted,PySem.W.mg_none_of X G z_abs,PySem.W.mg_none_of X G z_any,PySem.W.mg_none_of X G z_all,PySem.W.mg_none_of X G z_zip,⟨_,mo w_LONGEST_TABLE⟩,⟨_,mo w_MOST_NODES⟩,⟨_,mo w_FIGURES⟩,⟨_,mo w_MOST_FIGURES⟩,⟨_,mo w_LETTERS⟩,⟨_,mo w_LONGEST_NAME⟩,⟨⟨pg_84,hd_84,po_84,sa_84⟩,ca_84,sg_84,tk_84,mo_84⟩,na_Book_rules,⟨ms_84,a_4,if_84,kc_84⟩,⟨a_49,mf_49,mp_49⟩,x_71,x_72,x_50,x_64,x_28,x_73,x_70,x_79,⟨xi_80,xt_80,xk_80⟩,⟨ci_80,ga_80,gn_80,ca_80,sg_80,tk_80,mo_80,mb_80⟩,⟨ci_70,ga_70,gn_70,ca_70,sg_70,tk_70,mo_70,mb_70⟩,⟨sa_80,hd_80,mr_80,no_80,⟨ci_80,ga_80,gn_80,ca_80,sg_80,tk_80,mo_80,mb_80⟩⟩,kt_70_70,kt_NoName_ValueError,kt_70_79,kt_70_73,em_70_51,em_71_71⟩;have e:=hfa.symm.trans T.m_88;cases e;obtain⟨fd,F⟩:=T.d_88;obtain⟨oc,od,kV,doc,pm,an,cb,ct,osl,ef,lk,hcd⟩:=F.ex;refine⟨fd,λs v=>by rw[ef];exact .of_eq rfl,λbase _ _=>?_⟩;have G_2:=Yk (P:=l.prog) (w:=w) (base:=base) T;have G_55:=WL (P:=l.prog) (w:=w) (base:=base) T;have G_65:=WN (P:=l.prog) (w:=w) (base:=base) T G_55;have G_24:=WO (P:=l.prog) (w:=w) (base:=base) T G_65 G_2;have G_6:=Ym (P:=l.prog) (w:=w) (base:=base) T G_24 G_2;have G_0:=Yo (P:=l.prog) (w:=w) (base:=base) T G_24 G_2;have G_40:=WP (P:=l.prog) (w:=w) (base:=base) T G_24;have G_69:=WQ (P:=l.prog) (w:=w) (base:=base) T;have G_22:=WS (P:=l.prog) (w:=w) (base:=base) T G_55;have G_25:=WU (P:=l.prog) (w:=w) (base:=base) T;have G_9:=Yp (P:=l.prog) (w:=w) (base:=base) T;have G_16:=WV (P:=l.prog) (w:=w) (base:=base) T G_25 G_65;have G_86:=WX (P:=l.prog) (w:=w) (base:=base) T G_22 G_16;have G_76:=WZ (P:=l.prog) (w:=w) (base:=base) T G_25;have G_38:=Wb (P:=l.prog) (w:=w) (base:=base) T G_6 G_76 G_40;have G_39:=Wd (P:=l.prog) (w:=w) (base:=base) T G_40;have G_47:=We (P:=l.prog) (w:=w) (base:=base) T;have G_82:=Wg (P:=l.prog) (w:=w) (base:=base) T;have G_85:=Wh (P:=l.prog) (w:=w) (base:=base) T G_76;have G_37:=Wi (P:=l.prog) (w:=w) (base:=base) T G_85 G_76;have G_89:=Wk (P:=l.prog) (w:=w) (base:=base) T G_24 G_85;have G_81:=Wl (P:=l.prog) (w:=w) (base:=base) T G_0 G_37;have G_56:=Wn (P:=l.prog) (w:=w) (base:=base) T G_81;have G_77:=Wp (P:=l.prog) (w:=w) (base:=base) T G_82;have G_68:=Wq (P:=l.prog) (w:=w) (base:=base) T G_82 G_77 G_47;have G_17:=Ws (P:=l.prog) (w:=w) (base:=base) T G_24 G_68;have G_74:=Wt (P:=l.prog) (w:=w) (base:=base) T;have G_54:=Wu (P:=l.prog) (w:=w) (base:=base) T G_76 G_74;have G_1:=Yr (P:=l.prog) (w:=w) (base:=base) T;have G_36:=Wv (P:=l.prog) (w:=w) (base:=base) T G_86 G_9 G_69 G_38 G_1 G_76;have G_75:=Ww (P:=l.prog) (w:=w) (base:=base) T G_54 G_36;have G_87:=Wy (P:=l.prog) (w:=w) (base:=base) T G_75;have G_83:=W0 (P:=l.prog) (w:=w) (base:=base) T G_86;have G_78:=W1 (P:=l.prog) (w:=w) (base:=base) T G_76 G_86 G_38 G_69;have G_23:=W4 (P:=l.prog) (w:=w) (base:=base) T;have G_7:=Yt (P:=l.prog) (w:=w) (base:=base) T;have G_18:=W5 (P:=l.prog) (w:=w) (base:=base) T G_7;have G_42:=W6 (P:=l.prog) (w:=w) (base:=base) T G_23 G_18 G_7 G_86;have G_8:=Yv (P:=l.prog) (w:=w) (base:=base) T;have G_91:=W8 (P:=l.prog) (w:=w) (base:=base) T;have G_45:=XB (P:=l.prog) (w:=w) (base:=base) T G_91;have G_43:=XC (P:=l.prog) (w:=w) (base:=base) T G_23 G_7;have G_46:=XE (P:=l.prog) (w:=w) (base:=base) T G_8;have G_41:=XG (P:=l.prog) (w:=w) (base:=base) T;have G_66:=XI (P:=l.prog) (w:=w) (base:=base) T;have G_90:=XM (P:=l.prog) (w:=w) (base:=base) T;have G_48:=XO (P:=l.prog) (w:=w) (base:=base) T;have G_60:=XQ (P:=l.prog) (w:=w) (base:=base) T G_41 G_90 G_42;have G_63:=XR (P:=l.prog) (w:=w) (base:=base) T G_41 G_90 G_78 G_66;have G_58:=XS (P:=l.prog) (w:=w) (base:=base) T G_41 G_66 G_90 G_83 G_18;have G_57:=XU (P:=l.prog) (w:=w) (base:=base) T G_66;have G_44:=XW (P:=l.prog) (w:=w) (base:=base) T;have G_62:=XY (P:=l.prog) (w:=w) (base:=base) T G_45 G_75 G_66;have G_27:=Xa (P:=l.prog) (w:=w) (base:=base) T G_39 G_66;have G_61:=Xb (P:=l.prog) (w:=w) (base:=base) T G_66 G_48 G_87;have G_67:=Xc (P:=l.prog) (w:=w) (base:=base) T G_66 G_46 G_89 G_43;have G_59:=Xd (P:=l.prog) (w:=w) (base:=base) T G_66 G_46 G_56 G_43;have G_26:=Xe (P:=l.prog) (w:=w) (base:=base) T G_66 G_17 G_43;have G_4:=Yx (P:=l.prog) (w:=w) (base:=base) T;have G_49:=Xf (P:=l.prog) (w:=w) (base:=base) T G_60 G_63 G_58 G_57 G_44 G_62 G_27 G_61 G_67 G_59 G_26;have G_5:=Yz (P:=l.prog) (w:=w) (base:=base) T;have G_14:=Xg (P:=l.prog) (w:=w) (base:=base) T;have G_33:=Xh (P:=l.prog) (w:=w) (base:=base) T;have G_13:=Xi (P:=l.prog) (w:=w) (base:=base) T G_33;have G_35:=Xj (P:=l.prog) (w:=w) (base:=base) T;have G_21:=Xk (P:=l.prog) (w:=w) (base:=base) T;have G_53:=Xl (P:=l.prog) (w:=w) (base:=base) T G_13;have G_3:=Y0 (P:=l.prog) (w:=w) (base:=base) T G_13;have G_30:=Xm (P:=l.prog) (w:=w) (base:=base) T;have G_34:=Xo (P:=l.prog) (w:=w) (base:=base) T;have G_20:=Xq (P:=l.prog) (w:=w) (base:=base) T;have G_11:=Xr (P:=l.prog) (w:=w) (base:=base) T G_33 G_13;have G_12:=Xs (P:=l.prog) (w:=w) (base:=base) T G_13 G_33 G_11;have G_15:=Xt (P:=l.prog) (w:=w) (base:=base) T G_13 G_35 G_21;have G_19:=Xu (P:=l.prog) (w:=w) (base:=base) T G_14;have G_31:=Xv (P:=l.prog) (w:=w) (base:=base) T G_14 G_33;have G_29:=Xw (P:=l.prog) (w:=w) (base:=base) T G_31 G_15 G_34;have G_10:=Xy (P:=l.prog) (w:=w) (base:=base) T G_34 G_20 G_30 G_12 G_21 G_53 G_3;have G_52:=Xz (P:=l.prog) (w:=w) (base:=base) T G_10 G_14 G_20;have G_32:=X0 (P:=l.prog) (w:=w) (base:=base) T G_49;exact X1 T F G_19 G_4 G_5 G_14 G_32 G_29 G_52 G_49
theorem Y1{l:PySem.W.OpenLaw}{q:qO}{loose:List Str}{XP:(Str->Option qL)->Heap->Prop}{YP:qP->Heap->Prop}{d:PySem.DefRec}{K:PySem.Params->qQ}(hn:l.most=some 63)(hdf:d.params.defaults=[])
  (hY:∀(w:qP) (h:Heap),YP w h->(K w.params).In h)
  (F:∀(w:qP) (mg:Str->Option qL) (fa:qM) (h:Heap),(K w.params).In h->h.Ns mainGlobals mg->mg d.name=some (.ref fa) ->
   ∃fd:FuncData,(∀(s:qN) (u:qL),BindsTo s fd ⟨[u],[]⟩ [("_law_script",u)])/\∀base:Heap,(K w.params).In base->base.Ns mainGlobals mg->C1 l.prog w (K w.params) mg base (Ea l.prog w) 12 fa fd ["_law_script"] (Kn (K w.params))):
  PySem.W.WalkO q loose XP YP l.row.toRowW d [] (λf vs=>PySem.call f vs):=
 L2.RF (n:=63) (k:=12) (x:="_law_script") (CX:=λw=>Ea l.prog w) (sp:=λw=>Kn (K w.params)) hn (by decide) hdf ⟨rfl,by decide,by decide⟩ hY F (λ_ _ a ns hl _ hS=>⟨a,ns,rfl,hS,hl,λ_=>rfl⟩) λ_ _ _ _ _ ⟨_,_,_,_,_,_,_,_,z⟩=>z
end K84
noncomputable def PySem.W.Fast.tw5011278952727760235:=PySem.Challenge.pw_rowrules_k84_a_book_told_and_asked
theorem PySem.W.Fast.te5011278952727760235:PySem.Challenge.pw_rowrules_k84_a_book_told_and_asked=PySem.W.Fast.tw5011278952727760235:=rfl
namespace PySem.W.Fast
abbrev A:=Nat
def tw4452632473394911567:=A
def tw5284989361894660195:=A
def tw2226476840293149836:=A
def tw15789448326586504548:=A
def tw2117186893952956774:=A
def tw18052870637052344856:=A
def tw15385624175235965603:=A
def tw17417700716473691671:=A
def tw13734729405944238878:=A
def tw7061082270512096552:=A
def tw15620919834116559345:=A
def tw17970959499487230118:=A
def tw3245012036773589434:=A
def tw4657504495139960775:=A
def tw6871778416591786778:=A
def tw10516849067073227209:=A
def tw987356075324888565:=A
def tw4244110616404797658:=A
def tw13511245650594836918:=A
def tw8147459139523288105:=A
def tw1980455320392614:=A
def tw12005647309542394446:=A
def tw12282246589437646485:=A
def tw16262223116007817119:=A
def tw13090905161143421814:=A
def tw13463496492464186157:=A
def tw17736011766798754449:=A
def tw13894502950247350596:=A
def tw1994461571091232079:=A
def tw10704033924482714553:=A
def tw7239103825752014090:=A
def tw18440829498815949607:=A
def tw2140333797164707943:=A
def tw1625810077288367956:=A
def tw7330884217496992749:=A
def tw14206712904624512084:=A
def tw15004321098708614234:=A
def tw64588566225626922:=A
def tw1172461657715588729:=A
def tw10583007793842128398:=A
def tw209816606296112068:=A
def tw16962750461764660095:=A
def tw9872322153377989459:=A
def tw1690327919058972303:=A
def tw8582089706384919048:=A
def tw4032891949858883012:=A
def tw17486336248351100657:=A
def tw12677318991735785763:=A
def tw8079999556438153863:=A
def tw4469529598356910375:=A
def tw14520922129991810832:=A
def tw7032932058159844270:=A
def tw11534409242842947954:=A
def tw6404193280108249810:=A
def tw16105311660080604562:=A
def tw10059779173706999886:=A
def tw6486804279090944300:=A
def tw17620929193276774299:=A
def tw12058263800663922596:=A
def tw12798705489488535505:=A
def tw10814371427315678988:=A
def tw11983218703768034871:=A
def tw11684429999102654109:=A
def tw15939988314924612072:=A
def tw9129835827720456050:=A
def tw376027352485733583:=A
def tw5060371400580276542:=A
def tw9067700841657700808:=A
def tw4201113128781534109:=A
def tw9997144319351702001:=A
def tw7665035727240625155:=A
def tw8641756778932340521:=A
def tw5972407593342456870:=A
def tw15495528599543107141:=A
def tw5418505473061758736:=A
def tw13280666171684974789:=A
def tw782480881847555424:=A
def tw7924840779540102875:=A
def tw9053452498463690021:=A
def tw8869565038870562288:=A
def tw2352466122151373724:=A
def tw10316353380997818111:=A
def tw13435123248189495999:=A
def tw7567956603122067372:=A
def tw10143896770746167608:=A
def tw12090264680066999887:=A
def tw17953858234834635120:=A
def tw8505006045583781554:=A
def tw8742577673081797434:=A
def tw17808797332254986961:=A
def tw16823330803642220399:=A
def tw13271830234699533027:=A
def tw1039790003397789227:=A
def tw9512208220499416739:=A
def tw10785031864817462508:=A
def tw18361420947930331788:=A
def tw7013993589497270397:=A
def tw8095164034540600205:=A
def tw11146608579980143712:=A
def tw1094841037447031592:=A
def tw14005942044029816255:=A
def tw4044298157402564794:=A
def tw14186498962608736243:=A
def tw8818224424349244482:=A
def tw5606336964426348028:=A
def tw773064593029304353:=A
def tw5826446279524186271:=A
def tw1851378430469902885:=A
def tw12608851614086046093:=A
def tw12241417964029784491:=A
def tw5098164424453444771:=A
def tw1700362513172288021:=A
def tw13772350876818266198:=A
def tw14695115623192284802:=A
def tw9090180871501429978:=A
def tw2758094872897400474:=A
def tw463463964902553235:=A
def tw11242891534696823980:=A
def tw5026959973374161769:=A
def tw15311610555359239202:=A
def tw7520774838884993898:=A
def tw4921629794998798114:=A
def tw18421968305918908671:=A
def tw8339317382530696086:=A
def tw8224570857184763000:=A
def tw14367459350587192390:=A
def tw8666660495985117188:=A
def tw13370195925200620036:=A
def tw13811081313305538538:=A
def tw6653183176459528055:=A
def tw1866671947441200970:=A
def tw4062570601822219800:=A
def tw8999521137949929181:=A
def tw501925629401731535:=A
def tw3868760026059341094:=A
def tw8298139387993125673:=A
def tw16619101630216973305:=A
def tw10270520861438384615:=A
def tw812099898798898091:=A
def tw3926263919183001699:=A
def tw14492069343704804677:=A
def tw15128638661775989135:=A
def tw10018225702251044277:=A
def tw8705559210092165949:=A
def tw10397239124271793096:=A
def tw15564485900305063718:=A
def tw4376847086484036990:=A
def tw16149988333232834595:=A
def tw1141405203733415724:=A
def tw414313478578361279:=A
def tw12524458857883843219:=A
def tw4180351081556027124:=A
def tw1645105053927349671:=A
def tw11664506294949227253:=A
def tw9896105686277783019:=A
def tw1173293706136494992:=A
def tw2632328023087163610:=A
def tw8335654628721071957:=A
def tw4897503915367846074:=A
def tw13142385718076839004:=A
def tw9867950112730467778:=A
def tw16902830312720431825:=A
def tw16155790976696476664:=A
def tw15512692678140190674:=A
def tw12870624102758223923:=A
def tw7302442973881543610:=A
def tw403270315447720724:=A
def tw568263332648642773:=A
def tw8074563801519335918:=A
def tw7297722703081102252:=A
def tw7948593271220374221:=A
def tw14081789116714373010:=A
def tw2006757220608160581:=A
def tw8771381979866475510:=A
def tw18315184416312745475:=A
def tw6895899359430385439:=A
def tw6743545926017119644:=A
def tw18163468705062006617:=A
def tw11665937583057616497:=A
def tw15461083049631867780:=A
def tw13175167724440058360:=A
def tw16982450607465186402:=A
def tw10303086487527283804:=A
def tw18054337300267012282:=A
def tw16572009111461762184:=A
def tw16399347925080369653:=A
def tw260661533146465088:=A
def tw4814933196489858973:=A
def tw4227036526221339589:=A
def tw10788466752460853358:=A
def tw12119597911276421904:=A
def tw15062894155117676577:=A
def tw5842598066634234060:=A
def tw4728447260277172273:=A
def tw9710312310084852868:=A
def tw542374218269157266:=A
def tw4362380931006462062:=A
def tw16258503546843395606:=A
def tw9800580886052980928:=A
def tw13652228583274750958:=A
def tw7945916864894302824:=A
def tw16073630677215401539:=A
def tw1137397215750338939:=A
def tw3313141843636148297:=A
def tw5609889335853844260:=A
def tw6949305112032143727:=A
def tw3153116347225282903:=A
def tw3419614400830888446:=A
def tw9263171612742954616:=A
def tw10457142092920775253:=A
def tw15982305730856347247:=A
def tw8134766909575772381:=A
def tw9787466660106386401:=A
def tw4864001793387975833:=A
def tw9855096250020547652:=A
def tw4156636098519271186:=A
def tw1194731890703048265:=A
def tw8424710917329187903:=A
def tw13970105475059503407:=A
def tw11302823339464928860:=A
def tw7535458277613662751:=A
def tw5059855472230988551:=A
def tw2475009066571079886:=A
def tw13175333578582240245:=A
def tw17236088955761518459:=A
def tw13860674519238386378:=A
def tw4711679452457178587:=A
def tw3197296350550404430:=A
def tw12953398398204464835:=A
def tw321629006339579095:=A
def tw12427505811218367080:=A
def tw11224564041173310705:=A
def tw8233656052501863968:=A
def tw14571931434741765026:=A
def tw13628972050908046312:=A
def tw13629773290982123907:=A
def tw16628040023499672373:=A
def tw18089672342408262442:=A
def tw18235039914777464250:=A
def tw6867427725924093170:=A
def tw3047711188243715234:=A
def tw1115536784382493425:=A
def tw11446936125535873614:=A
def tw8810785780156591259:=A
def tw13987080700498069480:=A
def tw5256647307849639968:=A
def tw1227446854569516723:=A
def tw5523170949268021861:=A
def tw7309080658624421993:=A
def tw17999965234100210258:=A
def tw11158809998815363049:=A
def tw16105123201517011607:=A
def tw10699074417288708369:=A
def tw9187626182233213774:=A
def tw6399378780278922679:=A
def tw743924586200656803:=A
def tw3475836856951184233:=A
def tw1188824011084695554:=A
def tw3465527905012187238:=A
def tw14336974080119842403:=A
def tw2806094890519925633:=A
def tw10089225956978969676:=A
def tw2717022603287860916:=A
def tw5628354658410662431:=A
def tw10684684821837244633:=A
def tw3421010897226334778:=A
def tw13915590709076024644:=A
def tw11668173192450684624:=A
def tw7089317607534593537:=A
def tw12583897412262090793:=A
def tw17590680042909030385:=A
def tw2354487741721415154:=A
def tw4391868142193670030:=A
def tw6275669283610335908:=A
def tw15662498835317213305:=A
def tw16918870248646229198:=A
def tw16304418027720985444:=A
def tw220908561980897110:=A
def tw5574490331177091541:=A
def tw11396212493435420475:=A
def tw3880817289507414743:=A
def tw3564332449279573391:=A
def tw7710847229411708987:=A
def tw688704957849998636:=A
def tw8820943279167715050:=A
def tw16971215651107059885:=A
def tw11164416657486281058:=A
def tw1915645278533091950:=A
def tw9902687934745575272:=A
def tw763123682345868272:=A
def tw5886314723936007107:=A
def tw6794840307348084284:=A
def tw10017012657726600184:=A
def tw10660045669841412555:=A
def tw13468899229964413952:=A
def tw3249145105077796196:=A
def tw1994689223450585533:=A
def tw3633888614230757845:=A
def tw13979316937313726592:=A
def tw14190584079539176123:=A
def tw13353973534325875662:=A
def tw18146117051897195608:=A
def tw11267354229297076936:=A
def tw16081742636769052221:=A
def tw2149573887510361886:=A
def tw10573588669874905592:=A
def tw16339448281525767734:=A
def tw14871161907098446483:=A
def tw10147461651754676111:=A
def tw3271900611099380590:=A
def tw2492663481369690078:=A
def tw15190113310662405550:=A
def tw9958323422861484390:=A
def tw31581017865979376:=A
def tw10516920778795498083:=A
def tw12767601327541944760:=A
def tw15261836852085041277:=A
def tw11726762403525022579:=A
def tw10380521190439128525:=A
def tw10595261616146974011:=A
def tw3984386889259847250:=A
def tw1332147871675372751:=A
def tw12840314101093181759:=A
def tw12646129044383585367:=A
def tw16941108466212645302:=A
def tw14182357037882151488:=A
def tw10818960622166616248:=A
def tw5572883114813932730:=A
def tw13797415995196797146:=A
def tw14149769944059814923:=A
def tw12527883937829802530:=A
def tw12064872339509847181:=A
def tw13558542608042958136:=A
def tw13780015194276606920:=A
def tw17349120372103236693:=A
def tw7574924522526933131:=A
def tw10961825821817204583:=A
def tw9612385966612020932:=A
def tw1259934848713637517:=A
def tw16393296881264446447:=A
def tw13818222030248031040:=A
def tw17999139127414765899:=A
def tw7292101730040213805:=A
def tw9915251135078453013:=A
def tw3878945296702186152:=A
def tw9077433065228896961:=A
def tw16459116686516334972:=A
def tw13782933273770074130:=A
def tw8268493118884175028:=A
def tw17458164752403958314:=A
def tw8939283174262874127:=A
def tw13539336394628295848:=A
def tw3474792866327324030:=A
def tw8948172614979960663:=A
def tw15976234037923847300:=A
def tw3835902755278587119:=A
def tw540258879216747920:=A
def tw1488657088516054353:=A
def tw12887290349075476427:=A
def tw18394800852478086670:=A
def tw12260071996728424097:=A
def tw5249472719924659123:=A
def tw13187775988359496526:=A
def tw10166385085513067097:=A
def tw16020031647190145597:=A
def tw1887163760286221087:=A
def tw5059438737972700561:=A
def tw17689132581412803481:=A
def tw2291471286177325434:=A
def tw762252716987113206:=A
def tw14421778182906601491:=A
def tw4380381613850207950:=A
def tw10605737870866359283:=A
def tw3223576816864646774:=A
def tw10503431543665835776:=A
def tw9325949141311549726:=A
def tw15289720257216800174:=A
def tw1408447207976536377:=A
def tw1101012628357275801:=A
def tw11930701677873553099:=A
def tw11376016753234460369:=A
def tw9054973476161368901:=A
def tw11214222805949498969:=A
def tw8185189615458195392:=A
def tw6675207263825608599:=A
def tw3264651473851837742:=A
def tw17130261985223535442:=A
def tw6739978500095459649:=A
def tw2363557167990231785:=A
def tw5441761215230427436:=A
end PySem.W.Fast
open PySem PySem.W PyProof.Rows
theorem K84.rows_mk{K:qQ}{k:qM}{P:Params}{es:Array DictEntry}{n:Nat}{l:List (Option Str×Option L2.V)}(a:List.lookup k K=some ⟨.type "dict",none,.dict es n,#[]⟩)(b:PySem.W.KeysLit P es.toList)(c:es.toList.map (λe=>(L2.LN e.key,L2.Hs e.val))=l):∃es n,List.lookup k K=some ⟨.type "dict",none,.dict es n,#[]⟩/\PySem.W.KeysLit P es.toList/\es.toList.map (λe=>(L2.LN e.key,L2.Hs e.val))=l:=⟨_,_,a,b,c⟩
set_option maxRecDepth 100000 in
set_option maxHeartbeats 0 in
theorem PySem.Challenge.cw_rowrules_k84_a_book_told_and_asked_holds : PySem.Challenge.rw_rowrules_k84_a_book_told_and_asked.Holds := by
 w_on;o_law;k_head;(case hw=>w_witness2)
 k_fill
 refine K84.Y1 (l:=PySem.Challenge.rw_rowrules_k84_a_book_told_and_asked) rfl rfl (λw h Y=>PySem.W.km_in_of Y) ?F
 case F =>
  intro w mg fa h KX G hmg;refine' K84.U4 KX G hmg ?_ ?_ ?_ ?_ ?_ ?_ ?_ ?_ ?_ ?_ ?_ ?_ ?_ ?_ ⟨_,L2.JT ?_ ?_ ?_⟩ (L2.AQ ?_ ?_ ?_ ?_) (L2.AQ ?_ ?_ ?_ ?_) (L2.AQ ?_ ?_ ?_ ?_) (L2.AQ ?_ ?_ ?_ ?_) (L2.AQ ?_ ?_ ?_ ?_) (L2.AQ ?_ ?_ ?_ ?_) (L2.AQ ?_ ?_ ?_ ?_) (L2.AQ ?_ ?_ ?_ ?_) (L2.AQ ?_ ?_ ?_ ?_) (L2.AQ ?_ ?_ ?_ ?_) (L2.AQ ?_ ?_ ?_ ?_) (L2.AQ ?_ ?_ ?_ ?_) (L2.AQ ?_ ?_ ?_ ?_) (L2.AQ ?_ ?_ ?_ ?_) (L2.AQ ?_ ?_ ?_ ?_) (L2.AQ ?_ ?_ ?_ ?_) (L2.AQ ?_ ?_ ?_ ?_) (L2.AQ ?_ ?_ ?_ ?_) (L2.AQ ?_ ?_ ?_ ?_) (L2.AQ ?_ ?_ ?_ ?_) (L2.Ra ?_ ?_ ?_ ?_ ?_) (L2.AQ ?_ ?_ ?_ ?_) (L2.AQ ?_ ?_ ?_ ?_) (L2.AQ ?_ ?_ ?_ ?_) (L2.AQ ?_ ?_ ?_ ?_) (L2.AQ ?_ ?_ ?_ ?_) (L2.AQ ?_ ?_ ?_ ?_) (L2.AQ ?_ ?_ ?_ ?_) (L2.AQ ?_ ?_ ?_ ?_) (L2.AQ ?_ ?_ ?_ ?_) (L2.AQ ?_ ?_ ?_ ?_) (L2.AQ ?_ ?_ ?_ ?_) (L2.AQ ?_ ?_ ?_ ?_) (L2.AQ ?_ ?_ ?_ ?_) (L2.AQ ?_ ?_ ?_ ?_) (L2.AQ ?_ ?_ ?_ ?_) (L2.AQ ?_ ?_ ?_ ?_) (L2.AQ ?_ ?_ ?_ ?_) (L2.AQ ?_ ?_ ?_ ?_) (L2.AQ ?_ ?_ ?_ ?_) (L2.AQ ?_ ?_ ?_ ?_) (L2.AQ ?_ ?_ ?_ ?_) (L2.AQ ?_ ?_ ?_ ?_) (L2.AQ ?_ ?_ ?_ ?_) (L2.AQ ?_ ?_ ?_ ?_) (L2.AQ ?_ ?_ ?_ ?_) (L2.AQ ?_ ?_ ?_ ?_) (L2.AQ ?_ ?_ ?_ ?_) (L2.AQ ?_ ?_ ?_ ?_) (L2.AQ ?_ ?_ ?_ ?_) (L2.AQ ?_ ?_ ?_ ?_) (L2.AQ ?_ ?_ ?_ ?_) (L2.AQ ?_ ?_ ?_ ?_) (L2.AQ ?_ ?_ ?_ ?_) (L2.AQ ?_ ?_ ?_ ?_) (L2.AQ ?_ ?_ ?_ ?_) ?_ ⟨_,L2.JT ?_ ?_ ?_⟩ ?_ ⟨_,L2.JT ?_ ?_ ?_⟩ (L2.AQ ?_ ?_ ?_ ?_) (L2.AQ ?_ ?_ ?_ ?_) (L2.AQ ?_ ?_ ?_ ?_) (L2.AQ ?_ ?_ ?_ ?_) (L2.AQ ?_ ?_ ?_ ?_) (L2.AQ ?_ ?_ ?_ ?_) (L2.AQ ?_ ?_ ?_ ?_) (L2.AQ ?_ ?_ ?_ ?_) (L2.AQ ?_ ?_ ?_ ?_) (L2.AQ ?_ ?_ ?_ ?_) (L2.AQ ?_ ?_ ?_ ?_) (L2.AQ ?_ ?_ ?_ ?_) (L2.AQ ?_ ?_ ?_ ?_) (L2.AQ ?_ ?_ ?_ ?_) (L2.AQ ?_ ?_ ?_ ?_) (L2.AQ ?_ ?_ ?_ ?_) (L2.AQ ?_ ?_ ?_ ?_) (L2.AQ ?_ ?_ ?_ ?_) (L2.AQ ?_ ?_ ?_ ?_) (L2.AQ ?_ ?_ ?_ ?_) (L2.AQ ?_ ?_ ?_ ?_) ?_ (K84.rows_mk ?_ ?_ ?_) ?_ ?_ ?_ ?_ ?_ ?_ ?_ ?_ ?_ ?_ ?_ ?_ ?_ ?_ ?_ ?_ ?_ ?_ ?_ ?_ ?_ ?_ ?_ ?_ ?_ ?_ ?_ ?_ ?_ ?_ ?_ ?_ ?_ ?_ ?_ ?_ ?_ ?_ ?_ ?_ ?_ ?_ ?_ ?_ ?_ ?_ ?_ ?_ ?_ ?_ ?_ ?_ ?_ ?_ ?_ ?_ ?_ ?_ ?_ ?_ ?_ ?_ ?_ ?_ ?_ ?_ ?_ ?_ ?_ ?_ ?_ ?_ ?_ ?_ ?_ ?_ ?_ ?_ ?_ ?_ ?_ ?_ ?_ ?_ ?_ ?_ ?_ ?_
  any_goals k_is
  rotate_left 16
  ·kernel_rfl
  ·k_keys
  ·rfl
  ·decide
  ·kernel_rfl
  ·kernel_rfl
  ·kernel_rfl
  ·kernel_rfl
  ·kernel_rfl
  ·kernel_rfl
  ·kernel_rfl
  ·kernel_rfl
  ·kernel_rfl
  ·kernel_rfl
  ·kernel_rfl
  ·k_exc
  ·k_exc
  ·k_exc
  ·k_exc
  ·k_exc
  ·k_exc
  ·k_exc
  ·k_exc
  ·kernel_rfl
  ·show PySem.W.isClsIn _ _=true;k_is
  ·show PySem.W.isClsIn _ _=true;k_is
  ·kernel_rfl
  ·kit_is
  ·kit_is
  ·kit_is
  ·kit_is
  ·kts_exm
  ·kts_exm
