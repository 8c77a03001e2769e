import PyProof.Rows.All
import Wide.All
import OpenK.AllK
import Wide.FinOn
import Lean
import PyProof.EqAt
import PyProof.EqKinds
import PyProof.TupleCall
import PySem.Challenge.RW_rowrules_k93_whole_kept_by_both
set_option Elab.async false
set_option linter.all false
set_option maxRecDepth 100000
abbrev qA:=@PySem.wpAny_bind
abbrev qB:=@PySem.wpAny_pure
abbrev qC:=@if_neg
abbrev qD:=@if_pos
abbrev qE:=@absurd
abbrev qF:=@decide_eq_true
abbrev qG:=@decide_eq_false
abbrev qH:=@PyProof.Rows.wpS_bind
abbrev qI:=@PyProof.Rows.wpS_pure
abbrev qJ:=@PyProof.Rows.wpS_forRange
abbrev qK:=@PySem.wpAny_mono
abbrev qL:=@of_decide_eq_true
abbrev qM:=@PySem.wpAny_holding
abbrev qN:=@congrArg
abbrev qO:=@PySem.Value
abbrev qP:=@PySem.Addr
abbrev qQ:=@PySem.Shared
abbrev qR:=@PySem.Program
abbrev qS:=@PySem.World
abbrev qT:=PySem.W.Frag
abbrev qU:=List Int
abbrev qV:=Nat×Nat
abbrev a8:=@List.getD_eq_getElem?_getD
abbrev a9:=@List.length_map
abbrev bA:=@List.getElem?_eq_getElem
abbrev bB:=@List.getElem?_eq_some_iff
abbrev bC:=@List.length_append
abbrev bD:=@Nat.le_refl
abbrev bE:=@List.mem_of_getElem?
abbrev bF:=@List.getElem?_map
abbrev bG:=@PySem.Heap.get?_push_of_some
abbrev bH:=@List.map_append
abbrev bI:=@Int.toNat_natCast
abbrev bJ:=@List.mem_append
abbrev bL:=@List.mem_singleton
abbrev bM:=@PySem.Heap.lt_size
abbrev bN:=@Int.toNat_of_nonneg
abbrev bO:=@List.length_range
abbrev bP:=@List.length_replicate
abbrev bQ:=@Nat.lt_of_lt_of_le
abbrev bR:=@List.mem_map
abbrev bS:=@List.getElem?_append_right
abbrev bT:=@Bool.false_ne_true
abbrev bU:=@List.getElem?_append_left
abbrev bV:=@PySem.Heap.get?_push_size
abbrev bW:=@List.mem_range
abbrev bY:=@List.mem_iff_getElem?
abbrev bZ:=@List.map_congr_left
abbrev ba:=@List.mem_append_right
abbrev bc:=@List.length_singleton
abbrev be:=@List.mem_cons_of_mem
abbrev bf:=@List.mem_cons_self
abbrev bg:=@Int.zero_add
abbrev bh:=@List.getElem?_eq_none
abbrev bi:=@List.mem_cons
abbrev bj:=@Int.mul_zero
abbrev bn:=@List.size_toArray
abbrev bp:=@Nat.ne_of_lt
abbrev bq:=@Int.pow_succ
abbrev br:=@List.take_length
abbrev bu:=@PySem.boot_len
abbrev bv:=@List.mem_filter
abbrev bx:=@Nat.lt_irrefl
abbrev bz:=@List.append_nil
abbrev b7:=@List.getElem_mem
abbrev b8:=@List.range_succ
abbrev b9:=@List.length_take
abbrev cA:=@List.length_drop
abbrev cB:=@List.mem_of_mem_drop
abbrev cC:=@List.getElem?_replicate
abbrev cD:=@PyProof.Rows.callWith_type1
abbrev cE:=@Int.emod_eq_of_lt
abbrev cF:=@Nat.le_trans
abbrev cH:=@Int.mul_comm
abbrev cI:=@List.map_cons
abbrev cJ:=@Nat.zero_le
abbrev cK:=@List.length_cons
abbrev cL:=@List.filter_append
abbrev cM:=@List.not_mem_nil
abbrev cN:=@Int.pow_zero
abbrev cO:=@List.mem_of_mem_take
abbrev cP:=@List.flatMap_cons
abbrev cQ:=@Int.mul_assoc
abbrev cR:=@Option.map_eq_some_iff
abbrev cS:=@Int.natCast_mul
abbrev cT:=@Int.zero_mul
abbrev cU:=@List.length_filter_le
abbrev cV:=@List.getElem?_range
abbrev cW:=@Int.natCast_emod
abbrev cX:=@List.mem_append_left
abbrev cZ:=@PySem.W.kia_one
abbrev ce:=@Nat.not_lt_zero
abbrev cf:=@List.take_succ
abbrev cg:=@List.take_add_one
abbrev cj:=@Int.one_mul
abbrev cm:=@Nat.pow_le_pow_right
abbrev cn:=@Int.le_of_lt
abbrev cp:=@List.map_map
abbrev cq:=@Nat.lt_succ_self
abbrev cr:=@List.replicate_succ
abbrev cw:=@Nat.lt_succ_of_lt
abbrev cx:=@PySem.Heap.size_push
abbrev cy:=@Bool.and_eq_true
abbrev cz:=@Int.natCast_ediv
abbrev c5:=@PySem.W.hideAll_get
abbrev c6:=@List.length_reverse
abbrev c7:=@List.drop_eq_getElem_cons
abbrev c8:=@Int.mul_le_mul
abbrev dA:=@Nat.mul_le_mul
abbrev dB:=@Int.add_zero
abbrev dC:=@Int.natCast_add
abbrev dD:=@Int.emod_lt_of_pos
abbrev dE:=@List.mem_replicate
abbrev dF:=@Int.natAbs_natCast
abbrev dG:=@Nat.mod_lt
abbrev dH:=@Int.mul_le_mul_of_nonneg_left
abbrev dI:=@PySem.F.plainAttrs_list
abbrev dJ:=@Int.natAbs_mul
abbrev dL:=@List.nodup_cons
abbrev dM:=@List.flatMap_append
abbrev dN:=@Int.mul_eq_zero
abbrev dO:=@Int.ediv_eq_zero_of_lt
abbrev dP:=@Int.add_mul_emod_self_left
abbrev dQ:=@List.take_append_drop
abbrev dR:=@Int.add_comm
abbrev dS:=@Nat.le_succ
abbrev dU:=@Int.le_refl
abbrev dW:=@Int.eq_of_mul_eq_mul_left
abbrev dc:=@Nat.mul_le_mul_right
abbrev de:=@Nat.div_lt_of_lt_mul
abbrev dh:=@Option.isSome_iff_exists
abbrev dj:=@List.append_assoc
abbrev dm:=@Int.emod_nonneg
abbrev dn:=@List.nodup_append
abbrev dq:=@Nat.le_of_lt
abbrev du:=@Nat.ne_of_gt
abbrev dz:=@PySem.mem_of_lookup
abbrev d4:=@List.getElem_of_mem
abbrev d5:=@Nat.add_sub_cancel_left
abbrev d6:=@List.mem_filterMap
abbrev d7:=@Nat.lt_of_le_of_lt
abbrev d8:=@Nat.add_sub_cancel
abbrev d9:=@Nat.pos_of_ne_zero
abbrev eE:=@PySem.F.slot_dict_setdefault
abbrev eH:=@Nat.add_right_comm
abbrev eI:=@Bool.eq_iff_iff
abbrev eJ:=@PySem.Heap.get?_update_self
abbrev eK:=@List.getElem?_reverse
abbrev eO:=@Int.add_emod
abbrev eQ:=@Nat.sub_self
abbrev eR:=@List.flatten_cons
abbrev eS:=@PySem.F.excBase_ValueError
abbrev eU:=@PySem.Heap.get?_none_of_le
abbrev eV:=@PySem.W.looks_findIn
abbrev eW:=@List.reverse_reverse
abbrev ej:=@Bool.and_false
abbrev ez:=@Array.getElem?_eq_getElem
abbrev fA:=@List.findIdx?_eq_none_iff
abbrev fB:=@List.drop_zero
abbrev fC:=@List.filter_cons
abbrev fD:=@List.flatMap_nil
abbrev fE:=@PySem.Heap.get?_update_ne
abbrev fF:=@List.length_pos_iff
abbrev fG:=@Nat.mul_comm
abbrev fH:=@Int.sub_zero
abbrev fI:=@List.length_set
abbrev fJ:=@List.sum_cons
abbrev fK:=@Nat.mul_assoc
abbrev fL:=@PySem.F.slot_list_count
abbrev fM:=@PyProof.Rows.boot_tuple
abbrev fN:=@List.getElem?_set_self
abbrev fO:=@PySem.Heap.get?_update_other
abbrev fP:=@List.take_of_length_le
abbrev fQ:=@PySem.W.kitx_list
abbrev fR:=@PySem.W.kitx_dict
abbrev fS:=@List.ext_getElem?
abbrev fT:=@List.foldl_append
abbrev fU:=@List.nodup_nil
abbrev fV:=@Int.sub_self
abbrev fW:=@Int.natAbs_dvd_natAbs
abbrev fX:=@PyProof.Rows.boot_sum
abbrev fY:=@List.getElem_inj
abbrev fZ:=@List.all_eq_true
abbrev fb:=@List.any_eq_true
abbrev fc:=@List.flatMap_map
abbrev fe:=@List.getElem_map
abbrev ff:=@List.mem_flatMap
abbrev fg:=@List.map_reverse
abbrev fh:=@List.getElem?_set_ne
abbrev fi:=@Int.mul_ediv_cancel'
abbrev fj:=@List.map_take
abbrev fk:=@List.sum_append
abbrev fq:=@Nat.min_eq_left
abbrev fu:=@Int.mul_sub
abbrev f6:=@Int.mul_ne_zero
abbrev f7:=@List.map_nil
abbrev gB:=@Nat.add_comm
theorem byG{T:Prop}(h:∀G:Prop,(T->G)->G):T:=h T id
namespace L2
open PySem PySem.Spec PyProof.Rows
abbrev Cc:=Sum Int Str
noncomputable def Kb:Cc->qO->Bool
 |.inl k,v=>Value.isInt k v
 |.inr x,v=>Value.isStrOf x v
noncomputable def Zv(w:qS):Cc->Int
 |.inl k=>hashInt k
 |.inr x=>hashStr w x
theorem Bc:∀{k:Cc} {v:qO},Kb k v=true->(∃i t,k=Sum.inl i/\v=Value.int i t)\/(∃x t,k=Sum.inr x/\v=Value.str x t)
 |.inl i,v,h=>by obtain⟨t,e⟩:=Value.isInt_shape (k:=i) (v:=v) h;exact .inl ⟨i,t,rfl,e⟩
 |.inr x,v,h=>by obtain⟨t,e⟩:=Value.isStrOf_shape (x:=x) (v:=v) h;exact .inr ⟨x,t,rfl,e⟩
theorem Px(i:Int)(t:Tok):Kb (.inl i) (.int i t)=true:=by simp[Kb,Value.isInt]
theorem Py(x:Str)(t:Tok):Kb (.inr x) (.str x t)=true:=by simp[Kb,Value.isStrOf]
theorem VG(a b:Int):decide ((Sum.inl a:Cc)=Sum.inl b)=(a==b):=by
 by_cases e:a=b
 ·subst e;simp
 ·have h:¬(Sum.inl a:Cc)=Sum.inl b:=λq=>e (Sum.inl.inj q)
  rw[qG h];exact (beq_eq_false_iff_ne.mpr e).symm
theorem VH(a b:Str):decide ((Sum.inr a:Cc)=Sum.inr b)=decide (a=b):=by
 by_cases e:a=b
 ·subst e;simp
 ·have h:¬(Sum.inr a:Cc)=Sum.inr b:=λq=>e (Sum.inr.inj q)
  rw[qG h,qG e]
theorem VI(a:Int)(b:Str):decide ((Sum.inl a:Cc)=Sum.inr b)=false:=qG (λq=>nomatch q)
theorem VJ(a:Str)(b:Int):decide ((Sum.inr a:Cc)=Sum.inl b)=false:=qG (λq=>nomatch q)
noncomputable def Bz(prog:qR)(w:qS):PySem.KeyKind prog w Cc where
 is:=Kb
 hash:=Zv w
 inj:=λv a b ha hb=>by
  rcases Bc ha with⟨i,t,rfl,rfl⟩|⟨x,t,rfl,rfl⟩
  ·rcases Bc hb with⟨j,u,rfl,e⟩|⟨y,u,rfl,e⟩
   ·injection e with e1 _;rw[e1]
   ·exact nomatch e
  ·rcases Bc hb with⟨j,u,rfl,e⟩|⟨y,u,rfl,e⟩
   ·exact nomatch e
   ·injection e with e1 _;rw[e1]
 byValue:=λk v h=>by rcases Bc h with⟨i,t,rfl,rfl⟩|⟨x,t,rfl,rfl⟩<;>rfl
 pyHash:=λhv h=>by
  rcases Bc hv with⟨i,t,rfl,rfl⟩|⟨x,t,rfl,rfl⟩
  ·exact wpAny_pyHash_int h
  ·exact wpAny_pyHash_str h
 eqBool:=λhu hv h=>by
  rcases Bc hu with⟨i,t,rfl,rfl⟩|⟨x,t,rfl,rfl⟩
  ·rcases Bc hv with⟨j,u,rfl,rfl⟩|⟨y,u,rfl,rfl⟩
   ·rw[VG]at h;exact wpAny_eqBool_int h
   ·rw[VI]at h;exact SeqAt.EqAt.int_str i t y u _ _ _ _ h
  ·rcases Bc hv with⟨j,u,rfl,rfl⟩|⟨y,u,rfl,rfl⟩
   ·rw[VJ]at h;exact SeqAt.EqAt.str_int x t j u _ _ _ _ h
   ·rw[VH]at h;exact wpAny_eqBool_str h
 «strs»:=λk x t v h=>by
  rcases Bc h with⟨i,u,rfl,e⟩|⟨y,u,rfl,e⟩
  ·exact nomatch e
  ·injection e with e1 _
   subst e1;cases v<;>rfl
theorem MF(prog:qR)(w:qS)(i:Int)(t:Tok):(Bz prog w).is (.inl i) (.int i t)=true:=Px i t
theorem MG(prog:qR)(w:qS)(x:Str)(t:Tok):(Bz prog w).is (.inr x) (.str x t)=true:=Py x t
inductive V where
 |non|bl (b:Bool)|int (i:Int)|str (x:Str)|byt (b:Array UInt8)|flt (b:UInt64)|ref (a:qP)|ty (n:String)
 deriving DecidableEq
def BN:V->qO->Prop
 |.non,u=>u=Value.none
 |.bl b,u=>u=Value.bool b
 |.int i,u=>∃t,u=Value.int i t
 |.str x,u=>∃t,u=Value.str x t
 |.byt b,u=>∃t,u=Value.bytes b t
 |.flt b,u=>∃t,u=Value.float b t
 |.ref a,u=>u=Value.ref a
 |.ty n,u=>u=Value.type n
abbrev Av:List V->List qO->Prop:=Paired BN
variable{xs:List V}{us:List qO}
theorem Av.length(r:Av xs us):xs.length=us.length:=Paired.length r
theorem Av.get:∀{xs:List V} {us:List qO} {i:Nat} {x:V},Av xs us->xs[i]?=some x->∃u,us[i]?=some u/\BN x u
 |_,_,_,_,.nil,e=>by simp at e
 |_,_,0,_,.cons r _,e=>by simp at e;subst e;exact⟨_,rfl,r⟩
 |_,_,i+1,x,.cons _ t,e=>by obtain⟨u,h1,h2⟩:=Av.get (i:=i) (x:=x) t (by simpa using e);exact⟨u,by simpa using h1,h2⟩
variable{u:qO}
theorem Av.set{x:V}(r:BN x u):∀{xs:List V} {us:List qO} (i:Nat),Av xs us->Av (xs.set i x) (us.set i u)
 |_,_,_,.nil=>.nil
 |_,_,0,.cons _ t=>.cons r t
 |_,_,i+1,.cons q t=>.cons q (Av.set r i t)
theorem Av.append:∀{xs ys:List V} {us ws:List qO},Av xs us->Av ys ws->Av (xs++ys) (us++ws):=by
 intro _ _ _ _ h s
 induction h with
 |nil=>exact s
 |cons r _ ih=>exact .cons r ih
theorem Av.take:∀{xs:List V} {us:List qO} (n:Nat),Av xs us->Av (xs.take n) (us.take n)
 |_,_,0,_=>.nil
 |_,_,_+1,.nil=>.nil
 |_,_,n+1,.cons r t=>.cons r (Av.take n t)
theorem Av.drop:∀{xs:List V} {us:List qO} (n:Nat),Av xs us->Av (xs.drop n) (us.drop n)
 |_,_,0,r=>r
 |_,_,_+1,.nil=>.nil
 |_,_,n+1,.cons _ t=>Av.drop n t
noncomputable def LK:Option V->Option qO->Prop
 |some v,some u=>BN v u
 |none,none=>True
 |_,_=>False
def KV{κ:Type}:List (κ×V)->List (κ×qO)->Prop:=Paired λ(p:κ×V) (q:κ×qO)=>p.1=q.1/\BN p.2 q.2
def kV:Cc->V
 |.inl i=>.int i
 |.inr x=>.str x
inductive HO where
 |lst (xs:List V)
 |tup (xs:List V)
 |dK (kvs:List (Cc×V))|dT (kvs:List (List Cc×V))
 |set (S:Int->Bool) (n:Nat)
 |ins (C dx:qP) (fs:List (Str×V))
 |own (x:qP)
 |xd (fs:List (Str×V))
 |met (f x:qP)
 |rng (lo hi:Int)
 |frz (o:Obj) (u:HO)
 |tbl (ps:Array qO)
 |ext (φ:Heap->Prop)
abbrev Hp:=qP->Option HO
noncomputable def Ak(H:Hp)(a:qP)(o:HO):Hp:=λb=>if b=a then some o else H b
variable{H:Hp}{a:qP}{o:HO}
theorem AD:Ak H a o a=some o:=by unfold Ak;rw[qD rfl]
theorem AJ{b:qP}(h:b≠a):Ak H a o b=H b:=by unfold Ak;rw[qC h]
theorem Dc{u:HO}:Ak (Ak H a o) a u=Ak H a u:=by
 funext b;unfold Ak;split<;>rfl
theorem Ff{b:qP}{u:HO}(h:H a=some o)(h':H b=some u)(d:o≠u):a≠b:=by intro e;subst e;rw[h]at h';exact d (Option.some.inj h')
theorem As{b:qP}(h:H a=some o)(h':H b=none):a≠b:=by intro e;subst e;rw[h]at h';cases h'
section
variable(P:qR)(w:qS)
noncomputable def A5(H:Hp)(h:Heap)(a:qP):HO->Prop
 |.lst xs=>xs.length<=sizeLine/\∃(its:List qO) (n:Nat),Av xs its/\h.get? a=some {cls:=.type "list",data:=.seq its.toArray n}
 |.tup xs=>xs.length<=sizeLine/\∃its:List qO,Av xs its/\IsTup h a its.toArray
 |.dK kvs=>kvs.length<=sizeLine/\(a==sysModules)=false/\∃vs,KV kvs vs/\h.DictOf (Bz P w) a vs
 |.dT kvs=>kvs.length<=sizeLine/\(a==sysModules)=false/\∃xs:List (List Cc×qP×qO),
   Paired (λ(p:List Cc×V) (q:List Cc×qP×qO)=>p.1=q.1/\H q.2.1=some (.tup (p.1.map kV))/\BN p.2 q.2.2) kvs xs /\
   ∃o es ep,h.get? a=some o/\o.ExactDict/\o.data=.dict es ep/\es.toList=xs.map (entryOfKey (tupleKind (Bz P w)))/\(xs.map (·.1)).Nodup
 |.set S n=>h.SetOf (intKind P w) a S n
 |.ins C dx fs=>H dx=some (.own a)/\fs.length<=1000/\dx≠a/\h.get? a=some (PySem.W.instObj C dx) /\
   ∃mA,h.Ns1 dx mA/\(∀f,LK (fs.lookup f) (mA f))/\PySem.Within mA (fs.map (·.1))
 |.own _=>∃o,h.get? a=some o
 |.xd fs=>∃mA,h.Ns1 a mA/\∀f,LK (fs.lookup f) (mA f)
 |.rng lo hi=>∃t u v,h.get? a=some {cls:=.type "range",data:=.fields #[.int lo t,.int hi u,.int 1 v]}
 |.frz o u=>h.get? a=some o/\A5 H h a u
 |.tbl ps=>h.get? a=some {cls:=.none,data:=.fields ps}
 |.met f x=>h.get? a=some (PySem.W.methodObj (.ref f) (.ref x))
 |.ext φ=>φ h/\(∃o,h.get? a=some o)/\∀h1 h2:Heap,φ h1->(∀o,h1.get? a=some o->h2.get? a=some o)->φ h2
def Gu(H:Hp)(h:Heap):Prop:=∀a o,H a=some o->A5 P w H h a o
end
variable{α β:Type}
section
variable{P:qR}{w:qS}{H':Hp}{h h':Heap}
theorem A5.lt(x:A5 P w H h a o):a<h.objs.size:=by
 cases o with
 |lst xs=>obtain⟨_,_,_,_,e⟩:=x;exact bM e
 |tup xs=>obtain⟨_,_,_,p⟩:=x;exact p.lt
 |dK kvs=>obtain⟨_,_,_,_,o,_,_,e,_⟩:=x;exact bM e
 |dT kvs=>obtain⟨_,_,_,_,o,_,_,e,_⟩:=x;exact bM e
 |set S n=>obtain⟨o,_,_,_,e,_⟩:=x;exact bM e
 |ins C dx fs=>obtain⟨_,_,_,e,_⟩:=x;exact bM e
 |own y=>obtain⟨_,e⟩:=x;exact bM e
 |xd fs=>obtain⟨_,⟨_,_,_,e,_⟩,_⟩:=x;exact bM e
 |rng lo hi=>obtain⟨_,_,_,e⟩:=x;exact bM e
 |frz ob u=>obtain⟨e,_⟩:=x;exact bM e
 |tbl ps=>exact bM (show h.get? a=some _ from x)
 |met f y=>exact bM (show h.get? a=some _ from x)
 |ext φ=>obtain⟨_,⟨_,e⟩,_⟩:=x;exact bM e
theorem Paired.mapP{F G:α->β->Prop}:∀{l₁:List α} {l₂:List β},Paired F l₁ l₂->(∀a b,F a b->G a b)->Paired G l₁ l₂:=by
 intro _ _ h f
 induction h with
 |nil=>exact .nil
 |cons r _ ih=>exact .cons (f _ _ r) ih
theorem A5.stay(x:A5 P w H h a o)(k:∀b u,(b=a\/H b=some (.own a))->h.get? b=some u->h'.get? b=some u)
  (ho:∀b,H b=some (.own a)->H' b=some (.own a)) (ht:∀b xs,H b=some (.tup xs)->H' b=some (.tup xs)):A5 P w H' h' a o:=by
 induction o with
 |lst xs=>obtain⟨z,its,n,r,e⟩:=x;exact⟨z,its,n,r,k _ _ (.inl rfl) e⟩
 |tup xs=>obtain⟨z,its,r,ob,e,c⟩:=x;exact⟨z,its,r,ob,k _ _ (.inl rfl) e,c⟩
 |dK kvs=>obtain⟨z,y,vs,r,ob,es,ep,e,c⟩:=x;exact⟨z,y,vs,r,ob,es,ep,k _ _ (.inl rfl) e,c⟩
 |dT kvs =>
  obtain⟨z,y,xs,r,ob,es,ep,e,c⟩:=x;exact⟨z,y,xs,Paired.mapP r λp q z=>⟨z.1,ht _ _ z.2.1,z.2.2⟩,ob,es,ep,k _ _ (.inl rfl) e,c⟩
 |set S n=>obtain⟨ob,es,ep,t,e,c⟩:=x;exact⟨ob,es,ep,t,k _ _ (.inl rfl) e,c⟩
 |ins C dx fs =>
  obtain⟨d,z,ne,e,mA,⟨od,es,ep,e2,c⟩,r⟩:=x;exact⟨ho _ d,z,ne,k _ _ (.inl rfl) e,mA,⟨od,es,ep,k _ _ (.inr d) e2,c⟩,r⟩
 |own y=>obtain⟨ob,e⟩:=x;exact⟨ob,k _ _ (.inl rfl) e⟩
 |xd fs=>obtain⟨mA,⟨od,es,ep,e,c⟩,r⟩:=x;exact⟨mA,⟨od,es,ep,k _ _ (.inl rfl) e,c⟩,r⟩
 |rng lo hi=>obtain⟨t,u,v,e⟩:=x;exact⟨t,u,v,k _ _ (.inl rfl) e⟩
 |frz ob u ih=>obtain⟨e,q⟩:=x;exact⟨k _ _ (.inl rfl) e,ih q⟩
 |tbl ps =>
  have e:h.get? a=some {cls:=.none,data:=.fields ps}:=x;show h'.get? a=some {cls:=.none,data:=.fields ps};exact k a _ (.inl rfl) e
 |met f y =>
  have e:h.get? a=some (PySem.W.methodObj (.ref f) (.ref y)):=x;show h'.get? a=some (PySem.W.methodObj (.ref f) (.ref y));exact k a _ (.inl rfl) e
 |ext φ=>obtain⟨p,⟨o,e⟩,st⟩:=x;exact⟨st _ _ p λo q=>k _ _ (.inl rfl) q,⟨o,k _ _ (.inl rfl) e⟩,st⟩
theorem Gu.lt(x:Gu P w H h)(e:H a=some o):a<h.objs.size:=(x a o e).lt
theorem Gu.fresh(x:Gu P w H h)(e:h.objs.size<=a):H a=none:=by
 cases q:H a with
 |none=>rfl
 |some u=>exact qE (bQ (x.lt q) e) (bx _)
theorem Gu.kept(x:Gu P w H h)(k:∀b u,h.get? b=some u->h'.get? b=some u):Gu P w H h':=λa o e =>
 (x a o e).stay (λb u _ q=>k b u q) (λ_ q=>q) λ_ _ q=>q
theorem Gu.laid(x:Gu P w H h)(k:∀b u,h.get? b=some u->h'.get? b=some u)(hp:h.objs.size<=a)(new:A5 P w (Ak H a o) h' a o):Gu P w (Ak H a o) h':=λb u e=>by
 have hn:=x.fresh hp
 by_cases hb:b=a
 ·subst hb;rw[AD]at e;cases e;exact new
 ·rw[AJ hb]at e;exact (x b u e).stay (λc v _ q=>k c v q) (λc q=>by rw[AJ (As q hn)];exact q) λc xs q=>by rw[AJ (As q hn)];exact q
end
def Rd(H:Hp)(a:qP)(u:HO):Prop:=H a=some u\/∃o,H a=some (.frz o u)
theorem Rd.ok{P:qR}{w:qS}{h:Heap}{u:HO}(r:Rd H a u)(x:Gu P w H h):A5 P w H h a u:=by
 rcases r with r|⟨o,r⟩
 ·exact x a u r
 ·obtain⟨_,q⟩:=x a _ r;exact q
noncomputable def XR:Option HO->Prop
 |some (.lst _)=>True
 |some (.dK _)=>True
 |some (.dT _)=>True
 |some (.set _ _)=>True
 |some (.ins _ _ _)=>True
 |some (.ext _)=>True
 |_=>False
section
variable{P:qR}{w:qS}{h h':Heap}{x e:qP}{o':HO}
theorem Gu.write(ok:Gu P w H h)(mu:XR (H x))(he:e=x\/H e=some (.own x))(k:∀b u,b≠e->h.get? b=some u->h'.get? b=some u)(heo:∃u,h'.get? e=some u)
  (new:A5 P w (Ak H x o') h' x o'):Gu P w (Ak H x o') h':=λb u q=>by
 have nown:∀c y,H c=some (.own y)->c≠x:=λc y r z=>by subst z;rw[r]at mu;exact mu
 have ntup:∀c xs,H c=some (.tup xs)->c≠x:=λc xs r z=>by subst z;rw[r]at mu;exact mu
 by_cases hb:b=x
 ·subst hb;rw[AD]at q;cases q;exact new
 ·rw[AJ hb]at q
  by_cases hbe:b=e
  ·have q':H b=some (.own x):=by
    rcases he with z|z
    ·exact qE (hbe.trans z) hb
    ·rw[hbe];exact z
   rw[q]at q';cases q';obtain⟨v,hv⟩:=heo;exact⟨v,by rw[hbe];exact hv⟩
  ·refine (ok b u q).stay (λc v hc r=>k c v ?_ r) (λc r=>by rw[AJ (nown c b r)];exact r) λc xs r=>by rw[AJ (ntup c xs r)];exact r
   rcases hc with rfl|hc
   ·exact hbe
   ·rintro rfl;rcases he with z|z
    ·exact nown c b hc z
    ·rw[hc]at z;cases z;exact hb rfl
end
structure Un(fs ex:List qP)(H H':Hp)(h h':Heap):Prop where
 keep:∀b o,h.get? b=some o->H b=none->b∉fs->b∉ex->h'.get? b=some o
 slot:∀b o,h.get? b=some o->H b=none->b∈fs->b∉ex->∃sl,h'.get? b=some {o with slots:=sl}
 free:∀b o,h.get? b=some o->H b=none->b∉ex->H' b=none
 there:∀b o,h.get? b=some o->b∉ex->∃o',h'.get? b=some o'
 tups:∀b xs,H b=some (.tup xs)->H' b=some (.tup xs)
 frzs:∀b o u,H b=some (.frz o u)->H' b=some (.frz o u)
 tbls:∀b ps,H b=some (.tbl ps)->∃more,H' b=some (.tbl (ps++more))
section
variable{fs fs' ex ex':List qP}{H1 H2:Hp}{h h1 h2 h':Heap}{x e:qP}
theorem Un.any(u:Un fs ex H H1 h h1){b:qP}{ob:Obj}(q:h.get? b=some ob)(n:H b=none)(hx:b∉ex):∃sl,h1.get? b=some {ob with slots:=sl}:=by
 by_cases hb:b∈fs
 ·exact u.slot b ob q n hb hx
 ·exact⟨ob.slots,u.keep b ob q n hb hx⟩
theorem Un.kept(k:∀b u,h.get? b=some u->h'.get? b=some u):Un fs ex H H h h':=
 ⟨λb ob q _ _ _=>k b ob q,λb ob q _ _ _=>⟨ob.slots,k b ob q⟩,λ_ _ _ n _=>n,λb ob q _=>⟨ob,k b ob q⟩,λ_ _ q=>q,λ_ _ _ q=>q,λ_ ps q=>⟨#[],by rw[q];simp⟩⟩
theorem Un.refl:Un fs ex H H h h:=Un.kept λ_ _ q=>q
theorem Un.laid(k:∀b u,h.get? b=some u->h'.get? b=some u)(hp:h.objs.size<=a)(hn:H a=none):Un fs ex H (Ak H a o) h h' where
 keep:=λb u q _ _ _=>k b u q
 slot:=λb u q _ _ _=>⟨u.slots,k b u q⟩
 free:=λb u q n _=>by rw[AJ (bp (bQ (bM q) hp))];exact n
 there:=λb u q _=>⟨u,k b u q⟩
 tups:=λb xs q=>by rw[AJ (As q hn)];exact q
 frzs:=λb u xs q=>by rw[AJ (As q hn)];exact q
 tbls:=λb ps q=>⟨#[],by rw[AJ (As q hn),q];simp⟩
theorem Un.write(mu:XR (H x))(he:e=x\/H e=some (.own x))(k:∀b u,b≠e->h.get? b=some u->h'.get? b=some u)(heo:∃u,h'.get? e=some u):Un fs ex H (Ak H x o) h h':=by
 have hx:∀b,H b=none->b≠x:=λb n z=>by subst z;rw[n]at mu;exact mu
 have hb:∀b,H b=none->b≠e:=λb n z=>by
  subst z;rcases he with r|r
  ·exact hx b n r
  ·rw[n]at r;cases r
 have hm:∀b u,H b=some u->¬XR (some u)->b≠x:=λb u q nm z=>by subst z;rw[q]at mu;exact nm mu
 refine⟨λb u q n _ _=>k b u (hb b n) q,λb u q n _ _=>⟨u.slots,k b u (hb b n) q⟩,λb u q n _=>by rw[AJ (hx b n)];exact n,λb u q _=>?_,
  λb xs q=>by rw[AJ (hm b _ q λz=>z)];exact q,λb u xs q=>by rw[AJ (hm b _ q λz=>z)];exact q,λb ps q=>⟨#[],by rw[AJ (hm b _ q λz=>z),q];simp⟩⟩
 by_cases hbe:b=e
 ·subst hbe;exact heo
 ·exact⟨u,k b u hbe q⟩
end
noncomputable def trk(h:Heap)(H:Hp):List qP:=(List.range h.objs.size).filter λa=>(H a).isSome
noncomputable def LL(h:Heap)(H:Hp):Heap:=PySem.W.hideAll h (trk h H)
theorem Pz(h:Heap)(H:Hp):(LL h H).objs.size=h.objs.size:=PySem.W.hideAll_size _ _
theorem Qz{h:Heap}{b:qP}{o:Obj}(e:h.get? b=some o)(n:H b=none):(LL h H).get? b=some o:=
 c5 _ e λhm=>by have q:(H b).isSome=true:=(bv.mp hm).2;rw[n]at q;simp at q
theorem TC{h:Heap}{b:qP}{o:Obj}(e:(LL h H).get? b=some o):h.get? b=some o/\H b=none:=by
 have e':h.get? b=some o:=PySem.W.of_hideAll (trk h H) e;refine⟨e',?_⟩;cases q:H b with
 |none=>rfl
 |some x =>
  have hm:b∈trk h H:=List.mem_filter.mpr ⟨List.mem_range.mpr (Heap.lt_size e'),by simp[q]⟩;have z:(LL h H).get? b=none:=PySem.W.hideAll_none (trk h H) hm;rw[z]at e;cases e
structure Zm(K:qT)(mg:Str->Option qO)(base:Heap):Prop where
 kin:K.In base
 glob:base.Ns mainGlobals mg
 blt:∃mb,base.Ns builtinsNs mb/\∀x:Str,x≠"__name__"->mb x=bootBuiltins x
 nolimit:base.NoLimit
structure Cx where
 prog:qR
 w:qS
 K:qT
 mg:Str->Option qO
 base:Heap
 A:Around
 N:List Str
 s₀:qQ
 H₀:Hp
 env:Env
 outer:List Env
 stack:List Env
 ex:List qP
 fn:Str->Bool
 calm:Bool
 pn:List (qP×Obj)
 xe:qO->qQ->Prop
def DZ(l:List Env):List qP:=l.filterMap (·.frame)
abbrev Cx.fs(X:Cx):List qP:=DZ X.outer
def Zn(sc:Scope)(x:Str):Prop:=sc.names.lookup x=some .local\/sc.names.lookup x=some .cell\/sc.names.lookup x=some .free
def UY(sc:Scope)(x:Str):Prop:=sc.names.lookup x=some .local\/sc.names.lookup x=some .cell
def XS(env:Env)(h:Heap)(m:Str->Option qO)(x:Str)(u:qO):Prop:=
 (env.kindOf x=some .local/\m x=some u)\/((env.kindOf x=some .cell\/env.kindOf x=some .free)/\∃c,env.cells.lookup x=some c/\h.IsCell c (some u))
structure Cx.Ok(X:Cx):Prop where
 mod:Zm X.K X.mg X.base
 kind:X.env.scope.kind=.function
 glob:X.env.globals=mainGlobals
 blt:X.env.builtins=builtinsNs
 above:X.s₀.heap.objs.size<=X.env.locals
 inj:∀x y c,X.env.cells.lookup x=some c->X.env.cells.lookup y=some c->x=y
 has:∀x,(X.env.kindOf x=some .cell\/X.env.kindOf x=some .free)->∃c,X.env.cells.lookup x=some c
 cab:∀x c,X.fn x=true->X.env.cells.lookup x=some c->X.s₀.heap.objs.size<=c
 hd:X.calm=true->X.A.handled=none
 frames:X.A.frames=some X.stack
 stk:X.stack=X.outer\/(X.stack=X.env::X.outer/\X.env.frame=some X.env.locals)
 exf:∀b∈X.ex,b≠X.env.locals/\∀x c,X.env.cells.lookup x=some c->c≠b
 bs:∀b o,X.base.get? b=some o->X.s₀.heap.get? b=some o/\X.H₀ b=none
 bsz:X.base.objs.size<=X.s₀.heap.objs.size
 noex:∀b o,X.base.get? b=some o->b∉X.ex
 exfs:∀b∈X.ex,b∉X.fs
 funs:X.s₀.heap.FunFrames X.base X.outer
 frf:∀b∈X.fs,X.H₀ b=none
structure Ab(X:Cx)(ad:List (qP×Obj))(σ:List (Option V))(H:Hp)(s:qQ):Prop where
 ok:X.Ok
 os:s.os=X.s₀.os
 bare:AllBare s.gens
 base:Un X.fs X.ex X.H₀ H X.s₀.heap s.heap
 loc:∃m,s.heap.Ns X.env.locals m/\∀(i:Nat) (x:Str) (v:V),X.N[i]?=some x->σ[i]?=some (some v)->Zn X.env.scope x->∃u,BN v u/\XS X.env s.heap m x u
 cell:∀x c,X.env.cells.lookup x=some c->∃v,s.heap.IsCell c v
 free:H X.env.locals=none
 freeC:∀x c,X.env.cells.lookup x=some c->H c=none
 pin:∀p∈X.pn++ad,s.heap.get? p.1=some p.2/\H p.1=none/\p.1≠X.env.locals/\p.1∉X.fs/\∀v,p.2.data≠.cell v
 hok:Gu X.prog X.w H s.heap
 len:σ.length=X.N.length
variable{x:Str}{ch:List qP}{t' i j:Nat}{it:qP}{s':qQ}
section
variable{X:Cx}{ad:List (qP×Obj)}{σ:List (Option V)}{H':Hp}{s:qQ}{h':Heap}
theorem Cx.Ok.nofr(ok:X.Ok){b:qP}{o:Obj}(e:X.base.get? b=some o):b∉X.fs:=λhb=>by have:=(ok.funs.mem hb).1;rw[e]at this;cases this
theorem Ab.bs(I:Ab X ad σ H s):∀b o,X.base.get? b=some o->s.heap.get? b=some o/\H b=none:=λb o e =>
 ⟨I.base.keep b o (I.ok.bs b o e).1 (I.ok.bs b o e).2 (I.ok.nofr e) (I.ok.noex b o e),I.base.free b o (I.ok.bs b o e).1 (I.ok.bs b o e).2 (I.ok.noex b o e)⟩
theorem Ab.bk(I:Ab X ad σ H s):∀b o,X.base.get? b=some o->s.heap.get? b=some o:=λb o e=>(I.bs b o e).1
theorem Ab.mod(I:Ab X ad σ H s):Zm X.K X.mg X.base:=I.ok.mod
theorem Ab.kIn(I:Ab X ad σ H s):X.K.In s.heap:=I.ok.mod.kin.keeps I.bk
theorem Ab.lt(I:Ab X ad σ H s):X.env.locals<s.heap.objs.size:=let ⟨_,hn,_⟩:=I.loc;hn.lt
theorem Ab.sz(I:Ab X ad σ H s):X.s₀.heap.objs.size<=s.heap.objs.size:=cF I.ok.above (dq I.lt)
theorem Ab.nofs(I:Ab X ad σ H s)(h:s.heap.objs.size<=a):a∉X.fs:=λhb=>by obtain⟨_,o,ho,_⟩:=I.ok.funs.mem hb;exact qE (bQ (bM ho) (cF I.sz h)) (bx _)
theorem Ab.cne(I:Ab X ad σ H s):∀x c,X.env.cells.lookup x=some c->c≠X.env.locals:=λx c e z=>by obtain⟨v,o,ho,hd⟩:=I.cell x c e;obtain⟨m,⟨o',es,ep,ho',hd',_⟩,_⟩:=I.loc;rw[z,ho']at ho;cases ho;rw[hd']at hd;cases hd
theorem Ab.funs(I:Ab X ad σ H s):s.heap.FunFrames X.base X.outer:=by
 have all:∀(l:List Env),(∀b∈DZ l,b∈X.fs)->X.s₀.heap.FunFrames X.base l->s.heap.FunFrames X.base l:=by
  intro l
  induction l with
  |nil=>intro _ _;trivial
  |cons env r ih =>
   intro hs hl;refine byG λGq hGq=>?_;obtain⟨hk,⟨L,o,hf,hn,ho,hd⟩,hr⟩:=hl;refine hGq ?_;clear hGq Gq;have hL:L∈X.fs:=hs L (by unfold DZ;rw[List.filterMap_cons,hf];exact List.mem_cons_self);obtain⟨sl,e⟩:=I.base.slot L o ho (I.ok.frf L hL) hL λz=>I.ok.exfs L z hL
   exact⟨hk,⟨L,_,hf,hn,e,hd⟩,ih (λb hb=>hs b (by unfold DZ;rw[List.filterMap_cons,hf];exact List.mem_cons_of_mem _ hb)) hr⟩
 exact all X.outer (λ_ hb=>hb) I.ok.funs
theorem Ab.stack(I:Ab X ad σ H s):s.heap.FunFrames X.base X.stack:=by
 rcases I.ok.stk with e|⟨e,hf⟩
 ·rw[e];exact I.funs
 ·rw[e];obtain⟨m,hn,_⟩:=I.loc;refine .cons (by rw[I.ok.kind];decide) hf hn ?_ I.funs;exact eU (cF I.ok.bsz I.ok.above)
theorem Ab.stkSub(I:Ab X ad σ H s):∀b∈DZ X.stack,b∈X.env.locals::X.fs:=λb hb=>by
 rcases I.ok.stk with e|⟨e,hf⟩
 ·rw[e]at hb;exact be _ hb
 ·rw[e]at hb;unfold DZ at hb;rw[List.filterMap_cons,hf]at hb;exact hb
theorem Ab.stkFree(I:Ab X ad σ H s):∀b∈DZ X.stack,H b=none:=λb hb=>by
 rcases bi.mp (I.stkSub b hb) with e|hb
 ·rw[e];exact I.free
 ·obtain⟨_,o,ho,_⟩:=I.ok.funs.mem hb;exact I.base.free b o ho (I.ok.frf b hb) λz=>I.ok.exfs b z hb
theorem Ab.step{g':Array GenState}{t':Nat}{d':Drawn}(I:Ab X ad σ H s)
  (hch:∀b∈ch,(b∈X.ex\/X.s₀.heap.objs.size<=b)/\b≠X.env.locals/\(∀x c,X.env.cells.lookup x=some c->c≠b)/\∀p∈X.pn++ad,p.1≠b)
  (keep:∀b o,b≠X.env.locals->b∉X.fs->b∉ch->s.heap.get? b=some o->H b=none->h'.get? b=some o)
  (slot:∀b o,b≠X.env.locals->b∈X.fs->b∉ch->s.heap.get? b=some o->H b=none->∃sl,h'.get? b=some {o with slots:=sl}) (free:∀b o,b∉ch->s.heap.get? b=some o->H b=none->H' b=none)
  (there:∀b o,b∉ch->s.heap.get? b=some o->∃o',h'.get? b=some o')
  (tups:∀b xs,H b=some (.tup xs)->H' b=some (.tup xs)) (frzs:∀b o u,H b=some (.frz o u)->H' b=some (.frz o u)) (tbls:∀b ps,H b=some (.tbl ps)->∃more,H' b=some (.tbl (ps++more)))
  (ns:∀m,s.heap.Ns X.env.locals m->h'.Ns X.env.locals m) (hok:Gu X.prog X.w H' h') (hg:AllBare g'):
  Ab X ad σ H' {s with heap:=h',gens:=g',drawn:=d',toks:=t'}:=by
 have neL:∀b o,X.s₀.heap.get? b=some o->b≠X.env.locals:=λb o e=>bp (bQ (bM e) I.ok.above)
 have neC:∀b o,X.s₀.heap.get? b=some o->b∉X.ex->b∉ch:=λb o e hx hb=>by
  rcases (hch b hb).1 with z|z
  ·exact hx z
  ·exact qE (bQ (bM e) z) (bx _)
 have cellK:∀x c,X.env.cells.lookup x=some c->∀v,s.heap.IsCell c v->h'.IsCell c v:=λx c e v ⟨o,ho,hd⟩=>by
  have nch:c∉ch:=λz=>(hch c z).2.2.1 x c e rfl
  by_cases hc:c∈X.fs
  ·obtain⟨sl,q⟩:=slot c o (I.cne x c e) hc nch ho (I.freeC x c e);exact⟨_,q,hd⟩
  ·exact⟨o,keep c o (I.cne x c e) hc nch ho (I.freeC x c e),hd⟩
 refine⟨I.ok,I.os,hg,⟨λb o e n hb hx=>?_,λb o e n hb hx=>?_,λb o e n hx=>?_,λb o e hx=>?_,λb xs e=>tups b xs (I.base.tups b xs e),λb o xs e=>frzs b o xs (I.base.frzs b o xs e),λb ps e=>?_⟩,?_,λx c e=>?_,?_,λx c e=>?_,λp hp=>?_,hok,I.len⟩
 ·exact keep b o (neL b o e) hb (neC b o e hx) (I.base.keep b o e n hb hx) (I.base.free b o e n hx)
 ·obtain⟨sl,e1⟩:=I.base.slot b o e n hb hx;obtain⟨sl',e2⟩:=slot b _ (neL b o e) hb (neC b o e hx) e1 (I.base.free b o e n hx);exact⟨sl',e2⟩
 ·obtain⟨o',e1⟩:=I.base.there b o e hx;exact free b o' (neC b o e hx) e1 (I.base.free b o e n hx)
 ·obtain⟨o',e1⟩:=I.base.there b o e hx;exact there b o' (neC b o e hx) e1
 ·obtain⟨m1,e1⟩:=I.base.tbls b ps e;obtain⟨m2,e2⟩:=tbls b _ e1;exact⟨m1++m2,by rw[e2,Array.append_assoc]⟩
 ·obtain⟨m,hn,hl⟩:=I.loc;refine⟨m,ns m hn,λi x v e1 e2 e3=>?_⟩;obtain⟨u,r,l⟩:=hl i x v e1 e2 e3;refine⟨u,r,?_⟩;rcases l with l|⟨k,c,e,z⟩
  ·exact .inl l
  ·exact .inr ⟨k,c,e,cellK x c e _ z⟩
 ·obtain⟨v,z⟩:=I.cell x c e;exact⟨v,cellK x c e v z⟩
 ·obtain⟨m,⟨o,_,_,ho,_⟩,_⟩:=I.loc;exact free _ o (λz=>(hch _ z).2.1 rfl) ho I.free
 ·obtain⟨v,o,ho,hd⟩:=I.cell x c e;exact free c o (λz=>(hch c z).2.2.1 x c e rfl) ho (I.freeC x c e)
 ·obtain⟨e,n,ne,nf,d⟩:=I.pin p hp;have nch:p.1∉ch:=λz=>(hch p.1 z).2.2.2 p hp rfl
  exact⟨keep p.1 p.2 ne nf nch e n,free p.1 p.2 nch e n,ne,nf,d⟩
theorem Ab.un(I:Ab X ad σ H s)(u:Un X.fs [] H H' s.heap h')(hok:Gu X.prog X.w H' h'):Ab X ad σ H' {s with heap:=h',toks:=t'}:=by
 obtain⟨m,⟨o,es,ep,ho,r⟩,_⟩:=id I.loc;obtain⟨sl,hL⟩:=u.any ho I.free (by simp)
 exact I.step (g':=s.gens) (d':=s.drawn) (ch:=[]) (λ_ z=>nomatch z) (λb o _ hb _ e n=>u.keep b o e n hb (by simp)) (λb o _ hb _ e n=>u.slot b o e n hb (by simp)) (λb o _ e n=>u.free b o e n (by simp)) (λb o _ e=>u.there b o e (by simp)) u.tups u.frzs u.tbls (λm' hm=>by obtain⟨o',es',ep',ho',r'⟩:=hm;rw[ho]at ho';cases ho';exact⟨_,es',ep',hL,r'⟩) hok I.bare
theorem Ab.call{g':Array GenState}{d':Drawn}(I:Ab X ad σ H s)(u:Un (DZ X.stack) ch H H' s.heap h')(hok:Gu X.prog X.w H' h')(hg:AllBare g')
  (hch:∀b∈ch,(b∈X.ex\/X.s₀.heap.objs.size<=b)/\b≠X.env.locals/\(∀x c,X.env.cells.lookup x=some c->c≠b)/\∀p∈X.pn++ad,p.1≠b):
  Ab X ad σ H' {s with heap:=h',gens:=g',drawn:=d',toks:=t'}:=by
 obtain⟨m,⟨o,es,ep,ho,r⟩,_⟩:=id I.loc;obtain⟨sl,hL⟩:=u.any ho I.free λz=>(hch _ z).2.1 rfl
 exact I.step (ch:=ch) hch (λb o hL hb hc e n=>u.keep b o e n (λz=>(bi.mp (I.stkSub b z)).elim hL hb) hc) (λb o _ _ hc e n=>u.any e n hc) (λb o hc e n=>u.free b o e n hc) (λb o hc e=>u.there b o e hc) u.tups u.frzs u.tbls (λm' hm=>by obtain⟨o',es',ep',ho',r'⟩:=hm;rw[ho]at ho';cases ho';exact⟨_,es',ep',hL,r'⟩) hok hg
theorem Ab.turned(I:Ab X ad σ H s)(k:∀b o,b≠it->s.heap.get? b=some o->h'.get? b=some o)(hn:H it=none)(hL:it≠X.env.locals)
  (h1:it∈X.ex\/X.s₀.heap.objs.size<=it) (h2:∀x c,X.env.cells.lookup x=some c->c≠it) (h3:∀p∈X.pn++ad,p.1≠it):Ab X ad σ H {s with heap:=h',toks:=t'}:=by
 have nit:∀b u,H b=some u->b≠it:=λb u e z=>by rw[z,hn]at e;cases e
 refine I.step (g':=s.gens) (d':=s.drawn) (ch:=[it]) (λb hb=>?_) (λb o _ _ hc e _=>k b o (λz=>hc (by simp[z])) e) (λb o _ _ hc e _=>⟨o.slots,k b o (λz=>hc (by simp[z])) e⟩) (λ_ _ _ _ n=>n)
  (λb o hc e=>⟨o,k b o (λz=>hc (by simp[z])) e⟩) (λ_ _ e=>e) (λ_ _ _ e=>e) (λb ps e=>⟨#[],by rw[e];simp⟩) (λm hm=>?_) (λb u e=>?_) I.bare
 ·have e:b=it:=by simpa using hb
  subst e;exact⟨h1,hL,h2,h3⟩
 ·obtain⟨o,es,ep,ho,r⟩:=hm;exact⟨o,es,ep,k _ o (Ne.symm hL) ho,r⟩
 ·refine (I.hok b u e).stay (λc v hc q=>k c v ?_ q) (λ_ q=>q) λ_ _ q=>q
  rcases hc with z|z
  ·rw[z];exact nit b u e
  ·exact nit c _ z
theorem Ab.tok(I:Ab X ad σ H s)(t:Nat):Ab X ad σ H {s with toks:=t}:=I.un (h':=s.heap) (t':=t) Un.refl I.hok
theorem Ab.kept(I:Ab X ad σ H s)(k:∀b u,s.heap.get? b=some u->h'.get? b=some u):Ab X ad σ H {s with heap:=h',toks:=t'}:=I.un (Un.kept k) (I.hok.kept k)
theorem Ab.laid(I:Ab X ad σ H s)(k:∀b u,s.heap.get? b=some u->h'.get? b=some u)(hp:s.heap.objs.size<=a)(new:A5 X.prog X.w (Ak H a o) h' a o):
  Ab X ad σ (Ak H a o) {s with heap:=h',toks:=t'}:=I.un (Un.laid k hp (I.hok.fresh hp)) (I.hok.laid k hp new)
theorem Ab.write{x e:qP}(I:Ab X ad σ H s)(mu:XR (H x))(he:e=x\/H e=some (.own x))(k:∀b u,b≠e->s.heap.get? b=some u->h'.get? b=some u)(heo:∃u,h'.get? e=some u)
  (new:A5 X.prog X.w (Ak H x o) h' x o):Ab X ad σ (Ak H x o) {s with heap:=h',toks:=t'}:=I.un (Un.write mu he k heo) (I.hok.write mu he k heo new)
theorem Ab.pins_of{pins':List (qP×Obj)}(I:Ab X ad σ H s)(h:∀p∈pins',s.heap.get? p.1=some p.2/\H p.1=none/\p.1≠X.env.locals/\p.1∉X.fs/\∀v,p.2.data≠.cell v):Ab X pins' σ H s:=
 ⟨I.ok,I.os,I.bare,I.base,I.loc,I.cell,I.free,I.freeC,λp hp=>(bJ.mp hp).elim (λz=>I.pin p (cX _ z)) (h p),I.hok,I.len⟩
theorem Ij{N:List Str}(hN:N.Nodup)(a:N[i]?=some x)(b:N[j]?=some x):i=j:=by obtain⟨h1,e1⟩:=bB.mp a;obtain⟨h2,e2⟩:=bB.mp b;exact (fY hN).mp (e1.trans e2.symm)
theorem Kc{M:Model}{A:Around}{E:qO->qQ->Prop}{v:V}{Q:Unit->qQ->Prop}(I:Ab X ad σ H s)(hN:X.N.Nodup)(hi:X.N[i]?=some x)(hx:UY X.env.scope x)(r:BN v u)
  (h:∀s',Ab X ad (σ.set i (some v)) H s'->(∃a,Heap.SameBut a s.heap s'.heap/\(a=X.env.locals\/X.env.cells.lookup x=some a))->Q () s') (hf:X.fn x=true\/X.env.scope.names.lookup x=some .local:=by first|exact .inl rfl|exact .inr rfl|assumption):wpAny M A (storeName X.env x u) Q E s:=by
 obtain⟨m,hn,hl⟩:=id I.loc;have hcls:(X.env.scope.kind==.class||(X.env.scope.kind==.module&&X.env.locals != X.env.globals))=false:=by rw[I.ok.kind];rfl
 have hiσ:i<σ.length:=by rw[I.len];exact (bB.mp hi).1
 have cne:=I.cne
 have tracked:∀{a:qP} {h':Heap},(∃o,s.heap.get? a=some o/\H a=none)->Heap.SameBut a s.heap h'->Gu X.prog X.w H h':=λ{a h'} ha hs b ob e=>by
  obtain⟨_,_,hfree⟩:=ha;refine (I.hok b ob e).stay (λc w' hc q=>(hs.2 c ?_).trans q) (λ_ q=>q) λ_ _ q=>q
  rintro rfl;rcases hc with rfl|hc
  ·rw[hfree]at e;cases e
  ·rw[hfree]at hc;cases hc
 rcases hx with hk|hk
 ·refine wpAny_storeName_local hk hn (λh' hn' hs=>?_) hcls;refine byG λGq hGq=>?_;obtain⟨oL,_,_,hoL,_⟩:=id hn;refine hGq ?_;clear hGq Gq;refine h _ ⟨I.ok,I.os,I.bare,⟨λb o e n hb hx=>?_,λb o e n hb hx=>?_,I.base.free,λb o e hx=>?_,I.base.tups,I.base.frzs,I.base.tbls⟩,⟨_,hn',λj y v' e1 e2 e3=>?_⟩,λy c e=>?_,I.free,I.freeC,λp hp=>?_,tracked ⟨oL,hoL,I.free⟩ hs,by simpa using I.len⟩ ⟨_,hs,.inl rfl⟩
  ·exact (hs.2 b (bp (bQ (bM e) I.ok.above))).trans (I.base.keep b o e n hb hx)
  ·obtain⟨sl,e1⟩:=I.base.slot b o e n hb hx;exact⟨sl,(hs.2 b (bp (bQ (bM e) I.ok.above))).trans e1⟩
  ·obtain⟨o',e1⟩:=I.base.there b o e hx;exact⟨o',(hs.2 b (bp (bQ (bM e) I.ok.above))).trans e1⟩
  ·by_cases hj:j=i
   ·subst hj;rw[hi]at e1;cases e1;rw[fN hiσ]at e2;cases e2;exact⟨u,r,.inl ⟨hk,by simp⟩⟩
   ·rw[fh (Ne.symm hj)]at e2;obtain⟨u',r',q⟩:=hl j y v' e1 e2 e3;refine⟨u',r',?_⟩;rcases q with⟨k,e⟩|⟨k,c,e,z⟩
    ·refine .inl ⟨k,?_⟩;have:y≠x:=λe=>hj (Ij hN e1 (e▸hi))
     simp[this,e]
    ·exact .inr ⟨k,c,e,z.sameBut hs (cne y c e)⟩
  ·obtain⟨w',z⟩:=I.cell y c e;exact⟨w',z.sameBut hs (cne y c e)⟩
  ·refine byG λGq hGq=>?_;obtain⟨e,n,ne,nf,d⟩:=I.pin p hp;refine hGq ?_;clear hGq Gq;exact⟨(hs.2 p.1 ne).trans e,n,ne,nf,d⟩
 ·have hfn:X.fn x=true:=by
   rcases hf with z|z
   ·exact z
   ·rw[z]at hk;cases hk
  obtain⟨c,hc⟩:=I.ok.has x (.inl hk);obtain⟨w',z⟩:=I.cell x c hc;refine wpAny_storeName_cell I.ok.kind hk hc z (λh' hc' hs=>?_);obtain⟨oc,hoc,hocd⟩:=id z;refine h {s with heap:=h'} ⟨I.ok,I.os,I.bare,⟨λb o e n hb hx=>?_,λb o e n hb hx=>?_,I.base.free,λb o e hx=>?_,I.base.tups,I.base.frzs,I.base.tbls⟩,⟨m,hn.sameBut hs (Ne.symm (cne x c hc)),λj y v' e1 e2 e3=>?_⟩,λy c' e=>?_,I.free,I.freeC,λp hp=>?_,tracked ⟨oc,hoc,I.freeC x c hc⟩ hs,by simpa using I.len⟩ ⟨c,hs,.inr hc⟩
  ·exact (hs.2 b (bp (bQ (bM e) (I.ok.cab x c hfn hc)))).trans (I.base.keep b o e n hb hx)
  ·obtain⟨sl,e1⟩:=I.base.slot b o e n hb hx;exact⟨sl,(hs.2 b (bp (bQ (bM e) (I.ok.cab x c hfn hc)))).trans e1⟩
  ·obtain⟨o',e1⟩:=I.base.there b o e hx;exact⟨o',(hs.2 b (bp (bQ (bM e) (I.ok.cab x c hfn hc)))).trans e1⟩
  ·by_cases hj:j=i
   ·subst hj;rw[hi]at e1;cases e1;rw[fN hiσ]at e2;cases e2;exact⟨u,r,.inr ⟨.inl hk,c,hc,hc'⟩⟩
   ·rw[fh (Ne.symm hj)]at e2;obtain⟨u',r',q⟩:=hl j y v' e1 e2 e3;refine⟨u',r',?_⟩;rcases q with q|⟨k,c',e,z'⟩
    ·exact .inl q
    ·refine .inr ⟨k,c',e,z'.sameBut hs ?_⟩;rintro rfl;exact hj (Ij hN e1 (I.ok.inj _ _ _ e hc▸hi))
  ·by_cases hcc:c'=c
   ·subst hcc;exact⟨_,hc'⟩
   ·obtain⟨w2,z2⟩:=I.cell y c' e;exact⟨w2,z2.sameBut hs hcc⟩
  ·refine byG λGq hGq=>?_;obtain⟨e,n,ne,nf,d⟩:=I.pin p hp;refine hGq ?_;clear hGq Gq;refine⟨(hs.2 p.1 ?_).trans e,n,ne,nf,d⟩;intro q;rw[q,hoc]at e;have q':oc=p.2:=Option.some.inj e;exact d w' (by rw[<-q'];exact hocd)
theorem MH{M:Model}{A:Around}{E:qO->qQ->Prop}{v:V}{Q:Unit->qQ->Prop}(I:Ab X ad σ H s)(hN:X.N.Nodup)(hi:X.N[i]?=some x)(hx:UY X.env.scope x)(r:BN v u)
  (h:∀s',Ab X ad (σ.set i (some v)) H s'->Q () s') (hf:X.fn x=true\/X.env.scope.names.lookup x=some .local:=by first|exact .inl rfl|exact .inr rfl|assumption):wpAny M A (storeName X.env x u) Q E s:=
 Kc I hN hi hx r (λs' I' _=>h s' I') hf
theorem Ab.call'(I:Ab X ad σ H s)(ho:s'.os=s.os)(u:Un (DZ X.stack) ch H H' s.heap s'.heap)(hok:Gu X.prog X.w H' s'.heap)(hg:AllBare s'.gens)
  (hch:∀b∈ch,(b∈X.ex\/X.s₀.heap.objs.size<=b)/\b≠X.env.locals/\(∀x c,X.env.cells.lookup x=some c->c≠b)/\∀p∈X.pn++ad,p.1≠b):Ab X ad σ H' s':=by
 obtain⟨h',g',d',t',o'⟩:=s';have e:o'=s.os:=ho;subst e;exact I.call (g':=g') (t':=t') (d':=d') u hok hg hch
end
abbrev XK:=qO->Option qP->Hp->Prop
abbrev St:=List (Option V)
abbrev VK:=V->Hp->Prop
abbrev TE:=St->Hp->VK->Prop
abbrev TT:=St->Hp->(Bool->Hp->Prop)->Prop
abbrev TA:=St->Hp->(List V->Hp->Prop)->Prop
structure Gw where
 nx:St->Hp->Prop
 rt:VK
 bk:St->Hp->Prop:=λ_ _=>False
 ct:St->Hp->Prop:=λ_ _=>False
abbrev TS:=Gw->St->Hp->Prop
def EP(X:Cx)(ad:List (qP×Obj))(σ:St)(Q:VK)(u:qO)(s':qQ):Prop:=∃v H',Ab X ad σ H' s'/\BN v u/\Q v H'
def TP(X:Cx)(ad:List (qP×Obj))(σ:St)(Q:Bool->Hp->Prop)(b:Bool)(s':qQ):Prop:=∃H',Ab X ad σ H' s'/\Q b H'
def AP(X:Cx)(ad:List (qP×Obj))(σ:St)(Q:List V->Hp->Prop)(us:List qO)(s':qQ):Prop:=∃vs H',Ab X ad σ H' s'/\Av vs us/\Q vs H'
def SP(X:Cx)(ad:List (qP×Obj))(D:Gw)(f:Flow)(s':qQ):Prop:=
 match f with
 |.next=>∃σ' H',Ab X ad σ' H' s'/\D.nx σ' H'
 |.brk=>∃σ' H',Ab X ad σ' H' s'/\D.bk σ' H'
 |.cont=>∃σ' H',Ab X ad σ' H' s'/\D.ct σ' H'
 |.ret u=>∃v σ' H',Ab X ad σ' H' s'/\BN v u/\D.rt v H'
def PE(X:Cx)(e:Expr)(t:TE):Prop:=
 ∀(ad:List (qP×Obj)) (s:qQ) (σ:St) (H:Hp) (Q:VK),Ab X ad σ H s->t σ H Q->wpAny (model X.prog X.w) X.A (eval e X.env) (EP X ad σ Q) X.xe s
def PT(X:Cx)(e:Expr)(t:TT):Prop:=
 ∀(ad:List (qP×Obj)) (s:qQ) (σ:St) (H:Hp) (Q:Bool->Hp->Prop),Ab X ad σ H s->t σ H Q->wpAny (model X.prog X.w) X.A (isTrue e X.env (eval e X.env)) (TP X ad σ Q) X.xe s
def PW(X:Cx)(e:Expr)(t:TT):Prop:=
 ∀(whole:Sem qO) (ad:List (qP×Obj)) (s:qQ) (σ:St) (H:Hp) (Q:Bool->Hp->Prop),Ab X ad σ H s->t σ H Q->wpAny (model X.prog X.w) X.A (isTrue e X.env whole) (TP X ad σ Q) X.xe s
variable{X:Cx}
theorem PW.pt{e:Expr}{t:TT}(h:PW X e t):PT X e t:=h _
def PA(X:Cx)(es:List Expr)(t:TA):Prop:=
 ∀(pos:Pos) (ad:List (qP×Obj)) (s:qQ) (σ:St) (H:Hp) (Q:List V->Hp->Prop),Ab X ad σ H s->t σ H Q->wpAny (model X.prog X.w) X.A (spliced (backTo pos (starEach es X.env))) (AP X ad σ Q) X.xe s
def PS(X:Cx)(st:Stmt)(t:TS):Prop:=
 ∀(ad:List (qP×Obj)) (s:qQ) (σ:St) (H:Hp) (D:Gw),Ab X ad σ H s->t D σ H->wpAny (model X.prog X.w) X.A (exec st X.env) (SP X ad D) X.xe s
def Hj(X:Cx)(st:List Stmt)(t:TS):Prop:=
 ∀(ad:List (qP×Obj)) (s:qQ) (σ:St) (H:Hp) (D:Gw),Ab X ad σ H s->t D σ H->wpAny (model X.prog X.w) X.A (execs st X.env) (SP X ad D) X.xe s
variable{E:qO->qQ->Prop}{s:qQ}
theorem BU{t:Sem α}{Q Q':α->qQ->Prop}{M:Model}{A:Around}(h:wpAny M A t Q E s)(hQ:∀a s,Q a s->Q' a s):wpAny M A t Q' E s:=qK h hQ λ_ _ x=>x
variable{Q:qO->qQ->Prop}{ad:List (qP×Obj)}{σ:St}{op:CmpOp}
section
def VL(i:Nat):TE:=λσ H Q=>∃v,σ[i]?=some (some v)/\Q v H
def tC(v:V):TE:=λ_ H Q=>Q v H
theorem VM{pos:Pos}(hN:X.N[i]?=some x)(hv:Zn X.env.scope x)(hd:(x==("__debug__":Str))=false:=by decide)(hcd:(x==("__classdict__":Str))=false:=by decide):PE X (.Name x pos) (VL i):=by
 intro ad s σ H Q I h;obtain⟨v,e,h⟩:=h;obtain⟨m,hn,hl⟩:=I.loc;obtain⟨u,r,l⟩:=hl i x v hN e hv;have fin:EP X ad σ Q u s:=⟨v,H,I,r,h⟩;rcases l with⟨hk,hm⟩|⟨hk,c,hc,hcell⟩
 ·exact wpAny_Name (wpAny_loadName_local I.ok.kind hk hn hm fin) hd
 ·rcases hk with hk|hk
  ·exact wpAny_Name (wpAny_loadName_cell I.ok.kind hk hc hcell fin) hd
  ·exact wpAny_Name (wpAny_loadName_free I.ok.kind hk hc hcell fin hcd) hd
theorem AF{i j pos}:PE X (.Constant (.int i) j pos) (tC (.int i)):=λ_ _ _ H _ I h=>wpAny_Constant_int ⟨.int i,H,I.tok _,⟨_,rfl⟩,h⟩
theorem Ee{b j pos}:PE X (.Constant (.bool b) j pos) (tC (.bl b)):=λ_ _ _ H _ I h=>Constant_bool ⟨.bl b,H,I,rfl,h⟩
theorem Gx{j pos}:PE X (.Constant .none j pos) (tC .non):=λ_ _ _ H _ I h=>Constant_none ⟨.non,H,I,rfl,h⟩
theorem Bq{x j pos}:PE X (.Constant (.str x) j pos) (tC (.str x)):=λ_ _ _ H _ I h=>Calls.Constant_str ⟨.str x,H,I.tok _,⟨_,rfl⟩,h⟩
def Gl(X:Cx)(x:Str):Prop:=X.env.kindOf x=some .globalImplicit
theorem GA{E:qO->qQ->Prop}{pos:Pos}(I:Ab X ad σ H s)(hg:Gl X x)(hm:X.mg x=some u)(h:Q u s)
  (hd:(x==("__debug__":Str))=false:=by decide):wpAny (model X.prog X.w) X.A (eval (.Name x pos) X.env) Q E s:=
 Calls.Name_function_global I.ok.kind hg (Calls.loadGlobal_global (by rw[I.ok.glob];exact I.mod.glob.keeps I.bk) hm h) hd
theorem DP{E:qO->qQ->Prop}{pos:Pos}(I:Ab X ad σ H s)(hg:Gl X x)(hm:X.mg x=none)(hv:bootBuiltins x=some u)(h:Q u s)
  (hn:x≠"__name__":=by decide) (hd:(x==("__debug__":Str))=false:=by decide):wpAny (model X.prog X.w) X.A (eval (.Name x pos) X.env) Q E s:=by
 obtain⟨mb,h1,h2⟩:=I.mod.blt;exact Calls.Name_function_global I.ok.kind hg (Calls.loadGlobal_builtin (by rw[I.ok.glob];exact I.mod.glob.keeps I.bk) hm (by rw[I.ok.blt];exact h1.keeps I.bk) ((h2 x hn).trans hv) h) hd
theorem On{v:V}{pos:Pos}(hg:Gl X x)(hm:X.mg x=some u)(r:BN v u)(hd:(x==("__debug__":Str))=false:=by decide):PE X (.Name x pos) (tC v):=
 λ_ _ _ H _ I h=>GA I hg hm ⟨v,H,I,r,h⟩ hd
theorem TD{v:V}{pos:Pos}(hg:Gl X x)(hm:X.mg x=none)(hv:bootBuiltins x=some u)(r:BN v u)(hn:x≠"__name__":=by decide)(hd:(x==("__debug__":Str))=false:=by decide):PE X (.Name x pos) (tC v):=
 λ_ _ _ H _ I h=>DP I hg hm hv ⟨v,H,I,r,h⟩ hn hd
variable{a b:Expr}{ta tb:TE}{pos:Pos}
def PC(X:Cx)(op:CmpOp)(a b:Expr)(t:TE):Prop:=
 ∀(ad:List (qP×Obj)) (s:qQ) (σ:St) (H:Hp) (Q:VK),Ab X ad σ H s->t σ H Q ->
  wpAny (model X.prog X.w) X.A (eval a X.env) (λv s₁=>wpAny (model X.prog X.w) X.A (eval b X.env) (λu s₂=>wpAny (model X.prog X.w) X.A (compareOp op v u) (EP X ad σ Q) X.xe s₂) X.xe s₁) X.xe s
def tB(t:TE):TT:=λσ H Q=>t σ H λx H1=>∃c,x=.bl c/\Q c H1
theorem VN{t:TE}(h:PC X op a b t)(h1:behindInMarks op b=false:=by first|exact nobehind _ (by decide) (by decide)|rfl):PE X (.Compare a [op] [b] pos) t:=λad s σ H Q I hw=>wpAny_Compare1 (h ad s σ H Q I hw) h1
theorem VO{t:TE}(h:PC X op a b t)(h1:behindInMarks op b=false:=by first|exact nobehind _ (by decide) (by decide)|rfl):PT X (.Compare a [op] [b] pos) (tB t):=by intro ad s σ H Q I hw;refine wpAny_isTrue_Compare1 (BU (h ad s σ H _ I hw) λv s1 h1=>BU h1 λu s2 h2=>BU h2 λc s3 z9=>?_) h1;obtain⟨x,H1,I1,r1,q1⟩:=z9;obtain⟨d,rfl,q⟩:=q1;cases r1;exact wpAny_truthy_bool ⟨H1,I1,q⟩
theorem Cv{e:Expr}{t:TE}(h:PE X e t)(he:∀whole,isTrue e X.env whole=(do let v <-whole;standAt e.pos;holding [v] (truthy v)):=by intro _;rfl):PT X e (tB t):=by intro ad s σ H Q I hw;refine isTrue_plain (BU (h ad s σ H _ I hw) λv s1 z9=>?_) (he _);obtain⟨x,H1,I1,r1,q1⟩:=z9;obtain⟨d,rfl,q⟩:=q1;cases r1;exact wpAny_truthy_bool ⟨H1,I1,q⟩
variable{tA tB':TT}{rest:List Expr}
def XT(t u:TT):TT:=λσ H Q=>t σ H λc H1=>if c=true then u σ H1 Q else Q false H1
def ak(t u:TT):TT:=λσ H Q=>t σ H λc H1=>if c=true then Q true H1 else u σ H1 Q
def XU(t:TT):TT:=λσ H Q=>t σ H λc H1=>Q (!c) H1
theorem D9(ha:PT X a tA):PW X (.BoolOp .And [a] pos) tA:=by
 intro wh ad s σ H Q I h;refine isTrue_and (BU (ha ad s σ H Q I h) λc s1 e=>?_);cases c with
 |true=>exact isTrue_and_nil e
 |false=>exact e
theorem Di(ha:PT X a tA):PW X (.BoolOp .Or [a] pos) tA:=by
 intro wh ad s σ H Q I h;refine isTrue_or (BU (ha ad s σ H Q I h) λc s1 e=>?_);cases c with
 |false=>exact isTrue_or_nil e
 |true=>exact e
theorem Ej(ha:PT X a tA)(hb:PW X (.BoolOp .And (b::rest) pos) tB'):PW X (.BoolOp .And (a::b::rest) pos) (XT tA tB'):=by
 intro wh ad s σ H Q I h;refine isTrue_and (BU (ha ad s σ H _ I h) λc s1 z9=>?_);obtain⟨H1,I1,q1⟩:=z9;cases c with
 |true=>exact hb wh ad s1 σ H1 Q I1 q1
 |false=>exact⟨H1,I1,q1⟩
theorem Dd(ha:PT X a tA)(hb:PW X (.BoolOp .Or (b::rest) pos) tB'):PW X (.BoolOp .Or (a::b::rest) pos) (ak tA tB'):=by
 intro wh ad s σ H Q I h;refine isTrue_or (BU (ha ad s σ H _ I h) λc s1 z9=>?_);obtain⟨H1,I1,q1⟩:=z9;cases c with
 |true=>exact⟨H1,I1,q1⟩
 |false=>exact hb wh ad s1 σ H1 Q I1 q1
theorem EA(ha:PT X a tA):PT X (.UnaryOp .Not a pos) (XU tA):=by intro ad s σ H Q I h;exact isTrue_not (ha ad s σ H (λc H1=>Q (!c) H1) I h)
def UZ(ta tb:TE):TE:=λσ H Q=>ta σ H λx H1=>∃c,x=.bl c/\if c=true then tb σ H1 Q else Q (.bl false) H1
def XV(ta tb:TE):TE:=λσ H Q=>ta σ H λx H1=>∃c,x=.bl c/\if c=true then Q (.bl true) H1 else tb σ H1 Q
def Ua(ta:TE):TE:=λσ H Q=>ta σ H λx H1=>∃c,x=.bl c/\Q (.bl (!c)) H1
theorem Ik{op}{t:TE}(h:PE X a t):PE X (.BoolOp op [a] pos) t:=λad s σ H Q I hw=>BoolOp_one (h ad s σ H Q I hw)
theorem Il(ha:PE X a ta)(hb:PE X (.BoolOp .And (b::rest) pos) tb):PE X (.BoolOp .And (a::b::rest) pos) (UZ ta tb):=by
 intro ad s σ H Q I h;refine BoolOp_and (BU (ha ad s σ H _ I h) λv s1 z9=>?_);obtain⟨x,H1,I1,r1,q1⟩:=z9;obtain⟨c,rfl,q1⟩:=q1;cases r1;refine wpAny_truthy_bool ?_;cases c with
 |true=>exact hb ad s1 σ H1 Q I1 q1
 |false=>exact⟨.bl false,H1,I1,rfl,q1⟩
theorem XW(ha:PE X a ta)(hb:PE X (.BoolOp .Or (b::rest) pos) tb):PE X (.BoolOp .Or (a::b::rest) pos) (XV ta tb):=by
 intro ad s σ H Q I h;refine BoolOp_or (BU (ha ad s σ H _ I h) λv s1 z9=>?_);obtain⟨x,H1,I1,r1,q1⟩:=z9;obtain⟨c,rfl,q1⟩:=q1;cases r1;refine wpAny_truthy_bool ?_;cases c with
 |false=>exact hb ad s1 σ H1 Q I1 q1
 |true=>exact⟨.bl true,H1,I1,rfl,q1⟩
theorem Q0(ha:PE X a ta):PE X (.UnaryOp .Not a pos) (Ua ta):=by intro ad s σ H Q I h;refine UnaryOp_ (BU (ha ad s σ H _ I h) λv s1 z9=>?_);obtain⟨x,H1,I1,r1,q1⟩:=z9;obtain⟨c,rfl,q1⟩:=q1;cases r1;exact not_of (wpAny_truthy_bool ⟨.bl (!c),H1,I1,rfl,q1⟩)
end
def Ai(K:qT)(H:Hp)(a:qP)(xs:List V):Prop:=
 Rd H a (.lst xs) \/
  ∃(o:Obj) (its:Array qO) (n:Nat),K.lookup a=some o/\o.cls=.type "list"/\o.dict=none/\o.data=.seq its n/\its.size<=sizeLine/\Av xs its.toList
def Am(K:qT)(H:Hp)(a:qP)(xs:List V):Prop:=
 Rd H a (.tup xs) \/
  ∃(o:Obj) (its:Array qO) (n:Nat),K.lookup a=some o/\o.cls=.type "tuple"/\o.data=.seq its n/\its.size<=sizeLine/\Av xs its.toList
noncomputable def VP:qO->Option V
 |.none=>some .non
 |.bool b=>some (.bl b)
 |.int i _=>some (.int i)
 |.str x _=>some (.str x)
 |.bytes b _=>some (.byt b)
 |.float b _=>some (.flt b)
 |.ref a=>some (.ref a)
 |.type n=>some (.ty n)
 |_=>none
theorem BN.abs{x:V}(r:BN x u):VP u=some x:=by
 cases x with
 |non=>cases r;rfl
 |bl _=>cases r;rfl
 |int _=>obtain⟨t,rfl⟩:=r;rfl
 |str _=>obtain⟨t,rfl⟩:=r;rfl
 |byt _=>obtain⟨t,rfl⟩:=r;rfl
 |flt _=>obtain⟨t,rfl⟩:=r;rfl
 |ref _=>cases r;rfl
 |ty _=>cases r;rfl
theorem BN.inj{x y:V}(r:BN x u)(q:BN y u):x=y:=Option.some.inj (r.abs.symm.trans q.abs)
theorem Av.inj:∀{xs ys:List V} {us:List qO},Av xs us->Av ys us->xs=ys:=by
 intro _ ys _ h
 induction h generalizing ys with
 |nil=>intro g;cases g;rfl
 |cons r _ ih =>
  intro g;cases g with
  |cons r' t'=>rw[r.inj r',ih t']
section
variable{ys:List V}
theorem Ai.of{K:qT}(h:H a=some (.lst xs)):Ai K H a xs:=.inl (.inl h)
theorem Am.of{K:qT}(h:H a=some (.tup xs)):Am K H a xs:=.inl (.inl h)
theorem Ab.list(I:Ab X ad σ H s)(h:Ai X.K H a xs):∃its:List qO,Av xs its/\PlainL s.heap a its.toArray/\xs.length<=sizeLine:=by
 rcases h with h|⟨o,its,n,hk,hc,hd,hs,hz,r⟩
 ·obtain⟨z,its,n,r,e⟩:=h.ok I.hok;exact⟨its,r,⟨_,n,e,rfl,rfl,rfl⟩,z⟩
 ·refine⟨its.toList,r,⟨o,n,I.kIn a o hk,hc,hd,by simpa using hs⟩,?_⟩;have e:=r.length;simp only[Array.length_toList]at e;lia
theorem Ab.tuple(I:Ab X ad σ H s)(h:Am X.K H a xs):∃its:List qO,Av xs its/\IsTup s.heap a its.toArray/\xs.length<=sizeLine:=by
 rcases h with h|⟨o,its,n,hk,hc,hs,hz,r⟩
 ·obtain⟨z,its,r,p⟩:=h.ok I.hok;exact⟨its,r,p,z⟩
 ·refine⟨its.toList,r,⟨o,I.kIn a o hk,hc,n,by simpa using hs⟩,?_⟩;have e:=r.length;simp only[Array.length_toList]at e;lia
theorem Ab.list_inj(I:Ab X ad σ H s)(h:Ai X.K H a xs)(h':Ai X.K H a ys):xs=ys:=by
 obtain⟨its,r,⟨o,n,e,_,_,d⟩,_⟩:=I.list h;obtain⟨its',r',⟨o',n',e',_,_,d'⟩,_⟩:=I.list h';rw[e]at e';cases e';rw[d]at d'
 injection d' with d1 _
 have:its=its':=by simpa using qN Array.toList d1
 subst this;exact r.inj r'
theorem Ab.tuple_inj(I:Ab X ad σ H s)(h:Am X.K H a xs)(h':Am X.K H a ys):xs=ys:=by
 obtain⟨its,r,⟨o,e,_,n,d⟩,_⟩:=I.tuple h;obtain⟨its',r',⟨o',e',_,n',d'⟩,_⟩:=I.tuple h';rw[e]at e';cases e';rw[d]at d'
 injection d' with d1 _
 have:its=its':=by simpa using qN Array.toList d1
 subst this;exact r.inj r'
end
abbrev Cx.wish(X:Cx)(E:qO->qQ->Prop):Cx:={X with xe:=E}
abbrev Cx.nox(X:Cx):Cx:=X.wish λ_ _=>False
theorem Cx.Ok.wish(ok:X.Ok)(E:qO->qQ->Prop):(X.wish E).Ok:=
 ⟨ok.mod,ok.kind,ok.glob,ok.blt,ok.above,ok.inj,ok.has,ok.cab,ok.hd,ok.frames,ok.stk,ok.exf,ok.bs,ok.bsz,ok.noex,ok.exfs,ok.funs,ok.frf⟩
theorem Cx.Ok.unwish(ok:(X.wish E).Ok):X.Ok:=
 ⟨ok.mod,ok.kind,ok.glob,ok.blt,ok.above,ok.inj,ok.has,ok.cab,ok.hd,ok.frames,ok.stk,ok.exf,ok.bs,ok.bsz,ok.noex,ok.exfs,ok.funs,ok.frf⟩
variable{t:TS}{D:Gw}
theorem Ab.wish(I:Ab X ad σ H s)(E:qO->qQ->Prop):Ab (X.wish E) ad σ H s:=⟨I.ok.wish E,I.os,I.bare,I.base,I.loc,I.cell,I.free,I.freeC,I.pin,I.hok,I.len⟩
theorem Ab.unwish(I:Ab (X.wish E) ad σ H s):Ab X ad σ H s:=⟨I.ok.unwish,I.os,I.bare,I.base,I.loc,I.cell,I.free,I.freeC,I.pin,I.hok,I.len⟩
theorem SP.unwish{f:Flow}(h:SP (X.wish E) ad D f s'):SP X ad D f s':=by
 cases f with
 |next=>obtain⟨σ',H',I,q⟩:=h;exact⟨σ',H',I.unwish,q⟩
 |brk=>obtain⟨σ',H',I,q⟩:=h;exact⟨σ',H',I.unwish,q⟩
 |cont=>obtain⟨σ',H',I,q⟩:=h;exact⟨σ',H',I.unwish,q⟩
 |ret u=>obtain⟨v,σ',H',I,r,q⟩:=h;exact⟨v,σ',H',I.unwish,r,q⟩
theorem Hj.nox{st:List Stmt}(h:Hj X.nox st t):Hj X st t:=λad s σ H D I hw =>
 qK (h ad s σ H D (I.wish _) hw) (λ_ _ q=>q.unwish) λ_ _ z=>False.elim z
variable{tc:TT}
section
variable{st:Stmt}{rest:List Stmt}{u:TS}{e:Expr}{te:TE}{pos:Pos}
def Q3:TS:=λD σ H=>D.nx σ H
def P0(t u:TS):TS:=λD σ H=>t {D with nx:=u D} σ H
theorem Af:Hj X [] Q3:=λ_ _ σ H _ I h=>wpAny_execs_nil ⟨σ,H,I,h⟩
theorem AC(h1:PS X st t)(h2:Hj X rest u):Hj X (st::rest) (P0 t u):=by
 intro ad s σ H D I h;refine wpAny_execs_cons (BU (h1 ad s σ H {D with nx:=u D} I h) λf s1 q=>?_);cases f with
 |next =>
  refine byG λGq hGq=>?_;obtain⟨σ',H',I',q⟩:=q;refine hGq ?_;clear hGq Gq;exact h2 ad s1 σ' H' D I' q
 |ret v=>exact q
 |brk=>exact q
 |cont=>exact q
theorem AE(h1:PS X st t):Hj X [st] t:=by
 intro ad s σ H D I h;refine wpAny_execs_cons (BU (h1 ad s σ H D I h) λf s1 q=>?_);cases f with
 |next=>exact wpAny_execs_nil q
 |ret v=>exact q
 |brk=>exact q
 |cont=>exact q
theorem Ab.quiet(I:Ab X ad σ H s):interactive X.env=false:=by simp[interactive,I.ok.kind]
def Ub(te:TE):TS:=λD σ H=>te σ H λ_ H1=>D.nx σ H1
theorem Ay(he:PE X e te)(hs:swapsWith e none pos.line X.env=pure false:=by rfl):PS X (.Expr e pos) (Ub te):=by intro ad s σ H D I h;exact wpAny_Expr_any (BU (he ad s σ H _ I h) λv s1 ⟨x,H1,I1,r1,q1⟩=>⟨σ,H1,I1,q1⟩) I.quiet hs
def XX(te:TE):TS:=λD σ H=>te σ H D.rt
theorem AM(he:PE X e te):PS X (.Return (some e) pos) (XX te):=by intro ad s σ H D I h;exact wpAny_Return_some (BU (he ad s σ H _ I h) λv s1 ⟨x,H1,I1,r1,q1⟩=>⟨x,σ,H1,I1,r1,q1⟩)
def VQ(c:TT)(t u:TS):TS:=λD σ H=>c σ H λb H1=>if b=true then t D σ H1 else u D σ H1
theorem A6{c:Expr}{a b:List Stmt}(hc:PT X c tc)(ha:Hj X a t)(hb:Hj X b u):PS X (.If c a b pos) (VQ tc t u):=by
 intro ad s σ H D I h;refine wpAny_If (BU (hc ad s σ H _ I h) λd s1 z9=>?_);obtain⟨H1,I1,q1⟩:=z9;cases d with
 |true=>exact ha ad s1 σ H1 D I1 q1
 |false=>exact hb ad s1 σ H1 D I1 q1
end
abbrev TG:=V->St->Hp->(St->Hp->Prop)->Prop
abbrev VR:=List V->St->Hp->(St->Hp->Prop)->Prop
def PG(X:Cx)(target:Expr)(t:TG):Prop:=
 ∀(ad:List (qP×Obj)) (s:qQ) (σ:St) (H:Hp) (v:V) (u:qO) (Q:St->Hp->Prop),Ab X ad σ H s->BN v u->t v σ H Q ->
  wpAny (model X.prog X.w) X.A (assign target X.env u) (λ_ s'=>∃σ' H',Ab X ad σ' H' s'/\Q σ' H') X.xe s
def Zo(X:Cx)(ts:List Expr)(t:VR):Prop:=
 ∀(ad:List (qP×Obj)) (s:qQ) (σ:St) (H:Hp) (vs:List V) (us:List qO) (Q:St->Hp->Prop),Ab X ad σ H s->Av vs us->t vs σ H Q ->
  wpAny (model X.prog X.w) X.A (assignInOrder ((assignEach ts X.env).map (·.2)) us) (λ_ s'=>∃σ' H',Ab X ad σ' H' s'/\Q σ' H') X.xe s
abbrev VS:=V->V->V->Hp->(Hp->Prop)->Prop
def XY(X:Cx)(t:VS):Prop:=
 ∀(ad:List (qP×Obj)) (s:qQ) (σ:St) (H:Hp) (o i v:V) (ov iv u:qO) (Q:Hp->Prop),Ab X ad σ H s->BN o ov->BN i iv->BN v u->t o i v H Q ->
  wpAny (model X.prog X.w) X.A (setItem ov iv u) (λ_ s'=>∃H',Ab X ad σ H' s'/\Q H') X.xe s
variable{es:List Expr}{to te:TE}{tg:Expr}
section
variable{pos:Pos}
def GB(i:Nat):TG:=λv σ H Q=>Q (σ.set i (some v)) H
theorem IL(hN:X.N.Nodup)(hi:X.N[i]?=some x)(hx:UY X.env.scope x)(hf:X.fn x=true\/X.env.scope.names.lookup x=some .local:=by first|exact .inl rfl|exact .inr rfl|assumption):PG X (.Name x pos) (GB i):=by intro ad s σ H v u Q I r h;exact wpAny_assign_Name (MH I hN hi hx r (λs' I'=>⟨_,H,I',h⟩) hf)
def Zw:VR:=λvs σ H Q=>vs=[]/\Q σ H
def XZ(t:TG)(u:VR):VR:=λvs σ H Q=>∃v r,vs=v::r/\t v σ H λσ' H'=>u r σ' H' Q
theorem EB:Zo X [] Zw:=by intro ad s σ H vs us Q I r h;obtain⟨e,h⟩:=h;subst e;cases r;exact assignInOrder_nil ⟨σ,H,I,h⟩
theorem Bd{e:Expr}{t:TG}{u:VR}(h1:PG X e t)(h2:Zo X es u)
  (hs:(assignEach (e::es) X.env).map (·.2)=assign e X.env::(assignEach es X.env).map (·.2):=by rfl):Zo X (e::es) (XZ t u):=by
 intro ad s σ H vs us Q I r h;obtain⟨v,vr,e1,h⟩:=h;subst e1;cases r with
 |cons r rr =>
  rw[hs];refine assignInOrder_cons (BU (h1 ad s σ H _ _ _ I r h) λ_ s1 z9=>?_);obtain⟨σ1,H1,I1,q1⟩:=z9;exact h2 ad s1 σ1 H1 _ _ Q I1 rr q1
def Zx(K:qT)(n:Nat)(t:VR):TG:=λv σ H Q=>∃a xs,v=.ref a/\Am K H a xs/\xs.length=n/\t xs σ H Q
theorem Fo{k:Nat}{t:VR}{n:Nat}(hc:X.calm=true)(h:Zo X es t)
  (hn:(assignEach es X.env).length=n:=by rfl) (hst:(assignEach es X.env).findIdx? (·.1)=none:=by rfl):PG X (.Tuple es k pos) (Zx X.K n t):=by
 intro ad s σ H v u Q I r hw;refine byG λGq hGq=>?_;obtain⟨a,xs,e1,hq,hl,hw⟩:=hw;refine hGq ?_;clear hGq Gq;subst e1;cases r;refine byG λGq hGq=>?_;obtain⟨its,rv,ht,hz⟩:=I.tuple hq;refine hGq ?_;clear hGq Gq;refine assign_Tuple_tuple (I.ok.hd hc) ht (by simp[hn,<-hl,rv.length]) hst λh' hx=>?_;have I1:Ab X ad σ H {s with heap:=h'}:=I.kept (t':=s.toks) λb o e=>hx b o (bp (bM e)) e
 exact h ad _ σ H xs _ Q I1 (by simpa using rv) hw
def Zy(to ti:TE)(t:VS):TG:=λv σ H Q=>to σ H λo H1=>ti σ H1 λi H2=>t o i v H2 λH3=>Q σ H3
theorem Ng{o i:Expr}{ti:TE}{t:VS}(ho:PE X o to)(hi:PE X i ti)(hs:XY X t)
  (ha:∀v,assign (.Subscript o i pos) X.env v=(do
   let ov <-holding [v] (eval o X.env)
   let iv <-holding [v,ov] (eval i X.env)
   standAt pos
   holding [v,ov,iv] (setItem ov iv v)
   release [v,ov,iv] []):=by intro _;rfl):PG X (.Subscript o i pos) (Zy to ti t):=by
 intro ad s σ H v u Q I r h;rw[ha];refine qA (qM (BU (ho ad s σ H _ I h) λov s1 z9=>?_));obtain⟨x,H1,I1,r1,q1⟩:=z9;refine qA (qM (BU (hi ad s1 σ H1 _ I1 q1) λiv s2 z9=>?_));obtain⟨y,H2,I2,r2,q2⟩:=z9;refine qA (wpAny_standAt (qA (qM (BU (hs ad s2 σ H2 x y v ov iv u _ I2 r1 r2 r q2) λ_ s3 z9=>?_))));obtain⟨H3,I3,q3⟩:=z9;exact wpAny_release ⟨σ,H3,I3,q3⟩
def P1(te:TE)(g:TG):TS:=λD σ H=>te σ H λx H1=>g x σ H1 D.nx
theorem Nh{e:Expr}{g:TG}(he:PE X e te)(hg:PG X tg g)(hs:swapsWithSole [tg] e pos.line X.env=pure false:=by rfl)(hw:swappedStores [tg] e X.env=pure none:=by rfl)
  (h1:(assignEach [tg] X.env).map (·.2)=[assign tg X.env]:=by rfl):PS X (.Assign [tg] e pos) (P1 te g):=by
 intro ad s σ H D I h;refine wpAny_Assign_stores (BU (he ad s σ H _ I h) λv s1 z9=>?_) hs hw;obtain⟨x,H1,I1,r1,q1⟩:=z9;rw[h1];exact BU (hg ad s1 σ H1 x v _ I1 r1 q1) λ_ s2 q=>q
theorem Gy{e:Expr}{pos':Pos}(hN:X.N.Nodup)(hi:X.N[i]?=some x)(hx:UY X.env.scope x)(he:PE X e te)(hs:swapsWith e (some (.Name x pos')) pos.line X.env=pure false:=by rfl)(hf:X.fn x=true\/X.env.scope.names.lookup x=some .local:=by first|exact .inl rfl|exact .inr rfl|assumption):
  PS X (.Assign [.Name x pos'] e pos) (P1 te (GB i)):=by
 intro ad s σ H D I h;refine wpAny_Assign_Name (BU (he ad s σ H _ I h) λv s1 z9=>?_) hs;obtain⟨y,H1,I1,r1,q1⟩:=z9;exact MH I1 hN hi hx r1 (λs2 I2=>⟨_,H1,I2,q1⟩) hf
end
variable{body:List Stmt}
section
variable{pos:Pos}
def Q4(c:TT)(tb:TS):TS:=λD σ H=>∃W:Nat->St->Hp->Prop,(∃m,W m σ H)/\∀m σ H,W m σ H ->
 c σ H λb H1=>if b=true then ∃N:St->Hp->Prop,(∀σ' H',N σ' H'->∃m',m'<m/\W m' σ' H')/\tb {D with nx:=N,ct:=N,bk:=D.nx} σ H1 else D.nx σ H1
theorem Do{c:Expr}{tb:TS}(hp:PassesOwn (model X.prog X.w) X.A X.env X.xe)(hc:PT X c tc)(hb:Hj X body tb):PS X (.While c body [] pos) (Q4 tc tb):=by
 intro ad s σ H D I h;refine byG λGq hGq=>?_;obtain⟨W,⟨m0,w0⟩,turn⟩:=h;refine hGq ?_;clear hGq Gq;refine wpAny_While (codeAny_whileLoop (λn s'=>∃σ' H',Ab X ad σ' H' s'/\W n σ' H') ?_ m0 ⟨σ,H,I,w0⟩);intro n s1 hRq;refine byG λGq hGq=>?_;obtain⟨σ1,H1,I1,w1⟩:=hRq;refine hGq ?_;clear hGq Gq;refine wpAny_passesOwn hp (BU (hc ad s1 σ1 H1 _ I1 (turn n σ1 H1 w1)) λb s2 z9=>?_);obtain⟨H2,I2,q2⟩:=z9;cases b with
 |true =>
  obtain⟨N,hN,q2⟩:=q2;rw[qD rfl];refine wpAny_passesOwn hp (BU (hb ad s2 σ1 H2 _ I2 q2) λf s3 q3=>?_);cases f with
  |next =>
   refine byG λGq hGq=>?_;obtain⟨σ3,H3,I3,n3⟩:=q3;refine hGq ?_;clear hGq Gq;obtain⟨m',hm,w3⟩:=hN σ3 H3 n3;exact⟨m',hm,σ3,H3,I3,w3⟩
  |cont =>
   refine byG λGq hGq=>?_;obtain⟨σ3,H3,I3,n3⟩:=q3;refine hGq ?_;clear hGq Gq;obtain⟨m',hm,w3⟩:=hN σ3 H3 n3;exact⟨m',hm,σ3,H3,I3,w3⟩
  |brk=>exact q3
  |ret v=>exact q3
 |false =>
  rw[qC bT];exact wpAny_execs_nil ⟨σ1,H2,I2,q2⟩
end
structure It where
 go:Nat->Hp->Prop
 yld:Nat->Hp->V->Hp->Prop
 stop:Nat->Hp->Prop
def Ek(X:Cx)(ad:List (qP×Obj))(H:Hp)(b:qP):Prop:=
 H b=none/\b≠X.env.locals/\b∉X.fs/\(b∈X.ex\/X.s₀.heap.objs.size<=b)/\(∀x c,X.env.cells.lookup x=some c->c≠b)/\∀p∈X.pn++ad,p.1≠b
variable{H':Hp}
theorem Ab.fpOk{b:qP}(I:Ab X ad σ H s)(hb:s.heap.objs.size<=b)(hn:H' b=none):Ek X ad H' b:=by
 refine⟨hn,du (bQ I.lt hb),I.nofs hb,.inr (cF I.sz hb),λx c e z=>?_,λp hp z=>?_⟩
 ·obtain⟨v,q⟩:=I.cell x c e;exact qE (bQ q.lt (by rw[z];exact hb)) (bx _)
 ·exact qE (bQ (bM (I.pin p hp).1) (by rw[z];exact hb)) (bx _)
structure Im(P:qR)(w:qS)(K:qT)(tg:Expr)(J:It)(fp:List qP)(it:qP)(tn:Nat->Heap->Prop):Prop where
 mem:it∈fp
 obj:∀i h,tn i h->∀b∈fp,∃o,h.get? b=some o/\∀v,o.data≠.cell v
 keep:∀i h h',tn i h->(∀b∈fp,∀o,h.get? b=some o->h'.get? b=some o)->tn i h'
 item:∀(X:Cx),X.prog=P->X.w=w->X.K=K->X.calm=true->∀(i:Nat) (ad:List (qP×Obj)) (s:qQ) (σ:St) (H:Hp) (E:qO->qQ->Prop),Ab X ad σ H s->(∀b∈fp,Ek X ad H b)->tn i s.heap->J.go i H ->
  wpAny (model P w) X.A (pyNext (.ref it)) (λr s1=>∃u,r=some u /\
   wpAny (model P w) X.A (letOwnedTupleGo tg (.ref it) u) (λ_ s2=>∃x H',Ab X ad σ H' s2/\BN x u/\J.yld i H x H'/\tn (i+1) s2.heap/\∀b∈fp,H' b=none) E s1) E s
 done:∀(X:Cx),X.prog=P->X.w=w->X.K=K->X.calm=true->∀(i:Nat) (ad:List (qP×Obj)) (s:qQ) (σ:St) (H:Hp) (E:qO->qQ->Prop),Ab X ad σ H s->(∀b∈fp,Ek X ad H b)->tn i s.heap->J.stop i H ->
  wpAny (model P w) X.A (pyNext (.ref it)) (λr s1=>r=none/\Ab X ad σ H s1) E s
 self:∀(A:Around) (i:Nat) (s:qQ) (Q:qO->qQ->Prop) (E:qO->qQ->Prop),tn i s.heap->Q (.ref it) s->wpAny (model P w) A (pyIter (.ref it)) Q E s
abbrev TI:=St->Hp->(It->Hp->Prop)->Prop
def am(X:Cx)(ad:List (qP×Obj))(σ:St)(tg:Expr)(R:It->Hp->Prop)(itv:qO)(s2:qQ):Prop:=
 ∃(it:qP) (fp:List qP) (tn:Nat->Heap->Prop) (J:It) (H':Hp),itv=.ref it/\Ab X ad σ H' s2/\Im X.prog X.w X.K tg J fp it tn/\tn 0 s2.heap/\(∀b∈fp,Ek X ad H' b)/\R J H'
def PI(X:Cx)(tg iter:Expr)(wi:TI):Prop:=
 ∀(ad:List (qP×Obj)) (s:qQ) (σ:St) (H:Hp) (R:It->Hp->Prop),Ab X ad σ H s->wi σ H R ->
  wpAny (model X.prog X.w) X.A (eval iter X.env) (λv s1=>wpAny (model X.prog X.w) X.A (pyIter v) (am X ad σ tg R) X.xe s1) X.xe s
theorem MI{M:Model}{A:Around}{o:Obj}{n:String}{vs:Array qO}{Q:Unit->qQ->Prop}(ho:s.heap.get? it=some o)(hc:o.cls=.type n)(hd:o.data=.fields vs)
  (hn:["enumerate","zip","dict_itemiterator","dict_reverseitemiterator","odict_iterator","itertools.zip_longest","itertools.pairwise"].contains n=false) (hQ:Q () s):wpAny M A (letOwnedTupleGo tg (.ref it) u) Q E s:=by
 unfold letOwnedTupleGo
 cases tg<;>first
  |exact qB hQ
  | (cases u<;>first
    |exact qB hQ
    | (refine qA (wpAny_load ho ?_)
       rw[hc,hd];show wpAny M A (if (["enumerate","zip","dict_itemiterator","dict_reverseitemiterator","odict_iterator","itertools.zip_longest","itertools.pairwise"].contains n&&vs[0]?==some (rawInt _))=true then _ else _) Q E s;rw[qC (by intro h;rw[hn,Bool.false_and]at h;cases h)];exact qB hQ))
noncomputable def XH(K:qT)(a:qP):It:=
 ⟨λi H=>∃xs x,Ai K H a xs/\xs[i]?=some x,λi H x H'=>H'=H/\∀xs,Ai K H a xs->xs[i]?=some x,λi H=>∃xs,Ai K H a xs/\xs.length<=i⟩
noncomputable def Xa(K:qT)(a:qP):It:=
 ⟨λi H=>∃xs x,Am K H a xs/\xs[i]?=some x,λi H x H'=>H'=H/\∀xs,Am K H a xs->xs[i]?=some x,λi H=>∃xs,Am K H a xs/\xs.length<=i⟩
noncomputable def Uc(lo:Int)(n:Nat):It:=⟨λi _=>i<n,λi H x H'=>H'=H/\x=.int (lo+i),λi _=>n<=i⟩
theorem P2{P:qR}{w:qS}{K:qT}(a it:qP):Im P w K tg (XH K a) [it] it (λi h=>h.IsListIter it a i) where
 mem:=by simp
 obj:=λi h st b hb=>by
  have e:b=it:=by simpa using hb
  subst e;refine byG λGq hGq=>?_;obtain⟨o,e,c,d⟩:=st;refine hGq ?_;clear hGq Gq;exact⟨o,e,λv z=>by rw[d]at z;cases z⟩
 keep:=λi h h' st k=>st.at λo e=>k it (by simp) o e
 item:=by intro X hP hw hK hc i ad s σ H E I hf st hg;subst hP hw hK;refine byG λGq hGq=>?_;obtain⟨xs,x,hq,hx⟩:=hg;refine hGq ?_;clear hGq Gq;refine byG λGq hGq=>?_;obtain⟨its,rv,p,hz⟩:=I.list hq;refine hGq ?_;clear hGq Gq;obtain⟨u,hu,ru⟩:=rv.get hx;refine byG λGq hGq=>?_;obtain⟨f0,f1,f2,f3,f4,f5⟩:=hf it (by simp);refine hGq ?_;clear hGq Gq;refine wpAny_pyNext_list_item st p.isList (x:=u) (by simpa using hu) λh' st' sb=>?_;have I1:Ab X ad σ H {s with heap:=h'}:=I.turned (t':=s.toks) (λb o hb e=>(sb.2 b hb).trans e) f0 f1 f3 f4 f5;refine byG λGq hGq=>?_;obtain⟨o,e,c,d⟩:=id st';refine hGq ?_;clear hGq Gq;exact⟨u,rfl,MI (s:={s with heap:=h'}) e c d (by decide) ⟨x,H,I1,ru,⟨rfl,λys hy=>by rw[I.list_inj hy hq];exact hx⟩,st',λb hb=>(hf b hb).1⟩⟩
 done:=by intro X hP hw hK hc i ad s σ H E I hf st hg;subst hP hw hK;obtain⟨xs,hq,hx⟩:=hg;refine byG λGq hGq=>?_;obtain⟨its,rv,p,hz⟩:=I.list hq;refine hGq ?_;clear hGq Gq;refine byG λGq hGq=>?_;obtain⟨f0,f1,f2,f3,f4,f5⟩:=hf it (by simp);refine hGq ?_;clear hGq Gq;have hl:=rv.length;exact wpAny_pyNext_list_end (I.ok.hd hc) st p.isList (by simp;lia) λh' eb=>⟨rfl,I.turned (t':=s.toks) (λb o hb e=>eb b o hb e) f0 f1 f3 f4 f5⟩
 self:=λ_ _ _ _ _ st h=>wpAny_pyIter_listiter st h
theorem Ni{P:qR}{w:qS}{K:qT}(a it:qP):Im P w K tg (Xa K a) [it] it (λi h=>h.IsTupleIter it a i) where
 mem:=by simp
 obj:=λi h st b hb=>by
  have e:b=it:=by simpa using hb
  subst e;refine byG λGq hGq=>?_;obtain⟨o,e,c,d⟩:=st;refine hGq ?_;clear hGq Gq;exact⟨o,e,λv z=>by rw[d]at z;cases z⟩
 keep:=λi h h' st k=>st.at λo e=>k it (by simp) o e
 item:=by intro X hP hw hK hc i ad s σ H E I hf st hg;subst hP hw hK;refine byG λGq hGq=>?_;obtain⟨xs,x,hq,hx⟩:=hg;refine hGq ?_;clear hGq Gq;refine byG λGq hGq=>?_;obtain⟨its,rv,p,hz⟩:=I.tuple hq;refine hGq ?_;clear hGq Gq;obtain⟨u,hu,ru⟩:=rv.get hx;refine byG λGq hGq=>?_;obtain⟨f0,f1,f2,f3,f4,f5⟩:=hf it (by simp);refine hGq ?_;clear hGq Gq;refine wpAny_pyNext_tuple_item st (show s.heap.IsTuple a its.toArray from p) (x:=u) (by simpa using hu) λh' st' sb=>?_;have I1:Ab X ad σ H {s with heap:=h'}:=I.turned (t':=s.toks) (λb o hb e=>(sb.2 b hb).trans e) f0 f1 f3 f4 f5;refine byG λGq hGq=>?_;obtain⟨o,e,c,d⟩:=id st';refine hGq ?_;clear hGq Gq;exact⟨u,rfl,MI (s:={s with heap:=h'}) e c d (by decide) ⟨x,H,I1,ru,⟨rfl,λys hy=>by rw[I.tuple_inj hy hq];exact hx⟩,st',λb hb=>(hf b hb).1⟩⟩
 done:=by intro X hP hw hK hc i ad s σ H E I hf st hg;subst hP hw hK;obtain⟨xs,hq,hx⟩:=hg;refine byG λGq hGq=>?_;obtain⟨its,rv,p,hz⟩:=I.tuple hq;refine hGq ?_;clear hGq Gq;refine byG λGq hGq=>?_;obtain⟨f0,f1,f2,f3,f4,f5⟩:=hf it (by simp);refine hGq ?_;clear hGq Gq;have hl:=rv.length;exact wpAny_pyNext_tuple_end (I.ok.hd hc) st (show s.heap.IsTuple a its.toArray from p) (by simp;lia) λh' eb=>⟨rfl,I.turned (t':=s.toks) (λb o hb e=>eb b o hb e) f0 f1 f3 f4 f5⟩
 self:=λ_ _ _ _ _ st h=>wpAny_pyIter_tupleiter st h
theorem Nj{P:qR}{w:qS}{K:qT}(it:qP)(lo:Int)(n:Nat):Im P w K tg (Uc lo n) [it] it (λi h=>IsRangeIter h it (lo+(i:Nat)*1) ((n:Int)-(i:Nat)) 1) where
 mem:=by simp
 obj:=λi h st b hb=>by
  have e:b=it:=by simpa using hb
  subst e
  exact⟨_,st,λv z=>by have z':Data.fields _=Data.cell v:=z;cases z'⟩
 keep:=λi h h' st k=>k it (by simp) _ st
 item:=by intro X hP hw hK hc i ad s σ H E I hf st hg;subst hP hw hK;refine byG λGq hGq=>?_;obtain⟨f0,f1,f2,f3,f4,f5⟩:=hf it (by simp);refine hGq ?_;clear hGq Gq;have W:=Walks.range (prog:=X.prog) (w:=X.w) (I.ok.hd hc) it lo 1 n;refine W.item i s _ _ hg st λv h' tk hv st' kk=>?_;obtain⟨t,rfl⟩:=hv;have I1:Ab X ad σ H {s with heap:=h',toks:=tk}:=I.turned (λb o hb e=>kk b o (by simpa using hb) e) f0 f1 f3 f4 f5;refine⟨_,rfl,MI (s:={s with heap:=h',toks:=tk}) (n:="range_iterator") st' rfl rfl (by decide) ⟨.int (lo+i),H,I1,⟨t,?_⟩,⟨rfl,rfl⟩,st',λb hb=>(hf b hb).1⟩⟩;rw[Int.mul_one]
 done:=by intro X hP hw hK hc i ad s σ H E I hf st hg;subst hP hw hK;refine byG λGq hGq=>?_;obtain⟨f0,f1,f2,f3,f4,f5⟩:=hf it (by simp);refine hGq ?_;clear hGq Gq;exact wpAny_pyNext_range_end (I.ok.hd hc) st (by have:n<=i:=hg;lia) λh' eb=>⟨rfl,I.turned (t':=s.toks) (λb o hb e=>eb b o hb e) f0 f1 f3 f4 f5⟩
 self:=λ_ _ _ _ _ st h=>wpAny_pyIter_rangeiter st h
variable{lo:Int}{ta:TA}{fp:List qP}
def Q5(K:qT)(tl:TE):TI:=λσ H R=>tl σ H λx H1=>∃a,x=.ref a/\(∃xs,Ai K H1 a xs)/\R (XH K a) H1
def Zz(K:qT)(tl:TE):TI:=λσ H R=>tl σ H λx H1=>∃a,x=.ref a/\(∃xs,Am K H1 a xs)/\R (Xa K a) H1
theorem Oo{l:Expr}{tl:TE}(hl:PE X l tl):PI X tg l (Q5 X.K tl):=by
 intro ad s σ H R I h;refine BU (hl ad s σ H _ I h) λv s1 z9=>?_;obtain⟨x,H1,I1,r1,q1⟩:=z9;obtain⟨a,e,⟨xs,hq⟩,q⟩:=q1;subst e;cases r1;obtain⟨its,rv,p,hz⟩:=I1.list hq;refine wpAny_pyIter_list p.isList ?_;refine⟨s1.heap.objs.size,[s1.heap.objs.size],_,_,H1,rfl,I1.kept (t':=s1.toks) λb o e=>bG _ e,P2 a _,⟨_,bV _ rfl,rfl,rfl⟩,λb hb=>?_,q⟩;have e:b=s1.heap.objs.size:=by simpa using hb
 subst e;exact I1.fpOk (bD _) (I1.hok.fresh (bD _))
theorem VT{l:Expr}{tl:TE}(hl:PE X l tl):PI X tg l (Zz X.K tl):=by
 intro ad s σ H R I h;refine BU (hl ad s σ H _ I h) λv s1 z9=>?_;obtain⟨x,H1,I1,r1,q1⟩:=z9;obtain⟨a,e,⟨xs,hq⟩,q⟩:=q1;subst e;cases r1;obtain⟨its,rv,p,hz⟩:=I1.tuple hq;refine wpAny_pyIter_tuple (show s1.heap.IsTuple a its.toArray from p) ?_;refine⟨s1.heap.objs.size,[s1.heap.objs.size],_,_,H1,rfl,I1.kept (t':=s1.toks) λb o e=>bG _ e,Ni a _,⟨_,bV _ rfl,rfl,rfl⟩,λb hb=>?_,q⟩;have e:b=s1.heap.objs.size:=by simpa using hb
 subst e;exact I1.fpOk (bD _) (I1.hok.fresh (bD _))
theorem MJ{R:It->Hp->Prop}{hi:Int}{t u v:Tok}{tk:Nat}(I:Ab X ad σ H s)(h1:-(2^62)<=lo)(h2:lo<2^62)(h3:-(2^62)<=hi)(h4:hi<2^62)
  (q:R (Uc lo (hi-lo).toNat) H):wpAny (model X.prog X.w) X.A (pyIter (.ref s.heap.objs.size)) (am X ad σ tg R) E {s with heap:=s.heap.push {cls:=.type "range",data:=.fields #[.int lo t,.int hi u,.int 1 v]},toks:=tk}:=by
 refine wpAny_pyIter_range (IsRange.new ..) (small_one h1 h2 h3 h4) ?_;have I1:Ab X ad σ H {s with heap:=s.heap.push {cls:=.type "range",data:=.fields #[.int lo t,.int hi u,.int 1 v]},toks:=tk}:=I.kept λb o e=>bG _ e
 refine⟨(s.heap.push {cls:=.type "range",data:=.fields #[.int lo t,.int hi u,.int 1 v]}).objs.size,[(s.heap.push {cls:=.type "range",data:=.fields #[.int lo t,.int hi u,.int 1 v]}).objs.size],_,_,H,rfl,
  I1.kept (t':=tk) λb o e=>bG _ e,Nj _ lo (hi-lo).toNat,?_,λb hb=>?_,q⟩
 ·have e1:lo+((0:Nat):Int)*1=lo:=by simp
  have e2:(((hi-lo).toNat:Nat):Int)-((0:Nat):Int)=Builtin.Range.rangeSize lo hi 1:=by rw[rangeSize_one];split<;>lia
  show IsRangeIter _ _ (lo+((0:Nat):Int)*1) ((((hi-lo).toNat:Nat):Int)-((0:Nat):Int)) 1;rw[e1,e2];exact bV _ rfl
 ·have e:b=(s.heap.push {cls:=.type "range",data:=.fields #[.int lo t,.int hi u,.int 1 v]}).objs.size:=by simpa using hb
  subst e;exact I1.fpOk (bD _) (I1.hok.fresh (bD _))
def Xb(ta:TA):TI:=λσ H R=>ta σ H λvs H1=>∃j:Int,vs=[.int j]/\-(2^62)<=j/\j<2^62/\R (Uc 0 j.toNat) H1
def Xc(ta:TA):TI:=λσ H R=>ta σ H λvs H1=>∃i j:Int,vs=[.int i,.int j]/\(-(2^62)<=i/\i<2^62/\-(2^62)<=j/\j<2^62)/\R (Uc i (j-i).toNat) H1
theorem A1{a:Expr}{p pos:Pos}(hg:Gl X "range")(hm:X.mg "range"=none)(ha:PA X [a] ta)(hs:starEach [a] X.env=[(false,eval a X.env)]:=by rfl):PI X tg (.Call (.Name "range" p) [a] [] pos) (Xb ta):=by
 intro ad s σ H R I h;refine Call_ (DP I hg hm boot_range (cD (BU (ha pos ad s σ H _ I h) λus s1 z9=>?_) hs rfl));obtain⟨vs,H1,I1,r1,q1⟩:=z9;refine byG λGq hGq=>?_;obtain⟨j,e,q1,q2,q⟩:=q1;refine hGq ?_;clear hGq Gq;subst e;cases r1 with
 |cons r rr =>
  cases rr;obtain⟨t,rfl⟩:=r;exact call_range_1 (MJ I1 (by lia) (by lia) q1 q2 (by simpa using q))
theorem Ke{a b:Expr}{p pos:Pos}(hg:Gl X "range")(hm:X.mg "range"=none)(ha:PA X [a,b] ta)(hs:starEach [a,b] X.env=[(false,eval a X.env),(false,eval b X.env)]:=by rfl)(hs2:starEach [b] X.env=[(false,eval b X.env)]:=by rfl):
  PI X tg (.Call (.Name "range" p) [a,b] [] pos) (Xc ta):=by
 intro ad s σ H R I h;refine Call_ (DP I hg hm boot_range (cD (BU (ha pos ad s σ H _ I h) λus s1 ⟨vs,H1,I1,r1,q1⟩=>?_) (by rw[hs,hs2]) (by rw[hs2];rfl)));refine byG λGq hGq=>?_;obtain⟨i,j,e,⟨q1,q2,q3,q4⟩,q⟩:=q1;refine hGq ?_;clear hGq Gq;subst e;cases r1 with
 |cons r rr =>
  cases rr with
  |cons r' rr =>
   cases rr;obtain⟨t,rfl⟩:=r;obtain⟨t',rfl⟩:=r';exact call_range_2 (MJ I1 q1 q2 q3 q4 q)
def Z0(wi:TI)(g:TG)(tb:TS):TS:=λD σ H=>wi σ H λJ H1=>∃W:Nat->Nat->St->Hp->Prop,(∃m,W 0 m σ H1)/\∀i m σ H,W i m σ H ->
 (J.stop i H/\D.nx σ H)\/(J.go i H/\∃N:St->Hp->Prop,(∀σ' H',N σ' H'->∃m',m'<m/\W (i+1) m' σ' H')/\∀x H',J.yld i H x H'->g x σ H' λσ2 H2=>tb {D with nx:=N,ct:=N,bk:=D.nx} σ2 H2)
noncomputable def Gz(fp:List qP)(h:Heap):List (qP×Obj):=fp.filterMap λb=>(h.get? b).map λo=>(b,o)
theorem Cw{h:Heap}{b:qP}{o:Obj}(hb:b∈fp)(e:h.get? b=some o):(b,o)∈Gz fp h:=d6.mpr ⟨b,hb,by rw[e];rfl⟩
theorem P3{h:Heap}{p:qP×Obj}(hp:p∈Gz fp h):p.1∈fp/\h.get? p.1=some p.2:=by
 obtain⟨b,hb,e⟩:=d6.mp hp;cases q:h.get? b with
 |none=>rw[q]at e;cases e
 |some o =>
  rw[q]at e;have e':(b,o)=p:=Option.some.inj e;subst e';exact⟨hb,q⟩
theorem Ab.pinned(I:Ab X ad σ H s)(hf:∀b∈fp,Ek X ad H b)(ho:∀b∈fp,∃o,s.heap.get? b=some o/\∀v,o.data≠.cell v):Ab X (ad++Gz fp s.heap) σ H s:=
 I.pins_of λp hp=>(bJ.mp hp).elim (λz=>I.pin p (ba _ z)) λz=>by obtain⟨hb,e⟩:=P3 z;obtain⟨f0,f1,f2,_⟩:=hf p.1 hb;obtain⟨o,e',d⟩:=ho p.1 hb;rw[e]at e';cases e';exact⟨e,f0,f1,f2,d⟩
theorem Ab.unpinned{pl:List (qP×Obj)}(I:Ab X (ad++pl) σ H s):Ab X ad σ H s:=I.pins_of λp hp=>I.pin p (ba _ (cX _ hp))
theorem A7{iter:Expr}{wi:TI}{g:TG}{tb:TS}{pos:Pos}(hp:PassesOwn (model X.prog X.w) X.A X.env X.xe)(hc:X.calm=true)(hi:PI X tg iter wi)(hg:PG X tg g)(hb:Hj X body tb)
  (hs:∀x,foldedSetIterable iter X.env x=pure x:=by intro _;rfl):PS X (.For tg iter body [] pos) (Z0 wi g tb):=by
 intro ad s σ H D I h;refine wpAny_For (BU (hi ad s σ H _ I h) λv s1 h1=>BU h1 λitv s2 h2=>?_) hs;refine byG λGq hGq=>?_;obtain⟨it,fp,tn,J,H2,e,I2,T,st2,f2,W,⟨m0,w0⟩,turn⟩:=h2;refine hGq ?_;clear hGq Gq;subst e;have stat:∀{H':Hp},(∀b∈fp,H' b=none)->∀b∈fp,Ek X ad H' b:=λhn b hb=>⟨hn b hb,(f2 b hb).2⟩
 refine codeAny_forLoop_any (λn s'=>∃i σ' H',Ab X ad σ' H' s'/\tn i s'.heap/\(∀b∈fp,H' b=none)/\W i n σ' H') ?_ m0 ⟨0,σ,H2,I2,st2,λb hb=>(f2 b hb).1,w0⟩;intro n s3 hRq;refine byG λGq hGq=>?_;obtain⟨i,σ3,H3,I3,st3,fr3,w3⟩:=hRq;refine hGq ?_;clear hGq Gq;rcases turn i n σ3 H3 w3 with⟨stop,qn⟩|⟨go,N,hN,step⟩
 ·refine wpAny_passesOwn hp (BU (T.done X rfl rfl rfl hc i ad s3 σ3 H3 X.xe I3 (stat fr3) st3 stop) λr s4 z9=>?_);obtain⟨hr,I4⟩:=z9;subst hr;exact wpAny_execs_nil ⟨σ3,H3,I4,qn⟩
 ·refine wpAny_passesOwn hp (BU (T.item X rfl rfl rfl hc i ad s3 σ3 H3 X.xe I3 (stat fr3) st3 go) λr s4 z9=>?_);obtain⟨u,hr,h4⟩:=z9;subst hr;refine wpAny_passesOwn hp (BU h4 λ_ s5 z9=>?_);obtain⟨x,H5,I5,r5,y5,st5,fr5⟩:=z9;have I5':=I5.pinned (stat fr5) (T.obj _ _ st5);refine wpAny_passesOwn hp (BU (hg _ s5 σ3 H5 x u _ I5' r5 (step x H5 y5)) λ_ s6 z9=>?_);obtain⟨σ6,H6,I6,q6⟩:=z9;refine wpAny_passesOwn hp (BU (hb _ s6 σ6 H6 _ I6 q6) λf s7 q7=>?_);have again:∀{σ7:St} {H7:Hp},Ab X (ad++Gz fp s5.heap) σ7 H7 s7->N σ7 H7->∃m,m<n/\∃i σ' H',Ab X ad σ' H' s7/\tn i s7.heap/\(∀b∈fp,H' b=none)/\W i m σ' H':=λ{σ7 H7} I7 n7=>by obtain⟨m',hm,w7⟩:=hN σ7 H7 n7;refine⟨m',hm,i+1,σ7,H7,I7.unpinned,T.keep _ _ _ st5 λb hb o e=>(I7.pin (b,o) (ba _ (ba _ (Cw hb e)))).1,λb hb=>?_,w7⟩;obtain⟨o,e,d⟩:=T.obj _ _ st5 b hb;exact (I7.pin (b,o) (ba _ (ba _ (Cw hb e)))).2.1
  cases f with
  |next=>obtain⟨σ7,H7,I7,n7⟩:=q7;exact again I7 n7
  |cont=>obtain⟨σ7,H7,I7,n7⟩:=q7;exact again I7 n7
  |brk=>obtain⟨σ7,H7,I7,q7⟩:=q7;exact⟨σ7,H7,I7.unpinned,q7⟩
  |ret v=>obtain⟨x7,σ7,H7,I7,r7,q7⟩:=q7;exact⟨x7,σ7,H7,I7.unpinned,r7,q7⟩
theorem Be{K:qT}{g:TG}{tb:TS}(Pv:Nat->St->Hp->Prop)(h0:Pv 0 σ H)(hl:∀i σ H,i<=xs.length->Pv i σ H->Ai K H a xs)
  (hs:∀i x σ H,xs[i]?=some x->Pv i σ H->g x σ H λσ2 H2=>tb {D with nx:=Pv (i+1),ct:=Pv (i+1),bk:=D.nx} σ2 H2) (hd:∀σ H,Pv xs.length σ H->D.nx σ H):
  ∃W:Nat->Nat->St->Hp->Prop,(∃m,W 0 m σ H)/\∀i m σ H,W i m σ H ->
   ((XH K a).stop i H/\D.nx σ H)\/((XH K a).go i H/\∃N:St->Hp->Prop,(∀σ' H',N σ' H'->∃m',m'<m/\W (i+1) m' σ' H')/\∀x H',(XH K a).yld i H x H'->g x σ H' λσ2 H2=>tb {D with nx:=N,ct:=N,bk:=D.nx} σ2 H2):=by
 refine⟨λi m σ H=>m=xs.length-i/\i<=xs.length/\Pv i σ H,⟨xs.length,by simp,Nat.zero_le _,h0⟩,?_⟩;rintro i m σ H ⟨rfl,hi,p⟩;have q:=hl i σ H hi p
 by_cases hlt:i<xs.length
 ·refine .inr ⟨⟨xs,xs[i],q,by simp[hlt]⟩,Pv (i+1),λσ' H' p'=>⟨xs.length-(i+1),by lia,rfl,hlt,p'⟩,λx H' y=>?_⟩;obtain⟨e,y⟩:=y;subst e;exact hs i x σ _ (y xs q) p
 ·have e:i=xs.length:=by lia
  subst e;exact .inl ⟨⟨xs,q,bD _⟩,hd σ H p⟩
theorem TF{K:qT}{g:TG}{tb:TS}(Pv:Nat->St->Hp->Prop)(h0:Pv 0 σ H)(hl:∀i σ H,i<=xs.length->Pv i σ H->Am K H a xs)
  (hs:∀i x σ H,xs[i]?=some x->Pv i σ H->g x σ H λσ2 H2=>tb {D with nx:=Pv (i+1),ct:=Pv (i+1),bk:=D.nx} σ2 H2) (hd:∀σ H,Pv xs.length σ H->D.nx σ H):
  ∃W:Nat->Nat->St->Hp->Prop,(∃m,W 0 m σ H)/\∀i m σ H,W i m σ H ->
   ((Xa K a).stop i H/\D.nx σ H)\/((Xa K a).go i H/\∃N:St->Hp->Prop,(∀σ' H',N σ' H'->∃m',m'<m/\W (i+1) m' σ' H')/\∀x H',(Xa K a).yld i H x H'->g x σ H' λσ2 H2=>tb {D with nx:=N,ct:=N,bk:=D.nx} σ2 H2):=by
 refine⟨λi m σ H=>m=xs.length-i/\i<=xs.length/\Pv i σ H,⟨xs.length,by simp,Nat.zero_le _,h0⟩,?_⟩;rintro i m σ H ⟨rfl,hi,p⟩;have q:=hl i σ H hi p
 by_cases hlt:i<xs.length
 ·refine .inr ⟨⟨xs,xs[i],q,by simp[hlt]⟩,Pv (i+1),λσ' H' p'=>⟨xs.length-(i+1),by lia,rfl,hlt,p'⟩,λx H' y=>?_⟩;obtain⟨e,y⟩:=y;subst e;exact hs i x σ _ (y xs q) p
 ·have e:i=xs.length:=by lia
  subst e;exact .inl ⟨⟨xs,q,bD _⟩,hd σ H p⟩
theorem Ba{n:Nat}{g:TG}{tb:TS}(Pv:Nat->St->Hp->Prop)(h0:Pv 0 σ H)
  (hs:∀i σ H,i<n->Pv i σ H->g (.int (lo+i)) σ H λσ2 H2=>tb {D with nx:=Pv (i+1),ct:=Pv (i+1),bk:=D.nx} σ2 H2) (hd:∀σ H,Pv n σ H->D.nx σ H):
  ∃W:Nat->Nat->St->Hp->Prop,(∃m,W 0 m σ H)/\∀i m σ H,W i m σ H ->
   ((Uc lo n).stop i H/\D.nx σ H)\/((Uc lo n).go i H/\∃N:St->Hp->Prop,(∀σ' H',N σ' H'->∃m',m'<m/\W (i+1) m' σ' H')/\∀x H',(Uc lo n).yld i H x H'->g x σ H' λσ2 H2=>tb {D with nx:=N,ct:=N,bk:=D.nx} σ2 H2):=by
 refine⟨λi m σ H=>m=n-i/\i<=n/\Pv i σ H,⟨n,by simp,Nat.zero_le _,h0⟩,?_⟩;rintro i m σ H ⟨rfl,hi,p⟩
 by_cases hlt:i<n
 ·refine .inr ⟨hlt,Pv (i+1),λσ' H' p'=>⟨n-(i+1),by lia,rfl,hlt,p'⟩,λx H' y=>?_⟩;obtain⟨e,y⟩:=y;subst e y;exact hs i σ _ hlt p
 ·have e:i=n:=by lia
  subst e;exact .inl ⟨bD _,hd σ H p⟩
theorem El{c:TT}{tb:TS}(Pv:St->Hp->Prop)(μ:St->Hp->Nat)(h0:Pv σ H)
  (hs:∀σ H,Pv σ H->c σ H λb H1=>if b=true then tb {D with nx:=λσ' H'=>Pv σ' H'/\μ σ' H'<μ σ H,ct:=λσ' H'=>Pv σ' H'/\μ σ' H'<μ σ H,bk:=D.nx} σ H1 else D.nx σ H1)
  (mono:∀σ H Q Q',(∀b H1,Q b H1->Q' b H1)->c σ H Q->c σ H Q'):Q4 c tb D σ H:=by
 refine⟨λm σ H=>m=μ σ H/\Pv σ H,⟨_,rfl,h0⟩,?_⟩;rintro m σ H ⟨rfl,p⟩;refine mono σ H _ _ (λb H1 q=>?_) (hs σ H p);cases b with
 |true=>exact⟨_,λσ' H' ⟨p',l⟩=>⟨_,l,rfl,p'⟩,q⟩
 |false=>exact q
abbrev R2:=V->V->Hp->VK->Prop
def FM(X:Cx)(f:qO->qO->Sem qO)(r:R2):Prop:=
 ∀(ad:List (qP×Obj)) (s:qQ) (σ:St) (H:Hp) (x y:V) (v u:qO) (Q:VK),Ab X ad σ H s->BN x v->BN y u->r x y H Q ->
  wpAny (model X.prog X.w) X.A (f v u) (EP X ad σ Q) X.xe s
def Z1(X:Cx)(f:qO->Sem qO)(r:V->Hp->VK->Prop):Prop:=
 ∀(ad:List (qP×Obj)) (s:qQ) (σ:St) (H:Hp) (x:V) (v:qO) (Q:VK),Ab X ad σ H s->BN x v->r x H Q ->
  wpAny (model X.prog X.w) X.A (f v) (EP X ad σ Q) X.xe s
def CJ(X:Cx)(f:qO)(r:List V->Hp->VK->Prop):Prop:=
 ∀(ad:List (qP×Obj)) (s:qQ) (σ:St) (H:Hp) (xs:List V) (us:List qO) (Q:VK),Ab X ad σ H s->Av xs us->r xs H Q ->
  wpAny (model X.prog X.w) X.A (call f us) (EP X ad σ Q) X.xe s
def XI(r:R2)(ta tb:TE):TE:=λσ H Q=>ta σ H λx H1=>tb σ H1 λy H2=>r x y H2 Q
def ao(r:V->Hp->VK->Prop)(ta:TE):TE:=λσ H Q=>ta σ H λx H1=>r x H1 Q
def rI(C:Int->Int->Prop)(g:Int->Int->V):R2:=λx y H Q=>∃i j,x=.int i/\y=.int j/\C i j/\Q (g i j) H
def TJ(g:Int->Int->V):R2:=λx y H Q=>∃i j,x=.int i/\y=.int j/\Q (g i j) H
def rU(g:Int->V):V->Hp->VK->Prop:=λx H Q=>∃i,x=.int i/\Q (g i) H
section
variable{a b c:Expr}{ta tb tc:TE}{pos:Pos}
theorem VU(ha:PE X a ta)(hb:PE X b tb){R:V->V->Hp->Prop}(I:Ab X ad σ H s)
  (h:ta σ H λx H1=>tb σ H1 λy H2=>R x y H2) {Q:qO->qQ->Prop} {f:qO->qO->Sem qO}
  (hf:∀v u s2 x y H2,Ab X ad σ H2 s2->BN x v->BN y u->R x y H2->wpAny (model X.prog X.w) X.A (f v u) Q X.xe s2):
  wpAny (model X.prog X.w) X.A (eval a X.env) (λv s₁=>wpAny (model X.prog X.w) X.A (eval b X.env) (λu s₂=>wpAny (model X.prog X.w) X.A (f v u) Q X.xe s₂) X.xe s₁) X.xe s:=by
 refine BU (ha ad s σ H _ I h) λv s1 z9=>?_;obtain⟨x,H1,I1,r1,q1⟩:=z9;refine BU (hb ad s1 σ H1 _ I1 q1) λu s2 z9=>?_;obtain⟨y,H2,I2,r2,q2⟩:=z9;exact hf v u s2 x y H2 I2 r1 r2 q2
theorem AL{op:Operator}{r:R2}(ho:FM X (binaryOp op) r)(ha:PE X a ta)(hb:PE X b tb):PE X (.BinOp a op b pos) (XI r ta tb):=by intro ad s σ H Q I h;exact wpAny_BinOp (VU ha hb I h λv u s2 x y H2 I2 rx ry q=>ho ad s2 σ H2 x y v u Q I2 rx ry q)
theorem Kf{op:UnaryOp}{r:V->Hp->VK->Prop}(ho:Z1 X (unaryOp op) r)(ha:PE X a ta):PE X (.UnaryOp op a pos) (ao r ta):=by intro ad s σ H Q I h;exact UnaryOp_ (BU (ha ad s σ H _ I h) λv s1 ⟨x,H1,I1,r1,q1⟩=>ho ad s1 σ H1 x v Q I1 r1 q1)
theorem XJ{f:qO->qO->Sem qO}{C:Int->Int->Prop}{g:Int->Int->Int}
  (rule:∀(i j:Int) (t u:Tok) (s:qQ) (Q:qO->qQ->Prop) (E:qO->qQ->Prop),C i j->Q (.int (g i j) s.toks) {s with toks:=s.toks+1}->wpAny (model X.prog X.w) X.A (f (.int i t) (.int j u)) Q E s):
  FM X f (rI C λi j=>.int (g i j)):=by
 intro ad s σ H x y v u Q I rx ry h;refine byG λGq hGq=>?_;obtain⟨i,j,rfl,rfl,hc,q⟩:=h;refine hGq ?_;clear hGq Gq;obtain⟨t,rfl⟩:=rx;obtain⟨t',rfl⟩:=ry;exact rule i j t t' s _ _ hc ⟨.int (g i j),H,I.tok _,⟨_,rfl⟩,q⟩
theorem Xd{f:qO->qO->Sem qO}{g:Int->Int->Int}
  (rule:∀(i j:Int) (t u:Tok) (s:qQ) (Q:qO->qQ->Prop) (E:qO->qQ->Prop),Q (.int (g i j) s.toks) {s with toks:=s.toks+1}->wpAny (model X.prog X.w) X.A (f (.int i t) (.int j u)) Q E s):
  FM X f (TJ λi j=>.int (g i j)):=by
 intro ad s σ H x y v u Q I rx ry h;refine byG λGq hGq=>?_;obtain⟨i,j,rfl,rfl,q⟩:=h;refine hGq ?_;clear hGq Gq;obtain⟨t,rfl⟩:=rx;obtain⟨t',rfl⟩:=ry;exact rule i j t t' s _ _ ⟨.int (g i j),H,I.tok _,⟨_,rfl⟩,q⟩
theorem TK{f:qO->qO->Sem qO}{g:Int->Int->Bool}
  (rule:∀(i j:Int) (t u:Tok) (s:qQ) (Q:qO->qQ->Prop) (E:qO->qQ->Prop),Q (.bool (g i j)) s->wpAny (model X.prog X.w) X.A (f (.int i t) (.int j u)) Q E s):
  FM X f (TJ λi j=>.bl (g i j)):=by
 intro ad s σ H x y v u Q I rx ry h;obtain⟨i,j,rfl,rfl,q⟩:=h;obtain⟨t,rfl⟩:=rx;obtain⟨t',rfl⟩:=ry;exact rule i j t t' s _ _ ⟨.bl (g i j),H,I,rfl,q⟩
def VV(i j:Int):Prop:=0<j/\j<1073741824
def VW(i j:Int):Prop:=0<=j/\j<=1000000/\i.natAbs<2^64
def Q6(i j:Int):Prop:=(-(2^64)<i/\i<2^64)\/(-(2^64)<j/\j<2^64)
theorem Q6.ok{i j:Int}(h:Q6 i j):IntMulOk i j:=by
 rcases h with⟨h1,h2⟩|⟨h1,h2⟩
 ·exact .of_left (intBits_le_64 h1 h2)
 ·exact .of_right (intBits_le_64 h1 h2)
theorem BF:FM X (binaryOp .Add) (TJ λi j=>.int (i+j)):=Xd λ_ _ _ _ _ _ _ q=>add_int q
theorem BJ:FM X (binaryOp .Sub) (TJ λi j=>.int (i-j)):=Xd λ_ _ _ _ _ _ _ q=>sub_int q
theorem Cd:FM X (binaryOp .Mult) (rI Q6 λi j=>.int (i*j)):=XJ λ_ _ _ _ _ _ _ hc q=>mul_int q hc.ok
theorem B4:FM X (binaryOp .FloorDiv) (rI VV λi j=>.int (i/j)):=XJ λi j _ _ _ _ _ hc q=>by have h1:(0:Int)<j:=hc.1;have h2:j<1073741824:=hc.2;exact floordiv_int (by lia) (by rw[Int.fdiv_eq_ediv_of_nonneg i (by lia)];exact q) (.inl (PyProof.noPylong_small (by lia)))
theorem BS:FM X (binaryOp .Mod) (rI (λ_ j=>0<j) λi j=>.int (i%j)):=XJ λi j _ _ _ _ _ hc q=>by have h1:(0:Int)<j:=hc;exact mod_int' (by lia) (by rw[Int.fmod_eq_emod_of_nonneg i (by lia)];exact q)
theorem Q7:FM X (binaryOp .Pow) (rI VW λi j=>.int (i^j.toNat)):=XJ λ_ _ _ _ _ _ _ hc q=>pow_int_small hc.1 hc.2.1 hc.2.2 q
theorem a7{f:qO->Sem qO}{g:Int->Int}
  (rule:∀(i:Int) (t:Tok) (s:qQ) (Q:qO->qQ->Prop) (E:qO->qQ->Prop),Q (.int (g i) s.toks) {s with toks:=s.toks+1}->wpAny (model X.prog X.w) X.A (f (.int i t)) Q E s):
  Z1 X f (rU λi=>.int (g i)):=by
 intro ad s σ H x v Q I rx h;obtain⟨i,rfl,q⟩:=h;obtain⟨t,rfl⟩:=rx;exact rule i t s _ _ ⟨.int (g i),H,I.tok _,⟨_,rfl⟩,q⟩
theorem G1:Z1 X (unaryOp .USub) (rU λi=>.int (-i)):=a7 λ_ _ _ _ _ q=>neg_int q
end
noncomputable def P4:V->V->Bool
 |.non,.non=>true|.non,.int _=>true|.int _,.non=>true|.non,.bl _=>true|.bl _,.non=>true|.non,.str _=>true|.str _,.non=>true
 |.int _,.int _=>true|.bl _,.bl _=>true|.str _,.str _=>true|.byt _,.byt _=>true
 |.int _,.str _=>true|.str _,.int _=>true|.bl _,.str _=>true|.str _,.bl _=>true
 |_,_=>false
def ap:R2:=λx y H Q=>P4 x y=true/\Q (.bl (decide (x=y))) H
def aq:R2:=λx y H Q=>P4 x y=true/\Q (.bl (!decide (x=y))) H
theorem Op{i j:Int}:decide (V.int i=V.int j)=(i==j):=by rw[eI];simp
theorem Q8{i j:Bool}:decide (V.bl i=V.bl j)=(i==j):=by rw[eI];simp
theorem Oq{i j:Str}:decide (V.str i=V.str j)=(i==j):=by rw[eI];simp
theorem Os{i j:Array UInt8}:decide (V.byt i=V.byt j)=(i.toList==j.toList):=by rw[eI];cases i;cases j;simp
section
variable{a b c:Expr}{ta tb tc:TE}{pos:Pos}
theorem BG{Q:VK}{k k':Bool}(I:Ab X ad σ H s)(q:Q (.bl k) H)(e:k=k'):EP X ad σ Q (.bool k') s:=by subst e;exact⟨.bl k,H,I,rfl,q⟩
theorem Bo:FM X (compareOp .Eq) ap:=by
 intro ad s σ H x y v u Q I rx ry h;obtain⟨hs,q⟩:=h;cases x with
 |non =>
  cases rx;cases y with
  |non=>cases ry;exact PySem.EqNone.eq_none_none (BG I q (by simp))
  |bl j=>cases ry;exact PySem.EqNone.eq_none_bool (BG I q (by simp))
  |int j=>obtain⟨t',rfl⟩:=ry;exact PySem.EqNone.eq_none_int (BG I q (by simp))
  |str j=>obtain⟨t',rfl⟩:=ry;exact PySem.EqNone.eq_none_str (BG I q (by simp))
  |_=>exact qE (show false=true from hs) bT
 |bl i =>
  cases rx;cases y with
  |non=>cases ry;exact PySem.EqNone.eq_bool_none (BG I q (by simp))
  |bl j=>cases ry;exact eq_bool (BG I q Q8)
  |str j=>obtain⟨t',rfl⟩:=ry;exact PySem.EqMixed.eq_bool_str (BG I q (by simp))
  |_=>exact qE (show false=true from hs) bT
 |int i =>
  obtain⟨t,rfl⟩:=rx;cases y with
  |non=>cases ry;exact PySem.EqNone.eq_int_none (BG I q (by simp))
  |int j=>obtain⟨t',rfl⟩:=ry;exact eq_int (BG I q Op)
  |str j=>obtain⟨t',rfl⟩:=ry;exact PySem.EqMixed.eq_int_str (BG I q (by simp))
  |_=>exact qE (show false=true from hs) bT
 |str i =>
  obtain⟨t,rfl⟩:=rx;cases y with
  |non=>cases ry;exact PySem.EqNone.eq_str_none (BG I q (by simp))
  |bl j=>cases ry;exact PySem.EqMixed.eq_str_bool (BG I q (by simp))
  |int j=>obtain⟨t',rfl⟩:=ry;exact PySem.EqMixed.eq_str_int (BG I q (by simp))
  |str j=>obtain⟨t',rfl⟩:=ry;exact eq_str (BG I q Oq)
  |_=>exact qE (show false=true from hs) bT
 |byt i =>
  obtain⟨t,rfl⟩:=rx;cases y with
  |byt j=>obtain⟨t',rfl⟩:=ry;exact PySem.W.eq_bytes (BG I q Os)
  |_=>exact qE (show false=true from hs) bT
 |_=>cases y<;>exact qE (show false=true from hs) bT
theorem GC:FM X (compareOp .NotEq) aq:=by
 intro ad s σ H x y v u Q I rx ry h;obtain⟨hs,q⟩:=h;cases x with
 |non =>
  cases rx;cases y with
  |non=>cases ry;exact PySem.EqNone.ne_none_none (BG I q (by simp))
  |bl j=>cases ry;exact PySem.EqNone.ne_none_bool (BG I q (by simp))
  |int j=>obtain⟨t',rfl⟩:=ry;exact PySem.EqNone.ne_none_int (BG I q (by simp))
  |str j=>obtain⟨t',rfl⟩:=ry;exact PySem.EqNone.ne_none_str (BG I q (by simp))
  |_=>exact qE (show false=true from hs) bT
 |bl i =>
  cases rx;cases y with
  |non=>cases ry;exact PySem.EqNone.ne_bool_none (BG I q (by simp))
  |bl j=>cases ry;exact ne_bool (BG I q (qN not Q8))
  |str j=>obtain⟨t',rfl⟩:=ry;exact PySem.EqMixed.ne_bool_str (BG I q (by simp))
  |_=>exact qE (show false=true from hs) bT
 |int i =>
  obtain⟨t,rfl⟩:=rx;cases y with
  |non=>cases ry;exact PySem.EqNone.ne_int_none (BG I q (by simp))
  |int j=>obtain⟨t',rfl⟩:=ry;exact ne_int (BG I q (qN not Op))
  |str j=>obtain⟨t',rfl⟩:=ry;exact PySem.EqMixed.ne_int_str (BG I q (by simp))
  |_=>exact qE (show false=true from hs) bT
 |str i =>
  obtain⟨t,rfl⟩:=rx;cases y with
  |non=>cases ry;exact PySem.EqNone.ne_str_none (BG I q (by simp))
  |bl j=>cases ry;exact PySem.EqMixed.ne_str_bool (BG I q (by simp))
  |int j=>obtain⟨t',rfl⟩:=ry;exact PySem.EqMixed.ne_str_int (BG I q (by simp))
  |str j=>obtain⟨t',rfl⟩:=ry;exact ne_str (BG I q (qN not Oq))
  |_=>exact qE (show false=true from hs) bT
 |byt i =>
  obtain⟨t,rfl⟩:=rx;cases y with
  |byt j=>obtain⟨t',rfl⟩:=ry;exact PySem.W.ne_bytes (BG I q (qN not Os))
  |_=>exact qE (show false=true from hs) bT
 |_=>cases y<;>exact qE (show false=true from hs) bT
theorem Dp:FM X (compareOp .Lt) (TJ λi j=>.bl (decide (i<j))):=TK λ_ _ _ _ _ _ _ q=>lt_int q
theorem Q9:FM X (compareOp .LtE) (TJ λi j=>.bl (decide (i<=j))):=TK λ_ _ _ _ _ _ _ q=>le_int q
theorem Dq:FM X (compareOp .Gt) (TJ λi j=>.bl (decide (j<i))):=TK λ_ _ _ _ _ _ _ q=>gt_int q
theorem Ot:FM X (compareOp .GtE) (TJ λi j=>.bl (decide (j<=i))):=TK λ_ _ _ _ _ _ _ q=>ge_int q
theorem RA:FM X (compareOp .Is) (λx y H Q=>y=.non/\Q (.bl (decide (x=.non))) H):=by
 intro ad s σ H x y v u Q I rx ry h;obtain⟨rfl,q⟩:=h;cases ry;refine is_none_gen (BG I q ?_)
 cases x<;>first
  | (cases rx;rfl)
  | (obtain⟨t,rfl⟩:=rx;rfl)
theorem TL:FM X (compareOp .IsNot) (λx y H Q=>y=.non/\Q (.bl (!decide (x=.non))) H):=by
 intro ad s σ H x y v u Q I rx ry h;obtain⟨rfl,q⟩:=h;cases ry;refine isnot_none_gen (BG I q ?_)
 cases x<;>first
  | (cases rx;rfl)
  | (obtain⟨t,rfl⟩:=rx;rfl)
theorem AR(b:Expr)(h:op≠.In:=by decide)(h2:op≠.NotIn:=by decide):behindInMarks op b=false:=by
 have e:(op==.In||op==.NotIn)=false:=by rw[beq_eq_false_iff_ne.mpr h,beq_eq_false_iff_ne.mpr h2];rfl
 cases b with
 |Set elts k p=>show (k==0&&(op==.In||op==.NotIn)&&_)=false;rw[e,ej];rfl
 |_=>rfl
theorem Cm{r:R2}(ho:FM X (compareOp op) r)(ha:PE X a ta)(hb:PE X b tb)(hm:behindInMarks op b=false):PE X (.Compare a [op] [b] pos) (XI r ta tb):=by intro ad s σ H Q I h;exact wpAny_Compare1 (VU ha hb I h λv u s2 x y H2 I2 rx ry q=>ho ad s2 σ H2 x y v u Q I2 rx ry q) hm
def Ud(t:TE):TT:=λσ H Q=>t σ H λx H'=>∃k,x=.bl k/\Q k H'
theorem AN{r:R2}(ho:FM X (compareOp op) r)(ha:PE X a ta)(hb:PE X b tb)(hm:behindInMarks op b=false):PT X (.Compare a [op] [b] pos) (Ud (XI r ta tb)):=by
 intro ad s σ H Q I h
 refine wpAny_isTrue_Compare1 (BU (ha ad s σ H _ I h) λv s1 ⟨x,H1,I1,r1,q1⟩=>BU (hb ad s1 σ H1 _ I1 q1) λu s2 ⟨y,H2,I2,r2,q2⟩ =>
  BU (ho ad s2 σ H2 x y v u _ I2 r1 r2 q2) λc s3 ⟨z,H3,I3,r3,k,e,q3⟩=>?_) hm
 subst e;cases r3;exact wpAny_truthy_bool ⟨H3,I3,q3⟩
theorem LM:(sizeLine:Nat)<2^63:=by rw[sizeLine_eq];decide
theorem Dr{x:V}(r:Av [x] us):∃u,us=[u]/\BN x u:=by
 cases r with
 |cons r1 r2=>cases r2;exact⟨_,rfl,r1⟩
theorem Ou{x y:V}(r:Av [x,y] us):∃u w',us=[u,w']/\BN x u/\BN y w':=by
 cases r with
 |cons r1 r2 =>
  cases r2 with
  |cons r3 r4=>cases r4;exact⟨_,_,rfl,r1,r3⟩
theorem P5(hc:X.calm=true):CJ X (.builtin "min") (λxs H Q=>∃i j,xs=[.int i,.int j]/\Q (.int (if j<i then j else i)) H):=by
 intro ad s σ H xs us Q I r h;obtain⟨i,j,rfl,q⟩:=h;obtain⟨u,w',rfl,⟨t,rfl⟩,⟨t',rfl⟩⟩:=Ou r;refine min_two_ints (I.ok.hd hc) λh' tk k=>⟨_,H,I.kept k,?_,q⟩
 by_cases hj:j<i
 ·rw[qD hj,qD hj];exact⟨_,rfl⟩
 ·rw[qC hj,qC hj];exact⟨_,rfl⟩
end
structure VX(h:Heap)(x dx C:qP)(mA:Str->Option qO):Prop where
 obj:h.get? x=some (PySem.W.instObj C dx)
 ns:h.Ns1 dx mA
 ne:dx≠x
variable{dx:qP}
theorem P6{h:Heap}{mA:Str->Option qO}(n:h.Ns1 dx mA):∃od,h.get? dx=some od/\∀name,PySem.W.lookIn name od=some (mA name):=by
 refine byG λGq hGq=>?_;obtain⟨o,es,ep,ho,hd,hk,_,hm⟩:=n;refine hGq ?_;clear hGq Gq;refine⟨o,ho,λname=>?_⟩;have e:=hm name;unfold nsFind findBy at e;rw[<-Array.find?_toList]at e;unfold PySem.W.lookIn;rw[hd];dsimp only;split
 ·rename_i y q
  rw[q]at e;exact qN some e
 ·rename_i q
  rw[q]at e
  have a:es.toList.any (·.refKey)=false:=by rw[List.any_eq_false];intro y hy;obtain⟨z,t,hkey⟩:=hk y (Array.mem_toList_iff.mp hy);simp[DictEntry.refKey,hkey]
  have a':¬es.toList.any (·.refKey)=true:=by rw[a];exact bT
  rw[qC a'];exact qN some e
variable{C:qP}
theorem VX.look{h:Heap}{x:qP}{mA:Str->Option qO}(I:VX h x dx C mA):∃od,PySem.W.InstAt h x (PySem.W.instObj C dx) C (some od)/\∀name,PySem.W.lookIn name od=some (mA name):=
 let ⟨od,ho,hl⟩:=P6 I.ns
 ⟨od,⟨I.obj,rfl,rfl,ho⟩,hl⟩
theorem LK.some_of{v:V}{o:Option qO}(r:LK (some v) o):∃u,o=some u/\BN v u:=by
 cases o with
 |none=>exact (show False from r).elim
 |some u=>exact⟨u,rfl,r⟩
section
variable{P:qR}{w:qS}{h h':Heap}{fs fs':List (Str×V)}
theorem Ov(hok:Gu P w H h)(e:H a=some (.ins C dx fs)):∃mA,VX h a dx C mA/\(∀f,LK (fs.lookup f) (mA f))/\PySem.Within mA (fs.map (·.1))/\fs.length<=1000/\H dx=some (.own a):=by refine byG λGq hGq=>?_;obtain⟨d,z,ne,ob,mA,n,r,q⟩:=(show A5 P w H h a (.ins C dx fs) from hok a _ e);refine hGq ?_;clear hGq Gq;exact⟨mA,⟨ob,n,ne⟩,r,q,z,d⟩
end
structure Z2(K:qT)(C:qP):Prop where
 pg:PySem.W.plainGet K C Str.empty=true
 hd:PySem.W.hasDictIn K C=true
 po:PySem.W.plainOver K C=true
 sa:PySem.W.findIn K (.ref C) "__setattr__"=some (some (.builtin "object.__setattr__"))
theorem Z2.get{K:qT}(c:Z2 K C)(f:Str):PySem.W.plainGet K C f=true:=c.pg
section
variable{A:Around}{c:qO}{b:Bool}
inductive G3(K:qT)(H:Hp):V->qO->Prop where
 |non:G3 K H .non (.type "NoneType")
 |bl (x:Bool):G3 K H (.bl x) (.type "bool")
 |int (i:Int):G3 K H (.int i) (.type "int")
 |str (x:Str):G3 K H (.str x) (.type "str")
 |flt (x:UInt64):G3 K H (.flt x) (.type "float")
 |lst {a:qP} {xs:List V} (e:H a=some (.lst xs)):G3 K H (.ref a) (.type "list")
 |frz {a:qP} {o:Obj} {xs:List V} (e:H a=some (.frz o (.lst xs))):G3 K H (.ref a) (.type "list")
 |tup {a:qP} {xs:List V} (e:H a=some (.tup xs)):G3 K H (.ref a) (.type "tuple")
 |dK {a:qP} {kvs:List (Cc×V)} (e:H a=some (.dK kvs)):G3 K H (.ref a) (.type "dict")
 |dT {a:qP} {kvs:List (List Cc×V)} (e:H a=some (.dT kvs)):G3 K H (.ref a) (.type "dict")
 |ins {a C dx:qP} {fs:List (Str×V)} (e:H a=some (.ins C dx fs)) (cl:Z2 K C) (ha:PySem.W.findIn K (.ref C) "__class__"=some (some (.builtin "object.__class__")))
   (hn:PySem.W.specialIn K (.builtin "object.__class__") "__get__"=some (some (.builtin "getset_descriptor.__get__"))) (htk:PySem.W.takesIn K (.builtin "object.__class__")=some true)
   (hm:PySem.W.mroIn K C (.type "object")=some true):G3 K H (.ref a) (.ref C)
theorem P7{x:V}{t:qO}(I:Ab X ad σ H s)(rx:BN x u)(ty:G3 X.K H x t)(e:PySem.W.kitOne X.K t c=some b)(h:∀tk,Q (.bool b) {s with toks:=tk}):
  wpAny (model X.prog X.w) A (call (.builtin "isinstance") [u,c]) Q E s:=by
 cases ty with
 |non=>cases (show u=Value.none from rx);exact cZ PySem.W.kitx_none I.kIn True.intro e (λz=>nomatch z) h
 |bl y=>cases (show u=Value.bool y from rx);exact cZ PySem.W.kitx_bool I.kIn True.intro e (λz=>nomatch z) h
 |int i=>obtain⟨t,q⟩:=(show ∃t,u=Value.int i t from rx);cases q;exact cZ PySem.W.kitx_int I.kIn True.intro e (λz=>nomatch z) h
 |str y=>obtain⟨t,q⟩:=(show ∃t,u=Value.str y t from rx);cases q;exact cZ PySem.W.kitx_str I.kIn True.intro e (λz=>nomatch z) h
 |flt y=>obtain⟨t,q⟩:=(show ∃t,u=Value.float y t from rx);cases q;exact cZ PySem.W.kitx_float I.kIn True.intro e (λz=>nomatch z) h
 | @lst a xs ea =>
  cases (show u=Value.ref a from rx);obtain⟨_,_,n,_,h1⟩:=(show A5 X.prog X.w H s.heap a (.lst xs) from I.hok a _ ea);exact cZ fQ I.kIn ⟨_,h1,rfl⟩ e (λz=>nomatch z) h
 | @frz a ob xs ea =>
  cases (show u=Value.ref a from rx);obtain⟨_,_,_,n,_,h1⟩:=(show A5 X.prog X.w H s.heap a (.frz ob (.lst xs)) from I.hok a _ ea);exact cZ fQ I.kIn ⟨_,h1,rfl⟩ e (λz=>nomatch z) h
 | @tup a xs ea =>
  cases (show u=Value.ref a from rx);obtain⟨_,_,_,p⟩:=(show A5 X.prog X.w H s.heap a (.tup xs) from I.hok a _ ea);obtain⟨o,h1,h2,_⟩:=p;exact cZ PySem.W.kitx_tuple I.kIn ⟨o,h1,h2⟩ e (λz=>nomatch z) h
 | @dK a kvs ea =>
  cases (show u=Value.ref a from rx);obtain⟨_,_,vs,_,p⟩:=(show A5 X.prog X.w H s.heap a (.dK kvs) from I.hok a _ ea);obtain⟨o,es,ep,h1,h2,_⟩:=p;exact cZ fR I.kIn ⟨o,h1,h2.1⟩ e (λz=>nomatch z) h
 | @dT a kvs ea =>
  cases (show u=Value.ref a from rx);obtain⟨_,_,xs,_,o,es,ep,h1,h2,_⟩:=(show A5 X.prog X.w H s.heap a (.dT kvs) from I.hok a _ ea);exact cZ fR I.kIn ⟨o,h1,h2.1⟩ e (λz=>nomatch z) h
 | @ins a C dx fs ea cl ha hn htk hm =>
  cases (show u=Value.ref a from rx);obtain⟨mA,O,_⟩:=Ov I.hok ea;obtain⟨od,J,_⟩:=O.look;exact cZ (PySem.W.kitx_own (cl.get _) cl.hd ha hn htk hm) I.kIn J e (λz=>nomatch z) h
end
structure B7(k:Nat)(A:Around):Prop where
 hd:A.handled=none
 dp:A.depth+3*k+5<recursionLimit
 un:A.units+16*k+200<cLine
variable{k:Nat}
theorem B7.mono{A:Around}(r:B7 k A)(h:j<=k):B7 j A:=⟨r.hd,by have:=r.dp;lia,by have:=r.un;lia⟩
theorem B7.deeper{A:Around}(r:B7 (k+1) A)(env:Env):B7 k (A.deeper env):=
 ⟨r.hd,by have:=r.dp;show A.depth+1+3*k+5<_;lia,by have:=r.un;show A.units+3+16*k+200<_;lia⟩
theorem Nk{A:Around}{kw:List (Str×qO)}:(A.under (.builtin "type.__call__" ⟨.ref C::us,kw⟩)).depth=A.depth+1:=by
 first|rfl|simp[Around.under,Code.weight,Code.isCreation,Code.isGuard,Code.isCaller,Code.frames,Code.isFrame,guardIds]
theorem Nl{A:Around}{kw:List (Str×qO)}:(A.under (.builtin "type.__call__" ⟨.ref C::us,kw⟩)).units=A.units+1:=by
 first|rfl|simp[Around.under,Code.cUnits,Code.frames,Code.isFrame]
theorem B7.make{A:Around}(r:B7 (k+1) A)(C:qP)(us:List qO)(kw:List (Str×qO)):B7 k (A.under (.builtin "type.__call__" ⟨.ref C::us,kw⟩)):=
 ⟨r.hd,by have:=r.dp;rw[Nk];lia,by have:=r.un;rw[Nl];lia⟩
theorem B7.depth{A:Around}(r:B7 k A):A.depth<recursionLimit:=by have:=r.dp;lia
theorem B7.units{A:Around}(r:B7 k A):A.units+64<cLine:=by have:=r.un;lia
def IE:TA:=λ_ H Q=>Q [] H
def Hk(ta:TE)(tr:TA):TA:=λσ H Q=>ta σ H λx H1=>tr σ H1 λxs H2=>Q (x::xs) H2
section
variable{e:Expr}{t:TA}{pos:Pos}
theorem AB:PA X [] IE:=λ_ _ _ _ H Q I h=>Calls.spliced_nil ⟨[],H,I,.nil,h⟩
theorem AA(ha:PE X e te)(hr:PA X es t)(hs:starEach (e::es) X.env=(false,eval e X.env)::starEach es X.env:=by rfl):PA X (e::es) (Hk te t):=by intro pos ad s σ H Q I h;rw[hs];show wpAny _ _ (spliced ((false,eval e X.env)::backTo pos (starEach es X.env))) _ _ s;refine Calls.spliced_cons (BU (ha ad s σ H _ I h) λu s1 z9=>?_);obtain⟨x,H1,I1,r1,q1⟩:=z9;exact BU (hr pos ad s1 σ H1 _ I1 q1) λus s2 ⟨xs,H2,I2,r2,q2⟩=>⟨x::xs,H2,I2,.cons r1 r2,q2⟩
def VY(t:TA):TE:=λσ H Q=>t σ H λxs H1=>xs.length<=sizeLine/\∀p,H1 p=none->Q (.ref p) (Ak H1 p (.tup xs))
def VZ(t:TA):TE:=λσ H Q=>t σ H λxs H1=>xs.length<=sizeLine/\∀p,H1 p=none->Q (.ref p) (Ak H1 p (.lst xs))
theorem DQ{x1}(h:PA X es t):PE X (.Tuple es x1 pos) (VY t):=by intro ad s σ H Q I hq;refine wpAny_Tuple_spliced (BU (h pos ad s σ H _ I hq) λus s1 ⟨xs,H1,I1,r,z,q⟩=>⟨by rw[<-r.length];exact z,?_⟩);have hf:H1 s1.heap.objs.size=none:=I1.hok.fresh (bD _);refine⟨.ref s1.heap.objs.size,Ak H1 s1.heap.objs.size (.tup xs),I1.laid (t':=s1.toks) (λb u e=>bG _ e) (bD _) ?_,rfl,q _ hf⟩;exact⟨z,us,r,⟨_,bV _ rfl,rfl,_,rfl⟩⟩
theorem BO(h:PA X es t):PE X (.List es pos) (VZ t):=by intro ad s σ H Q I hq;refine wpAny_List_spliced (BU (h pos ad s σ H _ I hq) λus s1 ⟨xs,H1,I1,r,z,q⟩=>⟨by rw[<-r.length];exact z,?_⟩);have hf:H1 s1.heap.objs.size=none:=I1.hok.fresh (bD _);refine⟨.ref s1.heap.objs.size,Ak H1 s1.heap.objs.size (.lst xs),I1.laid (t':=s1.toks) (λb u e=>bG _ e) (bD _) ?_,rfl,q _ hf⟩;exact⟨z,us,0,r,bV _ rfl⟩
end
abbrev Sp:=List V->Hp->VK->XK->Prop
abbrev S5:=List Env->Hp->qQ->XK->qO->qQ->Prop
structure Nm(P:qR)(w:qS)(K:qT)(mg:Str->Option qO)(base:Heap)(A:Around)(outer:List Env)(s:qQ)(H:Hp):Prop where
 frames:A.frames=some outer
 mod:Zm K mg base
 bs:∀b o,base.get? b=some o->s.heap.get? b=some o/\H b=none
 bsz:base.objs.size<=s.heap.objs.size
 funs:s.heap.FunFrames base outer
 frf:∀b∈DZ outer,H b=none
 hok:Gu P w H s.heap
 bare:AllBare s.gens
def CE(outer:List Env)(P:qR)(w:qS)(H:Hp)(s:qQ)(Q:VK)(u:qO)(s':qQ):Prop:=
 ∃v H',s'.os=s.os/\AllBare s'.gens/\Un (DZ outer) [] H H' s.heap s'.heap/\Gu P w H' s'.heap/\BN v u/\Q v H'
def CR(CX:S5)(outer:List Env)(P:qR)(w:qS)(H:Hp)(s:qQ)(Q:VK)(E:XK)(r:Result)(s':qQ):Prop:=
 match r with
 |.ok (.ret u)=>CE outer P w H s Q u s'
 |.ok _=>False
 |.error e=>CX outer H s E e s'
structure Fp(P:qR)(w:qS)(K:qT)(mg:Str->Option qO)(base:Heap)(CX:S5)(k:Nat)(f:qP)(fd:FuncData)(ps:List Str)(sp:Sp):Prop where
 len:∀vs H Q E,sp vs H Q E->vs.length=ps.length
 run:∀(A:Around) (outer:List Env) (s:qQ) (H:Hp) (args:Args) (us:List qO) (vs:List V) (Q:VK) (E:XK),B7 k A->Nm P w K mg base A outer s H->BindsTo s fd args (ps.zip us)->Av vs us->sp vs H Q E ->
  codeAny (model P w) A (.call (.ref f) args) (CR CX outer P w H s Q E) s
theorem Nm.make{P:qR}{w:qS}{K:qT}{mg:Str->Option qO}{base:Heap}{A:Around}{outer:List Env}(e:Nm P w K mg base A outer s H)(C:qP)(us:List qO)(kw:List (Str×qO)):
  Nm P w K mg base (A.under (.builtin "type.__call__" ⟨.ref C::us,kw⟩)) outer s H:=⟨by first|exact e.frames|(simpa [Around.under,Code.envs,Code.isFrame,pushEnvs] using e.frames),e.mod,e.bs,e.bsz,e.funs,e.frf,e.hok,e.bare⟩
theorem Ab.env0(I:Ab X ad σ H s):Nm X.prog X.w X.K X.mg X.base X.A X.stack s H:=
 ⟨I.ok.frames,I.ok.mod,I.bs,cF I.ok.bsz I.sz,I.stack,I.stkFree,I.hok,I.bare⟩
theorem Ab.after{Q:VK}(I:Ab X ad σ H s)(h:CE X.stack X.prog X.w H s Q u s'):EP X ad σ Q u s':=by refine byG λGq hGq=>?_;obtain⟨v,H',os,bare,un,hok,r,q⟩:=h;refine hGq ?_;clear hGq Gq;refine byG λGq hGq=>?_;obtain⟨hh,g,d,t,os'⟩:=s';refine hGq ?_;clear hGq Gq;obtain rfl:os'=s.os:=os;exact⟨v,H',I.call (h':=hh) (g':=g) (d':=d) (t':=t) (ch:=[]) un hok bare (λb z=>qE z (by simp)),r,q⟩
def Em(K:qT)(fd:FuncData)(ps:List Str)(ds:List qO):Prop:=
 ∀(s:qQ) (us:List qO),K.In s.heap->(us++ds).length=ps.length->BindsTo s fd ⟨us,[]⟩ (ps.zip (us++ds))
variable{fd:FuncData}
theorem Em.all{K:qT}{ps:List Str}(h:∀us:List qO,us.length=ps.length->bindArgs fd ⟨us,[]⟩=pure (ps.zip us)):Em K fd ps []:=λs us _ hl=>by rw[bz]at hl⊢;exact .of_eq (h us hl)
structure AI(N P:List Str)(sc:Scope):Prop where
 kind:sc.kind=.function
 co:sc.isCoroutine=false
 gen:sc.isGenerator=false
 nd:N.Nodup
 pre:N.take P.length=P
 par:∀x∈P,sc.names.lookup x=some .local\/sc.names.lookup x=some .cell
 nofree:∀y∈sc.names,y.2≠.free
variable{kindOf:Str->Option NameKind}
theorem Kg:∀{binds:List (Str×qO)} {m:Str->Option qO},(∀v,(x,v)∉binds)->bindL kindOf binds m x=m x
 |[],_,_=>rfl
 | (n,v)::r,m,h=>by
  unfold bindL;rw[Kg λw hw=>h w (be _ hw)];split
  ·have:x≠n:=by rintro rfl;exact h v bf
   simp[this]
  ·rfl
theorem Kh:∀{binds:List (Str×qO)} {m:Str->Option qO},(∀v,(x,v)∉binds)->bindC kindOf binds m x=m x
 |[],_,_=>rfl
 | (n,v)::r,m,h=>by
  unfold bindC;rw[Kh λw hw=>h w (be _ hw)];split
  ·rfl
  ·have:x≠n:=by rintro rfl;exact h v bf
   simp[this]
theorem Ki{v:qO}:∀{P:List Str} {vs:List qO} {i:Nat} {m:Str->Option qO},P.Nodup->P[i]?=some x->vs[i]?=some v->kindOf x=some .local ->
  bindL kindOf (P.zip vs) m x=some v
 |[],_,_,_,_,h,_,_=>by simp at h
 |_::_,[],_,_,_,_,h,_=>by simp at h
 |p::P,w::vs,0,m,nd,h1,h2,hk=>by simp at h1 h2;subst h1;subst h2;show bindL kindOf ((p,w)::P.zip vs) m p=_;unfold bindL;rw[Kg λv hv=>(dL.mp nd).1 (List.of_mem_zip hv).1,qD hk];simp
 |p::P,w::vs,i+1,m,nd,h1,h2,hk=>by show bindL kindOf ((p,w)::P.zip vs) m x=_;unfold bindL;exact Ki (i:=i) (List.nodup_cons.mp nd).2 (by simpa using h1) (by simpa using h2) hk
theorem Kj{v:qO}:∀{P:List Str} {vs:List qO} {i:Nat} {m:Str->Option qO},P.Nodup->P[i]?=some x->vs[i]?=some v->kindOf x≠some .local ->
  bindC kindOf (P.zip vs) m x=some v
 |[],_,_,_,_,h,_,_=>by simp at h
 |_::_,[],_,_,_,_,h,_=>by simp at h
 |p::P,w::vs,0,m,nd,h1,h2,hk=>by simp at h1 h2;subst h1;subst h2;show bindC kindOf ((p,w)::P.zip vs) m p=_;unfold bindC;rw[Kh λv hv=>(dL.mp nd).1 (List.of_mem_zip hv).1,qC hk];simp
 |p::P,w::vs,i+1,m,nd,h1,h2,hk=>by show bindC kindOf ((p,w)::P.zip vs) m x=_;unfold bindC;exact Kj (i:=i) (List.nodup_cons.mp nd).2 (by simpa using h1) (by simpa using h2) hk
noncomputable def Ct(N:List Str)(vs:List V):St:=vs.map some++List.replicate (N.length-vs.length) none
noncomputable def Dj(CX:S5)(P:qR)(w:qS)(K:qT)(mg:Str->Option qO)(base:Heap)(N:List Str)(qual:Str)(scope:Scope)(f:qP)(cd:qO)(A:Around)(outer:List Env)(s:qQ)(H:Hp)(E:XK):Cx where
 prog:=P
 w:=w
 K:=K
 mg:=mg
 base:=base
 A:=A.deeper (envOfC qual scope s.heap.objs.size f cd)
 N:=N
 s₀:=s
 H₀:=H
 env:=envOfC qual scope s.heap.objs.size f cd
 outer:=outer
 stack:=envOfC qual scope s.heap.objs.size f cd::outer
 ex:=[]
 calm:=true
 fn:=λ_=>true
 pn:=[]
 xe:=λe s'=>wpAny (model P w) (A.deeper (envOfC qual scope s.heap.objs.size f cd)) (leaving (envOfC qual scope s.heap.objs.size f cd) e) (λ_ s''=>CX outer H s E e s'') (λe' s''=>CX outer H s E e' s'') s'
theorem MK{sc:Scope}{n:Nat}(h:sc.names.lookup x=some .cell):∃c,(cellsFrom n sc.names []).lookup x=some c:=by have q:=PySem.W.cellsFrom_some sc.names n [] (.inl h);exact dh.mp q
variable{CX:S5}{qual:Str}{scope:Scope}
theorem P8{P:qR}{w:qS}{K:qT}{mg:Str->Option qO}{base:Heap}{N ps:List Str}{f:qP}{cd:qO}{A:Around}{outer:List Env}{s1:qQ}{E:XK}{vs:List V}
  (S:AI N ps scope) (hd:A.handled=none) (e0:Nm P w K mg base A outer s H) (hl:vs.length=ps.length) (r:Av vs us)
  (x:InCallC s s.heap.objs.size (bindL (envOfC qual scope s.heap.objs.size f cd).kindOf (ps.zip us) λ_=>none) (cellsFrom (s.heap.objs.size+1) scope.names []) (bindC (envOfC qual scope s.heap.objs.size f cd).kindOf (ps.zip us) λ_=>none) s1):
  Ab (Dj CX P w K mg base N qual scope f cd A outer s H E) [] (Ct N vs) H s1:=by
 have hpl:ps.length<=N.length:=by have:=qN List.length S.pre;rw[b9]at this;lia
 obtain⟨h1,tk,rfl,hk⟩:=x.done;have noA:∀b:qP,b∉(Dj CX P w K mg base N qual scope f cd A outer s H E).ex:=λb z=>qE (show b∈([]:List qP) from z) (by simp)
 refine⟨⟨e0.mod,S.kind,rfl,rfl,bD _,λy z c h1 h2=>?_,λy hy=>?_,λy c _ h=>?_,λ_=>hd,Around.frames_deeper e0.frames,.inr ⟨rfl,rfl⟩,λb z=>qE z (noA b),e0.bs,e0.bsz,λb _ _=>noA b,λb z=>qE z (noA b),e0.funs,e0.frf⟩,
  rfl,e0.bare,Un.kept hk,⟨_,x.toInCall.ns,λi y v h1 h2 h3=>?_⟩,λy c h=>⟨_,x.cell y c h⟩,e0.hok.fresh (Nat.le_refl _),λy c h=>?_,λp hp=>qE (show p∈([]:List (qP×Obj)) from hp) (by simp),e0.hok.kept hk,?_⟩
 ·exact name_of_addr x.apart (dz h1) (dz h2)
 ·have hy:scope.names.lookup y=some .cell\/scope.names.lookup y=some .free:=hy;rcases hy with hy|hy
  ·exact MK hy
  ·exact qE rfl (S.nofree _ (dz hy))
 ·exact dq (x.above y c (dz h))
 ·have hi:i<vs.length:=by
   unfold Ct at h2
   by_cases hi:i<vs.length
   ·exact hi
   ·rw[List.getElem?_append_right (by simpa using hi)]at h2;rw[cC]at h2
    split at h2<;>cases h2
  have ha:vs[i]?=some v:=by
   unfold Ct at h2;rw[List.getElem?_append_left (by simpa using hi),List.getElem?_map]at h2;cases e:vs[i]? with
   |none=>rw[e]at h2;cases h2
   |some a=>rw[e]at h2;cases h2;rfl
  obtain⟨u,hu,rv⟩:=r.get ha
  have hp:ps[i]?=some y:=by rw[<-S.pre,List.getElem?_take_of_lt (by lia)];exact h1
  have ndP:ps.Nodup:=by rw[<-S.pre];exact S.nd.sublist (List.take_sublist _ _)
  refine⟨u,rv,?_⟩;rcases S.par y (bE hp) with k|k
  ·exact .inl ⟨k,Ki ndP hp hu k⟩
  ·obtain⟨c,e⟩:=MK (n:=s.heap.objs.size+1) k;refine .inr ⟨.inl k,c,e,?_⟩;have q:=x.cell y c e;rw[Kj ndP hp hu (by show scope.names.lookup y≠_;rw[k];decide)]at q;exact q
 ·exact e0.hok.fresh (dq (x.above y c (dz h)))
 ·unfold Ct;show _=N.length;rw[bC,a9,bP];lia
variable{name:Str}{doc pm gh oc:qO}{an od:Option qP}
theorem Ue{P:qR}{w:qS}{K:qT}{mg:Str->Option qO}{base:Heap}{f:qP}{params:Arguments}{dV kV ct:qO}
  {osl:Array (Option qO)} {N ps:List Str} {sp:Sp} (lk:K.lookup f=some ⟨oc,od,.func (PySem.W.fnOf name qual params body scope dV kV doc pm an gh ct),osl⟩) (hcd:PySem.W.codeIn K gh qual=true) (S:AI N ps scope)
  (len:∀vs H Q E,sp vs H Q E->vs.length=ps.length)
  (hbody:∀(A:Around) (outer:List Env) (s:qQ) (H:Hp) (vs:List V) (Q:VK) (E:XK),B7 k (A.deeper (envOfC qual scope s.heap.objs.size f gh))->sp vs H Q E ->
   ∃t,Hj (Dj CX P w K mg base N qual scope f gh A outer s H E) body t/\t {nx:=λ_ H'=>Q .non H',rt:=Q} (Ct N vs) H):
  Fp P w K mg base CX (k+1) f (PySem.W.fnOf name qual params body scope dV kV doc pm an gh ct) ps sp:=by
 refine⟨len,λA outer s H args us vs Q E hr e0 hb r hsp=>?_⟩;have hl:=len _ _ _ _ hsp;have KX:K.In s.heap:=e0.mod.kin.keeps λb o e=>(e0.bs b o e).1
 have lim:s.heap.NoLimit:=e0.mod.nolimit.keeps λb o e=>(e0.bs b o e).1
 have hkind:∀y∈ps.zip us,scope.names.lookup y.1=some .local\/(scope.names.lookup y.1=some .cell/\((cellsFrom (s.heap.objs.size+1) scope.names []).lookup y.1).isSome=true):=λ⟨n,v⟩ hy=>by
  rcases S.par n (List.of_mem_zip hy).1 with q|q
  ·exact .inl q
  ·exact .inr ⟨q,PySem.W.cellsFrom_some _ _ _ (.inl q)⟩
 refine codeAny_call_function hr.depth (KX _ _ lk) rfl S.co S.gen rfl (PySem.W.codeRec_of KX hcd) (hb _ _ _ _ ?_);refine wpAny_newFunctionEnv_cells S.kind hkind λenv he s1 x=>?_;subst he;refine⟨lim.keeps x.toInCall.keep,codeAny_func ?_⟩;obtain⟨t,ht,hq⟩:=hbody A outer s H vs Q E (hr.deeper _) hsp;have I:Ab (Dj CX P w K mg base N qual scope f gh A outer s H E) [] (Ct N vs) H s1:=P8 S hr.hd e0 hl r x;refine qK (ht [] s1 (Ct N vs) H _ I hq) (λfl s' hs=>?_) λe s' hs=>hs
 have fin:∀{σ':St} {H':Hp} {v:V} {u:qO},Ab (Dj CX P w K mg base N qual scope f gh A outer s H E) [] σ' H' s'->BN v u->Q v H'->CE outer P w H s Q u s':=
  λ{σ' H' v u} J rv q=>⟨v,H',J.os,J.bare,J.base,J.hok,rv,q⟩
 cases fl with
 |ret u =>
  obtain⟨v,σ',H',J,rv,q⟩:=hs;exact fin J rv q
 |next =>
  obtain⟨σ',H',J,q⟩:=hs;exact fin (v:=V.non) (u:=Value.none) J rfl q
 |brk =>
  obtain⟨_,_,_,q⟩:=hs;exact False.elim q
 |cont =>
  obtain⟨_,_,_,q⟩:=hs;exact False.elim q
section
variable{p pos:Pos}{e:Expr}{t:TA}{id T:String}{r:List V->Hp->VK->Prop}
def Xe(r:List V->Hp->VK->Prop)(t:TA):TE:=λσ H Q=>t σ H λvs H1=>r vs H1 Q
theorem Ag(hc:CJ X (.builtin id) r)(hg:Gl X x)(hm:X.mg x=none)(hv:bootBuiltins x=some (.builtin id))(ha:PA X (e::es) t)(hn:x≠"__name__":=by decide)(hdb:(x==("__debug__":Str))=false:=by decide)
  (he:starEach (e::es) X.env=(false,eval e X.env)::starEach es X.env:=by rfl) (hpl:(backTo pos (starEach es X.env)).any (·.1)=false:=by rfl):PE X (.Call (.Name x p) (e::es) [] pos) (Xe r t):=by
 intro ad s σ H Q I h;refine wpAny_Call_Name_kw (DP I hg hm hv ?_ hn hdb);exact PyProof.Rows.callWith_builtin1 (BU (ha pos ad s σ H _ I h) λus s1 ⟨vs,H1,I1,r1,q1⟩=>hc ad s1 σ H1 vs us Q I1 r1 q1) he hpl
theorem DM(hc:CJ X (.type T) r)(hg:Gl X x)(hm:X.mg x=none)(hv:bootBuiltins x=some (.type T))(ha:PA X (e::es) t)(hn:x≠"__name__":=by decide)(hdb:(x==("__debug__":Str))=false:=by decide)
  (he:starEach (e::es) X.env=(false,eval e X.env)::starEach es X.env:=by rfl) (hpl:(backTo pos (starEach es X.env)).any (·.1)=false:=by rfl):PE X (.Call (.Name x p) (e::es) [] pos) (Xe r t):=by
 intro ad s σ H Q I h;refine wpAny_Call_Name_kw (DP I hg hm hv ?_ hn hdb);exact cD (BU (ha pos ad s σ H _ I h) λus s1 ⟨vs,H1,I1,r1,q1⟩=>hc ad s1 σ H1 vs us Q I1 r1 q1) he hpl
end
end L2
namespace HT
open PySem PyProof.Rows
noncomputable def Ds:qU->qU->Bool
 |[],[]=>false
 |[],_::_=>true
 |_::_,[]=>false
 |x::xs,y::ys=>if x=y then Ds xs ys else decide (x<y)
theorem Nn(x y:Int)(xs ys:qU):Ds (x::xs) (y::ys)=if x=y then Ds xs ys else decide (x<y):=rfl
theorem KM:Ds [] []=false:=rfl
theorem Io(y:Int)(ys:qU):Ds [] (y::ys)=true:=rfl
theorem Ip(x:Int)(xs:qU):Ds (x::xs) []=false:=rfl
section
variable{prog:qR}{w:qS}{A:Around}{E:qO->qQ->Prop}{s:qQ}
theorem TM{t b:qP}{vs ws:List qO}{Q:qO->qQ->Prop}(ht:IsTup s.heap t vs.toArray)(hb:IsTup s.heap b ws.toArray)(hv:vs≠[])
  (h1:ws=[]->Q (.ref t) s) (h2:ws≠[]->Q (.ref s.heap.objs.size) {s with heap:=s.heap.push {cls:=.type "tuple",data:=.seq (vs++ws).toArray}})
  (hsz:vs.length+ws.length<=sizeLine):wpAny (model prog w) A (binaryOp .Add (.ref t) (.ref b)) Q E s:=by
 refine byG λGq hGq=>?_;obtain⟨⟨cls,dd,data,sl⟩,ho,hc,n,hd⟩:=id ht;refine hGq ?_;clear hGq Gq;refine byG λGq hGq=>?_;obtain⟨⟨cls2,dd2,data2,sl2⟩,ho2,hc2,n2,hd2⟩:=id hb;refine hGq ?_;clear hGq Gq;simp only at hc hd hc2 hd2;subst hc hd hc2 hd2;have e:vs.toArray++ws.toArray=(vs++ws).toArray:=by simp
 by_cases hw:ws=[]
 ·exact concat_meets ⟨_,ho,rfl⟩ ⟨_,ho2,rfl⟩ noFill_tuple_add seq_tuple_add PySem.F.slot_tuple_add PySem.F.entry_tuple_add (PySem.F.args_tuple_add_2 _ _)
   (tuple_addW1 t b vs.toArray ws.toArray n n2 dd dd2 sl sl2 (by simpa using hv) (by simp[hw])) ⟨ho,ho2,h1 hw⟩
 ·refine concat_meets ⟨_,ho,rfl⟩ ⟨_,ho2,rfl⟩ noFill_tuple_add seq_tuple_add PySem.F.slot_tuple_add PySem.F.entry_tuple_add (PySem.F.args_tuple_add_2 _ _)
   (tuple_addW2 t b vs.toArray ws.toArray n n2 dd dd2 sl sl2 (by simpa using hv) (by simpa using hw) (by rw[List.size_toArray,List.size_toArray];exact hsz)) ⟨ho,ho2,?_⟩
  rw[e];exact h2 hw
noncomputable def KN(n d:Nat):Option Int->Nat
 |none=>d
 |some v=>if v<0 then (v+(n:Int)).toNat else min v.toNat n
end
end HT
namespace L2
open PySem PySem.Spec PyProof.Rows
variable{H:Hp}{X:Cx}{es:List Expr}{j t':Nat}{name:Str}{ad:List (qP×Obj)}{s:qQ}{te to:TE}{u:qO}{us:List qO}{xs:List V}{α:Type}{σ:St}
abbrev TO:=St->Hp->(Option Int->Hp->Prop)->Prop
def PO(X:Cx)(e:Option Expr)(t:TO):Prop:=
 ∀(ad:List (qP×Obj)) (s:qQ) (σ:St) (H:Hp) (Q:Option Int->Hp->Prop),Ab X ad σ H s->t σ H Q ->
  wpAny (model X.prog X.w) X.A (evalPart e X.env) (λu s'=>∃o H',Ab X ad σ H' s'/\IsPart u o/\Q o H') X.xe s
def LN:TO:=λ_ H Q=>Q none H
def Uf(t:TE):TO:=λσ H Q=>t σ H λx H1=>∃i,x=.int i/\Q (some i) H1
theorem Iq{ns:qU}:∀{us:List qO},Av (ns.map V.int) us->IntsAre us ns:=by
 induction ns with
 |nil=>intro us r;rw[f7]at r;cases r;exact .nil
 |cons n ns ih =>
  intro us r;rw[cI]at r;cases r with
  |cons r1 r2 =>
   obtain⟨t,e⟩:=r1;subst e;exact .cons n t (ih r2)
section
variable{e:Expr}{lo hi:Option Expr}{tl th:TO}{pos p2:Pos}
theorem Ow:PO X none LN:=by intro ad s σ H Q I h;rw[evalPart_none];exact qB ⟨none,H,I,.none,h⟩
theorem IM(h:PE X e te):PO X (some e) (Uf te):=by intro ad s σ H Q I hw;rw[evalPart_some];refine BU (h ad s σ H _ I hw) λu s1 z9=>?_;obtain⟨x,H1,I1,r1,q1⟩:=z9;obtain⟨i,rfl,q⟩:=q1;obtain⟨t,rfl⟩:=r1;exact⟨some i,H1,I1,.int i t,q⟩
def ar(X:Cx)(r:V->Option Int->Option Int->Hp->VK->Prop):Prop:=
 ∀(ad:List (qP×Obj)) (s:qQ) (σ:St) (H:Hp) (x:V) (v vl vu:qO) (lo hi:Option Int) (sl:qP) (Q:VK),Ab X ad σ H s->BN x v->s.heap.IsSliceOf sl vl vu .none->IsPart vl lo->IsPart vu hi->r x lo hi H Q ->
  ∃T id,typeLookup (.type T) "__getitem__"=pure (some (.builtin id))/\s.TypeIs v T/\wpAny (model X.prog X.w) X.A (getItem v (.ref sl)) (EP X ad σ Q) X.xe s
def au(r:V->Option Int->Option Int->Hp->VK->Prop)(te:TE)(tl th:TO):TE:=λσ H Q=>te σ H λx H1=>tl σ H1 λl H2=>th σ H2 λu H3=>r x l u H3 Q
theorem Ir{r:V->Option Int->Option Int->Hp->VK->Prop}(hr:ar X r)(he:PE X e te)(hl:PO X lo tl)(hu:PO X hi th):PE X (.Subscript e (.Slice lo hi none p2) pos) (au r te tl th):=by
 intro ad s σ H Q I h;refine Subscript_ (BU (he ad s σ H _ I h) λv s1 z9=>?_);obtain⟨x,H1,I1,r1,q1⟩:=z9;refine wpAny_Slice (BU (hl ad s1 σ H1 _ I1 q1) λvl s2 ⟨l,H2,I2,pl,q2⟩=>BU (hu ad s2 σ H2 _ I2 q2) λvu s3 z9=>?_);obtain⟨u,H3,I3,pu,q3⟩:=z9;rw[evalPart_none];refine qB ?_;have I4:Ab X ad σ H3 {s3 with heap:=s3.heap.push {cls:=.type "slice",data:=.fields #[vl,vu,.none]}}:=I3.kept (t':=s3.toks) λb ob q=>bG _ q
 obtain⟨T,id,hT,ht,hg⟩:=hr ad {s3 with heap:=s3.heap.push {cls:=.type "slice",data:=.fields #[vl,vu,.none]}} σ H3 x v vl vu l u s3.heap.objs.size Q I4 r1 (Heap.IsSliceOf.new ..) pl pu q3;show wpAny (model X.prog X.w) X.A (subscriptTail e (.Slice lo hi none p2) v (.ref s3.heap.objs.size)) (EP X ad σ Q) X.xe {s3 with heap:=s3.heap.push {cls:=.type "slice",data:=.fields #[vl,vu,.none]}};exact tail_any (ops:=[.ref s3.heap.objs.size,v]) ht hT hg (by with_unfolding_all rfl)
noncomputable def LO(xs:List V)(lo hi:Option Int):List V:=(xs.drop (HT.KN xs.length 0 lo)).take (HT.KN xs.length xs.length hi-HT.KN xs.length 0 lo)
theorem ML(xs:List V)(lo hi:Option Int):(LO xs lo hi).length<=xs.length:=by unfold LO;rw[b9,cA];lia
def Ug(K:qT):R2:=λx y H Q=>∃a b xs ys,x=.ref a/\y=.ref b/\Am K H a xs/\Am K H b ys/\xs≠[]/\xs.length+ys.length<=sizeLine /\
 (ys=[]->Q (.ref a) H)/\(ys≠[]->∀p,H p=none->Q (.ref p) (Ak H p (.tup (xs++ys))))
theorem Av.nil_iff(r:Av xs us):us=[]↔xs=[]:=by
 cases r with
 |nil=>simp
 |cons _ _=>simp
theorem TN:FM X (binaryOp .Add) (Ug X.K):=by intro ad s σ H x y v u Q I rx ry h;obtain⟨a,b,xs,ys,rfl,rfl,ha,hb,hx,hz,q1,q2⟩:=h;cases rx;cases ry;obtain⟨its,r1,p1,_⟩:=I.tuple ha;obtain⟨its2,r2,p2,_⟩:=I.tuple hb;refine HT.TM p1 p2 (λz=>hx (r1.nil_iff.mp z)) (λz=>⟨.ref a,H,I,rfl,q1 (r2.nil_iff.mp z)⟩) (λz=>?_) (by rw[<-r1.length,<-r2.length];exact hz);refine⟨.ref s.heap.objs.size,_,I.laid (t':=s.toks) (o:=.tup (xs++ys)) (λb ob q=>bG _ q) (bD _) ?_,rfl,q2 (λw=>z (r2.nil_iff.mpr w)) _ (I.hok.fresh (bD _))⟩;exact⟨by rw[bC];exact hz,_,r1.append r2,IsTup.new _ _⟩
end
noncomputable def Ox(n:Nat)(i:Int):Option Nat:=if 0<=i then (if i<n then some i.toNat else none) else if -(n:Int)<=i then some (i+n).toNat else none
noncomputable def Kk{α:Type}(xs:List α)(i:Int):Option α:=(Ox xs.length i).bind λj=>xs[j]?
theorem Oy{n:Nat}{i:Int}(h:Ox n i=some j):seqIndex? i n=some j/\j<n/\-(n:Int)<=i/\i<n:=by
 unfold Ox at h
 by_cases h0:0<=i
 ·rw[qD h0]at h
  by_cases h1:i<n
  ·rw[qD h1]at h;have e:i.toNat=j:=Option.some.inj h;exact⟨by rw[seqIndex_of h0 h1,e],by lia,by lia,h1⟩
  ·rw[qC h1]at h;cases h
 ·rw[qC h0]at h
  by_cases h1:-(n:Int)<=i
  ·rw[qD h1]at h;have e:(i+n).toNat=j:=Option.some.inj h;exact⟨by rw[seqIndex_neg (by lia) h1,e],by lia,h1,by lia⟩
  ·rw[qC h1]at h;cases h
theorem Oz{xs:List α}{i:Int}{v:α}(h:Kk xs i=some v):∃j,seqIndex? i xs.length=some j/\xs[j]?=some v/\j<xs.length/\-(xs.length:Int)<=i/\i<xs.length:=by
 unfold Kk at h;cases e:Ox xs.length i with
 |none=>rw[e]at h;cases h
 |some j =>
  rw[e]at h;obtain⟨h1,h2,h3,h4⟩:=Oy e;exact⟨j,h1,h,h2,h3,h4⟩
theorem DI{xs:List α}{v:α}(h:xs[j]?=some v):Kk xs (j:Int)=some v:=by
 have hj:j<xs.length:=(bB.mp h).1
 have e:Ox xs.length (j:Int)=some j:=by unfold Ox;rw[qD (by lia),qD (by lia)];simp
 unfold Kk;rw[e];exact h
def O0(b:Expr):Prop:=∀o i,subscripted b false o i=operate [o,i] (getItem o i)
def Uh(X:Cx)(r:R2):Prop:=
 ∀(value slice:Expr) (ad:List (qP×Obj)) (s:qQ) (σ:St) (H:Hp) (x y:V) (v u:qO) (Q:VK),Ab X ad σ H s->BN x v->BN y u->r x y H Q ->
  subscripted slice false v u=operate [v,u] (getItem v u)->wpAny (model X.prog X.w) X.A (subscriptTail value slice v u) (EP X ad σ Q) X.xe s
def XM(X:Cx)(id:String)(r:V->List V->Hp->VK->Prop):Prop:=
 ∀(ad:List (qP×Obj)) (s:qQ) (σ:St) (H:Hp) (x:V) (xs:List V) (v:qO) (us:List qO) (Q:VK),Ab X ad σ H s->BN x v->Av xs us->r x xs H Q ->
  wpAny (model X.prog X.w) X.A (call (.builtin id) (v::us)) (EP X ad σ Q) X.xe s
variable{ys:List V}{its:List qO}{T:String}
section
variable{a b:Expr}{ta tb:TE}{pos:Pos}
theorem AO{r:R2}(hr:Uh X r)(ha:PE X a ta)(hb:PE X b tb)(hs:O0 b):PE X (.Subscript a b pos) (XI r ta tb):=by intro ad s σ H Q I h;exact Subscript_ (VU ha hb I h λv u s2 x y H2 I2 rx ry q=>hr a b ad s2 σ H2 x y v u Q I2 rx ry q (hs _ _))
def TQ(K:qT):R2:=λx y H Q=>∃p xs i v,x=.ref p/\y=.int i/\Ai K H p xs/\Kk xs i=some v/\Q v H
def TR(K:qT):R2:=λx y H Q=>∃p xs i v,x=.ref p/\y=.int i/\Am K H p xs/\Kk xs i=some v/\Q v H
theorem O1:Uh X (TQ X.K):=by
 intro value slice ad s σ H x y v u Q I rx ry h hs;refine byG λGq hGq=>?_;obtain⟨p,xs,i,z,rfl,rfl,hq,he,q⟩:=h;refine hGq ?_;clear hGq Gq;cases rx;obtain⟨t,rfl⟩:=ry;refine byG λGq hGq=>?_;obtain⟨its,r,pl,hz⟩:=I.list hq;refine hGq ?_;clear hGq Gq;refine byG λGq hGq=>?_;obtain⟨j,h1,h2,h3,h4,h5⟩:=Oz he;refine hGq ?_;clear hGq Gq;obtain⟨w,ew,rw'⟩:=r.get h2;have hl:=r.length;have hn:=LM;have fin:EP X ad σ Q w s:=⟨z,H,I,rw',q⟩
 by_cases h0:0<=i
 ·have hj:i.toNat=j:=by
   rw[seqIndex_of h0 h5]at h1;exact Option.some.inj h1
  exact item_listR pl.isList h0 (by lia) (by rw[hj];simpa using ew) fin hs
 ·have hj:(i+(its.toArray.size:Int)).toNat=j:=by
   rw[seqIndex_neg (by lia) h4]at h1;rw[bn,<-hl];exact Option.some.inj h1
  exact subscriptTail_builtinR (x:=w) pl.isList.typeIs slot_list_getitem.lookup
   (wpAny_getItem_list_neg (Q:=λr s'=>r=w/\EP X ad σ Q r s') pl.isList (by lia) (by rw[List.size_toArray]<;>lia) (by lia) (by rw[hj];simpa using ew) ⟨rfl,fin⟩) hs
theorem RC:Uh X (TR X.K):=by
 intro value slice ad s σ H x y v u Q I rx ry h hs;obtain⟨p,xs,i,z,rfl,rfl,hq,he,q⟩:=h;cases rx;obtain⟨t,rfl⟩:=ry;obtain⟨its,r,pl,hz⟩:=I.tuple hq;obtain⟨j,h1,h2,h3,h4,h5⟩:=Oz he;obtain⟨w,ew,rw'⟩:=r.get h2;have hl:=r.length;have hn:=LM;have fin:EP X ad σ Q w s:=⟨z,H,I,rw',q⟩
 exact subscriptTail_builtinR (x:=w) pl.typeIs slot_tuple_getitem.lookup
  (getItem_tuple (j:=j) (Q:=λr s'=>r=w/\EP X ad σ Q r s') pl (by lia) (by lia) (by rw[List.size_toArray,<-hl];exact h1) (by simpa using ew) ⟨rfl,fin⟩) hs
theorem No(its:List qO)(n j:Nat)(u:qO):Obj.mapSeq (·.setIfInBounds j u) {cls:=.type "list",data:=.seq its.toArray n}={cls:=.type "list",data:=.seq (its.set j u).toArray n}:=by simp[Obj.mapSeq]
theorem Ab.lst{p:qP}(I:Ab X ad σ H s)(h:H p=some (.lst xs)):
  ∃(its:List qO) (n:Nat),Av xs its/\s.heap.get? p=some {cls:=.type "list",data:=.seq its.toArray n}/\xs.length<=sizeLine:=by
 refine byG λGq hGq=>?_;obtain⟨z,its,n,r,e⟩:=I.hok p _ h;refine hGq ?_;clear hGq Gq;exact⟨its,n,r,e,z⟩
theorem Ab.lstUpd{p:qP}{its':List qO}{n n':Nat}{f:Obj->Obj}(I:Ab X ad σ H s)(h:H p=some (.lst xs))
  (ho:s.heap.get? p=some {cls:=.type "list",data:=.seq its.toArray n}) (hf:f {cls:=.type "list",data:=.seq its.toArray n}={cls:=.type "list",data:=.seq its'.toArray n'}) (r:Av ys its') (hz:ys.length<=sizeLine) (t:Nat):
  Ab X ad σ (Ak H p (.lst ys)) {s with heap:=s.heap.update p f,toks:=t}:=by
 have e:(s.heap.update p f).get? p=some {cls:=.type "list",data:=.seq its'.toArray n'}:=by rw[eJ f ho (by rw[hf]<;>rfl),hf]
 refine I.write (x:=p) (e:=p) (by rw[h];trivial) (.inl rfl) (λb u hb q=>(fO _ _ (Ne.symm hb)).trans q) ⟨_,e⟩ ?_;exact⟨hz,its',n',r,e⟩
def Xf:V->V->V->Hp->(Hp->Prop)->Prop:=λo i v H Q=>∃p xs k j,o=.ref p/\i=.int k/\H p=some (.lst xs)/\Ox xs.length k=some j/\Q (Ak H p (.lst (xs.set j v)))
theorem Iu:XY X Xf:=by
 intro ad s σ H o i v ov iv u Q I ro ri rv h;refine byG λGq hGq=>?_;obtain⟨p,xs,k,j,rfl,rfl,hp,hj,q⟩:=h;refine hGq ?_;clear hGq Gq;cases ro;obtain⟨t,rfl⟩:=ri;refine byG λGq hGq=>?_;obtain⟨its,n,r,ho,hz⟩:=I.lst hp;refine hGq ?_;clear hGq Gq;refine byG λGq hGq=>?_;obtain⟨h1,h2,h3,h4⟩:=Oy hj;refine hGq ?_;clear hGq Gq;have hl:=r.length;have hn:=LM
 have I':Ab X ad σ (Ak H p (.lst (xs.set j v))) {s with heap:=s.heap.update p (Obj.mapSeq (·.setIfInBounds j u))}:=
  I.lstUpd hp ho (No its n j u) (r.set rv j) (by rw[fI];exact hz) s.toks
 by_cases h0:0<=k
 ·have hk:k.toNat=j:=by
   rw[seqIndex_of h0 h4]at h1;exact Option.some.inj h1
  exact PySem.W.ki_setAt ho h0 (by lia) (by rw[bn,<-hl];exact h4) (by rw[hk];exact⟨_,I',q⟩)
 ·have hk:(k+(its.toArray.size:Int)).toNat=j:=by
   rw[seqIndex_neg (by lia) h3]at h1;rw[bn,<-hl];exact Option.some.inj h1
  exact PySem.W.ki_setBack ho (by lia) (by rw[bn,<-hl];exact h3) (by lia) (by rw[hk];exact⟨_,I',q⟩)
theorem LP(lo hi:Option Int)(n:Nat):(sliceBounds lo hi none n).1=((HT.KN n 0 lo:Nat):Int)/\(sliceBounds lo hi none n).2.1=((HT.KN n n hi:Nat):Int)/\(sliceBounds lo hi none n).2.2=1:=by
 refine⟨?_,?_,rfl⟩
 ·cases lo with
  |none=>simp[sliceBounds,HT.KN]
  |some i =>
   simp only[sliceBounds,HT.KN,Option.getD_none,show (1:Int)>0 by decide,if_true]
   by_cases h:i<0
   ·simp only[h,if_true]<;>lia
   ·simp only[h,if_false]<;>lia
 ·cases hi with
  |none=>simp[sliceBounds,HT.KN]
  |some i =>
   simp only[sliceBounds,HT.KN,Option.getD_none,show (1:Int)>0 by decide,if_true]
   by_cases h:i<0
   ·simp only[h,if_true]<;>lia
   ·simp only[h,if_false]<;>lia
theorem KO(its:List qO)(lo hi:Option Int):slicePick its.toArray lo hi none=((its.drop (HT.KN its.length 0 lo)).take (HT.KN its.length its.length hi-HT.KN its.length 0 lo)).toArray:=by obtain⟨h1,h2,h3⟩:=LP lo hi its.toArray.size;unfold slicePick;rw[h1,h2,h3];simp only[sliceRange_one,pick_run,List.size_toArray]<;>rfl
def Xg(K:qT):V->Option Int->Option Int->Hp->VK->Prop:=λx lo hi H Q=>∃a xs,x=.ref a/\Ai K H a xs/\∀p,H p=none->Q (.ref p) (Ak H p (.lst (LO xs lo hi)))
theorem LQ:ar X (Xg X.K):=by intro ad s σ H x v vl vu lo hi sl Q I rx hs pl pu h;refine byG λGq hGq=>?_;obtain⟨a,xs,rfl,hx,q⟩:=h;refine hGq ?_;clear hGq Gq;cases rx;refine byG λGq hGq=>?_;obtain⟨its,r,ht,hz⟩:=I.list hx;refine hGq ?_;clear hGq Gq;have hlen:=r.length;refine⟨"list",_,slot_list_getitem.lookup,ht.isList.typeIs,?_⟩;refine wpAny_getItem_list_slice ht.isList hs pl pu .none (by simp) ?_ (by rw[List.size_toArray]<;>lia);rw[KO,<-hlen];refine⟨.ref s.heap.objs.size,_,I.laid (t':=s.toks) (o:=.lst (LO xs lo hi)) (λb ob q=>bG _ q) (bD _) ?_,rfl,q _ (I.hok.fresh (bD _))⟩;exact⟨cF (ML xs lo hi) hz,_,0,(r.drop (HT.KN xs.length 0 lo)).take (HT.KN xs.length xs.length hi-HT.KN xs.length 0 lo),bV _ rfl⟩
noncomputable def GD:V->Bool
 |.non=>true
 |.bl _=>true
 |.int _=>true
 |.str _=>true
 |_=>false
noncomputable def Ui:V->V->Bool
 |.non,.non=>true
 |.bl a,.bl b=>a==b
 |.bl a,.int b=>(if a then 1 else 0)==b
 |.int a,.bl b=>a==(if b then 1 else 0)
 |.int a,.int b=>a==b
 |.str a,.str b=>a==b
 |_,_=>false
theorem Va{A:Around}{y x:V}{v:qO}(ry:BN y u)(rx:BN x v)(fy:GD y=true)(fx:GD x=true):SeqAt.EqAt A s u v (Ui y x):=by
 cases y with
 |non =>
  cases ry;cases x with
  |non=>cases rx;exact SeqAt.EqAt.same _
  |bl b=>cases rx;exact SeqAt.EqAt.none_bool b
  |int b=>obtain⟨t,rfl⟩:=rx;exact SeqAt.EqAt.none_int b t
  |str b=>obtain⟨t,rfl⟩:=rx;exact SeqAt.EqAt.none_str b t
  |_=>exact qE (show false=true from fx) bT
 |bl a =>
  cases ry;cases x with
  |non=>cases rx;exact SeqAt.EqAt.bool_none a
  |bl b=>cases rx;exact SeqAt.EqAt.bool_bool a b
  |int b=>obtain⟨t,rfl⟩:=rx;exact SeqAt.EqAt.bool_int a b t
  |str b=>obtain⟨t,rfl⟩:=rx;exact SeqAt.EqAt.bool_str a b t
  |_=>exact qE (show false=true from fx) bT
 |int a =>
  obtain⟨t',rfl⟩:=ry;cases x with
  |non=>cases rx;exact SeqAt.EqAt.int_none a t'
  |bl b=>cases rx;exact SeqAt.EqAt.int_bool a t' b
  |int b=>obtain⟨t,rfl⟩:=rx;exact SeqAt.EqAt.int_int a t' b t
  |str b=>obtain⟨t,rfl⟩:=rx;exact SeqAt.EqAt.int_str a t' b t
  |_=>exact qE (show false=true from fx) bT
 |str a =>
  obtain⟨t',rfl⟩:=ry;cases x with
  |non=>cases rx;exact SeqAt.EqAt.str_none a t'
  |bl b=>cases rx;exact SeqAt.EqAt.str_bool a t' b
  |int b=>obtain⟨t,rfl⟩:=rx;exact SeqAt.EqAt.str_int a t' b t
  |str b=>obtain⟨t,rfl⟩:=rx;exact SeqAt.EqAt.str_str a t' b t
  |_=>exact qE (show false=true from fx) bT
 |_=>exact qE (show false=true from fy) bT
noncomputable def TU(x:V)(u:qO):Bool:=match u with
 |.none=>Ui .non x
 |.bool b=>Ui (.bl b) x
 |.int i _=>Ui (.int i) x
 |.str z _=>Ui (.str z) x
 |_=>false
theorem RD{x y:V}(r:BN y u)(f:GD y=true):TU x u=Ui y x:=by
 cases y with
 |non=>cases r;rfl
 |bl b=>cases r;rfl
 |int i=>obtain⟨t,rfl⟩:=r;rfl
 |str z=>obtain⟨t,rfl⟩:=r;rfl
 |_=>exact qE (show false=true from f) bT
theorem LR{x:V}:∀{xs:List V} {us:List qO},Av xs us->xs.all GD=true->us.any (TU x)=xs.any λy=>Ui y x
 |_,_,.nil,_=>rfl
 |y::xs,u::us,.cons r t,f=>by rw[List.all_cons,cy]at f;rw[List.any_cons,List.any_cons,RD r f.1,LR t f.2]
theorem Iv{A:Around}{x:V}{v:qO}(rx:BN x v)(fx:GD x=true):∀{xs:List V} {us:List qO},Av xs us->xs.all GD=true->∀u∈us,SeqAt.EqAt A s u v (TU x u)
 |_,_,.nil,_=>λu hu=>by cases hu
 |y::xs,u::us,.cons r t,f=>λu' hu=>by
  rw[List.all_cons,cy]at f;rcases bi.mp hu with rfl|hu
  ·rw[RD r f.1];exact Va r rx f.1 fx
  ·exact Iv rx fx t f.2 u' hu
noncomputable def Zp(x:V)(xs:List V):Bool:=xs.any λy=>Ui y x
def aw(K:qT)(neg:Bool):R2:=λx y H Q=>∃p xs,y=.ref p/\(Ai K H p xs\/Am K H p xs)/\GD x=true/\xs.all GD=true/\Q (.bl (if neg then !Zp x xs else Zp x xs)) H
theorem LS:FM X (compareOp .NotIn) (aw X.K true):=by
 intro ad s σ H x y v u Q I rx ry h;refine byG λGq hGq=>?_;obtain⟨p,xs,rfl,hq,fx,fs,q⟩:=h;refine hGq ?_;clear hGq Gq;cases ry;rcases hq with hq|hq
 ·refine byG λGq hGq=>?_;obtain⟨its,r,pl,hz⟩:=I.list hq;refine hGq ?_;clear hGq Gq;refine SeqAt.notIn_listAt (TU x) pl.isList (λw hw=>Iv rx fx r fs w (by simpa using hw)) ⟨.bl _,H,I,rfl,?_⟩;rw[show its.toArray.any (TU x)=its.any (TU x) by simp,LR r fs];exact q
 ·refine byG λGq hGq=>?_;obtain⟨its,r,pl,hz⟩:=I.tuple hq;refine hGq ?_;clear hGq Gq;refine SeqAt.notIn_tupleAt (TU x) pl (λw hw=>Iv rx fx r fs w (by simpa using hw)) ⟨.bl _,H,I,rfl,?_⟩;rw[show its.toArray.any (TU x)=its.any (TU x) by simp,LR r fs];exact q
theorem GF:CJ X (.builtin "len") (λxs H Q=>∃p ys,xs=[.ref p]/\(Ai X.K H p ys\/Am X.K H p ys)/\Q (.int ys.length) H):=by
 intro ad s σ H xs us Q I r h;refine byG λGq hGq=>?_;obtain⟨p,ys,rfl,hq,q⟩:=h;refine hGq ?_;clear hGq Gq;obtain⟨u,rfl,rx⟩:=Dr r;cases rx;have hn:=LM;rcases hq with hq|hq
 ·refine byG λGq hGq=>?_;obtain⟨its,r',pl,hz⟩:=I.list hq;refine hGq ?_;clear hGq Gq;have hlen:=r'.length;exact Calls.call_len_list pl.isList (by simp only[List.size_toArray]<;>lia) ⟨.int ys.length,H,I.tok _,⟨s.toks+1,by rw[List.size_toArray,hlen]⟩,q⟩
 ·refine byG λGq hGq=>?_;obtain⟨its,r',pl,hz⟩:=I.tuple hq;refine hGq ?_;clear hGq Gq;have hlen:=r'.length;exact len_tuple pl (by simp only[List.size_toArray]<;>lia) ⟨.int ys.length,H,I.tok _,⟨s.toks+1,by rw[List.size_toArray,hlen]⟩,q⟩
theorem LU:CJ X (.type "list") (λxs H Q=>∃p ys,xs=[.ref p]/\(Ai X.K H p ys\/Am X.K H p ys)/\∀l,H l=none->Q (.ref l) (Ak H l (.lst ys))):=by
 intro ad s σ H xs us Q I r h;refine byG λGq hGq=>?_;obtain⟨p,ys,rfl,hq,q⟩:=h;refine hGq ?_;clear hGq Gq;obtain⟨u,rfl,rx⟩:=Dr r;cases rx
 have fin:∀(its:List qO),Av ys its->ys.length<=sizeLine->∀(h':Heap) (c':Nat),(∀b o',s.heap.get? b=some o'->h'.get? b=some o') ->
   h'.get? s.heap.objs.size=some {cls:=.type "list",dict:=none,data:=.seq its.toArray c',slots:=#[]}->EP X ad σ Q (.ref s.heap.objs.size) {s with heap:=h'}:=λits r' hz h' c' kp e =>
  ⟨.ref s.heap.objs.size,_,I.laid (t':=s.toks) kp (bD _) (show A5 X.prog X.w _ h' _ (.lst ys) from⟨hz,its,c',r',e⟩),rfl,q _ (I.hok.fresh (bD _))⟩
 rcases hq with hq|hq
 ·refine byG λGq hGq=>?_;obtain⟨its,r',pl,hz⟩:=I.list hq;refine hGq ?_;clear hGq Gq;have hlen:=r'.length;refine byG λGq hGq=>?_;obtain⟨o,ho,hc,n,hd⟩:=pl.isList;refine hGq ?_;clear hGq Gq;exact call_list_seq p (.inl rfl) ho hc hd (λh' c' kp e=>fin its r' hz h' c' kp e) (by simp only[List.size_toArray]<;>lia)
 ·refine byG λGq hGq=>?_;obtain⟨its,r',pl,hz⟩:=I.tuple hq;refine hGq ?_;clear hGq Gq;have hlen:=r'.length;refine byG λGq hGq=>?_;obtain⟨o,ho,hc,n,hd⟩:=pl;refine hGq ?_;clear hGq Gq;exact call_list_seq p (.inr rfl) ho hc hd (λh' c' kp e=>fin its r' hz h' c' kp e) (by simp only[List.size_toArray]<;>lia)
theorem Dk:CJ X (.type "tuple") (λxs H Q=>∃p ys,xs=[.ref p]/\((Ai X.K H p ys/\∀l,H l=none->Q (.ref l) (Ak H l (.tup ys)))\/(Am X.K H p ys/\Q (.ref p) H))):=by
 intro ad s σ H xs us Q I r h;obtain⟨p,ys,rfl,h⟩:=h;obtain⟨u,rfl,rx⟩:=Dr r;cases rx;rcases h with⟨hq,q⟩|⟨hq,q⟩
 ·obtain⟨its,r',pl,hz⟩:=I.list hq;have hlen:=r'.length;refine call_tuple_list pl.isList (λh' kp=>?_) (by simp only[List.size_toArray]<;>lia);have I1:Ab X ad σ H {s with heap:=h'}:=I.kept (t':=s.toks) kp
  have I2:Ab X ad σ (Ak H h'.objs.size (.tup ys)) {s with heap:=h'.push {cls:=.type "tuple",data:=.seq its.toArray}}:=
   I1.laid (t':=s.toks) (λb o e=>bG _ e) (bD _) (show A5 X.prog X.w _ _ _ (.tup ys) from⟨hz,its,r',IsTup.new _ _⟩)
  exact⟨.ref h'.objs.size,_,I2,rfl,q _ (I1.hok.fresh (bD _))⟩
 ·obtain⟨its,r',pl,hz⟩:=I.tuple hq;exact call_tuple_same pl ⟨.ref p,H,I,rfl,q⟩
def Z3(K:qT)(T:String)(x:V)(H:Hp):Prop:=match x with
 |.str _=>T="str"
 |.int _=>T="int"
 |.ref p=>(T="list"/\∃xs,Ai K H p xs)\/(T="tuple"/\∃o,K.lookup p=some o/\o.cls=.type "tuple"/\o.dict=none) \/
   (T="dict"/\((∃kvs,H p=some (.dK kvs))\/∃kvs,H p=some (.dT kvs)))\/(T="set"/\∃S n,H p=some (.set S n))
 |_=>False
theorem Vb{x:V}{v:qO}(I:Ab X ad σ H s)(r:BN x v)(ty:Z3 X.K T x H):
  s.TypeIs v T/\∀a,v=.ref a->∃ob,s.heap.get? a=some ob/\ob.dict=none:=by
 cases x with
 |str z =>
  obtain⟨t,rfl⟩:=r;cases (show T="str" from ty);exact⟨typeIs_str s z t,λ_ e=>nomatch e⟩
 |int i =>
  obtain⟨t,rfl⟩:=r;cases (show T="int" from ty);exact⟨typeIs_int s i t,λ_ e=>nomatch e⟩
 |ref p =>
  cases r;rcases ty with⟨rfl,xs,hq⟩|⟨rfl,o,hk,hc,hd⟩|⟨rfl,hk⟩|⟨rfl,S,n,hk⟩
  ·refine byG λGq hGq=>?_;obtain⟨its,_,pl,_⟩:=I.list hq;refine hGq ?_;clear hGq Gq;refine⟨pl.isList.typeIs,λa e=>?_⟩;cases e;refine byG λGq hGq=>?_;obtain⟨o,n,e,c,hd,_⟩:=pl;refine hGq ?_;clear hGq Gq;exact⟨o,e,hd⟩
  ·refine⟨⟨o,I.kIn p o hk,hc⟩,λa e=>?_⟩;cases e;exact⟨o,I.kIn _ o hk,hd⟩
  ·have z:∃o,s.heap.get? p=some o/\o.ExactDict:=by
    rcases hk with⟨kvs,hk⟩|⟨kvs,hk⟩
    ·refine byG λGq hGq=>?_;obtain⟨_,_,_,_,o,_,_,e,ex,_⟩:=I.hok p _ hk;refine hGq ?_;clear hGq Gq;exact⟨o,e,ex⟩
    ·refine byG λGq hGq=>?_;obtain⟨_,_,_,_,o,_,_,e,ex,_⟩:=I.hok p _ hk;refine hGq ?_;clear hGq Gq;exact⟨o,e,ex⟩
   obtain⟨o,e,ex⟩:=z;refine⟨⟨o,e,ex.1⟩,λa e2=>?_⟩;cases e2;exact⟨o,e,ex.2.1⟩
  ·refine byG λGq hGq=>?_;obtain⟨o,_,_,_,e,ex,_⟩:=I.hok p _ hk;refine hGq ?_;clear hGq Gq;refine⟨⟨o,e,ex.1⟩,λa e2=>?_⟩;cases e2;exact⟨o,e,ex.2.1⟩
 |_=>exact False.elim ty
def Zq(K:qT)(T:String)(r:V->List V->Hp->VK->Prop)(to:TE)(t:TA):TE:=λσ H Q=>to σ H λx H1=>Z3 K T x H1/\t σ H1 λxs H2=>r x xs H2 Q
variable{o e:Expr}{t:TA}{apos cpos:Pos}{id:String}{r:V->List V->Hp->VK->Prop}
theorem O2(pa:PlainAttrs T)(slot:Slot T name id)(hty:typeOf (.builtin id)=pure (.type "method_descriptor"))(hm:XM X id r)(ho:PE X o to)(ha:PA X (e::es) t)
  (hbase:attributeBase o name X.env (eval o X.env)=eval o X.env:=by rfl)
  (hfew:((backTo cpos (starEach (e::es) X.env)).all (λx=>!x.1)&&(backToKw cpos (keywordEach [] X.env)).all (λx=>x.1.isSome)
   && decide ((e::es).length+([]:List Keyword).length+(if ([]:List Keyword).isEmpty then 0 else 1)<30))=true:=by rfl)
  (hline:(apos.endLine==cpos.line)=true:=by rfl) (hs:starEach (e::es) X.env=(false,eval e X.env)::starEach es X.env:=by rfl) (hplain:(backTo cpos (starEach es X.env)).any (·.1)=false:=by rfl):
  PE X (.Call (.Attribute o name apos) (e::es) [] cpos) (Zq X.K T r to t):=by
 intro ad s σ H Q I h;refine wpAny_Call_method_late hbase hfew hline rfl (BU (ho ad s σ H _ I h) λv s1 z9=>?_);obtain⟨x,H1,I1,r1,ty,q1⟩:=z9;obtain⟨h1,h2⟩:=Vb I1 r1 ty;refine⟨T,id,pa,slot,hty,h1,h2,?_⟩;have hA:=ha cpos ad s1 σ H1 _ I1 q1;rw[hs]at hA⊢;refine Calls.callWith_builtin (by show (false||(backTo cpos (starEach es X.env)).any (·.1))=false;rw[hplain]<;>rfl) (Calls.evalArgs_plain ?_);exact BU hA λus s2 ⟨vs,H2,I2,r2,q2⟩=>hm ad s2 σ H2 x vs v us Q I2 r1 r2 q2
end
def ay(X:Cx)(id:String)(r:V->List V->Hp->VK->Prop):Prop:=
 ∀(ad:List (qP×Obj)) (s:qQ) (σ:St) (H:Hp) (x:V) (xs:List V) (v:qO) (us:List qO) (Q:VK),Ab X ad σ H s->BN x v->Av xs us->r x xs H Q ->
  wpAny (model X.prog X.w) X.A (call (.builtin id) (v::us)) (EP X ad σ Q) X.xe s
theorem Av.one:∀{x:V} {us:List qO},Av [x] us->∃u,us=[u]/\BN x u:=by
 intro _ _ r;cases r with
 |cons r t=>cases t;exact⟨_,rfl,r⟩
theorem Av.reverse(h:Av xs us):Av xs.reverse us.reverse:=by
 induction h with
 |nil=>exact .nil
 |cons r t ih=>rw[List.reverse_cons,List.reverse_cons];exact Av.append ih (.cons r .nil)
theorem Av.rep(h:Av xs us):∀k:Nat,Av (List.replicate k xs).flatten (List.replicate k us).flatten
 |0=>.nil
 |k+1=>by rw[cr,cr,eR,eR];exact Av.append h (Av.rep h k)
theorem Kl(its:List qO):∀(k:Nat) (ge:List qO),
  List.foldl (λx1 x2=>x1++x2) ge.toArray (List.replicate k its.toArray)=(ge++(List.replicate k its).flatten).toArray
 |0,ge=>by simp
 |k+1,ge=>by
  have e:ge.toArray++its.toArray=(ge++its).toArray:=by simp
  have e2:(ge++its)++(List.replicate k its).flatten=ge++(List.replicate (k+1) its).flatten:=by rw[cr,eR,dj]
  rw[<-e2,<-Kl its k (ge++its),<-e,cr,List.foldl_cons]
section
variable{l b:qP}{zs:List V}
theorem Ab.lset{its':List qO}{n:Nat}{f:Array qO->Array qO}{t':Nat}(I:Ab X ad σ H s)(hH:H l=some (.lst xs))
  (e:s.heap.get? l=some {cls:=.type "list",data:=.seq its.toArray n}) (hf:f its.toArray=its'.toArray) (hv:Av ys its') (hz:ys.length<=sizeLine):
  Ab X ad σ (Ak H l (.lst ys)) {s with heap:=s.heap.update l (Obj.mapSeq f),toks:=t'}:=by
 have q:=PySem.IsL.update e f;rw[hf]at q;refine I.write (x:=l) (e:=l) (by rw[hH];exact trivial) (.inl rfl) (λb' u hb hu=>(fO s.heap (Obj.mapSeq f) (Ne.symm hb)).trans hu) ⟨_,q⟩ ?_;exact⟨hz,its',_,hv,q⟩
theorem Ab.lnew(I:Ab X ad σ H s)(hv:Av ys its)(hz:ys.length<=sizeLine):
  Ab X ad σ (Ak H s.heap.objs.size (.lst ys)) {s with heap:=s.heap.push {cls:=.type "list",data:=.seq its.toArray},toks:=t'}:=
 I.laid (λ_ _ q=>bG _ q) (bD _) ⟨hz,its,0,hv,bV _ rfl⟩
theorem Ab.fresh(I:Ab X ad σ H s):H s.heap.objs.size=none:=I.hok.fresh (bD _)
theorem Ab.lstM(I:Ab X ad σ H s)(hH:H l=some (.lst xs)):xs.length<=sizeLine/\∃(its:List qO) (n:Nat),Av xs its/\xs.length=its.length/\s.heap.get? l=some {cls:=.type "list",data:=.seq its.toArray n}:=by refine byG λGq hGq=>?_;obtain⟨z,its,n,r,e⟩:=I.hok l _ hH;refine hGq ?_;clear hGq Gq;exact⟨z,its,n,r,r.length,e⟩
theorem MM{n:Nat}(h:n<=sizeLine):Builtin.List.listTooLong n=false:=by unfold Builtin.List.listTooLong;exact qG (by lia)
end
def LV:V->List V->Hp->VK->Prop:=λx vs H Q=>∃l xs y,x=.ref l/\vs=[y]/\H l=some (.lst xs)/\xs.length<sizeLine/\Q .non (Ak H l (.lst (xs++[y])))
theorem G4:ay X "list.append" LV:=by intro ad s σ H x vs v us Q I rx rv h;refine byG λGq hGq=>?_;obtain⟨l,xs,y,rfl,rfl,hH,hz,q⟩:=h;refine hGq ?_;clear hGq Gq;cases rx;obtain⟨u,rfl,ru⟩:=rv.one;refine byG λGq hGq=>?_;obtain⟨z,its,n,r,hl,e⟩:=I.lstM hH;refine hGq ?_;clear hGq Gq;refine call_meets F.slot_list_append ⟨_,e,rfl⟩ F.entry_list_append (F.args_list_append_2 _ _) (PySem.list_append l its.toArray n u (by rw[bn];lia)) ⟨e,?_⟩;refine⟨.non,_,I.lset (its':=its++[u]) hH e (by simp) (r.append (.cons ru .nil)) ?_,rfl,q⟩;rw[bC,bc];lia
def TV:V->List V->Hp->VK->Prop:=λx vs H Q=>∃l b xs zs,x=.ref l/\vs=[.ref b]/\H l=some (.lst xs)/\H b=some (.lst zs)/\xs.length+zs.length<=sizeLine/\Q .non (Ak H l (.lst (xs++zs)))
theorem Km:ay X "list.extend" TV:=by
 intro ad s σ H x vs v us Q I rx rv h;refine byG λGq hGq=>?_;obtain⟨l,b,xs,zs,rfl,rfl,hH,hB,hz,q⟩:=h;refine hGq ?_;clear hGq Gq;cases rx;obtain⟨u,rfl,ru⟩:=rv.one;cases ru;refine byG λGq hGq=>?_;obtain⟨z,its,n,r,hl,e⟩:=I.lstM hH;refine hGq ?_;clear hGq Gq;refine byG λGq hGq=>?_;obtain⟨z2,its2,n2,r2,hl2,e2⟩:=I.lstM hB;refine hGq ?_;clear hGq Gq;have hsz:its.toArray.size+its2.toArray.size<=sizeLine:=by rw[bn,bn];lia
 have hlong:¬(!its.toArray.isEmpty&&Builtin.List.listTooLong (its.toArray.size+its2.toArray.size))=true:=by rw[MM hsz,ej];exact bT
 refine call_meets F.slot_list_extend ⟨_,e,rfl⟩ F.entry_list_extend (F.args_list_extend_2 _ _)
  (AutoSeq1.list_extend_list_list_0 l its.toArray n b its2.toArray n2 hlong (by rw[bn];lia) (by lia)) ⟨e,e2,?_⟩
 refine⟨.non,_,I.lset (its':=its++its2) hH e (by simp) (r.append r2) ?_,rfl,q⟩;rw[bC];lia
def Xh:R2:=λx y H Q=>∃l b xs zs,x=.ref l/\y=.ref b/\H l=some (.lst xs)/\H b=some (.lst zs)/\xs.length+zs.length<=sizeLine/\∀p,H p=none->Q (.ref p) (Ak H p (.lst (xs++zs)))
theorem LW:FM X (binaryOp .Add) Xh:=by
 intro ad s σ H x y v u Q I rx ry h;refine byG λGq hGq=>?_;obtain⟨l,b,xs,zs,rfl,rfl,hH,hB,hz,q⟩:=h;refine hGq ?_;clear hGq Gq;cases rx;cases ry;refine byG λGq hGq=>?_;obtain⟨z,its,n,r,hl,e⟩:=I.lstM hH;refine hGq ?_;clear hGq Gq;refine byG λGq hGq=>?_;obtain⟨z2,its2,n2,r2,hl2,e2⟩:=I.lstM hB;refine hGq ?_;clear hGq Gq;refine PySem.P.add_list e e2 ?_ (by rw[bn,bn];lia);have ea:its.toArray++its2.toArray=(its++its2).toArray:=by simp
 rw[ea];exact⟨.ref _,_,I.lnew (t':=s.toks) (r.append r2) (by rw[bC];lia),rfl,q _ I.fresh⟩
def Xi:R2:=λx y H Q=>∃l k xs,x=.ref l/\y=.int k/\H l=some (.lst xs)/\-(2^63)<=k/\k<2^63/\xs.length*k.toNat<=sizeLine /\
 ∀p,H p=none->Q (.ref p) (Ak H p (.lst (List.replicate k.toNat xs).flatten))
theorem TW(xs:List α)(k:Nat):(List.replicate k xs).flatten.length=k*xs.length:=by
 induction k with
 |zero=>simp
 |succ k ih=>rw[cr,eR,bC,ih,Nat.succ_mul,gB]
theorem Iw:FM X (binaryOp .Mult) Xi:=by
 intro ad s σ H x y v u Q I rx ry h;refine byG λGq hGq=>?_;obtain⟨l,k,xs,rfl,rfl,hH,h1,h2,hz,q⟩:=h;refine hGq ?_;clear hGq Gq;cases rx;obtain⟨t,rfl⟩:=ry;refine byG λGq hGq=>?_;obtain⟨z,its,n,r,hl,e⟩:=I.lstM hH;refine hGq ?_;clear hGq Gq;have hlen:its.toArray.size*k.toNat<=sizeLine:=by rw[bn,<-hl];exact hz
 have hcap:¬its.toArray.size*k.toNat>(2^63-1)/8:=by
  have:(sizeLine:Nat)<=(2^63-1)/8:=by decide
  lia
 have hfit:¬(!Builtin.List.listFitsIndex k)=true:=by rw[fitsIndex_both h1 h2];exact bT
 have hlong:¬Builtin.List.listTooLong (its.toArray.size*k.toNat)=true:=by rw[MM hlen];exact bT
 have hnew:List.foldl (λx1 x2=>x1++x2) #[] (List.replicate (if its.toArray.isEmpty=true then 0 else k.toNat) its.toArray)=(List.replicate k.toNat its).flatten.toArray:=by
  have f0:∀m:Nat,List.foldl (λx1 x2=>x1++x2) #[] (List.replicate m its.toArray)=(List.replicate m its).flatten.toArray:=λm=>by have:=Kl its m [];rw[List.nil_append]at this;exact this
  rw[f0];cases its with
  |nil=>simp
  |cons a r'=>rw[qC (by simp)]
 refine wpAny_binaryOp_repeat_ref (T:="list") (U:="int") (by decide) ⟨_,e,rfl⟩ (λs'=>typeIs_int s' k t) noFill_list_mul F.fills_int_mul F.slot_int_rmul repeat_list F.slot_int_index.lookup
  (call_meets F.slot_int_rmul (typeIs_int s k t) F.entry_int_rmul (F.args_int_rmul_2 _ _) (int___rmul___int_list k t l its.toArray n)
   ⟨e,rfl,⟨_,e,rfl⟩,call_meets F.slot_list_mul ⟨_,e,rfl⟩ F.entry_list_mul (F.args_list_mul_2 _ _) (AutoListH.list___mul___list_int_3 l its.toArray n k t hfit hcap hlong) ⟨e,?_⟩⟩)
 rw[hnew];exact⟨.ref _,_,I.lnew (t':=s.toks) (r.rep k.toNat) (by rw[TW,fG];exact hz),rfl,q _ I.fresh⟩
end L2
namespace Att
open PySem PySem.W PySem.Calls PyProof.Rows
theorem ints_of_wellAll{P:Params}{h:Heap}:∀(ns:qU) (vs:List qO),WellAll P h vs (ns.map WData.int)->IntsAre vs ns:=by
 intro ns
 induction ns with
 |nil =>
  intro vs w;rw[f7]at w;cases w;exact .nil
 |cons n ns ih =>
  intro vs w;rw[cI]at w;cases w with
  |cons a b =>
   cases a;exact .cons _ _ (ih _ b)
theorem script_of{l:OpenLaw}{n:Nat}(hn:l.most=some n){P:Params}{h:Heap}{args:List WData}{vals:List qO}
  (hpre:l.row.toRowW.claim.pre args=true) (hwl:WellAll P h vals args):
  ∃a vs ns,vals=[Value.ref a]/\args=[WData.list (ns.map WData.int)]/\h.get? a=some {cls:=.type "list",data:=.seq vs.toArray}/\IntsAre vs ns/\ns.length<=n:=by
 have hsh:WShape.hasAll [] args [.list .int]=true:=(pre_splitW hpre).1;have hc:l.pre.holds [] {args:=args}=true:=(pre_splitW hpre).2;obtain⟨d,r,rfl,h1,h2⟩:=hasAllW_cons hsh;obtain rfl:=hasAllW_nil h2;obtain⟨xs,rfl,h3⟩:=hasW_list h1;obtain⟨ns,rfl⟩:=items_int h3
 have hlen:ns.length<=n:=by
  unfold OpenLaw.pre at hc
  have h4:(WTm.not (.lt (.lit (.int (n:Int))) (.len (.arg 0)))).holds [] {args:=[.list (ns.map .int)]}=true:=by have h4:=(holds_andW hc).1;rw[hn]at h4;exact h4
  have h5:=condW_of h4 (w_not (w_lt w_lit (w_len_list (w_arg rfl))));rw[a9]at h5;refine Nat.le_of_not_lt λq=>?_;have q':(n:Int)<((ns.length:Nat):Int):=by lia
  first
   | (rw[qF q']at h5;exact qE h5 (by decide))
   | (simp at h5;lia)
 cases hwl with
 |cons w1 w2 =>
  cases w2;cases w1 with
  |list ho hall=>exact⟨_,_,ns,rfl,rfl,ho,ints_of_wellAll ns _ hall,hlen⟩
theorem post_true(l:OpenLaw)(args:List WData):l.row.toRowW.claim.post args (.bool true) args=true:=
 postW_of (r:=l.row.toRowW) (X:=(true==true))
  (show WShape.has [] (.bool true) .bool=true by first|rfl|decide|simp[WShape.has,WShape.arms,WShape.armsAll])
  (show (WTm.eq .res (.lit (.bool true))).value [] {args:=args,res:=some (.bool true),after:=args}=some (.bool (true==true)) from w_eq_bool (w_res rfl) w_lit) rfl
theorem attach_call{l:OpenLaw}{n:Nat}{q:qR}{loose:List Str}{XP:(Str->Option qO)->Heap->Prop}{YP:qS->Heap->Prop}{d:DefRec}
  (hn:l.most=some n) (hdf:d.params.defaults=[])
  (call:∀(w:qS) (s₀ s₁:qQ) (mg mb:Str->Option qO) (fa:qP) (o:Obj) (pm cd doc:qO) (a:qP) (vs:List qO) (ns:qU),
   Ground q loose [] XP w s₀ mg mb s₁.heap->YP w s₁.heap ->
   s₁.heap.get? fa=some o->o.data=.func (docDef d.name d.params d.body d.scope pm cd doc)->s₁.heap.CodeRec cd d.name->mg d.name=some (.ref fa) ->
   s₁.heap.get? a=some {cls:=.type "list",data:=.seq vs.toArray}->IntsAre vs ns->ns.length<=n->s₁.gens=#[] ->
   codeAny (model l.prog w) callerA (.call (.ref fa) ⟨[.ref a],[]⟩) (λr s'=>r=.ok (.ret (.bool true))/\OldK s₁.heap s'.heap/\s'.os=s₁.os/\AllBare s'.gens) s₁):
  WalkO q loose XP YP l.row.toRowW d [] (λf vs=>PySem.call f vs):=by
 intro w s₀ s₁ mg mb G Y fa o pm cd doc dV kV ho hd hcd hD hmg hg args vals as hpre hlay hrd hwl hlo;obtain rfl:dV=.none:=Dflts.none hD hdf;obtain rfl:kV=.none:=Dflts.noKw hD;obtain⟨a,vs,ns,rfl,rfl,hobj,hints,hlen⟩:=script_of hn hpre hwl;refine enter_call (codeAny_mono (call w s₀ s₁ mg mb fa o pm cd doc a vs ns G Y ho (fd_plain hd) hcd hmg hobj hints hlen hg) λr s' hq=>?_);obtain⟨rfl,h2,h3,h4⟩:=hq;exact⟨.inl ⟨.bool true,.bool true,[],rfl,λ_=>rfl,.bool true,post_true l _,λ_=>⟨List.Pairwise.nil,λ_ hm=>(nomatch hm)⟩⟩,h2,h3,h4⟩
section
variable{prog:qR}{w:qS}{A:Around}{E:qO->qQ->Prop}{s:qQ}{K:Frag}
end
end Att
namespace L2
open PySem PySem.Spec PyProof.Rows
variable{H H':Hp}{X:Cx}{a:qP}{an od:Option qP}{gh doc oc pm:qO}{fd:FuncData}{k:Nat}{qual x:Str}{xs:List V}
theorem P9:∀{vs:List qO} {ns:qU},IntsAre vs ns->Av (ns.map V.int) vs:=by
 intro _ _ h
 induction h with
 |nil=>exact .nil
 |cons n t _ ih=>exact .cons ⟨t,rfl⟩ ih
def Vc(H:Hp):Prop:=∀b,H b=none\/∃o xs,H b=some (.frz o (.lst xs))
variable{vs:List qO}
theorem RE{P:qR}{w:qS}{K:qT}{mg mb:Str->Option qO}{CX:S5}{fa:qP}{fd:FuncData}{sp:Sp}{s₁:qQ}{ns:qU}
  (KX:K.In s₁.heap) (hns:s₁.heap.Ns mainGlobals mg) (hb:s₁.heap.Ns builtinsNs mb) (hbb:∀x:Str,x≠"__name__"->mb x=bootBuiltins x) (hlim:s₁.heap.NoLimit) (hg:s₁.gens=#[])
  (ha:s₁.heap.get? a=some {cls:=.type "list",data:=.seq vs.toArray}) (hi:IntsAre vs ns) (hl:ns.length<=sizeLine) (hr:B7 k callerA)
  (F:∀base:Heap,K.In base->base.Ns mainGlobals mg->Fp P w K mg base CX k fa fd [x] sp) (hbind:∀(s:qQ) (u:qO),BindsTo s fd ⟨[u],[]⟩ [(x,u)])
  (hsp:∀H:Hp,Vc H->Ai K H a (ns.map V.int)->sp [.ref a] H (λv _=>v=.bl true) λ_ _ _=>False)
  (hCX:∀H e s',CX [] H s₁ (λ_ _ _=>False) e s'->False):
  codeAny (model P w) callerA (.call (.ref fa) ⟨[.ref a],[]⟩) (λr s'=>r=.ok (.ret (.bool true))/\OldK s₁.heap s'.heap/\s'.os=s₁.os/\AllBare s'.gens) s₁:=by
 have rv:=P9 hi;have lenV:=hi.length
 have core:∀H:Hp,Vc H->Ai K H a (ns.map V.int)->Gu P w H s₁.heap->(∀b,H b≠none->b=a)->(H a≠none->K.lookup a=none) ->
   codeAny (model P w) callerA (.call (.ref fa) ⟨[.ref a],[]⟩) (λr s'=>r=.ok (.ret (.bool true))/\OldK s₁.heap s'.heap/\s'.os=s₁.os/\AllBare s'.gens) s₁:=by
  intro H hO hS hok hA hK;have base_of:∀{b:qP} {o:Obj},s₁.heap.get? b=some o->H b=none->(LL s₁.heap H).get? b=some o:=λe n=>Qz e n
  have noA:∀{b:qP} {o:Obj} {es:Array DictEntry} {ep:Nat},s₁.heap.get? b=some o->o.data=.dict es ep->H b=none:=λ{b o es ep} e d=>by
   cases q:H b with
   |none=>rfl
   |some u =>
    have e':b=a:=hA b (by rw[q];simp);subst e';rw[ha]at e;cases e;have d':Data.seq vs.toArray _=Data.dict es ep:=d;cases d'
  have nsK:∀{b:qP} {m:Str->Option qO},s₁.heap.Ns b m->(LL s₁.heap H).Ns b m:=λ{b m} ⟨o,es,ep,e,d,r⟩=>⟨o,es,ep,base_of e (noA e d),d,r⟩
  have hKb:K.In (LL s₁.heap H):=λb o e=>base_of (KX b o e) (by
   cases q:H b with
   |none=>rfl
   |some u =>
    have e':b=a:=hA b (by rw[q];simp);subst e';rw[hK (by rw[q];simp)]at e;cases e)
  have hM:Zm K mg (LL s₁.heap H):=⟨hKb,nsK hns,⟨mb,nsK hb,hbb⟩,let ⟨mc,h1,h2⟩:=hlim;⟨mc,nsK h1,h2⟩⟩;have e0:Nm P w K mg (LL s₁.heap H) callerA [] s₁ H:=⟨rfl,hM,λb o e=>TC e,Nat.le_of_eq (Pz _ _),trivial,λb hb=>qE (show b∈([]:List qP) from hb) (by simp),hok,.of_eq hg⟩;refine codeAny_mono ((F _ hKb (nsK hns)).run callerA [] s₁ H ⟨[.ref a],[]⟩ [.ref a] [.ref a] _ _ hr e0 (hbind s₁ (.ref a)) (.cons rfl .nil) (hsp H hO hS)) λr s' h=>?_;cases r with
  |error e=>exact (hCX H e s' h).elim
  |ok fl =>
   cases fl with
   |next=>exact False.elim h
   |brk=>exact False.elim h
   |cont=>exact False.elim h
   |ret u =>
    refine byG λGq hGq=>?_;obtain⟨v,H',os,bare,un,hok',r',q⟩:=h;refine hGq ?_;clear hGq Gq;have q':v=.bl true:=q;subst q';obtain rfl:u=Value.bool true:=r';refine⟨rfl,OldK.of_keep λb o e=>?_,os,bare⟩;cases q:H b with
    |none=>exact un.keep b o e q (by intro z;exact qE (show b∈([]:List qP) from z) (by simp)) (by simp)
    |some u =>
     rcases hO b with z|⟨ob,xs,z⟩
     ·rw[q]at z;cases z
     ·have z2:=un.frzs b ob _ z;obtain⟨e1,_⟩:=hok b _ z;obtain⟨e2,_⟩:=hok' b _ z2;rw[e]at e1;cases e1;exact e2
 cases hk:K.lookup a with
 |some o =>
  have e:=KX a o hk;rw[ha]at e;cases e;refine core (λ_=>none) (λ_=>.inl rfl) (.inr ⟨_,vs.toArray,_,hk,rfl,rfl,rfl,by rw[List.size_toArray,lenV];exact hl,by simpa using rv⟩) (λb u z=>by have z':(none:Option HO)=some u:=z;cases z') (λb z=>qE rfl z) λz=>qE rfl z
 |none =>
  refine core (λb=>if b=a then some (.frz {cls:=.type "list",data:=.seq vs.toArray} (.lst (ns.map V.int))) else none) (λb=>?_) (.inl (.inr ⟨{cls:=.type "list",data:=.seq vs.toArray},qD rfl⟩)) (λb u z=>?_) (λb z=>?_) λ_=>hk
  ·by_cases hb:b=a
   ·exact .inr ⟨_,_,qD hb⟩
   ·exact .inl (qC hb)
  ·by_cases hb:b=a
   ·have z':=(qD hb).symm.trans z;cases z';subst hb;exact⟨ha,by rw[a9];exact hl,vs,_,rv,ha⟩
   ·have z':=(qC hb).symm.trans z;cases z'
  ·by_cases hb:b=a
   ·exact hb
   ·exact qE (qC hb) z
theorem TX{l:PySem.W.OpenLaw}{n:Nat}{q:qR}{loose:List Str}{XP:(Str->Option qO)->Heap->Prop}{YP:qS->Heap->Prop}{d:DefRec}{K:Params->qT}{CX:qS->S5}{sp:qS->Sp}
  (hn:l.most=some n) (hn2:n<=sizeLine) (hdf:d.params.defaults=[]) (hr:B7 k callerA)
  (hY:∀(w:qS) (h:Heap),YP w h->(K w.params).In h)
  (F:∀(w:qS) (mg:Str->Option qO) (fa:qP) (h:Heap),(K w.params).In h->h.Ns mainGlobals mg->mg d.name=some (.ref fa) ->
   ∃fd:FuncData,(∀(s:qQ) (u:qO),BindsTo s fd ⟨[u],[]⟩ [(x,u)]) /\
    ∀base:Heap,(K w.params).In base->base.Ns mainGlobals mg->Fp l.prog w (K w.params) mg base (CX w) k fa fd [x] (sp w))
  (hsp:∀(w:qS) (H:Hp) (a:qP) (ns:qU),ns.length<=n->Vc H->Ai (K w.params) H a (ns.map V.int)->sp w [.ref a] H (λv _=>v=.bl true) λ_ _ _=>False)
  (hCX:∀(w:qS) (H:Hp) (s:qQ) (e:qO) (s':qQ),CX w [] H s (λ_ _ _=>False) e s'->False):
  PySem.W.WalkO q loose XP YP l.row.toRowW d [] (λf vs=>PySem.call f vs):=by
 refine Att.attach_call hn hdf λw s₀ s₁ mg mb fa o pm cd doc a vs ns G Y ho hd hcd hmg hobj hints hlen hg=>?_;have KX:=hY w _ Y;obtain⟨fd,hb,hF⟩:=F w mg fa _ KX G.T.g hmg;exact RE KX G.T.g G.T.b G.T.builtins G.T.nolimit hg hobj hints (cF hlen hn2) hr hF hb (λH hO hS=>hsp w H a ns hlen hO hS) λH e s'=>hCX w H s₁ e s'
def TY(s:Stmt)(j:Nat):Stmt:=match s with
 |.ClassDef _ _ _ body _ _ _ _ _ _ _=>body.getD j (.Pass ⟨0,0,0,0⟩)
 |_=>.Pass ⟨0,0,0,0⟩
def DJ(s:Stmt):Arguments:=match s with
 |.FunctionDef _ a _ _ _ _ _ _ _ _=>a
 |_=>{posonlyargs:=[],args:=[],vararg:=none,kwonlyargs:=[],kw_defaults:=[],kwarg:=none,defaults:=[]}
def BW(s:Stmt):List Stmt:=match s with
 |.FunctionDef _ _ b _ _ _ _ _ _ _=>b
 |_=>[]
def AG(s:Stmt):Scope:=match s with
 |.FunctionDef _ _ _ _ _ _ sc _ _ _=>sc
 |_=>{kind:=.function,names:=[],isGenerator:=false,isCoroutine:=false}
abbrev E0:XK:=λ_ _ _=>False
structure BX(K:qT)(x qual:Str)(st:Stmt)(f:qP)(fd:FuncData):Prop where
 ex:∃(oc:qO) (od:Option qP) (kV doc pm:qO) (an:Option qP) (gh ct:qO) (osl:Array (Option qO)),
  fd=PySem.W.fnOf x qual (DJ st) (BW st) (AG st) .none kV doc pm an gh ct/\K.lookup f=some ⟨oc,od,.func fd,osl⟩/\PySem.W.codeIn K gh qual=true
 kp:PySem.W.keepIn K (.ref f)=true
variable{st:Stmt}{osl:Array (Option qO)}
section
variable{P:qR}{w:qS}{K:qT}{mg:Str->Option qO}{base:Heap}
theorem BX.binds{f:qP}{ps:List Str}(F:BX K x qual st f fd)
  (h:∀(kV doc pm:qO) (an:Option qP) (gh ct:qO) (us:List qO),us.length=ps.length->bindArgs (PySem.W.fnOf x qual (DJ st) (BW st) (AG st) .none kV doc pm an gh ct) ⟨us,[]⟩=pure (ps.zip us)):Em K fd ps []:=by
 refine byG λGq hGq=>?_;obtain⟨oc,od,kV,doc,pm,an,gh,ct,osl,rfl,lk,hcd⟩:=F.ex;refine hGq ?_;clear hGq Gq;exact .all (h kV doc pm an gh ct)
theorem RF{f:qP}{kV ct:qO}(l:K.lookup f=some ⟨oc,od,.func (PySem.W.fnOf x qual (DJ st) (BW st) (AG st) .none kV doc pm an gh ct),osl⟩)
  (c:PySem.W.codeIn K gh qual=true) (k:PySem.W.keepIn K (.ref f)=true):BX K x qual st f (PySem.W.fnOf x qual (DJ st) (BW st) (AG st) .none kV doc pm an gh ct):=⟨⟨oc,od,kV,doc,pm,an,gh,ct,osl,rfl,l,c⟩,k⟩
end
theorem Dt{A:Around}(hr:B7 k A):A.units+1<cLine:=d7 (Nat.add_le_add_left (by decide:1<=64) _) hr.units
theorem AU{n:Nat}(h:n<=1000):n<sizeLine:=d7 h (by decide)
theorem pv(i:Nat){pos:Pos}(hN:X.N[i]?=some x:=by rfl)(hv:Zn X.env.scope x:=by first|exact Or.inl rfl|exact Or.inr (Or.inl rfl)|exact Or.inr (Or.inr rfl))(hd:(x==("__debug__":Str))=false:=by decide)
  (hcd:(x==("__classdict__":Str))=false:=by decide):PE X (.Name x pos) (VL i):=VM hN hv hd hcd
theorem G5{A B:Prop}(h:B):if false=true then A else B:=by rw[qC bT];exact h
theorem Xj{A B:Prop}(h:A):if true=true then A else B:=by rw[qD rfl];exact h
theorem IF{c A B:Prop}[Decidable c](h1:c->A)(h2:¬c->B):if c then A else B:=by
 by_cases h:c
 ·rw[qD h];exact h1 h
 ·rw[qC h];exact h2 h
def AH(H H':Hp):Prop:=∀b o,H b=some o->H' b=some o
theorem AH.refl(H:Hp):AH H H:=λ_ _ h=>h
variable{H1:Hp}
theorem AH.trans{H2:Hp}(a:AH H H1)(b:AH H1 H2):AH H H2:=λc o h=>b c o (a c o h)
theorem AH.free(e:AH H H'){l:qP}(h:H' l=Option.none):H l=Option.none:=by
 cases q:H l with
 |none=>rfl
 |some o =>
  rw[e l o q]at h;cases h
theorem AH.seq{K:qT}(e:AH H H')(h:Ai K H a xs):Ai K H' a xs:=by
 rcases h with (h|⟨o,h⟩)|h
 ·exact .inl (.inl (e _ _ h))
 ·exact .inl (.inr ⟨o,e _ _ h⟩)
 ·exact .inr h
end L2
set_option maxHeartbeats 4000000
set_option compiler.extract_closed false
set_option genSizeOfSpec false
namespace L2
open PySem PySem.Spec PyProof.Rows
variable{C a dx:qP}{CX:S5}{D:Gw}{E Q:qO->qQ->Prop}{H H':Hp}{X:Cx}{an od:Option qP}{gh doc oc pm u:qO}{ch:List qP}{es:List Expr}{fd:FuncData}{i k t':Nat}{name qual x:Str}{o:HO}{osl:Array (Option qO)}{ad:List (qP×Obj)}{s s':qQ}{scope:Scope}{st:Stmt}{t:TS}{ta:TA}{tg:Expr}{us:List qO}{xs:List V}{α β:Type}{σ:St}
noncomputable def Ef(o:Obj):Option qO:=match o.data with
 |.fields vs=>vs[2]?
 |_=>none
def DK(h h':Heap):Prop:=h.objs.size<=h'.objs.size/\∀(b:Nat) (o o':Obj),h.objs[b]?=some o->h'.objs[b]?=some o'->o'.dict=o.dict/\Ef o'=Ef o
theorem DK.refl(h:Heap):DK h h:=⟨bD _,λb o o' e e'=>by rw[e]at e';cases e';exact⟨rfl,rfl⟩⟩
variable{h1:Heap}
theorem DK.trans{h2 h3:Heap}(x:DK h1 h2)(y:DK h2 h3):DK h1 h3:=⟨cF x.1 y.1,λb o o' e e'=>by obtain⟨hb,_⟩:=Array.getElem?_eq_some_iff.mp e;have q:h2.objs[b]?=some (h2.objs[b]'(bQ hb x.1)):=ez (bQ hb x.1);exact⟨(y.2 b _ o' q e').1.trans (x.2 b o _ e q).1,(y.2 b _ o' q e').2.trans (x.2 b o _ e q).2⟩⟩
theorem RG{h:Heap}{o:Obj}(e:h.get? a=some o):h.objs[a]?=some o:=by
 unfold Heap.get? at e
 split at e
 ·cases e
 ·exact e
theorem DK.get{h h':Heap}{o o':Obj}(x:DK h h')(e:h.get? a=some o)(e':h'.get? a=some o'):o'.dict=o.dict/\Ef o'=Ef o:=x.2 a o o' (RG e) (RG e')
theorem DK.push(h:Heap)(o:Obj):DK h (h.push o):=by
 refine⟨?_,λb u u' e e'=>?_⟩
 ·rw[cx];exact dS _
 ·have hb:=(Array.getElem?_eq_some_iff.mp e).1;have q:(h.push o).objs[b]?=h.objs[b]?:=by show (h.objs.push o)[b]?=_;rw[Array.getElem?_push_lt hb,ez hb]
  rw[q,e]at e';cases e';exact⟨rfl,rfl⟩
theorem DK.update(h:Heap)(a:qP){f:Obj->Obj}(k:∀o,(f o).dict=o.dict/\Ef (f o)=Ef o):DK h (h.update a f):=by
 have q:(h.update a f).objs=h.objs.modify a f:=rfl;refine⟨by rw[q,Array.size_modify];exact bD _,λb u u' e e'=>?_⟩;rw[q,Array.getElem?_modify]at e'
 split at e'
 ·rw[e]at e';cases e';exact k u
 ·rw[e]at e';cases e';exact⟨rfl,rfl⟩
noncomputable def KT{α:Type}:Sem α->Prop
 |.rule _ k=>∀u,KT (k u)
 |.at _ k=>∀u,KT (k u)
 |.load _ _ k=>∀u,KT (k u)
 |.update _ _ f k=>(∀o,(f o).dict=o.dict/\Ef (f o)=Ef o)/\∀u,KT (k u)
 |.loadIfAlive _ k=>∀u,KT (k u)
 |.point _ k=>∀u,KT (k u)
 |.alloc _ k=>∀u,KT (k u)
 |.fresh k=>∀u,KT (k u)
 |.ask k=>∀u,KT (k u)
 |.handled _ k=>∀u,KT (k u)
 |.stack k=>∀u,KT (k u)
 |.thread k=>∀u,KT (k u)
 |.pure _=>True
 |.raise _=>True
 |.unsupported _=>True
 |.finish _=>True
 |_=>False
theorem KT.keep{M:Model}{Γ:PySem.Ctx}:∀(t:Sem α),KT t->∀(Q:α->Pos->qQ->Prop) (E:qO->Pos->qQ->Prop) (p:Pos) (s:qQ),Sem.wp M Γ t Q E p s ->
  Sem.wp M Γ t (λa p' s'=>Q a p' s'/\DK s.heap s'.heap) (λe p' s'=>E e p' s'/\DK s.heap s'.heap) p s:=by
 intro t
 induction t with
 |pure x=>exact λ_ Q E p s h=>⟨h,DK.refl _⟩
 |raise v=>exact λ_ Q E p s h=>⟨h,DK.refl _⟩
 |unsupported|finish=>exact λ_ Q E p s h=>h
 |yield|fork|await|register|choose|os|call|genState|newGen|resume=>exact λk=>k.elim
 |rule _ k ih|«at» _ k ih|point _ k ih|loadIfAlive _ k ih|fresh k ih|ask k ih|handled _ k ih|stack k ih|thread k ih=>exact λz Q E p s h=>ih _ (z _) Q E _ _ h
 |alloc o k ih=>exact λz Q E p s h=>Sem.wp_mono _ _ _ (λa p' s' q=>⟨q.1,(DK.push _ _).trans q.2⟩) (λa p' s' q=>⟨q.1,(DK.push _ _).trans q.2⟩) _ _ (ih _ (z _) Q E _ _ h)
 |load a _ k ih=>exact λz Q E p s ⟨o,ho,h⟩=>⟨o,ho,ih _ (z _) Q E _ _ h⟩
 |update a _ f k ih=>exact λz Q E p s ⟨ha,h⟩=>⟨ha,Sem.wp_mono _ _ _ (λa p' s' q=>⟨q.1,(DK.update _ _ z.1).trans q.2⟩) (λa p' s' q=>⟨q.1,(DK.update _ _ z.1).trans q.2⟩) _ _ (ih _ (z.2 _) Q E _ _ h)⟩
theorem KT.run{M:Model}{A:Around}{t:Sem α}{Q:α->qQ->Prop}(k:KT t)(h:wpAny M A t Q E s):
  wpAny M A t (λa s'=>Q a s'/\DK s.heap s'.heap) (λe s'=>E e s'/\DK s.heap s'.heap) s:=λΓ p hΓ=>KT.keep t k _ _ p s (h Γ p hΓ)
theorem KT.bind{m:Sem α}{f:α->Sem β}(a:KT m)(b:∀x,KT (f x)):KT (m >>= f):=by
 show KT (m.bind f)
 induction m with
 |pure x=>exact b x
 |raise v=>exact a
 |unsupported|finish=>exact a
 |yield|fork|await|register|choose|os|call|genState|newGen|resume=>exact a.elim
 |rule _ k ih|«at» _ k ih|point _ k ih|loadIfAlive _ k ih|fresh k ih|ask k ih|handled _ k ih|stack k ih|thread k ih|alloc _ k ih|load _ _ k ih=>exact λu=>ih u (a u)
 |update _ _ f' k ih=>exact⟨a.1,λu=>ih u (a.2 u)⟩
theorem KT.pure(x:α):KT (Pure.pure x:Sem α):=trivial
theorem KT.ite{c:Prop}[Decidable c]{a b:Sem α}(x:KT a)(y:KT b):KT (if c then a else b):=by split<;>assumption
theorem Fg(x:String):KT (PySem.unsupported x:Sem α):=trivial
theorem LX(a:qP):KT (PySem.load a):=λ_=>trivial
theorem MN(v:qO):KT (fieldsOf v):=by
 unfold fieldsOf;split
 ·refine KT.bind (LX _) λo=>?_;split
  ·exact KT.pure _
  ·exact Fg _
 ·exact Fg _
theorem GG(v:qO)(i:Nat):KT (field v i):=by
 unfold field;refine KT.bind (MN v) λo=>?_;split
 ·exact KT.pure _
 ·exact Fg _
theorem En(v x:qO)(i:Nat)(hi:i≠2):KT (setField v i x):=by
 unfold setField;split
 ·unfold updateField;refine KT.bind (LX _) λo=>?_;split
  ·refine KT.ite ⟨λo=>?_,λ_=>trivial⟩ (Fg _);obtain⟨c,d,dt,sl⟩:=o;cases dt with
   |fields vs=>exact⟨rfl,Array.getElem?_setIfInBounds_ne hi⟩
   |_=>exact⟨rfl,rfl⟩
  ·exact Fg _
 ·exact Fg _
theorem LY(e:qO)(f:Option qP):KT (setFlight e f):=by unfold setFlight;refine KT.bind (GG _ _) λtb=>?_;exact KT.ite (En _ _ _ (by decide)) (KT.pure _)
theorem Ix:KT PySem.stack:=λ_=>trivial
theorem MO:∀l:List Env,KT (readyFrames l)
 |[]=>trivial
 |env::outer=>by
  unfold readyFrames;split
  ·refine KT.bind (LX _) λo=>KT.ite (KT.pure _) ?_
   refine KT.bind ?_ λi=>KT.bind ?_ λback=>KT.bind ⟨λo=>⟨rfl,rfl⟩,λ_=>trivial⟩ λ_=>MO outer
   ·unfold behindIsImport;exact KT.ite (KT.pure _) (KT.ite (KT.pure _) (KT.bind (GG _ _) λ_=>KT.pure _))
   ·unfold keptBack;split
    ·refine KT.ite (KT.pure _) (KT.bind ?_ λ_=>KT.pure _);unfold underTheClaimsCaller;exact KT.bind Ix λ_=>KT.pure _
    ·exact KT.pure _
  ·exact Fg _
theorem Np(env:Env):KT (PySem.frameOf env):=by
 unfold PySem.frameOf frameEnvs;refine KT.bind (KT.bind Ix λ_=>KT.pure _) λl=>KT.bind ?_ λr=>?_
 ·unfold frameObject;split
  ·exact KT.pure _
  ·exact KT.bind (MO _) λ_=>KT.pure _
 ·split
  ·exact KT.pure _
  ·exact Fg _
theorem LZ(ty:String)(vs:List qO):KT (newFields ty vs):=by
 unfold newFields newObj;dsimp only;split
 ·exact Fg _
 ·exact λ_=>trivial
theorem RH(f:qP)(b:Bool):KT (entryPlaceOf f b):=by
 unfold entryPlaceOf;refine KT.bind Ix λ_=>?_
 split<;>exact KT.pure _
theorem TZ(e:qO)(env:Env):KT (noteFrame e env):=by
 have last:∀h:qO,∀f:qP,KT (do setField e 1 (<-EntryCells.newEntry h (<-PySem.frameOf env) .none (rawInt f) .none (<-entryPlaceOf f (h != .none)))):=λh f =>
  KT.bind (Np env) λ_=>KT.bind (RH _ _) λ_=>KT.bind (LZ _ _) λ_=>En _ _ _ (by decide)
 unfold noteFrame;split
 ·refine KT.bind (GG _ _) λh=>?_;split
  ·refine KT.bind (GG _ _) λx=>KT.ite (KT.pure _) (KT.bind (En _ _ _ (by decide)) λ_=>last h _)
  ·exact last h _
 ·exact Fg _
theorem Fq(e:qO)(env:Env):KT (leaving env e):=by unfold leaving;exact KT.bind (TZ _ _) λ_=>LY _ _
structure Xk(nc:Bool)(P:qR)(w:qS)(outer:List Env)(H:Hp)(s:qQ)(a:qP)(cls a0:qO)(D:Option qP)(B:Heap)(H':Hp)(s':qQ):Prop where
 os:s'.os=s.os
 bare:AllBare s'.gens
 un:Un (DZ outer) [] H H' s.heap s'.heap
 hok:Gu P w H' s'.heap
 fly:Heap.FlyingW B outer a cls a0 s'.heap
 old:∀b o,s.heap.get? b=some o->b∉DZ outer->∀o',s'.heap.get? b=some o'->B.get? b=some o'
 trk:∀b u,H' b=some u->∀o',s'.heap.get? b=some o'->B.get? b=some o'
 dct:∃oe,s'.heap.get? a=some oe/\oe.dict=D
 ctx:nc=true->∃oe,s'.heap.get? a=some oe/\Ef oe=some .none
def Kn(nc:Bool)(P:qR)(w:qS):S5:=λouter H s E e s'=>∃a cls a0 D B H',e=.ref a/\Xk nc P w outer H s a cls a0 D B H' s'/\E cls D H'
abbrev KJ(P:qR)(w:qS):S5:=Kn false P w
theorem A5.somewhere{P:qR}{w:qS}{h:Heap}(x:A5 P w H h a o):∃ob,h.get? a=some ob:=by
 cases o with
 |lst xs=>obtain⟨_,_,_,_,e⟩:=x;exact⟨_,e⟩
 |tup xs=>obtain⟨_,_,_,ob,e,_⟩:=x;exact⟨ob,e⟩
 |dK kvs=>obtain⟨_,_,_,_,ob,_,_,e,_⟩:=x;exact⟨ob,e⟩
 |dT kvs=>obtain⟨_,_,_,_,ob,_,_,e,_⟩:=x;exact⟨ob,e⟩
 |set S n=>obtain⟨ob,_,_,_,e,_⟩:=x;exact⟨ob,e⟩
 |ins C dx fs=>obtain⟨_,_,_,e,_⟩:=x;exact⟨_,e⟩
 |own y=>exact x
 |xd fs=>obtain⟨_,⟨ob,_,_,e,_⟩,_⟩:=x;exact⟨ob,e⟩
 |rng lo hi=>obtain⟨_,_,_,e⟩:=x;exact⟨_,e⟩
 |frz ob u=>obtain⟨e,_⟩:=x;exact⟨ob,e⟩
 |tbl ps=>exact⟨_,(show h.get? a=some _ from x)⟩
 |met f y=>exact⟨_,(show h.get? a=some _ from x)⟩
 |ext φ=>obtain⟨_,e,_⟩:=x;exact e
variable{nc:Bool}{cls:qO}
section
variable{h':Heap}
theorem Ab.slotted(I:Ab X ad σ H s)(k:∀b o,s.heap.get? b=some o->b∉DZ X.stack->h'.get? b=some o)
  (f:∀b o,s.heap.get? b=some o->b∈DZ X.stack->∃sl,h'.get? b=some {o with slots:=sl}):Ab X ad σ H {s with heap:=h',toks:=t'}:=by
 have u:Un (DZ X.stack) [] H H s.heap h':=⟨λb o e _ hb _=>k b o e hb,λb o e _ hb _=>f b o e hb,λ_ _ _ n _=>n,λb o e _=>by
  by_cases hb:b∈DZ X.stack
  ·obtain⟨sl,q⟩:=f b o e hb;exact⟨_,q⟩
  ·exact⟨o,k b o e hb⟩,λ_ _ q=>q,λ_ _ _ q=>q,λb ps q=>⟨#[],by rw[q];simp⟩⟩
 have hok:Gu X.prog X.w H h':=λb u q=>(I.hok b u q).stay (λc v hc r=>k c v r λhm=>by
  have z:=I.stkFree c hm;rcases hc with e|e
  ·rw[e,q]at z;cases z
  ·rw[e]at z;cases z) (λ_ q=>q) λ_ _ q=>q
 exact I.call (g':=s.gens) (d':=s.drawn) (ch:=[]) u hok I.bare (λb z=>qE z (by simp))
theorem Ab.frameData(I:Ab X ad σ H s){b:qP}{o:Obj}(e:s.heap.get? b=some o)(hb:b∈DZ X.stack):∀vs,o.data≠.fields vs:=by obtain⟨_,o',e',nf⟩:=I.stack.mem hb;rw[e]at e';cases e';exact nf
theorem Xk.unAt{a0:qO}{D:Option qP}{B:Heap}(I:Ab X ad σ H s)(F:Xk nc X.prog X.w X.stack H s a cls a0 D B H' s')(hB:B.StaysIn h')(sm:s'.heap.UpToSlots h'):
  Un (DZ X.stack) [] H H' s.heap h'/\Gu X.prog X.w H' h':=by
 have up:∀b o,s.heap.get? b=some o->b∈DZ X.stack->∃sl,h'.get? b=some {o with slots:=sl}:=λb o e hb=>by obtain⟨sl,e1⟩:=F.un.slot b o e (I.stkFree b hb) hb (by simp);obtain⟨sl',e2⟩:=sm b _ e1 (show ∀vs,o.data≠.fields vs from I.frameData e hb);exact⟨sl',e2⟩
 refine⟨⟨λb o e n hb hx=>hB b o (F.old b o e hb o (F.un.keep b o e n hb hx)),λb o e _ hb _=>up b o e hb,F.un.free,λb o e hx=>?_,F.un.tups,F.un.frzs,F.un.tbls⟩,λb u q=>?_⟩
 ·by_cases hb:b∈DZ X.stack
  ·obtain⟨sl,q⟩:=up b o e hb;exact⟨_,q⟩
  ·obtain⟨o',e1⟩:=F.un.there b o e hx;exact⟨o',hB b o' (F.old b o e hb o' e1)⟩
 ·refine (F.hok b u q).stay (λc v hc r=>?_) (λ_ q=>q) λ_ _ q=>q
  rcases hc with e|e
  ·subst e;exact hB c v (F.trk c u q v r)
  ·exact hB c v (F.trk c _ e v r)
theorem Xk.land{a0:qO}{D:Option qP}{B:Heap}(I:Ab X ad σ H s)(F:Xk nc X.prog X.w X.stack H s a cls a0 D B H' s')(hB:B.StaysIn h')(sm:s'.heap.UpToSlots h'):Ab X ad σ H' {s' with heap:=h',toks:=t'}:=by obtain⟨u,hok⟩:=F.unAt I hB sm;exact I.call' (s':={s' with heap:=h',toks:=t'}) (ch:=[]) F.os u hok F.bare (λb z=>qE z (by simp))
def Eo(a:qP)(cls:qO)(D:Option qP)(n:Bool)(h:Heap):Prop:=∃o vs,h.get? a=some o/\o.cls=cls/\o.data=.fields vs/\o.dict=D/\(n=true->∃t:qP,vs=#[.ref t,.none,.none,.none,.bool false,.none])
noncomputable def O3(a:qP)(cls:qO)(D:Option qP)(n:Bool):HO:=.ext (Eo a cls D n)
end
def RI(X:Cx)(C:qO)(E:XK):Prop:=
 ∀(ad:List (qP×Obj)) (σ:St) (H:Hp) (s:qQ) (h':Heap) (e:qP) (args:List qO),Ab X ad σ H s->Heap.MadeExcOf s.heap h' e C args->E C none H->X.xe (.ref e) {s with heap:=h'}
def De(CX:S5)(X:Cx)(E:St->XK):Prop:=∀(ad:List (qP×Obj)) (σ:St) (H:Hp) (s:qQ) (e:qO) (s':qQ),Ab X ad σ H s->CX X.stack H s (E σ) e s'->X.xe e s'
section
variable{P:qR}{w:qS}{K:qT}{mg:Str->Option qO}{base:Heap}{N:List Str}{f:qP}{cd:qO}{A:Around}{outer:List Env}{E:XK}
theorem Ap{C:qO}:RI (Dj (Kn nc P w) P w K mg base N qual scope f cd A outer s H E) C E:=by
 intro ad σ H1 s1 h1 e args I hx hE;generalize hX:Dj (Kn nc P w) P w K mg base N qual scope f cd A outer s H E=X at I⊢;have hst:X.stack=X.env::X.outer:=by rw[<-hX];rfl
 have hfr:X.env.frame=some X.env.locals:=by rw[<-hX];rfl
 have hxe:X.xe=λe s'=>wpAny (model P w) X.A (leaving X.env e) (λ_ s''=>Kn nc P w X.outer X.H₀ X.s₀ E e s'') (λe' s''=>Kn nc P w X.outer X.H₀ X.s₀ E e' s'') s':=by rw[<-hX];rfl
 have hex:X.ex=[]:=by rw[<-hX];rfl
 have hp:X.prog=P:=by rw[<-hX];rfl
 have hw:X.w=w:=by rw[<-hX];rfl
 subst hp hw;rw[hxe];have fr:=I.stack;have hin:∀env∈X.stack,∀b,env.frame=some b->b∈DZ X.stack:=λenv he b hb=>d6.mpr ⟨env,he,hb⟩
 have fr':s1.heap.FunFrames (PySem.W.hideAll s1.heap (DZ X.stack)) (X.env::X.outer):=by rw[<-hst];exact PySem.W.funFrames_hide fr hin
 refine qK (KT.run (Fq _ _) (wpAny_leaves_madeW (Q:=λ_ s2=>∃h2 t,s2={s1 with heap:=h2}/\Heap.FlyingW (PySem.W.hideAll s1.heap (DZ X.stack)) X.outer e C (.ref t) h2/\h1.UpToSlots h2) (E:=λ_ _=>False) (base:=PySem.W.hideAll s1.heap (DZ X.stack)) (h:=s1.heap) (L:=X.env.locals) (by rw[<-hst];exact I.ok.frames) hfr (λb o q=>PySem.W.of_hideAll _ q) fr' hx λh2 t x1 x2 x3 x4=>⟨h2,t,rfl,x1,x4⟩)) (λ_ s2 q=>?_) λ_ _ q=>q.1.elim
 obtain⟨⟨h2,t,rfl,x1,x4⟩,dk⟩:=q;have kept:∀b o,s1.heap.get? b=some o->b∉DZ X.stack->h2.get? b=some o:=λb o q hb=>x1.1 b o (c5 _ q hb)
 have J:Ab X ad σ H1 {s1 with heap:=h2,toks:=s1.toks}:=I.slotted kept λb o q hb=>x4 b o (hx.keeps b o q) (I.frameData q hb)
 have un:Un (DZ X.outer) [] X.H₀ H1 X.s₀.heap h2:=by have z:=J.base;rw[hex]at z;exact z
 have hdc:∃oe,h2.get? e=some oe/\oe.dict=none:=by obtain⟨ob,hob,_⟩:=x1.there;obtain⟨t',he,_,_⟩:=hx.there;exact⟨ob,hob,(dk.get he hob).1.trans rfl⟩
 have hcx:∃oe,h2.get? e=some oe/\Ef oe=some .none:=by obtain⟨ob,hob,_⟩:=x1.there;obtain⟨t',he,_,_⟩:=hx.there;exact⟨ob,hob,(dk.get he hob).2.trans rfl⟩
 refine⟨e,C,.ref t,none,_,H1,rfl,⟨J.os,J.bare,un,J.hok,x1,λb o q hb o' q'=>?_,λb u q o' q'=>?_,hdc,λ_=>hcx⟩,hE⟩
 ·obtain⟨o1,q1⟩:=I.base.there b o q (by rw[hex];simp)
  have hn:b∉DZ X.stack:=λz=>by
   rcases bi.mp (I.stkSub b z) with y|y
   ·exact qE (bQ (bM q) I.ok.above) (by rw[y];exact bx _)
   ·exact hb y
  have q2:=kept b o1 q1 hn;rw[q']at q2;cases q2;exact c5 _ q1 hn
 ·have hn:b∉DZ X.stack:=λz=>by
   have y:=I.stkFree b z;rw[q]at y;cases y
  obtain⟨o1,r⟩:=(I.hok b u q).somewhere;have q2:=kept b o1 r hn;rw[q']at q2;cases q2;exact c5 _ r hn
theorem Ac:De (Kn nc P w) (Dj (Kn nc P w) P w K mg base N qual scope f cd A outer s H E) (λ_=>E):=by
 intro ad σ H1 s1 e s2 I h;generalize hX:Dj (Kn nc P w) P w K mg base N qual scope f cd A outer s H E=X at I h⊢;have hst:X.stack=X.env::X.outer:=by rw[<-hX];rfl
 have hfr:X.env.frame=some X.env.locals:=by rw[<-hX];rfl
 have hxe:X.xe=λe s'=>wpAny (model P w) X.A (leaving X.env e) (λ_ s''=>Kn nc P w X.outer X.H₀ X.s₀ E e s'') (λe' s''=>Kn nc P w X.outer X.H₀ X.s₀ E e' s'') s':=by rw[<-hX];rfl
 have hex:X.ex=[]:=by rw[<-hX];rfl
 have hp:X.prog=P:=by rw[<-hX];rfl
 have hw:X.w=w:=by rw[<-hX];rfl
 subst hp hw;rw[hxe];refine byG λGq hGq=>?_;obtain⟨a,cls,a0,D,B,H',rfl,F,hE⟩:=h;refine hGq ?_;clear hGq Gq;have fl:Heap.FlyingW B (X.env::X.outer) a cls a0 s2.heap:=by rw[<-hst];exact F.fly
 refine qK (KT.run (Fq _ _) (wpAny_leaves_onW (Q:=λ_ s3=>∃h3,s3={s2 with heap:=h3}/\Heap.FlyingW B X.outer a cls a0 h3/\s2.heap.UpToSlots h3) (E:=λ_ _=>False) (by rw[<-hst];exact I.ok.frames) hfr fl λh3 x1 x2=>⟨h3,rfl,x1,x2⟩)) (λ_ s3 q=>?_) λ_ _ q=>q.1.elim
 refine byG λGq hGq=>?_;obtain⟨⟨h3,rfl,x1,x2⟩,dk⟩:=q;refine hGq ?_;clear hGq Gq;have J:Ab X ad σ H' {s2 with heap:=h3,toks:=s2.toks}:=F.land I x1.1 x2;have un:Un (DZ X.outer) [] X.H₀ H' X.s₀.heap h3:=by have z:=J.base;rw[hex]at z;exact z
 have hdc:∃oe,h3.get? a=some oe/\oe.dict=D:=by obtain⟨ob,hob,_⟩:=x1.there;obtain⟨ow,hw,hwd⟩:=F.dct;exact⟨ob,hob,(dk.get hw hob).1.trans hwd⟩
 have hcx:nc=true->∃oe,h3.get? a=some oe/\Ef oe=some .none:=λhnc=>by obtain⟨ob,hob,_⟩:=x1.there;obtain⟨ow,hw,hwd⟩:=F.ctx hnc;exact⟨ob,hob,(dk.get hw hob).2.trans hwd⟩
 refine⟨a,cls,a0,D,B,H',rfl,⟨J.os,J.bare,un,J.hok,x1,λb o q hb o' q'=>?_,λb u q o' q'=>?_,hdc,hcx⟩,hE⟩
 ·obtain⟨o1,q1⟩:=I.base.there b o q (by rw[hex];simp)
  have hn:b∉DZ X.stack:=λz=>by
   rcases bi.mp (I.stkSub b z) with y|y
   ·exact qE (bQ (bM q) I.ok.above) (by rw[y];exact bx _)
   ·exact hb y
  obtain⟨o2,q2⟩:=F.un.there b o1 q1 (by simp);have q3:=F.old b o1 q1 hn o2 q2;have q4:=x1.1 b o2 q3;rw[q']at q4;cases q4;exact q3
 ·obtain⟨o2,q2⟩:=(F.hok b u q).somewhere;have q3:=F.trk b u q o2 q2;have q4:=x1.1 b o2 q3;rw[q']at q4;cases q4;exact q3
end
abbrev Ep:List qO:=[.type "ValueError",.type "Exception",.type "BaseException",.type "object"]
theorem RJ{p:Prop}(h:false=true):p:=nomatch h
theorem Ta{F:qP->List qO->Option qO->Option qO->Option qO->Option qO->String->Option qO->Bool}{G:Prop}:∀{m:List qO} {l:List (Option qO)},(∀C' bm k0 k1 k2 k3 n k5,m=.ref C'::bm->l=[k0,k1,k2,k3,some (.builtin n),k5]->F C' bm k0 k1 k2 k3 n k5=true->G)->PySem.W.excIn.match_1 (λ_ _=>Bool) m l F (λ_ _=>false)=true->G:=by
 intro m l hG q;rcases m with _|⟨v,bm⟩
 ·exact RJ q
 cases v
 case ref C2 =>
  rcases l with _|⟨k0,_|⟨k1,_|⟨k2,_|⟨k3,_|⟨k4,l⟩⟩⟩⟩⟩
  iterate 5 exact RJ q
  rcases k4 with _|k4
  ·exact RJ q
  cases k4
  case builtin n =>
   rcases l with _|⟨k5,_|_⟩
   ·exact RJ q
   ·exact hG _ _ _ _ _ _ _ _ rfl rfl q
   ·exact RJ q
  all_goals exact RJ q
 all_goals exact RJ q
theorem Tb{F:Option qP->ClassData->Array (Option qO)->Bool}{G:Prop}{o:Option Obj}(hG:∀dd cd sl,o=some ⟨.type "type",dd,.cls cd,sl⟩->F dd cd sl=true->G)(q:PySem.W.excIn.match_6 (λ_=>Bool) o F (λ_=>false)=true):G:=by
 rcases o with _|⟨cls,dd,data,sl⟩
 ·exact RJ q
 cases cls
 case type s =>
  by_cases hs:s="type"
  ·subst hs;cases data
   case cls cd=>exact hG _ _ _ rfl q
   all_goals exact RJ q
  ·delta PySem.W.excIn.match_6 PySem.W.nsOkIn._sparseCasesOn_4 PySem.W.excIn._sparseCasesOn_6 at q
   dsimp only at q;rw[dif_neg hs]at q;exact RJ q
 all_goals exact RJ q
theorem Tc{K:qT}{h:Heap}{newId:String}{bmB:List qO}(kin:K.In h)(q:PySem.W.excIn K C bmB newId=true):
  ∃tl N nm qn bs dy sn sub ab col dd k0 k1 k2 k3 k5 mN,h.get? C=some (excClassObj nm qn C N bs tl dy sn sub ab col dd k0 k1 k2 k3 k5 newId)/\h.Ns N mN/\mN "__init__"=none/\OwnTail h bmB tl:=by
 unfold PySem.W.excIn at q;refine Tb (λdd cd sl ho q=>?_) q;refine Ta (λC2 tl k0 k1 k2 k3 n k5 hm hs q=>?_) q;refine byG λGq hGq=>?_;obtain⟨nm,bs,mro,N,qn,dy,sn,sub,ab,col,del⟩:=cd;refine hGq ?_;clear hGq Gq;obtain⟨l⟩:=sl;dsimp only at hm hs q;subst hm hs;simp only[Bool.and_eq_true,beq_iff_eq,Bool.not_eq_true']at q;refine byG λGq hGq=>?_;obtain⟨⟨⟨⟨⟨e1,e2⟩,e3⟩,e4⟩,e5⟩,e6⟩:=q;refine hGq ?_;clear hGq Gq;subst e1 e2 e3;exact⟨tl,N,nm,qn,bs,dy,sn,sub,ab,col,dd,k0,k1,k2,k3,k5,_,kin _ _ ho,.of_isNs (PySem.W.isNs_of_in kin e5),PySem.W.nsMap_none_of_in kin e5 e6,PySem.W.tail_of_in kin e4⟩
def RK(C:qP)(E:XK)(t:TA):TS:=λ_ σ H=>t σ H λvs H1=>vs.length<=sizeLine/\E (.ref C) none H1
section
variable{E:XK}{e:Expr}{t:TA}{np cpos pos:Pos}
theorem BK(hc:X.calm=true)(hC:PySem.W.excIn X.K C Ep "ValueError.__new__"=true)(hg:Gl X x)(hm:X.mg x=some (.ref C))(hx:RI X (.ref C) E)(ha:PA X (e::es) t)
  (hdb:(x==("__debug__":Str))=false:=by decide) (he:starEach (e::es) X.env=(false,eval e X.env)::starEach es X.env:=by rfl) (hpl:(backTo cpos (starEach es X.env)).any (·.1)=false:=by rfl):
  PS X (.Raise (some (.Call (.Name x np) (e::es) [] cpos)) none pos) (RK C E t):=by
 intro ad s σ H D I h;refine byG λGq hGq=>?_;obtain⟨tl,N,nm,qn,bs,dy,sn,sub,ab,col,dd,k0,k1,k2,k3,k5,mN,hO,hN,hni,T⟩:=Tc I.mod.kin hC;refine hGq ?_;clear hGq Gq;have FB:=eS;have arg:=ha cpos ad s σ H _ I h;refine wpAny_Raise_call_subT (C:=C) (nm:=nm) (q:=qn) (N:=N) (bs:=bs) (bm:=tl) (hdct:=dy) (sn:=sn) (sub:=sub) (ab:=ab) (col:=col) (dd:=dd) (k0:=k0) (k1:=k1) (k2:=k2) (k3:=k3) (k5:=k5) FB (mN:=mN) (T.hasType FB.hasBase) (I.ok.hd hc) ?_ hni (GA I hg hm ⟨rfl,?_⟩ hdb)
 ·rw[he];show (false||(backTo cpos (starEach es X.env)).any (·.1))=false;rw[hpl];rfl
 ·rw[he]at arg⊢;refine Calls.evalArgs_plain (BU arg λus s2 z9=>?_);obtain⟨vs,H2,I2,r,z,q⟩:=z9;exact⟨rfl,by rw[<-r.length];exact z,I2.bk _ _ hO,hN.keeps I2.bk,T.keeps I2.bk,λh2 a hq=>hx ad σ H2 s2 h2 a us I2 hq q⟩
end
def G6(sp:Sp)(dvs:List V)(E:St->XK)(t:TA):TE:=λσ H Q=>t σ H λvs H1=>sp (vs++dvs) H1 Q (E σ)
section
variable{f:qP}{ps:List Str}{sp:Sp}{dvs:List V}{ds:List qO}{E:St->XK}{p pos:Pos}{e:Expr}{t:TA}
theorem Iy(F:Fp X.prog X.w X.K X.mg X.base CX k f fd ps sp)(hr:B7 k X.A)(hg:Gl X x)(hm:X.mg x=some (.ref f))(hk:PySem.W.keepIn X.K (.ref f)=true)(hb:Em X.K fd ps ds)(hd:Av dvs ds)(hx:De CX X E)
  (ha:PA X (e::es) t) (hdb:(x==("__debug__":Str))=false:=by decide) (he:starEach (e::es) X.env=(false,eval e X.env)::starEach es X.env:=by rfl) (hpl:(backTo pos (starEach es X.env)).any (·.1)=false:=by rfl):
  PE X (.Call (.Name x p) (e::es) [] pos) (G6 sp dvs E t):=by
 intro ad s σ H Q I h;refine wpAny_Call_Name_kw (GA I hg hm ?_ hdb);refine PySem.W.callWith_K (h₀:=X.base) I.ok.mod.kin hk (BU (ha pos ad s σ H _ I h) λus s1 ⟨vs,H1,I1,r,q⟩=>⟨I1.kIn,?_⟩) he hpl;have r2:Av (vs++dvs) (us++ds):=r.append hd;have hl:(us++ds).length=ps.length:=by rw[<-r2.length];exact F.len _ _ _ _ q
 refine wpAny_call (codeAny_mono (F.run X.A X.stack s1 H1 ⟨us,[]⟩ (us++ds) (vs++dvs) Q (E σ) hr I1.env0 (hb s1 us I1.kIn hl) r2 q) λrs s2 hq=>?_);rcases rs with er|fl
 ·exact hx ad σ H1 s1 er s2 I1 hq
 ·cases fl with
  |ret u=>exact I1.after hq
  |next=>exact False.elim hq
  |brk=>exact False.elim hq
  |cont=>exact False.elim hq
end
section
variable{P:qR}{w:qS}{K:qT}{mg:Str->Option qO}{base:Heap}
theorem BX.okX{f:qP}{N ps:List Str}{sp:Sp}(F:BX K x qual st f fd)(S:AI N ps (AG st))(len:∀vs H Q E,sp vs H Q E->vs.length=ps.length)
  (hbody:∀(gh:qO) (A:Around) (outer:List Env) (s:qQ) (H:Hp) (vs:List V) (Q:VK) (E:XK),B7 k (A.deeper (envOfC qual (AG st) s.heap.objs.size f gh))->sp vs H Q E ->
   ∃t,Hj (Dj (Kn nc P w) P w K mg base N qual (AG st) f gh A outer s H E) (BW st) t/\t {nx:=λ_ H'=>Q .non H',rt:=Q} (Ct N vs) H):Fp P w K mg base (Kn nc P w) (k+1) f fd ps sp:=by
 refine byG λGq hGq=>?_;obtain⟨oc,od,kV,doc,pm,an,gh,ct,osl,rfl,lk,hcd⟩:=F.ex;refine hGq ?_;clear hGq Gq;exact Ue lk hcd S len λA outer s H vs Q E hr hsp=>hbody gh A outer s H vs Q E hr hsp
end
theorem PS.nox(h:PS X.nox st t):PS X st t:=λad s σ H D I hw =>
 qK (h ad s σ H D (I.wish _) hw) (λ_ _ q=>q.unwish) λ_ _ q=>q.elim
abbrev Cx.but(X:Cx)(p:List (qP×Obj))(E:qO->qQ->Prop):Cx:={X with pn:=p,xe:=E}
theorem Cx.Ok.but(ok:X.Ok)(p:List (qP×Obj))(E:qO->qQ->Prop):(X.but p E).Ok:=
 ⟨ok.mod,ok.kind,ok.glob,ok.blt,ok.above,ok.inj,ok.has,ok.cab,ok.hd,ok.frames,ok.stk,ok.exf,ok.bs,ok.bsz,ok.noex,ok.exfs,ok.funs,ok.frf⟩
theorem Cx.Ok.unbut{p:List (qP×Obj)}(ok:(X.but p E).Ok):X.Ok:=
 ⟨ok.mod,ok.kind,ok.glob,ok.blt,ok.above,ok.inj,ok.has,ok.cab,ok.hd,ok.frames,ok.stk,ok.exf,ok.bs,ok.bsz,ok.noex,ok.exfs,ok.funs,ok.frf⟩
noncomputable def Cx.tr(X:Cx)(p:List (qP×Obj))(W:St->XK):Cx:=X.but p λe s'=>∃ad σ H s,Ab (X.but p λ_ _=>False) ad σ H s/\KJ X.prog X.w X.stack H s (W σ) e s'
noncomputable def Cx.hdl(X:Cx)(v:qO):Cx:={X with A:=X.A.mark (some v),calm:=false,xe:=λ_ _=>False}
section
variable{pins' p:List (qP×Obj)}{E':qO->qQ->Prop}
theorem Ab.but(I:Ab X ad σ H s)(E:qO->qQ->Prop):Ab (X.but (X.pn++ad) E) [] σ H s:=
 ⟨I.ok.but _ _,I.os,I.bare,I.base,I.loc,I.cell,I.free,I.freeC,λq hq=>I.pin q (by simpa using hq),I.hok,I.len⟩
theorem Ab.unbut(I:Ab (X.but (X.pn++ad) E) pins' σ H s):Ab X ad σ H s:=
 ⟨I.ok.unbut,I.os,I.bare,I.base,I.loc,I.cell,I.free,I.freeC,λq hq=>I.pin q (cX _ hq),I.hok,I.len⟩
theorem Ab.rebut(I:Ab (X.but p E) ad σ H s):Ab (X.but p E') ad σ H s:=
 ⟨I.ok.unbut.but _ _,I.os,I.bare,I.base,I.loc,I.cell,I.free,I.freeC,I.pin,I.hok,I.len⟩
theorem Ab.hdl(I:Ab X ad σ H s)(v:qO):Ab (X.hdl v) ad σ H s:=
 ⟨⟨I.ok.mod,I.ok.kind,I.ok.glob,I.ok.blt,I.ok.above,I.ok.inj,I.ok.has,I.ok.cab,λz=>qE z (by show ¬(false=true);decide),I.ok.frames,I.ok.stk,I.ok.exf,I.ok.bs,I.ok.bsz,I.ok.noex,I.ok.exfs,I.ok.funs,I.ok.frf⟩,
  I.os,I.bare,I.base,I.loc,I.cell,I.free,I.freeC,I.pin,I.hok,I.len⟩
theorem Ab.unhdl{v:qO}(hd:X.calm=true->X.A.handled=none)(I:Ab (X.hdl v) ad σ H s):Ab X ad σ H s:=
 ⟨⟨I.ok.mod,I.ok.kind,I.ok.glob,I.ok.blt,I.ok.above,I.ok.inj,I.ok.has,I.ok.cab,hd,I.ok.frames,I.ok.stk,I.ok.exf,I.ok.bs,I.ok.bsz,I.ok.noex,I.ok.exfs,I.ok.funs,I.ok.frf⟩,
  I.os,I.bare,I.base,I.loc,I.cell,I.free,I.freeC,I.pin,I.hok,I.len⟩
theorem EC{W:St->XK}:De (KJ X.prog X.w) (X.tr p W) W:=λad σ H s e s' I h=>⟨ad,σ,H,s,Ab.rebut (X:=X) I,h⟩
theorem SP.unbut{f:Flow}(h:SP (X.but (X.pn++ad) E) pins' D f s'):SP X ad D f s':=by
 cases f with
 |next=>obtain⟨a,b,I,q⟩:=h;exact⟨a,b,I.unbut,q⟩
 |brk=>obtain⟨a,b,I,q⟩:=h;exact⟨a,b,I.unbut,q⟩
 |cont=>obtain⟨a,b,I,q⟩:=h;exact⟨a,b,I.unbut,q⟩
 |ret u=>obtain⟨v,a,b,I,q⟩:=h;exact⟨v,a,b,I.unbut,q⟩
end
structure MP(K:qT)(D:qP):Prop where
 ci:(PySem.W.clsIn K D).isSome=true
 ga:PySem.W.findIn K (.ref D) "__getattribute__"=some (some (.builtin "BaseException.__getattribute__"))
 gn:PySem.W.findIn K (.ref D) "__getattr__"=some none
 ca:PySem.W.findIn K (.ref D) "__class__"=some (some (.builtin "object.__class__"))
 sg:PySem.W.specialIn K (.builtin "object.__class__") "__get__"=some (some (.builtin "getset_descriptor.__get__"))
 tk:PySem.W.takesIn K (.builtin "object.__class__")=some true
 mo:PySem.W.mroIn K D (.type "object")=some true
 mb:PySem.W.mroIn K D (.type "BaseException")=some true
section
variable{K:qT}{D:qP}{dy:Option qP}{n:Bool}
theorem RL(h:(PySem.W.clsIn K D).isSome=true):∃c d cd sl,K.lookup D=some ⟨c,d,.cls cd,sl⟩:=by
 delta PySem.W.clsIn at h
 cases e:K.lookup D with
 |none=>rw[e]at h;exact qE h bT
 |some o =>
  rw[e]at h;obtain⟨c,d,dt,sl⟩:=o;cases dt with
  |cls cd=>exact⟨c,d,cd,sl,rfl⟩
  |_=>exact qE h bT
theorem MP.isCls(c:MP K D){M:Model}{h:Heap}(kin:K.In h):PySem.W.Looks M h (isType (.ref D)) true:=by obtain⟨_,_,_,_,ho⟩:=RL c.ci;intro A Q E s k q;unfold isType loadHead;exact qA (wpAny_loadPart (k _ _ (kin _ _ ho)) (qB q))
theorem Eo.ty{M:Model}{h:Heap}(x:Eo a cls dy n h):PySem.W.Looks M h (typeOf (.ref a)) cls:=by refine byG λGq hGq=>?_;obtain⟨o,vs,e,c,_⟩:=x;refine hGq ?_;clear hGq Gq;subst c;exact (PySem.W.Looks.ld e).andThen .now
theorem Nq{M:Model}{h:Heap}{x:qO}{g:qO}(kin:K.In h)(h1:PySem.W.findIn K (.ref D) name=some (some u))(h2:PySem.W.specialIn K u "__get__"=some (some g))(h3:PySem.W.takesIn K u=some true):
  PySem.W.Looks M h (Builtin.ObjectAttr.find x (.ref D) name) (.bind g u):=by
 have a1:=eV (M:=M) kin h1;have a2:PySem.W.Looks M h (Builtin.ObjectAttr.getOf (some u)) (some g):=PySem.W.looks_specialIn kin h2;have a3:PySem.W.Looks M h (Builtin.ObjectAttr.dataDescriptor? (some u) (some g)) (some (g,u)):=(PySem.W.looks_takesIn (M:=M) kin h3).andThen .now;exact a1.andThen (a2.andThen (a3.andThen (PySem.W.Looks.tag .now)))
theorem Td{prog:qR}{w:qS}{A:Around}{R:Result->qQ->Prop}{tp:qO}(c:MP K D)(kin:K.In s.heap)(x:Eo a (.ref D) dy n s.heap)(q:R (.ok (.ret (.ref D))) s):
  codeAny (model prog w) A (.call (.builtin "getset_descriptor.__get__") ⟨[.builtin "object.__class__",.ref a,tp],[]⟩) R s:=by
 obtain⟨hp,g,d,t,os⟩:=s;have a1:=x.ty (M:=model prog w);have a2:=PySem.W.looks_mroIn (M:=model prog w) kin c.mo;refine codeAny_call_builtin PySem.W.KF.slot_gs.plain PySem.W.KF.entry_gs (PySem.W.KF.slot_gs.check _ _ _ _ _ _ _ _ PySem.W.KF.type_class (PySem.W.KF.args_gs _ _ _) ?_)
 (unfold Builtin.«getset_descriptor.__get__» Builtin.Getset_descriptor.descrGet;rw[PySem.W.dga_obj];refine qA (qB ?_))
 (unfold Builtin.Getset_descriptor.descrGetter Builtin.Getset_descriptor.descrCheckInstance Builtin.Getset_descriptor.descrNameAndClass isInstance;simp only[PySem.W.KF.owner_class])
 repeat lk
 refine⟨Code.quiet_builtin _ (by decide +kernel),codeAny_builtin PySem.W.KF.entry_class ?_⟩
 (unfold Builtin.«object.__class__» shownTypeOf;repeat lk)
 exact q
theorem QA{prog:qR}{w:qS}{A:Around}{Q:Option qO->qQ->Prop}(c:MP K D)(kin:K.In s.heap)(x:Eo a (.ref D) dy n s.heap)
  (q:Q (some (.ref D)) {s with toks:=s.toks+1}):wpAny (model prog w) A (getAttr? (.ref a) "__class__") Q E s:=by
 refine byG λGq hGq=>?_;obtain⟨hp,g,d,t,os⟩:=s;refine hGq ?_;clear hGq Gq;have LT:=x.ty (M:=model prog w);have L1:=eV (M:=model prog w) kin c.ga;have L2:=eV (M:=model prog w) kin c.gn;have L3:=Nq (M:=model prog w) (x:=.ref a) kin c.ca c.sg c.tk;have L4:PySem.W.Looks (model prog w) hp (isInstance (.ref a) (.type "BaseException")) true:=LT.andThen (PySem.W.looks_mroIn kin c.mb);have FA:=PySem.F.excAttr_ValueError;unfold getAttr? getAttrBy? getAttrBy;refine qA (wpAny_mkText (qA (wpAny_attempt (qM (qA (LT.at (qA (L1.at ?_))))))));show wpAny _ _ (getAttrByItsOwn _ _ _ _ _ _) _ _ _;unfold getAttrByItsOwn;refine qA (show wpAny _ _ (typeLookup (.ref D) "__getattr__") _ _ _ from L2.at ?_);refine qA (wpAny_attempt (qM ?_));show wpAny _ _ (boundAndCalled _ _ _) _ _ _;unfold boundAndCalled;refine qA (wpAny_of_eq (FA.ga.bind _) ?_);refine wpAny_call (codeAny_call_builtin FA.ga.plain PySem.F.entry_bexc_ga ?_);have hk:builtinKind "BaseException.__getattribute__"=some .slot:=by decide +kernel
 have hsp:splitId "BaseException.__getattribute__"=some ("BaseException","__getattribute__"):=by decide +kernel
 have ha:=PySem.F.args_bexc_ga (.ref a) (.str "__class__" t);show wpAny _ _ (checkBuiltinCall "BaseException.__getattribute__" ⟨[.ref a,.str "__class__" t],[]⟩) _ _ _;simp only[checkBuiltinCall,hk,hsp];refine qA (L4.at ?_)
 repeat (any_goals (first|assumption|wp_step))
 refine byG λGq hGq=>?_;obtain⟨o,vs,eo,co,vo⟩:=id x;refine hGq ?_;clear hGq Gq;refine wpAny_loadPart eo ?_;refine qB ?_;rw[co];refine qA (L3.at ?_);show wpAny _ _ (call (.builtin "getset_descriptor.__get__") [.builtin "object.__class__",.ref a,.ref D] >>= λv=>ret v) _ _ _;refine qA (wpAny_call (Td c kin ⟨o,vs,eo,co,vo⟩ ?_));refine qB ?_;show wpAny _ _ (handedOut (.ref D)) _ _ _;exact qB (qB q)
theorem MQ(c:MP K D):PySem.W.KitX K (.ref a) (.ref D) (Eo a (.ref D) dy n) where
 ty:=λ_ _ _ x=>x.ty
 it:=λ_ _ kin _=>c.isCls kin
 ne:=λh tp dd its n sl kin htp=>by refine Bool.eq_false_iff.mpr λq=>?_;have e:D=tp:=Value.ref.inj (beq_iff_eq.mp q);subst e;obtain⟨_,_,_,_,ho⟩:=RL c.ci;have y:=(kin _ _ ho).symm.trans htp;cases y
 ca:=λkin x q=>QA c kin x q
end
inductive XN(K:qT)(H:Hp):V->qO->Prop where
 |of {x:V} {t:qO} (h:G3 K H x t):XN K H x t
 |exc {a D:qP} {dy:Option qP} {n:Bool} (e:H a=some (O3 a (.ref D) dy n)) (c:MP K D):XN K H (.ref a) (.ref D)
noncomputable def RM:V->Option qO
 |.ty n=>some (.type n)
 |.ref a=>some (.ref a)
 |_=>none
noncomputable def Vd(K:qT):List V->Hp->VK->Prop
 |[x,c],H,Q=>∃t u b,XN K H x t/\RM c=some u/\PySem.W.kitOne K t u=some b/\Q (.bl b) H
 |_,_,_=>False
theorem RN:CJ X (.builtin "isinstance") (Vd X.K):=by
 intro ad s σ H xs us Q I rv h;rcases xs with _|⟨x,_|⟨c,_|⟨_,_⟩⟩⟩
 ·exact h.elim
 ·exact h.elim
 rotate_left
 ·exact h.elim
 refine byG λGq hGq=>?_;obtain⟨t,u,b,ty,rc,k,q⟩:=h;refine hGq ?_;clear hGq Gq;refine byG λGq hGq=>?_;obtain⟨v1,v2,rfl,r1,r2⟩:=Ou rv;refine hGq ?_;clear hGq Gq
 have e:v2=u:=by
  cases c with
  |ty n=>cases rc;exact r2
  |ref a=>cases rc;exact r2
  |_=>cases rc
 subst e;cases ty with
 |of ty=>exact P7 I r1 ty k λtk=>⟨.bl b,H,I.tok tk,rfl,q⟩
 | @exc a D dy n e ck =>
  cases (show v1=Value.ref a from r1);obtain⟨x,_,_⟩:=(show A5 X.prog X.w H s.heap a (.ext (Eo a (.ref D) _ _)) from I.hok a _ e);exact cZ (MQ ck) I.kIn x k (λz=>nomatch z) λtk=>⟨.bl b,H,I.tok tk,rfl,q⟩
variable{items:Array qO}
section
variable{prog:qR}{w:qS}{A:Around}
theorem QB:typeLookup (.type "list_reverseiterator") "__len__"=pure none:=by rw[typeLookup_type,builtinLookup_eq_fast];kernel_rfl
theorem RO:typeLookup (.type "list_reverseiterator") "__length_hint__"=pure (some (.builtin "list_reverseiterator.__length_hint__")):=by rw[typeLookup_type,builtinLookup_eq_fast];kernel_rfl
theorem RP{I:qP}{Q:Bool->qQ->Prop}(hT:s.TypeIs (.ref I) "list_reverseiterator")(q:Q false s):wpAny (model prog w) A (Builtin.List.listLengthHint (.ref I)) Q E s:=by
 unfold Builtin.List.listLengthHint;refine qA (wpAny_specialOf hT QB ?_);show wpAny _ A (specialOf (Value.ref I) (Str.ofString "__length_hint__") >>= _) _ _ _;refine qA (wpAny_specialOf hT RO ?_);generalize hz:("list_reverseiterator.__length_hint__":String)=zz
 wp_delta
 rw[show splitId zz=some ("list_reverseiterator","__length_hint__") from by subst hz;decide +kernel];subst hz;refine qA (wpAny_isInstance (b:=true) hT (by rw[isSubtype_type];kernel_rfl) ?_);exact qB q
theorem MR{I l:qP}{Q:qO->qQ->Prop}(hh:A.handled=none)(hIl:l≠I)(hit:s.heap.IsRevIter I l ((items.size:Int)-1))(hl:s.heap.IsList l items)(hz:items.size<=sizeLine)
  (hQ:∀h' tk c' ge,(∀b o,b≠I->s.heap.get? b=some o->h'.get? b=some o)->h'.get? s.heap.objs.size=some {cls:=.type "list",dict:=none,data:=.seq ge c',slots:=#[]} ->
   ge.toList=items.toList.reverse->Q (.ref s.heap.objs.size) {s with heap:=h',toks:=tk}):wpAny (model prog w) A (call (.type "list") [.ref I]) Q E s:=by
 have W:=(Walks.listRev (prog:=prog) (w:=w) (A:=A.in1.in1) hh I l hIl items).toS;have hIlt:I<s.heap.objs.size:=by obtain⟨o,e,_⟩:=hit;exact bM e
 have hllt:l<s.heap.objs.size:=by obtain⟨o,e,_⟩:=hl;exact bM e
 refine callType_codes (Q₁:=λobj s₁=>obj=.ref s.heap.objs.size/\s₁={s with heap:=s.heap.push {cls:=.type "list",data:=.seq #[]}}) PySem.F.called_list (PySem.F.typeCall_list_1 _) PySem.F.entry_list_init
  (code_list_new _ ⟨rfl,rfl⟩) λobj s₁ h₁=>?_
 obtain⟨rfl,rfl⟩:=h₁;have hS:(s.heap.push {cls:=.type "list",data:=.seq #[]}).get? s.heap.objs.size=some {cls:=.type "list",data:=.seq #[]}:=bV _ rfl;refine⟨⟨_,hS,rfl⟩,PySem.F.args_list_init_2 _ _,?_⟩;show wpAny _ _ (do let old <-Builtin.List.listItems (.ref s.heap.objs.size);Builtin.List.listUpdate (.ref s.heap.objs.size) (λ_=>#[]);letGo old.toList.reverse;Builtin.List.listExtendWith (.ref s.heap.objs.size) (.ref I) .none) _ _ _;refine qA ?_;unfold Builtin.List.listItems;refine qA (wpAny_seqItems hS rfl (qB ?_));show wpAny _ _ (updateSeq s.heap.objs.size (λ_=>#[]) >>= λ_=>letGo (#[]:Array qO).toList.reverse >>= λ_=>Builtin.List.listExtendWith (.ref s.heap.objs.size) (.ref I) .none) _ _ _;refine qA (wpAny_updateSeq hS rfl ?_);have hS2:=eJ (Obj.mapSeq (λ_=>(#[]:Array qO))) hS rfl
 have kp:∀b o,s.heap.get? b=some o->((s.heap.push {cls:=.type "list",data:=.seq #[]}).update s.heap.objs.size (Obj.mapSeq (λ_=>(#[]:Array qO)))).get? b=some o:=
  λb o e=>(fO _ _ (du (bM e))).trans (bG _ e)
 refine qA (wpAny_letGo ?_);have hit2:=hit.at λo e=>kp I o e
 have hl2:=hl.at λo e=>kp l o e
 unfold Builtin.List.listExtendWith;refine qA (wpAny_typeOf (T:="list_reverseiterator") hit2.typeIs ?_);have h1:Builtin.List.listSameRef (.ref s.heap.objs.size) (.ref I)=false:=by simp[Builtin.List.listSameRef,Nat.ne_of_gt hIlt]
 rw[qC (by rw[h1];decide)];refine qA (wpAny_pyIter_revIter hit2 ?_);refine qA (qM (RP hit2.typeIs ?_));rw[qC (by decide)]
 have nf:s.heap.objs.size∉[I,l]:=by simp only[List.mem_cons,List.not_mem_nil,or_false,not_or];exact⟨du hIlt,du hllt⟩
 refine qB ⟨plainId_quiet PySem.F.plain_extend_loop _,codeAny_extend_loopS W hz _ nf _ items.size 0 _ _ _ rfl (Nat.zero_le _) ⟨Nat.zero_le _,by simpa using hit2,hl2⟩ hS2 (ItemsOf.nil _) λs' ge c' hm hS' hacc=>?_⟩;refine⟨rfl,?_⟩;rw[Moved.eq_with hm];refine hQ s'.heap s'.toks c' ge (λb o hb e=>hm.heap b o (λz=>?_) (kp b o e)) hS' ?_
 ·rcases bi.mp z with z|z
  ·exact qE (bM e) (by rw[z];exact bx _)
  ·exact hb (bL.mp z)
 ·apply fS;intro i
  by_cases hi:i<items.size
  ·have hi2:i<ge.size:=by rw[hacc.1];exact hi
   have p:=hacc.2 i ge[i] (ez hi2);rw[List.getElem?_reverse (by simpa using hi),Array.getElem?_toList,Array.getElem?_eq_getElem hi2,Array.getElem?_toList,Array.length_toList];exact p.symm
  ·rw[bh (by rw[Array.length_toList,hacc.1];lia),bh (by rw[c6,Array.length_toList];lia)]
end
noncomputable def Xl(K:qT)(a:qP)(n:Nat):It:=
 ⟨λi H=>i<n/\∃xs,Ai K H a xs/\xs.length=n,λi H x H'=>H'=H/\∀xs,Ai K H a xs->xs.reverse[i]?=some x,λi _=>i=n⟩
theorem RQ{P:qR}{w:qS}{K:qT}(a it:qP)(n:Nat):Im P w K tg (Xl K a n) [it] it (λi h=>i<=n/\h.IsRevIter it a ((n:Int)-1-(i:Int))) where
 mem:=by simp
 obj:=λi h st b hb=>by
  have e:b=it:=by simpa using hb
  subst e;refine byG λGq hGq=>?_;obtain⟨_,o,e,c,d⟩:=st;refine hGq ?_;clear hGq Gq;exact⟨o,e,λv z=>by rw[d]at z;cases z⟩
 keep:=λi h h' st k=>⟨st.1,st.2.at λo e=>k it (by simp) o e⟩
 item:=by
  intro X hP hw hK hc i ad s σ H E I hf st hg;subst hP hw hK;refine byG λGq hGq=>?_;obtain⟨hi,xs,hq,hn⟩:=hg;refine hGq ?_;clear hGq Gq;refine byG λGq hGq=>?_;obtain⟨its,rv,p,hz⟩:=I.list hq;refine hGq ?_;clear hGq Gq;have hlen:=rv.length;refine byG λGq hGq=>?_;obtain⟨f0,f1,f2,f3,f4,f5⟩:=hf it (by simp);refine hGq ?_;clear hGq Gq;have e:(n:Int)-1-(i:Int)=((n-1-i:Nat):Int):=by lia
  have hit:=st.2;rw[e]at hit;have hx:xs[n-1-i]?=some (xs[n-1-i]'(by lia)):=bA (by lia);obtain⟨u,hu,ru⟩:=rv.get hx;refine wpAny_pyNext_rev_item hit p.isList (x:=u) (by simpa using hu) λh' st' sb=>?_;have I1:Ab X ad σ H {s with heap:=h'}:=I.turned (t':=s.toks) (λb o hb e=>(sb.2 b hb).trans e) f0 f1 f3 f4 f5;refine byG λGq hGq=>?_;obtain⟨o,e,c,d⟩:=id st';refine hGq ?_;clear hGq Gq
  have st2:i+1<=n/\h'.IsRevIter it a ((n:Int)-1-((i+1:Nat):Int)):=⟨hi,by
   have e2:((n-1-i:Nat):Int)-1=(n:Int)-1-((i+1:Nat):Int):=by lia
   rw[<-e2];exact st'⟩
  refine⟨u,rfl,MI (s:={s with heap:=h'}) e c d (by decide) ⟨_,H,I1,ru,⟨rfl,λys hy=>?_⟩,st2,λb hb=>(hf b hb).1⟩⟩;rw[I.list_inj hy hq,eK (by lia),<-hx]
  congr 1
  lia
 done:=by
  intro X hP hw hK hc i ad s σ H E I hf st hg;subst hP hw hK;refine byG λGq hGq=>?_;obtain⟨f0,f1,f2,f3,f4,f5⟩:=hf it (by simp);refine hGq ?_;clear hGq Gq;have hg':i=n:=hg;subst hg';have hit:=st.2;have e:(i:Int)-1-(i:Int)=-1:=by lia
  rw[e]at hit;exact wpAny_pyNext_rev_end (I.ok.hd hc) hit λh' eb=>⟨rfl,I.turned (t':=s.toks) (λb o hb e=>eb b o hb e) f0 f1 f3 f4 f5⟩
 self:=λ_ _ _ _ _ st h=>wpAny_pyIter_revIter st.2 h
def Z4(K:qT)(ta:TA):TI:=λσ H R=>ta σ H λvs H1=>∃a xs,vs=[.ref a]/\Ai K H1 a xs/\R (Xl K a xs.length) H1
theorem Ve{l:Expr}{p pos:Pos}(hg:Gl X "reversed")(hm:X.mg "reversed"=none)(ha:PA X [l] ta)(hs:starEach [l] X.env=[(false,eval l X.env)]:=by rfl):PI X tg (.Call (.Name "reversed" p) [l] [] pos) (Z4 X.K ta):=by
 intro ad s σ H R I h;refine Call_ (DP I hg hm boot_reversed (cD (BU (ha pos ad s σ H _ I h) λus s1 z9=>?_) hs rfl));obtain⟨vs,H1,I1,r1,q1⟩:=z9;refine byG λGq hGq=>?_;obtain⟨a,xs,e,hq,q⟩:=q1;refine hGq ?_;clear hGq Gq;subst e;cases r1 with
 |cons r rr =>
  cases rr;cases r;refine byG λGq hGq=>?_;obtain⟨its,rv,pl,hz⟩:=I1.list hq;refine hGq ?_;clear hGq Gq;have hlen:=rv.length;refine call_reversed_list pl.isList ?_;have I2:Ab X ad σ H1 {s1 with heap:=s1.heap.push (revObj a ((its.toArray.size:Int)-1)),toks:=s1.toks}:=I1.kept λb o e=>bG _ e
  have st:(s1.heap.push (revObj a ((its.toArray.size:Int)-1))).IsRevIter s1.heap.objs.size a ((xs.length:Int)-1-((0:Nat):Int)):=by
   have e:((xs.length:Int)-1-((0:Nat):Int))=(its.toArray.size:Int)-1:=by rw[bn,hlen];lia
   rw[e];exact⟨_,bV _ rfl,rfl,rfl⟩
  refine wpAny_pyIter_revIter st ?_;refine⟨s1.heap.objs.size,[s1.heap.objs.size],_,_,H1,rfl,I2,RQ a _ xs.length,⟨cJ _,st⟩,λb hb=>?_,q⟩;have e:b=s1.heap.objs.size:=by simpa using hb
  subst e;exact I1.fpOk (bD _) (I1.hok.fresh (bD _))
theorem Te{K:qT}{g:TG}{tb:TS}(Pv:Nat->St->Hp->Prop)(h0:Pv 0 σ H)(hl:∀i σ H,i<=xs.length->Pv i σ H->Ai K H a xs)
  (hs:∀i x σ H,xs.reverse[i]?=some x->Pv i σ H->g x σ H λσ2 H2=>tb {D with nx:=Pv (i+1),ct:=Pv (i+1),bk:=D.nx} σ2 H2) (hd:∀σ H,Pv xs.length σ H->D.nx σ H):
  ∃W:Nat->Nat->St->Hp->Prop,(∃m,W 0 m σ H)/\∀i m σ H,W i m σ H ->
   ((Xl K a xs.length).stop i H/\D.nx σ H)\/((Xl K a xs.length).go i H/\∃N:St->Hp->Prop,(∀σ' H',N σ' H'->∃m',m'<m/\W (i+1) m' σ' H')/\∀x H',(Xl K a xs.length).yld i H x H'->g x σ H' λσ2 H2=>tb {D with nx:=N,ct:=N,bk:=D.nx} σ2 H2):=by
 refine⟨λi m σ H=>m=xs.length-i/\i<=xs.length/\Pv i σ H,⟨xs.length,by simp,Nat.zero_le _,h0⟩,?_⟩;rintro i m σ H ⟨rfl,hi,p⟩;have q:=hl i σ H hi p
 by_cases hlt:i<xs.length
 ·refine .inr ⟨⟨hlt,xs,q,rfl⟩,Pv (i+1),λσ' H' p'=>⟨xs.length-(i+1),by lia,rfl,hlt,p'⟩,λx H' y=>?_⟩;obtain⟨e,y⟩:=y;subst e;exact hs i x σ _ (y xs q) p
 ·have e:i=xs.length:=by lia
  subst e;exact .inl ⟨rfl,hd σ H p⟩
def Uj(K:qT)(ta:TA):TE:=λσ H Q=>ta σ H λvs H1=>∃a xs,vs=[.ref a]/\Ai K H1 a xs/\∀p,H1 p=none->Q (.ref p) (Ak H1 p (.lst xs.reverse))
theorem La{l:Expr}{p1 p2 pos1 pos2:Pos}(hc:X.calm=true)(hg:Gl X "reversed")(hm:X.mg "reversed"=none)(hg2:Gl X "list")(hm2:X.mg "list"=none)(ha:PA X [l] ta)(hs:starEach [l] X.env=[(false,eval l X.env)]:=by rfl)
  (hs2:starEach [.Call (.Name "reversed" p1) [l] [] pos1] X.env=[(false,eval (.Call (.Name "reversed" p1) [l] [] pos1) X.env)]:=by rfl):
  PE X (.Call (.Name "list" p2) [.Call (.Name "reversed" p1) [l] [] pos1] [] pos2) (Uj X.K ta):=by
 intro ad s σ H Q I h;refine Call_ (DP I hg2 hm2 PyProof.Rows.boot_list (cD (T:="list") ?_ hs2 rfl));rw[hs2];show wpAny _ _ (spliced ((false,eval (.Call (.Name "reversed" p1) [l] [] pos1) X.env)::[])) _ _ s;refine Calls.spliced_cons (Call_ (DP I hg hm boot_reversed (cD (BU (ha pos1 ad s σ H _ I h) λus s1 z9=>?_) hs rfl)));obtain⟨vs,H1,I1,r1,q1⟩:=z9;refine byG λGq hGq=>?_;obtain⟨a,xs,e,hq,q⟩:=q1;refine hGq ?_;clear hGq Gq;subst e;cases r1 with
 |cons r rr =>
  cases rr;cases r;refine byG λGq hGq=>?_;obtain⟨its,rv,pl,hz⟩:=I1.list hq;refine hGq ?_;clear hGq Gq;have hlen:=rv.length;refine call_reversed_list pl.isList ?_;refine Calls.spliced_nil ?_;have ne:a≠s1.heap.objs.size:=by obtain⟨o,e,_⟩:=pl.isList;exact bp (bM e)
  have hL:(s1.heap.push (revObj a ((its.toArray.size:Int)-1))).IsList a its.toArray:=pl.isList.at λo e=>bG _ e
  refine MR (s:={s1 with heap:=s1.heap.push (revObj a ((its.toArray.size:Int)-1))}) (I.ok.hd hc) ne ⟨_,bV _ rfl,rfl,rfl⟩ hL (by rw[bn,<-hlen];exact hz) λh' tk c' ge kp hD hacc=>?_;have kp2:∀b o,s1.heap.get? b=some o->h'.get? b=some o:=λb o e=>kp b o (bp (bM e)) (bG _ e)
  have hf:H1 (s1.heap.push (revObj a ((its.toArray.size:Int)-1))).objs.size=none:=I1.hok.fresh (by rw[cx];lia);have rv2:Av xs.reverse ge.toList:=by rw[hacc];simpa using rv.reverse
  refine⟨.ref _,_,I1.laid (t':=tk) kp2 (by rw[cx];lia) ?_,rfl,q _ hf⟩;exact⟨by rw[List.length_reverse];exact hz,ge.toList,c',rv2,by simpa using hD⟩
def Xm(K:qT):R2:=λx y H Q=>∃(a b:qP) (ns ms:qU),x=.ref a/\y=.ref b/\Ai K H a (ns.map V.int)/\Ai K H b (ms.map V.int)/\Q (.bl (decide (ns=ms))) H
theorem Vf(hu:X.A.units+64<cLine):FM X (compareOp .Eq) (Xm X.K):=by intro ad s σ H x y v u Q I rx ry h;refine byG λGq hGq=>?_;obtain⟨a,b,ns,ms,rfl,rfl,ha,hb,q⟩:=h;refine hGq ?_;clear hGq Gq;cases rx;cases ry;refine byG λGq hGq=>?_;obtain⟨va,ra,pa,_⟩:=I.list ha;refine hGq ?_;clear hGq Gq;refine byG λGq hGq=>?_;obtain⟨vb,rb,pb,_⟩:=I.list hb;refine hGq ?_;clear hGq Gq;exact PySem.W.eq_intsK pa.isList (Iq ra) pb.isList (Iq rb) hu ⟨.bl _,H,I,rfl,q⟩
theorem RS{P:qR}{w:qS}{K:qT}{mg:Str->Option qO}{base:Heap}{N:List Str}{f:qP}{cd:qO}{A:Around}{outer:List Env}{E:XK}:(Dj CX P w K mg base N qual scope f cd A outer s H E).K=K:=rfl
theorem Z5{p:List (qP×Obj)}{W:St->XK}:(X.tr p W).K=X.K:=rfl
theorem Uk{v:qO}:(X.hdl v).K=X.K:=rfl
theorem Xn{P:qR}{w:qS}:De (KJ P w) X (λ_=>E0):=λ_ _ _ _ _ _ _ h=>by obtain⟨_,_,_,_,_,_,_,_,h⟩:=h;exact h.elim
theorem AH.new{p:qP}(h:H p=none)(o:HO):AH H (Ak H p o):=λb u q=>by rw[AJ (As q h)];exact q
theorem C7{p q:qP}(h:Ak H p o q=none):q≠p/\H q=none:=by
 have ne:q≠p:=λz=>by rw[z,AD]at h;cases h
 rw[AJ ne]at h;exact⟨ne,h⟩
theorem Ul{n:Nat}(h:n<=1000):n<=sizeLine:=dq (AU h)
section
variable{pos p:Pos}{a c:Expr}{ta tc:TE}
theorem MS{n:String}(hg:Gl X x)(hm:X.mg x=none)(hv:bootBuiltins x=some (.type n))(hn:x≠"__name__":=by decide)(hd:(x==("__debug__":Str))=false:=by decide):PE X (.Name x pos) (tC (.ty n)):=
 TD (v:=.ty n) hg hm hv rfl hn hd
theorem Iz(hg:Gl X x)(hm:X.mg x=some (.ref C))(hd:(x==("__debug__":Str))=false:=by decide):PE X (.Name x pos) (tC (.ref C)):=On (v:=.ref C) hg hm rfl hd
theorem RT{i:Int}{t:Tok}(hg:Gl X x)(hm:X.mg x=some (.int i t))(hd:(x==("__debug__":Str))=false:=by decide):PE X (.Name x pos) (tC (.int i)):=On (v:=.int i) hg hm ⟨t,rfl⟩ hd
theorem Nr(hg:Gl X "isinstance")(hm:X.mg "isinstance"=none)(ha:PE X a ta)(hc:PE X c tc)(h1:starEach [a,c] X.env=(false,eval a X.env)::starEach [c] X.env:=by rfl)(h2:starEach [c] X.env=(false,eval c X.env)::starEach [] X.env:=by rfl)
  (h3:(backTo pos (starEach [c] X.env)).any (·.1)=false:=by rfl):PE X (.Call (.Name "isinstance" p) [a,c] [] pos) (Xe (Vd X.K) (Hk ta (Hk tc IE))):=
 Ag RN hg hm PyProof.Rows.boot_isinstance (AA ha (AA hc AB h2) h1) (by decide) (by decide) h1 h3
end
theorem Xo{u:TS}(Z:St->Hp->Prop)(h1:∀N:St->Hp->Prop,(∀σ' H',Z σ' H'->N σ' H')->t {D with nx:=N} σ H)(h2:∀σ' H',Z σ' H'->u D σ' H'):P0 t u D σ H:=h1 (u D) h2
noncomputable def MT(ns:qU)(lo hi:Option Int):qU:=(ns.drop (HT.KN ns.length 0 lo)).take (HT.KN ns.length ns.length hi-HT.KN ns.length 0 lo)
theorem MU(ns:qU)(lo hi:Option Int):LO (ns.map V.int) lo hi=(MT ns lo hi).map V.int:=by unfold LO MT;rw[a9,fj,List.map_drop]
theorem RV(k:Nat)(v:V):(List.replicate k [v]).flatten=List.replicate k v:=by
 induction k with
 |zero=>rfl
 |succ k ih=>rw[cr,eR,ih,cr];rfl
def AV(K:qT)(x:Str)(st:Stmt)(f:qP):Prop:=(∃fd,BX K x x st f fd)/\PySem.W.nsIn K mainGlobals x=some (some (.ref f))
theorem AW{K:qT}{f:qP}{kV ct:qO}(a:PySem.W.nsIn K mainGlobals x=some (some (.ref f)))
  (l:K.lookup f=some ⟨oc,od,.func (PySem.W.fnOf x x (DJ st) (BW st) (AG st) .none kV doc pm an gh ct),osl⟩) (c:PySem.W.codeIn K gh x=true) (k:PySem.W.keepIn K (.ref f)=true):AV K x st f:=
 ⟨⟨_,RF l c k⟩,a⟩
section
variable{h':Heap}
theorem Ab.storedNew{y:Str}{v:V}{D:qP}{m:Str->Option qO}(I:Ab X ad σ H s)(hN:X.N.Nodup)(hi:X.N[i]?=some y)(hl:X.env.scope.names.lookup y=some .local)(r:BN v u)
  (hm:s.heap.Ns X.env.locals m) (hmv:∀(j:Nat) (z:Str) (v:V),X.N[j]?=some z->σ[j]?=some (some v)->Zn X.env.scope z->∃u,BN v u/\XS X.env s.heap m z u)
  (hn:h'.Ns X.env.locals λz=>if z=y then some u else m z) (k:∀b o,b≠X.env.locals->s.heap.get? b=some o->h'.get? b=some o)
  (hD:s.heap.get? D=none) (new:A5 X.prog X.w (Ak H D o) h' D o):Ab X ad (σ.set i (some v)) (Ak H D o) {s with heap:=h',toks:=t'}:=by
 have away:∀b ob,X.s₀.heap.get? b=some ob->b≠X.env.locals:=λb ob e=>bp (bQ (bM e) I.ok.above)
 have neD:∀b ob,s.heap.get? b=some ob->b≠D:=λb ob e z=>by rw[z,hD]at e;cases e
 have nD:H D=none:=by
  cases q:H D with
  |none=>rfl
  |some u' =>
   obtain⟨ob,e⟩:=(I.hok D u' q).somewhere;rw[hD]at e;cases e
 have cel:∀c w,c≠X.env.locals->s.heap.IsCell c w->h'.IsCell c w:=λc w hc ⟨ob,e,d⟩=>⟨ob,k c ob hc e,d⟩
 have LD:X.env.locals≠D:=by obtain⟨ob,_,_,e,_⟩:=id hm;exact neD _ ob e
 have hiσ:i<σ.length:=by rw[I.len];exact (bB.mp hi).1
 refine⟨I.ok,I.os,I.bare,⟨λb ob e n hb hx=>k b ob (away b ob e) (I.base.keep b ob e n hb hx),λb ob e n hb hx=>?_,λb ob e n hx=>?_,λb ob e hx=>?_,λb xs q=>?_,λb ob w q=>?_,λb ps q=>?_⟩,
  ⟨_,hn,λj z w e1 e2 e3=>?_⟩,λz c e=>?_,?_,λz c e=>?_,λq hq=>?_,λb w q=>?_,by simpa using I.len⟩
 ·obtain⟨sl,e1⟩:=I.base.slot b ob e n hb hx;exact⟨sl,k b _ (away b ob e) e1⟩
 ·obtain⟨o1,e1⟩:=I.base.there b ob e hx;rw[AJ (neD b o1 e1)];exact I.base.free b ob e n hx
 ·obtain⟨o1,e1⟩:=I.base.there b ob e hx;exact⟨o1,k b o1 (away b ob e) e1⟩
 ·have q':=I.base.tups b xs q;rw[AJ (As q' nD)];exact q'
 ·have q':=I.base.frzs b ob w q;rw[AJ (As q' nD)];exact q'
 ·obtain⟨more,q'⟩:=I.base.tbls b ps q;exact⟨more,by rw[AJ (As q' nD)];exact q'⟩
 ·by_cases hj:j=i
  ·subst hj;rw[hi]at e1;cases e1;rw[fN hiσ]at e2;cases e2;exact⟨u,r,.inl ⟨hl,by simp⟩⟩
  ·rw[fh (Ne.symm hj)]at e2;obtain⟨u',r',z'⟩:=hmv j z w e1 e2 e3;refine⟨u',r',?_⟩;rcases z' with⟨kk,z'⟩|⟨kk,c,z',y'⟩
   ·have ny:z≠y:=λq=>hj (Ij hN e1 (q▸hi))
    exact .inl ⟨kk,by simp[ny,z']⟩
   ·exact .inr ⟨kk,c,z',cel c _ (I.cne z c z') y'⟩
 ·obtain⟨w,q⟩:=I.cell z c e;exact⟨w,cel c w (I.cne z c e) q⟩
 ·rw[AJ LD];exact I.free
 ·obtain⟨w,ob,q,_⟩:=I.cell z c e;rw[AJ (neD c ob q)];exact I.freeC z c e
 ·obtain⟨e,n,ne,nf,d⟩:=I.pin q hq;exact⟨k q.1 q.2 ne e,by rw[AJ (neD q.1 q.2 e)];exact n,ne,nf,d⟩
 ·by_cases hb:b=D
  ·subst hb;rw[AD]at q;cases q;exact new
  ·rw[AJ hb]at q;have fz:=I.free;refine (I.hok b w q).stay (λc v' hc r'=>k c v' (λz=>?_) r') (λc z=>by rw[AJ (As z nD)];exact z) λc xs z=>by rw[AJ (As z nD)];exact z
   rcases hc with e|e
   ·rw[<-z,e,q]at fz;cases fz
   ·rw[<-z,e]at fz;cases fz
end
theorem MV{gv:Int}:∀{ns:qU} {its ys:List qO},Av (ns.map V.int) its->Paired (λv y=>∀i t,v=Value.int i t->∃t',y=Value.int (i%gv) t') its ys->Av ((ns.map (·%gv)).map V.int) ys
 |[],_,_,.nil,.nil=>.nil
 |n::ns,_,_,.cons r rr,.cons q qq=>by obtain⟨t,e⟩:=r;exact .cons (q n t e) (MV rr qq)
def MW(K:qT)(ti:TE)(ig iy:Nat):TS:=λD σ H=>∃gv:Int,σ[ig]?=some (some (.int gv))/\0<gv/\ti σ H λv H1=>∃(a:qP) (ns:qU),v=.ref a/\Ai K H1 a (ns.map V.int) /\
 ∀p,H1 p=none->D.nx (σ.set iy (some (.ref p))) (Ak H1 p (.lst ((ns.map (·%gv)).map V.int)))
section
variable{y g:Str}{px py p1 p2 p3 pos spos:Pos}{iter:Expr}{ti:TE}{ig iy:Nat}{c:qP}
theorem Nt(hc:X.calm=true)(hN:X.N.Nodup)(hy:X.N[iy]?=some y)(hyl:X.env.scope.names.lookup y=some .local)(hgN:X.N[ig]?=some g)(hgk:X.env.scope.names.lookup g=some .cell)(hi:PE X iter ti)
  (hsw:swapsWith (.ListComp (.BinOp (.Name x p1) .Mod (.Name g p2) p3) [⟨.Name x px,iter,[],0⟩] scope pos) (some (.Name y py)) spos.line X.env=pure true)
  (hclos:closureFor scope X.env=pure [(g,c)]) (hcc:X.env.cells.lookup g=some c) (hcell:∀z∈scope.names,z.2≠.cell) (hkind:scope.kind=.function)
  (hnames:∀z∈scope.names,z.2=.local->scope.names.lookup z.1=some .local) (hx:scope.names.lookup x=some .local) (hgr:(relabel scope X.env).names.lookup g=some .cell)
  (hdx:(x==("__debug__":Str))=false:=by decide) (hdg:(g==("__debug__":Str))=false:=by decide) (hs:∀x,foldedSetIterable iter X.env x=pure x:=by intro _;rfl):
  PS X (.Assign [.Name y py] (.ListComp (.BinOp (.Name x p1) .Mod (.Name g p2) p3) [⟨.Name x px,iter,[],0⟩] scope pos) spos) (MW X.K ti ig iy):=by
 intro ad s σ H D I h;refine byG λGq hGq=>?_;obtain⟨gv,hgσ,g0,h⟩:=h;refine hGq ?_;clear hGq Gq;have hcls:(X.env.scope.kind==.class||(X.env.scope.kind==.module&&X.env.locals != X.env.globals))=false:=by rw[I.ok.kind];rfl
 refine wpAny_Assign_ListComp_free (λ_=>true) (λv y=>∀i t,v=.int i t->∃t',y=.int (i%gv) t') hsw hclos hcell hkind hnames hx hyl hcls (BU (hi ad s σ H _ I h) λxv s1 q=>?_) hs;refine byG λGq hGq=>?_;obtain⟨v,H1,I1,rv,a,ns,e,hq,q⟩:=q;refine hGq ?_;clear hGq Gq;subst e;cases rv;refine byG λGq hGq=>?_;obtain⟨its,rits,pl,hz⟩:=I1.list hq;refine hGq ?_;clear hGq Gq;have hlen:=rits.length;have alt:a<s1.heap.objs.size:=by obtain⟨o,e,_⟩:=pl.isList;exact bM e
 refine wpAny_pyIter_list pl.isList ?_;obtain⟨m,hm,hmv⟩:=I1.loc;have up:∀b o,s1.heap.get? b=some o->(s1.heap.push {cls:=.type "list_iterator",data:=.fields #[.ref a,.int 0 0]}).get? b=some o:=λb o e=>bG _ e
 refine⟨s1.heap.objs.size,[s1.heap.objs.size,a],[s1.heap.objs.size],its.toArray.size,_,_,m,rfl,Walks.list (I.ok.hd hc) _ a (bp alt) its.toArray,by rw[bn,<-hlen];exact hz,
  ⟨⟨_,bV _ rfl,rfl,rfl⟩,pl.isList.at λo e=>up a o e⟩,λb hb=>?_,?_,hm.at' λo e=>up _ o e,⟨?_,?_⟩,?_⟩
 ·show b<(s1.heap.push _).objs.size;rw[cx];rcases bi.mp hb with z|z
  ·rw[z];exact cq _
  ·rw[bL.mp z];exact cw alt
 ·intro z;have z':=bL.mp z;exact qE I1.lt (by rw[z'];exact bx _)
 ·intro C i w s3 m3 E' _ _ _ _ _ _;exact qB ⟨rfl,s3.heap,s3.toks,rfl,λ_ _ e=>e⟩
 ·intro C i w s3 m3 E' hC hw _ hn3 hx3 hk3 _;have hgl:=hmv ig g (.int gv) hgN hgσ (.inr (.inl hgk));refine byG λGq hGq=>?_;obtain⟨u,⟨tg,ru⟩,lk⟩:=hgl;refine hGq ?_;clear hGq Gq;subst ru
  have cellv:s3.heap.IsCell c (some (.int gv tg)):=by
   rcases lk with⟨kk,_⟩|⟨_,c',e',⟨o,eo,d⟩⟩
   ·rw[show X.env.kindOf g=some .cell from hgk]at kk;cases kk
   ·rw[hcc]at e';cases e';exact⟨o,hk3 c o (λz=>qE (bM eo) (by rw[bL.mp z];exact bx _)) (up c o eo),d⟩
  have hkf:(compEnvC scope [(g,c)] C X.env).scope.kind=.function:=hkind;refine wpAny_BinOp (wpAny_Name (wpAny_loadName_local hkf (lookup_relabel_local hx) hn3 hx3 ?_) hdx);refine wpAny_Name (wpAny_loadName_cell (c:=c) hkf hgr (by simp[compEnvC]) cellv ?_) hdg;have hwi:its[i]?=some w:=by simpa using hw
  have hi2:i<its.length:=(bB.mp hwi).1;obtain⟨u2,hu2,ru2⟩:=rits.get (x:=(.int (ns[i]'(by rw[a9]at hlen;lia)))) (i:=i) (by rw[bF,bA (by rw[a9]at hlen;lia)];rfl);rw[hwi]at hu2;cases hu2;obtain⟨tw,rfl⟩:=ru2;refine mod_int' (by lia) ⟨λi' t' e=>?_,s3.heap,s3.toks+1,rfl,λ_ _ e=>e⟩;cases e;exact⟨_,by rw[Int.fmod_eq_emod_of_nonneg _ (by lia)]⟩
 ·intro D' h2 tk ys vs hD' hlD hplD hvl hvP hF hnL hk2
  have hDn:s1.heap.get? D'=none:=by
   cases z:s1.heap.get? D' with
   |none=>rfl
   |some o =>
    have z2:=up D' o z;rw[hD']at z2;cases z2
  have nD:H1 D'=none:=by
   cases z:H1 D' with
   |none=>rfl
   |some u' =>
    obtain⟨ob,e⟩:=(I1.hok D' u' z).somewhere;rw[hDn]at e;cases e
  refine⟨_,_,I1.storedNew (t':=tk) hN hy hyl (v:=.ref D') (u:=.ref D') rfl hm hmv hnL (λb o hb e=>hk2 b o hb (λz=>qE (bM e) (by rw[bL.mp z];exact bx _)) (up b o e)) hDn ?_,q D' nD⟩;obtain⟨n,e⟩:=hplD;refine⟨?_,ys.toList,n,?_,by simpa using e⟩
  ·rw[a9,a9];rw[a9]at hz;exact hz
  ·have hf:vs.filter (λ_=>true)=vs:=List.filter_eq_self.mpr λ_ _=>rfl
   rw[hf]at hF
   have hvs:vs=its:=by
    apply fS;intro j
    by_cases hj:j<vs.length
    ·have z:=hvP j vs[j] (bA hj);rw[bA hj];exact (by simpa using z:its[j]?=some vs[j]).symm
    ·rw[bh (by lia),bh (by rw[bn]at hvl;lia)]
   rw[hvs]at hF;exact MV rits hF
end
section
variable{prog:qR}{w:qS}{A:Around}{K:qT}{hp:Heap}{gs:Array GenState}{dr:Drawn}{tk:Nat}{oz:OsState}
variable{nm qn:Str}{c N:qP}{bs tl bmB:List qO}{dy:Bool}{sn:List Str}{sub:List qO}{ab:Bool}{col:Option Bool}{dd:Option qP}{k0 k1 k2 k3 k5:Option qO}{B nid iid:String}
theorem Tf(F:ExcBaseFacts B nid iid bmB)(T:OwnTail hp bmB tl){mN:Str->Option qO}{f:qP}{Q:Fin->qQ->Prop}(kin:K.In hp)
  (hC:hp.get? c=some (excClassObj nm qn c N bs tl dy sn sub ab col dd k0 k1 k2 k3 k5 nid)) (hN:hp.Ns N mN) (hi:mN "__init__"=some (.ref f)) (hf:PySem.W.typeIn K (.ref f)=some (.type "function"))
  (k:∀hp' e,hp.objs.size<=e->Heap.MadeExcOf hp hp' e (.ref c) us->wpAny (model prog w) A (call (.ref f) (.ref e::us)) (λr s'=>r=.none/\Q (.done (.ret (.ref e))) s') E ⟨hp',gs,dr,tk,oz⟩) (hl:us.length<=sizeLine):
  wpAny (model prog w) A (Builtin.«type.__call__» ⟨.ref c::us,[]⟩) Q E ⟨hp,gs,dr,tk,oz⟩:=by
 repeat (first|with_reducible refine wpAny_madeBy_exc hC ?_|with_reducible refine wpAny_loadPart_at hC ?_|wp_step)
 refine codeAny_call_builtin_code (Code.quiet_builtin _ F.quiet) (wpAny_check_new_subU F F.hasB T hC (codeAny_exc_new_subU F F.hasB F T hC ?_ hl));show wpAny _ _ _ _ _ _;generalize e1:hp.push {cls:=.type "tuple",data:=.seq us.toArray}=hp1;have s1:hp1.objs.size=hp.objs.size+1:=by rw[<-e1,cx]
 have u1:∀b o,hp.get? b=some o->hp1.get? b=some o:=λb o z=>by rw[<-e1];exact bG _ z
 have t1:hp1.get? hp.objs.size=some {cls:=.type "tuple",data:=.seq us.toArray}:=by rw[<-e1];exact bV hp rfl
 generalize e2:hp1.push {cls:=.ref c,data:=.fields #[.ref hp.objs.size,.none,.none,.none,.bool false,.none]}=hp2;have u2:∀b o,hp1.get? b=some o->hp2.get? b=some o:=λb o z=>by rw[<-e2];exact bG _ z
 have x2:hp2.get? (hp.objs.size+1)=some {cls:=.ref c,data:=.fields #[.ref hp.objs.size,.none,.none,.none,.bool false,.none]}:=by rw[<-e2,<-s1];exact bV hp1 rfl
 have u3:∀b o,hp.get? b=some o->hp2.get? b=some o:=λb o z=>u2 b o (u1 b o z)
 have C2:=u3 _ _ hC;have N2:hp2.Ns N mN:=hN.keeps u3;have T2:=T.keeps u3;have kin2:K.In hp2:=λb o z=>u3 b o (kin b o z)
 have cc:(Value.ref c::tl).contains (.ref c)=true:=by simp
 unfold isInstance
 repeat (first|with_reducible refine wpAny_loadPart_at x2 ?_|(with_reducible refine wpAny_isSubtype_exc C2 ?_;rw[cc])|wp_step)
 show wpAny _ _ (typeLookup (.ref c) _) _ _ _;refine wpAny_typeLookup_tail C2 N2 T2 F.mroIs F.init.lookup ?_;rw[hi];refine qM (qA ((PySem.W.bind_fn kin2 _ hf).at ?_));have made:Heap.MadeExcOf hp hp2 (hp.objs.size+1) (.ref c) us:=⟨u3,eU (dS _),hp.objs.size,x2,eU (bD _),u2 _ _ t1⟩;refine qA (qK (k hp2 _ (dS _) made) (λr s' hr=>?_) λ_ _ z=>z);obtain⟨er,hQ⟩:=hr;subst er
 wp_walk
 exact hQ
theorem Tg(F:ExcBaseFacts B nid iid bmB)(T:OwnTail hp bmB tl){mN:Str->Option qO}{f:qP}(kin:K.In hp)
  (hC:hp.get? c=some (excClassObj nm qn c N bs tl dy sn sub ab col dd k0 k1 k2 k3 k5 nid)) (hN:hp.Ns N mN) (hi:mN "__init__"=some (.ref f)) (hf:PySem.W.typeIn K (.ref f)=some (.type "function"))
  (k:∀hp' e,hp.objs.size<=e->Heap.MadeExcOf hp hp' e (.ref c) us->wpAny (model prog w) (A.under (.builtin "type.__call__" ⟨.ref c::us,[]⟩)) (call (.ref f) (.ref e::us)) (λr s'=>r=.none/\Q (.ref e) s') E ⟨hp',gs,dr,tk,oz⟩) (hl:us.length<=sizeLine):
  wpAny (model prog w) A (call (.ref c) us) Q E ⟨hp,gs,dr,tk,oz⟩:=by
 have z1:=tc_lookup;have z2:=tc_bind (.ref c);have z3:(⟨hp,gs,dr,tk,oz⟩:qQ).TypeIs (.ref c) "type":=⟨_,hC,rfl⟩;refine wpAny_call (codeAny_of_tree ?_);show wpAny _ _ (callAny (.ref c) _) _ _ _
 repeat (any_goals (first|assumption|with_reducible refine wpAny_loadPart_at hC ?_|wp_step))
 refine⟨rfl,codeAny_call_builtin_at (Code.quiet_builtin _ (by decide +kernel)) entry_typeCall (wpAny_check_type_call_sub hC (Tf F T kin hC hN hi hf (λhp' e z m=>?_) hl))⟩;exact k hp' e z m
end
noncomputable def Xp(K:qT)(C R:qP):Bool:=(PySem.W.clsIn K C).any λcd=>cd.mro==Value.ref C::Value.ref R::Ep
structure XA(K:qT)(C R:qP)(f:Str):Prop where
 sa:PySem.W.findIn K (.ref C) "__setattr__"=some (some (.builtin "object.__setattr__"))
 hd:PySem.W.hasDictIn K C=true
 mr:Xp K C R=true
 no:PySem.W.findIn K (.ref C) f=some none
 ek:MP K C
section
variable{prog:qR}{w:qS}{A:Around}{K:qT}{x R:qP}{ox:Obj}{vs:Array qO}{f:Str}{v:qO}
theorem QC{Q:Unit->qQ->Prop}(kin:K.In s.heap)(c:XA K C R f)(hx:s.heap.get? x=some ox)(hc:ox.cls=.ref C)(hd:ox.data=.fields vs)(hn:ox.dict=none)
  (k:∀h' dx,s.heap.get? dx=none->dx≠x->h'.get? x=some {ox with dict:=some dx}->h'.Ns1 dx (λy=>if y=f then some v else none)->(∀b o,b≠x->s.heap.get? b=some o->h'.get? b=some o)->Q () {s with heap:=h',toks:=s.toks+2}):
  wpAny (model prog w) A (setAttr (.ref x) f v) Q E s:=by
 refine byG λGq hGq=>?_;obtain⟨oc,od,dt,sl⟩:=ox;refine hGq ?_;clear hGq Gq;dsimp only at hc hd hn;subst hc hd hn;have SF:=PySem.F.store_object;have SV:=PySem.F.store_ValueError;have I:PySem.W.InstAt s.heap x ⟨.ref C,none,.fields vs,sl⟩ C none:=⟨hx,rfl,rfl,trivial⟩;refine PySem.W.set_plain kin I c.sa ?_;obtain⟨cd,hcd,hm0⟩:=PySem.W.any_some c.mr;have hm1:cd.mro=Value.ref C::Value.ref R::Ep:=beq_iff_eq.mp hm0;obtain⟨cd',hcd',hdd⟩:=PySem.W.any_some c.hd;have ecd:cd'=cd:=Option.some.inj (hcd'.symm.trans hcd);subst ecd;generalize es:({s with toks:=s.toks+1}:qQ)=s1;have hp1:s1.heap=s.heap:=by rw[<-es]
 have ty:PySem.W.Looks (model prog w) s1.heap (typeOf (.ref x)) (.ref C):=by rw[hp1];exact I.type
 have mo:PySem.W.Looks (model prog w) s1.heap (isInstance (.ref x) (.type "object")) true:=ty.andThen (by rw[hp1];exact PySem.W.looks_mroIn kin c.ek.mo);have ml:PySem.W.Looks (model prog w) s1.heap (mroOf (.ref C)) cd'.mro:=by rw[hp1];exact (PySem.W.looks_clsIn kin hcd).andThen .now
 have lf:PySem.W.Looks (model prog w) s1.heap (typeLookup (.ref C) f) none:=by rw[hp1];exact eV kin c.no
 refine codeAny_call_builtin SF.slot.plain SF.entry (@PySem.W.check_slot (model prog w) _ _ s1 "object.__setattr__" "object" "__setattr__" (.ref x) [.str f s.toks,v] [] _ SF.kind SF.split mo (SF.args (.ref x) (.str f s.toks) v) ?_);rw[PySem.W.osa_eq,refuse_eq];refine qA (qA (ty.here (qA (ml.here ?_))));rw[hm1,refuseLoop_ref,refuseLoop_ref,SV.passes];refine qB (qA (ty.here (qA (lf.here (qA ?_)))));refine qB (a:=(none:Option qO)) ?_;have hx1:s1.heap.get? x=some ⟨.ref C,none,.fields vs,sl⟩:=by rw[hp1];exact hx
 have lc:PySem.W.Looks (model prog w) s1.heap (classData C) cd':=by rw[hp1];exact PySem.W.looks_clsIn kin hcd
 refine qA (qB (qA (qA (wpAny_loadPart hx1 (qA (lc.here ?_))))));rw[hdd];have nx:x≠s1.heap.objs.size:=bp (bM hx1);have hx2:(s1.heap.push {cls:=.type "dict",data:=.dict #[]}).get? x=some ⟨.ref C,none,.fields vs,sl⟩:=bG _ hx1;refine qA (wpAny_alloc' (qA (wpAny_update' hx2 (qB ?_))));generalize e3:(s1.heap.push {cls:=.type "dict",data:=.dict #[]}).update x (λo=>{cls:=o.cls,dict:=some s1.heap.objs.size,data:=o.data,slots:=o.slots})=h3;have d3:h3.get? s1.heap.objs.size=some {cls:=.type "dict",data:=.dict #[]}:=by rw[<-e3];exact (fE _ _ _ _ nx.symm).trans (bV s1.heap rfl)
 have x3:h3.get? x=some ⟨.ref C,some s1.heap.objs.size,.fields vs,sl⟩:=by rw[<-e3];exact eJ _ hx2 rfl
 have o3:∀b o,b≠x->s1.heap.get? b=some o->h3.get? b=some o:=λb o nb z=>by rw[<-e3];exact (fE _ _ _ _ nb).trans (bG _ z)
 have n3:h3.Ns s1.heap.objs.size (λ_=>none):=⟨_,#[],_,d3,rfl,λe he=>qE he (by simp),λ_=>rfl⟩;show wpAny _ _ (Builtin.ObjectAttr.storeInDict s1.heap.objs.size (.str f s.toks) f v) _ _ _;unfold Builtin.ObjectAttr.storeInDict Builtin.ObjectAttr.newKeyGuard;refine qA (qB (qA (wpAny_nsSet1 (Heap.Ns1.of_empty n3) λh4 n4 sb=>?_)));refine byG λGq hGq=>?_;obtain⟨oD,esD,epD,hoD,hdD,hcD⟩:=n4.count (PySem.Within.cons f v PySem.Within.nil);refine hGq ?_;clear hGq Gq;refine qA (wpAny_lookBehind hoD (by rw[hdD];exact pastItsLine_dict (cF hcD (by rw[cK,List.length_nil,sizeLine_eq];lia))) ?_);subst es;exact qB (k h4 _ (eU (bD _)) nx.symm ((sb.2 x nx).trans x3) n4 λb o nb z=>(sb.2 b (bp (bM z))).trans (o3 b o nb z))
end
noncomputable def GH(H:Hp)(a:qP):Hp:=λb=>if b=a then none else H b
theorem QD:GH H a a=none:=by unfold GH;rw[qD rfl]
theorem Cn{b:qP}(h:b≠a):GH H a b=H b:=by unfold GH;rw[qC h]
theorem Ko{b:qP}(h:GH H a b=some o):b≠a/\H b=some o:=by
 have ne:b≠a:=λz=>by rw[z,QD]at h;cases h
 rw[Cn ne]at h;exact⟨ne,h⟩
section
variable{A:Around}{R:qP}{f:Str}{n:Bool}
theorem Th{y:V}{Q:Unit->qQ->Prop}(I:Ab X ad σ H s)(e:H a=some (O3 a (.ref C) none n))(c:XA X.K C R f)(ry:BN y u)
  (h:∀dx s',H dx=none->Ab X ad σ (Ak (Ak H a (O3 a (.ref C) (some dx) n)) dx (.xd [(f,y)])) s'->Q () s'):wpAny (model X.prog X.w) A (setAttr (.ref a) f u) Q E s:=by
 refine byG λGq hGq=>?_;obtain⟨⟨ox,vs,hx,hc,hd,hn,hfr⟩,_,_⟩:=(show A5 X.prog X.w H s.heap a (.ext (Eo a (.ref C) none n)) from I.hok a _ e);refine hGq ?_;clear hGq Gq;refine QC I.kIn c hx hc hd hn λh' dx nd ne x1 n1 k1=>?_
 have hdx:H dx=none:=by
  cases q:H dx with
  |none=>rfl
  |some o =>
   obtain⟨ob,z⟩:=(I.hok dx o q).somewhere;rw[nd]at z;cases z
 have na:∀b,H b=none->b≠a:=λb z w=>by rw[w,e]at z;cases z
 have nb:∀b o,s.heap.get? b=some o->b≠dx:=λb o z w=>by rw[w,nd]at z;cases z
 have nh:∀b o,H b=some o->b≠dx:=λb o z=>As z hdx
 have at2:∀b,b≠a->b≠dx->Ak (Ak H a (O3 a (.ref C) (some dx) n)) dx (.xd [(f,y)]) b=H b:=λb z1 z2=>by rw[AJ z2,AJ z1]
 refine h dx _ hdx (I.un (h':=h') (t':=s.toks+2) ⟨λb o q z _ _=>k1 b o (na b z) q,λb o q z _ _=>⟨o.slots,k1 b o (na b z) q⟩,λb o q z _=>by rw[at2 b (na b z) (nb b o q)];exact z,λb o q _=>?_,λb xs q=>?_,λb o v q=>?_,λb ps q=>?_⟩ λb v q=>?_)
 ·by_cases w:b=a
  ·rw[w];exact⟨_,x1⟩
  ·exact⟨o,k1 b o w q⟩
 ·rw[at2 b (λw=>by rw[w,e]at q;cases q) (nh b _ q)];exact q
 ·rw[at2 b (λw=>by rw[w,e]at q;cases q) (nh b _ q)];exact q
 ·exact⟨#[],by rw[at2 b (λw=>by rw[w,e]at q;cases q) (nh b _ q),q];simp⟩
 ·by_cases w:b=dx
  ·rw[w,AD]at q;cases q;rw[w];refine⟨_,n1,λg=>?_⟩
   by_cases z:g=f
   ·rw[z,qD rfl,List.lookup_cons_self];exact ry
   ·rw[qC z,List.lookup_cons,beq_false_of_ne z];exact True.intro
  ·rw[AJ w]at q
   by_cases z:b=a
   ·rw[z,AD]at q;cases q;rw[z];exact⟨⟨_,vs,x1,hc,hd,rfl,hfr⟩,⟨_,x1⟩,λh1 h2 ⟨o,ws,e,r⟩ k=>⟨o,ws,k o e,r⟩⟩
   ·rw[AJ z]at q;refine (I.hok b v q).stay (λc2 o hc2 r=>k1 c2 o ?_ r) (λc2 r=>by rw[at2 c2 (λw2=>by rw[w2,e]at r;cases r) (nh c2 _ r)];exact r) λc2 xs r=>by rw[at2 c2 (λw2=>by rw[w2,e]at r;cases r) (nh c2 _ r)];exact r
    rcases hc2 with w2|w2
    ·rw[w2];exact z
    ·intro w3;rw[w3,e]at w2;cases w2
end
noncomputable def Zr(K:qT)(C f:qP):Bool:=(K.lookup C).any λo=>match o with
 | ⟨.type t,_,.cls d,sl⟩=>t=="type"&&(match d.mro with
  |.ref c::tl=>c==C&&PySem.W.tailIn K Ep tl
  |_=>false)&&(match sl.toList with
  |[_,_,_,_,some (.builtin m),_]=>m=="ValueError.__new__"
  |_=>false)&&!d.hasDel&&PySem.W.nsOkIn K d.ns&&PySem.W.nsIn K d.ns "__init__"==some (some (.ref f))
 |_=>false
theorem Ti{K:qT}{h:Heap}{N:qP}{m:Str->Option qO}{v:qO}(kin:K.In h)(g:h.Ns N m)(e:PySem.W.nsIn K N x=some (some v)):m x=some v:=by
 obtain⟨o,es,ep,ho,hd,_,hf⟩:=g;unfold PySem.W.nsIn at e
 split at e
 ·rename_i es' n' sl q
  have z:=kin _ _ q;rw[ho]at z;cases z;cases hd
  split at e
  ·rename_i en he
   cases e;rw[<-hf];unfold nsFind findBy;rw[<-Array.find?_toList,he];rfl
  ·split at e<;>cases e
 ·cases e
theorem O4{K:qT}{h:Heap}{f:qP}(kin:K.In h)(q:Zr K C f=true):
  ∃tl N nm qn bs dy sn sub ab col dd k0 k1 k2 k3 k5 mN,h.get? C=some (excClassObj nm qn C N bs tl dy sn sub ab col dd k0 k1 k2 k3 k5 "ValueError.__new__")/\h.Ns N mN/\mN "__init__"=some (.ref f)/\OwnTail h Ep tl:=by
 unfold Zr at q;cases ho:K.lookup C with
 |none=>rw[ho]at q;cases q
 |some o =>
  rw[ho]at q;simp only[Option.any_some]at q
  split at q
  next t dd d sl =>
   simp only[Bool.and_eq_true,beq_iff_eq,Bool.not_eq_true']at q;refine byG λGq hGq=>?_;obtain⟨⟨⟨⟨⟨e1,e2⟩,e3⟩,e4⟩,e5⟩,e6⟩:=q;refine hGq ?_;clear hGq Gq;subst e1
   split at e2
   next c tl hm =>
    simp only[Bool.and_eq_true,beq_iff_eq]at e2;obtain⟨e7,e8⟩:=e2;subst e7
    split at e3
    next k0 k1 k2 k3 m k5 hs =>
     simp only[beq_iff_eq]at e3;subst e3;refine byG λGq hGq=>?_;obtain⟨nm,bs,mro,N,qn,dy,sn,sub,ab,col,del⟩:=d;refine hGq ?_;clear hGq Gq;dsimp only at hm e4 e5 e6;subst hm e4
     have e9:sl=#[k0,k1,k2,k3,some (.builtin "ValueError.__new__"),k5]:=by obtain⟨l⟩:=sl;simp only at hs;rw[hs]
     subst e9;have g:h.Ns N (h.nsMap N):=.of_isNs (PySem.W.isNs_of_in kin e5);exact⟨tl,N,nm,qn,bs,dy,sn,sub,ab,col,dd,k0,k1,k2,k3,k5,_,kin _ _ ho,g,Ti kin g e6,PySem.W.tail_of_in kin e8⟩
    next=>cases e3
   next=>cases e2
  next=>cases q
structure Zs(K:qT)(C f:qP):Prop where
 ci:Zr K C f=true
 fn:PySem.W.typeIn K (.ref f)=some (.type "function")
 kp:PySem.W.keepIn K (.ref C)=true
section
variable{f:qP}{ps:List Str}{sp:Sp}{vs:List V}
theorem RX{Q:VK}(M:Zs X.K C f)(F:Fp X.prog X.w X.K X.mg X.base (KJ X.prog X.w) k f fd ps sp)(hr:B7 (k+1) X.A)(hb:Em X.K fd ps [])(I:Ab X ad σ H s)(r:Av vs us)(hz:vs.length<=sizeLine)
  (h:∀a,H a=none->sp (.ref a::vs) (Ak H a (O3 a (.ref C) none true)) (λv H2=>v=.non/\Q (.ref a) H2) E0):
  wpAny (model X.prog X.w) X.A (call (.ref C) us) (λv s'=>∃a H',v=.ref a/\s.heap.get? a=none/\Ab X ad σ H' s'/\Q (.ref a) H') X.xe s:=by
 refine byG λGq hGq=>?_;obtain⟨tl,N,nm,qn,bs,dy,sn,sub,ab,col,dd,k0,k1,k2,k3,k5,mN,hO,hN,hi,T⟩:=O4 I.kIn M.ci;refine hGq ?_;clear hGq Gq;refine byG λGq hGq=>?_;obtain⟨hp,g,d,t,os⟩:=s;refine hGq ?_;clear hGq Gq;refine Tg eS T I.kIn hO hN hi M.fn (λhp' e hsz m=>?_) (by rw[<-r.length];exact hz);refine byG λGq hGq=>?_;obtain⟨t',he,ht,_⟩:=m.there;refine hGq ?_;clear hGq Gq
 have I2:Ab X ad σ (Ak H e (O3 e (.ref C) none true)) ⟨hp',g,d,t,os⟩:=I.laid (t':=t) m.keeps hsz
  ⟨⟨_,_,he,rfl,rfl,rfl,λ_=>⟨t',rfl⟩⟩,⟨_,he⟩,λh1 h2 ⟨o,ws,e,r⟩ k=>⟨o,ws,k o e,r⟩⟩
 have hq:=h e (I.hok.fresh hsz);have r2:Av (V.ref e::vs) (Value.ref e::us):=.cons rfl r
 have hl:(Value.ref e::us++[]).length=ps.length:=by rw[bz,<-r2.length];exact F.len _ _ _ _ hq
 have bb:=hb ⟨hp',g,d,t,os⟩ (Value.ref e::us) I2.kIn hl;rw[bz]at bb;refine wpAny_call (codeAny_mono (F.run _ X.stack _ _ ⟨Value.ref e::us,[]⟩ (Value.ref e::us) _ _ E0 (hr.make C us []) (I2.env0.make C us []) bb r2 hq) λrs s2 hq2=>?_);rcases rs with er|fl
 ·refine byG λGq hGq=>?_;obtain⟨_,_,_,_,_,_,_,_,z⟩:=hq2;refine hGq ?_;clear hGq Gq;exact z.elim
 ·cases fl with
  |ret u =>
   refine byG λGq hGq=>?_;obtain⟨v,H',I3,rv,ev,q3⟩:=I2.after hq2;refine hGq ?_;clear hGq Gq;subst ev;exact⟨rv,e,H',rfl,m.new,I3,q3⟩
  |next=>exact False.elim hq2
  |brk=>exact False.elim hq2
  |cont=>exact False.elim hq2
end
def Um(C:qP)(sp:Sp)(t:TA):TE:=λσ H Q=>t σ H λvs H1=>vs.length<=sizeLine/\∀a,H1 a=none->sp (.ref a::vs) (Ak H1 a (O3 a (.ref C) none true)) (λv H2=>v=.non/\Q (.ref a) H2) E0
def Lb(C:qP)(sp:Sp)(E:XK)(t:TA):TS:=λ_ σ H=>Um C sp t σ H λv H2=>∃a D,v=.ref a/\H2 a=some (O3 a (.ref C) D true)/\E (.ref C) D (GH H2 a)
def Vg(K:qT)(ta tv:TE)(f:Str):TS:=λD σ H=>tv σ H λy H1=>ta σ H1 λx H2=>∃a C R n,x=.ref a/\H2 a=some (O3 a (.ref C) none n)/\XA K C R f/\∀dx,H2 dx=none->D.nx σ (Ak (Ak H2 a (O3 a (.ref C) (some dx) n)) dx (.xd [(f,y)]))
def Lc(X:Cx)(C:qO)(E:XK):Prop:=∀(ad:List (qP×Obj)) (σ:St) (H:Hp) (s:qQ) (a:qP) (D:Option qP),Ab X ad σ H s->X.s₀.heap.get? a=none->H a=some (O3 a C D true)->E C D (GH H a)->X.xe (.ref a) s
section
variable{P:qR}{w:qS}{K:qT}{mg:Str->Option qO}{base:Heap}{N:List Str}{f:qP}{cd:qO}{A:Around}{outer:List Env}{E:XK}
theorem ED{C:qO}:Lc (Dj (Kn nc P w) P w K mg base N qual scope f cd A outer s H E) C E:=by
 intro ad σ H1 s1 a D I ha0 ea hE;generalize hX:Dj (Kn nc P w) P w K mg base N qual scope f cd A outer s H E=X at I ha0⊢;have hst:X.stack=X.env::X.outer:=by rw[<-hX];rfl
 have hfr:X.env.frame=some X.env.locals:=by rw[<-hX];rfl
 have hxe:X.xe=λe s'=>wpAny (model P w) X.A (leaving X.env e) (λ_ s''=>Kn nc P w X.outer X.H₀ X.s₀ E e s'') (λe' s''=>Kn nc P w X.outer X.H₀ X.s₀ E e' s'') s':=by rw[<-hX];rfl
 have hex:X.ex=[]:=by rw[<-hX];rfl
 have hp:X.prog=P:=by rw[<-hX];rfl
 have hw:X.w=w:=by rw[<-hX];rfl
 subst hp hw;rw[hxe];refine byG λGq hGq=>?_;obtain⟨⟨oe,vs,he,hcl,hd,hdt,hfs⟩,_,_⟩:=(show A5 X.prog X.w H1 s1.heap a (.ext (Eo a C D true)) from I.hok a _ ea);refine hGq ?_;clear hGq Gq;obtain⟨t,hv⟩:=hfs rfl;subst hv hcl;have fr:=I.stack;have hin:∀env∈X.stack,∀b,env.frame=some b->b∈a::DZ X.stack:=λenv he b hb=>be _ (d6.mpr ⟨env,he,hb⟩)
 have fr':s1.heap.FunFrames (PySem.W.hideAll s1.heap (a::DZ X.stack)) (X.env::X.outer):=by rw[<-hst];exact PySem.W.funFrames_hide fr hin
 have hen:(PySem.W.hideAll s1.heap (a::DZ X.stack)).get? a=none:=PySem.W.hideAll_none _ (bf ..);refine qK (KT.run (Fq _ _) (wpAny_leaving_firstW (Q:=λ_ s2=>∃h2,s2={s1 with heap:=h2}/\Heap.LeftW (PySem.W.hideAll s1.heap (a::DZ X.stack)) (X.env::X.outer) a oe.cls (.ref t) s1.heap h2) (E:=λ_ _=>False) (a0:=.ref t) (by rw[<-hst];exact I.ok.frames) fr' hfr he (λb o q=>PySem.W.of_hideAll _ q) hen hd rfl rfl λh2 z=>⟨h2,rfl,z⟩)) (λ_ s2 q=>?_) λ_ _ q=>q.1.elim
 refine byG λGq hGq=>?_;obtain⟨⟨h2,rfl,k1,⟨k0,kk,k2⟩,k3,k4⟩,dk⟩:=q;refine hGq ?_;clear hGq Gq;have fl:Heap.FlyingW (PySem.W.hideAll s1.heap (a::DZ X.stack)) X.outer a oe.cls (.ref t) h2:=⟨k1,hen,k2,k3⟩
 have naf:a∉DZ X.stack:=λz=>by have y:=I.stkFree a z;rw[ea]at y;cases y
 have nin:∀b,b∉DZ X.stack->b≠a->b∉a::DZ X.stack:=λb z1 z2 z=>(bi.mp z).elim z2 z1
 have kept:∀b o,s1.heap.get? b=some o->b∉DZ X.stack->b≠a->h2.get? b=some o:=λb o q hb hn=>k1 b o (c5 _ q (nin b hb hn))
 have nea:∀b,H1 b=none->b≠a:=λb z w=>by rw[w,ea]at z;cases z
 have slt:∀b o,s1.heap.get? b=some o->b∈DZ X.stack->∃sl,h2.get? b=some {o with slots:=sl}:=λb o q hb=>k4 b o q (I.frameData q hb)
 obtain⟨ob,hob,_⟩:=fl.there
 have un1:Un (DZ X.stack) [] H1 (GH H1 a) s1.heap h2:=⟨λb o q z hb _=>kept b o q hb (nea b z),λb o q _ hb _=>slt b o q hb,λb o q z _=>by rw[Cn (nea b z)];exact z,λb o q _=>by
  by_cases hb:b∈DZ X.stack
  ·obtain⟨sl,z⟩:=slt b o q hb;exact⟨_,z⟩
  ·by_cases hn:b=a
   ·rw[hn];exact⟨ob,hob⟩
   ·exact⟨o,kept b o q hb hn⟩,λb xs q=>by rw[Cn λz=>by rw[z,ea]at q;cases q];exact q,λb o u q=>by rw[Cn λz=>by rw[z,ea]at q;cases q];exact q,λb ps q=>⟨#[],by rw[Cn (λz=>by rw[z,ea]at q;cases q),q];simp⟩⟩
 have hok1:Gu X.prog X.w (GH H1 a) h2:=λb u q=>by
  obtain⟨hn,q'⟩:=Ko q;refine (I.hok b u q').stay (λc v hc r=>?_) (λc z=>by rw[Cn λz2=>by rw[z2,ea]at z;cases z];exact z) λc xs z=>by rw[Cn λz2=>by rw[z2,ea]at z;cases z];exact z
  rcases hc with z|z
  ·refine kept c v r (λy=>?_) (by rw[z];exact hn);have y':=I.stkFree c y;rw[z,q']at y';cases y'
  ·refine kept c v r (λy=>?_) λy=>?_
   ·have y':=I.stkFree c y;rw[z]at y';cases y'
   ·rw[y,ea]at z;cases z
 have J:Ab X ad σ (GH H1 a) {s1 with heap:=h2,toks:=s1.toks}:=I.call (g':=s1.gens) (d':=s1.drawn) (ch:=[]) un1 hok1 I.bare λb z=>qE z (by simp)
 have un:Un (DZ X.outer) [] X.H₀ (GH H1 a) X.s₀.heap h2:=by have z:=J.base;rw[hex]at z;exact z
 refine⟨a,oe.cls,.ref t,D,_,GH H1 a,rfl,⟨J.os,J.bare,un,J.hok,fl,λb o q hb o' q'=>?_,λb u q o' q'=>?_,⟨ob,hob,(dk.get he hob).1.trans hdt⟩,λ_=>⟨ob,hob,(dk.get he hob).2.trans (by unfold Ef;rw[hd];rfl)⟩⟩,hE⟩
 ·obtain⟨o1,q1⟩:=I.base.there b o q (by rw[hex];simp)
  have hn:b∉DZ X.stack:=λz=>by
   rcases bi.mp (I.stkSub b z) with y|y
   ·exact qE (bQ (bM q) I.ok.above) (by rw[y];exact bx _)
   ·exact hb y
  have hne:b≠a:=λz=>by rw[z,ha0]at q;cases q
  have q2:=kept b o1 q1 hn hne;rw[q']at q2;cases q2;exact c5 _ q1 (nin b hn hne)
 ·obtain⟨hne,qq⟩:=Ko q;have hn:b∉DZ X.stack:=λz=>by have y:=I.stkFree b z;rw[qq]at y;cases y
  obtain⟨o1,r⟩:=(I.hok b u qq).somewhere;have q2:=kept b o1 r hn hne;rw[q']at q2;cases q2;exact c5 _ r (nin b hn hne)
end
section
variable{M:Model}{A:Around}{env:Env}{nm qn:Str}{N:qP}{bs tl:List qO}{dy:Bool}{sn:List Str}{sub:List qO}{ab:Bool}{col:Option Bool}{dd:Option qP}{k0 k1 k2 k3 k5:Option qO}{nid:String}
theorem Nu{x:Sem qO}{Q:Flow->qQ->Prop}(hb:tl.contains (.type "BaseException")=true)(hh:A.handled=none)
  (h:wpAny M A x (λv s1=>∃(a t:qP) (D:Option qP) (sl:Array (Option qO)),v=.ref a/\s1.heap.get? C=some (excClassObj nm qn C N bs tl dy sn sub ab col dd k0 k1 k2 k3 k5 nid) /\
   s1.heap.get? a=some ⟨.ref C,D,.fields #[.ref t,.none,.none,.none,.bool false,.none],sl⟩/\E (.ref a) s1) E s):wpAny M A (raiseStmt env (some x) none) Q E s:=by
 have hcB:(Value.ref C::tl).contains (.type "BaseException")=true:=by rw[List.contains_cons,hb,Bool.or_true]
 unfold raiseStmt;refine qA (qK h (λv s1 h1=>?_) λ_ _ x=>x);refine byG λGq hGq=>?_;obtain⟨a,t,D,sl,rfl,hC,he,hE⟩:=h1;refine hGq ?_;clear hGq Gq;refine byG λGq hGq=>?_;obtain⟨hp,g,d,tk,os⟩:=s1;refine hGq ?_;clear hGq Gq
 repeat (first|with_reducible refine wpAny_loadPart_at hC ?_|with_reducible refine wpAny_loadPart_at he ?_|(with_reducible refine wpAny_isSubtype_exc hC ?_;rw[hcB])|wp_step)
 exact wpAny_raiseNew_none hh hE
end
section
variable{f:qP}{ps:List Str}{sp:Sp}{fld:Str}{E:XK}{e o value:Expr}{t:TA}{ta tv:TE}{np cpos pos pos':Pos}
theorem QE(hc:X.calm=true)(M:Zs X.K C f)(F:Fp X.prog X.w X.K X.mg X.base (KJ X.prog X.w) k f fd ps sp)(hr:B7 (k+1) X.A)(hb:Em X.K fd ps [])(hg:Gl X x)(hm:X.mg x=some (.ref C))(hx:Lc X (.ref C) E)(ha:PA X (e::es) t)(hex:X.ex=[]:=by rfl)
  (hdb:(x==("__debug__":Str))=false:=by decide) (he:starEach (e::es) X.env=(false,eval e X.env)::starEach es X.env:=by rfl) (hpl:(backTo cpos (starEach es X.env)).any (·.1)=false:=by rfl):
  PS X (.Raise (some (.Call (.Name x np) (e::es) [] cpos)) none pos) (Lb C sp E t):=by
 intro ad s σ H D I h;refine byG λGq hGq=>?_;obtain⟨tl,N,nm,qn,bs,dy,sn,sub,ab,col,dd,k0,k1,k2,k3,k5,mN,hO,hN,hni,T⟩:=O4 I.mod.kin M.ci;refine hGq ?_;clear hGq Gq;have FB:=eS;rw[arm_exec_Raise]
 have call:wpAny (model X.prog X.w) X.A (eval (.Call (.Name x np) (e::es) [] cpos) X.env) (λv s2=>∃(a t:qP) (D:Option qP) (sl:Array (Option qO)),v=.ref a/\s2.heap.get? C=some (excClassObj nm qn C N bs tl dy sn sub ab col dd k0 k1 k2 k3 k5 "ValueError.__new__") /\
   s2.heap.get? a=some ⟨.ref C,D,.fields #[.ref t,.none,.none,.none,.bool false,.none],sl⟩/\X.xe (.ref a) s2) X.xe s:=by
  refine wpAny_Call_Name_kw (GA I hg hm ?_ hdb);refine PySem.W.callWith_K (h₀:=X.base) I.ok.mod.kin M.kp (BU (ha cpos ad s σ H _ I h) λus s1 ⟨vs,H1,I1,r,hz,q⟩=>⟨I1.kIn,?_⟩) he hpl;refine BU (RX (Q:=λv H2=>∃a D,v=.ref a/\H2 a=some (O3 a (.ref C) D true)/\E (.ref C) D (GH H2 a)) M F hr hb I1 r hz q) λv s2 z=>?_;refine byG λGq hGq=>?_;obtain⟨a,H2,ev,hn,I2,a',D',ea',h2,hE⟩:=z;refine hGq ?_;clear hGq Gq;cases ea';refine byG λGq hGq=>?_;obtain⟨⟨oe,vs',he',hcl,hd,hdt,hfs⟩,_,_⟩:=(show A5 X.prog X.w H2 s2.heap a (.ext (Eo a (.ref C) D' true)) from I2.hok a _ h2);refine hGq ?_;clear hGq Gq;obtain⟨t',hv⟩:=hfs rfl;subst hv;refine byG λGq hGq=>?_;obtain⟨c1,c2,c3,c4⟩:=oe;refine hGq ?_;clear hGq Gq;dsimp only at hcl hd hdt;subst hcl hd hdt;refine⟨a,t',_,_,ev,I2.bk _ _ hO,he',hx ad σ H2 s2 a _ I2 ?_ h2 hE⟩;cases q0:X.s₀.heap.get? a with
  |none=>rfl
  |some o0 =>
   obtain⟨o1,q1⟩:=I1.base.there a o0 q0 (by rw[hex];simp);rw[hn]at q1;cases q1
 exact qA (wpAny_standAt (Nu (C:=C) (nm:=nm) (qn:=qn) (N:=N) (bs:=bs) (tl:=tl) (dy:=dy) (sn:=sn) (sub:=sub) (ab:=ab) (col:=col) (dd:=dd) (k0:=k0) (k1:=k1) (k2:=k2) (k3:=k3) (k5:=k5) (nid:="ValueError.__new__") (T.hasType FB.hasBase) (I.ok.hd hc)
  (qA (qK call (λv s3 h3=>qA (wpAny_standAt (qB h3))) λ_ _ z=>z))))
theorem Vh(ha:PE X o ta)(hv:PE X value tv)(hs:swapsWith value (some (.Attribute o fld pos')) pos.line X.env=pure false:=by rfl):PS X (.Assign [.Attribute o fld pos'] value pos) (Vg X.K ta tv fld):=by intro ad s σ H D I h;refine plainObj_wpAny_Assign_Attribute (BU (hv ad s σ H _ I h) λu s1 ⟨y,H1,I1,ry,q⟩=>BU (ha ad s1 σ H1 _ I1 q) λov s2 z9=>?_) hs;obtain⟨x,H2,I2,rx,a,C,R,n,ex,ea,c,q2⟩:=z9;subst ex;obtain rfl:ov=Value.ref a:=rx;exact Th I2 ea c ry λdx s3 hdx I3=>⟨σ,_,I3,q2 dx hdx⟩
end
section
variable{h':Heap}
theorem Ab.turnedNew{p:qP}(I:Ab X ad σ H s)(hf:∀b∈ch,Ek X ad H b)(k:∀b u,b∉ch->s.heap.get? b=some u->h'.get? b=some u)(hp:s.heap.objs.size<=p)
  (new:A5 X.prog X.w (Ak H p o) h' p o):Ab X ad σ (Ak H p o) {s with heap:=h',toks:=t'}:=by
 have hpn:H p=none:=I.hok.fresh hp;have nit:∀b u,H b=some u->b∉ch:=λb u e z=>by rw[(hf b z).1]at e;cases e
 have np:∀b u,s.heap.get? b=some u->b≠p:=λb u e=>bp (bQ (bM e) hp)
 refine I.step (g':=s.gens) (d':=s.drawn) (ch:=ch) (λb hb=>⟨(hf b hb).2.2.2.1,(hf b hb).2.1,(hf b hb).2.2.2.2.1,(hf b hb).2.2.2.2.2⟩) (λb u _ _ hc e _=>k b u hc e) (λb u _ _ hc e _=>⟨u.slots,k b u hc e⟩)
  (λb u _ e n=>by rw[AJ (np b u e)];exact n) (λb u hc e=>⟨u,k b u hc e⟩) (λb xs e=>by rw[AJ (As e hpn)];exact e) (λb u v e=>by rw[AJ (As e hpn)];exact e)
  (λb ps e=>⟨#[],by rw[AJ (As e hpn),e];simp⟩) (λm hm=>?_) (λb u e=>?_) I.bare
 ·obtain⟨o,es,ep,ho,r⟩:=hm;exact⟨o,es,ep,k _ o (λz=>(hf _ z).2.1 rfl) ho,r⟩
 ·by_cases z:b=p
  ·subst z;rw[AD]at e;cases e;exact new
  ·rw[AJ z]at e;refine (I.hok b u e).stay (λc v hc q=>k c v ?_ q) (λc q=>by rw[AJ (As q hpn)];exact q) λc xs q=>by rw[AJ (As q hpn)];exact q
   rcases hc with y|y
   ·rw[y];exact nit b u e
   ·exact nit c _ y
end
noncomputable def XO(K:qT)(a:qP):It:=
 ⟨λi H=>∃xs x,Ai K H a xs/\xs[i]?=some x,λi H v H'=>∃p x,v=.ref p/\H p=none/\H'=Ak H p (.tup [.int i,x])/\∀xs,Ai K H a xs->xs[i]?=some x,λi H=>∃xs,Ai K H a xs/\xs.length<=i⟩
variable{elts:List Expr}{tpos:Pos}
theorem QF{P:qR}{w:qS}{K:qT}{ctx}(a e it:qP)(hne:e≠it):
  Im P w K (.Tuple elts ctx tpos) (XO K a) [e,it] e (λi h=>(∃old,IsEnum h e it ((i:Nat):Int) old)/\h.IsListIter it a i) where
 mem:=by simp
 obj:=λi h st b hb=>by
  refine byG λGq hGq=>?_;obtain⟨⟨old,q⟩,o,e1,c,d⟩:=st;refine hGq ?_;clear hGq Gq;rcases bi.mp hb with z|z
  ·rw[z];exact⟨_,q,λv y=>by cases y⟩
  ·rw[bL.mp z];exact⟨o,e1,λv y=>by rw[d]at y;cases y⟩
 keep:=λi h h' st k=>by obtain⟨⟨old,q⟩,li⟩:=st;exact⟨⟨old,k e (by simp) _ q⟩,li.at λo z=>k it (by simp) o z⟩
 item:=by
  intro X hP hw hK hc i ad s σ H E I hf st hg;subst hP hw hK;refine byG λGq hGq=>?_;obtain⟨xs,x,hq,hx⟩:=hg;refine hGq ?_;clear hGq Gq;refine byG λGq hGq=>?_;obtain⟨its,rv,p,hz⟩:=I.list hq;refine hGq ?_;clear hGq Gq;obtain⟨u,hu,ru⟩:=rv.get hx;obtain⟨⟨old,he⟩,li⟩:=st;refine wpAny_pyNext_enum_item he li p.isList (x:=u) (by simpa using hu) hne λh1 out li1 ht hsz k1=>?_;refine⟨_,rfl,wpAny_letOwnedTupleGo_enum out λh2 he2 sb=>?_⟩
  have k2:∀b o,b∉[e,it]->s.heap.get? b=some o->h2.get? b=some o:=λb o hb z=>by
   have hb1:b≠e:=λy=>hb (by simp[y])
   have hb2:b≠it:=λy=>hb (by simp[y])
   exact (sb.2 b hb1).trans (k1 b o hb1 hb2 z)
  have hpe:s.heap.objs.size≠e:=du (bM he);have ht2:h2.get? s.heap.objs.size=some {cls:=.type "tuple",data:=.seq #[.int ((i:Nat):Int) s.toks,u]}:=(sb.2 _ hpe).trans ht;have hn:H s.heap.objs.size=none:=I.hok.fresh (bD _);refine⟨.ref s.heap.objs.size,Ak H s.heap.objs.size (.tup [.int ((i:Nat):Int),x]),I.turnedNew (h':=h2) (t':=s.toks+1) hf k2 (bD _) ?_,rfl,⟨_,x,rfl,hn,rfl,λys hy=>by rw[I.list_inj hy hq];exact hx⟩,⟨⟨u,?_⟩,?_⟩,λb hb=>?_⟩
  ·exact⟨by show 2<=sizeLine;decide,[.int ((i:Nat):Int) s.toks,u],.cons ⟨_,rfl⟩ (.cons ru .nil),⟨_,ht2,rfl,_,rfl⟩⟩
  ·have ec:(((i+1:Nat)):Int)=((i:Nat):Int)+1:=by push_cast;rfl
   rw[ec];exact he2
  ·exact li1.at λo z=>(sb.2 it (Ne.symm hne)).trans z
  ·have b0:=(hf b hb).1;rw[AJ λz=>?_]
   ·exact b0
   ·obtain⟨o,z1,_⟩:=id li;rcases bi.mp hb with y|y
    ·exact hpe (z.symm.trans y)
    ·exact qE (bM z1) (by rw[<-bL.mp y,z];exact bx _)
 done:=by intro X hP hw hK hc i ad s σ H E I hf st hg;subst hP hw hK;obtain⟨xs,hq,hx⟩:=hg;refine byG λGq hGq=>?_;obtain⟨its,rv,p,hz⟩:=I.list hq;refine hGq ?_;clear hGq Gq;obtain⟨⟨old,he⟩,li⟩:=st;refine byG λGq hGq=>?_;obtain⟨f0,f1,f2,f3,f4,f5⟩:=hf it (by simp);refine hGq ?_;clear hGq Gq;have hl:=rv.length;exact wpAny_pyNext_enum_end (I.ok.hd hc) he li p.isList (by simp;lia) λh' eb=>⟨rfl,I.turned (t':=s.toks) (λb o hb e=>eb b o hb e) f0 f1 f3 f4 f5⟩
 self:=λ_ _ _ _ _ st h=>by obtain⟨⟨old,he⟩,_⟩:=st;exact wpAny_pyIter_enum he h
section
variable{ctx}
def Xq(K:qT)(ta:TA):TI:=λσ H R=>ta σ H λvs H1=>∃a xs,vs=[.ref a]/\Ai K H1 a xs/\R (XO K a) H1
theorem GI{l:Expr}{p pos:Pos}(hg:Gl X "enumerate")(hm:X.mg "enumerate"=none)(ha:PA X [l] ta)(hs:starEach [l] X.env=[(false,eval l X.env)]:=by rfl):PI X (.Tuple elts ctx tpos) (.Call (.Name "enumerate" p) [l] [] pos) (Xq X.K ta):=by
 intro ad s σ H R I h;refine Call_ (DP I hg hm boot_enumerate (cD (BU (ha pos ad s σ H _ I h) λus s1 z9=>?_) hs rfl));obtain⟨vs,H1,I1,r1,q1⟩:=z9;obtain⟨a,xs,e,hq,q⟩:=q1;subst e;cases r1 with
 |cons r rr =>
  cases rr;cases r;obtain⟨its,rv,pl,hz⟩:=I1.list hq;refine call_enumerate_list pl.isList λh1 he li hsz k1=>?_;refine wpAny_pyIter_enum he ?_;have n1:H1 (s1.heap.objs.size+1)=none:=I1.hok.fresh (dS _);have n0:H1 s1.heap.objs.size=none:=I1.hok.fresh (bD _);refine⟨s1.heap.objs.size+1,[s1.heap.objs.size+1,s1.heap.objs.size],_,_,H1,rfl,I1.kept (t':=s1.toks) k1,QF a _ _ (Nat.succ_ne_self _),⟨⟨_,he⟩,li⟩,λb hb=>?_,q⟩;rcases bi.mp hb with z|z
  ·rw[z];exact I1.fpOk (dS _) n1
  ·rw[bL.mp z];exact I1.fpOk (bD _) n0
theorem GJ{K:qT}{g:TG}{tb:TS}(Pv:Nat->St->Hp->Prop)(h0:Pv 0 σ H)(hl:∀i σ H,i<=xs.length->Pv i σ H->Ai K H a xs)
  (hs:∀i x p σ H,xs[i]?=some x->Pv i σ H->H p=none->g (.ref p) σ (Ak H p (.tup [.int ((i:Nat):Int),x])) λσ2 H2=>tb {D with nx:=Pv (i+1),ct:=Pv (i+1),bk:=D.nx} σ2 H2) (hd:∀σ H,Pv xs.length σ H->D.nx σ H):
  ∃W:Nat->Nat->St->Hp->Prop,(∃m,W 0 m σ H)/\∀i m σ H,W i m σ H ->
   ((XO K a).stop i H/\D.nx σ H)\/((XO K a).go i H/\∃N:St->Hp->Prop,(∀σ' H',N σ' H'->∃m',m'<m/\W (i+1) m' σ' H')/\∀x H',(XO K a).yld i H x H'->g x σ H' λσ2 H2=>tb {D with nx:=N,ct:=N,bk:=D.nx} σ2 H2):=by
 refine⟨λi m σ H=>m=xs.length-i/\i<=xs.length/\Pv i σ H,⟨xs.length,by simp,Nat.zero_le _,h0⟩,?_⟩;rintro i m σ H ⟨rfl,hi,p⟩;have q:=hl i σ H hi p
 by_cases hlt:i<xs.length
 ·refine .inr ⟨⟨xs,xs[i],q,by simp[hlt]⟩,Pv (i+1),λσ' H' p'=>⟨xs.length-(i+1),by lia,rfl,hlt,p'⟩,λv H' y=>?_⟩;refine byG λGq hGq=>?_;obtain⟨p2,x,e1,e2,e3,y⟩:=y;refine hGq ?_;clear hGq Gq;subst e1 e3;exact hs i x p2 σ H (y xs q) p e2
 ·have e:i=xs.length:=by lia
  subst e;exact .inl ⟨⟨xs,q,bD _⟩,hd σ H p⟩
end
section
variable{a:Expr}{cs:List Expr}{ta:TE}{tc:TA}{p pos:Pos}{ctx}
noncomputable def RY(K:qT):List V->Hp->VK->Prop
 |[x,c],H,Q=>∃t tp vs us b,XN K H x t/\c=.ref tp/\H tp=some (.tup vs)/\vs.map RM=us.map some/\PySem.W.kitAny K t us=some b/\Q (.bl b) H
 |_,_,_=>False
theorem MX:∀{vs:List V} {its us:List qO},Av vs its->vs.map RM=us.map some->its=us
 |_,_,[],.nil,_=>rfl
 |_,_,_::_,.nil,e=>by simp at e
 |_,_,[],.cons _ _,e=>by simp at e
 |x::xs,_,u::us,.cons r rr,e=>by
  simp only[List.map_cons,List.cons.injEq]at e;obtain⟨e1,e2⟩:=e;rw[MX rr e2]
  congr 1
  cases x with
  |ty n=>cases e1;exact r
  |ref a=>cases e1;exact r
  |_=>cases e1
theorem Vi{x:V}{v t:qO}(I:Ab X ad σ H s)(rx:BN x v)(ty:XN X.K H x t):(∃φ,PySem.W.KitX X.K v t φ/\φ s.heap)/\v≠.builtin "__main__.__loader__#opaque":=by
 cases ty with
 |of ty =>
  cases ty with
  |non=>cases (show v=Value.none from rx);exact⟨⟨_,PySem.W.kitx_none,True.intro⟩,λz=>nomatch z⟩
  |bl y=>cases (show v=Value.bool y from rx);exact⟨⟨_,PySem.W.kitx_bool,True.intro⟩,λz=>nomatch z⟩
  |int i=>obtain⟨t,q⟩:=(show ∃t,v=Value.int i t from rx);cases q;exact⟨⟨_,PySem.W.kitx_int,True.intro⟩,λz=>nomatch z⟩
  |str y=>obtain⟨t,q⟩:=(show ∃t,v=Value.str y t from rx);cases q;exact⟨⟨_,PySem.W.kitx_str,True.intro⟩,λz=>nomatch z⟩
  |flt y=>obtain⟨t,q⟩:=(show ∃t,v=Value.float y t from rx);cases q;exact⟨⟨_,PySem.W.kitx_float,True.intro⟩,λz=>nomatch z⟩
  | @lst a xs ea =>
   cases (show v=Value.ref a from rx);obtain⟨_,_,n,_,h1⟩:=(show A5 X.prog X.w H s.heap a (.lst xs) from I.hok a _ ea);exact⟨⟨_,fQ,⟨_,h1,rfl⟩⟩,λz=>nomatch z⟩
  | @frz a ob xs ea =>
   cases (show v=Value.ref a from rx);obtain⟨_,_,_,n,_,h1⟩:=(show A5 X.prog X.w H s.heap a (.frz ob (.lst xs)) from I.hok a _ ea);exact⟨⟨_,fQ,⟨_,h1,rfl⟩⟩,λz=>nomatch z⟩
  | @tup a xs ea =>
   cases (show v=Value.ref a from rx);obtain⟨_,_,_,p⟩:=(show A5 X.prog X.w H s.heap a (.tup xs) from I.hok a _ ea);obtain⟨o,h1,h2,_⟩:=p;exact⟨⟨_,PySem.W.kitx_tuple,⟨o,h1,h2⟩⟩,λz=>nomatch z⟩
  | @dK a kvs ea =>
   cases (show v=Value.ref a from rx);obtain⟨_,_,vs,_,p⟩:=(show A5 X.prog X.w H s.heap a (.dK kvs) from I.hok a _ ea);obtain⟨o,es,ep,h1,h2,_⟩:=p;exact⟨⟨_,fR,⟨o,h1,h2.1⟩⟩,λz=>nomatch z⟩
  | @dT a kvs ea =>
   cases (show v=Value.ref a from rx);obtain⟨_,_,xs,_,o,es,ep,h1,h2,_⟩:=(show A5 X.prog X.w H s.heap a (.dT kvs) from I.hok a _ ea);exact⟨⟨_,fR,⟨o,h1,h2.1⟩⟩,λz=>nomatch z⟩
  | @ins a C dx fs ea cl ha hn htk hm =>
   cases (show v=Value.ref a from rx);obtain⟨mA,O,_⟩:=Ov I.hok ea;obtain⟨od,J,_⟩:=O.look;exact⟨⟨_,PySem.W.kitx_own (cl.get _) cl.hd ha hn htk hm,J⟩,λz=>nomatch z⟩
 | @exc a D dy n e ck =>
  cases (show v=Value.ref a from rx);obtain⟨x,_,_⟩:=(show A5 X.prog X.w H s.heap a (.ext (Eo a (.ref D) _ _)) from I.hok a _ e);exact⟨⟨_,MQ ck,x⟩,λz=>nomatch z⟩
theorem QG:CJ X (.builtin "isinstance") (RY X.K):=by
 intro ad s σ H xs us Q I rv h;rcases xs with _|⟨x,_|⟨c,_|⟨_,_⟩⟩⟩
 ·exact h.elim
 ·exact h.elim
 rotate_left
 ·exact h.elim
 refine byG λGq hGq=>?_;obtain⟨t,tp,vs,ucs,b,ty,rfl,ht,hcs,k,q⟩:=h;refine hGq ?_;clear hGq Gq;refine byG λGq hGq=>?_;obtain⟨v1,v2,rfl,r1,r2⟩:=Ou rv;refine hGq ?_;clear hGq Gq;cases (show v2=Value.ref tp from r2);refine byG λGq hGq=>?_;obtain⟨_,its,rits,o,ho,hcl,n,hd⟩:=(show A5 X.prog X.w H s.heap tp (.tup vs) from I.hok tp _ ht);refine hGq ?_;clear hGq Gq;refine byG λGq hGq=>?_;obtain⟨c1,c2,c3,c4⟩:=o;refine hGq ?_;clear hGq Gq;dsimp only at hcl hd;subst hcl hd;have e:=MX rits hcs;subst e;refine byG λGq hGq=>?_;obtain⟨⟨φ,Z,hφ⟩,hx⟩:=Vi I r1 ty;refine hGq ?_;clear hGq Gq;exact PySem.W.kia_tup Z I.kIn hφ ho k hx λtk=>⟨.bl b,H,I.tok tk,rfl,q⟩
theorem Tj(hg:Gl X "isinstance")(hm:X.mg "isinstance"=none)(ha:PE X a ta)(hc:PA X cs tc)(h1:starEach [a,.Tuple cs ctx tpos] X.env=(false,eval a X.env)::starEach [.Tuple cs ctx tpos] X.env:=by rfl)
  (h2:starEach [.Tuple cs ctx tpos] X.env=(false,eval (.Tuple cs ctx tpos) X.env)::starEach [] X.env:=by rfl)
  (h3:(backTo pos (starEach [.Tuple cs ctx tpos] X.env)).any (·.1)=false:=by rfl):PE X (.Call (.Name "isinstance" p) [a,.Tuple cs ctx tpos] [] pos) (Xe (RY X.K) (Hk ta (Hk (VY tc) IE))):=
 Ag QG hg hm PyProof.Rows.boot_isinstance (AA ha (AA (DQ hc) AB h2) h1) (by decide) (by decide) h1 h3
end
section
variable{K:qT}
theorem Xr:PySem.W.kitOne K (.type "int") (.type "int")=some true:=by kernel_rfl
theorem Xs:PySem.W.kitOne K (.type "int") (.type "bool")=some false:=by kernel_rfl
theorem Xt:PySem.W.kitOne K (.type "bool") (.type "int")=some true:=by kernel_rfl
theorem Xu:PySem.W.kitOne K (.type "bool") (.type "bool")=some true:=by kernel_rfl
theorem Xv:PySem.W.kitOne K (.type "NoneType") (.type "int")=some false:=by kernel_rfl
theorem Xw:PySem.W.kitOne K (.type "str") (.type "int")=some false:=by kernel_rfl
theorem Xx:PySem.W.kitOne K (.type "list") (.type "int")=some false:=by kernel_rfl
theorem Uo:PySem.W.kitOne K (.type "list") (.type "list")=some true:=by kernel_rfl
theorem Xy:PySem.W.kitOne K (.type "tuple") (.type "tuple")=some true:=by kernel_rfl
theorem Up:PySem.W.kitOne K (.type "tuple") (.type "list")=some false:=by kernel_rfl
theorem Xz:PySem.W.kitOne K (.type "tuple") (.type "int")=some false:=by kernel_rfl
end
structure Aj(P:qR)(w:qS)(K:qT)(mg:Str->Option qO)(base:Heap)(k:Nat)(f:qP)(ps:List Str)(sp:Sp):Prop where
 ex:∃fd,Fp P w K mg base (KJ P w) k f fd ps sp/\Em K fd ps []
 kp:PySem.W.keepIn K (.ref f)=true
section
variable{P:qR}{w:qS}{K:qT}{mg:Str->Option qO}{base:Heap}{f:qP}{N ps:List Str}{sp:Sp}
theorem BX.ok0(F:BX K x qual st f fd)(S:AI N ps (AG st))(len:∀vs H Q E,sp vs H Q E->vs.length=ps.length)
  (hbody:∀(gh:qO) (A:Around) (outer:List Env) (s:qQ) (H:Hp) (vs:List V) (Q:VK) (E:XK),B7 k (A.deeper (envOfC qual (AG st) s.heap.objs.size f gh))->sp vs H Q E ->
   ∃t,Hj (Dj (KJ P w) P w K mg base N qual (AG st) f gh A outer s H E).nox (BW st) t/\t {nx:=λ_ H'=>Q .non H',rt:=Q} (Ct N vs) H):Fp P w K mg base (KJ P w) (k+1) f fd ps sp:=
 F.okX S len λgh A outer s H vs Q E hr hsp=>by obtain⟨t,h,q⟩:=hbody gh A outer s H vs Q E hr hsp;exact⟨t,h.nox,q⟩
abbrev Er(x qual:Str)(st:Stmt)(ps:List Str):Prop:=∀(kV doc pm:qO) (an:Option qP) (gh ct:qO) (us:List qO),us.length=ps.length->bindArgs (PySem.W.fnOf x qual (DJ st) (BW st) (AG st) .none kV doc pm an gh ct) ⟨us,[]⟩=pure (ps.zip us)
theorem Tk(D:∃fd,BX K x qual st f fd)(S:AI N ps (AG st))(bd:Er x qual st ps)(len:∀vs H Q E,sp vs H Q E->vs.length=ps.length)
  (hbody:∀(gh:qO) (A:Around) (outer:List Env) (s:qQ) (H:Hp) (vs:List V) (Q:VK) (E:XK),B7 k (A.deeper (envOfC qual (AG st) s.heap.objs.size f gh))->sp vs H Q E ->
   ∃t,Hj (Dj (KJ P w) P w K mg base N qual (AG st) f gh A outer s H E).nox (BW st) t/\t {nx:=λ_ H'=>Q .non H',rt:=Q} (Ct N vs) H):Aj P w K mg base (k+1) f ps sp:=by
 obtain⟨fd,F⟩:=D;exact⟨⟨fd,F.ok0 S len hbody,F.binds bd⟩,F.kp⟩
theorem Tl(D:∃fd,BX K x qual st f fd)(S:AI N ps (AG st))(bd:Er x qual st ps)(len:∀vs H Q E,sp vs H Q E->vs.length=ps.length)
  (hbody:∀(gh:qO) (A:Around) (outer:List Env) (s:qQ) (H:Hp) (vs:List V) (Q:VK) (E:XK),B7 k (A.deeper (envOfC qual (AG st) s.heap.objs.size f gh))->sp vs H Q E ->
   ∃t,Hj (Dj (KJ P w) P w K mg base N qual (AG st) f gh A outer s H E) (BW st) t/\t {nx:=λ_ H'=>Q .non H',rt:=Q} (Ct N vs) H):Aj P w K mg base (k+1) f ps sp:=by
 obtain⟨fd,F⟩:=D;exact⟨⟨fd,F.okX S len hbody,F.binds bd⟩,F.kp⟩
end
section
variable{f:qP}{ps:List Str}{sp:Sp}{E:St->XK}{EX:XK}{np p pos cpos:Pos}{e:Expr}{t:TA}
theorem An(G:Aj X.prog X.w X.K X.mg X.base k f ps sp)(hr:B7 k X.A)(hg:Gl X x)(hm:X.mg x=some (.ref f))(hx:De (KJ X.prog X.w) X E)
  (ha:PA X (e::es) t) (hdb:(x==("__debug__":Str))=false:=by decide) (he:starEach (e::es) X.env=(false,eval e X.env)::starEach es X.env:=by rfl) (hpl:(backTo pos (starEach es X.env)).any (·.1)=false:=by rfl):
  PE X (.Call (.Name x p) (e::es) [] pos) (G6 sp [] E t):=by
 refine byG λGq hGq=>?_;obtain⟨⟨fd,F,b⟩,kp⟩:=G;refine hGq ?_;clear hGq Gq;exact Iy F hr hg hm kp b .nil hx ha hdb he hpl
theorem G7(hc:X.calm=true)(M:Zs X.K C f)(G:Aj X.prog X.w X.K X.mg X.base k f ps sp)(hr:B7 (k+1) X.A)(hg:Gl X x)(hm:X.mg x=some (.ref C))(hx:Lc X (.ref C) EX)(ha:PA X (e::es) t)(hex:X.ex=[]:=by rfl)
  (hdb:(x==("__debug__":Str))=false:=by decide) (he:starEach (e::es) X.env=(false,eval e X.env)::starEach es X.env:=by rfl) (hpl:(backTo cpos (starEach es X.env)).any (·.1)=false:=by rfl):
  PS X (.Raise (some (.Call (.Name x np) (e::es) [] cpos)) none pos) (Lb C sp EX t):=by
 refine byG λGq hGq=>?_;obtain⟨⟨fd,F,b⟩,kp⟩:=G;refine hGq ?_;clear hGq Gq;exact QE hc M F hr b hg hm hx ha hex hdb he hpl
theorem Cy{i:Int}(hg:Gl X x)(hm:∃t,X.mg x=some (.int i t))(hd:(x==("__debug__":Str))=false:=by decide):PE X (.Name x pos) (tC (.int i)):=by obtain⟨t,hm⟩:=hm;exact RT hg hm hd
end
inductive MY(K:qT)(vs:List V)(H:Hp)(Q:VK)(z3_:XK):Prop
 |m (a:qP) (ns:qU):vs=[.ref a]->Ai K H a (ns.map V.int)->ns.length<=63->(∀H',Q (.bl true) H')->MY K vs H Q z3_
inductive Nv(K:qT)(vs:List V)(H:Hp)(Q:VK)(z3_:XK):Prop
 |m (a:qP) (ns:qU) (k:Nat):vs=[.ref a,.int k]->Ai K H a (ns.map V.int)->ns.length<=63->Q (.int (ns.getD k 0)) H->Nv K vs H Q z3_
noncomputable def Kd(H:Hp):V->Prop
 |.int _=>True
 |.bl _=>True
 |.non=>True
 |.str _=>True
 |.ref a=>∃xs,H a=some (.lst xs)\/H a=some (.tup xs)
 |_=>False
theorem Kd.same(e:AH H H'):∀{x:V},Kd H x->Kd H' x
 |.int _,_=>True.intro
 |.bl _,_=>True.intro
 |.non,_=>True.intro
 |.str _,_=>True.intro
 |.ref a,h=>by obtain⟨xs,h⟩:=h;exact⟨xs,h.elim (λq=>.inl (e _ _ q)) λq=>.inr (e _ _ q)⟩
noncomputable def ME:V->Bool
 |.int _=>true
 |_=>false
inductive GK(vs:List V)(H:Hp)(Q:VK)(z3_:XK):Prop
 |m (x:V):vs=[x]->Kd H x->Q (.bl (ME x)) H->GK vs H Q z3_
noncomputable def RZ(g:Int):V->Bool
 |.int i=>decide (0<=i)&&decide (i<g)
 |_=>false
inductive Ld(vs:List V)(H:Hp)(Q:VK)(z3_:XK):Prop
 |m (x:V) (g:Int):vs=[x,.int g]->Kd H x->Q (.bl (RZ g x)) H->Ld vs H Q z3_
inductive JA(K:qT)(C R:qP)(vs:List V)(H:Hp)(Q:VK)(z3_:XK):Prop
 |m (a:qP) (n:Bool) (y:V):vs=[.ref a,y]->H a=some (O3 a (.ref C) none n)->(∀dx,H dx=none->Q .non (Ak (Ak H a (O3 a (.ref C) (some dx) n)) dx (.xd [("at",y)])))->JA K C R vs H Q z3_
def QH(C:qP)(i:Nat)(H:Hp)(E:XK):Prop:=∀H' dx,AH H H'->H' dx=some (.xd [("at",.int ((i:Nat):Int))])->E (.ref C) (some dx) H'
noncomputable def BY(g:Int)(xs:List V):Option Nat:=xs.findIdx? λx=>!RZ g x
inductive EE(K:qT)(C:qP)(vs:List V)(H:Hp)(Q:VK)(E:XK):Prop
 |m (a:qP) (xs:List V) (g:Int):vs=[.ref a,.int g]->Ai K H a xs->(∀x∈xs,Kd H x)->(match BY g xs with|none=>∀H',AH H H'->Q .non H'|some i=>QH C i H E)->EE K C vs H Q E
noncomputable def Nw(g n:Int)(ns:qU):Int:=ns.foldl (λm x=>m*g+x) n
noncomputable def Ao(g:Int)(ns:qU):Int:=Nw g 0 ns
inductive GL(K:qT)(C:qP)(vs:List V)(H:Hp)(Q:VK)(E:XK):Prop
 |m (a:qP) (xs:List V) (g:Int):vs=[.ref a,.int g]->2<=g->g<=9->Ai K H a xs->(∀x∈xs,Kd H x)->(match BY g xs with|none=>∀ns:qU,xs=ns.map V.int->∀H',AH H H'->Q (.int (Ao g ns)) H'|some i=>QH C i H E)->GL K C vs H Q E
variable{g:Int}
theorem Cz(h:BY g xs=none):∃ns:qU,xs=ns.map V.int/\∀n∈ns,0<=n/\n<g:=by
 unfold BY at h;rw[fA]at h
 induction xs with
 |nil=>exact⟨[],rfl,λn z=>qE z (by simp)⟩
 |cons x xs ih =>
  obtain⟨ns,e,b⟩:=ih λy hy=>h y (be _ hy)
  have hx:=h x bf;cases x with
  |int i =>
   simp only[RZ,Bool.not_eq_false',Bool.and_eq_true,decide_eq_true_eq]at hx;exact⟨i::ns,by rw[e];rfl,λn z=>(bi.mp z).elim (λq=>q▸hx) (b n)⟩
  |_=>simp[RZ]at hx
theorem C0{ns:qU}(h:∀n∈ns,0<=n/\n<g):BY g (ns.map V.int)=none:=by unfold BY;rw[fA];intro x hx;obtain⟨n,hn,e⟩:=bR.mp hx;subst e;have q:=h n hn;simp[RZ,q.1,q.2]
theorem Co{ns:qU}:∀x∈ns.map V.int,Kd H x:=λx hx=>by obtain⟨n,_,e⟩:=bR.mp hx;subst e;exact True.intro
end L2
namespace L2
open PySem
variable{D:Gw}{H H' H1:Hp}{dx:qP}{g:Int}{i:Nat}{o:HO}{t:TS}{xs:List V}{σ:St}
theorem Es(Z:Hp->Prop)(hz:Z H')(h:∀H2,Z H2->t D σ H2):t D σ H':=h H' hz
theorem CV{ns ms:qU}(h:ns.map V.int=ms.map V.int):ns=ms:=(List.map_inj_right (f:=V.int) λ_ _ e=>V.int.inj e).mp h
theorem Tn(ns:qU)(lo hi:Option Int):(MT ns lo hi).length<=ns.length:=by unfold MT;rw[b9,cA];lia
theorem O5(h:2<=g)(l:qU):∀n∈l.map (·%g),0<=n/\n<g:=λn hn=>by obtain⟨m,_,e⟩:=bR.mp hn;subst e;exact⟨dm _ (by lia),dD _ (by lia)⟩
theorem Fs{ea:qP}{o2 o3:HO}(e:AH H H1)(hea:H1 ea=none)(hdx:Ak H1 ea o dx=none):AH H (GH (Ak (Ak (Ak H1 ea o) ea o2) dx o3) ea):=λb u q=>by have q1:=e b u q;have n1:=As q1 hea;have n2:=As q1 (C7 hdx).2;rw[Cn n1,AJ n2,AJ n1,AJ n1];exact q1
theorem Ft{x:V}(hb:BY g (xs.take i)=none)(hx:xs[i]?=some x)(hs:RZ g x=true):BY g (xs.take (i+1))=none:=by
 unfold BY at *;rw[fA]at hb⊢;intro y hy;rw[cf,hx]at hy;rcases bJ.mp hy with z|z
 ·exact hb y z
 ·have e:y=x:=by simpa using z
  rw[e,hs];rfl
theorem Fu{x:V}(hb:BY g (xs.take i)=none)(hx:xs[i]?=some x)(hs:RZ g x=false):BY g xs=some i:=by
 obtain⟨hi,ex⟩:=bB.mp hx
 have e:xs=xs.take i++x::xs.drop (i+1):=by rw[<-ex,<-c7 hi,dQ]
 unfold BY at *;rw[e,List.findIdx?_append,hb];simp[List.findIdx?_cons,hs,List.length_take];lia
theorem B8{ns:qU}{x:V}(h:(ns.map V.int)[i]?=some x):∃n,ns[i]?=some n/\x=.int n:=by rw[bF]at h;obtain⟨n,e1,e2⟩:=cR.mp h;exact⟨n,e1,e2.symm⟩
theorem MZ{n:Int}{ns:qU}(h:ns[i]?=some n):Ao g (ns.take (i+1))=Ao g (ns.take i)*g+n:=by unfold Ao Nw;rw[cf,h,fT];rfl
noncomputable def low(g:Int):qU->Int
 |[]=>0
 |x::r=>x+g*low g r
theorem Ma(g x:Int):∀l:qU,low g (l++[x])=low g l+x*g^l.length
 |[]=>by simp[low]
 |y::l=>by
  rw[List.cons_append,low,low,Ma g x l,cK,bq,Int.mul_add,Int.add_assoc]
  congr 2
  rw[cH g,cQ]
theorem Et(g x:Int)(l:qU):Ao g (l++[x])=Ao g l*g+x:=by unfold Ao Nw;rw[fT];rfl
theorem Le(g:Int):∀l:qU,Ao g l.reverse=low g l
 |[]=>rfl
 |x::l=>by rw[List.reverse_cons,Et,Le g l,low,cH,dR]
theorem O6(g:Int)(ns:qU):Ao g ns=low g ns.reverse:=by rw[<-Le,eW]
end L2
namespace L2
open PySem PySem.Spec PyProof.Rows
variable{C a it:qP}{D:Gw}{E Q:qO->qQ->Prop}{H H':Hp}{T:String}{X:Cx}{an od:Option qP}{gh doc oc pm u:qO}{elts es:List Expr}{fd:FuncData}{fp:List qP}{h1:Heap}{i k:Nat}{items:Array qO}{its:List qO}{lo:Int}{osl:Array (Option qO)}{ad:List (qP×Obj)}{qual x:Str}{s s':qQ}{scope:Scope}{st:Stmt}{ta:TA}{te:TE}{tg:Expr}{tpos:Pos}{xs:List V}{α:Type}{σ:St}
mutual
inductive Eu(K:qT)(H:Hp):V->PyData->Prop
 |non:Eu K H .non .none
 |bl (b:Bool):Eu K H (.bl b) (.bool b)
 |int (i:Int):Eu K H (.int i) (.int i)
 |str (x:Str):Eu K H (.str x) (.str x)
 |lst {a:qP} {xs:List V} {ds:List PyData}:Ai K H a xs->Ev K H xs ds->Eu K H (.ref a) (.list ds)
 |tup {a:qP} {xs:List V} {ds:List PyData}:Am K H a xs->Ev K H xs ds->Eu K H (.ref a) (.tuple ds)
inductive Ev(K:qT)(H:Hp):List V->List PyData->Prop
 |nil:Ev K H [] []
 |cons {x:V} {xs:List V} {d:PyData} {ds:List PyData}:Eu K H x d->Ev K H xs ds->Ev K H (x::xs) (d::ds)
end
theorem Eu.reads(I:Ab X ad σ H s){x:V}{d:PyData}(h:Eu X.K H x d)(r:BN x u):∃as,Reads s.heap u d as:=by
 revert u
 refine Eu.rec (motive_1:=λx d _=>∀{u:qO},BN x u->∃as,Reads s.heap u d as) (motive_2:=λxs ds _=>∀{us:List qO},Av xs us->∃as,ReadsAll s.heap us ds as) ?_ ?_ ?_ ?_ ?_ ?_ ?_ ?_ h
 ·intro _ r;cases r;exact⟨_,.none⟩
 ·intro b _ r;cases r;exact⟨_,.bool b⟩
 ·intro i _ r;obtain⟨t,e⟩:=r;subst e;exact⟨_,.int i t⟩
 ·intro x _ r;obtain⟨t,e⟩:=r;subst e;exact⟨_,.str x t⟩
 ·intro _ _ _ hq _ ih _ r;cases r;obtain⟨its,rv,⟨o,n,e,c,_,d⟩,_⟩:=I.list hq;obtain⟨as,q⟩:=ih rv;exact⟨_,.list e c d (by simpa using q)⟩
 ·intro _ _ _ hq _ ih _ r;cases r;obtain⟨its,rv,⟨o,e,c,n,d⟩,_⟩:=I.tuple hq;obtain⟨as,q⟩:=ih rv;exact⟨_,.tuple e c d (by simpa using q)⟩
 ·intro _ r;cases r;exact⟨_,.nil⟩
 ·intro _ _ _ _ _ _ ih1 ih2 _ r;cases r with
  |cons r rr =>
   obtain⟨as,q⟩:=ih1 r;obtain⟨bs,q2⟩:=ih2 rr;exact⟨_,.cons q q2⟩
def Z6(K:qT):R2:=λx y H Q=>∃d e,Eu K H x d/\Eu K H y e/\d.canLay0=true/\e.canLay0=true/\d.depth<=60/\Q (.bl (PyData.eqv d e)) H
theorem Ra(hu:X.A.units+64<cLine):FM X (compareOp .Eq) (Z6 X.K):=by intro ad s σ H x y v u Q I rx ry h;obtain⟨d,e,hd,he,c1,c2,dd,q⟩:=h;obtain⟨as,r1⟩:=hd.reads I rx;obtain⟨bs,r2⟩:=he.reads I ry;have z:=SeqAt.rcAt_reads (A:=X.A) r1 r2 c1 c2 (by have:=Nat.min_le_left d.depth e.depth;lia);exact z X.prog X.w X.xe _ ⟨.bl _,H,I,rfl,q⟩
theorem JB{K:qT}:∀ns:qU,Ev K H (ns.map V.int) (ns.map PyData.int)
 |[]=>.nil
 |n::ns=>.cons (.int n) (JB ns)
theorem JC:∀ns:qU,PyData.canLayAll0 (ns.map PyData.int)=true
 |[]=>by simp only[List.map_nil,PyData.canLayAll0]
 |n::ns=>by simp only[List.map_cons,PyData.canLayAll0,PyData.canLay0,JC ns,Bool.and_self]
theorem X0{it:Expr}{w1 w2:TI}(h1:PI X tg it w1)(h2:PI X tg it w2):PI X tg it (λσ H R=>w1 σ H R\/w2 σ H R):=λad s σ H R I h=>h.elim (λq=>h1 ad s σ H R I q) λq=>h2 ad s σ H R I q
theorem az{K:qT}{t:qO}(h:PySem.W.kitOne K t (.type T)=some true)(r:List qO):PySem.W.kitAny K t (.type T::r)=some true:=by unfold PySem.W.kitAny;rw[h]
theorem To{K:qT}{t:qO}{r:List qO}{b:Bool}(h:PySem.W.kitOne K t (.type T)=some false)(h2:PySem.W.kitAny K t r=some b):PySem.W.kitAny K t (.type T::r)=some b:=by unfold PySem.W.kitAny;rw[h];exact h2
section
variable{K:qT}
theorem Uq:PySem.W.kitOne K (.type "NoneType") (.type "list")=some false:=by kernel_rfl
theorem X1:PySem.W.kitOne K (.type "NoneType") (.type "tuple")=some false:=by kernel_rfl
theorem Ur:PySem.W.kitOne K (.type "str") (.type "list")=some false:=by kernel_rfl
theorem X2:PySem.W.kitOne K (.type "str") (.type "tuple")=some false:=by kernel_rfl
theorem Us:PySem.W.kitOne K (.type "int") (.type "list")=some false:=by kernel_rfl
theorem X3:PySem.W.kitOne K (.type "int") (.type "tuple")=some false:=by kernel_rfl
theorem Ut:PySem.W.kitOne K (.type "bool") (.type "list")=some false:=by kernel_rfl
theorem X4:PySem.W.kitOne K (.type "bool") (.type "tuple")=some false:=by kernel_rfl
end
theorem Du{K:qT}(h:X.K=K):Uh X (TQ K):=h▸O1
theorem GM{K:qT}(h:X.K=K):Uh X (TR K):=h▸RC
structure KP(P:qR)(w:qS)(K:qT)(mg:Str->Option qO)(base:Heap)(k:Nat)(f:qP)(ps:List Str)(sp:Sp):Prop where
 ex:∃fd,Fp P w K mg base (Kn true P w) k f fd ps sp/\Em K fd ps []
 kp:PySem.W.keepIn K (.ref f)=true
section
variable{P:qR}{w:qS}{K:qT}{mg:Str->Option qO}{base:Heap}{f:qP}{N ps:List Str}{sp:Sp}
theorem Tp(D:∃fd,BX K x qual st f fd)(S:AI N ps (AG st))(bd:Er x qual st ps)(len:∀vs H Q E,sp vs H Q E->vs.length=ps.length)
  (hbody:∀(gh:qO) (A:Around) (outer:List Env) (s:qQ) (H:Hp) (vs:List V) (Q:VK) (E:XK),B7 k (A.deeper (envOfC qual (AG st) s.heap.objs.size f gh))->sp vs H Q E ->
   ∃t,Hj (Dj (Kn true P w) P w K mg base N qual (AG st) f gh A outer s H E) (BW st) t/\t {nx:=λ_ H'=>Q .non H',rt:=Q} (Ct N vs) H):KP P w K mg base (k+1) f ps sp:=by
 obtain⟨fd,F⟩:=D;exact⟨⟨fd,F.okX S len hbody,F.binds bd⟩,F.kp⟩
end
section
variable{f:qP}{ps:List Str}{sp:Sp}{E:St->XK}{p pos:Pos}{e:Expr}{t:TA}
theorem C8(G:KP X.prog X.w X.K X.mg X.base k f ps sp)(hr:B7 k X.A)(hg:Gl X x)(hm:X.mg x=some (.ref f))(hx:De (Kn true X.prog X.w) X E)
  (ha:PA X (e::es) t) (hdb:(x==("__debug__":Str))=false:=by decide) (he:starEach (e::es) X.env=(false,eval e X.env)::starEach es X.env:=by rfl) (hpl:(backTo pos (starEach es X.env)).any (·.1)=false:=by rfl):
  PE X (.Call (.Name x p) (e::es) [] pos) (G6 sp [] E t):=by
 refine byG λGq hGq=>?_;obtain⟨⟨fd,F,b⟩,kp⟩:=G;refine hGq ?_;clear hGq Gq;exact Iy F hr hg hm kp b .nil hx ha hdb he hpl
end
noncomputable def Eg(X:Cx)(s2:qQ)(H2:Hp)(env:Env)(fp:List qP)(N:List Str):Cx:={X with N:=N,s₀:=s2,H₀:=H2,env:=env,outer:=X.stack,ex:=fp,fn:=λ_=>false,pn:=[],xe:=λ_ _=>False}
theorem Uu{s2:qQ}{H2:Hp}{env:Env}{N:List Str}:(Eg X s2 H2 env fp N).K=X.K:=rfl
noncomputable def IG(env:Env):List (Str×qP)->Prop
 |[]=>True
 | (y,c)::r=>env.cells.lookup y=some c/\IG env r
theorem IG.at'{env:Env}:∀{cl:List (Str×qP)},IG env cl->∀{y:Str} {c:qP},cl.lookup y=some c->env.cells.lookup y=some c
 |[],_,_,_,h=>by cases h
 | (z,d)::r,⟨h1,h2⟩,y,c,h=>by
  rw[List.lookup_cons]at h;cases e:y==z with
  |true =>
   rw[e]at h;cases h;rw[eq_of_beq e];exact h1
  |false =>
   rw[e]at h;exact h2.at' h
noncomputable def Zt:Option NameKind->Bool
 |some .cell=>true
 |some .free=>true
 |_=>false
theorem Rb{k:Option NameKind}(h:Zt k=true):k=some .cell\/k=some .free:=by
 unfold Zt at h
 split at h
 ·exact .inl rfl
 ·exact .inr rfl
 ·cases h
noncomputable def JD(X:Cx)(scope:Scope)(cl:List (Str×qP)):List (Nat×Str)->Prop
 |[]=>True
 | (j,y)::r=>(X.N[j]?=some y/\Zt (X.env.scope.names.lookup y)=true/\(relabel scope X.env).names.lookup y=X.env.scope.names.lookup y/\(cl.lookup y).isSome=true)/\JD X scope cl r
theorem JD.at'{cl:List (Str×qP)}:∀{fv:List (Nat×Str)},JD X scope cl fv->∀q∈fv,X.N[q.1]?=some q.2/\Zt (X.env.scope.names.lookup q.2)=true/\(relabel scope X.env).names.lookup q.2=X.env.scope.names.lookup q.2/\(cl.lookup q.2).isSome=true
 |[],_,q,h=>by cases h
 | (j,y)::r,⟨h1,h2⟩,q,h=>(bi.mp h).elim (λe=>by rw[e];exact h1) λz=>h2.at' q z
noncomputable def KL(σ:St)(fv:List (Nat×Str)):List (Option V):=fv.map λq=>(σ[q.1]?).join
def PF(X:Cx)(ifs:List Expr)(t:TT):Prop:=∀(ad:List (qP×Obj)) (s:qQ) (σ:St) (H:Hp) (Q:Bool->Hp->Prop),Ab X ad σ H s->t σ H Q ->
 wpAny (model X.prog X.w) X.A (forIn ifs true λc r=>if r=true then do let ok <-isTrue c X.env (eval c X.env);pure (ForInStep.yield ok) else pure (ForInStep.yield r)) (TP X ad σ Q) X.xe s
def Vj:TT:=λ_ H Q=>Q true H
theorem CO:PF X [] Vj:=λad s σ H Q I h=>qB ⟨H,I,h⟩
theorem Ew{c:Expr}{t:TT}(h:PT X c t):PF X [c] t:=λad s σ H Q I q=>by simp only[List.forIn_cons,List.forIn_nil,if_true];exact qA (qA (BU (h ad s σ H Q I q) λb s1 z=>qB (qB z)))
def Ex(J:It)(tt:TT)(te:TE)(σf:List (Option V))(D:qP)(Q:VK)(H:Hp):Prop:=∃W:Nat->Nat->List V->Hp->Prop,(∃n,W n 0 [] (Ak H D (.lst [])))/\∀n i ge H2,W n i ge H2 ->
 (J.stop i H2/\Q (.ref D) H2)\/(J.go i H2/\∃N:List V->Hp->Prop,(∀l H',N l H'->∃n',n'<n/\W n' (i+1) l H')/\∀v H3,J.yld i H2 v H3->tt (some v::σf) H3 λb H4 =>
  if b=true then te (some v::σf) H4 λy H5=>H5 D=some (.lst ge)/\ge.length<sizeLine/\N (ge++[y]) (Ak H5 D (.lst (ge++[y]))) else N ge H4)
def Rc(wi:TI)(fv:List (Nat×Str))(tt:TT)(te:TE):TE:=λσ H Q=>wi σ H λJ H1=>∀D,H1 D=none->Ex J tt te (KL σ fv) D Q H1
section
variable{X:Cx}{x:Str}{px pos:Pos}{elt iter:Expr}{ifs:List Expr}{scope:Scope}{cl:List (Str×qP)}{fv:List (Nat×Str)}{wi:TI}{tt:TT}{te:TE}
 {ad:List (qP×Obj)} {σ:St} {H2:Hp} {s2:qQ} {fp:List qP} {it:qP} {tn:Nat->Heap->Prop} {J:It}
theorem Re{N:List Str}(I2:Ab X ad σ H2 s2)(f2:∀b∈fp,Ek X ad H2 b)(o2:∀b∈fp,∃o,s2.heap.get? b=some o/\∀v,o.data≠.cell v)(hC:s2.heap.objs.size<=C)(hk:scope.kind=.function)(hcl:IG X.env cl)
  (hhas:((relabel scope X.env).names.all λz=>!(z.2==.cell||z.2==.free)||(cl.lookup z.1).isSome)=true):(Eg X s2 H2 (compEnvC scope cl C X.env) fp N).Ok where
 mod:=I2.ok.mod
 kind:=hk
 glob:=I2.ok.glob
 blt:=I2.ok.blt
 above:=hC
 inj:=λx y c h1 h2=>I2.ok.inj x y c (hcl.at' h1) (hcl.at' h2)
 has:=λy h=>by
  have key:∀k:NameKind,(relabel scope X.env).names.lookup y=some k->(k==.cell||k==.free)=true->∃c,cl.lookup y=some c:=λk hl hk=>by
   have mem:(y,k)∈(relabel scope X.env).names:=by
    generalize (relabel scope X.env).names=l at hl
    induction l with
    |nil=>cases hl
    |cons q r ih =>
     rw[List.lookup_cons]at hl;cases e:y==q.1 with
     |true =>
      rw[e]at hl;cases hl;rw[eq_of_beq e];exact bf
     |false =>
      rw[e]at hl;exact be _ (ih hl)
   have z:=fZ.mp hhas _ mem;simp only[hk,Bool.not_true,Bool.false_or]at z;exact dh.mp z
  rcases h with h|h
  ·exact key _ h rfl
  ·exact key _ h rfl
 cab:=λ_ _ h=>nomatch h
 hd:=I2.ok.hd
 frames:=I2.ok.frames
 stk:=.inl rfl
 exf:=λb hb=>by obtain⟨o,e,_⟩:=o2 b hb;exact⟨bp (bQ (bM e) hC),λy c h=>(f2 b hb).2.2.2.2.1 y c (hcl.at' h)⟩
 bs:=λb o e=>I2.bs b o e
 bsz:=cF I2.ok.bsz I2.sz
 noex:=λb o e hb=>by
  obtain⟨_,_,_,h,_⟩:=f2 b hb;rcases h with h|h
  ·exact I2.ok.noex b o e h
  ·exact qE (bQ (bM e) (cF I2.ok.bsz h)) (bx _)
 exfs:=λb hb z=>(bi.mp (I2.stkSub b z)).elim (f2 b hb).2.1 (f2 b hb).2.2.1
 funs:=I2.stack
 frf:=I2.stkFree
theorem JE{env:Env}{N:List Str}{σ':St}{pl:List (qP×Obj)}(I2:Ab X ad σ H2 s2)(f2:∀b∈fp,Ek X ad H2 b)(Ib:Ab (Eg X s2 H2 env fp N) pl σ' H' s'):Ab X ad σ H' s':=
 I2.call' (ch:=fp) Ib.os Ib.base Ib.hok Ib.bare λb hb=>⟨(f2 b hb).2.2.2.1,(f2 b hb).2.1,(f2 b hb).2.2.2.2.1,(f2 b hb).2.2.2.2.2⟩
theorem Vk{D:qP}{t1:Nat}(I2:Ab X ad σ H2 s2)(f2:∀b∈fp,Ek X ad H2 b)(o2:∀b∈fp,∃o,s2.heap.get? b=some o/\∀v,o.data≠.cell v)(hD:s2.heap.objs.size<=D)(hC:s2.heap.objs.size<=C)(hDC:D≠C)
  (old:∀b o,s2.heap.get? b=some o->h1.get? b=some o) (hl:h1.PlainList D #[]) (hn:h1.Ns C (λ_=>none)) (hk:scope.kind=.function) (hcl:IG X.env cl)
  (hhas:((relabel scope X.env).names.all λz=>!(z.2==.cell||z.2==.free)||(cl.lookup z.1).isSome)=true) (hfv:JD X scope cl fv):
  Ab (Eg X s2 H2 (compEnvC scope cl C X.env) fp (x::fv.map (·.2))) [] (none::KL σ fv) (Ak H2 D (.lst [])) {s2 with heap:=h1,toks:=t1} where
 ok:=Re I2 f2 o2 hC hk hcl hhas
 os:=rfl
 bare:=I2.bare
 base:=Un.laid old hD (I2.hok.fresh hD)
 loc:=by
  refine⟨_,hn,λi y v h1' h2' _=>?_⟩;cases i with
  |zero=>cases h2'
  |succ i =>
   have h1':(fv.map (·.2))[i]?=some y:=h1';have h2':(KL σ fv)[i]?=some (some v):=h2'
   obtain⟨q,hq,e1⟩:∃q,fv[i]?=some q/\q.2=y:=by rw[bF]at h1';exact cR.mp h1'
   subst e1;refine byG λGq hGq=>?_;obtain⟨g1,g2,g3,g4⟩:=hfv.at' q (bE hq);refine hGq ?_;clear hGq Gq;unfold KL at h2';rw[bF,hq]at h2';have e2:(σ[q.1]?).join=some v:=Option.some.inj h2'
   have e3:σ[q.1]?=some (some v):=by
    cases z:σ[q.1]? with
    |none=>rw[z]at e2;cases e2
    |some w=>rw[z]at e2;exact qN some e2
   obtain⟨m,_,lk⟩:=I2.loc;have g2:=Rb g2;obtain⟨u,ru,lu⟩:=lk q.1 q.2 v g1 e3 (.inr g2);refine⟨u,ru,.inr ⟨g2.imp (λz=>g3.trans z) (λz=>g3.trans z),?_⟩⟩;obtain⟨c,hc⟩:=dh.mp g4;refine⟨c,hc,?_⟩;rcases lu with⟨kk,_⟩|⟨_,c',e',⟨o,eo,d⟩⟩
   ·rcases g2 with z|z<;>(rw[show X.env.kindOf q.2=_ from z]at kk;cases kk)
   ·have e4:=hcl.at' hc;rw[e']at e4;cases e4;exact⟨o,old c o eo,d⟩
 cell:=λy c h=>by refine byG λGq hGq=>?_;obtain⟨v,o,eo,d⟩:=I2.cell y c (hcl.at' h);refine hGq ?_;clear hGq Gq;exact⟨v,o,old c o eo,d⟩
 free:=by show Ak H2 D _ C=none;rw[AJ (Ne.symm hDC)];exact I2.hok.fresh hC
 freeC:=λy c h=>by refine byG λGq hGq=>?_;obtain⟨v,o,eo,d⟩:=I2.cell y c (hcl.at' h);refine hGq ?_;clear hGq Gq;rw[AJ (bp (bQ (bM eo) hD))];exact I2.freeC y c (hcl.at' h)
 pin:=λp hp=>nomatch hp
 hok:=I2.hok.laid old hD (by obtain⟨n,e⟩:=hl;exact⟨Nat.zero_le _,[],n,.nil,by simpa using e⟩)
 len:=by simp[KL,Eg]
theorem O7{RR:qO->qP->Result->qQ->Prop}{Q:VK}(hc:X.calm=true)(I2:Ab X ad σ H2 s2)(T:Im X.prog X.w X.K (.Name x px) J fp it tn)(st2:tn 0 s2.heap)(f2:∀b∈fp,Ek X ad H2 b)
  (hcell:∀y∈scope.names,y.2≠.cell) (hk:scope.kind=.function) (hx:scope.names.lookup x=some .local) (hcl:IG X.env cl) (hhas:((relabel scope X.env).names.all λz=>!(z.2==.cell||z.2==.free)||(cl.lookup z.1).isSome)=true) (hfv:JD X scope cl fv) (hnd:(x::fv.map (·.2)).Nodup)
  (hf:∀s H C fp,PF (Eg X s H (compEnvC scope cl C X.env) fp (x::fv.map (·.2))) ifs tt) (he:∀s H C fp,PE (Eg X s H (compEnvC scope cl C X.env) fp (x::fv.map (·.2))) elt te)
  (hw:∀D,H2 D=none->Ex J tt te (KL σ fv) D Q H2)
  (hRR:∀D C σ' H' s',s2.heap.objs.size<=C->Ab (Eg X s2 H2 (compEnvC scope cl C X.env) fp (x::fv.map (·.2))) [] σ' H' s'->Q (.ref D) H'->RR (.ref D) C (.ok .next) s'):
  wpAny (model X.prog X.w) X.A (newList []) (λge s3=>wpAny (model X.prog X.w) X.A (newFunctionEnv scope X.env.globals cl [] X.env.qual none .none (some X.env)) (λcenv s4 =>
   codeAny (model X.prog X.w) X.A (.compStart (.ListComp elt [⟨.Name x px,iter,ifs,0⟩] scope pos) 0 (.ref it) ge {cenv with scope:=relabel scope X.env}) (RR ge cenv.locals) s4) E s3) E s2:=by
 refine wpAny_newObj_type (wpAny_newFunctionEnv hcell (by intro y hy;simp at hy) (λh1 hns hsb=>?_) hk);dsimp only at hns hsb⊢;generalize hH:s2.heap.push {cls:=.type "list",dict:=none,data:=.seq ([]:List qO).toArray}=HH at hns hsb⊢;have eC:HH.objs.size=s2.heap.objs.size+1:=by rw[<-hH,cx]
 have hDC:s2.heap.objs.size≠HH.objs.size:=by rw[eC];exact bp (cq _)
 have hC:s2.heap.objs.size<=HH.objs.size:=by rw[eC];exact dS _
 have old:∀b o,s2.heap.get? b=some o->h1.get? b=some o:=λb o e=>hsb.extBut b o (by rw[eC];exact bp (cw (bM e))) (bG _ (hH▸bG _ e))
 have hacc:h1.PlainList s2.heap.objs.size #[]:=⟨_,hsb.extBut _ _ hDC (bG _ (hH▸bV _ rfl))⟩;have o2:=T.obj _ _ st2;refine byG λGq hGq=>?_;obtain⟨W,⟨n0,w0⟩,turn⟩:=hw s2.heap.objs.size (I2.hok.fresh (bD _));refine hGq ?_;clear hGq Gq;generalize eD:s2.heap.objs.size=D at *;generalize eCC:HH.objs.size=C at *;have Ib:=Vk (x:=x) (t1:=s2.toks+([]:List (Str×qO)).length) I2 f2 o2 (by rw[eD];exact bD _) (by rw[eD];exact hC) hDC old hacc hns hk hcl hhas hfv;have st1:tn 0 h1:=T.keep _ _ _ st2 λb _ o e=>old b o e
 have nD:∀b∈fp,b≠D:=λb hb=>by obtain⟨o,e,_⟩:=o2 b hb;rw[<-eD];exact bp (bM e)
 have fr1:∀b∈fp,Ak H2 D (.lst []) b=none:=λb hb=>by rw[AJ (nD b hb)];exact (f2 b hb).1
 have hxl:(relabel scope X.env).names.lookup x=some .local:=lookup_relabel_local hx
 have stat:∀{H':Hp},(∀b∈fp,H' b=none)->∀b∈fp,Ek (Eg X s2 H2 (compEnvC scope cl C X.env) fp (x::fv.map (·.2))) [] H' b:=λhn b hb=>by obtain⟨o,e,_⟩:=o2 b hb;exact⟨hn b hb,λz=>qE (bM e) (by rw[z,eD];exact Nat.not_lt.mpr hC),λz=>(bi.mp (I2.stkSub b z)).elim (f2 b hb).2.1 (f2 b hb).2.2.1,.inl hb,λy c h=>(f2 b hb).2.2.2.2.1 y c (hcl.at' h),λq hq=>nomatch hq⟩
 have loop:codeAny (model X.prog X.w) X.A (.compLoop (.ListComp elt [⟨.Name x px,iter,ifs,0⟩] scope pos) 0 (.ref it) (.ref D) (compEnvC scope cl C X.env)) (RR (.ref D) C) {s2 with heap:=h1,toks:=s2.toks+([]:List (Str×qO)).length}:=by
  refine codeAny_compLoop_tests (λn s'=>∃i ge σb H',Ab (Eg X s2 H2 (compEnvC scope cl C X.env) fp (x::fv.map (·.2))) [] σb H' s'/\σb.tail=KL σ fv/\tn i s'.heap/\(∀b∈fp,H' b=none)/\W n i ge H') ?_ n0 ⟨0,[],_,_,Ib,rfl,st1,fr1,w0⟩;intro n s3 hRq;refine byG λGq hGq=>?_;obtain⟨i,ge,σ3,H3,I3,t3,st3,fr3,w3⟩:=hRq;refine hGq ?_;clear hGq Gq;rcases turn n i ge H3 w3 with⟨stop,qn⟩|⟨go,NN,hNN,step⟩
  ·refine BU (T.done (Eg X s2 H2 (compEnvC scope cl C X.env) fp (x::fv.map (·.2))) rfl rfl rfl hc i [] s3 σ3 H3 _ I3 (stat fr3) st3 stop) λr s4 q4=>?_;obtain⟨hr,I4⟩:=q4;subst hr;exact hRR D C σ3 H3 s4 hC I4 qn
  ·refine BU (T.item (Eg X s2 H2 (compEnvC scope cl C X.env) fp (x::fv.map (·.2))) rfl rfl rfl hc i [] s3 σ3 H3 _ I3 (stat fr3) st3 go) λr s4 q4=>?_;obtain⟨u,hr,h4⟩:=q4;subst hr;refine (show wpAny _ _ (letOwnedTupleGo (.Name x px) (.ref it) u >>= λ_=>assign (.Name x px) (compEnvC scope cl C X.env) u) _ _ _ from qA (BU h4 λ_ s5 q5=>?_));refine byG λGq hGq=>?_;obtain⟨v,H5,I5,r5,y5,st5,fr5⟩:=q5;refine hGq ?_;clear hGq Gq;have I5':=I5.pinned (stat fr5) (T.obj _ _ st5);have again:∀{σ7:St} {H7:Hp} {s7:qQ},Ab (Eg X s2 H2 (compEnvC scope cl C X.env) fp (x::fv.map (·.2))) ([]++Gz fp s5.heap) σ7 H7 s7->tn (i+1) s7.heap/\∀b∈fp,H7 b=none:=λ{σ7 H7 s7} I7=>by refine⟨T.keep _ _ _ st5 λb hb o e=>(I7.pin (b,o) (ba _ (ba _ (Cw hb e)))).1,λb hb=>?_⟩;obtain⟨o,e,d⟩:=T.obj _ _ st5 b hb;exact (I7.pin (b,o) (ba _ (ba _ (Cw hb e)))).2.1
   have sσ:σ3.set 0 (some v)=some v::KL σ fv:=by
    cases σ3 with
    |nil =>
     have z:=I3.len;simp[Eg]at z
    |cons a b =>
     have z:b=KL σ fv:=t3;rw[z];rfl
   have g:=IL (X:=Eg X s2 H2 (compEnvC scope cl C X.env) fp (x::fv.map (λq:Nat×Str=>q.2))) (pos:=px) (i:=0) (x:=x) hnd rfl (.inl hxl) (.inr hxl);refine wpAny_noRaise (BU (g _ s5 σ3 H5 v u (λσ' H'=>σ'=some v::KL σ fv/\H'=H5) I5' r5 ⟨sσ,rfl⟩) λ_ s6 q6=>?_);refine byG λGq hGq=>?_;obtain⟨σ6,H6,I6,rfl,rfl⟩:=q6;refine hGq ?_;clear hGq Gq;refine wpAny_noRaise (BU (hf _ _ _ _ _ s6 _ _ _ I6 (step v _ y5)) λb s7 q7=>?_);obtain⟨H7,I7,q7⟩:=q7;cases b with
   |false =>
    rw[qC (by decide)]at q7⊢;obtain⟨n',hn',w7⟩:=hNN _ _ q7;exact⟨n',hn',i+1,ge,_,H7,I7.unpinned,rfl,(again I7).1,(again I7).2,w7⟩
   |true =>
    rw[qD rfl]at q7⊢;refine wpAny_noRaise (BU (he _ _ _ _ _ s7 _ _ _ I7 q7) λyv s8 q8=>?_);refine byG λGq hGq=>?_;obtain⟨y,H8,I8,r8,e8,l8,q8⟩:=q8;refine hGq ?_;clear hGq Gq;obtain⟨n',hn',w8⟩:=hNN _ _ q8;refine wpAny_noRaise (BU (G4 (X:=Eg X s2 H2 (compEnvC scope cl C X.env) fp (x::fv.map (·.2))) _ s8 _ H8 (.ref D) [y] (.ref D) [yv] (λ_ H'=>H'=Ak H8 D (.lst (ge++[y]))) I8 rfl (.cons r8 .nil) ⟨D,ge,y,rfl,rfl,e8,l8,rfl⟩) λ_ s9 q9=>?_);refine byG λGq hGq=>?_;obtain⟨_,H9,I9,_,rfl⟩:=q9;refine hGq ?_;clear hGq Gq;exact⟨n',hn',i+1,ge++[y],_,_,I9.unpinned,rfl,(again I9).1,(again I9).2,w8⟩
 exact codeAny_compStart_list loop (T.self X.A 0 _ _ _ st1 loop)
theorem Ab.letGo{h':Heap}(I2:Ab X ad σ H2 s2){σ':St}(J:Ab X ad σ' H' s')(hC:s2.heap.objs.size<=C)(hn:H' C=none)(sb:Heap.SameBut C s'.heap h'):Ab X ad σ' H' {s' with heap:=h',toks:=s'.toks}:=
 J.turned (it:=C) (λb o hb e=>(sb.2 b hb).trans e) hn (du (bQ I2.lt hC)) (.inr (cF I2.sz hC)) (λy c e z=>by obtain⟨v,o,eo,d⟩:=I2.cell y c e;exact qE (bQ (bM eo) (by rw[z];exact hC)) (bx _)) λp hp z=>qE (bQ (bM (I2.pin p hp).1) (by rw[z];exact hC)) (bx _)
theorem Tq(hc:X.calm=true)(hi:PI X (.Name x px) iter wi)(hclos:closureFor scope X.env=pure cl)(hcell:∀y∈scope.names,y.2≠.cell)(hk:scope.kind=.function)(hnames:∀z∈scope.names,z.2=.local->scope.names.lookup z.1=some .local)
  (hx:scope.names.lookup x=some .local) (hcl:IG X.env cl) (hhas:((relabel scope X.env).names.all λz=>!(z.2==.cell||z.2==.free)||(cl.lookup z.1).isSome)=true) (hfv:JD X scope cl fv) (hnd:(x::fv.map (·.2)).Nodup)
  (hf:∀s H C fp,PF (Eg X s H (compEnvC scope cl C X.env) fp (x::fv.map (·.2))) ifs tt) (he:∀s H C fp,PE (Eg X s H (compEnvC scope cl C X.env) fp (x::fv.map (·.2))) elt te)
  (hs:∀x,foldedSetIterable iter X.env x=pure x:=by intro _;rfl):PE X (.ListComp elt [⟨.Name x px,iter,ifs,0⟩] scope pos) (Rc wi fv tt te):=by
 intro ad s σ H Q I h;rw[eval_ListComp];refine wpAny_comprehension_free (use:=none) rfl hs hclos hk hnames (BU (hi ad s σ H _ I h) λv s1 h1=>BU h1 λitv s2 h2=>?_);refine byG λGq hGq=>?_;obtain⟨it,fp,tn,J,H2,e,I2,T,st2,f2,hw⟩:=h2;refine hGq ?_;clear hGq Gq;subst e;refine O7 (RR:=λge C=>compPost (model X.prog X.w) X.A X.xe none (EP X ad σ Q) ge C) hc I2 T st2 f2 hcell hk hx hcl hhas hfv hnd hf he hw λD C σ' H' s' hC Ib q=>?_;obtain⟨m,hn,_⟩:=Ib.loc;exact⟨m,hn,λh' sb=>⟨.ref D,H',Ab.letGo I2 (JE I2 f2 Ib) hC Ib.free sb,rfl,q⟩⟩
theorem GN{y:Str}{iy:Nat}{py spos:Pos}(hc:X.calm=true)(hN:X.N.Nodup)(hy:X.N[iy]?=some y)(hyl:UY X.env.scope y)(hi:PI X (.Name x px) iter wi)(hsw:swapsWith (.ListComp elt [⟨.Name x px,iter,ifs,0⟩] scope pos) (some (.Name y py)) spos.line X.env=pure true)
  (hclos:closureFor scope X.env=pure cl) (hcell:∀y∈scope.names,y.2≠.cell) (hk:scope.kind=.function) (hnames:∀z∈scope.names,z.2=.local->scope.names.lookup z.1=some .local)
  (hx:scope.names.lookup x=some .local) (hcl:IG X.env cl) (hhas:((relabel scope X.env).names.all λz=>!(z.2==.cell||z.2==.free)||(cl.lookup z.1).isSome)=true) (hfv:JD X scope cl fv) (hnd:(x::fv.map (·.2)).Nodup)
  (hf:∀s H C fp,PF (Eg X s H (compEnvC scope cl C X.env) fp (x::fv.map (·.2))) ifs tt) (he:∀s H C fp,PE (Eg X s H (compEnvC scope cl C X.env) fp (x::fv.map (·.2))) elt te)
  (hyf:X.fn y=true\/X.env.scope.names.lookup y=some .local:=by first|exact .inl rfl|exact .inr rfl) (hs:∀x,foldedSetIterable iter X.env x=pure x:=by intro _;rfl):
  PS X (.Assign [.Name y py] (.ListComp elt [⟨.Name x px,iter,ifs,0⟩] scope pos) spos) (P1 (Rc wi fv tt te) (GB iy)):=by
 intro ad s σ H D h' h;have I:=h';rw[exec_Assign_Name_used _ _ _ _ hsw];refine qA (wpAny_standAt (qA ?_));show wpAny _ X.A (do let _ <-comprehension (.ListComp elt [⟨.Name x px,iter,ifs,0⟩] scope pos) scope X.env _ (newList []) false (eval iter X.env) (some (assign (.Name y py) X.env))) _ _ s;refine qA (qK (wpAny_comprehension_free (use:=some (assign (.Name y py) X.env)) (Q:=λ_ s'=>SP X ad D .next s') rfl hs hclos hk hnames (BU (hi ad s σ H _ I h) λv s1 h1=>BU h1 λitv s2 h2=>?_)) (λ_ s' hq=>qB (qB hq)) λ_ _ e=>e);obtain⟨it,fp,tn,J,H2,e,I2,T,st2,f2,hw⟩:=h2;subst e;refine O7 (Q:=λv H1=>GB iy v σ H1 D.nx) (RR:=λge C=>compPost (model X.prog X.w) X.A X.xe (some (assign (.Name y py) X.env)) (λ_ s'=>SP X ad D .next s') ge C) hc I2 T st2 f2 hcell hk hx hcl hhas hfv hnd hf he hw λD' C σ' H' s' hC Ib q=>?_;obtain⟨m,hn,_⟩:=Ib.loc;show wpAny _ X.A (assign (.Name y py) X.env (.ref D')) _ _ _;refine wpAny_assign_Name (Kc (JE I2 f2 Ib) hN hy hyl (v:=.ref D') rfl (λs3 I3 hsb=>?_) hyf);obtain⟨a,sb3,ha⟩:=hsb
 have nC:C≠a:=λz=>by
  rcases ha with e|e
  ·exact qE (bQ I2.lt hC) (by rw[z,e];exact bx _)
  ·obtain⟨v,o,eo,d⟩:=I2.cell y a e;exact qE (bQ (bM eo) (by rw[<-z];exact hC)) (bx _)
 exact⟨m,hn.sameBut sb3 nC,λh'' sb=>⟨_,H',Ab.letGo I2 I3 hC Ib.free sb,q⟩⟩
end
variable{tt:TT}{σf:List (Option V)}
theorem Bj{n:Nat}{D:qP}{Q:VK}(Pv:Nat->List V->Hp->Prop)(h0:Pv 0 [] (Ak H D (.lst [])))
  (hs:∀i ge H2,i<n->Pv i ge H2->tt (some (.int (lo+i))::σf) H2 λb H4=>if b=true then te (some (.int (lo+i))::σf) H4 λy H5=>H5 D=some (.lst ge)/\ge.length<sizeLine/\Pv (i+1) (ge++[y]) (Ak H5 D (.lst (ge++[y]))) else Pv (i+1) ge H4)
  (hd:∀ge H2,Pv n ge H2->Q (.ref D) H2):Ex (Uc lo n) tt te σf D Q H:=by
 refine⟨λk i ge H=>k=n-i/\i<=n/\Pv i ge H,⟨n,by simp,Nat.zero_le _,h0⟩,?_⟩;rintro k i ge H2 ⟨rfl,hi,p⟩
 by_cases hlt:i<n
 ·refine .inr ⟨hlt,Pv (i+1),λl H' p'=>⟨n-(i+1),by lia,rfl,hlt,p'⟩,λx H' y=>?_⟩;obtain⟨e,y⟩:=y;subst e y;exact hs i ge _ hlt p
 ·have e:i=n:=by lia
  subst e;exact .inl ⟨bD _,hd ge H2 p⟩
theorem Cg{K:qT}{D:qP}{Q:VK}(Pv:Nat->List V->Hp->Prop)(h0:Pv 0 [] (Ak H D (.lst [])))(hl:∀i ge H,i<=xs.length->Pv i ge H->Ai K H a xs)
  (hs:∀i x ge H2,xs[i]?=some x->Pv i ge H2->tt (some x::σf) H2 λb H4=>if b=true then te (some x::σf) H4 λy H5=>H5 D=some (.lst ge)/\ge.length<sizeLine/\Pv (i+1) (ge++[y]) (Ak H5 D (.lst (ge++[y]))) else Pv (i+1) ge H4)
  (hd:∀ge H2,Pv xs.length ge H2->Q (.ref D) H2):Ex (XH K a) tt te σf D Q H:=by
 refine⟨λk i ge H=>k=xs.length-i/\i<=xs.length/\Pv i ge H,⟨xs.length,by simp,Nat.zero_le _,h0⟩,?_⟩;rintro k i ge H2 ⟨rfl,hi,p⟩;have q:=hl i ge H2 hi p
 by_cases hlt:i<xs.length
 ·refine .inr ⟨⟨xs,xs[i],q,by simp[hlt]⟩,Pv (i+1),λl H' p'=>⟨xs.length-(i+1),by lia,rfl,hlt,p'⟩,λx H' y=>?_⟩;obtain⟨e,y⟩:=y;subst e;exact hs i x ge _ (y xs q) p
 ·have e:i=xs.length:=by lia
  subst e;exact .inl ⟨⟨xs,q,bD _⟩,hd ge H2 p⟩
theorem JF:CJ X (.type "int") (λxs H Q=>∃i:Int,(xs=[.int i]\/∃b,xs=[.bl b]/\i=if b=true then 1 else 0)/\Q (.int i) H):=by
 intro ad s σ H xs us Q I r h;obtain⟨i,h,q⟩:=h;rcases h with rfl|⟨b,rfl,e⟩
 ·obtain⟨u,rfl,⟨t,rfl⟩⟩:=Dr r;exact call_int_int ⟨.int i,H,I,⟨t,rfl⟩,q⟩
 ·obtain⟨u,rfl,rx⟩:=Dr r;cases rx;subst e;exact call_int_bool ⟨.int _,H,I.tok _,⟨_,rfl⟩,q⟩
theorem Hl:∀(ns:qU) (k:Nat),k<=ns.length->preSum (λi=>ns.getD i 0) k=(ns.take k).sum
 |ns,0,_=>by simp[preSum]
 |ns,k+1,h=>by
  have e:ns.take (k+1)=ns.take k++[ns[k]]:=by rw[cf,bA (by lia)];rfl
  rw[preSum,Hl ns k (by lia),e,fk,a8,bA (by lia)];simp
theorem Ey(hc:X.calm=true):CJ X (.builtin "sum") (λxs H Q=>∃(p:qP) (ns:qU),xs=[.ref p]/\Ai X.K H p (ns.map V.int)/\Q (.int ns.sum) H):=by
 intro ad s σ H xs us Q I r h;obtain⟨p,ns,rfl,hq,q⟩:=h;obtain⟨u,rfl,rx⟩:=Dr r;cases rx;obtain⟨its,rits,pl,hz⟩:=I.list hq;have hlen:=rits.length;rw[a9]at hlen;have alt:p<s.heap.objs.size:=by obtain⟨o,e,_⟩:=pl.isList;exact bM e
 refine call_sum_walkG (wpAny_pyIter_list pl.isList ?_);have up:∀b o,s.heap.get? b=some o->(s.heap.push {cls:=.type "list_iterator",data:=.fields #[.ref p,.int 0 0]}).get? b=some o:=λb o e=>bG _ e
 refine⟨s.heap.objs.size,[s.heap.objs.size,p],[s.heap.objs.size],its.toArray.size,_,_,λi=>ns.getD i 0,rfl,Walks.list (A:=X.A.in1) (I.ok.hd hc) _ p (bp alt) its.toArray,⟨⟨_,bV _ rfl,rfl,rfl⟩,pl.isList.at λo e=>up p o e⟩,λb hb=>?_,λi v hv=>?_,λh' tk t' kk=>?_⟩
 ·show b<(s.heap.push _).objs.size;rw[cx];rcases bi.mp hb with z|z
  ·rw[z];exact cq _
  ·rw[bL.mp z];exact cw alt
 ·have hv':its[i]?=some v:=by simpa using hv
  have hi:=(bB.mp hv').1;obtain⟨u2,hu2,ru2⟩:=rits.get (x:=.int (ns.getD i 0)) (i:=i) (by rw[bF,bA (by lia),a8,bA (by lia)];rfl);rw[hv']at hu2;cases hu2;exact ru2
 ·refine⟨.int ns.sum,H,I.kept (t':=tk) λb o e=>kk b o (λz=>?_) (up b o e),⟨t',?_⟩,q⟩
  ·rw[bL.mp z]at e;exact qE (bM e) (bx _)
  ·rw[Hl ns _ (by simp[<-hlen]),List.size_toArray,<-hlen,List.take_length]
theorem Mb(hc:X.calm=true):CJ X (.builtin "max") (λxs H Q=>∃(p:qP) (ns:qU),xs=[.ref p]/\Ai X.K H p (ns.map V.int)/\0<ns.length/\∀m:Int,m∈ns->(∀n∈ns,n<=m)->Q (.int m) H):=by
 intro ad s σ H xs us Q I r h;refine byG λGq hGq=>?_;obtain⟨p,ns,rfl,hq,hpos,q⟩:=h;refine hGq ?_;clear hGq Gq;obtain⟨u,rfl,rx⟩:=Dr r;cases rx;refine byG λGq hGq=>?_;obtain⟨its,rits,pl,hz⟩:=I.list hq;refine hGq ?_;clear hGq Gq;have hlen:=rits.length;rw[a9]at hlen;have alt:p<s.heap.objs.size:=by obtain⟨o,e,_⟩:=pl.isList;exact bM e
 have up:∀b o,s.heap.get? b=some o->(s.heap.push {cls:=.type "list_iterator",data:=.fields #[.ref p,.int 0 0]}).get? b=some o:=λb o e=>bG _ e
 have hval:∀(i:Nat) (v:qO),its.toArray[i]?=some v->i<ns.length/\∃t,v=.int (ns.getD i 0) t:=λi v hv=>by
  have hv':its[i]?=some v:=by simpa using hv
  have hi:=(bB.mp hv').1;obtain⟨u2,hu2,ru2⟩:=rits.get (x:=.int (ns.getD i 0)) (i:=i) (by rw[bF,bA (by lia),a8,bA (by lia)];rfl);rw[hv']at hu2;cases hu2;exact⟨by lia,ru2⟩
 refine call_max_walk (wpAny_pyIter_list pl.isList ?_);refine⟨s.heap.objs.size,[s.heap.objs.size,p],[s.heap.objs.size],its.toArray.size,_,_,_,rfl,Walks.list (A:=X.A.in1) (I.ok.hd hc) _ p (bp alt) its.toArray,⟨⟨_,bV _ rfl,rfl,rfl⟩,pl.isList.at λo e=>up p o e⟩,λb hb=>?_,by rw[bn];lia,CmpOf.ints_gt (λi=>ns.getD i 0) (λi v hv=>(hval i v hv).2),λv h' tk hv kk=>?_⟩
 ·show b<(s.heap.push _).objs.size;rw[cx];rcases bi.mp hb with z|z
  ·rw[z];exact cq _
  ·rw[bL.mp z];exact cw alt
 ·obtain⟨hb,t,rfl⟩:=hval _ v hv;refine⟨.int _,H,I.kept (t':=tk) λb o e=>kk b o (λz=>?_) (up b o e),⟨t,rfl⟩,q _ ?_ ?_⟩
  ·rw[bL.mp z]at e;exact qE (bM e) (bx _)
  ·rw[a8,bA hb];exact b7 hb
  ·intro n hn;obtain⟨j,hj,e⟩:=d4 hn;have z:=(argBest_gt (λi=>ns.getD i 0) (its.toArray.size-1)).2 j (by rw[bn];lia);have e2:ns.getD j 0=n:=by rw[a8,bA hj];exact e
   rw[e2]at z;exact z
structure Rf(K:qT)(x qual:Str)(st:Stmt)(f:qP)(fd:FuncData)(dT:qP)(its:List qO):Prop where
 ex:∃(oc:qO) (od:Option qP) (kV doc pm:qO) (an:Option qP) (gh ct:qO) (osl:Array (Option qO)),
  fd=PySem.W.fnOf x qual (DJ st) (BW st) (AG st) (.ref dT) kV doc pm an gh ct/\K.lookup f=some ⟨oc,od,.func fd,osl⟩/\PySem.W.codeIn K gh qual=true
 df:∃(oc:qO) (od:Option qP) (n:Nat) (osl:Array (Option qO)),K.lookup dT=some ⟨oc,od,.seq its.toArray n,osl⟩
 kp:PySem.W.keepIn K (.ref f)=true
structure Tr(P:qR)(w:qS)(K:qT)(mg:Str->Option qO)(base:Heap)(k:Nat)(f:qP)(ps:List Str)(sp:Sp)(dvs:List V):Prop where
 ex:∃fd,Fp P w K mg base (KJ P w) k f fd ps sp/\Em K fd ps []/\∃ds,Av dvs ds/\Em K fd ps ds
 kp:PySem.W.keepIn K (.ref f)=true
section
variable{P:qR}{w:qS}{K:qT}{mg:Str->Option qO}{base:Heap}{f:qP}{N ps:List Str}{sp:Sp}{dvs:List V}
abbrev Nx(x qual:Str)(st:Stmt)(ps:List Str)(dT:qP)(its ds:List qO)(n:Nat):Prop:=∀(kV doc pm:qO) (an:Option qP) (gh ct:qO) (us:List qO),us.length=n ->
 ∃c:Option (Array qO)->Sem (List (Str×qO)),bindArgs (PySem.W.fnOf x qual (DJ st) (BW st) (AG st) (.ref dT) kV doc pm an gh ct) ⟨us,[]⟩=seqItems? (.ref dT) >>= c/\c (some its.toArray)=pure (ps.zip (us++ds))
theorem Rf.binds{dT:qP}{ds:List qO}{n:Nat}(F:Rf K x qual st f fd dT its)(h:Nx x qual st ps dT its ds n)(hn:n+ds.length=ps.length):Em K fd ps ds:=by refine byG λGq hGq=>?_;obtain⟨⟨oc,od,kV,doc,pm,an,gh,ct,osl,rfl,lk,hcd⟩,⟨oc2,od2,n2,osl2,l2⟩,_⟩:=F;refine hGq ?_;clear hGq Gq;intro s us X hl;obtain⟨c,h1,h2⟩:=h kV doc pm an gh ct us (by rw[bC]at hl;lia);exact BindsTo.of_defaults (T:=dT) rfl (X _ _ l2) rfl h1 h2
theorem Ts{n:Nat}(D:∃fd dT,Rf K x qual st f fd dT its)(hv:Av dvs its)(S:AI N ps (AG st))(bd:∀dT,Nx x qual st ps dT its [] ps.length)(hn:n+its.length=ps.length)(bd2:∀dT,Nx x qual st ps dT its its n)(len:∀vs H Q E,sp vs H Q E->vs.length=ps.length)
  (hbody:∀(gh:qO) (A:Around) (outer:List Env) (s:qQ) (H:Hp) (vs:List V) (Q:VK) (E:XK),B7 k (A.deeper (envOfC qual (AG st) s.heap.objs.size f gh))->sp vs H Q E ->
   ∃t,Hj (Dj (KJ P w) P w K mg base N qual (AG st) f gh A outer s H E) (BW st) t/\t {nx:=λ_ H'=>Q .non H',rt:=Q} (Ct N vs) H):Tr P w K mg base (k+1) f ps sp dvs:=by
 obtain⟨fd,dT,F⟩:=D;have b1:=F.binds (bd dT) rfl;have b2:=F.binds (bd2 dT) hn;refine byG λGq hGq=>?_;obtain⟨⟨oc,od,kV,doc,pm,an,gh,ct,osl,rfl,lk,hcd⟩,_,kp⟩:=F;refine hGq ?_;clear hGq Gq;exact⟨⟨_,Ue lk hcd S len λA outer s H vs Q E hr hsp=>hbody gh A outer s H vs Q E hr hsp,b1,its,hv,b2⟩,kp⟩
end
section
variable{f:qP}{ps:List Str}{sp:Sp}{dvs:List V}{E:St->XK}{p pos:Pos}{e:Expr}{t:TA}
theorem Rg(G:Tr X.prog X.w X.K X.mg X.base k f ps sp dvs)(hr:B7 k X.A)(hg:Gl X x)(hm:X.mg x=some (.ref f))(hx:De (KJ X.prog X.w) X E)
  (ha:PA X (e::es) t) (hdb:(x==("__debug__":Str))=false:=by decide) (he:starEach (e::es) X.env=(false,eval e X.env)::starEach es X.env:=by rfl) (hpl:(backTo pos (starEach es X.env)).any (·.1)=false:=by rfl):
  PE X (.Call (.Name x p) (e::es) [] pos) (G6 sp dvs E t):=by
 refine byG λGq hGq=>?_;obtain⟨⟨fd,F,_,ds,hv,b⟩,kp⟩:=G;refine hGq ?_;clear hGq Gq;exact Iy F hr hg hm kp b hv hx ha hdb he hpl
end
def O8(K:qT)(x:Str)(st:Stmt)(f:qP)(i:Int):Prop:=(∃tk fd dT,Rf K x x st f fd dT [.int i tk])/\PySem.W.nsIn K mainGlobals x=some (some (.ref f))
theorem Tt{K:qT}{f dT:qP}{i:Int}{tk:Tok}{oc2:qO}{od2:Option qP}{osl2:Array (Option qO)}{kV ct:qO}{n2:Nat}(a:PySem.W.nsIn K mainGlobals x=some (some (.ref f)))
  (l:K.lookup f=some ⟨oc,od,.func (PySem.W.fnOf x x (DJ st) (BW st) (AG st) (.ref dT) kV doc pm an gh ct),osl⟩) (e:PySem.W.codeIn K gh x=true) (k:PySem.W.keepIn K (.ref f)=true) (d:K.lookup dT=some ⟨oc2,od2,.seq #[.int i tk] n2,osl2⟩):O8 K x st f i:=
 ⟨⟨tk,_,dT,⟨⟨oc,od,kV,doc,pm,an,gh,ct,osl,rfl,l,e⟩,⟨oc2,od2,n2,osl2,d⟩,k⟩⟩,a⟩
section
variable{prog:qR}{w:qS}{A:Around}
theorem IH{t:qP}{items}{x:qO}(hit:s.heap.IsTupleIter it t i)(ht:s.heap.IsTuple t items)(hx:items[i]?=some x)
  (hQ:∀h',h'.IsTupleIter it t (i+1)->Heap.SameBut it s.heap h'->Q x {s with heap:=h'}):wpAny (model prog w) A (Builtin.SmallTypes.nextOf (.ref it)) Q E s:=by
 refine byG λGq hGq=>?_;obtain⟨o,ho,hc,hd⟩:=id hit;refine hGq ?_;clear hGq Gq;refine byG λGq hGq=>?_;obtain⟨ol,hol,_,nl,hdl⟩:=ht;refine hGq ?_;clear hGq Gq;unfold Builtin.SmallTypes.nextOf;refine qA (wpAny_callSpecial?_slot (name:=Str.ofString "__next__") hit.typeIs F.slot_tuple_iterator_next (wpAny_call_entry F.slot_tuple_iterator_next hit.typeIs F.entry_tuple_iterator_next ?_ (F.args_tuple_iterator_next_1 _)))
 (show wpAny _ _ (field (.ref it) 0 >>= _) _ _ s);refine qA (wpAny_field ho hd (x:=.ref t) rfl ?_)
 (show wpAny _ _ (if (Value.ref t==Value.none)=true then _ else _) _ _ s);rw[qC (show ¬((Value.ref t==Value.none)=true) from bT)]
 (show wpAny _ _ (field (.ref it) 1 >>= _) _ _ s);refine qA (wpAny_field ho hd (x:=.int i 0) rfl ?_)
 (show wpAny _ _ (seqItems? (.ref t) >>= _) _ _ s);refine qA (wpAny_seqItems hol hdl ?_)
 simp only[Int.toNat_natCast,hx];refine qA (wpAny_setField ho hd (by simp) (qB ⟨x,rfl,qB (hQ _ ⟨_,Heap.get?_update_self _ ho (Obj.isFreed_of_fields (Obj.data_mapFields hd _)),(Obj.cls_mapFields ..).trans hc,by rw[Obj.data_mapFields hd];simp[rawInt]⟩ (Heap.SameBut.update ..))⟩))
theorem Ez{t:qP}{items}(hh:A.handled=none)(hit:s.heap.IsTupleIter it t i)(ht:s.heap.IsTuple t items)(hx:items[i]?=none)
  (hE:∀h' e,Heap.ExtBut it s.heap h'->(∃o,h'.get? e=some o/\o.cls=.type "StopIteration")->E (.ref e) {s with heap:=h'}):wpAny (model prog w) A (Builtin.SmallTypes.nextOf (.ref it)) Q E s:=by
 refine byG λGq hGq=>?_;obtain⟨o,ho,hc,hd⟩:=id hit;refine hGq ?_;clear hGq Gq;refine byG λGq hGq=>?_;obtain⟨ol,hol,_,nl,hdl⟩:=ht;refine hGq ?_;clear hGq Gq;unfold Builtin.SmallTypes.nextOf;refine qA (wpAny_callSpecial?_slot (name:=Str.ofString "__next__") hit.typeIs F.slot_tuple_iterator_next (wpAny_call_entry F.slot_tuple_iterator_next hit.typeIs F.entry_tuple_iterator_next ?_ (F.args_tuple_iterator_next_1 _)))
 (show wpAny _ _ (field (.ref it) 0 >>= _) _ _ s);refine qA (wpAny_field ho hd (x:=.ref t) rfl ?_)
 (show wpAny _ _ (if (Value.ref t==Value.none)=true then _ else _) _ _ s);rw[qC (show ¬((Value.ref t==Value.none)=true) from bT)]
 (show wpAny _ _ (field (.ref it) 1 >>= _) _ _ s);refine qA (wpAny_field ho hd (x:=.int i 0) rfl ?_)
 (show wpAny _ _ (seqItems? (.ref t) >>= _) _ _ s);refine qA (wpAny_seqItems hol hdl ?_)
 simp only[Int.toNat_natCast,hx];refine qA (wpAny_rule (qA (wpAny_setField ho hd (by simp) ?_)));show wpAny _ _ (newExc (.type "StopIteration") [] >>= _) _ _ _;refine qA ?_;simp only[newExc,newTuple];refine qA (wpAny_newObj_type ?_ (by size_fits));refine qA (m:=firstArgMember _ _) (wpAny_of_eq (a:=Value.none) (by first|rfl|(simp only[firstArgMember];rfl)) ?_);refine wpAny_newObj_type ?_ (by size_fits);unfold raiseNew;refine qA (wpAny_handled ?_);(first|rw[show A.in1.handled=none from hh]|rw[hh]);refine qA (qB (wpAny_throw ?_));exact (hE _ _ (((Heap.SameBut.update ..).extBut.push _).push _) ⟨_,bV _ rfl,rfl⟩)
theorem QI(hh:A.handled=none)(it t:qP)(hne:t≠it)(items:Array qO):Draws prog w A it [it,t] items.size (λi v=>items[i]?=some v) (λi h=>h.IsTupleIter it t i/\h.IsTuple t items) where
 live:=λ_ _ ⟨⟨o,ho,_⟩,_⟩=>⟨o,ho⟩
 frame:=λ_ _ _ ⟨st,o,ho,r⟩ hk=>⟨st.at λo e=>hk it (by simp) o e,o,hk t (by simp) o ho,r⟩
 item:=λi s Q E hi st hQ=>IH st.1 st.2 (x:=items[i]) (by simp[hi]) λh' hit' hs'=>hQ _ h' s.toks (by simp[hi]) ⟨hit',st.2.extBut hs'.extBut hne⟩ hs'
 done:=λs Q E st hE=>Ez hh st.1 st.2 (by simp) hE
theorem Rh{a:α}{Q:α->qQ->Prop}(h:∀b,Q b s):wpAny (model prog w) A (pure a) Q E s:=qB (h a)
open AutoSeq1 (wpAny_loadPart') in
theorem Mc(l:qP)(items:Array qO)(n:Nat)(dct:Option qP)(sl:Array (Option qO)):
  Meets (Builtin.«enumerate.__new__» ⟨[.type "enumerate",.ref l],[]⟩) (λ_ R s=>s.heap.get? l=some {cls:=.type "tuple",dict:=dct,data:=.seq items n,slots:=sl} /\
   R (.ok (.ret (.ref (s.heap.push {cls:=.type "tuple_iterator",data:=.fields #[.ref l,.int 0 0]}).objs.size)))
    {s with heap:=(s.heap.push {cls:=.type "tuple_iterator",data:=.fields #[.ref l,.int 0 0]}).push {cls:=.type "enumerate",data:=.fields #[.none,.bool false,.ref s.heap.objs.size,rawInt 0,.none,.none]}}):=
 .of_wp λprog w A R s h=>by
  obtain⟨hp,g,d,tk,os⟩:=s;obtain⟨hl,h⟩:=h;have hsub:=sub_enumerate;have hL:Heap.IsTuple (Shared.heap ⟨hp,g,d,tk,os⟩) l items:=⟨_,hl,rfl,n,rfl⟩
  wp_walk using wpAny_loadPart' hl
  refine wpAny_stack_any λst=>Rh λb=>?_
  cases b<;>(wp_walk using wpAny_loadPart' hl,wpAny_pyIter_tuple hL)<;>exact⟨_,rfl,h⟩
theorem Ny{l:qP}(hL:s.heap.IsTuple l items)
  (h:∀h',IsEnum h' (s.heap.objs.size+1) s.heap.objs.size 0 .none->h'.IsTupleIter s.heap.objs.size l 0->h'.objs.size=s.heap.objs.size+2->(∀b o,s.heap.get? b=some o->h'.get? b=some o)->Q (.ref (s.heap.objs.size+1)) {s with heap:=h'}):
  wpAny (model prog w) A (call (.type "enumerate") [.ref l]) Q E s:=by
 refine byG λGq hGq=>?_;obtain⟨⟨c,dct,dt,sl⟩,hl,hc,n,hd⟩:=hL;refine hGq ?_;clear hGq Gq;replace hc:c=.type "tuple":=hc;replace hd:dt=.seq items n:=hd;subst hc hd;refine callType_new F.called_enumerate (by decide) (F.typeCall_enumerate_1 _) (F.newCall_enumerate_1 _) (λobj=>F.args_object_init_2 obj _) F.entry_enumerate_new (Mc l items n dct sl) ⟨hl,?_⟩;have hz:(s.heap.push {cls:=.type "tuple_iterator",data:=.fields #[.ref l,.int 0 0]}).objs.size=s.heap.objs.size+1:=cx ..;show _/\_;rw[hz]
 have he:IsEnum ((s.heap.push {cls:=.type "tuple_iterator",data:=.fields #[.ref l,.int 0 0]}).push {cls:=.type "enumerate",data:=.fields #[.none,.bool false,.ref s.heap.objs.size,rawInt 0,.none,.none]}) (s.heap.objs.size+1) s.heap.objs.size 0 .none:=by have:=bV (s.heap.push {cls:=.type "tuple_iterator",data:=.fields #[.ref l,.int 0 0]}) (o:={cls:=.type "enumerate",data:=.fields #[.none,.bool false,.ref s.heap.objs.size,rawInt 0,.none,.none]}) rfl;rw[hz]at this;exact this
 exact⟨⟨_,he,rfl⟩,h _ he ⟨_,bG _ (bV _ rfl),rfl,rfl⟩ (by rw[cx,hz]) λb o x=>bG _ (bG _ x)⟩
theorem G8{e t:qP}{old:qO}{Q:Option qO->qQ->Prop}(hh:A.handled=none)(he:IsEnum s.heap e it i old)(hit:s.heap.IsTupleIter it t i)(ht:s.heap.IsTuple t items)(hx:items[i]?=none)
  (hQ:∀h',Heap.ExtBut it s.heap h'->Q none {s with heap:=h'}):wpAny (model prog w) A (pyNext (.ref e)) Q E s:=by
 have hT:s.TypeIs (.ref e) "enumerate":=⟨_,he,rfl⟩;unfold pyNext;refine qA (wpAny_attempt (wpAny_callSpecial?_slot (name:=Str.ofString "__next__") hT F.slot_enumerate_next (wpAny_call_entry F.slot_enumerate_next hT F.entry_enumerate_next ?_ (F.args_enumerate_next_1 _))))
 (show wpAny _ _ (field (.ref e) 2 >>= _) _ _ _);refine qA (wpAny_field he rfl (x:=.ref it) rfl ?_)
 refine qA (Ez hh hit ht hx λh' x he' hx'=>?_);obtain⟨o,ho,hc⟩:=hx';exact qA (wpAny_isInstance (T:="StopIteration") (b:=true) ⟨o,ho,hc⟩ isSubtype_stop (qB (hQ _ he')))
end
noncomputable def QJ(K:qT)(a:qP):It:=
 ⟨λi H=>∃xs x,Am K H a xs/\xs[i]?=some x,λi H v H'=>∃p x,v=.ref p/\H p=none/\H'=Ak H p (.tup [.int i,x])/\∀xs,Am K H a xs->xs[i]?=some x,λi H=>∃xs,Am K H a xs/\xs.length<=i⟩
theorem Nz{P:qR}{w:qS}{K:qT}{ctx}(a e it:qP)(hne:e≠it)(hna:a≠it)(hea:e≠a):
  Im P w K (.Tuple elts ctx tpos) (QJ K a) [e,it] e (λi h=>(∃old,IsEnum h e it ((i:Nat):Int) old)/\h.IsTupleIter it a i) where
 mem:=by simp
 obj:=λi h st b hb=>by
  refine byG λGq hGq=>?_;obtain⟨⟨old,q⟩,o,e1,c,d⟩:=st;refine hGq ?_;clear hGq Gq;rcases bi.mp hb with z|z
  ·rw[z];exact⟨_,q,λv y=>by cases y⟩
  ·rw[bL.mp z];exact⟨o,e1,λv y=>by rw[d]at y;cases y⟩
 keep:=λi h h' st k=>by obtain⟨⟨old,q⟩,li⟩:=st;exact⟨⟨old,k e (by simp) _ q⟩,li.at λo z=>k it (by simp) o z⟩
 item:=by
  intro X hP hw hK hc i ad s σ H E I hf st hg;subst hP hw hK;refine byG λGq hGq=>?_;obtain⟨xs,x,hq,hx⟩:=hg;refine hGq ?_;clear hGq Gq;refine byG λGq hGq=>?_;obtain⟨its,rv,p,hz⟩:=I.tuple hq;refine hGq ?_;clear hGq Gq;obtain⟨u,hu,ru⟩:=rv.get hx;obtain⟨⟨old,he⟩,li⟩:=st
  have hil:i<its.toArray.size:=by have:=(bB.mp hu).1;simpa using this
  refine wpAny_pyNext_enum_itemD (QI (A:=X.A.in1) (show X.A.in1.handled=none from I.ok.hd hc) it a hna its.toArray) he ⟨li,show s.heap.IsTuple a its.toArray from p⟩ hil hne (by simp[hne,hea]) λy h1 tk hy out li1 ht hsz k1=>?_
  have ey:y=u:=by
   have e1:its.toArray[i]?=some u:=by simpa using hu
   rw[e1]at hy;exact (Option.some.inj hy).symm
  subst ey;refine⟨_,rfl,wpAny_letOwnedTupleGo_enum out λh2 he2 sb=>?_⟩;have k2:∀b o,b∉[e,it]->s.heap.get? b=some o->h2.get? b=some o:=λb o hb z=>(sb.2 b λy=>hb (by simp[y])).trans (k1 b o (λy=>hb (by simp[y])) (λy=>hb (by simp[y])) z)
  have hpe:s.heap.objs.size≠e:=du (bM he);have ht2:h2.get? s.heap.objs.size=some {cls:=.type "tuple",data:=.seq #[.int ((i:Nat):Int) tk,y]}:=(sb.2 _ hpe).trans ht;have hn:H s.heap.objs.size=none:=I.hok.fresh (bD _);refine⟨.ref s.heap.objs.size,Ak H s.heap.objs.size (.tup [.int ((i:Nat):Int),x]),I.turnedNew (h':=h2) (t':=tk+1) hf k2 (bD _) ⟨by show 2<=sizeLine;decide,[.int ((i:Nat):Int) tk,y],.cons ⟨_,rfl⟩ (.cons ru .nil),⟨_,ht2,rfl,_,rfl⟩⟩,rfl,⟨_,x,rfl,hn,rfl,λys hy=>by rw[I.tuple_inj hy hq];exact hx⟩,⟨⟨y,?_⟩,?_⟩,λb hb=>?_⟩
  ·have ec:(((i+1:Nat)):Int)=((i:Nat):Int)+1:=by push_cast;rfl
   rw[ec];exact he2
  ·exact li1.1.at λo z=>(sb.2 it (Ne.symm hne)).trans z
  ·have b0:=(hf b hb).1;rw[AJ λz=>?_]
   ·exact b0
   ·obtain⟨o,z1,_⟩:=id li;rcases bi.mp hb with y|y
    ·exact hpe (z.symm.trans y)
    ·exact qE (bM z1) (by rw[<-bL.mp y,z];exact bx _)
 done:=by intro X hP hw hK hc i ad s σ H E I hf st hg;subst hP hw hK;obtain⟨xs,hq,hx⟩:=hg;refine byG λGq hGq=>?_;obtain⟨its,rv,p,hz⟩:=I.tuple hq;refine hGq ?_;clear hGq Gq;obtain⟨⟨old,he⟩,li⟩:=st;refine byG λGq hGq=>?_;obtain⟨f0,f1,f2,f3,f4,f5⟩:=hf it (by simp);refine hGq ?_;clear hGq Gq;have hl:=rv.length;exact G8 (I.ok.hd hc) he li p (by simp;lia) λh' eb=>⟨rfl,I.turned (t':=s.toks) (λb o hb e=>eb b o hb e) f0 f1 f3 f4 f5⟩
 self:=λ_ _ _ _ _ st h=>by obtain⟨⟨old,he⟩,_⟩:=st;exact wpAny_pyIter_enum he h
section
variable{ctx}
def Vl(K:qT)(ta:TA):TI:=λσ H R=>ta σ H λvs H1=>∃a xs,vs=[.ref a]/\Am K H1 a xs/\R (QJ K a) H1
theorem JG{l:Expr}{p pos:Pos}(hg:Gl X "enumerate")(hm:X.mg "enumerate"=none)(ha:PA X [l] ta)(hs:starEach [l] X.env=[(false,eval l X.env)]:=by rfl):PI X (.Tuple elts ctx tpos) (.Call (.Name "enumerate" p) [l] [] pos) (Vl X.K ta):=by
 intro ad s σ H R I h;refine Call_ (DP I hg hm boot_enumerate (cD (BU (ha pos ad s σ H _ I h) λus s1 z9=>?_) hs rfl));obtain⟨vs,H1,I1,r1,q1⟩:=z9;refine byG λGq hGq=>?_;obtain⟨a,xs,e,hq,q⟩:=q1;refine hGq ?_;clear hGq Gq;subst e;cases r1 with
 |cons r rr =>
  cases rr;cases r;refine byG λGq hGq=>?_;obtain⟨its,rv,pl,hz⟩:=I1.tuple hq;refine hGq ?_;clear hGq Gq;have hal:a<s1.heap.objs.size:=by obtain⟨o,ho,_⟩:=id pl;exact bM ho
  refine Ny pl λh1 he li hsz k1=>?_;refine wpAny_pyIter_enum he ?_;have n1:H1 (s1.heap.objs.size+1)=none:=I1.hok.fresh (dS _);have n0:H1 s1.heap.objs.size=none:=I1.hok.fresh (bD _);refine⟨s1.heap.objs.size+1,[s1.heap.objs.size+1,s1.heap.objs.size],_,_,H1,rfl,I1.kept (t':=s1.toks) k1,Nz a _ _ (Nat.succ_ne_self _) (bp hal) (du (cw hal)),⟨⟨_,he⟩,li⟩,λb hb=>?_,q⟩;rcases bi.mp hb with z|z
  ·rw[z];exact I1.fpOk (dS _) n1
  ·rw[bL.mp z];exact I1.fpOk (bD _) n0
theorem Kq{K:qT}{g:TG}{tb:TS}(Pv:Nat->St->Hp->Prop)(h0:Pv 0 σ H)(hl:∀i σ H,i<=xs.length->Pv i σ H->Am K H a xs)
  (hs:∀i x p σ H,xs[i]?=some x->Pv i σ H->H p=none->g (.ref p) σ (Ak H p (.tup [.int ((i:Nat):Int),x])) λσ2 H2=>tb {D with nx:=Pv (i+1),ct:=Pv (i+1),bk:=D.nx} σ2 H2) (hd:∀σ H,Pv xs.length σ H->D.nx σ H):
  ∃W:Nat->Nat->St->Hp->Prop,(∃m,W 0 m σ H)/\∀i m σ H,W i m σ H ->
   ((QJ K a).stop i H/\D.nx σ H)\/((QJ K a).go i H/\∃N:St->Hp->Prop,(∀σ' H',N σ' H'->∃m',m'<m/\W (i+1) m' σ' H')/\∀x H',(QJ K a).yld i H x H'->g x σ H' λσ2 H2=>tb {D with nx:=N,ct:=N,bk:=D.nx} σ2 H2):=by
 refine⟨λi m σ H=>m=xs.length-i/\i<=xs.length/\Pv i σ H,⟨xs.length,by simp,Nat.zero_le _,h0⟩,?_⟩;rintro i m σ H ⟨rfl,hi,p⟩;have q:=hl i σ H hi p
 by_cases hlt:i<xs.length
 ·refine .inr ⟨⟨xs,xs[i],q,by simp[hlt]⟩,Pv (i+1),λσ' H' p'=>⟨xs.length-(i+1),by lia,rfl,hlt,p'⟩,λv H' y=>?_⟩;refine byG λGq hGq=>?_;obtain⟨p2,x,e1,e2,e3,y⟩:=y;refine hGq ?_;clear hGq Gq;subst e1 e3;exact hs i x p2 σ H (y xs q) p e2
 ·have e:i=xs.length:=by lia
  subst e;exact .inl ⟨⟨xs,q,bD _⟩,hd σ H p⟩
end
def X5(K:qT):R2:=λx y H Q=>∃d e,Eu K H x d/\Eu K H y e/\d.canLay0=true/\e.canLay0=true/\d.depth<=60/\Q (.bl (!PyData.eqv d e)) H
theorem N0(hu:X.A.units+64<cLine):FM X (compareOp .NotEq) (X5 X.K):=by intro ad s σ H x y v u Q I rx ry h;refine byG λGq hGq=>?_;obtain⟨d,e,hd,he,c1,c2,dd,q⟩:=h;refine hGq ?_;clear hGq Gq;obtain⟨as,r1⟩:=hd.reads I rx;obtain⟨bs,r2⟩:=he.reads I ry;have z:=SeqAt.rcNeAt_reads (A:=X.A) r1 r2 c1 c2 (by have:=Nat.min_le_left d.depth e.depth;lia);exact z X.prog X.w X.xe _ ⟨.bl _,H,I,rfl,q⟩
theorem O9(ns:qU):(PyData.tuple (ns.map PyData.int)).canLay0=true:=by simp only[PyData.canLay0,JC]
end L2
namespace RW
noncomputable def dr(g n:Int):Nat->Int
 |0=>n
 |i+1=>dr g n i/g
noncomputable def C1(g n:Int):Nat->qU
 |0=>[]
 |i+1=>C1 g n i++[dr g n i%g]
theorem C9(g n:Int):∀i,(C1 g n i).length=i
 |0=>rfl
 |i+1=>by rw[C1,bC,C9 g n i];rfl
theorem Aa{g:Int}(hg:2<=g):∀m:Nat,0<g^m
 |0=>by rw[cN];decide
 |m+1=>by rw[bq];exact Int.mul_pos (Aa hg m) (by lia)
theorem Ri{g:Int}(hg:2<=g)(n:Int):∀i:Nat,dr g n i=n/g^i
 |0=>by rw[dr,cN,Int.ediv_one]
 |i+1=>by rw[dr,Ri hg n i,bq,Int.ediv_ediv_of_nonneg (cn (Aa hg i))]
theorem PB{g n:Int}(hg:2<=g)(hn:0<=n){m:Nat}(h:n<g^m):dr g n m=0:=by rw[Ri hg];exact dO hn h
theorem Vm{g n:Int}(hg:2<=g){m:Nat}(h:g^m<=n):0<dr g n m:=by
 rw[Ri hg];have h1:1*g^m<=n:=by rw[cj];exact h
 have h2:=(Int.le_ediv_iff_mul_le (Aa hg m)).mpr h1;lia
end RW
namespace L2
open PySem
variable{C a:qP}{H H' H1:Hp}{g lo:Int}{i k:Nat}{o:HO}{xs ys:List V}{α:Type}
theorem Bf(hg:2<=g){m n:Nat}(h:m<=n):g^m<=g^n:=by obtain⟨k,rfl⟩:=Nat.exists_eq_add_of_le h;rw[Int.pow_add];have h1:=RW.Aa hg m;have h2:=RW.Aa hg k;have h3:=dH (show 1<=g^k by lia) (cn h1);lia
theorem Rj(hg:2<=g){m n:Nat}(h:m<n):g^m<g^n:=by have h1:=Bf hg (show m+1<=n from h);rw[bq]at h1;have h2:=RW.Aa hg m;have h3:=dH hg (cn h2);lia
theorem Df(hg:2<=g){m n:Nat}(h:g^m=g^n):m=n:=by
 rcases Nat.lt_trichotomy m n with z|z|z
 ·have:=Rj hg z;lia
 ·exact z
 ·have:=Rj hg z;lia
theorem Kr(hg:2<=g):∀{rs:qU},(∀n∈rs,0<=n/\n<g)->0<=low g rs/\low g rs<g^rs.length
 |[],_=>⟨dU _,by show (0:Int)<g^0;rw[cN];decide⟩
 |x::r,h=>by
  obtain⟨h1,h2⟩:=Kr hg (rs:=r) λn hn=>h n (be _ hn)
  obtain⟨h3,h4⟩:=h x bf;have h5:=Int.mul_nonneg (show 0<=g by lia) h1;have h6:=dH (show low g r+1<=g^r.length by lia) (show 0<=g by lia);rw[Int.mul_add,Int.mul_one]at h6;refine⟨by show 0<=x+g*low g r;lia,?_⟩;show x+g*low g r<g^(r.length+1);rw[bq,cH (g^r.length)];lia
theorem BL(hg:2<=g){ns:qU}(h:∀n∈ns,0<=n/\n<g):0<=Ao g ns/\Ao g ns<g^ns.length:=by rw[O6,<-c6];exact Kr hg λn hn=>h n (List.mem_reverse.mp hn)
theorem IN{l b:qP}{zs:List V}{Q:VK}(h1:H l=some (.lst xs))(h2:H b=some (.lst zs))(hz:xs.length+zs.length<=1000)(q:∀p H',AH H H'->H p=none->H' p=some (.lst (xs++zs))->Q (.ref p) H'):Xh (.ref l) (.ref b) H Q:=
 ⟨l,b,xs,zs,rfl,rfl,h1,h2,Ul hz,λp hp=>q p _ (AH.new hp _) hp AD⟩
theorem N1{K:qT}{lo hi:Option Int}{Q:VK}(h:Ai K H a xs)(q:∀p H',AH H H'->H p=none->H' p=some (.lst (LO xs lo hi))->Q (.ref p) H'):Xg K (.ref a) lo hi H Q:=
 ⟨a,xs,rfl,h,λp hp=>q p _ (AH.new hp _) hp AD⟩
theorem GO{l:qP}{x:V}{k:Int}{Q:VK}(h:H l=some (.lst [x]))(k0:0<=k)(k1:k<=1000)(q:∀p H',AH H H'->H p=none->H' p=some (.lst (List.replicate k.toNat x))->Q (.ref p) H'):Xi (.ref l) (.int k) H Q:=
 ⟨l,k,[x],rfl,rfl,h,by lia,by lia,by rw[bc,Nat.one_mul];exact Ul (by lia),λp hp=>q p _ (AH.new hp _) hp (by rw[AD,RV])⟩
theorem Tu:LO xs none (some ((k:Nat):Int))=xs.take k:=by
 have e:HT.KN xs.length xs.length (some ((k:Nat):Int))=min k xs.length:=by show (if ((k:Nat):Int)<0 then (((k:Nat):Int)+(xs.length:Int)).toNat else min ((k:Nat):Int).toNat xs.length)=_;rw[qC (by lia),bI]
 unfold LO;rw[e];show (xs.drop 0).take (min k xs.length-0)=_;rw[fB,Nat.sub_zero]
 by_cases z:k<=xs.length
 ·rw[fq z]
 ·rw[Nat.min_eq_right (by lia),br,fP (by lia)]
theorem QH.same{E:XK}(e:AH H H1)(h:QH C i H E):QH C i H1 E:=λH' dx e1 hd=>h H' dx (e.trans e1) hd
theorem CY{ns:qU}(h:k<ns.length):Kk (ns.map V.int) ((k:Nat):Int)=some (.int (ns.getD k 0)):=by refine DI ?_;rw[bF,bA h,a8,bA h];rfl
def At(H:Hp)(r:qP)(g lo:Int)(g7:qU):Prop:=∃tb,H r=some (.tup [.int g,.int lo,.ref tb])/\H tb=some (.tup (g7.map V.int))
variable{g7:qU}
theorem At.same{r:qP}(e:AH H H')(h:At H r g lo g7):At H' r g lo g7:=by obtain⟨tb,h1,h2⟩:=h;exact⟨tb,e _ _ h1,e _ _ h2⟩
inductive Ch(vs:List V)(H:Hp)(Q:VK)(z3_:XK):Prop
 |m (g n:Int):vs=[.int g,.int n]->2<=g->g<=9->(∀m:Nat,n=g^m->Q (.int ((m:Nat):Int)) H)->((∀m:Nat,n≠g^m)->Q (.int 0) H)->Ch vs H Q z3_
inductive Bg(vs:List V)(H:Hp)(Q:VK)(z3_:XK):Prop
 |m (r:qP) (g lo:Int) (g7:qU) (m:Nat):vs=[.ref r]->2<=g->g<=9->At H r g lo g7->(g7.length:Int)=g^m->Q (.int ((m:Nat):Int)) H->Bg vs H Q z3_
noncomputable def E1(g:Int)(m:Nat)(xs:List V):Option Nat:=match BY g (xs.take m) with
 |some i=>some i
 |none=>if xs.length=m then none else some (min xs.length m)
inductive Fv(K:qT)(C:qP)(vs:List V)(H:Hp)(Q:VK)(E:XK):Prop
 |m (a:qP) (xs:List V) (g:Int) (m:Nat):vs=[.ref a,.int g,.int ((m:Nat):Int)]->Ai K H a xs->(∀x∈xs,Kd H x)->(match E1 g m xs with|none=>∀H',AH H H'->Q .non H'|some i=>QH C i H E)->Fv K C vs H Q E
inductive JH(K:qT)(C:qP)(vs:List V)(H:Hp)(Q:VK)(E:XK):Prop
 |m (r a:qP) (g lo:Int) (g7:qU) (m:Nat) (xs:List V):vs=[.ref r,.ref a]->2<=g->g<=9->At H r g lo g7->(g7.length:Int)=g^m->Ai K H a xs->(∀x∈xs,Kd H x)->(match E1 g m xs with|none=>∀ns:qU,xs=ns.map V.int->∀H',AH H H'->Q (.int (g7.getD (Ao g ns).toNat 0)) H'|some i=>QH C i H E)->JH K C vs H Q E
theorem Md{m:Nat}(h:E1 g m xs=none):xs.length=m/\BY g xs=none:=by
 unfold E1 at h;cases e:BY g (xs.take m) with
 |some i=>rw[e]at h;cases h
 |none =>
  rw[e]at h
  by_cases z:xs.length=m
  ·refine⟨z,?_⟩;rw[<-z,br]at e;exact e
  ·rw[qC z]at h;cases h
theorem E2{ns:qU}(h:∀n∈ns,0<=n/\n<g):E1 g ns.length (ns.map V.int)=none:=by unfold E1;have e:(ns.map V.int).take ns.length=ns.map V.int:=fP (by rw[a9];exact bD _);rw[e,C0 h,a9];exact qD rfl
noncomputable def DS(x y:V):Bool:=(match x with
 |.int g=>decide (2<=g)&&decide (g<=9)
 |_=>false)&&ME y
theorem Lf{x y:V}(h:DS x y=true):∃g lo:Int,x=.int g/\y=.int lo/\2<=g/\g<=9:=by
 unfold DS at h;cases x with
 |int g =>
  cases y with
  |int lo =>
   simp only[ME,Bool.and_true,Bool.and_eq_true,decide_eq_true_eq]at h;exact⟨g,lo,rfl,rfl,h.1,h.2⟩
  |_=>simp[ME]at h
 |_=>simp at h
theorem KQ(g2:2<=g)(g9:g<=9):DS (.int g) (.int lo)=true:=by show ((decide (2<=g)&&decide (g<=9))&&true)=true;rw[qF g2,qF g9];rfl
inductive N3(C:qP)(vs:List V)(H:Hp)(Q:VK)(E:XK):Prop
 |m (x y:V):vs=[x,y]->Kd H x->Kd H y->(DS x y=true->Q .non H)->(DS x y=false->E (.ref C) none H)->N3 C vs H Q E
def II(H:Hp)(a:qP)(xs:List V):Prop:=H a=some (.lst xs)\/H a=some (.tup xs)
theorem II.same(e:AH H H')(h:II H a xs):II H' a xs:=h.elim (λq=>.inl (e _ _ q)) λq=>.inr (e _ _ q)
theorem II.inj(h:II H a xs)(h':II H a ys):xs=ys:=by
 rcases h with h|h
 ·rcases h' with h'|h'
  ·rw[h]at h';cases h';rfl
  ·rw[h]at h';cases h'
 ·rcases h' with h'|h'
  ·rw[h]at h';cases h'
  ·rw[h]at h';cases h';rfl
theorem II.sq{K:qT}(h:II H a xs):Ai K H a xs\/Am K H a xs:=h.elim (λq=>.inl (Ai.of q)) λq=>.inr (Am.of q)
noncomputable def Fh(H:Hp):V->Prop
 |.ref a=>∃xs,II H a xs/\∀x∈xs,Kd H x
 |.non=>True
 |.str _=>True
 |.int _=>True
 |.bl _=>True
 |_=>False
theorem Fh.same(e:AH H H'):∀{z:V},Fh H z->Fh H' z
 |.ref a,h=>by obtain⟨xs,h1,h2⟩:=h;exact⟨xs,h1.same e,λx hx=>(h2 x hx).same e⟩
 |.non,_=>True.intro
 |.str _,_=>True.intro
 |.int _,_=>True.intro
 |.bl _,_=>True.intro
def PD(g:Int)(xs:List V):Prop:=xs.length<=256/\(∃m:Nat,1<=m/\(xs.length:Int)=g^m)/\BY g xs=none
def IP(H:Hp)(g:Int)(z:V):Prop:=∃a xs,z=.ref a/\II H a xs/\PD g xs
inductive Lg(C:qP)(vs:List V)(H:Hp)(Q:VK)(E:XK):Prop
 |m (g:Int) (z:V):vs=[.int g,z]->2<=g->g<=9->Fh H z->(IP H g z->∀H',AH H H'->Q .non H')->(¬IP H g z->∀H',AH H H'->E (.ref C) none H')->Lg C vs H Q E
def Rk(H:Hp)(x y z:V):Prop:=DS x y=true/\∃g,x=.int g/\IP H g z
inductive E3(C:qP)(vs:List V)(H:Hp)(Q:VK)(E:XK):Prop
 |m (x y z:V):vs=[x,y,z]->Kd H x->Kd H y->Fh H z->(∀(g lo:Int) (g7:qU) (a:qP),x=.int g->y=.int lo->z=.ref a->II H a (g7.map V.int)->2<=g->g<=9->PD g (g7.map V.int)->(∀n∈g7,0<=n/\n<g)->∀r H',AH H H'->At H' r g lo g7->Q (.ref r) H')->(¬Rk H x y z->∀H',AH H H'->E (.ref C) none H')->E3 C vs H Q E
theorem IQ{n:Nat}(h:i<n):Ox n ((i:Nat):Int)=some i:=by unfold Ox;rw[qD (by lia),qD (by lia),bI]
theorem Fw:∀ns:qU,PyData.depthAll (ns.map PyData.int)=0
 |[]=>by simp only[List.map_nil,PyData.depthAll]
 |n::ns=>by simp only[List.map_cons,PyData.depthAll,PyData.depth,Fw ns,Nat.max_self]
def Dv(H H':Hp)(r:qP)(ns:qU):Prop:=AH H H'/\H r=none/\H' r=some (.lst (ns.map V.int))
inductive EF(NS:qP)(vs:List V)(H:Hp)(Q:VK)(E:XK):Prop
 |m (n g m:Int):vs=[.int n,.int g,.int m]->2<=g->g<=9->0<=m->m<=300->((n<0\/g^m.toNat<=n)->∀H',AH H H'->E (.ref NS) none H')->(0<=n->n<g^m.toNat->∀r H',Dv H H' r (RW.C1 g n m.toNat).reverse->Q (.ref r) H')->EF NS vs H Q E
inductive G9(vs:List V)(H:Hp)(Q:VK)(z3_:XK):Prop
 |m (g m:Int):vs=[.int g,.int m]->2<=g->g<=9->1<=m->(g^m.toNat<=256->Q (.int (g^m.toNat)) H)->(256<g^m.toNat->∀r:Int,256<r->Q (.int r) H)->G9 vs H Q z3_
inductive IR(vs:List V)(H:Hp)(Q:VK)(z3_:XK):Prop
 |m (g m:Int):vs=[.int g,.int m]->2<=g->g<=9->0<=m->m<=256->Q (.int (g^m.toNat)) H->IR vs H Q z3_
theorem PH(g n:Int):∀i:Nat,RW.dr g n (i+1)=RW.dr g (n/g) i
 |0=>rfl
 |i+1=>by rw[RW.dr,PH g n i];rfl
theorem Ks(g n:Int):∀i:Nat,RW.C1 g n (i+1)=n%g::RW.C1 g (n/g) i
 |0=>rfl
 |i+1=>by rw[RW.C1,Ks g n i,PH];rfl
theorem Me(hg:2<=g):∀{l:qU},(∀n∈l,0<=n/\n<g)->RW.C1 g (low g l) l.length=l
 |[],_=>rfl
 |x::r,h=>by obtain⟨h0,h1⟩:=h x bf;rw[cK,Ks,low,dP,cE h0 h1,Int.add_mul_ediv_left _ _ (show g≠0 by lia),dO h0 h1,bg,Me hg λn hn=>h n (be _ hn)]
theorem Lh(hg:2<=g)(n:Int):∀i:Nat,∀x∈RW.C1 g n i,0<=x/\x<g
 |0,x,h=>qE h (by simp[RW.C1])
 |i+1,x,h=>by
  rw[RW.C1]at h;rcases bJ.mp h with z|z
  ·exact Lh hg n i x z
  ·rw[bL.mp z];exact⟨dm _ (by lia),dD _ (by lia)⟩
theorem Hm(g n:Int):∀i:Nat,low g (RW.C1 g n i)+g^i*RW.dr g n i=n
 |0=>by rw[RW.C1,low,RW.dr,cN];lia
 |i+1=>by have h:=Hm g n i;have e:=Int.emod_add_mul_ediv (RW.dr g n i) g;rw[RW.C1,Ma,RW.C9,RW.dr,bq,cQ,cH (RW.dr g n i%g),Int.add_assoc,<-Int.mul_add,e];exact h
theorem Rl{n:Int}(hg:2<=g)(hn:0<=n)(h:n<g^i):low g (RW.C1 g n i)=n:=by have e:=Hm g n i;rw[RW.PB hg hn h,bj,dB]at e;exact e
theorem AH.into{p:qP}(e:AH H H1)(hp:H p=none):AH H (Ak H1 p o):=λb u q=>by rw[AJ (As q hp)];exact e b u q
theorem Li(g:Int):∀(n:Int) (l:qU),Nw g n l=n*g^l.length+Ao g l
 |n,[]=>by show n=n*g^0+0;rw[cN];lia
 |n,x::r=>by show Nw g (n*g+x) r=n*g^(r.length+1)+Nw g (0*g+x) r;rw[Li g (n*g+x) r,Li g (0*g+x) r,cT,bg,Int.add_mul,bq,cQ,cH g,Int.add_assoc]
theorem B9(g:Int)(a b:qU):Ao g (a++b)=Ao g a*g^b.length+Ao g b:=by show (a++b).foldl (λm x=>m*g+x) 0=_;rw[fT];exact Li g (Nw g 0 a) b
theorem FN{ns:qU}{m:Nat}(h:k+m<=ns.length):((ns.drop k).take m).length=m:=by rw[b9,cA];lia
theorem Tv(hg:2<=g){ns:qU}(hb:∀n∈ns,0<=n/\n<g){m:Nat}(h:k+m<=ns.length):Ao g (ns.take (k+m))%g^m=Ao g ((ns.drop k).take m):=by
 have b:=BL hg (ns:=(ns.drop k).take m) λn hn=>hb n (cB (cO hn))
 rw[FN h]at b;rw[List.take_add,B9,FN h,dR,cH,dP,cE b.1 b.2]
theorem Rm(N g s G:Int):((N%G)*g+s)%G=(N*g+s)%G:=by rw[eO,Int.mul_emod,Int.emod_emod,<-Int.mul_emod,<-eO]
theorem Br(hg:2<=g)(hb:∀n∈g7,0<=n/\n<g)(k:Nat):0<=g7.getD k 0/\g7.getD k 0<g:=by
 rw[a8];cases e:g7[k]? with
 |none=>exact⟨dU _,by show (0:Int)<g;lia⟩
 |some v=>exact hb v (bE e)
noncomputable def N4(g:Int)(g7:qU)(m:Nat)(ns:qU)(k:Nat):Int:=g7.getD (Ao g ((ns.drop k).take m)).toNat 0
noncomputable def BB(g:Int)(g7:qU)(m:Nat)(ns:qU):qU:=(List.range (ns.length+1-m)).map (N4 g g7 m ns)
theorem Bh(g:Int)(g7:qU)(m:Nat)(ns:qU):(BB g g7 m ns).length=ns.length+1-m:=by unfold BB;rw[List.length_map,List.length_range]
theorem FO(hg:2<=g)(hb:∀n∈g7,0<=n/\n<g)(m:Nat)(ns:qU):∀n∈BB g g7 m ns,0<=n/\n<g:=λn hn=>by unfold BB at hn;obtain⟨k,_,rfl⟩:=bR.mp hn;exact Br hg hb _
theorem Ax(f:Nat->α)(i:Nat):(List.range (i+1)).map f=(List.range i).map f++[f i]:=by rw[b8,bH];rfl
theorem N5(hg:2<=g){ns:qU}(hb:∀n∈ns,0<=n/\n<g){m:Nat}(hl:(g7.length:Int)=g^m)(h:k+m<=ns.length):0<=Ao g ((ns.drop k).take m)/\(Ao g ((ns.drop k).take m)).toNat<g7.length:=by
 have b:=BL hg (ns:=(ns.drop k).take m) λn hn=>hb n (cB (cO hn))
 rw[FN h]at b;exact⟨b.1,by lia⟩
theorem Dl{ns:qU}{z:Int}(h0:0<=z)(h:z.toNat<ns.length):Kk (ns.map V.int) z=some (.int (ns.getD z.toNat 0)):=by have e:=CY (ns:=ns) h;rw[show ((z.toNat:Nat):Int)=z by lia]at e;exact e
inductive JI(K:qT)(vs:List V)(H:Hp)(Q:VK)(z3_:XK):Prop
 |m (r a:qP) (g lo:Int) (g7:qU) (m:Nat) (ns:qU):vs=[.ref r,.ref a]->2<=g->g<=9->At H r g lo g7->(g7.length:Int)=g^m->1<=m->Ai K H a (ns.map V.int)->(∀n∈ns,0<=n/\n<g)->ns.length<=900->(∀p H',Dv H H' p (BB g g7 m ns)->Q (.ref p) H')->JI K vs H Q z3_
inductive Rn(K:qT)(C:qP)(vs:List V)(H:Hp)(Q:VK)(E:XK):Prop
 |m (r a:qP) (g lo:Int) (g7:qU) (m:Nat) (xs:List V):vs=[.ref r,.ref a]->2<=g->g<=9->At H r g lo g7->(g7.length:Int)=g^m->1<=m->Ai K H a xs->(∀x∈xs,Kd H x)->xs.length<=900->(match BY g xs with|none=>∀ns:qU,xs=ns.map V.int->∀p H',Dv H H' p (BB g g7 m ns)->Q (.ref p) H'|some i=>QH C i H E)->Rn K C vs H Q E
noncomputable def Ah(ring:qU)(z:Int):Int:=ring.getD (z%(ring.length:Int)).toNat 0
noncomputable def AZ(ring:qU)(m:Nat)(z:Int):qU:=(List.range m).map λj:Nat=>Ah ring (z+(j:Int))
noncomputable def Al(g lo:Int)(g7:qU)(m:Nat)(ring:qU):qU:=(List.range ring.length).map λi:Nat=>g7.getD (Ao g (AZ ring m ((i:Int)+lo))).toNat 0
theorem A3(g lo:Int)(g7:qU)(m:Nat)(ring:qU):(Al g lo g7 m ring).length=ring.length:=by unfold Al;rw[List.length_map,List.length_range]
theorem Bx(hg:2<=g)(lo:Int)(hb:∀n∈g7,0<=n/\n<g)(m:Nat)(ring:qU):∀n∈Al g lo g7 m ring,0<=n/\n<g:=λn hn=>by unfold Al at hn;obtain⟨k,_,rfl⟩:=bR.mp hn;exact Br hg hb _
theorem Cp(hg:2<=g){ring:qU}(hb:∀n∈ring,0<=n/\n<g)(m:Nat)(z:Int):∀n∈AZ ring m z,0<=n/\n<g:=λn hn=>by unfold AZ at hn;obtain⟨k,_,rfl⟩:=bR.mp hn;exact Br hg hb _
theorem A4(ring:qU)(m:Nat)(z:Int):(AZ ring m z).length=m:=by unfold AZ;rw[List.length_map,List.length_range]
theorem N6(ring:qU)(z y:Int):Ah ring (z%(ring.length:Int)+y)=Ah ring (z+y):=by unfold Ah;rw[Int.emod_add_emod]
noncomputable def GP(lo:Int)(m:Nat)(ring:qU):qU:=(List.range (ring.length+m-1)).map λk:Nat=>Ah ring (lo%(ring.length:Int)+(k:Int))
theorem Ro(hg:2<=g){ring:qU}(hb:∀n∈ring,0<=n/\n<g)(lo:Int)(m:Nat):∀n∈GP lo m ring,0<=n/\n<g:=λn hn=>by unfold GP at hn;obtain⟨k,_,rfl⟩:=bR.mp hn;exact Br hg hb _
theorem Eh(n k m:Nat)(h:k+m<=n):((List.range n).drop k).take m=(List.range m).map (k+·):=by
 apply fS;intro i;rw[List.getElem?_take,bF]
 by_cases hi:i<m
 ·rw[qD hi,List.getElem?_drop,cV (by lia),cV hi];rfl
 ·rw[qC hi,bh (by rw[bO];lia)];rfl
theorem QK(lo:Int){m:Nat}(ring:qU)(h:i<ring.length)(hm:1<=m):((GP lo m ring).drop i).take m=AZ ring m ((i:Int)+lo):=by
 unfold GP AZ;rw[<-List.map_drop,<-fj,Eh _ _ _ (by lia),cp];refine bZ λj _=>?_;show Ah ring (lo%(ring.length:Int)+((i+j:Nat):Int))=_;rw[N6]
 congr 1
 lia
theorem QL(g lo:Int)(g7:qU){m:Nat}(ring:qU)(hm:1<=m):BB g g7 m (GP lo m ring)=Al g lo g7 m ring:=by
 unfold BB Al
 have e:(GP lo m ring).length+1-m=ring.length:=by unfold GP;rw[List.length_map,List.length_range];lia
 rw[e];refine bZ λi hi=>?_;have:=bW.mp hi;unfold N4;rw[QK lo ring this hm]
noncomputable def JJ(g lo:Int)(g7:qU)(m:Nat)(ring:qU):Nat->qU
 |0=>ring
 |n+1=>Al g lo g7 m (JJ g lo g7 m ring n)
theorem HD(g lo:Int)(g7:qU)(m:Nat)(ring:qU):∀n,(JJ g lo g7 m ring n).length=ring.length
 |0=>rfl
 |n+1=>by rw[JJ,A3,HD g lo g7 m ring n]
theorem Rp(hg:2<=g)(lo:Int)(hb:∀n∈g7,0<=n/\n<g)(m:Nat){ring:qU}(hr:∀n∈ring,0<=n/\n<g):∀k,∀n∈JJ g lo g7 m ring k,0<=n/\n<g
 |0=>hr
 |k+1=>Bx hg lo hb m _
inductive EG(K:qT)(vs:List V)(H:Hp)(Q:VK)(z3_:XK):Prop
 |m (r a:qP) (g lo:Int) (g7:qU) (m:Nat) (ns:qU):vs=[.ref r,.ref a]->2<=g->g<=9->At H r g lo g7->(g7.length:Int)=g^m->1<=m->m<=8->Ai K H a (ns.map V.int)->(∀n∈ns,0<=n/\n<g)->1<=ns.length->ns.length<=800->(∀p H',Dv H H' p (Al g lo g7 m ns)->Q (.ref p) H')->EG K vs H Q z3_
noncomputable def CA(g:Int)(m:Nat)(xs:List V):Option Nat:=match BY g xs with
 |some i=>some i
 |none=>if xs.length<m then some xs.length else none
inductive EH(K:qT)(C:qP)(vs:List V)(H:Hp)(Q:VK)(E:XK):Prop
 |m (a:qP) (xs:List V) (g:Int) (m:Nat):vs=[.ref a,.int g,.int ((m:Nat):Int)]->Ai K H a xs->(∀x∈xs,Kd H x)->(match CA g m xs with|none=>∀H',AH H H'->Q .non H'|some i=>QH C i H E)->EH K C vs H Q E
theorem KR{m:Nat}{ns:qU}(h:∀n∈ns,0<=n/\n<g)(hm:m<=ns.length):CA g m (ns.map V.int)=none:=by unfold CA;rw[C0 h,a9];exact qC (by lia)
theorem Mf{m:Nat}(h:BY g xs=some i):CA g m xs=some i:=by unfold CA;rw[h]
theorem KS{m:Nat}(h:CA g m xs=none):BY g xs=none/\m<=xs.length:=by
 unfold CA at h;cases e:BY g xs with
 |some i=>rw[e]at h;cases h
 |none =>
  rw[e]at h;refine⟨rfl,?_⟩
  by_cases z:xs.length<m
  ·exact qE h (by show ¬(if xs.length<m then some xs.length else none)=none;rw[qD z];intro y;cases y)
  ·lia
inductive Lj(K:qT)(C:qP)(vs:List V)(H:Hp)(Q:VK)(E:XK):Prop
 |m (r a:qP) (g lo:Int) (g7:qU) (m:Nat) (xs:List V) (t:Nat):vs=[.ref r,.ref a,.int ((t:Nat):Int)]->2<=g->g<=9->At H r g lo g7->(g7.length:Int)=g^m->1<=m->m<=8->(∀n∈g7,0<=n/\n<g)->Ai K H a xs->(∀x∈xs,Kd H x)->xs.length<=800->t<=5000->(match CA g 1 xs with|none=>∀ns:qU,xs=ns.map V.int->∀p H',Dv H H' p (JJ g lo g7 m ns t)->Q (.ref p) H'|some i=>QH C i H E)->Lj K C vs H Q E
inductive FP(K:qT)(C:qP)(vs:List V)(H:Hp)(Q:VK)(E:XK):Prop
 |m (r a:qP) (g lo:Int) (g7:qU) (m:Nat) (xs:List V):vs=[.ref r,.ref a]->2<=g->g<=9->At H r g lo g7->(g7.length:Int)=g^m->1<=m->m<=8->(∀n∈g7,0<=n/\n<g)->Ai K H a xs->(∀x∈xs,Kd H x)->xs.length<=800->(match CA g 1 xs with|none=>∀ns:qU,xs=ns.map V.int->∀p H',Dv H H' p (Al g lo g7 m ns)->Q (.ref p) H'|some i=>QH C i H E)->FP K C vs H Q E
noncomputable def Ad(g n:Int)(m:Nat):qU:=(RW.C1 g n m).reverse
theorem Au(g n:Int)(m:Nat):(Ad g n m).length=m:=by unfold Ad;rw[List.length_reverse,RW.C9]
theorem BQ(hg:2<=g)(n:Int)(m:Nat):∀x∈Ad g n m,0<=x/\x<g:=λx hx=>Lh hg n m x (List.mem_reverse.mp hx)
theorem C3{n:Int}(hg:2<=g)(h0:0<=n){m:Nat}(h:n<g^m):Ao g (Ad g n m)=n:=by unfold Ad;rw[Le,Rl hg h0 h]
variable{ws:qU}
theorem CF(hg:2<=g)(hb:∀x∈ws,0<=x/\x<g):Ad g (Ao g ws) ws.length=ws:=by
 unfold Ad;have e:=Me hg (l:=ws.reverse) λn hn=>hb n (List.mem_reverse.mp hn)
 rw[c6]at e;rw[O6,e,eW]
theorem Rq(hg:2<=g)(hb:∀x∈ws,0<=x/\x<g){m:Nat}(hl:ws.length=m):RW.C1 g (Ao g ws) m=ws.reverse:=by have e:=CF hg hb;unfold Ad at e;rw[<-hl,<-e,eW,e]
noncomputable def DT(g:Int)(g7:qU)(m:Nat):qU:=(List.range g7.length).map λk:Nat=>g7.getD (Ao g (RW.C1 g (k:Int) m)).toNat 0
theorem Kt(g:Int)(g7:qU)(m:Nat):(DT g g7 m).length=g7.length:=by unfold DT;rw[List.length_map,List.length_range]
theorem JK(hg:2<=g)(hb:∀n∈g7,0<=n/\n<g)(m:Nat):∀n∈DT g g7 m,0<=n/\n<g:=λn hn=>by unfold DT at hn;obtain⟨k,_,rfl⟩:=bR.mp hn;exact Br hg hb _
theorem AS{f:Nat->Int}{n:Nat}(h:k<n):((List.range n).map f).getD k 0=f k:=by rw[a8,bF,cV h];rfl
theorem N7(hg:2<=g){m:Nat}(hl:(g7.length:Int)=g^m)(hb:∀x∈ws,0<=x/\x<g)(hw:ws.length=m):(DT g g7 m).getD (Ao g ws).toNat 0=g7.getD (Ao g ws.reverse).toNat 0:=by have b:=BL hg hb;rw[hw]at b;unfold DT;rw[AS (by lia),show (((Ao g ws).toNat:Nat):Int)=Ao g ws by lia,Rq hg hb hw]
theorem Aq{a b:qU}(hl:a.length=b.length)(h:∀k,k<a.length->a.getD k 0=b.getD k 0):a=b:=by apply List.ext_getElem hl;intro i h1 h2;have:=h i h1;rw[a8,a8,bA h1,bA h2]at this;exact this
noncomputable def Bi(ring:qU):qU:=(List.range ring.length).map λi:Nat=>Ah ring (0-(i:Int))
theorem Bb(ring:qU):(Bi ring).length=ring.length:=by unfold Bi;rw[List.length_map,List.length_range]
theorem GQ(hg:2<=g){ring:qU}(hb:∀n∈ring,0<=n/\n<g):∀n∈Bi ring,0<=n/\n<g:=λn hn=>by unfold Bi at hn;obtain⟨k,_,rfl⟩:=bR.mp hn;exact Br hg hb _
theorem IS{z:Int}{n:Nat}(h:1<=n):(z%(n:Int)).toNat<n/\(((z%(n:Int)).toNat:Nat):Int)=z%(n:Int):=by have h1:=dm z (show (n:Int)≠0 by lia);have h2:=dD z (show 0<(n:Int) by lia);exact⟨by lia,by lia⟩
theorem Cq{ring:qU}{y z:Int}(h:y%(ring.length:Int)=z%(ring.length:Int)):Ah ring y=Ah ring z:=by unfold Ah;rw[h]
theorem JL{f:Nat->Int}{n:Nat}(h:1<=n)(z:Int):Ah ((List.range n).map f) z=f (z%(n:Int)).toNat:=by unfold Ah;rw[a9,bO,AS (IS h).1]
theorem Mg{ring:qU}(h:1<=ring.length)(z:Int):Ah (Bi ring) z=Ah ring (0-z):=by unfold Bi;rw[JL h,(IS h).2];apply Cq;rw[Int.sub_emod,Int.emod_emod,<-Int.sub_emod]
theorem Mh{ring:qU}{m:Nat}{y z:Int}(h:y%(ring.length:Int)=z%(ring.length:Int)):AZ ring m y=AZ ring m z:=by
 unfold AZ;refine bZ λj _=>Cq ?_
 rw[eO,h,<-eO]
theorem GR{m:Nat}{ring:qU}(h:1<=ring.length)(z:Int):Ah (Al g lo g7 m ring) z=g7.getD (Ao g (AZ ring m (z+lo))).toNat 0:=by
 unfold Al;rw[JL h,(IS h).2]
 congr 3
 apply Mh;rw[eO,Int.emod_emod,<-eO]
theorem JM{ring:qU}(h:1<=ring.length)(m:Nat)(z:Int):(AZ (Bi ring) m z).reverse=AZ ring m (1-z-(m:Int)):=by
 apply fS;intro j
 by_cases hj:j<m
 ·rw[eK (by rw[A4];exact hj),A4];unfold AZ;rw[bF,cV (by lia),bF,cV hj];show some (Ah (Bi ring) (z+((m-1-j:Nat):Int)))=some (Ah ring (1-z-(m:Int)+(j:Int)));rw[Mg h]
  congr 2
  lia
 ·rw[bh (by rw[c6,A4];lia),bh (by rw[A4];lia)]
theorem JN(hg:2<=g){m:Nat}(hl:(g7.length:Int)=g^m){ring:qU}(hb:∀n∈ring,0<=n/\n<g)(h:1<=ring.length):Al g (1-lo-(m:Int)) (DT g g7 m) m (Bi ring)=Bi (Al g lo g7 m ring):=by
 refine Aq (by rw[A3,Bb,Bb,A3]) λk hk=>?_;rw[A3,Bb]at hk
 have e1:(Bi (Al g lo g7 m ring)).getD k 0=Ah (Al g lo g7 m ring) (0-(k:Int)):=by unfold Bi;rw[AS (by rw[A3];exact hk)]
 have e2:(Al g (1-lo-(m:Int)) (DT g g7 m) m (Bi ring)).getD k 0=(DT g g7 m).getD (Ao g (AZ (Bi ring) m ((k:Int)+(1-lo-(m:Int))))).toNat 0:=by unfold Al;rw[AS (by rw[Bb];exact hk)]
 rw[e1,e2,N7 hg hl (Cp hg (GQ hg hb) m _) (A4 _ _ _),JM h,GR h]
 congr 4
 lia
inductive Lk(vs:List V)(H:Hp)(Q:VK)(z3_:XK):Prop
 |m (n g m:Int):vs=[.int n,.int g,.int m]->2<=g->g<=9->0<=m->m<=100->(∀p H',Dv H H' p (Ad g n m.toNat)->Q (.ref p) H')->Lk vs H Q z3_
noncomputable def Ce(g:Int)(g7:qU)(w:Int):Bool:=(List.range g7.length).any λk:Nat=>!decide (g7.getD k 0=g7.getD ((k:Int)-(k:Int)/w%g*w).toNat 0)
noncomputable def Bp(g lo:Int)(g7:qU)(m:Nat):qU:=((List.range m).filter λj=>Ce g g7 (g^(m-1-j))).map λj:Nat=>lo+(j:Int)
inductive JO(vs:List V)(H:Hp)(Q:VK)(z3_:XK):Prop
 |m (r:qP) (g lo:Int) (g7:qU) (w:Int):vs=[.ref r,.int w]->2<=g->g<=9->At H r g lo g7->0<w->w<=1000->g7.length<=256->(∀H',AH H H'->Q (.bl (Ce g g7 w)) H')->JO vs H Q z3_
inductive EI(vs:List V)(H:Hp)(Q:VK)(z3_:XK):Prop
 |m (r:qP) (g lo:Int) (g7:qU) (m:Nat):vs=[.ref r]->2<=g->g<=9->At H r g lo g7->(g7.length:Int)=g^m->1<=m->m<=8->g^m<=256->(∀p H',Dv H H' p (Bp g lo g7 m)->Q (.ref p) H')->EI vs H Q z3_
theorem Vn{k w:Int}(hk:0<=k)(hw:0<w)(hg:2<=g):0<=k-k/w%g*w/\k-k/w%g*w<=k:=by
 have h1:=dm (k/w) (show g≠0 by lia);have h2:=Int.ediv_nonneg hk (cn hw)
 have h3:k/w%g<=k/w:=by
  by_cases z:k/w<g
  ·rw[cE h2 z];lia
  ·have:=dD (k/w) (show 0<g by lia);lia
 have h4:=Int.mul_le_mul_of_nonneg_right h3 (cn hw);have h5:=Int.mul_nonneg h1 (cn hw);have h6:=Int.ediv_mul_le k (show w≠0 by lia);exact⟨by lia,by lia⟩
end L2
namespace L2
variable{g lo:Int}{i j k:Nat}{g7:qU}
theorem Tw(g x:Int):Ao g [x]=x:=by show 0*g+x=x;rw[cT,bg]
theorem HE(g:Int)(a:qU)(x:Int)(b:qU):Ao g (a++x::b)=(Ao g a*g+x)*g^b.length+Ao g b:=by rw[show a++x::b=(a++[x])++b by rw[dj];rfl,B9,Et]
theorem QM(hg:2<=g){a b:qU}{x:Int}(hb:∀n∈b,0<=n/\n<g)(hx:0<=x/\x<g):Ao g (a++x::b)/g^b.length%g=x:=by have b1:=BL hg hb;have gp:=RW.Aa hg b.length;rw[HE,dR,cH,Int.add_mul_ediv_left _ _ (by lia),dO b1.1 b1.2,bg,dR,cH,dP,cE hx.1 hx.2]
theorem Mi{w:qU}(h:j<w.length):w=w.take j++w.getD j 0::w.drop (j+1):=by rw[a8,bA h];show w=w.take j++w[j]::w.drop (j+1);rw[<-c7 h,dQ]
theorem QN{w:qU}(h:j<w.length)(v:Int):w.set j v=w.take j++v::w.drop (j+1):=List.set_eq_take_append_cons_drop▸qD h
theorem EJ(hg:2<=g){w:qU}(hb:∀n∈w,0<=n/\n<g)(h:j<w.length):Ao g w/g^(w.length-1-j)%g=w.getD j 0:=by
 have hl:(w.drop (j+1)).length=w.length-1-j:=by rw[cA];lia
 have e:=QM hg (a:=w.take j) (b:=w.drop (j+1)) (x:=w.getD j 0) (λn hn=>hb n (cB hn)) (Br hg hb j);rw[<-Mi h,hl]at e;exact e
theorem JP(hg:2<=g){w:qU}(hb:∀n∈w,0<=n/\n<g)(h:j<w.length):Ao g w-Ao g w/g^(w.length-1-j)%g*g^(w.length-1-j)=Ao g (w.set j 0):=by
 rw[EJ hg hb h,QN h];have hl:(w.drop (j+1)).length=w.length-1-j:=by rw[cA];lia
 have e:=HE g (w.take j) (w.getD j 0) (w.drop (j+1));rw[<-Mi h]at e;rw[e,HE,hl,Int.add_mul,dB];lia
theorem N8{w:Int}(h:Ce g g7 w=false)(hk:k<g7.length):g7.getD k 0=g7.getD ((k:Int)-(k:Int)/w%g*w).toNat 0:=by unfold Ce at h;rw[List.any_eq_false]at h;have:=h k (bW.mpr hk);simpa using this
theorem N9(hg:2<=g){m:Nat}(hl:(g7.length:Int)=g^m){w:qU}(hb:∀n∈w,0<=n/\n<g)(hw:w.length=m)(hj:j<m)(hc:Ce g g7 (g^(m-1-j))=false):g7.getD (Ao g w).toNat 0=g7.getD (Ao g (w.set j 0)).toNat 0:=by have b:=BL hg hb;rw[hw]at b;have e:=N8 hc (k:=(Ao g w).toNat) (by lia);have n0:=JP hg hb (j:=j) (by lia);rw[hw]at n0;rw[show (((Ao g w).toNat:Nat):Int)=Ao g w by lia,n0]at e;exact e
noncomputable def zk(keep:Nat->Bool)(w:qU)(k:Nat):qU:=(List.range w.length).map λj=>if j<k/\keep j=false then 0 else w.getD j 0
theorem C4(keep:Nat->Bool)(w:qU)(k:Nat):(zk keep w k).length=w.length:=by unfold zk;rw[List.length_map,List.length_range]
theorem Fx(keep:Nat->Bool)(w:qU)(k:Nat)(h:j<w.length):(zk keep w k).getD j 0=if j<k/\keep j=false then 0 else w.getD j 0:=by unfold zk;exact AS h
theorem Tx(keep:Nat->Bool)(w:qU):zk keep w 0=w:=by refine Aq (C4 keep w 0) λj hj=>?_;rw[C4]at hj;rw[Fx keep w 0 hj,qC (by lia)]
theorem X6(hg:2<=g){keep:Nat->Bool}{w:qU}(hb:∀n∈w,0<=n/\n<g)(k:Nat):∀n∈zk keep w k,0<=n/\n<g:=λn hn=>by
 unfold zk at hn;obtain⟨j,_,e⟩:=bR.mp hn;subst e;split
 ·exact⟨dU _,by lia⟩
 ·exact Br hg hb _
theorem Mk{w:qU}{v:Int}(h:i<w.length):(w.set i v).getD j 0=if i=j then v else w.getD j 0:=by
 rw[a8,List.getElem?_set]
 by_cases e:i=j
 ·rw[qD e,qD e];subst e;rw[qD h];rfl
 ·rw[qC e,qC e,a8]
theorem Tz(keep:Nat->Bool)(w:qU)(hk:k<w.length):zk keep w (k+1)=if keep k=false then (zk keep w k).set k 0 else zk keep w k:=by
 by_cases e:keep k=false
 ·rw[qD e];refine Aq (by rw[fI,C4,C4]) λj hj=>?_;rw[C4]at hj;rw[Fx keep w _ hj,Mk (by rw[C4];exact hk),Fx keep w _ hj]
  by_cases z:k=j
  ·subst z;rw[qD ⟨by lia,e⟩,qD rfl]
  ·rw[qC z]
   by_cases y:j<k/\keep j=false
   ·rw[qD y,qD ⟨by lia,y.2⟩]
   ·rw[qC y,qC (λx=>y ⟨by lia,x.2⟩)]
 ·rw[qC e];refine Aq (by rw[C4,C4]) λj hj=>?_;rw[C4]at hj;rw[Fx keep w _ hj,Fx keep w _ hj]
  by_cases y:j<k/\keep j=false
  ·rw[qD y,qD ⟨by lia,y.2⟩]
  ·rw[qC y,qC (λx=>y ⟨Nat.lt_of_le_of_ne (by lia) (λz=>e (z▸x.2)),x.2⟩)]
theorem IT(hg:2<=g){m:Nat}(hl:(g7.length:Int)=g^m){keep:Nat->Bool}(hc:∀j,j<m->keep j=false->Ce g g7 (g^(m-1-j))=false){w:qU}(hb:∀n∈w,0<=n/\n<g)(hw:w.length=m):∀k,k<=m->g7.getD (Ao g (zk keep w k)).toNat 0=g7.getD (Ao g w).toNat 0
 |0,_=>by rw[Tx]
 |k+1,h=>by
  rw[Tz keep w (by lia)]
  by_cases e:keep k=false
  ·rw[qD e,<-N9 hg hl (X6 hg hb k) (by rw[C4,hw]) (by lia) (hc k (by lia) e)];exact IT hg hl hc hb hw k (by lia)
  ·rw[qC e];exact IT hg hl hc hb hw k (by lia)
theorem OA(hg:2<=g){m:Nat}(hl:(g7.length:Int)=g^m){v w:qU}(hv:∀n∈v,0<=n/\n<g)(hw:∀n∈w,0<=n/\n<g)(lv:v.length=m)(lw:w.length=m)
  (h:∀j,j<m->Ce g g7 (g^(m-1-j))=true->v.getD j 0=w.getD j 0):g7.getD (Ao g v).toNat 0=g7.getD (Ao g w).toNat 0:=by
 have key:∀j,j<m->(λj=>Ce g g7 (g^(m-1-j))) j=false->Ce g g7 (g^(m-1-j))=false:=λj _ e=>e
 rw[<-IT hg hl key hv lv m (bD _),<-IT hg hl key hw lw m (bD _)]
 congr 3
 refine Aq (by rw[C4,C4,lv,lw]) λj hj=>?_;rw[C4,lv]at hj;rw[Fx _ _ _ (by lia),Fx _ _ _ (by lia)]
 by_cases e:j<m/\Ce g g7 (g^(m-1-j))=false
 ·rw[qD e,qD e]
 ·rw[qC e,qC e];refine h j hj ?_;cases z:Ce g g7 (g^(m-1-j)) with
  |true=>rfl
  |false=>exact qE ⟨hj,z⟩ e
noncomputable def sn(v:qU)(z:Int):Int:=if z<0\/(v.length:Int)<=z then 0 else v.getD z.toNat 0
theorem Uv(hg:2<=g){v:qU}(hb:∀n∈v,0<=n/\n<g)(z:Int):0<=sn v z/\sn v z<g:=by
 unfold sn;split
 ·exact⟨dU _,by lia⟩
 ·exact Br hg hb _
theorem Rr{v:qU}(h:j<v.length):sn v ((j:Nat):Int)=v.getD j 0:=by unfold sn;rw[qC (by lia),bI]
noncomputable def PJ(v:qU)(d:Int)(m:Nat):qU:=(List.range m).map λj:Nat=>sn v (d+(j:Int))
theorem IU(v:qU)(d:Int)(m:Nat):(PJ v d m).length=m:=by unfold PJ;rw[List.length_map,List.length_range]
theorem Rt(hg:2<=g){v:qU}(hb:∀n∈v,0<=n/\n<g)(d:Int)(m:Nat):∀n∈PJ v d m,0<=n/\n<g:=λn hn=>by unfold PJ at hn;obtain⟨j,_,e⟩:=bR.mp hn;subst e;exact Uv hg hb _
theorem PK(v:qU)(d:Int){m:Nat}(h:j<m):(PJ v d m).getD j 0=sn v (d+(j:Int)):=by unfold PJ;exact AS h
theorem Ru(v:qU):PJ v 0 v.length=v:=by refine Aq (IU _ _ _) λj hj=>?_;rw[IU]at hj;rw[PK v 0 hj,bg,Rr hj]
noncomputable def EK(g lo:Int)(g7:qU)(m:Nat)(low:Int)(M:Nat):qU:=(List.range (g^M).toNat).map λn:Nat=>g7.getD (Ao g (PJ (Ad g (n:Int) M) (lo-low) m)).toNat 0
theorem Bs(hg:2<=g)(lo:Int)(g7:qU)(m:Nat)(low:Int)(M:Nat):((EK g lo g7 m low M).length:Int)=g^M:=by unfold EK;rw[a9,bO,bN (cn (RW.Aa hg M))]
theorem Rv(hg:2<=g)(lo:Int)(hb:∀n∈g7,0<=n/\n<g)(m:Nat)(low:Int)(M:Nat):∀n∈EK g lo g7 m low M,0<=n/\n<g:=λn hn=>by unfold EK at hn;obtain⟨j,_,e⟩:=bR.mp hn;subst e;exact Br hg hb _
theorem Rw(hg:2<=g)(lo:Int)(g7:qU)(m:Nat)(low:Int){v:qU}(hb:∀n∈v,0<=n/\n<g):(EK g lo g7 m low v.length).getD (Ao g v).toNat 0=g7.getD (Ao g (PJ v (lo-low) m)).toNat 0:=by have b:=BL hg hb;unfold EK;rw[AS (by lia),show (((Ao g v).toNat:Nat):Int)=Ao g v by lia,CF hg hb]
theorem PL(hg:2<=g){m:Nat}(h:(k:Int)<g^m):∃w:qU,w.length=m/\(∀n∈w,0<=n/\n<g)/\Ao g w=(k:Int):=⟨Ad g (k:Int) m,Au _ _ _,BQ hg _ _,C3 hg (by lia) h⟩
theorem Vo(hg:2<=g){a b:qU}{m:Nat}(la:(a.length:Int)=g^m)(lb:(b.length:Int)=g^m)(h:∀w:qU,w.length=m->(∀n∈w,0<=n/\n<g)->a.getD (Ao g w).toNat 0=b.getD (Ao g w).toNat 0):a=b:=by refine Aq (by lia) λk hk=>?_;obtain⟨w,h1,h2,h3⟩:=PL hg (m:=m) (k:=k) (by lia);have:=h w h1 h2;rw[h3,bI]at this;exact this
theorem OB{m:Nat}{z:Int}:z∈Bp g lo g7 m↔∃j:Nat,j<m/\Ce g g7 (g^(m-1-j))=true/\z=lo+(j:Int):=by
 unfold Bp;constructor
 ·intro h;obtain⟨j,hj,e⟩:=bR.mp h;obtain⟨h1,h2⟩:=bv.mp hj;exact⟨j,bW.mp h1,h2,e.symm⟩
 ·rintro⟨j,hj,hc,rfl⟩;exact bR.mpr ⟨j,bv.mpr ⟨bW.mpr hj,hc⟩,rfl⟩
theorem HI{w:Int}:Ce g g7 w=true↔∃k:Nat,k<g7.length/\g7.getD k 0≠g7.getD ((k:Int)-(k:Int)/w%g*w).toNat 0:=by
 unfold Ce;rw[fb];constructor
 ·rintro⟨k,hk,h⟩;exact⟨k,List.mem_range.mp hk,by simpa using h⟩
 ·rintro⟨k,hk,h⟩;exact⟨k,List.mem_range.mpr hk,by simpa using h⟩
theorem OC(hg:2<=g){m:Nat}(hl:(g7.length:Int)=g^m)(hj:j<m):Ce g g7 (g^(m-1-j))=true↔∃w:qU,w.length=m/\(∀n∈w,0<=n/\n<g)/\g7.getD (Ao g w).toNat 0≠g7.getD (Ao g (w.set j 0)).toNat 0:=by
 rw[HI];constructor
 ·rintro⟨k,hk,h⟩;refine byG λGq hGq=>?_;obtain⟨w,h1,h2,h3⟩:=PL hg (m:=m) (k:=k) (by lia);refine hGq ?_;clear hGq Gq;refine⟨w,h1,h2,?_⟩;have n0:=JP hg h2 (j:=j) (by lia);rw[h1,h3]at n0;rw[<-n0,h3,bI];exact h
 ·intro hRq;refine byG λGq hGq=>?_;obtain⟨w,h1,h2,h⟩:=hRq;refine hGq ?_;clear hGq Gq;have b:=BL hg h2;rw[h1]at b;refine⟨(Ao g w).toNat,by lia,?_⟩;have n0:=JP hg h2 (j:=j) (by lia);rw[h1]at n0;rw[show (((Ao g w).toNat:Nat):Int)=Ao g w by lia,n0];exact h
structure Da(g lo:Int)(g7:qU)(m:Nat)(low:Int)(M:Nat):Prop where
 one:1<=M
 all:∀j,j<m->Ce g g7 (g^(m-1-j))=true->low<=lo+(j:Int)/\lo+(j:Int)<low+(M:Int)
 ends:((∀j,j<m->Ce g g7 (g^(m-1-j))=false)/\low=0/\M=1)\/∃j0 j1:Nat,j0<=j1/\j1<m/\low=lo+(j0:Int)/\M=j1-j0+1/\Ce g g7 (g^(m-1-j0))=true/\Ce g g7 (g^(m-1-j1))=true
theorem KU(p:Nat->Bool)(n:Nat):((List.range n).filter p).Pairwise (·<·):=List.Pairwise.filter p List.pairwise_lt_range
theorem OD:∀{l:List Nat},l.Pairwise (·<·)->∀x∈l,l.getD 0 0<=x
 |[],_,x,h=>qE h (by simp)
 |a::r,hp,x,h=>by
  rcases bi.mp h with z|z
  ·rw[z];exact bD _
  ·exact dq ((List.pairwise_cons.mp hp).1 x z)
theorem HJ:∀{l:List Nat},l.Pairwise (·<·)->∀x∈l,x<=l.getD (l.length-1) 0
 |[],_,x,h=>qE h (by simp)
 |[a],_,x,h=>by rw[bL.mp h];exact bD _
 |a::b::r,hp,x,h=>by
  have ih:=HJ (l:=b::r) (List.pairwise_cons.mp hp).2;have e:(a::b::r).getD ((a::b::r).length-1) 0=(b::r).getD ((b::r).length-1) 0:=rfl;rw[e];rcases bi.mp h with z|z
  ·rw[z];exact cF (dq ((List.pairwise_cons.mp hp).1 b bf)) (ih b bf)
  ·exact ih x z
theorem JQ:∀{l:List Nat} {k:Nat},k<l.length->l.getD k 0∈l:=λ{l k} h=>by rw[a8,bA h];exact b7 h
theorem Ho{f:Nat->Int}{l:List Nat}(h:k<l.length):(l.map f).getD k 0=f (l.getD k 0):=by rw[a8,bF,bA h,a8,bA h];rfl
theorem Ml{m:Nat}(h:Bp g lo g7 m=[]):Da g lo g7 m 0 1:=by
 have f:∀j,j<m->Ce g g7 (g^(m-1-j))=false:=λj hj=>by
  cases z:Ce g g7 (g^(m-1-j)) with
  |false=>rfl
  |true=>exact qE (OB.mpr ⟨j,hj,z,rfl⟩) (by rw[h];simp)
 exact⟨bD _,λj hj hc=>qE hc (by rw[f j hj];decide),.inl ⟨f,rfl,rfl⟩⟩
theorem Ku{m:Nat}(h:Bp g lo g7 m≠[]):∃M:Nat,(M:Int)=(Bp g lo g7 m).getD ((Bp g lo g7 m).length-1) 0-(Bp g lo g7 m).getD 0 0+1/\M<=m/\Da g lo g7 m ((Bp g lo g7 m).getD 0 0) M:=by
 unfold Bp at h⊢;generalize hl:((List.range m).filter λj=>Ce g g7 (g^(m-1-j)))=l at h⊢
 have hne:0<l.length:=by
  cases l with
  |nil=>exact qE rfl h
  |cons a r=>simp
 have hm:∀j,j∈l↔j<m/\Ce g g7 (g^(m-1-j))=true:=λj=>by rw[<-hl,bv,bW]
 have hp:l.Pairwise (·<·):=by rw[<-hl];exact KU _ _
 rw[a9,Ho (show l.length-1<l.length by lia),Ho hne];have m0:=(hm _).mp (JQ hne);have m1:=(hm _).mp (JQ (show l.length-1<l.length by lia));have le:=HJ hp _ (JQ hne);refine⟨l.getD (l.length-1) 0-l.getD 0 0+1,by lia,by lia,⟨by lia,λj hj hc=>?_,.inr ⟨l.getD 0 0,l.getD (l.length-1) 0,le,m1.1,rfl,rfl,m0.2,m1.2⟩⟩⟩;have a1:=OD hp j ((hm j).mpr ⟨hj,hc⟩);have a2:=HJ hp j ((hm j).mpr ⟨hj,hc⟩);lia
variable{low':Int}{M':Nat}
theorem Da.uniq{m:Nat}{low:Int}{M:Nat}(h:Da g lo g7 m low M)(h':Da g lo g7 m low' M'):low=low'/\M=M':=by
 rcases h.ends with⟨f,e1,e2⟩|⟨j0,j1,le,lt,e1,e2,c0,c1⟩
 ·rcases h'.ends with⟨f',e1',e2'⟩|⟨j0',j1',le',lt',e1',e2',c0',c1'⟩
  ·exact⟨by lia,by lia⟩
  ·rw[f j1' lt']at c1';cases c1'
 ·rcases h'.ends with⟨f',e1',e2'⟩|⟨j0',j1',le',lt',e1',e2',c0',c1'⟩
  ·rw[f' j1 lt]at c1;cases c1
  ·have a:=h.all j0' (by lia) c0';have b:=h.all j1' lt' c1';have c:=h'.all j0 (by lia) c0;have d:=h'.all j1 lt c1;exact⟨by lia,by lia⟩
end L2
namespace L2
variable{g:Int}{j:Nat}{g7:qU}
noncomputable def Ae(n:Nat)(f:Nat->Int):Int:=((List.range n).map f).sum
theorem A8(f:Nat->Int):Ae 0 f=0:=rfl
theorem AX(n:Nat)(f:Nat->Int):Ae (n+1) f=Ae n f+f n:=by unfold Ae;rw[b8,bH,fk];show _+([f n]:qU).sum=_;rw[fJ,List.sum_nil,dB]
theorem AT{n:Nat}{f g:Nat->Int}(h:∀k,k<n->f k=g k):Ae n f=Ae n g:=by unfold Ae;rw[bZ λk hk=>h k (bW.mp hk)]
theorem GS(n:Nat)(f g:Nat->Int):Ae n (λk=>f k+g k)=Ae n f+Ae n g:=by
 induction n with
 |zero=>rfl
 |succ n ih=>rw[AX,AX,AX,ih];lia
theorem DU(n:Nat)(f:Nat->Int)(c:Int):Ae n (λk=>f k*c)=Ae n f*c:=by
 induction n with
 |zero=>rw[A8,A8,cT]
 |succ n ih=>rw[AX,AX,ih,Int.add_mul]
theorem BC(n:Nat)(c:Int):Ae n (λ_=>c)=(n:Int)*c:=by
 induction n with
 |zero=>rw[A8];simp
 |succ n ih=>rw[AX,ih,Int.natCast_add,Int.add_mul];simp
theorem Hq{n:Nat}{f:Nat->Int}(h:∀k,k<n->0<=f k):0<=Ae n f:=by
 induction n with
 |zero=>exact dU _
 |succ n ih =>
  rw[AX];have h1:=ih λk hk=>h k (cw hk)
  have h2:=h n (cq n);lia
theorem T0{n:Nat}{f:Nat->Int}(h:∀k,k<n->0<=f k)(hj:j<n):f j<=Ae n f:=by
 induction n with
 |zero=>exact qE hj (ce _)
 |succ n ih =>
  rw[AX]
  by_cases e:j=n
  ·subst e;have h1:=Hq (n:=j) (f:=f) λk hk=>h k (cw hk)
   lia
  ·have h1:=ih (λk hk=>h k (cw hk)) (by lia);have h2:=h n (cq n);lia
theorem FQ(a b:Nat)(f:Nat->Nat->Int):Ae a (λi=>Ae b (λj=>f i j))=Ae b (λj=>Ae a (λi=>f i j)):=by
 induction a with
 |zero =>
  rw[A8];have:Ae b (λ_=>(0:Int))=0:=by rw[BC,bj]
  exact this.symm
 |succ a ih =>
  rw[AX,ih,<-GS];exact AT λj _=>(AX a _).symm
theorem Bu(a b:Nat)(f:Nat->Int):Ae (a+b) f=Ae a f+Ae b (λk=>f (a+k)):=by
 induction b with
 |zero=>rw[A8,dB];rfl
 |succ b ih=>rw[<-Nat.add_assoc,AX,AX,ih,Int.add_assoc]
noncomputable def F9(p:Bool)(x:Int):Int:=if p then x else 0
theorem OE{p:Bool}{x:Int}(h:0<=x):0<=F9 p x:=by unfold F9;split<;>lia
theorem JR(n j:Nat)(hj:j<n)(x:Int):Ae n (λk=>F9 (decide (k=j)) x)=x:=by
 induction n with
 |zero=>exact qE hj (ce _)
 |succ n ih =>
  rw[AX]
  by_cases e:j=n
  ·subst e;have z:Ae j (λk=>F9 (decide (k=j)) x)=0:=by rw[AT (g:=λ_=>0) λk hk=>by unfold F9;rw[qG (by lia)];rfl,BC,Int.mul_zero]
   rw[z];unfold F9;rw[qF rfl];simp
  ·rw[ih (by lia)];unfold F9;rw[qG (by lia)];simp
noncomputable def cnt(G:Nat)(g7:qU):qU->Nat->Int
 |[],_=>1
 |s::r,h=>Ae G λj=>F9 (decide (g7.getD (h*G+j) 0=s)) (cnt G g7 r ((h*G+j)%(g7.length/G)))
theorem JS(G:Nat)(g7:qU):∀(r:qU) (h:Nat),0<=cnt G g7 r h
 |[],_=>by show (0:Int)<=1;decide
 |s::r,h=>Hq λj _=>OE (JS G g7 r _)
noncomputable def Fi(G:Nat)(g7:qU)(r:qU):Int:=Ae (g7.length/G) (cnt G g7 r)
variable{G:Nat}
theorem QO{v:Int}(h0:0<=v)(h1:v<(G:Int))(x:Int):Ae G (λs=>F9 (decide (v=(s:Int))) x)=x:=by
 refine Eq.trans (AT λs _=>?_) (JR G v.toNat (by lia) x);unfold F9
 by_cases e:s=v.toNat
 ·rw[qF (show v=(s:Int) by lia),qF e]
 ·rw[qG (show ¬v=(s:Int) by lia),qG e]
theorem JT(hG:2<=G)(hb:∀n∈g7,0<=n/\n<(G:Int)):∀(r:qU) (h:Nat),Ae G (λs=>cnt G g7 (r++[(s:Int)]) h)=cnt G g7 r h*(G:Int)
 |[],h=>by
  show Ae G (λs=>Ae G λj=>F9 (decide (g7.getD (h*G+j) 0=(s:Int))) 1)=1*(G:Int);rw[FQ]
  have:Ae G (λj=>Ae G (λs=>F9 (decide (g7.getD (h*G+j) 0=(s:Int))) 1))=Ae G (λ_=>1):=AT λj _=>by have b:0<=g7.getD (h*G+j) 0/\g7.getD (h*G+j) 0<(G:Int):=Br (by lia) hb _;exact QO b.1 b.2 1
  rw[this,BC,cj,Int.mul_one]
 |a::r,h=>by
  show Ae G (λs=>Ae G λj=>F9 (decide (g7.getD (h*G+j) 0=a)) (cnt G g7 (r++[(s:Int)]) ((h*G+j)%(g7.length/G))))=(Ae G λj=>F9 (decide (g7.getD (h*G+j) 0=a)) (cnt G g7 r ((h*G+j)%(g7.length/G))))*(G:Int);rw[FQ,<-DU];refine AT λj _=>?_;unfold F9;cases decide (g7.getD (h*G+j) 0=a) with
  |true=>exact JT hG hb r _
  |false =>
   show Ae G (λ_=>(0:Int))=0*(G:Int);rw[BC,bj,cT]
theorem OF(hG:2<=G)(hb:∀n∈g7,0<=n/\n<(G:Int))(r:qU):Ae G (λs=>Fi G g7 (r++[(s:Int)]))=Fi G g7 r*(G:Int):=by unfold Fi;rw[FQ,<-DU];exact AT λh _=>JT hG hb r h
theorem Mn{m:Nat}{ns:qU}(h:ns.length<m):BB g g7 m ns=[]:=by unfold BB;rw[show ns.length+1-m=0 by lia];rfl
theorem QP{m:Nat}{y:Int}{ns:qU}(h:m<=ns.length+1):BB g g7 m (y::ns)=N4 g g7 m (y::ns) 0::BB g g7 m ns:=by unfold BB;rw[cK,show ns.length+1+1-m=(ns.length+1-m)+1 by lia,List.range_succ_eq_map,cI,cp];rfl
theorem BH(hg:2<=g){m:Nat}(hl:(g7.length:Int)=g^m)(hm:1<=m):((g7.length/g.toNat:Nat):Int)=g^(m-1)/\g7.length=g7.length/g.toNat*g.toNat:=by
 obtain⟨k,rfl⟩:∃k,m=k+1:=⟨m-1,by lia⟩
 have e:g7.length=(g^k).toNat*g.toNat:=by have p:=RW.Aa hg k;rw[bq]at hl;apply Int.ofNat.inj;show (g7.length:Int)=(((g^k).toNat*g.toNat:Nat):Int);rw[hl,cS,bN (cn p),bN (by lia)]
 have q:g7.length/g.toNat=(g^k).toNat:=by rw[e];exact Nat.mul_div_cancel _ (by lia)
 rw[q,d8];exact⟨bN (cn (RW.Aa hg k)),e⟩
end L2
namespace L2
open PySem
variable{C a:qP}{G:Nat}{H H':Hp}{X:Cx}{g lo:Int}{g7:qU}
noncomputable def Ci(G:Nat)(g7:qU)(h:Nat)(s:Int):List Nat:=((List.range G).filter λj=>decide (g7.getD (h*G+j) 0=s)).map λj=>h*G+j
theorem OG(n:Nat)(p:Nat->Bool)(f:Nat->Int):(((List.range n).filter p).map f).sum=Ae n λj=>F9 (p j) (f j):=by
 induction n with
 |zero=>rfl
 |succ n ih =>
  rw[AX,b8,cL,bH,fk,ih]
  congr 1
  unfold F9;cases h:p n<;>simp[List.filter,h]
theorem Rx(G:Nat)(g7:qU)(h:Nat)(s:Int)(f:Nat->Int):((Ci G g7 h s).map f).sum=Ae G λj=>F9 (decide (g7.getD (h*G+j) 0=s)) (f (h*G+j)):=by unfold Ci;rw[cp];exact OG G _ _
theorem JU(G:Nat)(g7:qU)(h:Nat)(s:Int)(r:qU):((Ci G g7 h s).map λn=>cnt G g7 r (n%(g7.length/G))).sum=cnt G g7 (s::r) h:=Rx G g7 h s _
noncomputable def E4(G:Nat)(g7 r:qU):qU:=(List.range (g7.length/G)).map (cnt G g7 r)
theorem JV(G:Nat)(g7 r:qU):(E4 G g7 r).length=g7.length/G:=by unfold E4;rw[List.length_map,List.length_range]
theorem Mo(G:Nat)(g7 r:qU):(E4 G g7 r).sum=Fi G g7 r:=rfl
theorem JW{r:qU}{h:Nat}(hh:h<g7.length/G):(E4 G g7 r).getD h 0=cnt G g7 r h:=by unfold E4;exact AS hh
noncomputable def JX(ns:List Nat):qU:=ns.map λn:Nat=>(n:Int)
structure AY(H:Hp)(r:qP)(g lo:Int)(g7:qU)(m:Nat):Prop where
 v:At H r g lo g7
 g2:2<=g
 g9:g<=9
 m1:1<=m
 m8:m<=8
 len:(g7.length:Int)=g^m
 sz:g^m<=256
 tb:∀n∈g7,0<=n/\n<g
theorem AY.same{r:qP}{m:Nat}(e:AH H H')(h:AY H r g lo g7 m):AY H' r g lo g7 m:=⟨h.v.same e,h.g2,h.g9,h.m1,h.m8,h.len,h.sz,h.tb⟩
inductive Cr(vs:List V)(H:Hp)(Q:VK)(z3_:XK):Prop
 |m (r:qP) (g lo:Int) (g7:qU) (m:Nat):vs=[.ref r]->AY H r g lo g7 m->Q (.int ((g7.length/g.toNat:Nat):Int)) H->Cr vs H Q z3_
inductive Ll(vs:List V)(H:Hp)(Q:VK)(z3_:XK):Prop
 |m (r:qP) (g lo:Int) (g7:qU) (m h:Nat) (s:Int):vs=[.ref r,.int ((h:Nat):Int),.int s]->AY H r g lo g7 m->h<g7.length/g.toNat->(∀p H',Dv H H' p (JX (Ci g.toNat g7 h s))->Q (.ref p) H')->Ll vs H Q z3_
inductive GU(vs:List V)(H:Hp)(Q:VK)(z3_:XK):Prop
 |m (r f w:qP) (g lo:Int) (g7:qU) (m:Nat) (fs:List Nat) (ws:qU):vs=[.ref r,.ref f,.ref w]->AY H r g lo g7 m->H f=some (.lst ((JX fs).map V.int))->fs.length<=300->H w=some (.lst (ws.map V.int))->ws.length=g7.length/g.toNat->(∀p H',Dv H H' p (fs.map λn=>ws.getD (n%(g7.length/g.toNat)) 0)->Q (.ref p) H')->GU vs H Q z3_
def Uw(H:Hp)(p:qP)(G:Nat)(g7 row:qU):Prop:=∃ps:List qP,H p=some (.lst (ps.map V.ref))/\ps.length=row.length+1/\∀(k:Nat) (q:qP),ps[k]?=some q->H q=some (.lst ((E4 G g7 (row.drop k)).map V.int))
inductive OH(K:qT)(vs:List V)(H:Hp)(Q:VK)(z3_:XK):Prop
 |m (r a:qP) (g lo:Int) (g7:qU) (m:Nat) (ns:qU):vs=[.ref r,.ref a]->AY H r g lo g7 m->Ai K H a (ns.map V.int)->ns.length<=900->(∀p H',AH H H'->H p=none->Uw H' p g.toNat g7 ns->Q (.ref p) H')->OH K vs H Q z3_
theorem E5{P:qR}{w:qS}:De (Kn true P w) X (λ_=>E0):=λ_ _ _ _ _ _ _ ⟨_,_,_,_,_,_,_,_,h⟩=>h.elim
theorem OI{K:qT}(h:X.K=K):CJ X (.builtin "len") (λxs H Q=>∃p ys,xs=[V.ref p]/\(Ai K H p ys\/Am K H p ys)/\Q (.int ((ys.length:Nat):Int)) H):=h▸GF
theorem OJ{K:qT}(h:X.K=K)(hc:X.calm=true):CJ X (.builtin "sum") (λxs H Q=>∃(p:qP) (ns:qU),xs=[.ref p]/\Ai K H p (ns.map V.int)/\Q (.int ns.sum) H):=h▸Ey hc
theorem QQ(ns:qU):(PyData.tuple (ns.map PyData.int)).depth<=60:=by
 simp only[PyData.depth,Fw]
 decide
inductive Lm(vs:List V)(H:Hp)(Q:VK)(z3_:XK):Prop
 |m (r:qP) (g lo:Int) (g7:qU) (m:Nat) (by1:Int):vs=[.ref r,.int by1]->AY H r g lo g7 m->(∀r' H',AH H H'->AY H' r' g (lo+by1) g7 m->Q (.ref r') H')->Lm vs H Q z3_
inductive JY(vs:List V)(H:Hp)(Q:VK)(z3_:XK):Prop
 |m (r:qP) (g lo:Int) (g7:qU) (m:Nat):vs=[.ref r]->AY H r g lo g7 m->(∀r' H',AH H H'->AY H' r' g (1-lo-(m:Int)) (DT g g7 m) m->Q (.ref r') H')->JY vs H Q z3_
variable{lo':Int}
theorem AY.turn{r r':qP}{m:Nat}(h:AY H r g lo g7 m)(hv:At H' r' g lo' (DT g g7 m)):AY H' r' g lo' (DT g g7 m) m:=⟨hv,h.g2,h.g9,h.m1,h.m8,by rw[Kt];exact h.len,h.sz,JK h.g2 h.tb m⟩
theorem Dw{m:Nat}{Q:VK}{E:XK}(g2:2<=g)(g9:g<=9)(m1:1<=m)(len:(g7.length:Int)=g^m)(sz:g^m<=256)(tb:∀n∈g7,0<=n/\n<g)(hs:II H a (g7.map V.int))
  (q:∀r' H',AH H H'->At H' r' g lo g7->Q (.ref r') H'):E3 C [.int g,.int lo,.ref a] H Q E:=by
 have tok:PD g (g7.map V.int):=⟨by rw[a9];lia,⟨m,m1,by rw[a9];exact len⟩,C0 tb⟩;refine⟨_,_,_,rfl,True.intro,True.intro,⟨_,hs,Co⟩,λg' lo' tab' a' e1 e2 e3 hs' _ _ _ _ r' H' e' hR'=>?_,λnok=>qE ⟨KQ g2 g9,g,rfl,a,_,rfl,hs,tok⟩ nok⟩;cases e1;cases e2;cases e3;have:=CV (hs.inj hs');subst this;exact q r' H' e' hR'
inductive JZ(K:qT)(vs:List V)(H:Hp)(Q:VK)(z3_:XK):Prop
 |m (a:qP) (v:qU) (z:Int):vs=[.ref a,.int z]->Ai K H a (v.map V.int)->Q (.int (sn v z)) H->JZ K vs H Q z3_
theorem EL(hg:2<=g){M:Nat}(h:g^M<=256):M<=8:=by
 apply Nat.le_of_not_lt;intro z;have h1:=Bf hg (show 9<=M by lia)
 have h2:(512:Int)<=g^9:=by
  have h2:2*2<=g*g:=c8 hg hg (by decide) (by lia);have h4:4*4<=(g*g)*(g*g):=c8 (by lia) (by lia) (by decide) (by lia);have h8:16*16<=((g*g)*(g*g))*((g*g)*(g*g)):=c8 (by lia) (by lia) (by decide) (by lia);have h9:256*2<=(((g*g)*(g*g))*((g*g)*(g*g)))*g:=c8 (by lia) hg (by decide) (by lia);have e:g^9=(((g*g)*(g*g))*((g*g)*(g*g)))*g:=by simp only[Int.pow_succ,Int.pow_zero,Int.one_mul,Int.mul_assoc]
  rw[e];lia
 lia
theorem AY.bw{r r':qP}{m:Nat}(h:AY H r g lo g7 m){low:Int}{M:Nat}(hM:1<=M)(hz:g^M<=256)(hv:At H' r' g low (EK g lo g7 m low M)):AY H' r' g low (EK g lo g7 m low M) M:=
 ⟨hv,h.g2,h.g9,hM,EL h.g2 hz,Bs h.g2 _ _ _ _ _,hz,Rv h.g2 _ h.tb _ _ _⟩
inductive IV(vs:List V)(H:Hp)(Q:VK)(z3_:XK):Prop
 |m (r:qP) (g lo:Int) (g7:qU) (m:Nat) (low:Int) (M:Nat):vs=[.ref r,.int low,.int ((M:Nat):Int)]->AY H r g lo g7 m->1<=M->g^M<=256->(∀r' H',AH H H'->AY H' r' g low (EK g lo g7 m low M) M->Q (.ref r') H')->IV vs H Q z3_
inductive GV(vs:List V)(H:Hp)(Q:VK)(z3_:XK):Prop
 |m (r:qP) (g lo:Int) (g7:qU) (m:Nat):vs=[.ref r]->AY H r g lo g7 m->(∀(low:Int) (M:Nat),Da g lo g7 m low M->∀r' H',AH H H'->AY H' r' g low (EK g lo g7 m low M) M->Q (.ref r') H')->GV vs H Q z3_
def T3(g lo:Int)(g7:qU)(m:Nat)(low high:Int):Prop:=high<low\/∃z∈Bp g lo g7 m,z<low\/high<z
inductive HK(CW CT:qP)(vs:List V)(H:Hp)(Q:VK)(E:XK):Prop
 |m (r:qP) (g lo:Int) (g7:qU) (m:Nat) (low high:Int):vs=[.ref r,.int low,.int high]->AY H r g lo g7 m->(T3 g lo g7 m low high->∀H',AH H H'->E (.ref CW) none H')->(¬T3 g lo g7 m low high->256<g^(high-low+1).toNat->∀H',AH H H'->E (.ref CT) none H')->(¬T3 g lo g7 m low high->g^(high-low+1).toNat<=256->∀r' H',AH H H'->AY H' r' g low (EK g lo g7 m low (high-low+1).toNat) (high-low+1).toNat->Q (.ref r') H')->HK CW CT vs H Q E
theorem Da.small{m:Nat}{low:Int}{M:Nat}(h:Da g lo g7 m low M)(hm:1<=m):M<=m:=by
 rcases h.ends with⟨_,_,e⟩|⟨j0,j1,le,lt,_,e,_,_⟩
 ·lia
 ·lia
theorem Kv{ns:qU}(h:0<ns.length):Kk (ns.map V.int) (-1)=some (.int (ns.getD (ns.length-1) 0)):=by
 have e:=CY (ns:=ns) (k:=ns.length-1) (by lia)
 have z:Ox (ns.map V.int).length (-1)=some (ns.length-1):=by
  unfold Ox;rw[a9];rw[qC (by decide),qD (by lia)]
  congr 1
  lia
 have y:Ox (ns.map V.int).length (((ns.length-1:Nat)):Int)=some (ns.length-1):=by rw[a9];exact IQ (by lia)
 unfold Kk at e⊢;rw[z];rw[y]at e;exact e
end L2
namespace L2
open PySem PySem.Spec PyProof.Rows
variable{X:Cx}{es:List Expr}{i:Nat}{st:Stmt}{t:TS}{tc:TT}{te:TE}{x:Str}
section
variable{t:TA}
theorem BP{i:Int}{j}{pos:Pos}(hr:PA X es t):PA X (.Constant (.int i) j pos::es) (Hk (tC (.int i)) t):=AA AF hr (by rfl)
end
@[irreducible] def S6 (X:Cx) (st:Stmt) (t:TS):Prop:=PS X st t
@[irreducible] def HL (X:Cx) (ss:List Stmt) (t:TS):Prop:=Hj X ss t
section
variable{rest ss:List Stmt}{u:TS}
theorem S6.of(h:PS X st t):S6 X st t:=by unfold S6;exact h
theorem S6.out(h:S6 X st t):PS X st t:=by unfold S6 at h;exact h
theorem HL.of(h:Hj X ss t):HL X ss t:=by unfold HL;exact h
theorem HL.out(h:HL X ss t):Hj X ss t:=by unfold HL at h;exact h
theorem CB(h1:S6 X st t)(h2:HL X rest u):HL X (st::rest) (P0 t u):=.of (AC h1.out h2.out)
theorem IW(h1:S6 X st t):HL X [st] t:=.of (AE h1.out)
end
@[irreducible] def Ry (X:Cx) (e:Expr) (te:TE):Prop:=PE X e te
@[irreducible] def S7 (X:Cx) (es:List Expr) (t:TA):Prop:=PA X es t
section
variable{e a b:Expr}{ta tb:TE}{t:TA}{pos:Pos}
theorem Ry.of(h:PE X e te):Ry X e te:=by unfold Ry;exact h
theorem Ry.out(h:Ry X e te):PE X e te:=by unfold Ry at h;exact h
theorem S7.of(h:PA X es t):S7 X es t:=by unfold S7;exact h
theorem S7.out(h:S7 X es t):PA X es t:=by unfold S7 at h;exact h
theorem PM:S7 X [] IE:=.of AB
theorem CG{i:Int}{j}{p:Pos}(hr:S7 X es t):S7 X (.Constant (.int i) j p::es) (Hk (tC (.int i)) t):=.of (BP hr.out)
theorem PN(h:S7 X es t):Ry X (.List es pos) (VZ t):=.of (BO h.out)
theorem Vp{r:R2}(hr:Uh X r)(ha:Ry X a ta)(hb:Ry X b tb)(hs:O0 b):Ry X (.Subscript a b pos) (XI r ta tb):=.of (AO hr ha.out hb.out hs)
theorem EM{pos':Pos}(hN:X.N.Nodup)(hi:X.N[i]?=some x)(hx:UY X.env.scope x)(he:Ry X e te)(hs:swapsWith e (some (.Name x pos')) pos.line X.env=pure false)(hf:X.fn x=true\/X.env.scope.names.lookup x=some .local):
  S6 X (.Assign [.Name x pos'] e pos) (P1 te (GB i)):=.of (Gy hN hi hx he.out hs hf)
theorem OK{c:Expr}{a b:List Stmt}{t u:TS}(hc:PT X c tc)(ha:HL X a t)(hb:HL X b u):S6 X (.If c a b pos) (VQ tc t u):=.of (A6 hc ha.out hb.out)
theorem Ln:HL X [] Q3:=.of Af
end
end L2
namespace L2
open PySem
variable{D:Gw}{H:Hp}{M' j:Nat}{g lo lo' low':Int}{t:TS}{g7:qU}{σ:St}
noncomputable def Fe(x:Int->Int)(lo:Int)(m:Nat):qU:=(List.range m).map λj:Nat=>x (lo+(j:Int))
theorem DA(x:Int->Int)(lo:Int)(m:Nat):(Fe x lo m).length=m:=by unfold Fe;rw[List.length_map,List.length_range]
theorem GW(x:Int->Int)(lo:Int){m:Nat}(h:j<m):(Fe x lo m).getD j 0=x (lo+(j:Int)):=by unfold Fe;exact AS h
def Qw(g:Int)(x:Int->Int):Prop:=∀z,0<=x z/\x z<g
theorem IX{x:Int->Int}(hx:Qw g x)(lo:Int)(m:Nat):∀n∈Fe x lo m,0<=n/\n<g:=λn hn=>by unfold Fe at hn;obtain⟨j,_,rfl⟩:=bR.mp hn;exact hx _
noncomputable def Mp(g lo:Int)(g7:qU)(m:Nat)(x:Int->Int):Int:=g7.getD (Ao g (Fe x lo m)).toNat 0
noncomputable def Kw(w:qU)(lo:Int):Int->Int:=λz=>sn w (z-lo)
theorem Kx(hg:2<=g){w:qU}(hb:∀n∈w,0<=n/\n<g)(lo:Int):Qw g (Kw w lo):=λz=>Uv hg hb _
theorem T4(w:qU)(low lo:Int)(m:Nat):Fe (Kw w low) lo m=PJ w (lo-low) m:=by unfold Fe PJ Kw;exact bZ λj _=>by rw[show lo+(j:Int)-low=lo-low+(j:Int) by lia]
theorem Hr(w:qU)(lo:Int):Fe (Kw w lo) lo w.length=w:=by rw[T4,fV,Ru]
theorem FR(hg:2<=g){low:Int}{m M:Nat}(hl:(g7.length:Int)=g^m)(hc:∀j,j<m->Ce g g7 (g^(m-1-j))=true->low<=lo+(j:Int)/\lo+(j:Int)<low+(M:Int)){x:Int->Int}(hx:Qw g x):Mp g low (EK g lo g7 m low M) M x=Mp g lo g7 m x:=by
 unfold Mp;have z:=Rw hg lo g7 m low (v:=Fe x low M) (IX hx low M);rw[DA]at z;rw[z];refine OA hg hl (Rt hg (IX hx low M) _ _) (IX hx lo m) (IU ..) (DA ..) λj hj hcj=>?_;obtain⟨a,b⟩:=hc j hj hcj;rw[PK _ _ hj,GW _ _ hj,show lo-low+(j:Int)=(((lo+(j:Int)-low).toNat:Nat):Int) by lia,Rr (by rw[DA];lia),GW _ _ (by lia)]
 congr 1
 lia
def Ux(g:Int)(f:(Int->Int)->Int)(z:Int):Prop:=∃x,Qw g x/\f x≠f λy=>if y=z then 0 else x y
theorem Z7(hg:2<=g){x:Int->Int}(hx:Qw g x)(z:Int):Qw g λy=>if y=z then 0 else x y:=λy=>by
 show 0<=(if y=z then 0 else x y)/\(if y=z then 0 else x y)<g;split
 ·lia
 ·exact hx y
theorem Mq(x:Int->Int)(lo:Int){m:Nat}(hj:j<m):Fe (λy=>if y=lo+(j:Int) then 0 else x y) lo m=(Fe x lo m).set j 0:=by
 refine Aq (by rw[fI,DA,DA]) λk hk=>?_;rw[DA]at hk;rw[GW _ _ hk,Mk (by rw[DA];exact hj),GW _ _ hk]
 by_cases e:j=k
 ·subst e;rw[qD rfl,qD rfl]
 ·rw[qC e,qC (by lia)]
theorem IY(hg:2<=g){m:Nat}(hl:(g7.length:Int)=g^m)(hj:j<m):Ce g g7 (g^(m-1-j))=true↔Ux g (Mp g lo g7 m) (lo+(j:Int)):=by
 rw[OC hg hl hj];constructor
 ·rintro⟨w,wl,wb,ne⟩;subst wl;refine⟨Kw w lo,Kx hg wb lo,?_⟩;unfold Mp;rw[Mq _ _ hj,Hr];exact ne
 ·rintro⟨x,hx,ne⟩;unfold Mp at ne;rw[Mq _ _ hj]at ne;exact⟨_,DA ..,IX hx lo m,ne⟩
theorem Rz{m:Nat}{z:Int}(h:Ux g (Mp g lo g7 m) z):∃j:Nat,j<m/\z=lo+(j:Int):=by
 obtain⟨x,hx,ne⟩:=h
 by_cases e:lo<=z/\z<lo+(m:Int)
 ·exact⟨(z-lo).toNat,by lia,by lia⟩
 ·exfalso;apply ne;unfold Mp
  congr 3
  unfold Fe;refine bZ λj hj=>?_;have:=bW.mp hj;show x (lo+(j:Int))=if lo+(j:Int)=z then 0 else x (lo+(j:Int));rw[qC (by lia)]
structure OL(g:Int)(f:(Int->Int)->Int)(low:Int)(M:Nat):Prop where
 one:1<=M
 all:∀z,Ux g f z->low<=z/\z<low+(M:Int)
 ends:((∀z,¬Ux g f z)/\low=0/\M=1)\/(Ux g f low/\Ux g f (low+(M:Int)-1))
theorem Da.toF(hg:2<=g){m:Nat}(hl:(g7.length:Int)=g^m){low:Int}{M:Nat}(h:Da g lo g7 m low M):OL g (Mp g lo g7 m) low M:=by
 refine⟨h.one,λz hz=>?_,?_⟩
 ·obtain⟨j,hj,rfl⟩:=Rz hz;exact h.all j hj ((IY hg hl hj).mpr hz)
 ·rcases h.ends with⟨f,a,b⟩|⟨j0,j1,le,lt,a,b,c0,c1⟩
  ·refine .inl ⟨λz hz=>?_,a,b⟩;obtain⟨j,hj,rfl⟩:=Rz hz;rw[<-IY hg hl hj,f j hj]at hz;cases hz
  ·have d0:=(IY (lo:=lo) hg hl (show j0<m by lia)).mp c0;have d1:=(IY (lo:=lo) hg hl lt).mp c1;refine .inr ⟨a▸d0,?_⟩;rw[show low+(M:Int)-1=lo+(j1:Int) by lia];exact d1
theorem OL.uniq{f:(Int->Int)->Int}{low:Int}{M:Nat}(h:OL g f low M)(h':OL g f low' M'):low=low'/\M=M':=by
 have o:=h.one;have o':=h'.one;rcases h.ends with⟨n,a,b⟩|⟨d0,d1⟩
 ·rcases h'.ends with⟨_,a',b'⟩|⟨d0',_⟩
  ·lia
  ·exact qE d0' (n _)
 ·rcases h'.ends with⟨n',_,_⟩|⟨d0',d1'⟩
  ·exact qE d0 (n' _)
  ·have:=h.all _ d0';have:=h.all _ d1';have:=h'.all _ d0;have:=h'.all _ d1;lia
theorem FS(hg:2<=g){f f':(Int->Int)->Int}(h:∀x,Qw g x->f x=f' x){z:Int}(d:Ux g f z):Ux g f' z:=by obtain⟨x,hx,ne⟩:=d;refine⟨x,hx,?_⟩;rw[<-h x hx,<-h _ (Z7 hg hx z)];exact ne
theorem OL.congr(hg:2<=g){f f':(Int->Int)->Int}(h:∀x,Qw g x->f x=f' x){low:Int}{M:Nat}(n:OL g f low M):OL g f' low M:=by
 have h2:∀x,Qw g x->f' x=f x:=λx hx=>(h x hx).symm
 refine⟨n.one,λz d=>n.all z (FS hg h2 d),?_⟩;rcases n.ends with⟨a,b,c⟩|⟨a,b⟩
 ·exact .inl ⟨λz d=>a z (FS hg h2 d),b,c⟩
 ·exact .inr ⟨FS hg h a,FS hg h b⟩
def Fy(g lo:Int)(g7:qU)(m:Nat)(lo':Int)(tab':qU)(m':Nat):Prop:=∀x,Qw g x->Mp g lo g7 m x=Mp g lo' tab' m' x
theorem Vq(hg:2<=g){a b:qU}{m:Nat}(la:(a.length:Int)=g^m)(lb:(b.length:Int)=g^m)(h:∀x,Qw g x->Mp g lo a m x=Mp g lo b m x):a=b:=by refine Vo hg la lb λw wl wb=>?_;subst wl;have z:=h (Kw w lo) (Kx hg wb lo);unfold Mp at z;rw[Hr]at z;exact z
variable{tab':qU}{m':Nat}
theorem EN(hg:2<=g){m:Nat}(hl:(g7.length:Int)=g^m)(hl':(tab'.length:Int)=g^m'){low:Int}{M:Nat}(n:Da g lo g7 m low M)(n':Da g lo' tab' m' low' M'):
  Fy g lo g7 m lo' tab' m'↔low=low'/\EK g lo g7 m low M=EK g lo' tab' m' low' M':=by
 constructor
 ·intro h;obtain⟨e1,e2⟩:=((n.toF hg hl).congr hg h).uniq (n'.toF hg hl');subst e1 e2;refine⟨rfl,Vq hg (lo:=low) (Bs hg ..) (Bs hg ..) λx hx=>?_⟩;rw[FR hg hl n.all hx,FR hg hl' n'.all hx];exact h x hx
 ·rintro⟨rfl,e⟩ x hx;have hM:M=M':=by have a:=Bs hg lo g7 m low M;have b:=Bs hg lo' tab' m' low M';rw[e,b]at a;exact Df hg a.symm
  subst hM;rw[<-FR hg hl n.all hx,<-FR hg hl' n'.all hx,e]
theorem R0(hg:2<=g){low:Int}{m M:Nat}(hl:(g7.length:Int)=g^m)(h1:low<=lo)(h2:lo+(m:Int)<=low+(M:Int)){x:Int->Int}(hx:Qw g x):Mp g low (EK g lo g7 m low M) M x=Mp g lo g7 m x:=
 FR hg hl (λj hj _=>by lia) hx
theorem Az{u:TS}(h:∀N:St->Hp->Prop,(∀σ' H',u D σ' H'->N σ' H')->t {D with nx:=N} σ H):P0 t u D σ H:=h (u D) λ_ _ z=>z
end L2
namespace L2
open PySem PySem.Spec PyProof.Rows
variable{X:Cx}
theorem QR(bs:List Bool):(List.range bs.length).all (λi=>bs.getD i false)=bs.all id:=by
 rw[eI,fZ,fZ];constructor
 ·intro h b hb;obtain⟨i,hi,e⟩:=d4 hb;have z:=h i (bW.mpr hi);rw[a8,bA hi,e]at z;exact z
 ·intro h i hi;have hi':=bW.mp hi;rw[a8,bA hi'];exact h _ (b7 hi')
theorem Mr(hc:X.calm=true):CJ X (.builtin "all") (λxs H Q=>∃(p:qP) (bs:List Bool),xs=[.ref p]/\Ai X.K H p (bs.map V.bl)/\Q (.bl (bs.all id)) H):=by
 intro ad s σ H xs us Q I r h;refine byG λGq hGq=>?_;obtain⟨p,bs,rfl,hq,q⟩:=h;refine hGq ?_;clear hGq Gq;obtain⟨u,rfl,rx⟩:=Dr r;cases rx;refine byG λGq hGq=>?_;obtain⟨its,rits,pl,hz⟩:=I.list hq;refine hGq ?_;clear hGq Gq;have hlen:=rits.length;rw[a9]at hlen;have alt:p<s.heap.objs.size:=by obtain⟨o,e,_⟩:=pl.isList;exact bM e
 refine call_all_walk (wpAny_pyIter_list pl.isList ?_);have up:∀b o,s.heap.get? b=some o->(s.heap.push {cls:=.type "list_iterator",data:=.fields #[.ref p,.int 0 0]}).get? b=some o:=λb o e=>bG _ e
 refine⟨s.heap.objs.size,[s.heap.objs.size,p],[s.heap.objs.size],its.toArray.size,_,_,λi=>bs.getD i false,rfl,Walks.list (A:=X.A.in1) (I.ok.hd hc) _ p (bp alt) its.toArray,⟨⟨_,bV _ rfl,rfl,rfl⟩,pl.isList.at λo e=>up p o e⟩,λi v Q' E' s' hv hq'=>?_,λh' tk kk=>?_⟩
 ·have hv':its[i]?=some v:=by simpa using hv
  have hi:=(bB.mp hv').1;obtain⟨u2,hu2,ru2⟩:=rits.get (x:=.bl (bs.getD i false)) (i:=i) (by rw[bF,bA (by lia),a8,bA (by lia)];rfl);rw[hv']at hu2;cases hu2;cases ru2;exact wpAny_truthy_bool hq'
 ·refine⟨.bl (bs.all id),H,I.kept (t':=tk) λb o e=>kk b o (λz=>?_) (up b o e),?_,q⟩
  ·rw[bL.mp z]at e;exact qE (bM e) (bx _)
  ·rw[bn,<-hlen,QR];rfl
end L2
namespace L2
theorem PP{i j:Int}:P4 (.int i) (.int j)=true:=rfl
theorem PQ{i j:Bool}:P4 (.bl i) (.bl j)=true:=rfl
theorem PR:P4 .non .non=true:=rfl
theorem PU{i:Int}:P4 (.int i) .non=true:=rfl
end L2
namespace L2
open PySem PySem.Spec PyProof.Rows
variable{E Q:qO->qQ->Prop}{H:Hp}{T:String}{X:Cx}{a:qP}{ad:List (qP×Obj)}{s:qQ}{t':Nat}{u:qO}{σ:St}
section
variable{κ:Type}[DecidableEq κ]
noncomputable def Cf(kvs:List (κ×V))(k:κ):Option V:=(kvs.find? λkv=>decide (kv.1=k)).map (·.2)
noncomputable def GX(kvs:List (κ×V))(k:κ)(v:V):List (κ×V):=
 if (kvs.any λkv=>decide (kv.1=k))=true then kvs.map (λkv=>if kv.1=k then (kv.1,v) else kv) else kvs++[(k,v)]
theorem GY{p:κ×V}{r:List (κ×V)}{k:κ}(e:p.1=k):Cf (p::r) k=some p.2:=by simp[Cf,List.find?_cons,e]
theorem E6{p:κ×V}{r:List (κ×V)}{k:κ}(e:¬p.1=k):Cf (p::r) k=Cf r k:=by simp[Cf,List.find?_cons,e]
theorem Ja(k:κ):∀kvs:List (κ×V),(kvs.any λkv=>decide (kv.1=k))=(Cf kvs k).isSome
 |[]=>rfl
 |p::r=>by
  rw[List.any_cons]
  by_cases e:p.1=k
  ·simp only[GY e,qF e,Bool.true_or,Option.isSome_some]
  ·rw[E6 e,qG e,Bool.false_or];exact Ja k r
theorem Mt(kvs:List (κ×V))(k:κ)(v:V):(GX kvs k v).length<=kvs.length+1:=by
 unfold GX;split
 ·rw[a9];lia
 ·rw[bC,cK,List.length_nil];lia
theorem R1{kvs:List (κ×V)}{k:κ}(v:V)(h:Cf kvs k=none):GX kvs k v=kvs++[(k,v)]:=by unfold GX;rw[Ja,h];exact qC (by decide)
theorem LK.isSome_eq{o:Option V}{u:Option qO}(r:LK o u):o.isSome=u.isSome:=by
 cases o with
 |none=>cases u with
  |none=>rfl
  |some _=>exact (show False from r).elim
 |some _=>cases u with
  |none=>exact (show False from r).elim
  |some _=>rfl
end
theorem X7{P:qR}{w:qS}{k:Cc}(r:BN (kV k) u):(Bz P w).is k u=true:=by
 cases k with
 |inl i=>obtain⟨t,e⟩:=(show ∃t,u=Value.int i t from r);subst e;exact MF P w i t
 |inr x=>obtain⟨t,e⟩:=(show ∃t,u=Value.str x t from r);subst e;exact MG P w x t
theorem Ky{P:qR}{w:qS}:∀{ks:List Cc} {us:List qO},Av (ks.map kV) us->ItemsAre (Bz P w) ks us
 |[],_,r=>by rw[f7]at r;cases r;exact .nil
 |k::ks,_,r=>by
  rw[cI]at r;cases r with
  |cons h t=>exact .cons (X7 h) (Ky t)
section
variable{y v:V}{r:qO}{o:Option V}{A:Around}
theorem Ab.big(I:Ab X ad σ H s):sysModules<s.heap.objs.size:=by have h:mainGlobals<s.heap.objs.size:=(I.mod.glob.keeps I.bk).lt;exact Nat.lt_trans (by decide) h
theorem T5{h':Heap}{ob:HO}(I:Ab X ad σ H s)(mu:XR (H a))(hs:Heap.SameBut a s.heap h')(he:∃q,h'.get? a=some q)(new:A5 X.prog X.w (Ak H a ob) h' a ob):
  Ab X ad σ (Ak H a ob) {s with heap:=h',toks:=t'}:=
 I.write (x:=a) (e:=a) mu (.inl rfl) (λb q hb z=>(hs.2 b hb).trans z) he new
end
def Vr(i:Expr):Prop:=∀ov iv,subscripted i false ov iv=operate [ov,iv] (getItem ov iv)
theorem T6{prog:qR}{w:qS}{A:Around}{env:Env}{value slice:Expr}{pos:Pos}{id:String}
  (hl:typeLookup (.type T) "__getitem__"=pure (some (.builtin id))) (hs:Vr slice)
  (h:wpAny (model prog w) A (eval value env) (λo s₁=>wpAny (model prog w) A (eval slice env) (λi s₂=>s₂.TypeIs o T/\wpAny (model prog w) A (getItem o i) Q E s₂) E s₁) E s):
  wpAny (model prog w) A (eval (.Subscript value slice pos) env) Q E s:=by
 refine Subscript_ (qK h (λo s₁ h₁=>qK h₁ (λi s₂ h₂=>?_) λ_ _ x=>x) λ_ _ x=>x);obtain⟨hT,h₂⟩:=h₂;unfold subscriptTail;refine qA ?_;rw[getitemInPython_of_ne hT.not_modules];refine qA (wpAny_specialOf hT hl ?_)
 have fin:wpAny (model prog w) A (subscripted slice false o i) (λr s₃=>wpAny (model prog w) A (letTemporaryGo value o r >>= λ_=>pure r) Q E s₃) E s₂:=by rw[hs o i];exact wpAny_operating (qK h₂ (λr s₃ h₃=>qA (wpAny_letTemporaryGo (qB h₃))) λ_ _ x=>x)
 first
  |exact qB (qA fin)
  |exact qA (qB (qA fin))
  |exact qA fin
end L2
namespace PySem
section
variable{prog:qR}{w:qS}{K:Type}[DecidableEq K]{knd:HeapKind prog w K}{A:Around}{E:qO->qQ->Prop}{s:qQ}
theorem setDef_heap{dd b:qP}{ents:List (K×qP×qO)}{key:K}{dv:qO}{Q:qO->qQ->Prop}(room:knd.room A)(isk:knd.is s.heap key b)(dof:s.heap.DictOfH knd dd ents)(few:ents.length<=sizeLine)
  (old:∀p,atKey ents key=some p->Q p.2 {s with toks:=s.toks+knd.draws key})
  (new:atKey ents key=none->∀hp,hp.DictOfH knd dd (storedH ents key b dv)->Heap.SameBut dd s.heap hp->Q dv {s with heap:=hp,toks:=s.toks+knd.draws key}):
  wpAny (model prog w) A (dictSetDefault dd (.ref b) dv) Q E s:=by
 refine byG λGq hGq=>?_;obtain⟨ob,rows,ep,got,cls,dat,rowsE,each,once⟩:=dof;refine hGq ?_;clear hGq Gq;unfold dictSetDefault
 try with_reducible refine qM ?_
 refine qA (knd.pyHash room isk (qA (wpAny_dictFind_heap (s:={s with toks:=s.toks+knd.draws key}) room isk got dat rowsE each once (λnowhere=>?_) (λj p there=>?_))))
 ·have none':=atKey_none_of_get nowhere;have newE:=storedH_new (a:=b) (v:=dv) none';have rz:=size_of_entries rowsE;refine qA (wpAny_rule (qA (wpAny_updateDictKeys (hz:=by lia) (s:={s with toks:=s.toks+knd.draws key}) got dat (qB ?_))));refine new none' _ ⟨_,_,ep+1,eJ _ got (Obj.isFreed_of_dict (Obj.data_mapDictKeys dat _)),cls.mapDictKeys _,Obj.data_mapDictKeys dat _,?_,?_,?_⟩ (Heap.SameBut.update ..)
  ·rw[newE];simp[rowsE,entryOfKey]
  ·rw[newE];intro x hx;rcases bJ.mp hx with z|z
   ·exact knd.keeps (each x z) got dat (Heap.SameBut.update ..)
   ·rw[bL.mp z];exact knd.keeps isk got dat (Heap.SameBut.update ..)
  ·rw[newE,bH,dn];refine⟨once,by simp,λx hx y hy e=>?_⟩;have:y=key:=by simpa using hy
   exact not_mem_keys_of_get nowhere (by rw[<-this,<-e];exact hx)
 ·refine qA (wpAny_dictEntries (s:={s with toks:=s.toks+knd.draws key}) got dat ?_);rw[entry_at rowsE j,there];exact qA (wpAny_rule (qB (old p (atKey_of_get once there))))
end
section
variable{prog:qR}{w:qS}{K:Type}[DecidableEq K](knd:HeapKind prog w K)(dd b:qP)
theorem meetsH_setDef(hm:(dd==sysModules)=false)(dv:qO):
  MeetsIn prog w (Builtin.«dict.setdefault» ⟨[.ref dd,.ref b,dv],[]⟩) (λA R s=>knd.room A.in1/\∃key ents,knd.is s.heap key b/\s.heap.DictOfH knd dd ents/\ents.length<=sizeLine /\
   (∀p,atKey ents key=some p->R (.ok (.ret p.2)) {s with toks:=s.toks+knd.draws key}) /\
   (atKey ents key=none->∀hp,hp.DictOfH knd dd (storedH ents key b dv)->Heap.SameBut dd s.heap hp->R (.ok (.ret dv)) {s with heap:=hp,toks:=s.toks+knd.draws key})):=
 .of_wp λA R s h=>by obtain⟨room,key,ents,isk,dof,few,old,new⟩:=h;unfold Builtin.«dict.setdefault»;refine qA ?_;unfold Builtin.Dict.keyAndDefault;refine qA (wpAny_notOrdered_dict dof.typeIs ?_);show wpAny _ _ (pure (dd,Value.ref b,some dv)) _ _ s;refine qB ?_;show wpAny _ _ (if (dd==sysModules)=true then _ else (dictSetDefault dd (.ref b) dv >>= _)) _ _ s;rw[qC (by rw[hm];decide)];exact qA (setDef_heap room isk dof few (λp z=>qB ⟨_,rfl,old p z⟩) λz hp d2 sb=>qB ⟨_,rfl,new z hp d2 sb⟩)
end
end PySem
namespace L2
open PySem PySem.Spec PyProof.Rows
variable{X:Cx}{es:List Expr}{fd:FuncData}{i k:Nat}{qual x:Str}{scope:Scope}{st:Stmt}{te:TE}{tt:TT}
section
variable{p:List qO->Prop}
theorem b0(h:p []):∀us:List qO,us.length=0->p us:=λus e=>by cases us with
 |nil=>exact h
 |cons a r=>cases e
theorem b1(h:∀a,p [a]):∀us:List qO,us.length=1->p us:=λus e=>by cases us with
 |nil=>cases e
 |cons a r=>exact b0 (p:=λl=>p (a::l)) (h a) r (Nat.succ.inj e)
theorem b2(h:∀a b,p [a,b]):∀us:List qO,us.length=2->p us:=λus e=>by cases us with
 |nil=>cases e
 |cons a r=>exact b1 (p:=λl=>p (a::l)) (h a) r (Nat.succ.inj e)
theorem b3(h:∀a b c,p [a,b,c]):∀us:List qO,us.length=3->p us:=λus e=>by cases us with
 |nil=>cases e
 |cons a r=>exact b2 (p:=λl=>p (a::l)) (h a) r (Nat.succ.inj e)
theorem b4(h:∀a b c d,p [a,b,c,d]):∀us:List qO,us.length=4->p us:=λus e=>by cases us with
 |nil=>cases e
 |cons a r=>exact b3 (p:=λl=>p (a::l)) (h a) r (Nat.succ.inj e)
theorem b5(h:∀a b c d e,p [a,b,c,d,e]):∀us:List qO,us.length=5->p us:=λus e=>by cases us with
 |nil=>cases e
 |cons a r=>exact b4 (p:=λl=>p (a::l)) (h a) r (Nat.succ.inj e)
theorem b6(h:∀a b c d e f,p [a,b,c,d,e,f]):∀us:List qO,us.length=6->p us:=λus e=>by cases us with
 |nil=>cases e
 |cons a r=>exact b5 (p:=λl=>p (a::l)) (h a) r (Nat.succ.inj e)
end
noncomputable def a4(N P:List Str)(sc:Scope):Bool:=decide (sc.kind=.function)&&!sc.isCoroutine&&!sc.isGenerator&&decide N.Nodup&&decide (N.take P.length=P) &&
 P.all (λx=>decide (sc.names.lookup x=some .local\/sc.names.lookup x=some .cell))&&sc.names.all λy=>decide (y.2≠.free)
theorem By{N P:List Str}{sc:Scope}(h:a4 N P sc=true:=by decide +kernel):AI N P sc:=by unfold a4 at h;simp only[Bool.and_eq_true,decide_eq_true_eq,Bool.not_eq_true',List.all_eq_true]at h;obtain⟨⟨⟨⟨⟨⟨a,b⟩,c⟩,d⟩,e⟩,f⟩,g⟩:=h;exact⟨a,b,c,d,e,f,g⟩
section
variable{P:qR}{w:qS}{K:qT}{mg:Str->Option qO}{base:Heap}{f:qP}{N ps:List Str}{sp:Sp}
theorem BX.okY(F:BX K x qual st f fd)(S:AI N ps (AG st)) (h:∀vs H Q E,sp vs H Q E->vs.length=ps.length /\
  ∀(gh:qO) (A:Around) (outer:List Env) (s:qQ),B7 k (A.deeper (envOfC qual (AG st) s.heap.objs.size f gh)) ->
   ∃t,Hj (Dj (KJ P w) P w K mg base N qual (AG st) f gh A outer s H E).nox (BW st) t/\t {nx:=λ_ H'=>Q .non H',rt:=Q} (Ct N vs) H):Fp P w K mg base (KJ P w) (k+1) f fd ps sp:=
 F.ok0 S (λvs H Q E q=>(h vs H Q E q).1) λgh A outer s H vs Q E hr q=>(h vs H Q E q).2 gh A outer s hr
theorem Aw(D:∃fd,BX K x qual st f fd)(S:AI N ps (AG st)) (h:∀vs H Q E,sp vs H Q E->vs.length=ps.length /\
  ∀(gh:qO) (A:Around) (outer:List Env) (s:qQ),B7 k (A.deeper (envOfC qual (AG st) s.heap.objs.size f gh)) ->
   ∃t,Hj (Dj (KJ P w) P w K mg base N qual (AG st) f gh A outer s H E).nox (BW st) t/\t {nx:=λ_ H'=>Q .non H',rt:=Q} (Ct N vs) H) (bd:Er x qual st ps:=by first|exact λ_ _ _ _ _ _=>b1 λ_=>rfl|exact λ_ _ _ _ _ _=>b2 λ_ _=>rfl|exact λ_ _ _ _ _ _=>b3 λ_ _ _=>rfl|exact λ_ _ _ _ _ _=>b4 λ_ _ _ _=>rfl):Aj P w K mg base (k+1) f ps sp:=
 Tk D S bd (λvs H Q E q=>(h vs H Q E q).1) λgh A outer s H vs Q E hr q=>(h vs H Q E q).2 gh A outer s hr
theorem CK(D:∃fd,BX K x qual st f fd)(S:AI N ps (AG st)) (h:∀vs H Q E,sp vs H Q E->vs.length=ps.length /\
  ∀(gh:qO) (A:Around) (outer:List Env) (s:qQ),B7 k (A.deeper (envOfC qual (AG st) s.heap.objs.size f gh)) ->
   ∃t,Hj (Dj (KJ P w) P w K mg base N qual (AG st) f gh A outer s H E) (BW st) t/\t {nx:=λ_ H'=>Q .non H',rt:=Q} (Ct N vs) H) (bd:Er x qual st ps:=by first|exact λ_ _ _ _ _ _=>b1 λ_=>rfl|exact λ_ _ _ _ _ _=>b2 λ_ _=>rfl|exact λ_ _ _ _ _ _=>b3 λ_ _ _=>rfl|exact λ_ _ _ _ _ _=>b4 λ_ _ _ _=>rfl):Aj P w K mg base (k+1) f ps sp:=
 Tl D S bd (λvs H Q E q=>(h vs H Q E q).1) λgh A outer s H vs Q E hr q=>(h vs H Q E q).2 gh A outer s hr
end
section
variable{e elt iter:Expr}{t:TA}{pos pos' p px:Pos}{N ps:List Str}{sc:Scope}{k':Nat}{f:qP}{sp:Sp}{cl:List (Str×qP)}{fv:List (Nat×Str)}{ifs:List Expr}{wi:TI}
theorem AK(hr:B7 k' X.A)(G:Aj X.prog X.w X.K X.mg X.base k f ps sp)(hm:X.mg x=some (.ref f))(ha:PA X (e::es) t)(hk:k<=k':=by decide)(hg:Gl X x:=by rfl)
  (hdb:(x==("__debug__":Str))=false:=by decide) (he:starEach (e::es) X.env=(false,eval e X.env)::starEach es X.env:=by rfl) (hpl:(backTo pos (starEach es X.env)).any (·.1)=false:=by rfl):
  PE X (.Call (.Name x p) (e::es) [] pos) (G6 sp [] (λ_=>E0) t):=An G (hr.mono hk) hg hm Xn ha hdb he hpl
theorem AQ(i:Nat)(S:AI X.N ps sc)(he:PE X e te)(hi:X.N[i]?=some x:=by rfl)(hx:UY X.env.scope x:=by first|exact Or.inl rfl|exact Or.inr rfl)(hs:swapsWith e (some (.Name x pos')) pos.line X.env=pure false:=by rfl)
  (hf:X.fn x=true\/X.env.scope.names.lookup x=some .local:=by first|exact .inl rfl|exact .inr rfl|assumption):PS X (.Assign [.Name x pos'] e pos) (P1 te (GB i)):=Gy S.nd hi hx he hs hf
theorem BI(i:Nat)(S:AI X.N ps sc)(hi:X.N[i]?=some x:=by rfl)(hx:UY X.env.scope x:=by first|exact Or.inl rfl|exact Or.inr rfl)
  (hf:X.fn x=true\/X.env.scope.names.lookup x=some .local:=by first|exact .inl rfl|exact .inr rfl|assumption):PG X (.Name x pos) (GB i):=IL S.nd hi hx hf
theorem DH(fv:List (Nat×Str))(cl:List (Str×qP))(hi:PI X (.Name x px) iter wi)(hf:∀s H C fp,PF (Eg X s H (compEnvC scope cl C X.env) fp (x::fv.map (·.2))) ifs tt)(he:∀s H C fp,PE (Eg X s H (compEnvC scope cl C X.env) fp (x::fv.map (·.2))) elt te)
  (hclos:closureFor scope X.env=pure cl:=by with_unfolding_all rfl) (hcell:∀y∈scope.names,y.2≠.cell:=by decide +kernel) (hk:scope.kind=.function:=by rfl) (hnames:∀z∈scope.names,z.2=.local->scope.names.lookup z.1=some .local:=by decide +kernel)
  (hx:scope.names.lookup x=some .local:=by rfl) (hcl:IG X.env cl:=by repeat' first|exact trivial|with_unfolding_all rfl|constructor) (hhas:((relabel scope X.env).names.all λz=>!(z.2==.cell||z.2==.free)||(cl.lookup z.1).isSome)=true:=by with_unfolding_all rfl)
  (hfv:JD X scope cl fv:=by repeat' first|exact trivial|with_unfolding_all rfl|constructor) (hnd:(x::fv.map (·.2)).Nodup:=by decide) (hc:X.calm=true:=by rfl) (hs:∀x,foldedSetIterable iter X.env x=pure x:=by intro _;rfl):
  PE X (.ListComp elt [⟨.Name x px,iter,ifs,0⟩] scope pos) (Rc wi fv tt te):=Tq hc hi hclos hcell hk hnames hx hcl hhas hfv hnd hf he hs
end
end L2
namespace PySem
open Sem (wp)
end PySem
namespace L2
open PySem PySem.Spec PyProof.Rows RW
end L2
namespace L2
open PySem PySem.Spec PyProof.Rows
variable{H:Hp}{X:Cx}{ch:List qP}{elts:List Expr}{ad:List (qP×Obj)}{s:qQ}{t':Nat}{ta:TA}{tpos:Pos}{σ:St}
section
variable{h':Heap}
theorem Ab.turnedAll(I:Ab X ad σ H s)(hf:∀b∈ch,Ek X ad H b)(k:∀b u,b∉ch->s.heap.get? b=some u->h'.get? b=some u):Ab X ad σ H {s with heap:=h',toks:=t'}:=by
 have nit:∀b u,H b=some u->b∉ch:=λb u e z=>by rw[(hf b z).1]at e;cases e
 refine I.step (g':=s.gens) (d':=s.drawn) (ch:=ch) (λb hb=>⟨(hf b hb).2.2.2.1,(hf b hb).2.1,(hf b hb).2.2.2.2.1,(hf b hb).2.2.2.2.2⟩) (λb u _ _ hc e _=>k b u hc e) (λb u _ _ hc e _=>⟨u.slots,k b u hc e⟩)
  (λb u _ e n=>n) (λb u hc e=>⟨u,k b u hc e⟩) (λb xs e=>e) (λb u v e=>e) (λb ps e=>⟨#[],by rw[e];simp⟩) (λm hm=>?_) (λb u e=>?_) I.bare
 ·obtain⟨o,es,ep,ho,r⟩:=hm;exact⟨o,es,ep,k _ o (λz=>(hf _ z).2.1 rfl) ho,r⟩
 ·refine (I.hok b u e).stay (λc v hc q=>k c v ?_ q) (λc q=>q) λc xs q=>q
  rcases hc with y|y
  ·rw[y];exact nit b u e
  ·exact nit c _ y
end
noncomputable def Z8(K:qT)(a b:qP):It:=
 ⟨λi H=>∃xs ys x y,Ai K H a xs/\Ai K H b ys/\xs[i]?=some x/\ys[i]?=some y,
   λi H v H'=>∃p x y,v=.ref p/\H p=none/\H'=Ak H p (.tup [x,y])/\(∀xs,Ai K H a xs->xs[i]?=some x)/\∀ys,Ai K H b ys->ys[i]?=some y,
   λi H=>∃xs ys,Ai K H a xs/\Ai K H b ys/\(xs.length<=i\/ys.length<=i)⟩
theorem R4{P:qR}{w:qS}{K:qT}{ctx}(a b z TI TO i1 i2:qP)(D:ZipApart z TI TO i1 i2 a b):
  Im P w K (.Tuple elts ctx tpos) (Z8 K a b) [z,TI,TO,i1,i2] z (λi h=>IsZip h z TI TO .none/\IsPair h TI (.ref i1) (.ref i2)/\(∃p q,IsPair h TO p q)/\h.IsListIter i1 a i/\h.IsListIter i2 b i) where
 mem:=by simp
 obj:=λi h st c hc=>by
  refine byG λGq hGq=>?_;obtain⟨q1,q2,⟨_,_,q3⟩,⟨o1,e1,c1,d1⟩,⟨o2,e2,c2,d2⟩⟩:=st;refine hGq ?_;clear hGq Gq;simp only[List.mem_cons,List.not_mem_nil,or_false]at hc;rcases hc with rfl|rfl|rfl|rfl|rfl
  ·exact⟨_,q1,λv y=>by cases y⟩
  ·exact⟨_,q2,λv y=>by cases y⟩
  ·exact⟨_,q3,λv y=>by cases y⟩
  ·exact⟨o1,e1,λv y=>by rw[d1]at y;cases y⟩
  ·exact⟨o2,e2,λv y=>by rw[d2]at y;cases y⟩
 keep:=λi h h' st k=>by refine byG λGq hGq=>?_;obtain⟨q1,q2,⟨p,q,q3⟩,l1,l2⟩:=st;refine hGq ?_;clear hGq Gq;exact⟨k z (by simp) _ q1,k TI (by simp) _ q2,⟨p,q,k TO (by simp) _ q3⟩,l1.at λo y=>k i1 (by simp) o y,l2.at λo y=>k i2 (by simp) o y⟩
 item:=by
  intro X hP hw hK hc i ad s σ H E I hf st hg;subst hP hw hK;refine byG λGq hGq=>?_;obtain⟨xs,ys,x,y,hq1,hq2,hx,hy⟩:=hg;refine hGq ?_;clear hGq Gq;refine byG λGq hGq=>?_;obtain⟨its1,rv1,p1,_⟩:=I.list hq1;refine hGq ?_;clear hGq Gq;refine byG λGq hGq=>?_;obtain⟨its2,rv2,p2,_⟩:=I.list hq2;refine hGq ?_;clear hGq Gq;obtain⟨u1,hu1,ru1⟩:=rv1.get hx;obtain⟨u2,hu2,ru2⟩:=rv2.get hy;refine byG λGq hGq=>?_;obtain⟨q1,q2,⟨p,q,q3⟩,l1,l2⟩:=st;refine hGq ?_;clear hGq Gq;refine wpAny_pyNext_zip_item D q1 q2 q3 l1 l2 p1.isList p2.isList (x:=u1) (y:=u2) (by simpa using hu1) (by simpa using hu2) λh1 z1 t1 m1 m2 tt hsz k1=>?_;refine⟨_,rfl,wpAny_letOwnedTupleGo_zip z1 λh2 z2 sb=>?_⟩
  have k2:∀c o,c∉[z,TI,TO,i1,i2]->s.heap.get? c=some o->h2.get? c=some o:=λc o hc e=>by
   have n1:c≠z:=λy=>hc (by simp[y])
   exact (sb.2 c n1).trans (k1 c o n1 (λy=>hc (by simp[y])) (λy=>hc (by simp[y])) (λy=>hc (by simp[y])) e)
  have hpz:s.heap.objs.size≠z:=du (bM q1);have tt2:IsPair h2 s.heap.objs.size u1 u2:=(sb.2 _ hpz).trans tt;have hn:H s.heap.objs.size=none:=I.hok.fresh (bD _);have q2':IsPair h2 TI (.ref i1) (.ref i2):=(sb.2 TI D.TIz).trans (k1 TI _ D.TIz D.TITO D.TIi1 D.TIi2 q2);refine⟨.ref s.heap.objs.size,Ak H s.heap.objs.size (.tup [x,y]),I.turnedNew (h':=h2) (t':=s.toks) hf k2 (bD _) ?_,rfl,⟨_,x,y,rfl,hn,rfl,λys' h=>by rw[I.list_inj h hq1];exact hx,λys' h=>by rw[I.list_inj h hq2];exact hy⟩,⟨z2,q2',⟨u1,u2,(sb.2 TO D.TOz).trans t1⟩,m1.at λo e=>(sb.2 i1 D.i1z).trans e,m2.at λo e=>(sb.2 i2 D.i2z).trans e⟩,λc hc=>?_⟩
  ·exact⟨by show 2<=sizeLine;decide,[u1,u2],.cons ru1 (.cons ru2 .nil),⟨_,tt2,rfl,_,rfl⟩⟩
  ·have c0:=(hf c hc).1;rw[AJ λe=>?_]
   ·exact c0
   ·obtain⟨o1,e1,_⟩:=id l1;obtain⟨o2,e2,_⟩:=id l2;have bad:∀{o:Obj},s.heap.get? c=some o->False:=λg=>qE (bM g) (by rw[e];exact bx _)
    simp only[List.mem_cons,List.not_mem_nil,or_false]at hc;rcases hc with y|y|y|y|y
    ·exact bad (y▸q1)
    ·exact bad (y▸q2)
    ·exact bad (y▸q3)
    ·exact bad (y▸e1)
    ·exact bad (y▸e2)
 done:=by
  intro X hP hw hK hc i ad s σ H E I hf st hg;subst hP hw hK;refine byG λGq hGq=>?_;obtain⟨xs,ys,hq1,hq2,hend⟩:=hg;refine hGq ?_;clear hGq Gq;refine byG λGq hGq=>?_;obtain⟨its1,rv1,p1,_⟩:=I.list hq1;refine hGq ?_;clear hGq Gq;refine byG λGq hGq=>?_;obtain⟨its2,rv2,p2,_⟩:=I.list hq2;refine hGq ?_;clear hGq Gq;refine byG λGq hGq=>?_;obtain⟨q1,q2,⟨p,q,q3⟩,l1,l2⟩:=st;refine hGq ?_;clear hGq Gq;have hl1:=rv1.length;have hl2:=rv2.length;refine wpAny_pyNext_zip_end (I.ok.hd hc) D q1 q2 q3 l1 l2 p1.isList p2.isList (hend.imp (λz=>by simp;lia) λz=>by simp;lia) λh1 k1=>⟨rfl,I.turnedAll (t':=s.toks) hf λc o hc e=>?_⟩
  exact k1 c o (λy=>hc (by simp[y])) (λy=>hc (by simp[y])) (λy=>hc (by simp[y])) (λy=>hc (by simp[y])) e
 self:=λ_ _ _ _ _ st h=>wpAny_pyIter_zip st.1 h
section
variable{ctx}
def Z9(K:qT)(ta:TA):TI:=λσ H R=>ta σ H λvs H1=>∃a b xs ys,vs=[.ref a,.ref b]/\Ai K H1 a xs/\Ai K H1 b ys/\R (Z8 K a b) H1
theorem Vs{l r:Expr}{p pos:Pos}(hg:Gl X "zip")(hm:X.mg "zip"=none)(ha:PA X [l,r] ta)(hs:starEach [l,r] X.env=[(false,eval l X.env),(false,eval r X.env)]:=by rfl)(hs2:starEach [r] X.env=[(false,eval r X.env)]:=by rfl):PI X (.Tuple elts ctx tpos) (.Call (.Name "zip" p) [l,r] [] pos) (Z9 X.K ta):=by
 intro ad s σ H R I h;refine Call_ (DP I hg hm boot_zip (cD (BU (ha pos ad s σ H _ I h) λus s1 z8=>?_) (by rw[hs,hs2]) (by rw[hs2];rfl)));refine byG λGq hGq=>?_;obtain⟨vs,H1,I1,r1,q1⟩:=z8;refine hGq ?_;clear hGq Gq;refine byG λGq hGq=>?_;obtain⟨a,b,xs,ys,e,hq1,hq2,q⟩:=q1;refine hGq ?_;clear hGq Gq;subst e;cases r1 with
 |cons ra rr =>
  cases rr with
  |cons rb rr =>
   cases rr;cases ra;cases rb;refine byG λGq hGq=>?_;obtain⟨its1,rv1,p1,_⟩:=I1.list hq1;refine hGq ?_;clear hGq Gq;refine byG λGq hGq=>?_;obtain⟨its2,rv2,p2,_⟩:=I1.list hq2;refine hGq ?_;clear hGq Gq;have alt:a<s1.heap.objs.size:=by obtain⟨o,e,_⟩:=p1.isList;exact bM e
   have blt:b<s1.heap.objs.size:=by obtain⟨o,e,_⟩:=p2.isList;exact bM e
   refine call_zip_2 p1.isList p2.isList λh1 z1 t1 t2 l1 l2 hsz k1=>?_;refine wpAny_pyIter_zip z1 ?_;have fr:∀k:Nat,Ek X ad H1 (s1.heap.objs.size+k):=λk=>I1.fpOk (Nat.le_add_right _ _) (I1.hok.fresh (Nat.le_add_right _ _))
   refine⟨s1.heap.objs.size+4,[s1.heap.objs.size+4,s1.heap.objs.size+2,s1.heap.objs.size+3,s1.heap.objs.size,s1.heap.objs.size+1],_,_,H1,rfl,I1.kept (t':=s1.toks) k1,R4 a b _ _ _ _ _ (zipApart_new alt blt),⟨z1,t1,⟨_,_,t2⟩,l1,l2⟩,λc hc=>?_,q⟩;simp only[List.mem_cons,List.not_mem_nil,or_false]at hc;rcases hc with rfl|rfl|rfl|rfl|rfl
   ·exact fr 4
   ·exact fr 2
   ·exact fr 3
   ·exact fr 0
   ·exact fr 1
end
end L2
namespace L2
open PySem PySem.Spec PyProof.Rows RW
variable{M' k m':Nat}{g lo lo' low':Int}{g7 tab':qU}
theorem FT{l:qU}{n:Nat}(h:k<n):(l.take n).getD k 0=l.getD k 0:=by rw[a8,List.getElem?_take,qD h,a8]
def A9(g lo:Int)(g7:qU)(m:Nat)(lf:Int)(tf:qU)(mf:Nat):Prop:=∃(low:Int) (M:Nat),Da g lo g7 m low M/\lf=low/\((M=1/\mf=2/\tf=EK g low (EK g lo g7 m low 1) 1 low 2)\/(2<=M/\mf=M/\tf=EK g lo g7 m low M))
theorem R6(hg:2<=g){m:Nat}(hl:(g7.length:Int)=g^m){low:Int}{M:Nat}(n:Da g lo g7 m low M)(n':Da g lo g7 m low' M'):low=low'/\M=M':=by
 obtain⟨e1,e2⟩:=(EN hg hl hl n n').mp λ_ _=>rfl
 refine⟨e1,?_⟩;have a:=Bs hg lo g7 m low M;rw[e2,Bs hg]at a;exact (Df hg a).symm
theorem Jb(g lo:Int)(g7:qU)(m:Nat):∃low M,Da g lo g7 m low M:=by
 by_cases hc:Bp g lo g7 m=[]
 ·exact⟨0,1,Ml hc⟩
 ·obtain⟨M,_,_,hW⟩:=Ku hc;exact⟨_,M,hW⟩
variable{lf:Int}{tf:qU}{mf:Nat}
theorem A9.two{m:Nat}(h:A9 g lo g7 m lf tf mf):2<=mf:=by
 obtain⟨low,M,_,_,z|z⟩:=h
 ·lia
 ·lia
inductive FU(CT:qP)(vs:List V)(H:Hp)(Q:VK)(E:XK):Prop
 |m (r:qP) (g lo:Int) (g7:qU) (m:Nat) (lf:Int) (tf:qU) (mf:Nat):vs=[.ref r]->AY H r g lo g7 m->A9 g lo g7 m lf tf mf->(g^(mf-1)<=9->∀r' H',AH H H'->AY H' r' g lf tf mf->Q (.ref r') H')->(9<g^(mf-1)->∀H',AH H H'->E (.ref CT) none H')->FU CT vs H Q E
theorem A9.le(hg:2<=g){m:Nat}(fw:A9 g lo g7 m lf tf mf)(hl:(g7.length:Int)=g^m)(hl':(tab'.length:Int)=g^m')(al:Fy g lo g7 m lo' tab' m'):mf<=max 2 m':=by
 obtain⟨low,M,n,rfl,z⟩:=fw;obtain⟨low',M',n'⟩:=Jb g lo' tab' m';obtain⟨e1,e2⟩:=(EN hg hl hl' n n').mp al;have a:=Bs hg lo g7 m lf M;rw[e2,Bs hg]at a;have eM:=Df hg a
 have:M'<=max 1 m':=by rcases n'.ends with⟨_,_,y⟩|⟨j0,j1,_,_,_,_,_,_⟩<;>lia
 rcases z with z|z<;>lia
theorem R7(hg:2<=g)(lo:Int){m:Nat}:∃lf tf mf,A9 g lo g7 m lf tf mf:=by
 obtain⟨low,M,n⟩:=Jb g lo g7 m;have:=n.one
 by_cases z:M=1
 ·subst z;exact⟨_,_,_,low,1,n,rfl,.inl ⟨rfl,rfl,rfl⟩⟩
 ·exact⟨_,_,_,low,M,n,rfl,.inr ⟨by lia,rfl,rfl⟩⟩
end L2
namespace L2
variable{g:Int}{k:Nat}
noncomputable def Dg(g:Int)(ta:qU)(ma:Nat)(tb:qU)(M:Nat):qU:=(List.range (g^M).toNat).map λn:Nat=>tb.getD (Ao g (BB g ta ma (Ad g (n:Int) M))).toNat 0
theorem Kz(hg:2<=g)(ta:qU)(ma:Nat)(tb:qU)(M:Nat):((Dg g ta ma tb M).length:Int)=g^M:=by unfold Dg;rw[a9,bO,bN (cn (RW.Aa hg M))]
theorem R8(hg:2<=g)(ta:qU)(ma:Nat){tb:qU}(hb:∀n∈tb,0<=n/\n<g)(M:Nat):∀n∈Dg g ta ma tb M,0<=n/\n<g:=λn hn=>by unfold Dg at hn;obtain⟨j,_,e⟩:=bR.mp hn;subst e;exact Br hg hb _
theorem Fz(hg:2<=g)(ta:qU)(ma:Nat)(tb:qU){w:qU}(hb:∀n∈w,0<=n/\n<g):(Dg g ta ma tb w.length).getD (Ao g w).toNat 0=tb.getD (Ao g (BB g ta ma w)).toNat 0:=by have b:=BL hg hb;unfold Dg;rw[AS (by lia),show (((Ao g w).toNat:Nat):Int)=Ao g w by lia,CF hg hb]
theorem K0(ring:qU){M m:Nat}(z:Int)(h:k+m<=M):((AZ ring M z).drop k).take m=AZ ring m (z+(k:Int)):=by
 unfold AZ;rw[<-List.map_drop,<-fj,Eh _ _ _ h,cp];refine bZ λj _=>?_;show Ah ring (z+((k+j:Nat):Int))=_
 congr 1
 lia
theorem DV(hg:2<=g)(loa lob:Int)(ta:qU){ma:Nat}(tb:qU){mb:Nat}(hma:1<=ma)(hmb:1<=mb){ring:qU}(hb:∀n∈ring,0<=n/\n<g)(h:1<=ring.length):Al g (loa+lob) (Dg g ta ma tb (ma+mb-1)) (ma+mb-1) ring=Al g lob tb mb (Al g loa ta ma ring):=by
 unfold Al;rw[a9,bO];refine bZ λi _=>?_;have wb:=Cp hg hb (ma+mb-1) ((i:Int)+(loa+lob));have e:=Fz hg ta ma tb wb;rw[A4]at e;rw[e]
 congr 3
 refine Aq ?_ λk hk=>?_
 ·rw[Bh,A4,A4];lia
 rw[Bh,A4]at hk
 have e1:(BB g ta ma (AZ ring (ma+mb-1) ((i:Int)+(loa+lob)))).getD k 0=N4 g ta ma (AZ ring (ma+mb-1) ((i:Int)+(loa+lob))) k:=by unfold BB;exact AS (by rw[A4];exact hk)
 have e2:(AZ ((List.range ring.length).map λi:Nat=>ta.getD (Ao g (AZ ring ma ((i:Int)+loa))).toNat 0) mb ((i:Int)+lob)).getD k 0=Ah ((List.range ring.length).map λi:Nat=>ta.getD (Ao g (AZ ring ma ((i:Int)+loa))).toNat 0) ((i:Int)+lob+(k:Int)):=by unfold AZ;exact AS (by lia)
 have e3:=GR (g:=g) (lo:=loa) (g7:=ta) (m:=ma) h ((i:Int)+lob+(k:Int));unfold Al at e3;rw[e1,e2,e3];unfold N4;rw[K0 ring _ (by lia)]
 congr 4
 lia
end L2
namespace L2
open PySem PySem.Spec PyProof.Rows RW
variable{G M' k m' mf:Nat}{H H':Hp}{g lf lo lo' low':Int}{g7 tab' tf ws:qU}{α β:Type}
theorem Mu(hg:2<=g){m:Nat}(hl:(g7.length:Int)=g^m)(hl':(tab'.length:Int)=g^m')(al:Fy g lo g7 m lo' tab' m'){low:Int}{M:Nat}(n:Da g lo g7 m low M)(n':Da g lo' tab' m' low' M'):low=low'/\M=M'/\EK g lo g7 m low M=EK g lo' tab' m' low' M':=by obtain⟨e1,e2⟩:=(EN hg hl hl' n n').mp al;have a:=Bs hg lo g7 m low M;rw[e2,Bs hg]at a;exact⟨e1,(Df hg a).symm,e2⟩
theorem E7(hg:2<=g){m:Nat}(hl:(g7.length:Int)=g^m){low:Int}{M:Nat}(n:Da g lo g7 m low M):Fy g low (EK g lo g7 m low M) M lo g7 m:=λx hx=>FR hg hl n.all hx
theorem Cs(hg:2<=g){m:Nat}(al:Fy g lo g7 m lo' tab' m'){ring:qU}(hb:∀n∈ring,0<=n/\n<g):Al g lo g7 m ring=Al g lo' tab' m' ring:=by
 unfold Al;refine bZ λi _=>?_;have z:=al (λz=>Ah ring ((i:Int)+z)) λz=>Br hg hb _
 unfold Mp at z
 have e:∀(l:Int) (k:Nat),Fe (λz=>Ah ring ((i:Int)+z)) l k=AZ ring k ((i:Int)+l):=λl k=>by
  unfold Fe AZ;refine bZ λj _=>?_;show Ah ring ((i:Int)+(l+(j:Int)))=_
  congr 1;lia
 rw[e,e]at z;exact z
def X8(g lo:Int)(g7:qU)(m:Nat)(g' lo':Int)(tab':qU)(m':Nat)(A B:Prop)(R:Int->qU->Nat->Prop):Prop:=
 (g≠g'/\A)\/(g=g'/\∃(low:Int) (M:Nat) (low':Int) (M':Nat),Da g lo g7 m low M/\Da g lo' tab' m' low' M'/\((256<g^(M+M'-1)/\B)\/(g^(M+M'-1)<=256/\∀(lj:Int) (Mj:Nat),Da g (low+low') (Dg g (EK g lo g7 m low M) M (EK g lo' tab' m' low' M') (M+M'-1)) (M+M'-1) lj Mj->R lj (EK g (low+low') (Dg g (EK g lo g7 m low M) M (EK g lo' tab' m' low' M') (M+M'-1)) (M+M'-1) lj Mj) Mj)))
inductive Jc(CN CT:qP)(vs:List V)(H:Hp)(Q:VK)(E:XK):Prop
 |m (r r':qP) (g lo:Int) (g7:qU) (m:Nat) (g' lo':Int) (tab':qU) (m':Nat):vs=[.ref r,.ref r']->AY H r g lo g7 m->AY H r' g' lo' tab' m'->(X8 g lo g7 m g' lo' tab' m' (∀H',AH H H'->E (.ref CN) none H') (∀H',AH H H'->E (.ref CT) none H') λlj tj Mj=>∀rj H',AH H H'->AY H' rj g lj tj Mj->Q (.ref rj) H')->Jc CN CT vs H Q E
theorem EO{l:List α}{F G:α->List β}(h:∀a∈l,F a=G a):l.flatMap F=l.flatMap G:=by
 induction l with
 |nil=>rfl
 |cons a r ih=>rw[cP,cP,h a bf,ih λb hb=>h b (be _ hb)]
theorem OM(hg:2<=g){a b:Nat}{i j:Int}(i0:0<=i)(i1:i<g^a)(j0:0<=j)(j1:j<g^b):Ad g (i*g^b+j) (a+b)=Ad g i a++Ad g j b:=by
 have hb:∀x∈Ad g i a++Ad g j b,0<=x/\x<g:=λx hx=>(bJ.mp hx).elim (BQ hg _ _ x) (BQ hg _ _ x)
 have e:=CF hg hb;rw[B9,Au,C3 hg i0 i1,C3 hg j0 j1,bC,Au,Au]at e;exact e
theorem ON(A B:Nat):List.range (A*B)=(List.range A).flatMap λi=>(List.range B).map λj=>i*B+j:=by
 induction A with
 |zero=>rw[Nat.zero_mul];rfl
 |succ A ih =>
  rw[Nat.succ_mul,b8,dM,<-ih,List.range_add];simp
noncomputable def CZ(g:Int)(m:Nat):List (qU):=(List.range (g^m).toNat).map λn:Nat=>Ad g (n:Int) m
theorem OO(g:Int):CZ g 0=[[]]:=by unfold CZ;rw[cN];rfl
theorem T7(hg:2<=g)(a b:Nat):(g^(a+b)).toNat=(g^a).toNat*(g^b).toNat:=by have pa:=RW.Aa hg a;have pb:=RW.Aa hg b;rw[Int.pow_add,Int.toNat_mul (cn pa) (cn pb)]
theorem K1(hg:2<=g)(a b:Nat):CZ g (a+b)=(CZ g a).flatMap λu=>(CZ g b).map (u++·):=by have pa:=RW.Aa hg a;have pb:=RW.Aa hg b;unfold CZ;rw[T7 hg,ON,List.map_flatMap,fc];refine EO λi hi=>?_;rw[cp,cp];refine bZ λj hj=>?_;have hi':=bW.mp hi;have hj':=bW.mp hj;show Ad g ((i*(g^b).toNat+j:Nat):Int) (a+b)=Ad g (i:Int) a++Ad g (j:Int) b;rw[<-OM hg (by lia) (by lia) (by lia) (by lia),dC,cS,bN (cn pb)]
theorem R9(hg:2<=g){n:Nat}(h:(n:Int)<g):Ad g (n:Int) 1=[(n:Int)]:=by show[(n:Int)%g]=_;rw[cE (by lia) h]
theorem OP(hg:2<=g)(n:Nat):CZ g (n+1)=(List.range g.toNat).flatMap λj:Nat=>(CZ g n).map ((j:Int)::·):=by rw[gB,K1 hg];unfold CZ;rw[show g^1=g by rw[bq,cN,cj],fc];refine EO λj hj=>?_;have hj':=bW.mp hj;rw[R9 hg (by lia)];rfl
noncomputable def KW(G:Nat)(g7:qU):qU->Nat->List (qU)
 |[],_=>[[]]
 |s::r,h=>(Ci G g7 h s).flatMap λf=>(KW G g7 r (f%(g7.length/G))).map (((f%G:Nat):Int)::·)
theorem GZ(l:List Nat):((l.sum:Nat):Int)=(l.map λn:Nat=>(n:Int)).sum:=by
 induction l with
 |nil=>rfl
 |cons a r ih=>rw[fJ,cI,fJ,dC,ih]
theorem FV(G:Nat)(g7:qU):∀(r:qU) (h:Nat),((KW G g7 r h).length:Int)=cnt G g7 r h
 |[],_=>rfl
 |s::r,h=>by
  rw[KW,List.length_flatMap,GZ,cp,<-JU]
  congr 1
  refine bZ λf _=>?_;show (((KW G g7 r (f%(g7.length/G))).map _).length:Int)=_;rw[a9,FV G g7 r]
theorem QS(hg:2<=g){m:Nat}(hl:(g7.length:Int)=g^m)(hm:1<=m){w:qU}(hw:w.length=m-1){x:Int}(hb:∀n∈w++[x],0<=n/\n<g):∃w':qU,w'.length=m-1/\(∀n∈w',0<=n/\n<g)/\((Ao g w).toNat*g.toNat+x.toNat)%(g7.length/g.toNat)=(Ao g w').toNat/\∀r,BB g g7 m (w++x::r)=g7.getD ((Ao g w).toNat*g.toNat+x.toNat) 0::BB g g7 m (w'++r):=by
 have hx:=hb x (by simp)
 obtain⟨y,w',e⟩:∃y w',w++[x]=y::w':=by
  cases w with
  |nil=>exact⟨x,[],rfl⟩
  |cons a t=>exact⟨a,t++[x],rfl⟩
 have e2:∀r,w++x::r=y::(w'++r):=λr=>by rw[<-List.cons_append,<-e,dj];rfl
 have hw':w'.length=m-1:=by have:=qN List.length e;rw[bC,cK]at this;simp only[List.length_cons,List.length_nil]at this;lia
 have hbw:∀n∈w,0<=n/\n<g:=λn hn=>hb n (bJ.mpr (.inl hn))
 have hbw':∀n∈w',0<=n/\n<g:=λn hn=>hb n (by rw[e];exact be _ hn)
 have hd:=BH hg hl hm;have b1:=BL hg hbw;have b2:=BL hg hbw';rw[hw']at b2;have nx:Ao g [x]=x:=by show 0*g+x=x;rw[cT,bg]
 refine⟨w',hw',hbw',?_,λr=>?_⟩
 ·have z:Ao g w*g+x=Ao g w'+y*g^(m-1):=by
   have q:=qN (Ao g) e;rw[B9,show y::w'=[y]++w' from rfl,B9,hw']at q;have ny:Ao g [y]=y:=by show 0*g+y=y;rw[cT,bg]
   rw[nx,ny]at q;have g1:g^([x]:qU).length=g:=by show g^1=g;rw[bq,cN,cj]
   rw[g1]at q;lia
  apply Int.ofNat.inj;show (((Ao g w).toNat*g.toNat+x.toNat)%(g7.length/g.toNat):Nat)=(((Ao g w').toNat:Nat):Int);rw[cW,dC,cS,hd.1,bN b1.1,bN (by lia),bN hx.1,bN b2.1,z,cH y,dP,cE b2.1 b2.2]
 ·rw[e2 r,QP (by rw[bC];lia)]
  congr 1
  unfold N4
  have t1:(List.drop 0 (y::(w'++r))).take m=w++[x]:=by rw[List.drop_zero,<-List.cons_append,<-e,List.take_append_of_le_length (by simp only[List.length_append,List.length_cons,List.length_nil];lia),List.take_of_length_le (by simp only[List.length_append,List.length_cons,List.length_nil];lia)]
  rw[t1,B9]
  congr 1
  show (Ao g w*g^1+Ao g [x]).toNat=_;rw[nx,bq,cN,cj,Int.toNat_add (Int.mul_nonneg b1.1 (by lia)) hx.1,Int.toNat_mul b1.1 (by lia)]
theorem Mv(p:α->Bool)(F:α->List β)(l:List α):(l.filter p).flatMap F=l.flatMap λa=>if p a then F a else[]:=by
 induction l with
 |nil=>rfl
 |cons a r ih =>
  rw[fC,cP];split
  ·rw[cP,ih]
  ·rw[ih];rfl
theorem Hs(p:β->Bool)(F:α->List β)(l:List α):(l.flatMap F).filter p=l.flatMap λa=>(F a).filter p:=by
 induction l with
 |nil=>rfl
 |cons a r ih=>rw[cP,cL,ih,cP]
theorem Mw(hg:2<=g){m:Nat}(hl:(g7.length:Int)=g^m)(hm:1<=m):∀(row w:qU),w.length=m-1->(∀n∈w,0<=n/\n<g)->(CZ g row.length).filter (λc=>decide (BB g g7 m (w++c)=row))=KW g.toNat g7 row (Ao g w).toNat
 |[],w,hw,_=>by show (CZ g 0).filter _=[[]];rw[OO];have:BB g g7 m w=[]:=Mn (by lia);simp[this]
 |s::r,w,hw,hb=>by
  show (CZ g (r.length+1)).filter _=_;rw[OP hg,Hs,KW];unfold Ci;rw[fc,Mv];refine EO λj hj=>?_;have hj':=bW.mp hj;refine byG λGq hGq=>?_;obtain⟨w',hw',hbw',hmod,hled⟩:=QS hg hl hm hw (x:=(j:Int)) (λn hn=>(bJ.mp hn).elim (hb n) λz=>by rw[bL.mp z];lia);refine hGq ?_;clear hGq Gq;rw[bI]at hmod hled;have ih:=Mw hg hl hm r w' hw' hbw';rw[List.filter_map];have jm:((Ao g w).toNat*g.toNat+j)%g.toNat=j:=by rw[Nat.mul_add_mod_self_right,Nat.mod_eq_of_lt hj']
  by_cases e:g7.getD ((Ao g w).toNat*g.toNat+j) 0=s
  ·rw[qD (qF e),hmod,jm,<-ih]
   congr 1
   refine List.filter_congr λc _=>?_;show decide (BB g g7 m (w++(j:Int)::c)=s::r)=_;rw[hled,e];simp
  ·rw[qC (by rw[qG e];decide)];have:(CZ g r.length).filter ((λc=>decide (BB g g7 m (w++c)=s::r))∘λx=>(j:Int)::x)=[]:=by rw[List.filter_eq_nil_iff];intro c _;show ¬decide (BB g g7 m (w++(j:Int)::c)=s::r)=true;rw[decide_eq_true_iff,hled];exact λz=>e (List.cons.inj z).1
   rw[this];rfl
noncomputable def Dm(g:Int)(g7:qU)(m:Nat)(row:qU):List (qU):=(List.range (g7.length/g.toNat)).flatMap λh=>(KW g.toNat g7 row h).map (Ad g (h:Int) (m-1)++·)
theorem K2(hg:2<=g){m:Nat}(hl:(g7.length:Int)=g^m)(hm:1<=m)(row:qU):(CZ g (row.length+m-1)).filter (λw=>decide (BB g g7 m w=row))=Dm g g7 m row:=by have hd:=BH hg hl hm;have hp:=RW.Aa hg (m-1);rw[show row.length+m-1=(m-1)+row.length by lia,K1 hg,Hs];unfold Dm;show ((List.range (g^(m-1)).toNat).map λn:Nat=>Ad g (n:Int) (m-1)).flatMap _=_;rw[fc,show (g^(m-1)).toNat=g7.length/g.toNat by lia];refine EO λh hh=>?_;have hh':=bW.mp hh;rw[List.filter_map];have e:=Mw hg hl hm row (Ad g (h:Int) (m-1)) (Au _ _ _) (BQ hg _ _);rw[C3 hg (by lia) (by lia),bI]at e;rw[<-e];rfl
theorem Lo(g7:qU)(m:Nat)(row:qU):((Dm g g7 m row).length:Int)=Fi g.toNat g7 row:=by
 unfold Dm;rw[List.length_flatMap,GZ,cp];show _=Ae _ _;unfold Ae
 congr 1
 refine bZ λh _=>?_;show (((KW g.toNat g7 row h).map _).length:Int)=_;rw[a9,FV]
theorem Jd(F:α->List β):∀(l:List α) (k rest:Nat) (a:α),l[k]?=some a->rest<(F a).length->(l.flatMap F)[((l.take k).map λx=>(F x).length).sum+rest]?=(F a)[rest]?
 |[],k,rest,a,h,_=>by simp at h
 |b::l,0,rest,a,h,hr=>by
  have:b=a:=by simpa using h
  subst this;rw[List.take_zero,f7,List.sum_nil,Nat.zero_add,cP,bU hr]
 |b::l,k+1,rest,a,h,hr=>by rw[List.take_succ_cons,cI,fJ,cP,Nat.add_assoc,bS (by lia),d5];exact Jd F l k rest a (by simpa using h) hr
theorem KY{ps:qU}(h:k<ps.length):(ps.take (k+1)).sum=(ps.take k).sum+ps.getD k 0:=by rw[cf,bA h,fk,a8,bA h];simp
inductive Je(vs:List V)(H:Hp)(Q:VK)(z3_:XK):Prop
 |m (p:qP) (ps:qU) (n:Int):vs=[.ref p,.int n]->H p=some (.lst (ps.map V.int))->0<=n->n<ps.sum->(∀(k rest:Nat) (b:qP) (H':Hp),AH H H'->k<ps.length->(rest:Int)<ps.getD k 0->n=(ps.take k).sum+(rest:Int)->H' b=some (.tup [.int ((k:Nat):Int),.int ((rest:Nat):Int)])->Q (.ref b) H')->Je vs H Q z3_
inductive Jf(K:qT)(vs:List V)(H:Hp)(Q:VK)(z3_:XK):Prop
 |m (r a p:qP) (g lo:Int) (g7:qU) (m:Nat) (row:qU) (n:Nat):vs=[.ref r,.ref a,.ref p,.int ((n:Nat):Int)]->AY H r g lo g7 m->Ai K H a (row.map V.int)->row.length<=100->Uw H p g.toNat g7 row->(n:Int)<Fi g.toNat g7 row->(∀q H' w,(Dm g g7 m row)[n]?=some w->Dv H H' q w->Q (.ref q) H')->Jf K vs H Q z3_
variable{c:qU}
theorem Vt{m:Nat}{row:qU}{h rest n:Nat}(hh:h<g7.length/g.toNat)(hr:(rest:Int)<cnt g.toNat g7 row h)(hn:(n:Int)=((E4 g.toNat g7 row).take h).sum+(rest:Int))(hc:(KW g.toNat g7 row h)[rest]?=some c):(Dm g g7 m row)[n]?=some (Ad g (h:Int) (m-1)++c):=by
 have hl:=FV g.toNat g7 row h;have z:=Jd (λh:Nat=>(KW g.toNat g7 row h).map (Ad g (h:Int) (m-1)++·)) (List.range (g7.length/g.toNat)) h rest h (by rw[cV hh]) (by rw[a9];lia)
 have en:n=(((List.range (g7.length/g.toNat)).take h).map λx:Nat=>((KW g.toNat g7 row x).map (Ad g (x:Int) (m-1)++·)).length).sum+rest:=by
  apply Int.ofNat.inj;show (n:Int)=((_:Nat):Int);rw[hn,dC,GZ,cp]
  congr 1
  unfold E4;rw[<-fj]
  congr 1
  refine bZ λx _=>?_;show _=(((KW g.toNat g7 row x).map _).length:Int);rw[a9,FV]
 rw[<-en]at z;unfold Dm;rw[z,bF,hc];rfl
theorem X9{s:Int}{r:qU}{h rest n f:Nat}(hf:(Ci G g7 h s)[k]?=some f)(hr:(rest:Int)<cnt G g7 r (f%(g7.length/G)))(hn:(n:Int)=(((Ci G g7 h s).map λf=>cnt G g7 r (f%(g7.length/G))).take k).sum+(rest:Int))(hc:(KW G g7 r (f%(g7.length/G)))[rest]?=some c):(KW G g7 (s::r) h)[n]?=some (((f%G:Nat):Int)::c):=by
 have hl:=FV G g7 r (f%(g7.length/G));have z:=Jd (λf:Nat=>(KW G g7 r (f%(g7.length/G))).map (((f%G:Nat):Int)::·)) (Ci G g7 h s) k rest f hf (by rw[a9];lia)
 have en:n=(((Ci G g7 h s).take k).map λx:Nat=>((KW G g7 r (x%(g7.length/G))).map (((x%G:Nat):Int)::·)).length).sum+rest:=by
  apply Int.ofNat.inj;show (n:Int)=((_:Nat):Int);rw[hn,dC,GZ,cp]
  congr 1
  rw[<-fj]
  congr 1
  refine bZ λx _=>?_;show _=(((KW G g7 r (x%(g7.length/G))).map _).length:Int);rw[a9,FV]
 rw[<-en]at z;rw[KW,z,bF,hc];rfl
theorem Ga(g x:Int)(r:qU):Ao g (x::r)=x*g^r.length+Ao g r:=by
 have e:=B9 g [x] r;have nx:Ao g [x]=x:=by show 0*g+x=x;rw[cT,bg]
 rw[nx]at e;exact e
noncomputable def S8(G:Nat)(g7:qU)(h:Nat):qU->Nat->Nat->Int
 |[],u,v=>if u=v then 1 else 0
 |s::r,u,v=>Ae G λj=>F9 (decide (g7.getD (u*G+j) 0=s)) (S8 G g7 h r ((u*G+j)%h) v)
theorem QT(hg:2<=g){m:Nat}(hl:(g7.length:Int)=g^m)(hm:1<=m){w:qU}(hw:w.length=m-1){x:Int}(hb:∀n∈w++[x],0<=n/\n<g):((Ao g w).toNat*g.toNat+x.toNat)%(g7.length/g.toNat)=(Ao g ((w++[x]).drop 1)).toNat:=by
 have hd:=BH hg hl hm;have hx:=hb x (by simp);have wb:∀n∈w,0<=n/\n<g:=λn hn=>hb n (bJ.mpr (.inl hn))
 have nw:=BL hg wb
 obtain⟨y,u,e⟩:∃y u,w++[x]=y::u:=by
  cases w with
  |nil=>exact⟨x,[],rfl⟩
  |cons y v=>exact⟨y,v++[x],rfl⟩
 have ul:u.length=m-1:=by have:=qN List.length e;rw[bC,cK]at this;simp only[List.length_cons,List.length_nil]at this;lia
 have ub:∀n∈u,0<=n/\n<g:=λn hn=>hb n (by rw[e];exact be _ hn)
 have nu:=BL hg ub;have yb:=hb y (by rw[e];exact bf ..);rw[ul]at nu;have gn:((g.toNat:Nat):Int)=g:=by lia
 have e1:Ao g (w++[x])=Ao g w*g+x:=Et ..;have e2:Ao g (w++[x])=y*g^(m-1)+Ao g u:=by rw[e,Ga,ul]
 rw[e,List.drop_succ_cons,fB];have z:(((Ao g w).toNat*g.toNat+x.toNat:Nat):Int)=Ao g w*g+x:=by rw[dC,cS,gn,bN nw.1,bN hx.1]
 have q:((((Ao g w).toNat*g.toNat+x.toNat)%(g7.length/g.toNat):Nat):Int)=Ao g u:=by rw[cW,z,hd.1,<-e1,e2,dR,Int.add_mul_emod_self_right,cE nu.1 nu.2]
 lia
theorem My{h u:Nat}(hu:u<h)(x:Int):Ae h (λk=>if k=u then x else 0)=x:=by
 have e:h=u+(1+(h-u-1)):=by lia
 rw[e,Bu,Bu]
 have a:Ae u (λk=>if k=u then x else 0)=0:=by rw[AT (g:=λ_=>0) λk hk=>qC (by lia),BC,bj]
 have b:Ae (h-u-1) (λk=>if u+(1+k)=u then x else 0)=0:=by rw[AT (g:=λ_=>0) λk hk=>qC (by lia),BC,bj]
 have c:Ae 1 (λk=>if u+k=u then x else 0)=x:=by rw[show (1:Nat)=0+1 from rfl,AX,A8,bg];exact qD rfl
 rw[a,b,c];lia
theorem T8(p:Bool)(n:Nat)(f:Nat->Int):F9 p (Ae n f)=Ae n λk=>F9 p (f k):=by
 cases p with
 |true=>rfl
 |false =>
  show (0:Int)=Ae n λ_=>0
  rw[BC,bj]
theorem A9.alike(hg:2<=g){m:Nat}(hl:(g7.length:Int)=g^m)(fw:A9 g lo g7 m lf tf mf):Fy g lf tf mf lo g7 m/\(tf.length:Int)=g^mf:=by
 obtain⟨low,M,n,rfl,⟨rfl,rfl,rfl⟩|⟨h2,rfl,rfl⟩⟩:=fw
 ·refine⟨λx hx=>?_,Bs hg ..⟩;rw[R0 hg (Bs hg ..) (dU _) (by lia) hx];exact E7 hg hl n x hx
 ·exact⟨E7 hg hl n,Bs hg ..⟩
def Ht(H:Hp)(g:Int)(z:V):Prop:=∃a xs,z=.ref a/\H a=some (.lst xs)/\(∃m:Nat,1<=m/\(xs.length:Int)=g^m)/\∀x∈xs,ME x=true
inductive Jg(C:qP)(vs:List V)(H:Hp)(Q:VK)(E:XK):Prop
 |m (g:Int) (z:V):vs=[.int g,z]->2<=g->g<=9->Fh H z->(Ht H g z->∀H',AH H H'->Q .non H')->(¬Ht H g z->∀H',AH H H'->E (.ref C) none H')->Jg C vs H Q E
theorem SA{w:qP}{m:Nat}(hw:H w=some (.lst (g7.map V.int)))(hl:(g7.length:Int)=g^m)(m1:1<=m):Ht H g (.ref w):=
 ⟨w,_,rfl,hw,⟨m,m1,by rw[a9];exact hl⟩,λx hx=>by
  obtain⟨n,_,rfl⟩:=bR.mp hx
  rfl⟩
theorem SC{z:V}(kz:Fh H z)(e:AH H H')(nz:¬Ht H g z):¬Ht H' g z:=by
 rintro⟨b,ys,rfl,hb,r⟩;obtain⟨xs,hs,_⟩:=kz;rcases hs with h|h
 ·have y:=e _ _ h;rw[hb]at y;cases y;exact nz ⟨b,_,rfl,h,r⟩
 ·have y:=e _ _ h;rw[hb]at y;cases y
noncomputable def Bk(g:Int)(g7:qU)(m:Nat)(ws:qU)(mw:Nat):qU:=(List.range ((g^(m-1)).toNat*ws.length)).map λn:Nat=>ws.getD (Ao g (BB g g7 m (Ad g (n:Int) (m+mw-1)))).toNat 0-ws.getD (n/(g^(m-1)).toNat) 0
theorem HM(g:Int)(g7:qU)(m:Nat)(ws:qU)(mw:Nat):(Bk g g7 m ws mw).length=(g^(m-1)).toNat*ws.length:=by unfold Bk;rw[List.length_map,List.length_range]
noncomputable def DB(G:Nat)(gs:qU):Nat->qU
 |0=>[0]
 |k+1=>DB G gs k++[(DB G gs k).getD ((k+1)/G) 0-gs.getD (k+1) 0]
theorem Cj(G:Nat)(gs:qU):∀k,(DB G gs k).length=k+1
 |0=>rfl
 |k+1=>by show (DB G gs k++[_]).length=_;rw[bC,Cj G gs k];rfl
noncomputable def BM(G:Nat)(gs:qU):qU:=DB G gs (gs.length/G-1)
def EQ(G:Nat)(gs fs:qU)(n:Nat):Prop:=gs.getD n 0≠fs.getD (n/G) 0-fs.getD (n%fs.length) 0
def DE(G:Nat)(gs fs:qU):Prop:=∀n,n<gs.length->¬EQ G gs fs n
inductive IZ(vs:List V)(H:Hp)(Q:VK)(z3_:XK):Prop
 |m (r w:qP) (g lo:Int) (g7:qU) (m:Nat) (xs:List V):vs=[.ref r,.ref w]->AY H r g lo g7 m->H w=some (.lst xs)->Q (.int (g^(m-1)*(xs.length:Int))) H->IZ vs H Q z3_
inductive HN(vs:List V)(H:Hp)(Q:VK)(z3_:XK):Prop
 |m (r w:qP) (g lo:Int) (g7:qU) (m mw:Nat) (xs:List V):vs=[.ref r,.ref w]->AY H r g lo g7 m->H w=some (.lst xs)->(xs.length:Int)=g^mw->Q (.int (((m+mw-1:Nat)):Int)) H->HN vs H Q z3_
inductive Lp(vs:List V)(H:Hp)(Q:VK)(z3_:XK):Prop
 |m (r w:qP) (g lo:Int) (g7:qU) (m mw:Nat) (ws:qU):vs=[.ref r,.ref w]->AY H r g lo g7 m->H w=some (.lst (ws.map V.int))->(ws.length:Int)=g^mw->1<=mw->g^(m-1)*(ws.length:Int)<=729->(∀p H',Dv H H' p (Bk g g7 m ws mw)->Q (.ref p) H')->Lp vs H Q z3_
inductive HP(vs:List V)(H:Hp)(Q:VK)(z3_:XK):Prop
 |m (p:qP) (g:Int) (gs:qU):vs=[.int g,.ref p]->2<=g->g<=9->H p=some (.lst (gs.map V.int))->g.toNat<=gs.length->gs.length<=729->(∀q H',Dv H H' q (BM g.toNat gs)->Q (.ref q) H')->HP vs H Q z3_
inductive ER(vs:List V)(H:Hp)(Q:VK)(z3_:XK):Prop
 |m (p q:qP) (g:Int) (gs fs:qU):vs=[.int g,.ref p,.ref q]->2<=g->g<=9->H p=some (.lst (gs.map V.int))->H q=some (.lst (fs.map V.int))->1<=fs.length->gs.length=fs.length*g.toNat->gs.length<=729->(DE g.toNat gs fs->∀H',AH H H'->Q .non H')->(∀n,n<gs.length->EQ g.toNat gs fs n->(∀k,k<n->¬EQ g.toNat gs fs k)->∀H',AH H H'->Q (.int ((n:Nat):Int)) H')->ER vs H Q z3_
def Vu(CT CW:qP)(g:Int)(mf:Nat)(z:V)(H:Hp)(E:XK)(R:qP->qU->Nat->Prop):Prop:=
 (9<g^(mf-1)/\∀H',AH H H'->E (.ref CT) none H')\/(g^(mf-1)<=9/\¬Ht H g z/\∀H',AH H H'->E (.ref CW) none H') \/
 ∃(w:qP) (ws:qU) (mw:Nat),g^(mf-1)<=9/\z=.ref w/\H w=some (.lst (ws.map V.int))/\(ws.length:Int)=g^mw/\1<=mw/\((729<g^(mf-1)*(ws.length:Int)/\∀H',AH H H'->E (.ref CT) none H')\/(g^(mf-1)*(ws.length:Int)<=729/\R w ws mw))
inductive HR(CT CW:qP)(vs:List V)(H:Hp)(Q:VK)(E:XK):Prop
 |m (r:qP) (g lo:Int) (g7:qU) (m:Nat) (lf:Int) (tf:qU) (mf:Nat) (z:V):vs=[.ref r,z]->AY H r g lo g7 m->A9 g lo g7 m lf tf mf->Fh H z->(Vu CT CW g mf z H E λw ws mw=>∀p H',Dv H H' p (Bk g tf mf ws mw)->Q (.ref p) H')->HR CT CW vs H Q E
inductive Jh(CT CW:qP)(vs:List V)(H:Hp)(Q:VK)(E:XK):Prop
 |m (r:qP) (g lo:Int) (g7:qU) (m:Nat) (lf:Int) (tf:qU) (mf:Nat) (z:V):vs=[.ref r,z]->AY H r g lo g7 m->A9 g lo g7 m lf tf mf->Fh H z->(Vu CT CW g mf z H E λw ws mw=>∀(b:Bool) (H':Hp),AH H H'->(b=true↔DE g.toNat (Bk g tf mf ws mw) (BM g.toNat (Bk g tf mf ws mw)))->Q (.bl b) H')->Jh CT CW vs H Q E
variable{mw:Nat}
theorem SD(g2:2<=g){m:Nat}(m1:2<=m){n:Nat}(hn:(n:Int)=g^mw)(w1:1<=mw):(g^(m-1)).toNat*n=(g^(m-1)).toNat*n/g.toNat*g.toNat/\1<=(g^(m-1)).toNat*n/g.toNat:=by
 have gp:=RW.Aa g2 (m-1);have wp:=RW.Aa g2 (mw-1)
 have e:n=(g^(mw-1)).toNat*g.toNat:=by
  have a:((( (g^(mw-1)).toNat*g.toNat:Nat)):Int)=g^mw:=by rw[cS,bN (by lia),bN (by lia),<-bq,show (mw-1).succ=mw by lia]
  lia
 have d:(g^(m-1)).toNat*n/g.toNat=(g^(m-1)).toNat*(g^(mw-1)).toNat:=by rw[e,<-fK,Nat.mul_div_cancel _ (by lia)]
 rw[d];refine⟨by rw[e,fK],?_⟩;exact Nat.mul_pos (by lia) (by lia)
variable{gs:qU}
theorem QU(g2:2<=g)(h:gs.length=gs.length/g.toNat*g.toNat)(h1:1<=gs.length/g.toNat):1<=(BM g.toNat gs).length/\gs.length=(BM g.toNat gs).length*g.toNat:=by
 have e:(BM g.toNat gs).length=gs.length/g.toNat:=by unfold BM;rw[Cj];lia
 rw[e];exact⟨h1,h⟩
theorem F0(ring:qU)(k:Nat)(z:Int):AZ ring (k+1) z=Ah ring z::AZ ring k (z+1):=by
 unfold AZ;rw[List.range_succ_eq_map,cI,cp]
 congr 1
 ·congr 1;lia
 ·refine bZ λj _=>?_;show Ah ring (z+((j+1:Nat):Int))=_
  congr 1;lia
theorem Ji(ring:qU)(k:Nat)(z:Int):AZ ring (k+1) z=AZ ring k z++[Ah ring (z+(k:Int))]:=by unfold AZ;rw[b8,bH];rfl
theorem Jj(ring:qU)(k:Nat){y z:Int}(h:y%(ring.length:Int)=z%(ring.length:Int)):AZ ring k y=AZ ring k z:=by
 unfold AZ;refine bZ λj _=>Cq ?_
 rw[eO,h,<-eO]
theorem Gb(n:Nat)(f g:Nat->Int):Ae n (λk=>f k-g k)=Ae n f-Ae n g:=by
 induction n with
 |zero=>rfl
 |succ n ih=>rw[AX,AX,AX,ih];lia
theorem QV(n:Nat)(f:Nat->Int):Ae n (λk=>f k-f (k+1))=f 0-f n:=by
 induction n with
 |zero=>rw[A8];lia
 |succ n ih=>rw[AX,ih];lia
theorem FW(g lo:Int)(g7:qU)(m:Nat)(ring:qU):(Al g lo g7 m ring).sum=Ae ring.length λi=>g7.getD (Ao g (AZ ring m ((i:Int)+lo))).toNat 0:=rfl
theorem SE(hg:2<=g)(g7:qU){m:Nat}(m1:1<=m)(w1:1<=mw)(wl:(ws.length:Int)=g^mw){w:qU}(hw:w.length=m+mw-1)(hb:∀x∈w,0<=x/\x<g):(Bk g g7 m ws mw).getD (Ao g w).toNat 0=ws.getD (Ao g (BB g g7 m w)).toNat 0-ws.getD (Ao g (w.take mw)).toNat 0:=by
 have b:=BL hg hb;have p:=RW.Aa hg (m-1);have e:g^w.length=g^(m-1)*g^mw:=by rw[hw,<-Int.pow_add];congr 1;lia
 have hn:(Ao g w).toNat<(g^(m-1)).toNat*ws.length:=by
  have:(((g^(m-1)).toNat*ws.length:Nat):Int)=g^(m-1)*g^mw:=by rw[cS,wl,bN (by lia)]
  lia
 unfold Bk;rw[AS hn,bN b.1,<-hw,CF hg hb]
 congr 2
 have tb:∀x∈w.take mw,0<=x/\x<g:=λx hx=>hb x (cO hx)
 have db:∀x∈w.drop mw,0<=x/\x<g:=λx hx=>hb x (cB hx)
 have t:=BL hg tb;have d:=BL hg db;have dl:(w.drop mw).length=m-1:=by rw[cA];lia
 have q:Ao g w=Ao g (w.take mw)*g^(m-1)+Ao g (w.drop mw):=by rw[<-dl,<-B9,dQ]
 rw[dl]at d
 have z:((((Ao g w).toNat/(g^(m-1)).toNat:Nat)):Int)=Ao g (w.take mw):=by rw[cz,bN b.1,bN (by lia),q,dR,Int.add_mul_ediv_right _ _ (by lia),dO d.1 d.2,bg]
 lia
theorem Jk(hg:2<=g)(g7:qU){m:Nat}(m1:1<=m)(w1:1<=mw)(wl:(ws.length:Int)=g^mw){ring:qU}(hb:∀x∈ring,0<=x/\x<g)(n1:1<=ring.length):
  (Al g 0 ws mw (Al g 0 g7 m ring)).sum-(Al g 0 ws mw ring).sum=Ae ring.length λi=>(Bk g g7 m ws mw).getD (Ao g (AZ ring (m+mw-1) (i:Int))).toNat 0:=by
 rw[<-DV hg 0 0 g7 ws m1 w1 hb n1,FW,FW,<-Gb];refine AT λi _=>?_;rw[dB,dB];have wb:=Cp hg hb (m+mw-1) (i:Int);have j:=Fz hg g7 m ws wb;rw[A4]at j;rw[SE hg g7 m1 w1 wl (A4 ..) wb,j]
 congr 3
 have:=K0 ring (M:=m+mw-1) (k:=0) (m:=mw) (i:Int) (by lia);rw[fB]at this;rw[this,show (i:Int)+((0:Nat):Int)=(i:Int) by lia]
noncomputable def Fj(G:Nat)(gs fs:qU)(n:Nat):Int:=gs.getD n 0-(fs.getD (n/G) 0-fs.getD (n%fs.length) 0)
theorem Jm(hg:2<=g)(gs:qU){fs:qU}(fl:(fs.length:Int)=g^k){ring:qU}(hb:∀x∈ring,0<=x/\x<g)(n1:1<=ring.length):
  (Ae ring.length λi=>gs.getD (Ao g (AZ ring (k+1) (i:Int))).toNat 0)=Ae ring.length λi=>Fj g.toNat gs fs (Ao g (AZ ring (k+1) (i:Int))).toNat:=by
 have gn:((g.toNat:Nat):Int)=g:=by lia
 have key:∀z:Int,(Ao g (AZ ring (k+1) z)).toNat/g.toNat=(Ao g (AZ ring k z)).toNat/\(Ao g (AZ ring (k+1) z)).toNat%fs.length=(Ao g (AZ ring k (z+1))).toNat:=λz=>by
  have wb:=Cp hg hb (k+1) z;have b:=BL hg wb;have b1:=BL hg (Cp hg hb k z);have b2:=BL hg (Cp hg hb k (z+1));rw[A4]at b1 b2 b;have l1:0<=Ah ring (z+(k:Int))/\Ah ring (z+(k:Int))<g:=wb _ (by rw[Ji];exact ba _ (bL.mpr rfl));have l2:0<=Ah ring z/\Ah ring z<g:=wb _ (by rw[F0];exact bf ..);have q1:Ao g (AZ ring (k+1) z)=Ao g (AZ ring k z)*g+Ah ring (z+(k:Int)):=by rw[Ji,Et]
  have q2:Ao g (AZ ring (k+1) z)=Ah ring z*g^k+Ao g (AZ ring k (z+1)):=by rw[F0,Ga,A4]
  constructor
  ·have:(((Ao g (AZ ring (k+1) z)).toNat/g.toNat:Nat):Int)=Ao g (AZ ring k z):=by
    rw[cz,bN b.1,gn,q1,dR,Int.add_mul_ediv_right _ _ (by lia),dO l1.1 l1.2,bg]
   lia
  ·have:(((Ao g (AZ ring (k+1) z)).toNat%fs.length:Nat):Int)=Ao g (AZ ring k (z+1)):=by
    rw[cW,bN b.1,fl,q2,dR,Int.add_mul_emod_self_right,cE b2.1 b2.2]
   lia
 have t:=QV ring.length λi=>fs.getD (Ao g (AZ ring k (i:Int))).toNat 0
 have e0:AZ ring k (ring.length:Int)=AZ ring k ((0:Nat):Int):=Jj ring k (by rw[Int.emod_self];rfl);rw[e0,fV]at t;have s:=Gb ring.length (λi=>gs.getD (Ao g (AZ ring (k+1) (i:Int))).toNat 0) λi=>fs.getD (Ao g (AZ ring k (i:Int))).toNat 0-fs.getD (Ao g (AZ ring k ((i+1:Nat):Int))).toNat 0
 rw[t,fH]at s;rw[<-s];refine AT λi _=>?_;obtain⟨a,b⟩:=key (i:Int);unfold Fj;rw[a,b];rfl
theorem QW(hg:2<=g)(e:qU->Int){w:qU}(wl:w.length=k+1)(wb:∀x∈w,0<=x/\x<g)(k1:1<=k)(z:∀u:qU,u.length=k->(∀x∈u,0<=x/\x<g)->e (0::u)=0):
  (Ae (k+(k+1)) λi=>e (AZ (List.replicate k 0++w) (k+1) (i:Int)))=(Ae (k+k) λi=>e (AZ (List.replicate k 0++w.drop 1) (k+1) (i:Int)))+e w:=by
 have rb:∀v:qU,(∀x∈v,0<=x/\x<g)->∀x∈List.replicate k (0:Int)++v,0<=x/\x<g:=λv hv x hx=>by
  rcases bJ.mp hx with y|y
  ·rw[(dE.mp y).2];lia
  ·exact hv x y
 have db:∀x∈w.drop 1,0<=x/\x<g:=λx hx=>wb x (cB hx)
 have dl:(w.drop 1).length=k:=by rw[cA];lia
 have lo:∀v:qU,(∀x∈v,0<=x/\x<g)->∀i,i<k->e (AZ (List.replicate k 0++v) (k+1) (i:Int))=0:=λv hv i hi=>by
  rw[F0]
  have a:Ah (List.replicate k 0++v) (i:Int)=0:=by
   unfold Ah;have l:(List.replicate k (0:Int)++v).length=k+v.length:=by rw[bC,bP]
   rw[cE (by lia) (by rw[l];lia),bI,a8,bU (by rw[bP];exact hi),cC,qD hi];rfl
  rw[a];exact z _ (A4 ..) (Cp hg (rb v hv) _ _)
 have lw:(List.replicate k (0:Int)++w).length=k+(k+1):=by rw[bC,bP,wl]
 have ld:(List.replicate k (0:Int)++w.drop 1).length=k+k:=by rw[bC,bP,dl]
 have at1:∀i:Nat,i<k+(k+1)->Ah (List.replicate k 0++w) (i:Int)=if i<k then 0 else w.getD (i-k) 0:=λi hi=>by
  unfold Ah;rw[lw,cE (by lia) (by lia),bI,a8,List.getElem?_append,bP];split
  ·rename_i q;rw[cC,qD q];rfl
  ·rw[<-a8]
 have at2:∀i:Nat,i<k+k->Ah (List.replicate k 0++w.drop 1) (i:Int)=if i<k then 0 else w.getD (i-k+1) 0:=λi hi=>by
  unfold Ah;rw[ld,cE (by lia) (by lia),bI,a8,List.getElem?_append,bP];split
  ·rename_i q;rw[cC,qD q];rfl
  ·rw[List.getElem?_drop,a8,gB 1]
 have md:AZ (List.replicate k 0++w) (k+1) (k:Int)=w:=by
  refine Aq (by rw[A4,wl]) λj hj=>?_;rw[A4]at hj;unfold AZ;rw[AS hj,show (k:Int)+(j:Int)=((k+j:Nat):Int) by lia,at1 _ (by lia),qC (by lia)]
  congr 1;lia
 have hi:∀i,i<k->AZ (List.replicate k 0++w) (k+1) ((k+(1+i):Nat):Int)=AZ (List.replicate k 0++w.drop 1) (k+1) ((k+i:Nat):Int):=λi hi=>by
  unfold AZ;refine bZ λj hj=>?_;have jl:=bW.mp hj
  by_cases c:i+j<k
  ·rw[show ((k+(1+i):Nat):Int)+(j:Int)=((k+(1+i)+j:Nat):Int) by lia,show ((k+i:Nat):Int)+(j:Int)=((k+i+j:Nat):Int) by lia,at1 _ (by lia),at2 _ (by lia),qC (by lia),qC (by lia)]
   congr 1;lia
  ·have a:Ah (List.replicate k 0++w) (((k+(1+i):Nat):Int)+(j:Int))=Ah (List.replicate k 0++w) ((i+j-k:Nat):Int):=by
    refine Cq ?_;rw[lw,show ((k+(1+i):Nat):Int)+(j:Int)=((i+j-k:Nat):Int)+((k+(k+1):Nat):Int) by lia,Int.add_emod_right]
   have b:Ah (List.replicate k 0++w.drop 1) (((k+i:Nat):Int)+(j:Int))=Ah (List.replicate k 0++w.drop 1) ((i+j-k:Nat):Int):=by refine Cq ?_;rw[ld,show ((k+i:Nat):Int)+(j:Int)=((i+j-k:Nat):Int)+((k+k:Nat):Int) by lia,Int.add_emod_right]
   rw[a,b,at1 _ (by lia),at2 _ (by lia),qD (by lia),qD (by lia)]
 rw[show k+(k+1)=k+(1+k) by lia,Bu,Bu,Bu]
 have z0:∀v:qU,(∀x∈v,0<=x/\x<g)->(Ae k λi=>e (AZ (List.replicate k 0++v) (k+1) (i:Int)))=0:=λv hv=>by rw[AT (g:=λ_=>0) (lo v hv),BC,bj]
 have last:(Ae k λi=>e (AZ (List.replicate k 0++w) (k+1) ((k+(1+i):Nat):Int)))=Ae k λi=>e (AZ (List.replicate k 0++w.drop 1) (k+1) ((k+i:Nat):Int)):=AT λi q=>by rw[hi i q]
 rw[z0 w wb,z0 _ db,last]
 have one:(Ae 1 λi=>e (AZ (List.replicate k 0++w) (k+1) ((k+i:Nat):Int)))=e w:=by rw[show (1:Nat)=0+1 from rfl,AX,A8,bg];show e (AZ _ _ ((k:Nat):Int))=_;rw[md]
 rw[one];lia
theorem E8(G:Nat)(gs:qU):∀(n k:Nat),k<=n->(DB G gs n).getD k 0=(DB G gs k).getD k 0
 |0,k,h=>by rw[show k=0 by lia]
 |n+1,k,h=>by
  by_cases c:k=n+1
  ·rw[c]
  ·rw[<-E8 G gs n k (by lia)];show (DB G gs n++[_]).getD k 0=_;rw[a8,bU (by rw[Cj];lia),<-a8]
theorem OQ(G2:2<=G)(gs:qU){n:Nat}(h:k+1<=n):(DB G gs n).getD (k+1) 0=(DB G gs n).getD ((k+1)/G) 0-gs.getD (k+1) 0:=by
 have d:(k+1)/G<=k:=by have:=Nat.div_lt_self (show 0<k+1 by lia) G2;lia
 rw[E8 G gs n _ h,E8 G gs n _ (by lia)];show (DB G gs k++[_]).getD (k+1) 0=_;rw[a8,bS (by rw[Cj];lia),Cj,eQ,E8 G gs k _ d];rfl
theorem OR(G:Nat)(gs:qU)(n:Nat):(DB G gs n).getD 0 0=0:=by rw[E8 G gs n 0 (cJ _)];rfl
section
variable(hg:2<=g)(hl:(gs.length:Int)=g^(k+1))
include hg hl
theorem FX:((BM g.toNat gs).length:Int)=g^k:=by
 have p:=RW.Aa hg k
 have e:gs.length=(g^k).toNat*g.toNat:=by
  have:(((g^k).toNat*g.toNat:Nat):Int)=g^(k+1):=by rw[cS,bN (by lia),bN (by lia),<-bq]
  lia
 unfold BM;rw[Cj,e,Nat.mul_div_cancel _ (by lia)];lia
theorem SG(h0:gs.getD 0 0=0){n:Nat}(hn:(n:Int)<g^k):Fj g.toNat gs (BM g.toNat gs) n=0:=by
 have fl:=FX hg hl;unfold Fj;rw[Nat.mod_eq_of_lt (by lia)];have ln:(BM g.toNat gs).length=gs.length/g.toNat-1+1:=by unfold BM;rw[Cj]
 cases n with
 |zero =>
  have a:(BM g.toNat gs).getD 0 0=0:=OR ..;rw[Nat.zero_div,a,h0];rfl
 |succ n =>
  have:=OQ (G:=g.toNat) (by lia) gs (n:=gs.length/g.toNat-1) (k:=n) (by lia);unfold BM;rw[this];lia
theorem Hu(k1:1<=k){n:Nat}(hn:n<gs.length)(hw:EQ g.toNat gs (BM g.toNat gs) n)(first:∀j,j<n->¬EQ g.toNat gs (BM g.toNat gs) j)
  (h1:(Ae (k+(k+1)) λi=>gs.getD (Ao g (AZ (List.replicate k 0++Ad g (n:Int) (k+1)) (k+1) (i:Int))).toNat 0)=0)
  (h2:(Ae (k+k) λi=>gs.getD (Ao g (AZ (List.replicate k 0++(Ad g (n:Int) (k+1)).drop 1) (k+1) (i:Int))).toNat 0)=0):False:=by
 have fl:=FX hg hl;have pk:=RW.Aa hg k;have wl:=Au g (n:Int) (k+1);have wb:=BQ hg (n:Int) (k+1);have nw:=C3 hg (n:=(n:Int)) (by lia) (m:=k+1) (by lia)
 have rb:∀v:qU,(∀x∈v,0<=x/\x<g)->∀x∈List.replicate k (0:Int)++v,0<=x/\x<g:=λv hv x hx=>by
  rcases bJ.mp hx with y|y
  ·rw[(dE.mp y).2];lia
  ·exact hv x y
 have db:∀x∈(Ad g (n:Int) (k+1)).drop 1,0<=x/\x<g:=λx hx=>wb x (cB hx)
 have l1:(List.replicate k (0:Int)++Ad g (n:Int) (k+1)).length=k+(k+1):=by rw[bC,bP,wl]
 have l2:(List.replicate k (0:Int)++(Ad g (n:Int) (k+1)).drop 1).length=k+k:=by rw[bC,bP,cA,wl];lia
 have m1:=Jm hg gs fl (rb _ wb) (by rw[l1];lia);have m2:=Jm hg gs fl (rb _ db) (by rw[l2];lia);rw[l1]at m1;rw[l2]at m2;rw[m1]at h1;rw[m2]at h2;have mw:Fj g.toNat gs (BM g.toNat gs) n≠0:=λy=>hw (by unfold Fj at y;lia)
 by_cases h0:gs.getD 0 0=0
 ·have t:=QW hg (k:=k) (λu=>Fj g.toNat gs (BM g.toNat gs) (Ao g u).toNat) wl wb k1 λu ul ub=>by
   have b:=BL hg ub;rw[Ga,cT,bg];rw[ul]at b;exact SG hg hl h0 (by lia)
  rw[h1,h2,nw,bI]at t;lia
 ·have n0:n=0:=by
   cases n with
   |zero=>rfl
   |succ n =>
    refine qE ?_ (first 0 (by lia));show gs.getD 0 0≠_;rw[Nat.zero_div,Nat.zero_mod,fV];exact h0
  subst n0
  have zw:Ad g ((0:Nat):Int) (k+1)=List.replicate (k+1) 0:=by
   have:=CF hg (ws:=List.replicate (k+1) 0) λx hx=>by rw[(dE.mp hx).2];lia
   rw[bP]at this;rw[<-this]
   congr 1
   have z:∀j:Nat,Ao g (List.replicate j 0)=0:=λj=>by
    induction j with
    |zero=>rfl
    |succ j ih=>rw[cr,Ga,ih];lia
   rw[z];rfl
  rw[zw,List.replicate_append_replicate]at h1
  have c:∀i,i<k+(k+1)->Fj g.toNat gs (BM g.toNat gs) (Ao g (AZ (List.replicate (k+(k+1)) 0) (k+1) (i:Int))).toNat=Fj g.toNat gs (BM g.toNat gs) 0:=λi _=>by
   congr 1
   have:AZ (List.replicate (k+(k+1)) 0) (k+1) (i:Int)=Ad g ((0:Nat):Int) (k+1):=by
    rw[zw];refine List.eq_replicate_iff.mpr ⟨A4 ..,λb hb=>?_⟩;unfold AZ at hb;obtain⟨j,_,rfl⟩:=bR.mp hb;unfold Ah;rw[a8,cC]
    split<;>rfl
   rw[this,nw];rfl
  rw[AT c,BC]at h1;rcases dN.mp h1 with y|y
  ·lia
  ·exact mw y
end
theorem Hv(hg:2<=g){fs:qU}(hl:(gs.length:Int)=g^(k+1))(fl:(fs.length:Int)=g^k)(r:DE g.toNat gs fs){ring:qU}(hb:∀x∈ring,0<=x/\x<g)(n1:1<=ring.length):(Ae ring.length λi=>gs.getD (Ao g (AZ ring (k+1) (i:Int))).toNat 0)=0:=by rw[Jm hg gs fl hb n1,AT (g:=λ_=>0) λi _=>?_,BC,bj];have b:=BL hg (Cp hg hb (k+1) (i:Int));rw[A4]at b;have:=r (Ao g (AZ ring (k+1) (i:Int))).toNat (by lia);unfold EQ at this;unfold Fj;lia
theorem Lq{f:Int->Int}{n:Nat}(per:∀z,f (z+(n:Int))=f z)(y:Int):∀k:Nat,(Ae n λi=>f ((i:Int)+y+(k:Int)))=Ae n λi=>f ((i:Int)+y)
 |0=>AT λi _=>by rw[show (i:Int)+y+((0:Nat):Int)=(i:Int)+y by lia]
 |k+1=>by
  rw[<-Lq per y k];have a:=AX n λi=>f ((i:Int)+y+(k:Int))
  have b:=Bu 1 n λi=>f ((i:Int)+y+(k:Int))
  rw[gB 1 n,a]at b
  have c:(Ae 1 λi=>f ((i:Int)+y+(k:Int)))=f ((n:Int)+y+(k:Int)):=by
   rw[show (1:Nat)=0+1 from rfl,AX,A8,bg,<-per]
   congr 1
   show ((0:Nat):Int)+y+(k:Int)+(n:Int)=_;lia
  rw[c]at b;have d:(Ae n λi=>f ((i:Int)+y+((k+1:Nat):Int)))=Ae n λi=>f (((1+i:Nat):Int)+y+(k:Int)):=AT λi _=>by congr 1;lia
  rw[d];lia
theorem T9{f:Int->Int}{n:Nat}(per:∀z,f (z+(n:Int))=f z)(y:Int):(Ae n λi=>f ((i:Int)+y))=Ae n λi=>f (i:Int):=by
 by_cases c:0<=y
 ·have:=Lq per 0 y.toNat;rw[bN c]at this;rw[show (Ae n λi=>f (i:Int))=Ae n λi=>f ((i:Int)+0) from AT λi _=>by rw[dB],<-this];exact AT λi _=>by rw[dB]
 ·have:=Lq per y (-y).toNat;rw[bN (by lia)]at this;rw[<-this];exact AT λi _=>by congr 1;lia
theorem QX(g lo:Int)(g7:qU)(m:Nat)(ring:qU):(Al g lo g7 m ring).sum=(Al g 0 g7 m ring).sum:=by rw[FW,FW];rw[T9 (f:=λz=>g7.getD (Ao g (AZ ring m z)).toNat 0) λz=>by rw[Jj ring m (y:=z+(ring.length:Int)) (z:=z) (by rw[Int.add_emod_right])]];exact AT λi _=>by rw[dB]
theorem DN(hg:2<=g)(lo:Int)(g7:qU){m:Nat}(m1:1<=m)(ws:qU)(w1:1<=mw){ring:qU}(hb:∀x∈ring,0<=x/\x<g)(n1:1<=ring.length):(Al g 0 ws mw (Al g lo g7 m ring)).sum=(Al g 0 ws mw (Al g 0 g7 m ring)).sum:=by rw[<-DV hg lo 0 g7 ws m1 w1 hb n1,<-DV hg 0 0 g7 ws m1 w1 hb n1,QX];rfl
theorem SH(hg:2<=g)(hl:(gs.length:Int)=g^(k+1))(k1:1<=k)(h:∀ring:qU,(∀x∈ring,0<=x/\x<g)->1<=ring.length->(Ae ring.length λi=>gs.getD (Ao g (AZ ring (k+1) (i:Int))).toNat 0)=0):DE g.toNat gs (BM g.toNat gs):=λn=>by
 induction n using Nat.strongRecOn with
 |_ n ih =>
  intro hn hw;have wl:=Au g (n:Int) (k+1);have wb:=BQ hg (n:Int) (k+1)
  have rb:∀v:qU,(∀x∈v,0<=x/\x<g)->∀x∈List.replicate k (0:Int)++v,0<=x/\x<g:=λv hv x hx=>by
   rcases bJ.mp hx with y|y
   ·rw[(dE.mp y).2];lia
   ·exact hv x y
  have l1:(List.replicate k (0:Int)++Ad g (n:Int) (k+1)).length=k+(k+1):=by rw[bC,bP,wl]
  have l2:(List.replicate k (0:Int)++(Ad g (n:Int) (k+1)).drop 1).length=k+k:=by rw[bC,bP,cA,wl];lia
  have a:=h _ (rb _ wb) (by rw[l1];lia);have b:=h _ (rb ((Ad g (n:Int) (k+1)).drop 1) λx hx=>wb x (cB hx)) (by rw[l2];lia);rw[l1]at a;rw[l2]at b;exact Hu hg hl k1 hn hw (λj hj=>ih j hj (by lia)) a b
end L2
namespace L2
open PySem PySem.Spec PyProof.Rows
def Dx(K:qT)(J:It)(tt:TT)(te:TE)(σf:List (Option V))(D:qP)(Q:VK)(H:Hp):Prop:=∃W:Nat->Nat->List V->Hp->Prop,(∃n,W n 0 [] (Ak H D (.lst [])))/\∀n i ge H2,W n i ge H2 ->
 (J.stop i H2/\Q (.ref D) H2)\/(J.go i H2/\∃N:List V->Hp->Prop,(∀l H',N l H'->∃n',n'<n/\W n' (i+1) l H')/\∀v H3,J.yld i H2 v H3->∃(a:qP) (v1 v2:V),v=.ref a/\Am K H3 a [v1,v2]/\tt (some v1::some v2::σf) H3 λb H4 =>
  if b=true then te (some v1::some v2::σf) H4 λy H5=>H5 D=some (.lst ge)/\ge.length<sizeLine/\N (ge++[y]) (Ak H5 D (.lst (ge++[y]))) else N ge H4)
def Vv(K:qT)(wi:TI)(fv:List (Nat×Str))(tt:TT)(te:TE):TE:=λσ H Q=>wi σ H λJ H1=>∀D,H1 D=none->Dx K J tt te (KL σ fv) D Q H1
end L2
namespace PySem
section
variable{prog:qR}{w:qS}{A:Around}{s:qQ}{R:Result->qQ->Prop}
theorem compLoop_own{elt tg iter:Expr}{ifs:List Expr}{scope:Scope}{pos:Pos}{it ge:qO}{env:Env}(I:Nat->qQ->Prop)
  (turn:∀n s,I n s->wpAny (model prog w) A (pyNext it) (λr s1=>match r with
   |none=>R (.ok .next) s1
   |some v=>wpAny (model prog w) A (letOwnedTupleGo tg it v) (λ_ s1b=>wpAny (model prog w) A (assign tg env v) (λ_ s2 =>
     wpAny (model prog w) A (forIn ifs true λc r=>if r=true then do let ok <-isTrue c env (eval c env);pure (ForInStep.yield ok) else pure (ForInStep.yield r)) (λok s3 =>
      if ok=true then wpAny (model prog w) A (eval elt env) (λx s4 =>
       wpAny (model prog w) A (call (.builtin "list.append") [ge,x]) (λ_ s5=>∃m,m<n/\I m s5) (notedBy (model prog w) A env λe s'=>R (.error e) s') s4) (notedBy (model prog w) A env λe s'=>R (.error e) s') s3
      else ∃m,m<n/\I m s3) (notedBy (model prog w) A env λe s'=>R (.error e) s') s2) (notedBy (model prog w) A env λe s'=>R (.error e) s') s1b) (notedBy (model prog w) A env λe s'=>R (.error e) s') s1) (notedBy (model prog w) A env λe s'=>R (.error e) s') s)
  (n:Nat) (h:I n s):codeAny (model prog w) A (.compLoop (.ListComp elt [⟨tg,iter,ifs,0⟩] scope pos) 0 it ge env) R s:=by
 refine codeAny_loop rfl I (λn s hI=>?_) n h;show wpAny _ A ((compTurn (.ListComp elt [⟨tg,iter,ifs,0⟩] scope pos) 0 it ge env).onRaise (λx=>do noteFrame x env;theTreesLotGoes x)) _ _ s;refine wpAny_noted ?_;rw[compTurn_list];refine qA (wpAny_standAt (qA (qK (turn n s hI) (λr s1 h1=>?_) λ_ _ h'=>h')));cases r with
 |none=>exact qB h1
 |some v =>
  refine qA (qK h1 (λ_ s1b h1b=>?_) λ_ _ h'=>h');refine qA (qK h1b (λ_ s2 h2=>qA (qK h2 (λok s3 h3=>?_) λ_ _ h'=>h')) λ_ _ h'=>h');cases ok with
  |false=>exact qB ⟨rfl,h3⟩
  |true =>
   exact qA (qA (qK h3 (λx s4 h4=>qA (qK h4 (λ_ s5 h5=>qB (qB ⟨rfl,h5⟩)) λ_ _ h'=>h')) λ_ _ h'=>h'))
end
end PySem
namespace L2
open PySem PySem.Spec PyProof.Rows
variable{C a:qP}{E:qO->qQ->Prop}{H:Hp}{T:String}{X:Cx}{es:List Expr}{h1:Heap}{name:Str}{te to:TE}{tt:TT}{xs ys:List V}{σf:List (Option V)}
section
variable{X:Cx}{x x2:Str}{px px2 pt pos:Pos}{kt:Nat}{elt iter:Expr}{ifs:List Expr}{scope:Scope}{cl:List (Str×qP)}{fv:List (Nat×Str)}{wi:TI}{tt:TT}{te:TE}
 {ad:List (qP×Obj)} {σ:St} {H2:Hp} {s2:qQ} {fp:List qP} {it:qP} {tn:Nat->Heap->Prop} {J:It}
theorem UA{D:qP}{t1:Nat}(I2:Ab X ad σ H2 s2)(f2:∀b∈fp,Ek X ad H2 b)(o2:∀b∈fp,∃o,s2.heap.get? b=some o/\∀v,o.data≠.cell v)(hD:s2.heap.objs.size<=D)(hC:s2.heap.objs.size<=C)(hDC:D≠C)
  (old:∀b o,s2.heap.get? b=some o->h1.get? b=some o) (hl:h1.PlainList D #[]) (hn:h1.Ns C (λ_=>none)) (hk:scope.kind=.function) (hcl:IG X.env cl)
  (hhas:((relabel scope X.env).names.all λz=>!(z.2==.cell||z.2==.free)||(cl.lookup z.1).isSome)=true) (hfv:JD X scope cl fv):
  Ab (Eg X s2 H2 (compEnvC scope cl C X.env) fp (x::x2::fv.map (·.2))) [] (none::none::KL σ fv) (Ak H2 D (.lst [])) {s2 with heap:=h1,toks:=t1} where
 ok:=Re I2 f2 o2 hC hk hcl hhas
 os:=rfl
 bare:=I2.bare
 base:=Un.laid old hD (I2.hok.fresh hD)
 loc:=by
  refine⟨_,hn,λi y v h1' h2' _=>?_⟩;cases i with
  |zero=>cases h2'
  |succ i =>
   cases i with
   |zero=>cases h2'
   |succ i =>
   have h1':(fv.map (·.2))[i]?=some y:=h1';have h2':(KL σ fv)[i]?=some (some v):=h2'
   obtain⟨q,hq,e1⟩:∃q,fv[i]?=some q/\q.2=y:=by rw[bF]at h1';exact cR.mp h1'
   subst e1;refine byG λGq hGq=>?_;obtain⟨g1,g2,g3,g4⟩:=hfv.at' q (bE hq);refine hGq ?_;clear hGq Gq;unfold KL at h2';rw[bF,hq]at h2';have e2:(σ[q.1]?).join=some v:=Option.some.inj h2'
   have e3:σ[q.1]?=some (some v):=by
    cases z:σ[q.1]? with
    |none=>rw[z]at e2;cases e2
    |some w=>rw[z]at e2;exact qN some e2
   obtain⟨m,_,lk⟩:=I2.loc;have g2:=Rb g2;obtain⟨u,ru,lu⟩:=lk q.1 q.2 v g1 e3 (.inr g2);refine⟨u,ru,.inr ⟨g2.imp (λz=>g3.trans z) (λz=>g3.trans z),?_⟩⟩;obtain⟨c,hc⟩:=dh.mp g4;refine⟨c,hc,?_⟩;rcases lu with⟨kk,_⟩|⟨_,c',e',⟨o,eo,d⟩⟩
   ·rcases g2 with z|z<;>(rw[show X.env.kindOf q.2=_ from z]at kk;cases kk)
   ·have e4:=hcl.at' hc;rw[e']at e4;cases e4;exact⟨o,old c o eo,d⟩
 cell:=λy c h=>by refine byG λGq hGq=>?_;obtain⟨v,o,eo,d⟩:=I2.cell y c (hcl.at' h);refine hGq ?_;clear hGq Gq;exact⟨v,o,old c o eo,d⟩
 free:=by show Ak H2 D _ C=none;rw[AJ (Ne.symm hDC)];exact I2.hok.fresh hC
 freeC:=λy c h=>by refine byG λGq hGq=>?_;obtain⟨v,o,eo,d⟩:=I2.cell y c (hcl.at' h);refine hGq ?_;clear hGq Gq;rw[AJ (bp (bQ (bM eo) hD))];exact I2.freeC y c (hcl.at' h)
 pin:=λp hp=>nomatch hp
 hok:=I2.hok.laid old hD (by obtain⟨n,e⟩:=hl;exact⟨Nat.zero_le _,[],n,.nil,by simpa using e⟩)
 len:=by simp[KL,Eg]
theorem SI{RR:qO->qP->Result->qQ->Prop}{Q:VK}(hc:X.calm=true)(I2:Ab X ad σ H2 s2)(T:Im X.prog X.w X.K (.Tuple [.Name x px,.Name x2 px2] kt pt) J fp it tn)(st2:tn 0 s2.heap)(f2:∀b∈fp,Ek X ad H2 b)
  (hcell:∀y∈scope.names,y.2≠.cell) (hk:scope.kind=.function) (hx:scope.names.lookup x=some .local) (hx2:scope.names.lookup x2=some .local) (hcl:IG X.env cl) (hhas:((relabel scope X.env).names.all λz=>!(z.2==.cell||z.2==.free)||(cl.lookup z.1).isSome)=true) (hfv:JD X scope cl fv) (hnd:(x::x2::fv.map (·.2)).Nodup)
  (hf:∀s H C fp,PF (Eg X s H (compEnvC scope cl C X.env) fp (x::x2::fv.map (·.2))) ifs tt) (he:∀s H C fp,PE (Eg X s H (compEnvC scope cl C X.env) fp (x::x2::fv.map (·.2))) elt te)
  (hw:∀D,H2 D=none->Dx X.K J tt te (KL σ fv) D Q H2)
  (hRR:∀D C σ' H' s',s2.heap.objs.size<=C->Ab (Eg X s2 H2 (compEnvC scope cl C X.env) fp (x::x2::fv.map (·.2))) [] σ' H' s'->Q (.ref D) H'->RR (.ref D) C (.ok .next) s'):
  wpAny (model X.prog X.w) X.A (newList []) (λge s3=>wpAny (model X.prog X.w) X.A (newFunctionEnv scope X.env.globals cl [] X.env.qual none .none (some X.env)) (λcenv s4 =>
   codeAny (model X.prog X.w) X.A (.compStart (.ListComp elt [⟨.Tuple [.Name x px,.Name x2 px2] kt pt,iter,ifs,0⟩] scope pos) 0 (.ref it) ge {cenv with scope:=relabel scope X.env}) (RR ge cenv.locals) s4) E s3) E s2:=by
 refine wpAny_newObj_type (wpAny_newFunctionEnv hcell (by intro y hy;simp at hy) (λh1 hns hsb=>?_) hk);dsimp only at hns hsb⊢;generalize hH:s2.heap.push {cls:=.type "list",dict:=none,data:=.seq ([]:List qO).toArray}=HH at hns hsb⊢;have eC:HH.objs.size=s2.heap.objs.size+1:=by rw[<-hH,cx]
 have hDC:s2.heap.objs.size≠HH.objs.size:=by rw[eC];exact bp (cq _)
 have hC:s2.heap.objs.size<=HH.objs.size:=by rw[eC];exact dS _
 have old:∀b o,s2.heap.get? b=some o->h1.get? b=some o:=λb o e=>hsb.extBut b o (by rw[eC];exact bp (cw (bM e))) (bG _ (hH▸bG _ e))
 have hacc:h1.PlainList s2.heap.objs.size #[]:=⟨_,hsb.extBut _ _ hDC (bG _ (hH▸bV _ rfl))⟩;have o2:=T.obj _ _ st2;refine byG λGq hGq=>?_;obtain⟨W,⟨n0,w0⟩,turn⟩:=hw s2.heap.objs.size (I2.hok.fresh (bD _));refine hGq ?_;clear hGq Gq;generalize eD:s2.heap.objs.size=D at *;generalize eCC:HH.objs.size=C at *;have Ib:=UA (x:=x) (x2:=x2) (t1:=s2.toks+([]:List (Str×qO)).length) I2 f2 o2 (by rw[eD];exact bD _) (by rw[eD];exact hC) hDC old hacc hns hk hcl hhas hfv;have st1:tn 0 h1:=T.keep _ _ _ st2 λb _ o e=>old b o e
 have nD:∀b∈fp,b≠D:=λb hb=>by obtain⟨o,e,_⟩:=o2 b hb;rw[<-eD];exact bp (bM e)
 have fr1:∀b∈fp,Ak H2 D (.lst []) b=none:=λb hb=>by rw[AJ (nD b hb)];exact (f2 b hb).1
 have hxl:(relabel scope X.env).names.lookup x=some .local:=lookup_relabel_local hx;have hxl2:(relabel scope X.env).names.lookup x2=some .local:=lookup_relabel_local hx2
 have stat:∀{H':Hp},(∀b∈fp,H' b=none)->∀b∈fp,Ek (Eg X s2 H2 (compEnvC scope cl C X.env) fp (x::x2::fv.map (·.2))) [] H' b:=λhn b hb=>by obtain⟨o,e,_⟩:=o2 b hb;exact⟨hn b hb,λz=>qE (bM e) (by rw[z,eD];exact Nat.not_lt.mpr hC),λz=>(bi.mp (I2.stkSub b z)).elim (f2 b hb).2.1 (f2 b hb).2.2.1,.inl hb,λy c h=>(f2 b hb).2.2.2.2.1 y c (hcl.at' h),λq hq=>nomatch hq⟩
 have loop:codeAny (model X.prog X.w) X.A (.compLoop (.ListComp elt [⟨.Tuple [.Name x px,.Name x2 px2] kt pt,iter,ifs,0⟩] scope pos) 0 (.ref it) (.ref D) (compEnvC scope cl C X.env)) (RR (.ref D) C) {s2 with heap:=h1,toks:=s2.toks+([]:List (Str×qO)).length}:=by
  refine compLoop_own (λn s'=>∃i ge σb H',Ab (Eg X s2 H2 (compEnvC scope cl C X.env) fp (x::x2::fv.map (·.2))) [] σb H' s'/\σb.tail.tail=KL σ fv/\tn i s'.heap/\(∀b∈fp,H' b=none)/\W n i ge H') ?_ n0 ⟨0,[],_,_,Ib,rfl,st1,fr1,w0⟩;intro n s3 hRq;refine byG λGq hGq=>?_;obtain⟨i,ge,σ3,H3,I3,t3,st3,fr3,w3⟩:=hRq;refine hGq ?_;clear hGq Gq;rcases turn n i ge H3 w3 with⟨stop,qn⟩|⟨go,NN,hNN,step⟩
  ·refine BU (T.done (Eg X s2 H2 (compEnvC scope cl C X.env) fp (x::x2::fv.map (·.2))) rfl rfl rfl hc i [] s3 σ3 H3 _ I3 (stat fr3) st3 stop) λr s4 q4=>?_;obtain⟨hr,I4⟩:=q4;subst hr;exact hRR D C σ3 H3 s4 hC I4 qn
  ·refine BU (T.item (Eg X s2 H2 (compEnvC scope cl C X.env) fp (x::x2::fv.map (·.2))) rfl rfl rfl hc i [] s3 σ3 H3 _ I3 (stat fr3) st3 go) λr s4 q4=>?_;obtain⟨u,hr,h4⟩:=q4;subst hr;refine BU h4 λ_ s5 q5=>?_;refine byG λGq hGq=>?_;obtain⟨v,H5,I5,r5,y5,st5,fr5⟩:=q5;refine hGq ?_;clear hGq Gq;have I5':=I5.pinned (stat fr5) (T.obj _ _ st5);have again:∀{σ7:St} {H7:Hp} {s7:qQ},Ab (Eg X s2 H2 (compEnvC scope cl C X.env) fp (x::x2::fv.map (·.2))) ([]++Gz fp s5.heap) σ7 H7 s7->tn (i+1) s7.heap/\∀b∈fp,H7 b=none:=λ{σ7 H7 s7} I7=>by refine⟨T.keep _ _ _ st5 λb hb o e=>(I7.pin (b,o) (ba _ (ba _ (Cw hb e)))).1,λb hb=>?_⟩;obtain⟨o,e,d⟩:=T.obj _ _ st5 b hb;exact (I7.pin (b,o) (ba _ (ba _ (Cw hb e)))).2.1
   refine byG λGq hGq=>?_;obtain⟨a5,v1,v2,rfl,hq5,step5⟩:=step v _ y5;refine hGq ?_;clear hGq Gq
   have sσ:(σ3.set 0 (some v1)).set 1 (some v2)=some v1::some v2::KL σ fv:=by
    have l3:=I3.len;rcases σ3 with _|⟨a,_|⟨b,r⟩⟩
    ·cases l3
    ·cases l3
    ·have z:r=KL σ fv:=t3;rw[z];rfl
   have hnd2:=dL.mp hnd;have g1:=IL (X:=Eg X s2 H2 (compEnvC scope cl C X.env) fp (x::x2::fv.map (λq:Nat×Str=>q.2))) (pos:=px) (i:=0) (x:=x) hnd rfl (.inl hxl) (.inr hxl);have g2:=IL (X:=Eg X s2 H2 (compEnvC scope cl C X.env) fp (x::x2::fv.map (λq:Nat×Str=>q.2))) (pos:=px2) (i:=1) (x:=x2) hnd rfl (.inl hxl2) (.inr hxl2);have g:=Fo (X:=Eg X s2 H2 (compEnvC scope cl C X.env) fp (x::x2::fv.map (λq:Nat×Str=>q.2))) (pos:=pt) (k:=kt) hc (Bd g1 (Bd g2 EB));refine wpAny_noRaise (BU (g _ s5 σ3 H5 (.ref a5) u (λσ' H'=>σ'=some v1::some v2::KL σ fv/\H'=H5) I5' r5 ⟨a5,[v1,v2],rfl,hq5,rfl,v1,[v2],rfl,v2,[],rfl,rfl,sσ,rfl⟩) λ_ s6 q6=>?_);refine byG λGq hGq=>?_;obtain⟨σ6,H6,I6,rfl,rfl⟩:=q6;refine hGq ?_;clear hGq Gq;refine wpAny_noRaise (BU (hf _ _ _ _ _ s6 _ _ _ I6 step5) λb s7 q7=>?_);obtain⟨H7,I7,q7⟩:=q7;cases b with
   |false =>
    rw[qC (by decide)]at q7⊢;obtain⟨n',hn',w7⟩:=hNN _ _ q7;exact⟨n',hn',i+1,ge,_,H7,I7.unpinned,rfl,(again I7).1,(again I7).2,w7⟩
   |true =>
    rw[qD rfl]at q7⊢;refine wpAny_noRaise (BU (he _ _ _ _ _ s7 _ _ _ I7 q7) λyv s8 q8=>?_);refine byG λGq hGq=>?_;obtain⟨y,H8,I8,r8,e8,l8,q8⟩:=q8;refine hGq ?_;clear hGq Gq;obtain⟨n',hn',w8⟩:=hNN _ _ q8;refine wpAny_noRaise (BU (G4 (X:=Eg X s2 H2 (compEnvC scope cl C X.env) fp (x::x2::fv.map (·.2))) _ s8 _ H8 (.ref D) [y] (.ref D) [yv] (λ_ H'=>H'=Ak H8 D (.lst (ge++[y]))) I8 rfl (.cons r8 .nil) ⟨D,ge,y,rfl,rfl,e8,l8,rfl⟩) λ_ s9 q9=>?_);refine byG λGq hGq=>?_;obtain⟨_,H9,I9,_,rfl⟩:=q9;refine hGq ?_;clear hGq Gq;exact⟨n',hn',i+1,ge++[y],_,_,I9.unpinned,rfl,(again I9).1,(again I9).2,w8⟩
 exact codeAny_compStart_list loop (T.self X.A 0 _ _ _ st1 loop)
theorem Jn(hc:X.calm=true)(hi:PI X (.Tuple [.Name x px,.Name x2 px2] kt pt) iter wi)(hclos:closureFor scope X.env=pure cl)(hcell:∀y∈scope.names,y.2≠.cell)(hk:scope.kind=.function)(hnames:∀z∈scope.names,z.2=.local->scope.names.lookup z.1=some .local)
  (hx:scope.names.lookup x=some .local) (hx2:scope.names.lookup x2=some .local) (hcl:IG X.env cl) (hhas:((relabel scope X.env).names.all λz=>!(z.2==.cell||z.2==.free)||(cl.lookup z.1).isSome)=true) (hfv:JD X scope cl fv) (hnd:(x::x2::fv.map (·.2)).Nodup)
  (hf:∀s H C fp,PF (Eg X s H (compEnvC scope cl C X.env) fp (x::x2::fv.map (·.2))) ifs tt) (he:∀s H C fp,PE (Eg X s H (compEnvC scope cl C X.env) fp (x::x2::fv.map (·.2))) elt te)
  (hs:∀x,foldedSetIterable iter X.env x=pure x:=by intro _;rfl):PE X (.ListComp elt [⟨.Tuple [.Name x px,.Name x2 px2] kt pt,iter,ifs,0⟩] scope pos) (Vv X.K wi fv tt te):=by
 intro ad s σ H Q I h;rw[eval_ListComp];refine wpAny_comprehension_free (use:=none) rfl hs hclos hk hnames (BU (hi ad s σ H _ I h) λv s1 h1=>BU h1 λitv s2 h2=>?_);refine byG λGq hGq=>?_;obtain⟨it,fp,tn,J,H2,e,I2,T,st2,f2,hw⟩:=h2;refine hGq ?_;clear hGq Gq;subst e;refine SI (RR:=λge C=>compPost (model X.prog X.w) X.A X.xe none (EP X ad σ Q) ge C) hc I2 T st2 f2 hcell hk hx hx2 hcl hhas hfv hnd hf he hw λD C σ' H' s' hC Ib q=>?_;obtain⟨m,hn,_⟩:=Ib.loc;exact⟨m,hn,λh' sb=>⟨.ref D,H',Ab.letGo I2 (JE I2 f2 Ib) hC Ib.free sb,rfl,q⟩⟩
end
theorem OS{K:qT}{D:qP}{Q:VK}(Pv:Nat->List V->Hp->Prop)(h0:Pv 0 [] (Ak H D (.lst [])))(hl:∀i ge H,i<=xs.length->Pv i ge H->Ai K H a xs)
  (hs:∀i x p ge H2,xs[i]?=some x->Pv i ge H2->H2 p=none->tt (some (.int ((i:Nat):Int))::some x::σf) (Ak H2 p (.tup [.int ((i:Nat):Int),x])) λb H4=>if b=true then te (some (.int ((i:Nat):Int))::some x::σf) H4 λy H5=>H5 D=some (.lst ge)/\ge.length<sizeLine/\Pv (i+1) (ge++[y]) (Ak H5 D (.lst (ge++[y]))) else Pv (i+1) ge H4)
  (hd:∀ge H2,Pv xs.length ge H2->Q (.ref D) H2):Dx K (XO K a) tt te σf D Q H:=by
 refine⟨λk i ge H=>k=xs.length-i/\i<=xs.length/\Pv i ge H,⟨xs.length,by simp,Nat.zero_le _,h0⟩,?_⟩;rintro k i ge H2 ⟨rfl,hi,p⟩;have q:=hl i ge H2 hi p
 by_cases hlt:i<xs.length
 ·refine .inr ⟨⟨xs,xs[i],q,by simp[hlt]⟩,Pv (i+1),λl H' p'=>⟨xs.length-(i+1),by lia,rfl,hlt,p'⟩,λv H' y=>?_⟩;refine byG λGq hGq=>?_;obtain⟨p2,x,e1,e2,e3,y⟩:=y;refine hGq ?_;clear hGq Gq;subst e1 e3;exact⟨p2,_,_,rfl,Am.of AD,hs i x p2 ge H2 (y xs q) p e2⟩
 ·have e:i=xs.length:=by lia
  subst e;exact .inl ⟨⟨xs,q,bD _⟩,hd ge H2 p⟩
theorem QY{K:qT}{b:qP}{D:qP}{Q:VK}(hlen:xs.length=ys.length)(Pv:Nat->List V->Hp->Prop)(h0:Pv 0 [] (Ak H D (.lst [])))(hl:∀i ge H,i<=xs.length->Pv i ge H->Ai K H a xs/\Ai K H b ys)
  (hs:∀i x y p ge H2,xs[i]?=some x->ys[i]?=some y->Pv i ge H2->H2 p=none->tt (some x::some y::σf) (Ak H2 p (.tup [x,y])) λb H4=>if b=true then te (some x::some y::σf) H4 λy H5=>H5 D=some (.lst ge)/\ge.length<sizeLine/\Pv (i+1) (ge++[y]) (Ak H5 D (.lst (ge++[y]))) else Pv (i+1) ge H4)
  (hd:∀ge H2,Pv xs.length ge H2->Q (.ref D) H2):Dx K (Z8 K a b) tt te σf D Q H:=by
 refine⟨λk i ge H=>k=xs.length-i/\i<=xs.length/\Pv i ge H,⟨xs.length,by simp,Nat.zero_le _,h0⟩,?_⟩;rintro k i ge H2 ⟨rfl,hi,p⟩;obtain⟨q1,q2⟩:=hl i ge H2 hi p
 by_cases hlt:i<xs.length
 ·refine .inr ⟨⟨xs,ys,xs[i],ys[i],q1,q2,by simp[hlt],by simp[hlen▸hlt]⟩,Pv (i+1),λl H' p'=>⟨xs.length-(i+1),by lia,rfl,hlt,p'⟩,λv H' y=>?_⟩;refine byG λGq hGq=>?_;obtain⟨p2,x,y',e1,e2,e3,y1,y2⟩:=y;refine hGq ?_;clear hGq Gq;subst e1 e3;exact⟨p2,_,_,rfl,Am.of AD,hs i x y' p2 ge H2 (y1 xs q1) (y2 ys q2) p e2⟩
 ·have e:i=xs.length:=by lia
  subst e;exact .inl ⟨⟨xs,ys,q1,q2,.inl (bD _)⟩,hd ge H2 p⟩
theorem Hw:CJ X (.builtin "abs") (λxs H Q=>∃i:Int,xs=[.int i]/\Q (.int (if i<0 then -i else i)) H):=by intro ad s σ H xs us Q I r h;obtain⟨i,rfl,q⟩:=h;obtain⟨u,rfl,rx⟩:=Dr r;obtain⟨t,rfl⟩:=rx;exact PyProof.Rows.call_abs_int λu tk=>⟨.int _,H,I.tok _,⟨_,rfl⟩,q⟩
theorem QZ(ns:qU):(List.range ns.length).any (λi=>decide (ns.getD i 0≠0))=ns.any λn=>decide (n≠0):=by
 rw[eI,fb,fb];constructor
 ·rintro⟨i,hi,z⟩;have hi':=bW.mp hi;rw[a8,bA hi']at z;exact⟨_,b7 hi',z⟩
 ·rintro⟨b,hb,z⟩;obtain⟨i,hi,e⟩:=d4 hb;refine⟨i,bW.mpr hi,?_⟩;rw[a8,bA hi,e];exact z
theorem Mz(hc:X.calm=true):CJ X (.builtin "any") (λxs H Q=>∃(p:qP) (ns:qU),xs=[.ref p]/\Ai X.K H p (ns.map V.int)/\Q (.bl (ns.any λn=>decide (n≠0))) H):=by
 intro ad s σ H xs us Q I r h;obtain⟨p,ns,rfl,hq,q⟩:=h;obtain⟨u,rfl,rx⟩:=Dr r;cases rx;obtain⟨its,rits,pl,hz⟩:=I.list hq;have hlen:=rits.length;rw[a9]at hlen;have alt:p<s.heap.objs.size:=by obtain⟨o,e,_⟩:=pl.isList;exact bM e
 refine call_any_walk (wpAny_pyIter_list pl.isList ?_);have up:∀b o,s.heap.get? b=some o->(s.heap.push {cls:=.type "list_iterator",data:=.fields #[.ref p,.int 0 0]}).get? b=some o:=λb o e=>bG _ e
 refine⟨s.heap.objs.size,[s.heap.objs.size,p],[s.heap.objs.size],its.toArray.size,_,_,λi=>decide (ns.getD i 0≠0),rfl,Walks.list (A:=X.A.in1) (I.ok.hd hc) _ p (bp alt) its.toArray,⟨⟨_,bV _ rfl,rfl,rfl⟩,pl.isList.at λo e=>up p o e⟩,λi v Q' E' s' hv hq'=>?_,λh' tk kk=>?_⟩
 ·have hv':its[i]?=some v:=by simpa using hv
  have hi:=(bB.mp hv').1;obtain⟨u2,hu2,ru2⟩:=rits.get (x:=.int (ns.getD i 0)) (i:=i) (by rw[bF,bA (by lia),a8,bA (by lia)];rfl);rw[hv']at hu2;cases hu2;obtain⟨t2,rfl⟩:=ru2;refine PyProof.Rows.truthy_int ?_;rw[show (ns.getD i 0 != 0)=decide (ns.getD i 0≠0) by rw[Bool.eq_iff_iff];simp];exact hq'
 ·refine⟨.bl (ns.any λn=>decide (n≠0)),H,I.kept (t':=tk) λb o e=>kk b o (λz=>?_) (up b o e),?_,q⟩
  ·rw[bL.mp z]at e;exact qE (bM e) (bx _)
  ·rw[bn,<-hlen,QZ];rfl
noncomputable def Uy(n:Int):qO->Bool
 |.int a _=>a==n
 |_=>false
theorem Jo(n:Int):∀{ns:qU} {its:List qO},Av (ns.map V.int) its->its.countP (Uy n)=ns.count n
 |[],_,h=>by rw[f7]at h;cases h;rfl
 |a::ns,_,h=>by
  rw[cI]at h;cases h with
  | @cons x y xs ys h t =>
   obtain⟨tk,rfl⟩:=h;rw[List.countP_cons,Jo n t,List.count_cons];rfl
theorem M3:XM X "list.count" (λx xs H Q=>∃(p:qP) (ns:qU) (n:Int),x=.ref p/\xs=[.int n]/\H p=some (.lst (ns.map V.int))/\Q (.int ((ns.count n:Nat):Int)) H):=by
 intro ad s σ H x xs v us Q I rx rs h;refine byG λGq hGq=>?_;obtain⟨p,ns,n,rfl,rfl,hp,q⟩:=h;refine hGq ?_;clear hGq Gq;obtain⟨u,rfl,ru⟩:=Dr rs;cases rx;obtain⟨t,rfl⟩:=ru;refine byG λGq hGq=>?_;obtain⟨its,m,r,ho,hz⟩:=I.lst hp;refine hGq ?_;clear hGq Gq;refine call_meets fL ⟨_,ho,rfl⟩ PySem.F.entry_list_count (PySem.F.args_list_count_2 _ _) (PySem.MeetsSeq.list_count p its.toArray m (.int n t) (Uy n) λy hy=>?_) ⟨ho,.int ((ns.count n:Nat):Int),H,I.tok _,⟨s.toks,?_⟩,q⟩
 ·have hy':y∈its:=by simpa using hy
  obtain⟨i,hi,e⟩:=d4 hy';have hl:=r.length;rw[a9]at hl;obtain⟨u2,hu2,ru2⟩:=r.get (x:=.int (ns.getD i 0)) (i:=i) (by rw[bF,bA (by lia),a8,bA (by lia)];rfl);rw[bA hi,e]at hu2;cases hu2;obtain⟨t2,rfl⟩:=ru2;exact PySem.MeetsSeq.EqGives.int _ _ _ _
 ·rw[show its.toArray.toList=its from rfl,Jo n r]
theorem SJ{K:qT}{id:String}{r:V->List V->Hp->VK->Prop}{o e:Expr}{t:TA}{apos cpos:Pos}(hK:X.K=K)(pa:PlainAttrs T)(slot:Slot T name id)(hty:typeOf (.builtin id)=pure (.type "method_descriptor"))(hm:XM X id r)(ho:PE X o to)(ha:PA X (e::es) t)
  (hbase:attributeBase o name X.env (eval o X.env)=eval o X.env:=by rfl)
  (hfew:((backTo cpos (starEach (e::es) X.env)).all (λx=>!x.1)&&(backToKw cpos (keywordEach [] X.env)).all (λx=>x.1.isSome)&&decide ((e::es).length+([]:List Keyword).length+(if ([]:List Keyword).isEmpty then 0 else 1)<30))=true:=by rfl)
  (hline:(apos.endLine==cpos.line)=true:=by rfl) (hs:starEach (e::es) X.env=(false,eval e X.env)::starEach es X.env:=by rfl) (hplain:(backTo cpos (starEach es X.env)).any (·.1)=false:=by rfl):
  PE X (.Call (.Attribute o name apos) (e::es) [] cpos) (Zq K T r to t):=by
 subst hK;exact O2 pa slot hty hm ho ha hbase hfew hline hs hplain
end L2
namespace L2
open PySem PySem.Spec PyProof.Rows RW
variable{G i j k mf mw:Nat}{H H':Hp}{X:Cx}{a:qP}{c gs g7 tf ws:qU}{g lf lo:Int}
noncomputable def Cu(n:Nat)(a b:qU):Int:=Ae n λi=>a.getD i 0*b.getD i 0
noncomputable def CP(ns:qU):Nat:=ns.foldl (λa n=>Nat.gcd a n.natAbs) 0
theorem Gc:∀(ns:qU) (a:Nat),(ns.foldl (λa n=>Nat.gcd a n.natAbs) a∣a)/\∀n∈ns,ns.foldl (λa n=>Nat.gcd a n.natAbs) a∣n.natAbs
 |[],a=>⟨Nat.dvd_refl _,λn hn=>by cases hn⟩
 |x::r,a=>by
  obtain⟨h1,h2⟩:=Gc r (Nat.gcd a x.natAbs);refine⟨Nat.dvd_trans h1 (Nat.gcd_dvd_left ..),λn hn=>?_⟩;rcases bi.mp hn with e|e
  ·rw[e];exact Nat.dvd_trans h1 (Nat.gcd_dvd_right ..)
  ·exact h2 n e
theorem Jp{ns:qU}{n:Int}(h:n∈ns):((CP ns:Nat):Int)∣n:=Int.ofNat_dvd_left.mpr ((Gc ns 0).2 n h)
theorem Qa{ns:qU}(h:CP ns=0):∀n∈ns,n=0:=λn hn=>by have:=(Gc ns 0).2 n hn;unfold CP at h;rw[h]at this;have:=Nat.eq_zero_of_zero_dvd this;lia
noncomputable def CL(ns:qU):qU:=if CP ns=0 then ns else ns.map λn=>n/((CP ns:Nat):Int)
theorem K3(ns:qU):(CL ns).length=ns.length:=by
 unfold CL;split
 ·rfl
 ·rw[a9]
theorem FY(ns:qU):∃d:Int,0<d/\∀i,ns.getD i 0=d*(CL ns).getD i 0:=by
 unfold CL
 by_cases z:CP ns=0
 ·rw[qD z];exact⟨1,by decide,λi=>by rw[cj]⟩
 ·rw[qC z];refine⟨((CP ns:Nat):Int),by lia,λi=>?_⟩
  by_cases c:i<ns.length
  ·rw[a8,a8,bF,bA c];exact (fi (Jp (b7 c))).symm
  ·rw[a8,a8,bF,bh (by lia)];rfl
theorem HS(ns:qU)(i:Nat):(CL ns).getD i 0=0↔ns.getD i 0=0:=by
 obtain⟨d,d0,h⟩:=FY ns;rw[h i];constructor
 ·intro z;rw[z,bj]
 ·intro z;rcases dN.mp z with y|y
  ·lia
  ·exact y
theorem M4(n:Nat)(w ns:qU):Cu n w (CL ns)=0↔Cu n w ns=0:=by
 obtain⟨d,d0,h⟩:=FY ns
 have e:Cu n w ns=Cu n w (CL ns)*d:=by unfold Cu;rw[<-DU];exact AT λi _=>by rw[h i,cH d,cQ]
 rw[e];constructor
 ·intro z;rw[z,cT]
 ·intro z;rcases dN.mp z with y|y
  ·exact y
  ·lia
def DF(r:qU)(f:Nat):Prop:=r.getD f 0≠0/\∀j,f<j->r.getD j 0=0
theorem DF.lt{r:qU}{f:Nat}(h:DF r f):f<r.length:=by
 by_cases c:f<r.length
 ·exact c
 ·exact qE (by rw[a8,bh (by lia)];rfl) h.1
theorem UB:∀(r:qU),(∃i,r.getD i 0≠0)->∃f,DF r f:=λr=>by
 have key:∀n,(∀j,n<=j->r.getD j 0=0)->(∃i,r.getD i 0≠0)->∃f,DF r f:=λn=>by
  induction n with
  |zero=>exact λh ⟨i,hi⟩=>qE (h i (cJ _)) hi
  |succ n ih =>
   intro h ex
   by_cases c:r.getD n 0=0
   ·exact ih (λj hj=>by
     by_cases e:j=n
     ·rw[e];exact c
     ·exact h j (by lia)) ex
   ·exact⟨n,c,λj hj=>h j hj⟩
 exact key r.length λj hj=>by rw[a8,bh hj];rfl
noncomputable def Lr(r o:qU)(f:Nat):qU:=(List.range r.length).map λi=>o.getD f 0*r.getD i 0-r.getD f 0*o.getD i 0
noncomputable def CQ(r o:qU)(f:Nat):qU:=CL (Lr r o f)
theorem Gd{r o:qU}(f:Nat)(hl:o.length=r.length)(i:Nat):(Lr r o f).getD i 0=o.getD f 0*r.getD i 0-r.getD f 0*o.getD i 0:=by
 unfold Lr
 by_cases c:i<r.length
 ·rw[AS c]
 ·have z:∀l:qU,l.length=r.length->l.getD i 0=0:=λl h=>by rw[a8,bh (by lia)];rfl
  rw[z _ (by rw[a9,bO]),z r rfl,z o hl,bj,bj,fV]
theorem Ge(r o:qU)(f:Nat):(CQ r o f).length=r.length:=by unfold CQ Lr;rw[K3,a9,bO]
theorem Gf{r o:qU}{f:Nat}(hl:o.length=r.length)(i:Nat):(CQ r o f).getD i 0=0↔o.getD f 0*r.getD i 0=r.getD f 0*o.getD i 0:=by unfold CQ;rw[HS,Gd f hl];lia
theorem Ls{n:Nat}{r o:qU}{f:Nat}(hl:o.length=r.length)(ho:o.getD f 0≠0)(w:qU)(h:Cu n w o=0):Cu n w (CQ r o f)=0↔Cu n w r=0:=by
 unfold CQ;rw[M4]
 have e:Cu n w (Lr r o f)=Cu n w r*o.getD f 0-Cu n w o*r.getD f 0:=by
  unfold Cu;rw[<-DU,<-DU,<-Gb]
  exact AT λi _=>by
   rw[Gd f hl,fu]
   congr 1
   ·rw[cH (o.getD f 0),<-cQ]
   ·rw[cH (r.getD f 0),<-cQ]
 rw[e,h,cT,fH];constructor
 ·intro z;rcases dN.mp z with y|y
  ·exact y
  ·exact qE y ho
 ·intro z;rw[z,cT]
def CC(r:qU)(b:Nat):Prop:=∀i,(r.getD i 0).natAbs<2^b
theorem CC.mono{r:qU}{b c:Nat}(h:CC r b)(hc:b<=c):CC r c:=λi=>bQ (h i) (cm (by decide) hc)
structure BA(G:Nat)(Rs:List (qU))(fs:List Nat):Prop where
 n:fs.length=Rs.length
 len:∀r∈Rs,r.length=G
 foot:∀(j:Nat) (r:qU) (f:Nat),Rs[j]?=some r->fs[j]?=some f->DF r f
 zero:∀(j l:Nat) (r:qU) (f:Nat),j≠l->Rs[j]?=some r->fs[l]?=some f->r.getD f 0=0
theorem BA.nil(G:Nat):BA G [] []:=⟨rfl,(λr h=>by cases h),(λj r f h=>by cases h),(λj l r f _ h=>by cases h)⟩
variable{Rs:List (qU)}
theorem BA.lt{fs:List Nat}(h:BA G Rs fs){f:Nat}(hf:fs[j]?=some f):f<G:=by have jl:=(bB.mp hf).1;obtain⟨r,hr⟩:∃r,Rs[j]?=some r:=⟨_,bA (by rw[<-h.n];exact jl)⟩;have:=(h.foot j r f hr hf).lt;rw[h.len r (bE hr)]at this;exact this
theorem BA.inj{fs:List Nat}(h:BA G Rs fs){l f:Nat}(hj:fs[j]?=some f)(hl:fs[l]?=some f):j=l:=by
 by_cases c:j=l
 ·exact c
 ·have jl:=(bB.mp hj).1;obtain⟨r,hr⟩:∃r,Rs[j]?=some r:=⟨_,bA (by rw[<-h.n];exact jl)⟩;exact qE (h.zero j l r f c hr hl) (h.foot j r f hr hj).1
noncomputable def BE(Rs:List (qU))(fs:List Nat):Nat->qU->qU
 |0,r=>r
 |j+1,r=>CQ (BE Rs fs j r) (Rs.getD j []) (fs.getD j 0)
section
variable{fs:List Nat}(h:BA G Rs fs){r0:qU}(hr:r0.length=G)
include h hr
theorem BA.at(hj:j<Rs.length):Rs[j]?=some (Rs.getD j [])/\fs[j]?=some (fs.getD j 0):=by
 have hf:j<fs.length:=by rw[h.n];exact hj
 exact⟨by rw[a8,bA hj];rfl,by rw[a8,bA hf];rfl⟩
theorem CD:∀j,(BE Rs fs j r0).length=G
 |0=>hr
 |j+1=>by show (CQ _ _ _).length=G;rw[Ge];exact CD j
theorem E9:∀j,j<=Rs.length->∀l,l<j->(BE Rs fs j r0).getD (fs.getD l 0) 0=0
 |0,_,l,hl=>qE hl (ce _)
 |j+1,hj,l,hl=>by
  obtain⟨a1,a2⟩:=h.at hr (j:=j) (by lia);have ol:=h.len _ (bE a1);show (CQ (BE Rs fs j r0) _ _).getD _ 0=0;rw[Gf (by rw[ol,CD h hr])]
  by_cases c:l=j
  ·subst c;rw[cH]
  ·obtain⟨b1,b2⟩:=h.at hr (j:=l) (by lia);rw[E9 j (by lia) l (by lia),h.zero j l _ _ (λz=>c z.symm) a1 b2,bj,bj]
theorem ES{n:Nat}(w:qU)(hw:∀r∈Rs,Cu n w r=0):∀j,j<=Rs.length->(Cu n w (BE Rs fs j r0)=0↔Cu n w r0=0)
 |0,_=>Iff.rfl
 |j+1,hj=>by obtain⟨a1,a2⟩:=h.at hr (j:=j) (by lia);have ol:=h.len _ (bE a1);show Cu n w (CQ (BE Rs fs j r0) _ _)=0↔_;rw[Ls (by rw[ol,CD h hr]) (h.foot j _ _ a1 a2).1 w (hw _ (bE a1)),ES w hw j (by lia)]
end
theorem BA.add{fs:List Nat}(h:BA G Rs fs){r:qU}(hr:r.length=G)(hz:∀l,l<Rs.length->r.getD (fs.getD l 0) 0=0){f:Nat}(hf:DF r f):BA G (Rs.map (λo=>CQ o r f)++[r]) (fs++[f]):=by
 have look:∀(j:Nat) (r':qU),(Rs.map (λo=>CQ o r f)++[r])[j]?=some r'->(j<Rs.length/\∃o,Rs[j]?=some o/\r'=CQ o r f)\/(j=Rs.length/\r'=r):=λj r' hj=>by
  by_cases c:j<Rs.length
  ·rw[bU (by rw[a9];exact c),bF]at hj;cases z:Rs[j]? with
   |none=>rw[z]at hj;cases hj
   |some o=>rw[z]at hj;exact .inl ⟨c,o,rfl,(Option.some.inj hj).symm⟩
  ·rw[bS (by rw[a9];lia),a9]at hj;have:=(bB.mp hj).1;rw[bc]at this;have e:j-Rs.length=0:=by lia
   rw[e]at hj;exact .inr ⟨by lia,(Option.some.inj hj).symm⟩
 have lookf:∀(j g:Nat),(fs++[f])[j]?=some g->(j<Rs.length/\fs[j]?=some g)\/(j=Rs.length/\g=f):=λj g hj=>by
  by_cases c:j<fs.length
  ·rw[bU c]at hj;exact .inl ⟨by rw[<-h.n];exact c,hj⟩
  ·rw[bS (by lia)]at hj;have:=(bB.mp hj).1;rw[bc]at this;have e:j-fs.length=0:=by lia
   rw[e]at hj;exact .inr ⟨by rw[<-h.n];lia,(Option.some.inj hj).symm⟩
 have zf:∀(l g:Nat),fs[l]?=some g->r.getD g 0=0:=λl g hl=>by have jl:=(bB.mp hl).1;have:=hz l (by rw[<-h.n];exact jl);rw[show fs.getD l 0=g by rw[a8,hl];rfl]at this;exact this
 refine⟨by rw[bC,bC,a9,h.n];rfl,λr' hr'=>?_,λj r' g hj hg=>?_,λj l r' g ne hj hg=>?_⟩
 ·rcases bJ.mp hr' with z|z
  ·obtain⟨o,ho,rfl⟩:=bR.mp z;rw[Ge];exact h.len o ho
  ·rw[bL.mp z];exact hr
 ·rcases look j r' hj with⟨c,o,ho,rfl⟩|⟨c,rfl⟩
  ·rcases lookf j g hg with⟨_,hg'⟩|⟨e,_⟩
   ·have fo:=h.foot j o g ho hg';have ol:=h.len o (bE ho);have hl:r.length=o.length:=by rw[hr,ol]
    refine⟨λz=>?_,λk hk=>?_⟩
    ·rw[Gf hl,zf j g hg',bj]at z;rcases dN.mp z with y|y
     ·exact hf.1 y
     ·exact fo.1 y
    ·rw[Gf hl,fo.2 k hk,bj];rcases Nat.lt_trichotomy f g with y|y|y
     ·rw[hf.2 k (by lia),bj]
     ·exact qE (by rw[y];exact zf j g hg') hf.1
     ·rw[fo.2 f y,cT]
   ·lia
  ·rcases lookf j g hg with⟨e,_⟩|⟨_,rfl⟩
   ·lia
   ·exact hf
 ·rcases look j r' hj with⟨c,o,ho,rfl⟩|⟨c,rfl⟩
  ·have ol:=h.len o (bE ho);have hl:r.length=o.length:=by rw[hr,ol]
   rw[Gf hl];rcases lookf l g hg with⟨_,hg'⟩|⟨_,rfl⟩
   ·rw[h.zero j l o g ne ho hg',zf l g hg',bj,bj]
   ·rw[cH]
  ·rcases lookf l g hg with⟨_,hg'⟩|⟨e,_⟩
   ·exact zf l g hg'
   ·lia
structure FC(n:Nat)(Rs:List (qU))(picked seen:List (qU)):Prop where
 both:∀w:qU,(∀r∈Rs,Cu n w r=0)↔∀c∈picked,Cu n w c=0
 all:∀w:qU,(∀r∈Rs,Cu n w r=0)->∀c∈seen,Cu n w c=0
theorem FC.nil(n:Nat):FC n [] [] []:=⟨λw=>Iff.rfl,λw _ c hc=>by cases hc⟩
theorem FC.skip{n:Nat}{picked seen:List (qU)}{fs:List Nat}(h:FC n Rs picked seen)(ok:BA G Rs fs)(hc:c.length=G)(hz:∀i,(BE Rs fs Rs.length c).getD i 0=0):FC n Rs picked (seen++[c]):=⟨h.both,λw hw c' hc'=>by
 rcases bJ.mp hc' with z|z
 ·exact h.all w hw c' z
 ·rw[bL.mp z];refine (ES ok hc w hw Rs.length (bD _)).mp ?_;unfold Cu;rw[AT (g:=λ_=>0) λi _=>by rw[hz i,bj],BC,bj]⟩
theorem FC.take{n:Nat}{picked seen:List (qU)}{fs:List Nat}(h:FC n Rs picked seen)(ok:BA G Rs fs)(hc:c.length=G){f:Nat}(hf:DF (BE Rs fs Rs.length c) f):FC n (Rs.map (λo=>CQ o (BE Rs fs Rs.length c) f)++[BE Rs fs Rs.length c]) (picked++[c]) (seen++[c]):=by
 obtain⟨r,hr⟩:∃r,r=BE Rs fs Rs.length c:=⟨_,rfl⟩;have rl:r.length=G:=by rw[hr];exact CD ok hc _
 rw[<-hr]at hf⊢
 have base:∀w:qU,(∀r'∈Rs.map (λo=>CQ o r f)++[r],Cu n w r'=0)↔(∀r'∈Rs,Cu n w r'=0)/\Cu n w c=0:=λw=>by
  constructor
  ·intro hw;have w1:Cu n w r=0:=hw r (ba _ (bL.mpr rfl));have w2:∀r'∈Rs,Cu n w r'=0:=λo ho=>(Ls (by rw[rl,ok.len o ho]) hf.1 w w1).mp (hw _ (cX _ (bR.mpr ⟨o,ho,rfl⟩)))
   refine⟨w2,?_⟩;rw[hr]at w1;exact (ES ok hc w w2 Rs.length (bD _)).mp w1
  ·rintro⟨w2,wc⟩;have w1:Cu n w r=0:=by rw[hr];exact (ES ok hc w w2 Rs.length (bD _)).mpr wc
   intro r' hr';rcases bJ.mp hr' with z|z
   ·obtain⟨o,ho,rfl⟩:=bR.mp z;exact (Ls (by rw[rl,ok.len o ho]) hf.1 w w1).mpr (w2 o ho)
   ·rw[bL.mp z];exact w1
 refine⟨λw=>?_,λw hw c' hc'=>?_⟩
 ·rw[base w,h.both w];constructor
  ·rintro⟨a,b⟩ c' hc';rcases bJ.mp hc' with z|z
   ·exact a c' z
   ·rw[bL.mp z];exact b
  ·intro a;exact⟨λc' z=>a c' (cX _ z),a c (ba _ (bL.mpr rfl))⟩
 ·obtain⟨a,b⟩:=(base w).mp hw;rcases bJ.mp hc' with z|z
  ·exact h.all w a c' z
  ·rw[bL.mp z];exact b
theorem Jq:∀(G:Nat) (l:List Nat),l.Nodup->(∀x∈l,x<G)->l.length<=G
 |0,l,_,h=>by
  cases l with
  |nil=>exact bD _
  |cons x r=>exact qE (h x (bf ..)) (ce _)
 |G+1,l,nd,h=>by
  by_cases c:G∈l
  ·have a:=Jq G (l.erase G) (nd.erase G) λx hx=>by
    have z:=(nd.mem_erase_iff).mp hx;have:=h x z.2;have:=z.1;lia
   rw[List.length_erase_of_mem c]at a;lia
  ·have:=Jq G l nd λx hx=>by
    have:=h x hx;have:x≠G:=λz=>c (by rw[<-z];exact hx)
    lia
   lia
noncomputable def CM(G:Nat)(Rs:List (qU))(fs:List Nat)(hd:Nat)(D:Int):qU:=(List.range G).map λi=>if i=hd then D else
 match (List.range Rs.length).find? (λj=>fs.getD j 0==i) with
 |some j=>-((Rs.getD j []).getD hd 0)*D/(Rs.getD j []).getD i 0
 |none=>0
theorem ET{fs:List Nat}(h:BA G Rs fs){hd:Nat}(D:Int)(nf:¬hd∈fs)(hj:j<Rs.length):(CM G Rs fs hd D).getD (fs.getD j 0) 0=-((Rs.getD j []).getD hd 0)*D/(Rs.getD j []).getD (fs.getD j 0) 0:=by
 have a2:fs[j]?=some (fs.getD j 0):=by rw[a8,bA (by rw[h.n];exact hj)];rfl
 unfold CM;rw[AS (h.lt a2),qC (λz=>nf (by rw[<-z];exact bE a2))]
 have fd:(List.range Rs.length).find? (λl=>fs.getD l 0==fs.getD j 0)=some j:=by
  rw[List.find?_eq_some_iff_append];refine⟨beq_self_eq_true _,(List.range Rs.length).take j,(List.range Rs.length).drop (j+1),?_,λl hl=>?_⟩
  ·have:(List.range Rs.length).drop j=j::(List.range Rs.length).drop (j+1):=by
    rw[c7 (by rw[bO];exact hj),List.getElem_range]
   rw[<-this,dQ]
  ·have ll:l<j:=by
    rw[List.take_range]at hl;have:=bW.mp hl;lia
   have b2:fs[l]?=some (fs.getD l 0):=by rw[a8,bA (by rw[h.n];lia)];rfl
   rw[Bool.not_eq_true',beq_eq_false_iff_ne];intro e;rw[e]at b2;have:=h.inj b2 a2;lia
 rw[fd]
theorem EU(Rs:List (qU))(fs:List Nat){hd:Nat}(hl:hd<G)(D:Int):(CM G Rs fs hd D).getD hd 0=D:=by unfold CM;rw[AS hl,qD rfl]
theorem EV{fs:List Nat}(hn:fs.length=Rs.length){hd:Nat}(D:Int)(h1:i≠hd)(h2:¬i∈fs):(CM G Rs fs hd D).getD i 0=0:=by
 unfold CM
 by_cases c:i<G
 ·rw[AS c,qC h1];have fd:(List.range Rs.length).find? (λl=>fs.getD l 0==i)=none:=by rw[List.find?_eq_none];intro l hl e;have ll:=bW.mp hl;refine h2 ?_;rw[<-eq_of_beq e,a8,bA (by rw[hn];exact ll)];exact b7 _
  rw[fd]
 ·rw[a8,bh (by rw[a9,bO];lia)];rfl
theorem Qb{fs:List Nat}(h:BA G Rs fs){hd:Nat}(hl:hd<G){D:Int}(nf:¬hd∈fs)(hD:∀j,j<Rs.length->(Rs.getD j []).getD (fs.getD j 0) 0∣D):∀r∈Rs,Cu G (CM G Rs fs hd D) r=0:=λr hr=>by
 obtain⟨j,hj⟩:=bY.mp hr;have jl:=(bB.mp hj).1;have er:Rs.getD j []=r:=by rw[a8,hj];rfl
 have a2:fs[j]?=some (fs.getD j 0):=by rw[a8,bA (by rw[h.n];exact jl)];rfl
 have fo:=h.foot j r _ hj a2;have fl:=h.lt a2;have ne:fs.getD j 0≠hd:=λz=>nf (by rw[<-z];exact bE a2)
 have wf:=ET h D nf jl;rw[er]at wf;have wh:=EU Rs fs hl D
 have only:∀i,i<G->(CM G Rs fs hd D).getD i 0*r.getD i 0=(if i=hd then D*r.getD hd 0 else 0)+if i=fs.getD j 0 then -(r.getD hd 0)*D/r.getD (fs.getD j 0) 0*r.getD (fs.getD j 0) 0 else 0:=λi hi=>by
  by_cases c1:i=hd
  ·rw[qD c1,qC (λz=>ne (by rw[<-z,c1])),c1,wh,dB]
  ·rw[qC c1,bg]
   by_cases c2:i=fs.getD j 0
   ·rw[qD c2,c2,wf]
   ·rw[qC c2]
    by_cases c3:i∈fs
    ·obtain⟨l,hl'⟩:=bY.mp c3;have:r.getD i 0=0:=h.zero j l r i (λz=>c2 (by subst z;rw[a2]at hl';exact (Option.some.inj hl').symm)) hj hl';rw[this,bj]
    ·rw[EV h.n D c1 c3,cT]
 unfold Cu;rw[AT only,GS,My hl,My fl]
 have dv:r.getD (fs.getD j 0) 0∣-(r.getD hd 0)*D:=by have:=hD j jl;rw[er]at this;exact Int.dvd_mul_of_dvd_right this
 rw[Int.ediv_mul_cancel dv,Int.neg_mul,cH D];lia
def YA(r:qU):Prop:=∀d:Nat,(∀i,d∣(r.getD i 0).natAbs)->d=1
theorem M5(d:Nat):∀(ns:qU) (a:Nat),d∣a->(∀n∈ns,d∣n.natAbs)->d∣ns.foldl (λa n=>Nat.gcd a n.natAbs) a
 |[],a,h,_=>h
 |x::r,a,h,h2=>M5 d r (Nat.gcd a x.natAbs) (Nat.dvd_gcd h (h2 x (bf ..))) λn hn=>h2 n (be _ hn)
theorem Qc{ns:qU}(h:CP ns≠0):YA (CL ns):=λd hd=>by
 have e:∀i,ns.getD i 0=((CP ns:Nat):Int)*(CL ns).getD i 0:=λi=>by
  unfold CL;rw[qC h]
  by_cases c:i<ns.length
  ·rw[a8,a8,bF,bA c];exact (fi (Jp (b7 c))).symm
  ·rw[a8,a8,bF,bh (by lia)];rfl
 have all:∀n∈ns,CP ns*d∣n.natAbs:=λn hn=>by obtain⟨i,hi,e1⟩:=d4 hn;have:=e i;rw[a8,bA hi,e1]at this;rw[show n=((CP ns:Nat):Int)*(CL ns).getD i 0 from this,dJ,dF];exact Nat.mul_dvd_mul_left _ (hd i)
 have:=M5 (CP ns*d) ns 0 (Nat.dvd_zero _) all;have le:=Nat.le_of_dvd (d9 h) this
 have d0:d≠0:=λz=>by rw[z,Nat.mul_zero]at this;exact h (Nat.eq_zero_of_zero_dvd this)
 have:CP ns*d<=CP ns*1:=by rw[Nat.mul_one];exact le
 have:=Nat.le_of_mul_le_mul_left this (d9 h);lia
def PZ(r:qU):Prop:=YA r\/∀i,r.getD i 0=0
theorem Ia(ns:qU):PZ (CL ns):=by
 by_cases z:CP ns=0
 ·refine .inr λi=>?_;unfold CL;rw[qD z]
  by_cases c:i<ns.length
  ·rw[a8,bA c];exact Qa z _ (b7 c)
  ·rw[a8,bh (by lia)];rfl
 ·exact .inl (Qc z)
theorem Lu{r:qU}(hp:PZ r){α β:Int}{v:Nat->Int}(ha:α≠0)(h:∀i,α*r.getD i 0=β*v i)(i:Nat):(r.getD i 0).natAbs<=(v i).natAbs:=by
 rcases hp with hp|hz
 ·have hn:∀i,α.natAbs*(r.getD i 0).natAbs=β.natAbs*(v i).natAbs:=λi=>by rw[<-dJ,<-dJ,h i]
  have A0:0<α.natAbs:=by lia
  have g0:0<Nat.gcd α.natAbs β.natAbs:=Nat.gcd_pos_of_pos_left _ A0;obtain⟨A',hA⟩:=Nat.gcd_dvd_left α.natAbs β.natAbs;obtain⟨B',hB⟩:=Nat.gcd_dvd_right α.natAbs β.natAbs;obtain⟨g,hg⟩:∃g,g=Nat.gcd α.natAbs β.natAbs:=⟨_,rfl⟩
  have cop:Nat.Coprime A' B':=by have:=Nat.coprime_div_gcd_div_gcd g0;rw[<-hg]at this hA hB g0;rw[hA,hB,Nat.mul_div_cancel_left _ g0,Nat.mul_div_cancel_left _ g0]at this;exact this
  rw[<-hg]at hA hB g0
  have eq:∀i,A'*(r.getD i 0).natAbs=B'*(v i).natAbs:=λi=>by have:=hn i;rw[hA,hB,fK,fK]at this;exact Nat.eq_of_mul_eq_mul_left g0 this
  have b1:B'=1:=hp B' λi=>(Nat.Coprime.symm cop).dvd_of_dvd_mul_left ⟨_,eq i⟩
  have a1:A'≠0:=λz=>by rw[z,Nat.mul_zero]at hA;lia
  have:=eq i;rw[b1,Nat.one_mul]at this;rw[<-this];exact Nat.le_mul_of_pos_left _ (d9 a1)
 ·rw[hz i];exact cJ _
structure Dy(Rs:List (qU))(fs:List Nat)(b:Nat)(Δ:Int)(M:Nat->Nat->Int):Prop where
 nz:Δ≠0
 db:Δ.natAbs<2^b
 mb:∀l,l<Rs.length->∀i,(M l i).natAbs<2^b
 eq:∀l,l<Rs.length->∀i,(Rs.getD l []).getD (fs.getD l 0) 0*M l i=Δ*(Rs.getD l []).getD i 0
theorem Dy.nil:Dy [] [] 1 1 (λ_ _=>0):=⟨by decide,by decide,(λl h=>qE h (ce _)),λl h=>qE h (ce _)⟩
section
variable{fs:List Nat}(ok:BA G Rs fs){b:Nat}{Δ:Int}{M:Nat->Nat->Int}(sc:Dy Rs fs b Δ M)(hc:c.length=G)
include ok sc hc
theorem Dy.foot{l m:Nat}(hl:l<Rs.length)(hm:m<Rs.length)(ne:l≠m):M l (fs.getD m 0)=0:=by
 obtain⟨a1,a2⟩:=ok.at hc hl;obtain⟨b1,b2⟩:=ok.at hc hm;have:=sc.eq l hl (fs.getD m 0);rw[ok.zero l m _ _ ne a1 b2,bj]at this;rcases dN.mp this with z|z
 ·exact qE z (ok.foot l _ _ a1 a2).1
 ·exact z
noncomputable def vJ(_:BA G Rs fs)(_:Dy Rs fs b Δ M)(c:qU)(j i:Nat):Int:=Δ*c.getD i 0-Ae j λl=>c.getD (fs.getD l 0) 0*M l i
theorem OT:∀j,j<=Rs.length->∃α β:Int,α≠0/\β≠0/\∀i,α*(BE Rs fs j c).getD i 0=β*vJ ok sc c j i
 |0,_=>⟨Δ,1,sc.nz,by decide,λi=>by show Δ*c.getD i 0=1*(Δ*c.getD i 0-Ae 0 _);rw[A8,fH,cj]⟩
 |j+1,hj=>by
  obtain⟨α,β,a0,b0,e⟩:=OT j (by lia);obtain⟨a1,a2⟩:=ok.at hc (j:=j) (by lia);have fo:=ok.foot j _ _ a1 a2;have ol:=ok.len _ (bE a1);obtain⟨d,d0,hd⟩:=FY (Lr (BE Rs fs j c) (Rs.getD j []) (fs.getD j 0));refine⟨α*d,β*(Rs.getD j []).getD (fs.getD j 0) 0,f6 a0 (by lia),f6 b0 fo.1,λi=>?_⟩;have at1:=hd i;rw[Gd _ (by rw[ol,CD ok hc])]at at1
  have vf:vJ ok sc c j (fs.getD j 0)=Δ*c.getD (fs.getD j 0) 0:=by unfold vJ;rw[AT (g:=λ_=>0) λl hl=>by rw[sc.foot ok hc (show l<Rs.length by lia) (show j<Rs.length by lia) (by lia),bj],BC,bj,fH]
  have v1:vJ ok sc c (j+1) i=vJ ok sc c j i-c.getD (fs.getD j 0) 0*M j i:=by unfold vJ;rw[AX];lia
  show α*d*(CQ (BE Rs fs j c) _ _).getD i 0=_;unfold CQ;rw[cQ,<-at1,v1,fu,<-cQ,cH α,cQ,e i,<-cQ α,e,vf,fu];have q:=sc.eq j (by lia) i;obtain⟨p,hp⟩:∃p,p=(Rs.getD j []).getD (fs.getD j 0) 0:=⟨_,rfl⟩;rw[<-hp]at q⊢
  have q1:β*(Δ*c.getD (fs.getD j 0) 0)*(Rs.getD j []).getD i 0=β*p*(c.getD (fs.getD j 0) 0*M j i):=by
   calc β*(Δ*c.getD (fs.getD j 0) 0)*(Rs.getD j []).getD i 0=β*c.getD (fs.getD j 0) 0*(Δ*(Rs.getD j []).getD i 0):=by simp only[Int.mul_comm,Int.mul_left_comm,Int.mul_assoc]
    _=β*c.getD (fs.getD j 0) 0*(p*M j i):=by rw[<-q]
    _=β*p*(c.getD (fs.getD j 0) 0*M j i):=by simp only[Int.mul_comm,Int.mul_left_comm,Int.mul_assoc]
  rw[q1]
  congr 1
  simp only[Int.mul_comm,Int.mul_left_comm,Int.mul_assoc]
theorem UC(n:Nat)(f:Nat->Int)(B:Nat)(h:∀k,k<n->(f k).natAbs<=B):(Ae n f).natAbs<=n*B:=by
 induction n with
 |zero=>rw[A8];exact cJ _
 |succ n ih =>
  rw[AX,Nat.succ_mul];have:=ih λk hk=>h k (by lia)
  have:=h n (by lia);have:=Int.natAbs_add_le (Ae n f) (f n);lia
theorem PV(cb:CC c 5)(hj:j<=Rs.length)(j15:j<=15)(i:Nat):(vJ ok sc c j i).natAbs<2^(b+9):=by
 have P:0<2^b:=Nat.pow_pos (by decide)
 have t1:(Δ*c.getD i 0).natAbs<=2^b*31:=by rw[dJ];exact dA (dq sc.db) (by have:=cb i;lia)
 have t2:=UC ok sc hc j (λl=>c.getD (fs.getD l 0) 0*M l i) (2^b*31) λl hl=>by rw[dJ,fG];exact dA (dq (sc.mb l (by lia) i)) (by have:=cb (fs.getD l 0);lia)
 have t3:j*(2^b*31)<=15*(2^b*31):=dc _ j15;have t4:=Int.natAbs_sub_le (Δ*c.getD i 0) (Ae j λl=>c.getD (fs.getD l 0) 0*M l i);have e:2^(b+9)=2^b*512:=Nat.pow_add ..;rw[e];unfold vJ;lia
theorem Gg(cb:CC c 5)(hj:j<=Rs.length)(j15:j<=15):CC (BE Rs fs j c) (b+9):=λi=>by
 cases j with
 |zero=>exact bQ (cb i) (cm (by decide) (by lia))
 |succ j =>
  obtain⟨α,β,a0,b0,e⟩:=OT ok sc hc (j+1) hj;exact d7 (Lu (Ia _) a0 e i) (PV ok sc hc cb hj j15 i)
theorem Dy.add(cb:CC c 5)(k15:Rs.length<=15){f:Nat}(hf:DF (BE Rs fs Rs.length c) f):
  ∃Δ' M',Dy (Rs.map (λo=>CQ o (BE Rs fs Rs.length c) f)++[BE Rs fs Rs.length c]) (fs++[f]) (2*b+10) Δ' M'/\∀r∈Rs.map (λo=>CQ o (BE Rs fs Rs.length c) f)++[BE Rs fs Rs.length c],CC r (2*b+10):=by
 obtain⟨α,β,a0,b0,e⟩:=OT ok sc hc Rs.length (bD _);have vb:=PV ok sc hc cb (bD _) k15;have rb:=Gg ok sc hc cb (bD _) k15;have rz:=E9 ok hc Rs.length (bD _);have rl:=CD ok hc Rs.length;obtain⟨r,hr⟩:∃r,r=BE Rs fs Rs.length c:=⟨_,rfl⟩;obtain⟨V,hV⟩:∃V:Nat->Int,V=λi=>vJ ok sc c Rs.length i:=⟨_,rfl⟩
 have e':∀i,α*r.getD i 0=β*V i:=λi=>by rw[hr,hV];exact e i
 have vb':∀i,(V i).natAbs<2^(b+9):=λi=>by rw[hV];exact vb i
 rw[<-hr]at hf rb rz rl⊢;clear e vb hV
 have vf:V f≠0:=λz=>by
  have:=e' f;rw[z,bj]at this;rcases dN.mp this with y|y
  ·exact a0 y
  ·exact hf.1 y
 have rv:∀i,r.getD f 0*V i=V f*r.getD i 0:=λi=>by refine dW b0 ?_;rw[<-cQ,cH β,cQ,<-e' i,<-cQ β,<-e' f];simp only[Int.mul_comm,Int.mul_left_comm,Int.mul_assoc]
 have P:2^(2*b+10)=2*(2^b*2^(b+9)):=by rw[<-Nat.pow_add,<-Nat.pow_succ'];congr 1;lia
 have look:∀l,l<Rs.length+1->(l<Rs.length/\(Rs.map (λo=>CQ o r f)++[r]).getD l []=CQ (Rs.getD l []) r f/\(fs++[f]).getD l 0=fs.getD l 0)\/(l=Rs.length/\(Rs.map (λo=>CQ o r f)++[r]).getD l []=r/\(fs++[f]).getD l 0=f):=λl hl=>by
  by_cases c':l<Rs.length
  ·refine .inl ⟨c',?_,?_⟩
   ·rw[a8,bU (by rw[a9];exact c'),bF,a8,bA c'];rfl
   ·rw[a8,bU (by rw[ok.n];exact c'),<-a8]
  ·have el:l=Rs.length:=by lia
   refine .inr ⟨el,?_,?_⟩
   ·rw[a8,bS (by rw[a9];lia),a9,el,eQ];rfl
   ·rw[a8,bS (by rw[ok.n];lia),ok.n,el,eQ];rfl
 have mbig:∀x y:Int,x.natAbs<2^b->y.natAbs<2^(b+9)->(x*y).natAbs<2^b*2^(b+9):=λx y hx hy=>by rw[dJ];exact Nat.mul_lt_mul'' hx hy
 have nlen:(Rs.map (λo=>CQ o r f)++[r]).length=Rs.length+1:=by rw[bC,a9];rfl
 have sc':Dy (Rs.map (λo=>CQ o r f)++[r]) (fs++[f]) (2*b+10) (Δ*V f) (λl i=>if l<Rs.length then V f*M l i-M l f*V i else Δ*V i):=by
  refine⟨f6 sc.nz vf,?_,λl hl i=>?_,λl hl i=>?_⟩
  ·have:=mbig Δ (V f) sc.db (vb' f);rw[P];lia
  ·rw[nlen]at hl;rw[P]
   by_cases c':l<Rs.length
   ·show (if l<Rs.length then V f*M l i-M l f*V i else Δ*V i).natAbs<_;rw[qD c'];have t1:=mbig (M l i) (V f) (sc.mb l c' i) (vb' f);have t2:=mbig (M l f) (V i) (sc.mb l c' f) (vb' i);have:=Int.natAbs_sub_le (V f*M l i) (M l f*V i);rw[cH (V f)]at this⊢;lia
   ·show (if l<Rs.length then V f*M l i-M l f*V i else Δ*V i).natAbs<_;rw[qC c'];have:=mbig Δ (V i) sc.db (vb' i);lia
  ·rw[nlen]at hl;show _*(if l<Rs.length then V f*M l i-M l f*V i else Δ*V i)=_;rcases look l hl with⟨c',e1,e2⟩|⟨c',e1,e2⟩
   ·rw[e1,e2,qD c'];obtain⟨a1,a2⟩:=ok.at hc c';have ol:=ok.len _ (bE a1);obtain⟨d,d0,hd⟩:=FY (Lr (Rs.getD l []) r f);have m1:=hd (fs.getD l 0);have m2:=hd i;rw[Gd f (by rw[rl,ol]),rz l c',bj,fH]at m1;rw[Gd f (by rw[rl,ol])]at m2;refine dW (show d≠0 by lia) ?_;unfold CQ;rw[<-cQ d,<-m1,<-cQ d,cH d (Δ*V f),cQ (Δ*V f),<-m2];have q1:=sc.eq l c' i;have q2:=sc.eq l c' f;obtain⟨p,hp⟩:∃p,p=(Rs.getD l []).getD (fs.getD l 0) 0:=⟨_,rfl⟩;rw[<-hp]at q1 q2⊢
    have w1:r.getD f 0*p*(V f*M l i)=Δ*V f*(r.getD f 0*(Rs.getD l []).getD i 0):=by
     calc r.getD f 0*p*(V f*M l i)=r.getD f 0*V f*(p*M l i):=by simp only[Int.mul_comm,Int.mul_left_comm,Int.mul_assoc]
      _=r.getD f 0*V f*(Δ*(Rs.getD l []).getD i 0):=by rw[q1]
      _=Δ*V f*(r.getD f 0*(Rs.getD l []).getD i 0):=by simp only[Int.mul_comm,Int.mul_left_comm,Int.mul_assoc]
    have w2:r.getD f 0*p*(M l f*V i)=Δ*V f*((Rs.getD l []).getD f 0*r.getD i 0):=by
     calc r.getD f 0*p*(M l f*V i)=p*M l f*(r.getD f 0*V i):=by simp only[Int.mul_comm,Int.mul_left_comm,Int.mul_assoc]
      _=Δ*(Rs.getD l []).getD f 0*(V f*r.getD i 0):=by rw[q2,rv i]
      _=Δ*V f*((Rs.getD l []).getD f 0*r.getD i 0):=by simp only[Int.mul_comm,Int.mul_left_comm,Int.mul_assoc]
    rw[fu,w1,w2,fu]
   ·rw[e1,e2,qC (by lia)]
    calc r.getD f 0*(Δ*V i)=Δ*(r.getD f 0*V i):=by simp only[Int.mul_comm,Int.mul_left_comm,Int.mul_assoc]
     _=Δ*(V f*r.getD i 0):=by rw[rv i]
     _=Δ*V f*r.getD i 0:=by rw[cQ]
 refine⟨_,_,sc',λr' hr' i=>?_⟩;rcases bJ.mp hr' with z|z
 ·obtain⟨l,hl⟩:=bY.mp hr';obtain⟨o,ho,rfl⟩:=bR.mp z;have ll:=(bB.mp hl).1;have er:(Rs.map (λo=>CQ o r f)++[r]).getD l []=CQ o r f:=by rw[a8,hl];rfl
  have q:=sc'.eq l ll;rw[er]at q;exact d7 (Lu (v:=λi=>(if l<Rs.length then V f*M l i-M l f*V i else Δ*V i)) (Ia _) sc'.nz (λi=>(q i).symm) i) (sc'.mb l ll i)
 ·rw[bL.mp z];exact bQ (rb i) (cm (by decide) (by lia))
end
theorem M6{i:Int}{m:Nat}(h:i.natAbs<2^m):Builtin.Int.intBits i<=m:=by
 unfold Builtin.Int.intBits;split
 ·exact cJ _
 ·rename_i z
  have z':i.natAbs≠0:=λe=>z (by first|(have:i=0:=by lia);rw[this];rfl|simpa using (show i=0 by lia))
  have:=(Nat.log2_lt z').mpr h;lia
def YB(i j:Int):Prop:=i.natAbs<2^100000/\j.natAbs<2^100000
theorem Ic:FM X (binaryOp .Mult) (rI YB λi j=>.int (i*j)):=XJ λ_ _ _ _ _ _ _ hc q=>mul_int q (.of_bits (cF (M6 hc.1) (by decide)) (cF (M6 hc.2) (by decide)))
theorem Qd{y t:Int}(hy:y≠0)(ht:t.natAbs<2^4000):Builtin.divisionGoesByPylong (y*t) y=false:=by
 have key:(if y*t==0 then 0 else (y*t).natAbs.log2/30+1)<=(if y==0 then 0 else y.natAbs.log2/30+1)+150:=by
  rw[qC (show ¬(y==0)=true from λz=>hy (eq_of_beq z))]
  by_cases z:(y*t==0)=true
  ·rw[qD z];exact cJ _
  ·rw[qC z];have nz:y*t≠0:=λe=>z (by rw[e];rfl)
   have y0:y.natAbs≠0:=by lia
   have p0:(y*t).natAbs≠0:=by lia
   have ly:y.natAbs<2^(y.natAbs.log2+1):=(Nat.log2_lt y0).mp (cq _)
   have:(y*t).natAbs.log2<y.natAbs.log2+1+4000:=(Nat.log2_lt p0).mpr (by rw[dJ,Nat.pow_add];exact Nat.mul_lt_mul'' ly ht)
   lia
 show (decide (_>300)&&decide ((if y*t==0 then 0 else (y*t).natAbs.log2/30+1)>(if y==0 then 0 else y.natAbs.log2/30+1)+150))=false;rw[qG (Nat.not_lt.mpr key),ej]
def YC(i j:Int):Prop:=j≠0/\∃t,i=j*t/\(t.natAbs<2^4000\/j.natAbs<2^8000)
theorem M7:FM X (binaryOp .FloorDiv) (rI YC λi j=>.int (i/j)):=XJ λi j _ _ _ _ _ hc q=>by obtain⟨j0,t,rfl,ht⟩:=hc;refine floordiv_int j0 ?_ (.inl (ht.elim (λh=>Qd j0 h) λh=>PyProof.noPylong_of_log2 (Nat.lt_trans ((Nat.log2_lt (by lia)).mpr h) (by decide))));rw[Int.mul_ediv_cancel_left _ j0]at q;rw[Int.mul_fdiv_cancel_left _ j0];exact q
noncomputable def DG(g lo:Int)(g7:qU)(m:Nat)(ring:qU):qU:=(List.range g.toNat).map λs:Nat=>(((Al g lo g7 m ring).count (s:Int):Nat):Int)-((ring.count (s:Int):Nat):Int)
theorem Ca(g lo:Int)(g7:qU)(m:Nat)(ring:qU):(DG g lo g7 m ring).length=g.toNat:=by unfold DG;rw[List.length_map,List.length_range]
noncomputable def DL(g:Int)(m:Nat):List (qU):=(List.range (g^(m-1)).toNat).map (λn:Nat=>List.replicate (m-1) 0++Ad g (n:Int) (m-1))++(List.range (g^m).toNat).map λn:Nat=>List.replicate (m-1) 0++Ad g (n:Int) m
structure Gv(H:Hp)(p:qP)(ps:List qP)(ws:List (qU)):Prop where
 l:H p=some (.lst (ps.map V.ref))
 n:ps.length=ws.length
 e:∀(i:Nat) (q:qP) (w:qU),ps[i]?=some q->ws[i]?=some w->H q=some (.lst (w.map V.int))
variable{ps:List qP}
theorem Gv.same{p:qP}{ws:List (qU)}(s:AH H H')(h:Gv H p ps ws):Gv H' p ps ws:=⟨s _ _ h.l,h.n,λi q w h1 h2=>s _ _ (h.e i q w h1 h2)⟩
theorem Gv.at{p:qP}{ws:List (qU)}(h:Gv H p ps ws){v:V}(hv:(ps.map V.ref)[i]?=some v):∃q,v=.ref q/\ps[i]?=some q/\i<ws.length/\ws[i]?=some (ws.getD i [])/\H q=some (.lst ((ws.getD i []).map V.int)):=by
 rw[bF]at hv;cases z:ps[i]? with
 |none=>rw[z]at hv;cases hv
 |some q =>
  rw[z]at hv;have il:i<ws.length:=by rw[<-h.n];exact (bB.mp z).1
  have w1:ws[i]?=some (ws.getD i []):=by rw[a8,bA il];rfl
  exact⟨q,(Option.some.inj hv).symm,rfl,il,w1,h.e i q _ z w1⟩
inductive F1(vs:List V)(H:Hp)(Q:VK)(z3_:XK):Prop
 |m (r a:qP) (g lo:Int) (g7:qU) (m:Nat) (ring:qU):vs=[.ref r,.ref a]->AY H r g lo g7 m->H a=some (.lst (ring.map V.int))->(∀x∈ring,0<=x/\x<g)->1<=ring.length->ring.length<=800->(∀p H',Dv H H' p (DG g lo g7 m ring)->Q (.ref p) H')->F1 vs H Q z3_
inductive OU(vs:List V)(H:Hp)(Q:VK)(z3_:XK):Prop
 |m (r:qP) (g lo:Int) (g7:qU) (m:Nat):vs=[.ref r]->AY H r g lo g7 m->g^(m-1)<=9->2<=m->(∀(p:qP) (ps:List qP) (H':Hp),AH H H'->Gv H' p ps (DL g m)->Q (.ref p) H')->OU vs H Q z3_
inductive SK(vs:List V)(H:Hp)(Q:VK)(z3_:XK):Prop
 |m (a:qP) (ns:qU):vs=[.ref a]->H a=some (.lst (ns.map V.int))->Q (.int ((CP ns:Nat):Int)) H->SK vs H Q z3_
inductive Lv(vs:List V)(H:Hp)(Q:VK)(z3_:XK):Prop
 |m (a:qP) (ns:qU):vs=[.ref a]->H a=some (.lst (ns.map V.int))->ns.length<=100->CC (CL ns) 4000->(∀p H',AH H H'->H' p=some (.lst ((CL ns).map V.int))->Q (.ref p) H')->Lv vs H Q z3_
inductive Jr(vs:List V)(H:Hp)(Q:VK)(z3_:XK):Prop
 |m (a:qP) (ns:qU) (f:Nat):vs=[.ref a]->H a=some (.lst (ns.map V.int))->ns.length<=100->DF ns f->(∀H',AH H H'->Q (.int ((f:Nat):Int)) H')->Jr vs H Q z3_
inductive SL(vs:List V)(H:Hp)(Q:VK)(z3_:XK):Prop
 |m (a b:qP) (r o:qU) (f:Nat):vs=[.ref a,.ref b]->H a=some (.lst (r.map V.int))->H b=some (.lst (o.map V.int))->o.length=r.length->r.length<=100->DF o f->CC r 4000->CC o 4000->CC (CQ r o f) 4000->(∀p H',AH H H'->H' p=some (.lst ((CQ r o f).map V.int))->Q (.ref p) H')->SL vs H Q z3_
inductive Vw(chg:qU->qU):List (qU)->List (qU)->List (qU)->List Nat->Prop
 |nil:Vw chg [] [] [] []
 |skip {seen rings Rs:List (qU)} {fs:List Nat} {ring:qU}:Vw chg seen rings Rs fs->(∀i,(BE Rs fs Rs.length (chg ring)).getD i 0=0)->Vw chg (seen++[ring]) rings Rs fs
 |take {seen rings Rs:List (qU)} {fs:List Nat} {ring:qU} {f:Nat}:Vw chg seen rings Rs fs->DF (BE Rs fs Rs.length (chg ring)) f->Vw chg (seen++[ring]) (rings++[ring]) (Rs.map (λo=>CQ o (BE Rs fs Rs.length (chg ring)) f)++[BE Rs fs Rs.length (chg ring)]) (fs++[f])
structure C6(g lo:Int)(g7:qU)(m:Nat)(rings Rs:List (qU))(fs:List Nat):Prop where
 rows:BA g.toNat Rs fs
 ask:FC g.toNat Rs (rings.map (DG g lo g7 m)) ((DL g m).map (DG g lo g7 m))
 sub:∀r∈rings,r∈DL g m
 few:Rs.length<=8
 scl:∃b Δ M,b<=3000/\Dy Rs fs b Δ M/\∀r∈Rs,CC r 3000
 ran:Vw (DG g lo g7 m) (DL g m) rings Rs fs
 cnt:rings.length=Rs.length
inductive Vx(CT:qP)(vs:List V)(H:Hp)(Q:VK)(E:XK):Prop
 |m (r:qP) (g lo:Int) (g7:qU) (m:Nat) (lf:Int) (tf:qU) (mf:Nat):vs=[.ref r]->AY H r g lo g7 m->A9 g lo g7 m lf tf mf->(g^(mf-1)<=9->∀(p pr pw:qP) (rs ws:List qP) (rings Rs:List (qU)) (fs:List Nat) (H':Hp),AH H H'->H' p=some (.tup [.ref pr,.ref pw])->Gv H' pr rs rings->Gv H' pw ws Rs->C6 g lf tf mf rings Rs fs->Q (.ref p) H')->(9<g^(mf-1)->∀H',AH H H'->E (.ref CT) none H')->Vx CT vs H Q E
theorem UD(h:i<G):(List.replicate G (1:Int)).getD i 0=1:=by rw[a8,cC,qD h];rfl
theorem PX(G:Nat)(r:qU):Cu G (List.replicate G 1) r=Ae G λi=>r.getD i 0:=by unfold Cu;exact AT λi hi=>by rw[UD hi,cj]
theorem M9:∀(G:Nat) (r:qU),(∀j,0<j->r.getD j 0=0)->0<G->Ae G (λi=>r.getD i 0)=r.getD 0 0
 |0,_,_,h=>qE h (bx _)
 |1,r,_,_=>by rw[AX,A8,bg]
 |G+2,r,h,_=>by rw[AX,M9 (G+1) r h (by lia),h (G+1) (by lia),dB]
theorem BA.few1{fs:List Nat}(h:BA G Rs fs)(G0:0<G)(h1:∀r∈Rs,Cu G (List.replicate G 1) r=0):Rs.length+1<=G:=by
 have pos:∀f∈fs,0<f:=λf hf=>by obtain⟨j,hj⟩:=bY.mp hf;have jl:=(bB.mp hj).1;obtain⟨r,hr⟩:∃r,Rs[j]?=some r:=⟨_,bA (by rw[<-h.n];exact jl)⟩;have ft:=h.foot j r f hr hj;refine d9 λz=>?_;rw[z]at ft;have:=h1 r (bE hr);rw[PX,M9 G r ft.2 G0]at this;exact ft.1 this
 have:=Jq (G-1) (fs.map (·-1)) (List.pairwise_iff_getElem.mpr λi j hi hj hij e=>?_) λx hx=>?_
 ·rw[a9,h.n]at this;lia
 ·rw[a9]at hi hj;rw[fe,fe]at e;have p1:=pos _ (b7 hi);have p2:=pos _ (b7 hj);have:=h.inj (bA hi) (by rw[bA hj];congr 1;lia);lia
 ·obtain⟨f,hf,rfl⟩:=bR.mp hx;obtain⟨j,hj⟩:=bY.mp hf;have:=h.lt hj;have:=pos f hf;lia
theorem HU(G:Nat):∀l:qU,(∀x∈l,0<=x/\x<(G:Int))->Ae G (λs=>((l.count (s:Int):Nat):Int))=((l.length:Nat):Int)
 |[],_=>by
  have z:∀n:Nat,Ae n (λs=>((([]:qU).count (s:Int):Nat):Int))=0:=λn=>by
   induction n with
   |zero=>rfl
   |succ n ih=>rw[AX,ih];rfl
  exact z G
 |x::l,h=>by
  have hx:=h x (bf ..);have ih:=HU G l λy hy=>h y (be _ hy)
  have one:∀n:Nat,Ae n (λs=>(if x=(s:Int) then (1:Int) else 0))=if x<(n:Int) then 1 else 0:=λn=>by
   induction n with
   |zero=>rw[A8,qC (by lia)]
   |succ n ih =>
    rw[AX,ih]
    by_cases c:x=(n:Int)
    ·rw[qC (by lia),qD c,qD (by lia)];rfl
    ·by_cases d:x<(n:Int)
     ·rw[qD d,qC c,qD (by lia)];rfl
     ·rw[qC d,qC c,qC (by lia)];rfl
  rw[AT (g:=λs=>((l.count (s:Int):Nat):Int)+(if x=(s:Int) then (1:Int) else 0)) λs _=>by
   rw[List.count_cons]
   by_cases c:x=(s:Int)
   ·rw[qD c,qD (by rw[c];exact beq_self_eq_true _)];rfl
   ·rw[qC c,qC (by simpa using c)];rfl]
  rw[GS,ih,one G,qD hx.2,cK];rfl
theorem OV{m:Nat}{ring:qU}{s:Nat}(h:s<g.toNat):(DG g lo g7 m ring).getD s 0=(((Al g lo g7 m ring).count (s:Int):Nat):Int)-((ring.count (s:Int):Nat):Int):=by unfold DG;rw[a8,bF,cV h];rfl
theorem K4(n:Nat)(f g:Nat->Int):Ae n (λk=>f k-g k)=Ae n f-Ae n g:=by
 induction n with
 |zero=>rfl
 |succ n ih=>rw[AX,AX,AX,ih];lia
theorem SM(g2:2<=g)(hb:∀n∈g7,0<=n/\n<g){m:Nat}{ring:qU}(hr:∀x∈ring,0<=x/\x<g):Cu g.toNat (List.replicate g.toNat 1) (DG g lo g7 m ring)=0:=by have eg:((g.toNat:Nat):Int)=g:=bN (by lia);rw[PX,AT (g:=λs=>(((Al g lo g7 m ring).count (s:Int):Nat):Int)-((ring.count (s:Int):Nat):Int)) λs hs=>OV hs,K4,HU _ _ (by rw[eg];exact Bx g2 lo hb m ring),HU _ _ (by rw[eg];exact hr),A3,fV]
theorem NA{m:Nat}{ring:qU}(h:ring.length<32):CC (DG g lo g7 m ring) 5:=λi=>by
 by_cases c:i<g.toNat
 ·rw[OV c];have a:=List.count_le_length (a:=(i:Int)) (l:=Al g lo g7 m ring);have b:=List.count_le_length (a:=(i:Int)) (l:=ring);rw[A3]at a;lia
 ·rw[a8,bh (by rw[Ca];lia)]
  decide
theorem FZ{m:Nat}(m2:2<=m)(m8:m<=8){r:qU}(h:r∈DL g m):1<=r.length/\r.length<32:=by
 unfold DL at h;rcases bJ.mp h with z|z
 ·obtain⟨n,_,rfl⟩:=bR.mp z;rw[bC,bP,Au];lia
 ·obtain⟨n,_,rfl⟩:=bR.mp z;rw[bC,bP,Au];lia
theorem F2(g2:2<=g){m:Nat}{r:qU}(h:r∈DL g m):∀x∈r,0<=x/\x<g:=by
 have z0:∀x∈List.replicate (m-1) (0:Int),0<=x/\x<g:=λx hx=>by rw[(dE.mp hx).2];lia
 unfold DL at h;rcases bJ.mp h with z|z
 ·obtain⟨n,_,rfl⟩:=bR.mp z;intro x hx;rcases bJ.mp hx with y|y
  ·exact z0 x y
  ·exact BQ g2 _ _ x y
 ·obtain⟨n,_,rfl⟩:=bR.mp z;intro x hx;rcases bJ.mp hx with y|y
  ·exact z0 x y
  ·exact BQ g2 _ _ x y
noncomputable def bK(k:Nat):Nat:=11*2^k-10
theorem PY(k:Nat):bK (k+1)=2*bK k+10:=by unfold bK;have:=Nat.one_le_two_pow (n:=k);rw[Nat.pow_succ];lia
theorem SN(h:k<=8):bK k<=2806:=by unfold bK;have:=cm (n:=2) (by decide) h;lia
structure Nc(g lo:Int)(g7:qU)(m:Nat)(seen rings Rs:List (qU))(fs:List Nat):Prop where
 rows:BA g.toNat Rs fs
 ask:FC g.toNat Rs (rings.map (DG g lo g7 m)) (seen.map (DG g lo g7 m))
 sub:∀r∈rings,r∈seen
 scl:∃Δ M,Dy Rs fs (bK Rs.length) Δ M/\∀r∈Rs,CC r (bK Rs.length)
 cnt:rings.length=Rs.length
 ran:Vw (DG g lo g7 m) seen rings Rs fs
theorem Nc.nil(g lo:Int)(g7:qU)(m:Nat):Nc g lo g7 m [] [] [] []:=⟨BA.nil _,FC.nil _,(λr h=>by cases h),⟨_,_,Dy.nil,λr h=>by cases h⟩,rfl,.nil⟩
section
variable{m:Nat}{seen rings:List (qU)}{fs:List Nat}(M:Nc g lo g7 m seen rings Rs fs)(g2:2<=g)(g9:g<=9)(hb:∀n∈g7,0<=n/\n<g)(hs:∀r∈seen,∀x∈r,0<=x/\x<g)
include M g2 g9 hb hs
theorem Nc.few:Rs.length<=8:=by
 have:=M.rows.few1 (by lia) ((M.ask.both (List.replicate g.toNat 1)).mpr λc hc=>by obtain⟨r,hr,rfl⟩:=bR.mp hc;exact SM g2 hb (hs r (M.sub r hr)))
 lia
theorem Nc.done(ha:seen=DL g m):C6 g lo g7 m rings Rs fs:=by have f8:=Nc.few M g2 g9 hb hs;obtain⟨Δ,N,s1,s2⟩:=M.scl;have:=SN f8;exact⟨M.rows,by rw[<-ha];exact M.ask,by rw[<-ha];exact M.sub,f8,⟨_,Δ,N,by lia,s1,λr hr=>(s2 r hr).mono (by lia)⟩,by rw[<-ha];exact M.ran,M.cnt⟩
end
section
variable{m:Nat}{seen rings:List (qU)}{fs:List Nat}(M:Nc g lo g7 m seen rings Rs fs)
include M
theorem Nc.skip{ring:qU}(hz:∀i,(BE Rs fs Rs.length (DG g lo g7 m ring)).getD i 0=0):Nc g lo g7 m (seen++[ring]) rings Rs fs:=⟨M.rows,by rw[bH];exact M.ask.skip M.rows (Ca ..) hz,λr hr=>cX _ (M.sub r hr),M.scl,M.cnt,M.ran.skip hz⟩
theorem Nc.take{ring:qU}(f8:Rs.length<=8)(rl:ring.length<32){f:Nat}(hf:DF (BE Rs fs Rs.length (DG g lo g7 m ring)) f):Nc g lo g7 m (seen++[ring]) (rings++[ring]) (Rs.map (λo=>CQ o (BE Rs fs Rs.length (DG g lo g7 m ring)) f)++[BE Rs fs Rs.length (DG g lo g7 m ring)]) (fs++[f]):=by
 obtain⟨Δ,N,s1,s2⟩:=M.scl;obtain⟨Δ',N',t1,t2⟩:=Dy.add M.rows s1 (Ca ..) (NA rl) (by lia) hf;refine⟨M.rows.add (CD M.rows (Ca ..) _) (E9 M.rows (Ca ..) _ (bD _)) hf,?_,λr hr=>?_,⟨Δ',N',?_,?_⟩,by rw[bC,bC,a9,M.cnt];rfl,M.ran.take hf⟩
 ·rw[bH,bH];exact M.ask.take M.rows (Ca ..) hf
 ·rcases bJ.mp hr with z|z
  ·exact cX _ (M.sub r z)
  ·exact ba _ z
 ·rw[bC,a9,bc,PY];exact t1
 ·rw[bC,a9,bc,PY];exact t2
theorem Nc.small{ring:qU}(f8:Rs.length<=8)(rl:ring.length<32)(hj:j<=Rs.length):CC (BE Rs fs j (DG g lo g7 m ring)) 3000:=by obtain⟨Δ,N,s1,s2⟩:=M.scl;have:=SN f8;exact (Gg M.rows s1 (Ca ..) (NA rl) hj (by lia)).mono (by lia)
theorem Nc.rowsb(f8:Rs.length<=8):∀r∈Rs,CC r 3000:=λr hr=>by obtain⟨Δ,N,s1,s2⟩:=M.scl;have:=SN f8;exact (s2 r hr).mono (by lia)
end
theorem EW{b:qP}{w:qU}(h1:H a=some (.lst (w.map V.int)))(w1:1<=w.length)(h2:H b=some (.lst (ps.map V.ref))):a≠b:=λe=>by
 rw[e,h2]at h1;cases w with
 |nil=>exact qE w1 (by decide)
 |cons x w =>
  cases ps with
  |nil=>simp only[Option.some.injEq,HO.lst.injEq,List.map_nil,List.map_cons]at h1;cases h1
  |cons p ps =>
   simp only[Option.some.injEq,HO.lst.injEq,List.map_cons,List.cons.injEq]at h1;cases h1.1
noncomputable def Cb(Rs:List (qU))(fs:List Nat):Nat->Nat
 |0=>1
 |j+1=>Cb Rs fs j*((Rs.getD j []).getD (fs.getD j 0) 0).natAbs
theorem Js{fs:List Nat}{b:Nat}(h:∀r∈Rs,CC r b):∀j,j<=Rs.length->Cb Rs fs j<2^(j*b+1)
 |0,_=>by unfold Cb;rw[Nat.zero_mul];decide
 |j+1,hj=>by
  have ih:=Js (fs:=fs) h j (by lia);have hr:(Rs.getD j [])∈Rs:=by rw[a8,bA (by lia)];exact b7 _
  have:=h _ hr (fs.getD j 0);unfold Cb;have m:=Nat.mul_lt_mul'' ih this;rw[<-Nat.pow_add]at m;rw[show (j+1)*b+1=j*b+1+b by rw[Nat.succ_mul];lia];exact m
theorem Fa(Rs:List (qU))(fs:List Nat):∀j k,k<j->((Rs.getD k []).getD (fs.getD k 0) 0).natAbs∣Cb Rs fs j
 |0,k,h=>qE h (ce _)
 |j+1,k,h=>by
  unfold Cb
  by_cases c:k=j
  ·rw[c];exact Nat.dvd_mul_left ..
  ·exact Nat.dvd_trans (Fa Rs fs j k (by lia)) (Nat.dvd_mul_right ..)
structure WJ(G:Nat)(Rs:List (qU))(fs:List Nat)(hd:Nat)(D:Int)(j:Nat)(ws:qU):Prop where
 n:ws.length=G
 h:ws.getD hd 0=D
 f:∀l,l<j->ws.getD (fs.getD l 0) 0=-((Rs.getD l []).getD hd 0)*D/(Rs.getD l []).getD (fs.getD l 0) 0
 z:∀i,i≠hd->(∀l,l<j->i≠fs.getD l 0)->ws.getD i 0=0
theorem FD(ws:qU)(k:Nat)(x:Int)(i:Nat)(h:k<ws.length):(ws.set k x).getD i 0=if i=k then x else ws.getD i 0:=by
 rw[a8,a8,List.getElem?_set]
 by_cases c:k=i
 ·rw[qD c,qD c.symm,qD h];rfl
 ·rw[qC c,qC (λz=>c z.symm)]
theorem WJ.add{fs:List Nat}{hd:Nat}{D:Int}(w:WJ G Rs fs hd D j ws)(ok:BA G Rs fs)(nf:¬hd∈fs)(hj:j<Rs.length):WJ G Rs fs hd D (j+1) (ws.set (fs.getD j 0) (-((Rs.getD j []).getD hd 0)*D/(Rs.getD j []).getD (fs.getD j 0) 0)):=by
 have at':∀l,l<Rs.length->fs[l]?=some (fs.getD l 0):=λl hl=>by rw[a8,bA (by rw[ok.n];exact hl)];rfl
 have fl:fs.getD j 0<ws.length:=by rw[w.n];exact ok.lt (at' j hj)
 have ne:hd≠fs.getD j 0:=λz=>nf (by rw[z];exact bE (at' j hj))
 refine⟨by rw[fI];exact w.n,by rw[FD _ _ _ _ fl,qC ne];exact w.h,λl hl=>?_,λi h1 h2=>?_⟩
 ·rw[FD _ _ _ _ fl]
  by_cases c:l=j
  ·rw[c,qD rfl]
  ·rw[qC λz=>c (ok.inj (at' l (by lia)) (by rw[z];exact at' j hj))];exact w.f l (by lia)
 ·rw[FD _ _ _ _ fl,qC (h2 j (by lia))];exact w.z i h1 λl hl=>h2 l (by lia)
theorem WJ.done{fs:List Nat}{hd:Nat}{D:Int}(w:WJ G Rs fs hd D Rs.length ws)(ok:BA G Rs fs)(nf:¬hd∈fs)(hl:hd<G):ws=CM G Rs fs hd D:=by
 have wl:(CM G Rs fs hd D).length=G:=by unfold CM;rw[List.length_map,List.length_range]
 have g:∀i,ws.getD i 0=(CM G Rs fs hd D).getD i 0:=λi=>by
  by_cases c:i=hd
  ·rw[c,w.h,EU Rs fs hl D]
  ·by_cases d:i∈fs
   ·obtain⟨l,e⟩:=bY.mp d;have ll:=(bB.mp e).1;have e':i=fs.getD l 0:=by rw[a8,e];rfl
    rw[ok.n]at ll;rw[e',w.f l ll,ET ok D nf ll]
   ·rw[EV ok.n D c d];refine w.z i c λl hl' z=>d ?_
    rw[z,a8,bA (by rw[ok.n];exact hl')];exact b7 _
 refine List.ext_getElem (by rw[w.n,wl]) λi h1 h2=>?_;have:=g i;rw[a8,bA h1,a8,bA h2]at this;exact this
noncomputable def Bl(G:Nat)(Rs:List (qU))(fs:List Nat)(hd:Nat):qU:=CL (CM G Rs fs hd ((Cb Rs fs Rs.length:Nat):Int))
inductive Vy(vs:List V)(H:Hp)(Q:VK)(z3_:XK):Prop
 |m (pw:qP) (ws:List qP) (G:Nat) (Rs:List (qU)) (fs:List Nat) (hd:Nat):vs=[.int ((G:Nat):Int),.ref pw,.int ((hd:Nat):Int)]->Gv H pw ws Rs->BA G Rs fs->G<=9->Rs.length<=8->(∀r∈Rs,CC r 3000)->hd<G->¬hd∈fs->CC (Bl G Rs fs hd) 4000->(∀p H',AH H H'->H' p=some (.lst ((Bl G Rs fs hd).map V.int))->Q (.ref p) H')->Vy vs H Q z3_
theorem NB(n:Nat)(a b:qU):Cu n a b=Cu n b a:=AT λi _=>cH ..
theorem Dz{fs:List Nat}(h:BA G Rs fs){hd:Nat}(hl:hd<G)(nf:¬hd∈fs):∀r∈Rs,Cu G (Bl G Rs fs hd) r=0:=λr hr=>by unfold Bl;rw[NB,M4,NB];exact Qb h hl nf (λj hj=>fW.mp (by rw[dF];exact Fa Rs fs _ j hj)) r hr
theorem DO(G:Nat)(Rs:List (qU))(fs:List Nat)(hd:Nat):(Bl G Rs fs hd).length=G:=by unfold Bl;rw[K3];unfold CM;rw[a9,bO]
theorem Jt{fs:List Nat}(h:BA G Rs fs){b:Nat}{Δ:Int}{M:Nat->Nat->Int}(sc:Dy Rs fs b Δ M){hd:Nat}(hl:hd<G)(nf:¬hd∈fs):CC (Bl G Rs fs hd) b:=λi=>by
 obtain⟨D,hD⟩:∃D:Int,D=((Cb Rs fs Rs.length:Nat):Int):=⟨_,rfl⟩
 have dvs:∀l,l<Rs.length->(Rs.getD l []).getD (fs.getD l 0) 0∣D:=λl hl'=>by rw[hD];exact fW.mp (by rw[dF];exact Fa Rs fs _ l hl')
 have hw:Bl G Rs fs hd=CL (CM G Rs fs hd D):=by unfold Bl;rw[hD]
 obtain⟨d,d0,hd'⟩:=FY (CM G Rs fs hd D);rw[<-hw]at hd'
 have ex:∀i,∃u:Int,u.natAbs<2^b/\Δ*(CM G Rs fs hd D).getD i 0=D*u:=λi=>by
  by_cases c:i=hd
  ·exact⟨Δ,sc.db,by rw[c,EU Rs fs hl D,cH]⟩
  ·by_cases e:i∈fs
   ·obtain⟨l,e⟩:=bY.mp e;have ll:=(bB.mp e).1;have e':i=fs.getD l 0:=by rw[a8,e];rfl
    rw[h.n]at ll;have rl:Rs[l]?=some (Rs.getD l []):=by rw[a8,bA ll];rfl
    have ft:=h.foot l _ _ rl e;have q:=sc.eq l ll hd;refine⟨-(M l hd),by rw[Int.natAbs_neg];exact sc.mb l ll hd,?_⟩;rw[e',ET h D nf ll];rw[e']at ft;obtain⟨t,ht⟩:=dvs l ll;rw[ht,Int.mul_left_comm,Int.mul_ediv_cancel_left _ ft.1];refine dW ft.1 ?_
    rw[show (Rs.getD l []).getD (fs.getD l 0) 0*((Rs.getD l []).getD (fs.getD l 0) 0*t*-M l hd)=(Rs.getD l []).getD (fs.getD l 0) 0*t*-((Rs.getD l []).getD (fs.getD l 0) 0*M l hd) by rw[<-Int.mul_neg];simp only[Int.mul_comm,Int.mul_left_comm,Int.mul_assoc],q,<-Int.mul_neg]
    simp only[Int.mul_comm,Int.mul_left_comm,Int.mul_assoc]
   ·exact⟨0,d9 (by have:=Nat.two_pow_pos b;lia),by rw[EV h.n D c e,bj,bj]⟩
 obtain⟨u,hu⟩:∃u:Nat->Int,∀i,(u i).natAbs<2^b/\Δ*(CM G Rs fs hd D).getD i 0=D*u i:=⟨λi=>(ex i).choose,λi=>(ex i).choose_spec⟩;have pz:PZ (Bl G Rs fs hd):=by rw[hw];exact Ia _
 refine d7 (Lu pz (α:=Δ*d) (β:=D) (v:=u) (f6 sc.nz (by lia)) (λi=>?_) i) (hu i).1;rw[<-(hu i).2,hd' i,cQ]
noncomputable def B5(G:Nat)(Rs:List (qU))(fs:List Nat)(k:Nat):List (qU):=((List.range k).filter λh=>decide (¬h∈fs)).map (Bl G Rs fs)
inductive UE(CT:qP)(vs:List V)(H:Hp)(Q:VK)(E:XK):Prop
 |m (r:qP) (g lo:Int) (g7:qU) (m:Nat) (lf:Int) (tf:qU) (mf:Nat):vs=[.ref r]->AY H r g lo g7 m->A9 g lo g7 m lf tf mf->(g^(mf-1)<=9->∀(p:qP) (rs:List qP) (rings Rs:List (qU)) (fs:List Nat) (H':Hp),AH H H'->Gv H' p rs (B5 g.toNat Rs fs g.toNat)->C6 g lf tf mf rings Rs fs->Q (.ref p) H')->(9<g^(mf-1)->∀H',AH H H'->E (.ref CT) none H')->UE CT vs H Q E
theorem KZ{K:qT}(h:X.K=K):FM X (compareOp .NotIn) (aw K true):=by subst h;exact LS
theorem NC(i:Nat):∀fs:List Nat,Zp (.int ((i:Nat):Int)) ((fs.map λf:Nat=>((f:Nat):Int)).map V.int)=decide (i∈fs)
 |[]=>rfl
 |f::fs=>by
  have ih:=NC i fs;unfold Zp at ih⊢;rw[cI,cI,List.any_cons,ih];show (((f:Nat):Int)==((i:Nat):Int)||decide (i∈fs))=_
  by_cases c:f=i
  ·rw[c,beq_self_eq_true,Bool.true_or];exact (qF (bf ..)).symm
  ·rw[beq_eq_false_iff_ne.mpr (by lia),Bool.false_or]
   by_cases d:i∈fs
   ·rw[qF d,qF (be _ d)]
   ·rw[qG d,qG (λz=>(bi.mp z).elim (λz=>c z.symm) d)]
theorem K6:∀fs:List Nat,(((fs.map λf:Nat=>((f:Nat):Int)).map V.int).all GD)=true
 |[]=>rfl
 |f::fs=>by rw[cI,cI,List.all_cons,K6 fs];rfl
theorem OW(G:Nat)(Rs:List (qU))(fs:List Nat)(k:Nat):B5 G Rs fs (k+1)=B5 G Rs fs k++if k∈fs then[] else[Bl G Rs fs k]:=by
 unfold B5;rw[b8,cL,bH]
 congr 1
 by_cases c:k∈fs
 ·rw[qD c,List.filter_cons,qC (by simpa using c)];rfl
 ·rw[qC c,List.filter_cons,qD (by simpa using c)];rfl
theorem Qe(G:Nat)(Rs:List (qU))(fs:List Nat)(k:Nat):(B5 G Rs fs k).length<=k:=by unfold B5;rw[a9];have:=cU (λh=>decide (¬h∈fs)) (List.range k);rw[bO]at this;exact this
theorem D1{fs:List Nat}{w:qU}(h:w∈B5 G Rs fs k):∃hd,hd<k/\¬hd∈fs/\w=Bl G Rs fs hd:=by unfold B5 at h;obtain⟨hd,h1,rfl⟩:=bR.mp h;obtain⟨a,b⟩:=bv.mp h1;exact⟨hd,bW.mp a,qL b,rfl⟩
theorem Gv.snoc{p:qP}{ws:List (qU)}(h:Gv H p ps ws){q:qP}{w:qU}(w1:∀u∈ws,1<=u.length)(h1:1<=w.length)(hq:H q=some (.lst (w.map V.int))):Gv (Ak H p (.lst (ps.map V.ref++[V.ref q]))) p (ps++[q]) (ws++[w]):=⟨by rw[AD,bH];rfl,by rw[bC,bC,h.n];rfl,λk q' u hk hu=>by
 have hn:=h.n
 by_cases kl:k<ps.length
 ·rw[bU kl]at hk;rw[bU (by lia)]at hu;have a:=h.e k q' u hk hu;rw[AJ (EW a (w1 u (bE hu)) h.l)];exact a
 ·rw[bS (by lia)]at hk;rw[bS (by lia)]at hu;have k0:k-ps.length=0:=by have:=(bB.mp hk).1;rw[bc]at this;lia
  have k1:k-ws.length=0:=by lia
  rw[k0]at hk;rw[k1]at hu;cases hk;cases hu;rw[AJ (EW hq h1 h.l)];exact hq⟩
theorem HV(G:Nat)(f:Nat->Int):∀l:qU,(∀x∈l,0<=x/\x<(G:Int))->(l.map λx=>f x.toNat).sum=Ae G λs=>f s*((l.count (s:Int):Nat):Int)
 |[],_=>by
  have z:∀n:Nat,Ae n (λs=>f s*((([]:qU).count (s:Int):Nat):Int))=0:=λn=>by
   induction n with
   |zero=>rfl
   |succ n ih =>
    rw[AX,ih];show 0+f n*0=0;rw[bj];rfl
  exact (z G).symm
 |x::l,h=>by
  have hx:=h x (bf ..);have ih:=HV G f l λy hy=>h y (be _ hy)
  have one:∀n:Nat,Ae n (λs=>(if x=(s:Int) then f s else 0))=if x<(n:Int) then f x.toNat else 0:=λn=>by
   induction n with
   |zero=>rw[A8,qC (by lia)]
   |succ n ih =>
    rw[AX,ih]
    by_cases c:x=(n:Int)
    ·rw[qC (by lia),qD c,qD (by lia),show x.toNat=n by lia,bg]
    ·by_cases d:x<(n:Int)
     ·rw[qD d,qC c,qD (by lia),dB]
     ·rw[qC d,qC c,qC (by lia)];rfl
  rw[cI,fJ,ih,AT (f:=λs=>f s*(((x::l).count (s:Int):Nat):Int)) (g:=λs=>(if x=(s:Int) then f s else 0)+f s*((l.count (s:Int):Nat):Int)) λs _=>?_,GS,one G,qD hx.2];rw[List.count_cons]
  by_cases c:x=(s:Int)
  ·rw[qD c,qD (by rw[c];exact beq_self_eq_true _),dC,Int.mul_add];show f s*((l.count (s:Int):Nat):Int)+f s*1=_;rw[Int.mul_one,dR]
  ·rw[qC c,qC (by simpa using c),Int.zero_add];rfl
theorem ND(ws ring:qU):Al g 0 ws 1 ring=ring.map λx=>ws.getD x.toNat 0:=by
 unfold Al;refine List.ext_getElem (by rw[a9,a9,bO]) λi h1 h2=>?_;rw[a9]at h2;rw[fe,fe,List.getElem_range];show ws.getD (Ao g [Ah ring ((i:Int)+0+((0:Nat):Int))]).toNat 0=_
 have e:Ah ring ((i:Int)+0+((0:Nat):Int))=ring[i]:=by unfold Ah;rw[show (i:Int)+0+((0:Nat):Int)=(i:Int) by lia,cE (by lia) (by lia),bI,a8,bA h2];rfl
 rw[e];show ws.getD (0*g+ring[i]).toNat 0=_;rw[cT,bg]
theorem Ha(g2:2<=g)(hb:∀n∈g7,0<=n/\n<g){m:Nat}(ws:qU){ring:qU}(hr:∀x∈ring,0<=x/\x<g):Cu g.toNat ws (DG g lo g7 m ring)=(Al g 0 ws 1 (Al g lo g7 m ring)).sum-(Al g 0 ws 1 ring).sum:=by have eg:((g.toNat:Nat):Int)=g:=bN (by lia);rw[ND,ND,HV g.toNat (λs=>ws.getD s 0) _ (by rw[eg];exact Bx g2 lo hb m ring),HV g.toNat (λs=>ws.getD s 0) _ (by rw[eg];exact hr),<-K4];exact AT λs hs=>by rw[OV hs,fu]
theorem UF(lo:Int)(g2:2<=g)(hb:∀n∈g7,0<=n/\n<g){m:Nat}(m1:1<=m)(ws:qU){ring:qU}(hr:∀x∈ring,0<=x/\x<g)(n1:1<=ring.length):Cu g.toNat ws (DG g lo g7 m ring)=Cu g.toNat ws (DG g 0 g7 m ring):=by rw[Ha g2 hb ws hr,Ha g2 hb ws hr,DN g2 lo g7 m1 ws (by decide) hr n1]
theorem Qf(hg:2<=g){m:Nat}{v:qU}(hl:v.length=m-1)(hb:∀x∈v,0<=x/\x<g):List.replicate (m-1) 0++v∈DL g m:=by have b:=BL hg hb;have e:=CF hg hb;rw[hl]at b e;unfold DL;refine cX _ (bR.mpr ⟨(Ao g v).toNat,bW.mpr (by lia),?_⟩);show List.replicate (m-1) 0++Ad g (((Ao g v).toNat:Nat):Int) (m-1)=_;rw[bN b.1,e]
theorem Qg(hg:2<=g){m:Nat}(m2:2<=m)(hl:(gs.length:Int)=g^m)(h:∀ring∈DL g m,(Ae ring.length λi=>gs.getD (Ao g (AZ ring m (i:Int))).toNat 0)=0):DE g.toNat gs (BM g.toNat gs):=λn=>by
 obtain⟨k,rfl⟩:∃k,m=k+1:=⟨m-1,by lia⟩;have k1:1<=k:=by lia
 induction n using Nat.strongRecOn with
 |_ n ih =>
  intro hn hw;have wl:=Au g (n:Int) (k+1);have wb:=BQ hg (n:Int) (k+1);have l1:(List.replicate k (0:Int)++Ad g (n:Int) (k+1)).length=k+(k+1):=by rw[bC,bP,wl]
  have l2:(List.replicate k (0:Int)++(Ad g (n:Int) (k+1)).drop 1).length=k+k:=by rw[bC,bP,cA,wl];lia
  have a:=h (List.replicate k (0:Int)++Ad g (n:Int) (k+1)) (by unfold DL;exact ba _ (bR.mpr ⟨n,bW.mpr (by lia),rfl⟩))
  have b:=h (List.replicate k (0:Int)++(Ad g (n:Int) (k+1)).drop 1) (Qf (m:=k+1) hg (by rw[cA,wl]) λx hx=>wb x (cB hx));rw[l1]at a;rw[l2]at b;exact Hu hg hl k1 hn hw (λj hj=>ih j hj (by lia)) a b
theorem K7(g2:2<=g)(lo:Int)(hb:∀n∈g7,0<=n/\n<g){m:Nat}(m2:2<=m)(m8:m<=8)(wl:(ws.length:Int)=g):DE g.toNat (Bk g g7 m ws 1) (BM g.toNat (Bk g g7 m ws 1))↔∀ring∈DL g m,Cu g.toNat ws (DG g lo g7 m ring)=0:=by
 have gp:=RW.Aa g2 (m-1);have g1:g^1=g:=by rw[bq,cN,cj]
 have gl:((Bk g g7 m ws 1).length:Int)=g^m:=by rw[HM,cS,bN (by lia),wl,<-bq,show (m-1).succ=m by lia]
 have tie:∀ring:qU,(∀x∈ring,0<=x/\x<g)->1<=ring.length->Cu g.toNat ws (DG g lo g7 m ring)=Ae ring.length λi=>(Bk g g7 m ws 1).getD (Ao g (AZ ring m (i:Int))).toNat 0:=λring hr n1=>by rw[UF lo g2 hb (by lia) ws hr n1,Ha g2 hb ws hr,Jk g2 g7 (by lia) (by decide) (by rw[g1];exact wl) hr n1,show m+1-1=m by lia]
 constructor
 ·intro r ring hr;rw[tie ring (F2 g2 hr) (FZ m2 m8 hr).1];obtain⟨k,rfl⟩:∃k,m=k+1:=⟨m-1,by lia⟩;exact Hv g2 gl (FX g2 gl) r (F2 g2 hr) (FZ m2 m8 hr).1
 ·intro h;exact Qg g2 m2 gl λring hr=>by rw[<-tie ring (F2 g2 hr) (FZ m2 m8 hr).1];exact h ring hr
theorem A9.lt(hg:2<=g){m:Nat}(tb:∀n∈g7,0<=n/\n<g)(fw:A9 g lo g7 m lf tf mf):∀n∈tf,0<=n/\n<g:=by
 have bw:∀{lo:Int} {g7:qU} {m:Nat} {low:Int} {M:Nat},(∀n∈g7,0<=n/\n<g)->∀n∈EK g lo g7 m low M,0<=n/\n<g:=λ{lo g7 m low M} tb n hn=>by unfold EK at hn;obtain⟨k,_,rfl⟩:=bR.mp hn;exact Br hg tb _
 obtain⟨low,M,n,rfl,⟨rfl,rfl,rfl⟩|⟨h2,rfl,rfl⟩⟩:=fw
 ·exact bw (bw tb)
 ·exact bw tb
def Kp(g lo:Int)(g7:qU)(m:Nat)(ws:qU)(mw:Nat):Prop:=∀ring:qU,(∀x∈ring,0<=x/\x<g)->1<=ring.length->(Al g 0 ws mw (Al g lo g7 m ring)).sum=(Al g 0 ws mw ring).sum
variable{rings:List (qU)}
section
variable(g2:2<=g){m:Nat}(tl:(g7.length:Int)=g^m)(fw:A9 g lo g7 m lf tf mf)
include g2 tl fw
theorem Ju(wl:(ws.length:Int)=g^mw)(w1:1<=mw):DE g.toNat (Bk g tf mf ws mw) (BM g.toNat (Bk g tf mf ws mw))↔Kp g lo g7 m ws mw:=by
 have mf2:=fw.two;have gp:=RW.Aa g2 (mf-1);obtain⟨al,tfl⟩:=fw.alike g2 tl
 have gsl:((Bk g tf mf ws mw).length:Int)=g^(mf+mw-2+1):=by
  rw[HM,cS,bN (by lia),wl,<-Int.pow_add]
  congr 1
  lia
 have tie:∀ring:qU,(∀x∈ring,0<=x/\x<g)->1<=ring.length->(Al g 0 ws mw (Al g lo g7 m ring)).sum-(Al g 0 ws mw ring).sum=Ae ring.length λi=>(Bk g tf mf ws mw).getD (Ao g (AZ ring (mf+mw-2+1) (i:Int))).toNat 0:=λring rb n1=>by rw[<-Cs g2 al rb,DN g2 lf tf (by lia) ws w1 rb n1,Jk g2 tf (show 1<=mf by lia) w1 wl rb n1,show mf+mw-2+1=mf+mw-1 by lia]
 constructor
 ·intro r ring rb n1;have:=tie ring rb n1;rw[Hv g2 gsl (FX g2 gsl) r rb n1]at this;lia
 ·intro h;refine SH g2 gsl (by lia) λring rb n1=>?_;have a:=tie ring rb n1;have b:=h ring rb n1;lia
variable(tb:∀n∈g7,0<=n/\n<g)(mf8:mf<=8)
include tb mf8
theorem NE(wl:(ws.length:Int)=g){fs:List Nat}(B:C6 g lf tf mf rings Rs fs)(h:∀c:qU,(∀w∈B5 g.toNat Rs fs g.toNat,Cu g.toNat w c=0)->Cu g.toNat ws c=0):DE g.toNat (Bk g tf mf ws 1) (BM g.toNat (Bk g tf mf ws 1)):=by rw[K7 g2 lf (A9.lt g2 tb fw) fw.two mf8 wl];intro ring hr;refine h _ λw hw=>?_;obtain⟨hd,h1,h2,rfl⟩:=D1 hw;exact B.ask.all _ (Dz B.rows h1 h2) _ (bR.mpr ⟨ring,hr,rfl⟩)
theorem OX{fs:List Nat}(B:C6 g lf tf mf rings Rs fs){w:qU}(hw:w∈B5 g.toNat Rs fs g.toNat):w.length=g.toNat/\CC w 3000/\DE g.toNat (Bk g tf mf w 1) (BM g.toNat (Bk g tf mf w 1)):=by
 have wl:w.length=g.toNat:=by obtain⟨hd,h1,h2,rfl⟩:=D1 hw;exact DO ..
 refine⟨wl,?_,NE g2 tl fw tb mf8 (by lia) B λc hc=>hc w hw⟩;obtain⟨hd,h1,h2,rfl⟩:=D1 hw;obtain⟨b,Δ,M,hb,sc,_⟩:=B.scl;exact (Jt B.rows sc h1 h2).mono hb
end
end L2
namespace PySem
section
variable{prog:qR}{w:qS}{A:Around}{E:qO->qQ->Prop}{s:qQ}{it d:qP}{i ep:Nat}{od:Obj}{es:Array DictEntry}
theorem keys_item{Q:Option qO->qQ->Prop}(hit:s.heap.IsKeyIter it d i es.size ep)(hod:s.heap.get? d=some od)(hdd:od.data=.dict es ep)(hlt:i<es.size)
  (hQ:∀h',h'.IsKeyIter it d (i+1) es.size ep->Heap.SameBut it s.heap h'->Q (some es[i].key) {s with heap:=h'}):wpAny (model prog w) A (pyNext (.ref it)) Q E s:=by
 obtain⟨o,ho,hc,hd⟩:=id hit;have T:=hit.typeIs;unfold pyNext;refine qA (wpAny_attempt (wpAny_callSpecial?_slot (name:=Str.ofString "__next__") T F.slot_dict_keyiterator_next (wpAny_call_entry F.slot_dict_keyiterator_next T F.entry_dict_keyiterator_next ?_ (F.args_dict_keyiterator_next_1 _))));refine qA (qB (qA (qA ?_)));refine qA (wpAny_typeNameOfWhole_keyiter T (qB (qA (wpAny_fieldsOf ho hd ?_))));rw[show (if Builtin.Dict_items.ownsTuple "dict_keyiterator"=true then 2 else 0)=0 from qC (by decide)];show wpAny _ _ (if (Value.ref d==.none)=true then _ else _) _ _ s;rw[qC (show ¬((Value.ref d==.none)=true) from bT)];refine qA (qB (qA (wpAny_dictEntries hod hdd ?_)));rw[qC (by simp)];refine qA (qB (qA (wpAny_dictEpoch hod hdd ?_)));rw[qC (by simp)];refine qB ?_;simp only[show ¬((i:Int)<0) by lia,if_false,Int.toNat_natCast,Array.getElem?_eq_getElem hlt];refine qA (qA (wpAny_typeNameOfWhole_keyiter T (qB (qA (wpAny_isOneOf_keyiter T ?_)))));show wpAny _ _ (setField (.ref it) 1 (rawInt ((i:Int)+1)) >>= _) _ _ s;have hit':(s.heap.update it (Obj.mapFields (·.setIfInBounds 1 (rawInt ((i:Int)+1))))).IsKeyIter it d (i+1) es.size ep:=⟨_,Heap.get?_update_self _ ho (Obj.isFreed_of_fields (Obj.data_mapFields hd _)),(Obj.cls_mapFields ..).trans hc,by rw[Obj.data_mapFields hd];simp[rawInt]⟩;refine qA (wpAny_setField ho hd (by simp) (qA (qM (qA (wpAny_isOneOf_keyiter (s:={s with heap:=s.heap.update it (Obj.mapFields (·.setIfInBounds 1 (rawInt ((i:Int)+1))))}) hit'.typeIs ?_)))));show wpAny _ _ (pure es[i].key) _ _ _;exact qB (qB ⟨_,rfl,qB (hQ _ hit' (Heap.SameBut.update ..))⟩)
theorem keys_end{Q:Option qO->qQ->Prop}(hh:A.handled=none)(hit:s.heap.IsKeyIter it d i es.size ep)(hod:s.heap.get? d=some od)(hdd:od.data=.dict es ep)(hge:es.size<=i)
  (hQ:∀h',Heap.ExtBut it s.heap h'->Q none {s with heap:=h'}):wpAny (model prog w) A (pyNext (.ref it)) Q E s:=by
 obtain⟨o,ho,hc,hd⟩:=id hit;have T:=hit.typeIs;unfold pyNext;refine qA (wpAny_attempt (wpAny_callSpecial?_slot (name:=Str.ofString "__next__") T F.slot_dict_keyiterator_next (wpAny_call_entry F.slot_dict_keyiterator_next T F.entry_dict_keyiterator_next ?_ (F.args_dict_keyiterator_next_1 _))));refine qA (qB (qA (qA ?_)));refine qA (wpAny_typeNameOfWhole_keyiter T (qB (qA (wpAny_fieldsOf ho hd ?_))));rw[show (if Builtin.Dict_items.ownsTuple "dict_keyiterator"=true then 2 else 0)=0 from qC (by decide)];show wpAny _ _ (if (Value.ref d==.none)=true then _ else _) _ _ s;rw[qC (show ¬((Value.ref d==.none)=true) from bT)];refine qA (qB (qA (wpAny_dictEntries hod hdd ?_)));rw[qC (by simp)];refine qA (qB (qA (wpAny_dictEpoch hod hdd ?_)));rw[qC (by simp)];refine qB ?_;simp only[show ¬((i:Int)<0) by lia,if_false,Int.toNat_natCast,Array.getElem?_eq_none hge];refine qA (qA (wpAny_typeNameOfWhole_keyiter T (qB ?_)));show wpAny _ _ (setField (.ref it) 0 .none >>= _) _ _ s;refine qA (wpAny_setField ho hd (by simp) ?_);show wpAny _ _ (newExc (.type "StopIteration") [] >>= _) _ _ _;refine qA ?_;simp only[newExc,newTuple];refine qA (wpAny_newObj_type (qA (m:=firstArgMember _ _) (wpAny_of_eq (a:=Value.none) (by first|rfl|(simp only[firstArgMember];rfl)) (wpAny_newObj_type ?_ (by size_fits)))) (by size_fits));unfold raiseNew;refine qA (wpAny_handled ?_);rw[show A.in1.handled=none from hh];refine qA (qB (wpAny_throw ?_));exact qA (wpAny_isInstance (T:="StopIteration") (b:=true) ⟨_,bV _ rfl,rfl⟩ isSubtype_stop (qB (hQ _ (((Heap.SameBut.update ..).extBut.push _).push _))))
theorem keys_iter{Q:qO->qQ->Prop}(hm:(d==sysModules)=false)(hT:s.TypeIs (.ref d) "dict")(hod:s.heap.get? d=some od)(hdd:od.data=.dict es ep)
  (hQ:Q (.ref s.heap.objs.size) {s with heap:=s.heap.push {cls:=.type "dict_keyiterator",data:=.fields #[.ref d,.int 0 0,.int es.size 0,.int ep 0]}}):wpAny (model prog w) A (pyIter (.ref d)) Q E s:=by
 refine wpAny_pyIter_slot hT F.slot_dict_iter (wpAny_call_entry F.slot_dict_iter hT F.entry_dict_iter ?_ (F.args_dict_iter_1 _));unfold Builtin.«dict.__iter__»;refine qA ?_;unfold Builtin.Dict.dictSlotNone;refine qA (wpAny_notOrdered_dict hT ?_);show wpAny _ _ (pure (Value.ref d)) _ _ s;refine qB ?_;show wpAny _ _ (Builtin.Dict.showsAll d >>= _) _ _ s;unfold Builtin.Dict.showsAll;rw[qC (by rw[hm];exact bT)];refine qA (qB (qA (wpAny_dictEntries hod hdd (qA (wpAny_dictEpoch hod hdd ?_)))));exact qA (wpAny_newObj_type (qB ⟨_,rfl,"dict_keyiterator",_,⟨_,Heap.get?_push_size _ rfl,rfl⟩,F.slot_dict_keyiterator_next.lookup,by simpa [rawInt] using hQ⟩))
end
end PySem
namespace L2
open PySem PySem.Spec PyProof.Rows
variable{E Q:qO->qQ->Prop}{H H':Hp}{X:Cx}{a:qP}{h1:Heap}{ad:List (qP×Obj)}{s:qQ}{t':Nat}{tg:Expr}{u:qO}{xs:List V}{α β:Type}{σ:St}
theorem Bv{F:α->β->Prop}:∀{l₁:List α} {l₂:List β} {i:Nat} {x:α},Paired F l₁ l₂->l₁[i]?=some x->∃y,l₂[i]?=some y/\F x y
 |_,_,_,_,.nil,e=>by simp at e
 |_,_,0,_,.cons r _,e=>by simp at e;subst e;exact⟨_,rfl,r⟩
 |_,_,i+1,x,.cons _ t,e=>by obtain⟨u,h1,h2⟩:=Bv (i:=i) (x:=x) t (by simpa using e);exact⟨u,by simpa using h1,h2⟩
variable{d:qP}
theorem Ab.freeze{u:HO}(I:Ab X ad σ H s)(e:H d=some u)(nt:∀ys,u≠.tup ys)(nf:∀o v,u≠.frz o v)(nb:∀ps,u≠.tbl ps)(no:∀x,u≠.own x){o:Obj}(ho:s.heap.get? d=some o):Ab X ad σ (Ak H d (.frz o u)) s:=
 have up:∀{b:qP} {v:HO},H b=some v->v≠u->Ak H d (.frz o u) b=some v:=λ{b v} z n=>by rw[AJ λy=>n (by rw[y,e]at z;exact (Option.some.inj z).symm)];exact z
 have un:∀{b:qP},H b=none->Ak H d (.frz o u) b=none:=λ{b} z=>by rw[AJ λy=>by rw[y,e]at z;cases z];exact z
 {I with
  base:=⟨I.base.keep,I.base.slot,λb ob q n hx=>un (I.base.free b ob q n hx),I.base.there,λb xs q=>up (I.base.tups b xs q) λz=>nt _ z.symm,λb ob v q=>up (I.base.frzs b ob v q) λz=>nf _ _ z.symm,λb ps q=>by obtain⟨m,z⟩:=I.base.tbls b ps q;exact⟨m,up z λy=>nb _ y.symm⟩⟩
  free:=un I.free
  freeC:=λx c q=>un (I.freeC x c q)
  pin:=λp hp=>⟨(I.pin p hp).1,un (I.pin p hp).2.1,(I.pin p hp).2.2⟩
  hok:=λb v q=>by
   have st:∀{b:qP} {v:HO},H b=some v->A5 X.prog X.w (Ak H d (.frz o u)) s.heap b v:=λ{b v} q=>(I.hok b v q).stay (λ_ _ _ z=>z) (λc z=>up z λy=>no _ y.symm) λc xs z=>up z λy=>nt _ y.symm
   by_cases hb:b=d
   ·subst hb;rw[AD]at q;cases q;exact⟨ho,st e⟩
   ·rw[AJ hb]at q;exact st q}
theorem Vz{u:HO}(e:H d=some u):Ak H d u=H:=funext λb=>by
 by_cases z:b=d
 ·subst z;rw[AD,e]
 ·rw[AJ z]
abbrev Pa:=List Cc×qP×V
noncomputable def Jv(p:Pa):List Cc×V:=(p.1,p.2.2)
def F3(p:Pa)(q:List Cc×qP×qO):Prop:=p.1=q.1/\p.2.1=q.2.1/\BN p.2.2 q.2.2
def UG(P:qR)(w:qS)(d:qP)(bs:List Pa)(h:Heap):Prop:=bs.length<=sizeLine/\(d==sysModules)=false/\∃xs:List (List Cc×qP×qO),Paired F3 bs xs /\
 ∃o es ep,h.get? d=some o/\o.ExactDict/\o.data=.dict es ep/\es.toList=xs.map (entryOfKey (tupleKind (Bz P w)))/\(xs.map (·.1)).Nodup
noncomputable def S9(P:qR)(w:qS)(d:qP)(bs:List Pa):HO:=.ext (UG P w d bs)
def SO(K:qT)(H:Hp)(bs:List Pa):Prop:=∀p∈bs,Am K H p.2.1 (p.1.map kV)
def DW(P:qR)(w:qS)(K:qT)(H:Hp)(d:qP)(kvs:List (List Cc×V)):Prop:=∃bs,H d=some (S9 P w d bs)/\bs.map Jv=kvs/\SO K H bs
def DR(P:qR)(w:qS)(K:qT)(H:Hp)(d:qP)(u:HO)(kvs:List (List Cc×V)):Prop:=∃bs,H d=some u/\(u=S9 P w d bs\/∃o,u=.frz o (S9 P w d bs))/\bs.map Jv=kvs/\SO K H bs
section
variable{P:qR}{w:qS}{K:qT}{h:Heap}{u:HO}{kvs:List (List Cc×V)}
theorem Am.same'(e:AH H H')(q:Am K H a xs):Am K H' a xs:=q.imp (λz=>z.imp (e _ _) λ⟨o,z⟩=>⟨o,e _ _ z⟩) id
theorem DR.same(e:AH H H')(r:DR P w K H d u kvs):DR P w K H' d u kvs:=by obtain⟨bs,h1,h2,h3,h4⟩:=r;exact⟨bs,e _ _ h1,h2,h3,λp hp=>(h4 p hp).same' e⟩
theorem DW.same(e:AH H H')(r:DW P w K H d kvs):DW P w K H' d kvs:=by obtain⟨bs,h1,h3,h4⟩:=r;exact⟨bs,e _ _ h1,h3,λp hp=>(h4 p hp).same' e⟩
theorem DW.r(r:DW P w K H d kvs):∃u,DR P w K H d u kvs:=by obtain⟨bs,h1,h3,h4⟩:=r;exact⟨_,bs,h1,.inl rfl,h3,h4⟩
theorem F3.val{bs:List Pa}{xs:List (List Cc×qP×qO)}(r:Paired F3 bs xs)(k:List Cc):LK (Cf (bs.map Jv) k) ((atKey xs k).map (·.2)):=by
 induction r with
 |nil=>exact True.intro
 | @cons p q ps qs hh t ih =>
  obtain⟨h1,_,h2⟩:=hh
  by_cases e:p.1=k
  ·have e':q.1=k:=h1.symm.trans e;have b:atKey (q::qs) k=some q.2:=by simp[atKey,List.find?_cons,e']
   rw[cI,GY (show (Jv p).1=k from e),b];exact h2
  ·have e':¬q.1=k:=λz=>e (h1.trans z)
   have b:atKey (q::qs) k=atKey qs k:=by simp[atKey,List.find?_cons,e']
   rw[cI,E6 (show ¬(Jv p).1=k from e),b];exact ih
end
section
variable{b:qP}{u:HO}{kvs:List (List Cc×V)}{k:List Cc}
theorem EY(I:Ab X ad σ H s)(q:Am X.K H b (k.map kV)):(tupleKind (Bz X.prog X.w)).is s.heap k b:=by obtain⟨its,rv,p,hz⟩:=I.tuple q;obtain⟨o,h1,h2,n,h3⟩:=p;exact⟨o,its.toArray,n,h1,h2,h3,by simpa using Ky rv⟩
theorem DR.at(I:Ab X ad σ H s)(r:DR X.prog X.w X.K H d u kvs):∃bs xs,bs.map Jv=kvs/\SO X.K H bs/\Paired F3 bs xs/\bs.length<=sizeLine/\(d==sysModules)=false/\s.heap.DictOfH (tupleKind (Bz X.prog X.w)) d xs:=by
 refine byG λGq hGq=>?_;obtain⟨bs,h1,h2,h3,h4⟩:=r;refine hGq ?_;clear hGq Gq
 have ok:UG X.prog X.w d bs s.heap:=by
  rcases h2 with e|⟨o,e⟩
  ·subst e;exact (show A5 X.prog X.w H s.heap d (.ext _) from I.hok d _ h1).1
  ·subst e;exact (show A5 X.prog X.w H s.heap d (.ext _) from (show A5 X.prog X.w H s.heap d (.frz o _) from I.hok d _ h1).2).1
 refine byG λGq hGq=>?_;obtain⟨z,hd,xs,rel,o,es,ep,e1,e2,e3,e4,e5⟩:=ok;refine hGq ?_;clear hGq Gq;refine⟨bs,xs,h3,h4,rel,z,hd,o,es,ep,e1,e2,e3,e4,λx hx=>?_,e5⟩;obtain⟨i,hi⟩:=bY.mp hx;have hl:=Paired.length rel;have hi':=(bB.mp hi).1;refine byG λGq hGq=>?_;obtain⟨y,hy,r1,r2,_⟩:=Bv rel (i:=i) (x:=bs[i]) (by simp[show i<bs.length by lia]);refine hGq ?_;clear hGq Gq;rw[hi]at hy;cases hy;rw[<-r1,<-r2];exact EY I (h4 _ (b7 _))
variable{A:Around}{v:V}
theorem Qh(hu:A.units+1<cLine)(I:Ab X ad σ H s)(r:DR X.prog X.w X.K H d u kvs)(q:Am X.K H b (k.map kV))(l:Cf kvs k=some v)(h:∀w' s',Ab X ad σ H s'->BN v w'->Q w' s'):
  wpAny (model X.prog X.w) A (getItem (.ref d) (.ref b)) Q E s:=by
 obtain⟨bs,xs,h3,h4,rel,z,hd,dd⟩:=r.at I;obtain⟨w',hw,rw'⟩:=LK.some_of (v:=v) (o:=(atKey xs k).map (·.2)) (by rw[<-l,<-h3];exact F3.val rel k);obtain⟨p,hp,hp2⟩:=cR.mp hw;refine wpAny_getItem_heap (tupleKind_room_in1 hu) (EY I q) dd hp ?_;rw[hp2];exact h w' _ (I.tok _) rw'
theorem aB(hu:A.units+1<cLine)(I:Ab X ad σ H s)(r:DR X.prog X.w X.K H d u kvs)(q:Am X.K H b (k.map kV))(h:∀s',Ab X ad σ H s'->Q (.bool (Cf kvs k).isSome) s'):
  wpAny (model X.prog X.w) A (compareOp .In (.ref b) (.ref d)) Q E s:=by
 refine byG λGq hGq=>?_;obtain⟨bs,xs,h3,h4,rel,z,hd,dd⟩:=r.at I;refine hGq ?_;clear hGq Gq;refine wpAny_in_heap (tupleKind_room_in1 hu) (EY I q) hd dd ?_;have q:=(F3.val rel k).isSome_eq;rw[Option.isSome_map,h3]at q;rw[<-q];exact h _ (I.tok _)
theorem UH(hu:A.units+1<cLine)(I:Ab X ad σ H s)(r:DR X.prog X.w X.K H d u kvs)(q:Am X.K H b (k.map kV))(h:∀s',Ab X ad σ H s'->Q (.bool (!(Cf kvs k).isSome)) s'):
  wpAny (model X.prog X.w) A (compareOp .NotIn (.ref b) (.ref d)) Q E s:=by
 obtain⟨bs,xs,h3,h4,rel,z,hd,dd⟩:=r.at I;refine wpAny_notIn_heap (tupleKind_room_in1 hu) (EY I q) hd dd ?_;have q:=(F3.val rel k).isSome_eq;rw[Option.isSome_map,h3]at q;rw[<-q];exact h _ (I.tok _)
end
noncomputable def NF(bs:List Pa)(k:List Cc)(b:qP)(v:V):List Pa:=if (bs.any λp=>decide (p.1=k))=true then bs.map (λp=>if p.1=k then (p.1,p.2.1,v) else p) else bs++[(k,b,v)]
theorem Pb(bs:List Pa)(k:List Cc)(b:qP)(v:V):(NF bs k b v).map Jv=GX (bs.map Jv) k v:=by
 unfold NF GX;have e:((bs.map Jv).any λkv=>decide (kv.1=k))=bs.any λp=>decide (p.1=k):=by rw[List.any_map];rfl
 rw[e]
 by_cases z:(bs.any λp=>decide (p.1=k))=true
 ·rw[qD z,qD z,cp,cp];refine bZ λp _=>?_;show Jv (if p.1=k then (p.1,p.2.1,v) else p)=if (Jv p).1=k then ((Jv p).1,v) else Jv p
  by_cases y:p.1=k
  ·rw[qD y,qD (show (Jv p).1=k from y)];rfl
  ·rw[qC y,qC (show ¬(Jv p).1=k from y)]
 ·rw[qC z,qC z,bH];rfl
theorem F3.put{bs:List Pa}{xs:List (List Cc×qP×qO)}(r:Paired F3 bs xs)(k:List Cc)(b:qP){y:V}(ry:BN y u):Paired F3 (NF bs k b y) (storedH xs k b u):=by
 have e:(bs.any λp=>decide (p.1=k))=(atKey xs k).isSome:=by have q:=(F3.val r k).isSome_eq;rw[Option.isSome_map]at q;rw[<-q,<-Ja,List.any_map];rfl
 unfold NF storedH;rw[e]
 by_cases q:(atKey xs k).isSome=true
 ·rw[qD q,qD q];clear e q
  induction r with
  |nil=>exact .nil
  | @cons p q ps qs hh t ih =>
   rw[cI,cI];refine .cons ?_ ih;obtain⟨h1,h2,h3⟩:=hh;unfold putAt
   by_cases e:p.1=k
   ·rw[qD e,qD (h1.symm.trans e)];exact⟨h1,h2,ry⟩
   ·rw[qC e,qC (λz=>e (h1.trans z))];exact⟨h1,h2,h3⟩
 ·rw[qC q,qC q];exact Paired.snoc r ⟨rfl,rfl,ry⟩
theorem SQ{bs:List Pa}{k:List Cc}{b:qP}{v:V}{p:Pa}(h:p∈NF bs k b v):(∃q∈bs,p.1=q.1/\p.2.1=q.2.1)\/(p.1=k/\p.2.1=b):=by
 unfold NF at h
 split at h
 ·obtain⟨q,hq,e⟩:=bR.mp h;refine .inl ⟨q,hq,?_⟩
  by_cases z:q.1=k
  ·rw[qD z]at e;subst e;exact⟨rfl,rfl⟩
  ·rw[qC z]at e;subst e;exact⟨rfl,rfl⟩
 ·rcases bJ.mp h with z|z
  ·exact .inl ⟨p,z,rfl,rfl⟩
  ·rw[bL.mp z];exact .inr ⟨rfl,rfl⟩
theorem UG.stay{P:qR}{w:qS}{bs:List Pa}{h2:Heap}(x:UG P w d bs h1)(k:∀o,h1.get? d=some o->h2.get? d=some o):UG P w d bs h2:=by refine byG λGq hGq=>?_;obtain⟨z,hd,xs,rel,o,es,ep,e1,e2⟩:=x;refine hGq ?_;clear hGq Gq;exact⟨z,hd,xs,rel,o,es,ep,k _ e1,e2⟩
theorem Am.upd'{K:qT}{φ:Heap->Prop}{u:HO}(hd:H d=some (.ext φ))(q:Am K H a xs):Am K (Ak H d u) a xs:=by
 rcases q with (z|⟨o,z⟩)|z
 ·exact .inl (.inl (by rw[AJ (Ff z hd λy=>nomatch y)];exact z))
 ·exact .inl (.inr ⟨o,by rw[AJ (Ff z hd λy=>nomatch y)];exact z⟩)
 ·exact .inr z
section
variable{b:qP}{kvs:List (List Cc×V)}{k:List Cc}{A:Around}{v:V}{r:qO}
theorem DW.put(I:Ab X ad σ H s){bs:List Pa}{xs:List (List Cc×qP×qO)}(h1:H d=some (S9 X.prog X.w d bs))(h4:SO X.K H bs)(rel:Paired F3 bs xs)(hd:(d==sysModules)=false)(q:Am X.K H b (k.map kV))(hz:(bs.map Jv).length<sizeLine)(rv:BN v r){h':Heap}
  (dd':h'.DictOfH (tupleKind (Bz X.prog X.w)) d (storedH xs k b r)) (sb:Heap.SameBut d s.heap h'):∃u',DW X.prog X.w X.K (Ak H d u') d (GX (bs.map Jv) k v)/\Ab X ad σ (Ak H d u') {s with heap:=h',toks:=t'}:=by
 have hl:(NF bs k b v).length<=sizeLine:=by have a:=Mt (bs.map Jv) k v;rw[<-Pb bs k b v,a9]at a;lia
 refine byG λGq hGq=>?_;obtain⟨o,es,ep,g1,g2,g3,g4,_,g5⟩:=dd';refine hGq ?_;clear hGq Gq;refine⟨S9 X.prog X.w d (NF bs k b v),⟨_,AD,Pb ..,λp hp=>?_⟩,T5 I (by rw[h1];exact True.intro) sb ⟨o,g1⟩ ⟨⟨hl,hd,_,F3.put rel k b rv,o,es,ep,g1,g2,g3,g4,g5⟩,⟨o,g1⟩,λh1 h2 x k=>UG.stay x k⟩⟩;rcases SQ hp with⟨p',hp',e1,e2⟩|⟨e1,e2⟩
 ·rw[e1,e2];exact (h4 p' hp').upd' h1
 ·rw[e1,e2];exact q.upd' h1
theorem DW.at(I:Ab X ad σ H s)(w:DW X.prog X.w X.K H d kvs):∃bs xs,H d=some (S9 X.prog X.w d bs)/\bs.map Jv=kvs/\SO X.K H bs/\Paired F3 bs xs/\xs.length<=sizeLine/\(d==sysModules)=false/\s.heap.DictOfH (tupleKind (Bz X.prog X.w)) d xs:=by refine byG λGq hGq=>?_;obtain⟨bs,h1,h3,h4⟩:=w;refine hGq ?_;clear hGq Gq;refine byG λGq hGq=>?_;obtain⟨z,hd,xs,rel,o,es,ep,e1,e2,e3,e4,e5⟩:=(show A5 X.prog X.w H s.heap d (.ext _) from I.hok d _ h1).1;refine hGq ?_;clear hGq Gq;refine⟨bs,xs,h1,h3,h4,rel,by rw[<-Paired.length rel];exact z,hd,o,es,ep,e1,e2,e3,e4,λx hx=>?_,e5⟩;obtain⟨i,hi⟩:=bY.mp hx;have hl:=Paired.length rel;have hi':=(bB.mp hi).1;refine byG λGq hGq=>?_;obtain⟨y,hy,r1,r2,_⟩:=Bv rel (i:=i) (x:=bs[i]) (by simp[show i<bs.length by lia]);refine hGq ?_;clear hGq Gq;rw[hi]at hy;cases hy;rw[<-r1,<-r2];exact EY I (h4 _ (b7 _))
theorem Qi{Q:Unit->qQ->Prop}(hu:A.units+1<cLine)(I:Ab X ad σ H s)(w:DW X.prog X.w X.K H d kvs)(q:Am X.K H b (k.map kV))(hz:kvs.length<sizeLine)(rv:BN v r)(h:∀u' s',DW X.prog X.w X.K (Ak H d u') d (GX kvs k v)->Ab X ad σ (Ak H d u') s'->Q () s'):
  wpAny (model X.prog X.w) A (setItem (.ref d) (.ref b) r) Q E s:=by
 refine byG λGq hGq=>?_;obtain⟨bs,xs,h1,h3,h4,rel,hl,hd,dd⟩:=w.at I;refine hGq ?_;clear hGq Gq;subst h3;refine wpAny_setItem_heap (hsz:=hl) (tupleKind_room_in1 hu) (EY I q) dd λh' dd' sb=>?_;obtain⟨u',w',I'⟩:=DW.put (t':=s.toks+(tupleKind (Bz X.prog X.w)).draws k) I h1 h4 rel hd q hz rv dd' sb;exact h u' _ w' I'
end
end L2
namespace PySem
section
variable{prog:qR}{w:qS}{A:Around}{E:qO->qQ->Prop}{s:qQ}{d:qP}{o:Obj}{es:Array DictEntry}{ep:Nat}
theorem meets_lenR(hd:(d==sysModules)=false):MeetsIn prog w (Builtin.«dict.__len__» ⟨[.ref d],[]⟩) (λ_ R s=>∃o es ep,s.heap.get? d=some o/\o.data=.dict es ep/\R (.ok (.ret (.int es.size s.toks))) {s with toks:=s.toks+1}):=
 .of_wp λA R s ⟨o,es,ep,ho,hdat,h⟩=>by show wpAny _ _ (dictSize d >>= _) _ _ s;unfold dictSize;refine qA (qA (wpAny_dictEntries ho hdat (qB ?_)));show wpAny _ _ (Builtin.Dict.pendingCount d >>= _) _ _ s;refine qA (wpAny_pendingCount_other hd (wpAny_ret_mkInt ?_));rw[Nat.add_zero];exact h
theorem len_dictR{Q:qO->qQ->Prop}(hd:(d==sysModules)=false)(hT:s.TypeIs (.ref d) "dict")(ho:s.heap.get? d=some o)(hdat:o.data=.dict es ep)(hfit:(es.size:Int)<2^63)
  (h:Q (.int es.size (s.toks+1)) {s with toks:=s.toks+1+1}):wpAny (model prog w) A (call (.builtin "len") [.ref d]) Q E s:=by
 refine Calls.call_function_entry kind_len plain_len entry_len (args_len1 _) ?_;unfold Builtin.«len»
 refine qA (m:=oneArg "len" _) (qB (qA (m:=callSpecial? (.ref d) (Str.ofString "__len__")) (wpAny_callSpecial?_slot (name:=Str.ofString "__len__") hT F.slot_dict_len
  (call_meetsIn F.slot_dict_len hT F.entry_dict_len (F.args_dict_len_1 _) (meets_lenR hd) ⟨o,es,ep,ho,hdat,?_⟩))))
 show wpAny _ _ _ _ _ {s with toks:=s.toks+1};refine qA (qM (qB (qA (wpAny_letGo ?_))));show wpAny _ _ (if ((es.size:Nat):Int)<0 then _ else _) _ _ _;rw[qC (by lia)];show wpAny _ _ (if ((es.size:Nat):Int)≥2^63 then _ else _) _ _ _;rw[qC (by lia)];exact qA (wpAny_mkInt (qB ⟨_,rfl,h⟩))
end
end PySem
namespace L2
open PySem PySem.Spec PyProof.Rows
variable{D:Gw}{H:Hp}{X:Cx}{a d it:qP}{es:List Expr}{name:Str}{te to:TE}{tg:Expr}{tt:TT}{σ:St}{σf:List (Option V)}
section
variable(P:qR)(w:qS)(K:qT)
def Uz(td ty:TE):TE:=λσ H Q=>td σ H λx H1=>ty σ H1 λy H2=>∃(d b:qP) (u:HO) (kvs:List (List Cc×V)) (k:List Cc) (v:V),x=.ref d/\y=.ref b/\DR P w K H2 d u kvs/\Am K H2 b (k.map kV)/\Cf kvs k=some v/\Q v H2
def YD(ty td:TE):TE:=λσ H Q=>ty σ H λy H1=>td σ H1 λx H2=>∃(d b:qP) (u:HO) (kvs:List (List Cc×V)) (k:List Cc),x=.ref d/\y=.ref b/\DR P w K H2 d u kvs/\Am K H2 b (k.map kV)/\Q (.bl (Cf kvs k).isSome) H2
def Pc(ty td:TE):TE:=λσ H Q=>ty σ H λy H1=>td σ H1 λx H2=>∃(d b:qP) (u:HO) (kvs:List (List Cc×V)) (k:List Cc),x=.ref d/\y=.ref b/\DR P w K H2 d u kvs/\Am K H2 b (k.map kV)/\Q (.bl (!(Cf kvs k).isSome)) H2
def U0(td ty tv:TE):TS:=λD σ H=>tv σ H λv H1=>td σ H1 λx H2=>ty σ H2 λy H3=>∃(d b:qP) (kvs:List (List Cc×V)) (k:List Cc),x=.ref d/\y=.ref b/\DW P w K H3 d kvs/\Am K H3 b (k.map kV)/\kvs.length<sizeLine/\∀u',DW P w K (Ak H3 d u') d (GX kvs k v)->D.nx σ (Ak H3 d u')
def U1:TE:=λ_ H Q=>∀p u',H p=none->DW P w K (Ak H p u') p []->Q (.ref p) (Ak H p u')
noncomputable def XQ(d:qP)(u:HO)(kvs:List (List Cc×V)):It:=
 ⟨λi H=>DR P w K H d u kvs/\i<kvs.length,λi H x H'=>H'=H/\∃(b:qP) (k:List Cc) (v:V),x=.ref b/\kvs[i]?=some (k,v)/\Am K H b (k.map kV),λi H=>DR P w K H d u kvs/\kvs.length<=i⟩
def SR(tl:TE):TI:=λσ H R=>tl σ H λx H1=>∃(d:qP) (u:HO) (kvs:List (List Cc×V)),x=.ref d/\DR P w K H1 d u kvs/\∀u',DR P w K (Ak H1 d u') d u' kvs->R (XQ P w K d u' kvs) (Ak H1 d u')
end
variable{kvs:List (List Cc×V)}
section
variable{o i value:Expr}{pos pos':Pos}{td ty tv:TE}
theorem UI(hu:X.A.units+1<cLine)(ho:PE X o td)(hi:PE X i ty)(hs:Vr i):PE X (.Subscript o i pos) (Uz X.prog X.w X.K td ty):=by intro ad s σ H Q I h;refine T6 PySem.F.slot_dict_getitem.lookup hs (BU (ho ad s σ H _ I h) λu s1 z=>?_);refine byG λGq hGq=>?_;obtain⟨x,H1,I1,rx,q1⟩:=z;refine hGq ?_;clear hGq Gq;refine BU (hi ad s1 σ H1 _ I1 q1) λiv s2 z=>?_;refine byG λGq hGq=>?_;obtain⟨y,H2,I2,ry,d,b,uu,kvs,k,v,ex,ey,r,q,l,q2⟩:=z;refine hGq ?_;clear hGq Gq;subst ex ey;cases rx;cases ry;refine byG λGq hGq=>?_;obtain⟨bs,xs,_,_,_,_,_,dd⟩:=r.at I2;refine hGq ?_;clear hGq Gq;exact⟨dd.typeIs,Qh hu I2 r q l λw' s3 I3 rw'=>⟨v,H2,I3,rw',q2⟩⟩
theorem V0(hu:X.A.units+1<cLine)(hi:PE X i ty)(ho:PE X o td):PC X .In i o (YD X.prog X.w X.K ty td):=by intro ad s σ H Q I h;refine BU (hi ad s σ H _ I h) λiv s1 z=>?_;obtain⟨y,H1,I1,ry,q1⟩:=z;refine BU (ho ad s1 σ H1 _ I1 q1) λu s2 z=>?_;obtain⟨x,H2,I2,rx,d,b,uu,kvs,k,ex,ey,r,q,q2⟩:=z;subst ex ey;cases rx;cases ry;exact aB hu I2 r q λs3 I3=>⟨.bl (Cf kvs k).isSome,H2,I3,rfl,q2⟩
theorem Qj(hu:X.A.units+1<cLine)(hi:PE X i ty)(ho:PE X o td):PC X .NotIn i o (Pc X.prog X.w X.K ty td):=by intro ad s σ H Q I h;refine BU (hi ad s σ H _ I h) λiv s1 z=>?_;obtain⟨y,H1,I1,ry,q1⟩:=z;refine BU (ho ad s1 σ H1 _ I1 q1) λu s2 z=>?_;obtain⟨x,H2,I2,rx,d,b,uu,kvs,k,ex,ey,r,q,q2⟩:=z;subst ex ey;cases rx;cases ry;exact UH hu I2 r q λs3 I3=>⟨.bl (!(Cf kvs k).isSome),H2,I3,rfl,q2⟩
theorem UJ(hu:X.A.units+1<cLine)(ho:PE X o td)(hi:PE X i ty)(hv:PE X value tv)(hs:swapsWith value (some (.Subscript o i pos')) pos.line X.env=pure false):
  PS X (.Assign [.Subscript o i pos'] value pos) (U0 X.prog X.w X.K td ty tv):=by
 intro ad s σ H D I h;refine wpAny_Assign_Subscript (BU (hv ad s σ H _ I h) λr s1 z=>?_) hs;obtain⟨v,H1,I1,rv,q1⟩:=z;refine BU (ho ad s1 σ H1 _ I1 q1) λu s2 z=>?_;obtain⟨x,H2,I2,rx,q2⟩:=z;refine BU (hi ad s2 σ H2 _ I2 q2) λiv s3 z=>?_;obtain⟨y,H3,I3,ry,d,b,kvs,k,ex,ey,g,q,l,q3⟩:=z;subst ex ey;cases rx;cases ry;exact Qi hu I3 g q l rv λu' s4 w4 I4=>⟨σ,_,I4,q3 u' w4⟩
theorem UK:PE X (.Dict [] [] pos) (U1 X.prog X.w X.K):=λad s σ H Q I h =>
 wpAny_Dict_empty ⟨.ref s.heap.objs.size,_,I.laid (a:=s.heap.objs.size) (o:=S9 X.prog X.w s.heap.objs.size []) (t':=s.toks) (λ_ _ q=>bG _ q) (bD _)
  ⟨⟨cJ _,beq_eq_false_iff_ne.mpr (Ne.symm (bp I.big)),[],.nil,_,#[],0,bV _ rfl,⟨rfl,rfl,rfl⟩,rfl,rfl,fU⟩,⟨_,bV _ rfl⟩,λh1 h2 x k=>UG.stay x k⟩,rfl,
  h _ _ (I.hok.fresh (bD _)) ⟨[],AD,rfl,λp hp=>nomatch hp⟩⟩
theorem Qk:CJ X (.builtin "len") (λxs H Q=>∃(d:qP) (u:HO) (kvs:List (List Cc×V)),xs=[V.ref d]/\DR X.prog X.w X.K H d u kvs/\Q (.int kvs.length) H):=by
 intro ad s σ H xs us Q I r h;refine byG λGq hGq=>?_;obtain⟨d,u,kvs,rfl,ha,q⟩:=h;refine hGq ?_;clear hGq Gq;obtain⟨uu,rfl,ru⟩:=Dr r;cases ru;refine byG λGq hGq=>?_;obtain⟨bs,ys,h3,_,rel,z,hd,dd⟩:=ha.at I;refine hGq ?_;clear hGq Gq;have hT:s.TypeIs (.ref d) "dict":=dd.typeIs;refine byG λGq hGq=>?_;obtain⟨ob,es,ep,g1,g2,g3,g4,_⟩:=dd;refine hGq ?_;clear hGq Gq
 have hz:es.size=kvs.length:=by have a:=qN List.length g4;have b:=Paired.length rel;rw[<-h3];simp at a;simp;lia
 have l1:bs.length=kvs.length:=by rw[<-h3,a9]
 refine len_dictR hd hT g1 g3 (by rw[sizeLine_eq]at z;lia) ⟨.int kvs.length,H,I.tok _,⟨_,by rw[hz]⟩,q⟩
theorem OY(hu:X.A.units+1<cLine):XM X "dict.setdefault" (λx xs H Q=>∃(d b:qP) (kvs:List (List Cc×V)) (k:List Cc) (y:V),x=.ref d/\xs=[.ref b,y]/\DW X.prog X.w X.K H d kvs/\Am X.K H b (k.map kV)/\kvs.length<sizeLine /\
  (∀z,Cf kvs k=some z->Q z H)/\(Cf kvs k=none->∀u',DW X.prog X.w X.K (Ak H d u') d (GX kvs k y)->Q y (Ak H d u'))):=by
 intro ad s σ H x xs v us Q I rx rs h;refine byG λGq hGq=>?_;obtain⟨d,b,kvs,k,y,rfl,rfl,e,eb,hz,h1,h2⟩:=h;refine hGq ?_;clear hGq Gq;refine byG λGq hGq=>?_;obtain⟨u1,u2,rfl,r1,r2⟩:=Ou rs;refine hGq ?_;clear hGq Gq;cases rx;cases r1;refine byG λGq hGq=>?_;obtain⟨bs,es,g1,g3,g4,rel,hl,hd,dd⟩:=e.at I;refine hGq ?_;clear hGq Gq;subst g3;have rk:=F3.val rel k;refine call_meetsIn eE dd.typeIs PySem.F.entry_dict_setdefault (PySem.F.args_dict_setdefault_3 _ _ _) (meetsH_setDef (tupleKind (Bz X.prog X.w)) d b hd u2) ⟨tupleKind_room_in1 hu,k,es,EY I eb,dd,hl,λp hp=>?_,λhn hp dd' sb=>?_⟩
 ·rw[hp]at rk;cases hv:Cf (bs.map Jv) k with
  |none=>rw[hv]at rk;exact (show False from rk).elim
  |some t =>
   rw[hv]at rk;exact⟨t,H,I.tok _,rk,h1 t hv⟩
 ·have hv:Cf (bs.map Jv) k=none:=by
   cases hv:Cf (bs.map Jv) k with
   |none=>rfl
   |some t=>rw[hv,hn]at rk;exact (show False from rk).elim
  obtain⟨u',w',I'⟩:=DW.put (t':=s.toks+(tupleKind (Bz X.prog X.w)).draws k) I g1 g4 rel hd eb hz r2 dd' sb;exact⟨y,_,I',r2,h2 hv u' w'⟩
theorem OZ{P:qR}{w:qS}{K:qT}{ob:Obj}{φ:Heap->Prop}{es:Array DictEntry}{ep:Nat}(ho:ob.data=.dict es ep)(hl:es.size=kvs.length):Im P w K tg (XQ P w K d (.frz ob (.ext φ)) kvs) [it] it (λi h=>h.IsKeyIter it d i es.size ep) where
 mem:=by simp
 obj:=λi h st b hb=>by
  have e:b=it:=by simpa using hb
  subst e;refine byG λGq hGq=>?_;obtain⟨o,e,c,d⟩:=st;refine hGq ?_;clear hGq Gq;exact⟨o,e,λv z=>by rw[d]at z;cases z⟩
 keep:=λi h h' st k=>st.at λo e=>k it (by simp) o e
 item:=by
  rintro X hP hw hK hc i ad s σ H E I hf st ⟨hg,hi⟩;subst hP hw hK;refine byG λGq hGq=>?_;obtain⟨f0,f1,f2,f3,f4,f5⟩:=hf it (by simp);refine hGq ?_;clear hGq Gq;refine byG λGq hGq=>?_;obtain⟨bs,h1,h2,h3,h4⟩:=hg;refine hGq ?_;clear hGq Gq;obtain⟨g0,g1,_⟩:=(show A5 X.prog X.w H s.heap d (.frz ob (.ext φ)) from I.hok d _ h1)
  have dx:UG X.prog X.w d bs s.heap:=by
   rcases h2 with e|⟨o',e⟩
   ·cases e
   ·cases e;exact g1
  refine byG λGq hGq=>?_;obtain⟨_,_,xs,rel,o2,es2,ep2,e2,_,d2,rows,_⟩:=dx;refine hGq ?_;clear hGq Gq;rw[g0]at e2;cases e2;rw[ho]at d2;cases d2;have hie:i<es.size:=by lia
  have hib:i<bs.length:=by rw[<-h3,a9]at hi;exact hi
  refine byG λGq hGq=>?_;obtain⟨q,hq,r1,r2,r3⟩:=Bv rel (i:=i) (x:=bs[i]) (by simp[hib]);refine hGq ?_;clear hGq Gq
  have he:es[i].key=.ref bs[i].2.1:=by
   have z:es.toList[i]?=some es[i]:=by simp[hie]
   rw[rows,bF,hq]at z;rw[r2];exact (qN DictEntry.key (Option.some.inj z)).symm
  refine keys_item st g0 ho hie λh' st' sb=>?_;have I1:Ab X ad σ H {s with heap:=h'}:=I.turned (t':=s.toks) (λb o hb e=>(sb.2 b hb).trans e) f0 f1 f3 f4 f5;refine byG λGq hGq=>?_;obtain⟨oo,e,c,dd⟩:=id st';refine hGq ?_;clear hGq Gq;exact⟨_,rfl,MI (s:={s with heap:=h'}) e c dd (by decide) ⟨.ref bs[i].2.1,H,I1,by rw[he];rfl,⟨rfl,bs[i].2.1,bs[i].1,bs[i].2.2,rfl,by rw[<-h3,List.getElem?_map];simp[hib,Jv],h4 _ (List.getElem_mem _)⟩,st',λb hb=>(hf b hb).1⟩⟩
 done:=by rintro X hP hw hK hc i ad s σ H E I hf st ⟨hg,hi⟩;subst hP hw hK;refine byG λGq hGq=>?_;obtain⟨f0,f1,f2,f3,f4,f5⟩:=hf it (by simp);refine hGq ?_;clear hGq Gq;obtain⟨bs,h1,_⟩:=hg;obtain⟨g0,g1⟩:=(show A5 X.prog X.w H s.heap d (.frz ob (.ext φ)) from I.hok d _ h1);exact keys_end (I.ok.hd hc) st g0 ho (by lia) λh' eb=>⟨rfl,I.turned (t':=s.toks) (λb o hb e=>eb b o hb e) f0 f1 f3 f4 f5⟩
 self:=λ_ _ _ _ _ st h=>wpAny_pyIter_keyiter st h
theorem SS{l:Expr}{tl:TE}(hl:PE X l tl):PI X tg l (SR X.prog X.w X.K tl):=by
 intro ad s σ H R I h;refine BU (hl ad s σ H _ I h) λv s1 z9=>?_;obtain⟨x,H1,I1,r1,q1⟩:=z9;refine byG λGq hGq=>?_;obtain⟨d,u,kvs,e,hq,q⟩:=q1;refine hGq ?_;clear hGq Gq;subst e;cases r1;refine byG λGq hGq=>?_;obtain⟨bs,h1,h2,h3,h4⟩:=hq;refine hGq ?_;clear hGq Gq
 have dx:UG X.prog X.w d bs s1.heap:=by
  rcases h2 with e|⟨o,e⟩
  ·subst e;exact (show A5 X.prog X.w H1 s1.heap d (.ext _) from I1.hok d _ h1).1
  ·subst e;exact (show A5 X.prog X.w H1 s1.heap d (.ext _) from (show A5 X.prog X.w H1 s1.heap d (.frz o _) from I1.hok d _ h1).2).1
 refine byG λGq hGq=>?_;obtain⟨z,hm,xs,rel,o,es,ep,ho,hx,hd,rows,nd⟩:=dx;refine hGq ?_;clear hGq Gq
 have I2:Ab X ad σ (Ak H1 d (.frz o (S9 X.prog X.w d bs))) s1:=by
  rcases h2 with e|⟨o',e⟩
  ·subst e;exact I1.freeze h1 (λ_ z=>nomatch z) (λ_ _ z=>nomatch z) (λ_ z=>nomatch z) (λ_ z=>nomatch z) ho
  ·subst e;obtain⟨g0,_⟩:=(show A5 X.prog X.w H1 s1.heap d (.frz o' _) from I1.hok d _ h1);rw[ho]at g0;cases g0;rw[Vz h1];exact I1
 have hsz:es.size=kvs.length:=by have a:=qN List.length rows;have b:=Paired.length rel;rw[<-h3];simp at a;simp;lia
 have dr:DR X.prog X.w X.K (Ak H1 d (.frz o (S9 X.prog X.w d bs))) d (.frz o (S9 X.prog X.w d bs)) kvs:=⟨bs,AD,.inr ⟨o,rfl⟩,h3,λp hp=>by
  have k:=h4 p hp;rcases h2 with e|⟨o',e⟩
  ·subst e;exact k.upd' h1
  ·subst e;rcases k with (z|⟨o2,z⟩)|z
   ·exact .inl (.inl (by rw[AJ (Ff z h1 λy=>nomatch y)];exact z))
   ·exact .inl (.inr ⟨o2,by rw[AJ (Ff z h1 λy=>by cases y)];exact z⟩)
   ·exact .inr z⟩
 refine keys_iter hm ⟨o,ho,hx.1⟩ ho hd ⟨s1.heap.objs.size,[s1.heap.objs.size],_,_,_,rfl,I2.kept (t':=s1.toks) λb o e=>bG _ e,OZ hd hsz,⟨_,bV _ rfl,rfl,rfl⟩,λb hb=>?_,q _ dr⟩;have e:b=s1.heap.objs.size:=by simpa using hb
 subst e;exact I2.fpOk (bD _) (I2.hok.fresh (bD _))
theorem Ql{P:qR}{w:qS}{K:qT}{u:HO}{g:TG}{tb:TS}(Pv:Nat->St->Hp->Prop)(h0:Pv 0 σ H)(hl:∀i σ H,i<=kvs.length->Pv i σ H->DR P w K H d u kvs)
  (hs:∀i b k v σ H,kvs[i]?=some (k,v)->Am K H b (k.map kV)->Pv i σ H->g (.ref b) σ H λσ2 H2=>tb {D with nx:=Pv (i+1),ct:=Pv (i+1),bk:=D.nx} σ2 H2) (hd:∀σ H,Pv kvs.length σ H->D.nx σ H):
  ∃W:Nat->Nat->St->Hp->Prop,(∃m,W 0 m σ H)/\∀i m σ H,W i m σ H ->
   ((XQ P w K d u kvs).stop i H/\D.nx σ H)\/((XQ P w K d u kvs).go i H/\∃N:St->Hp->Prop,(∀σ' H',N σ' H'->∃m',m'<m/\W (i+1) m' σ' H')/\∀x H',(XQ P w K d u kvs).yld i H x H'->g x σ H' λσ2 H2=>tb {D with nx:=N,ct:=N,bk:=D.nx} σ2 H2):=by
 refine⟨λi m σ H=>m=kvs.length-i/\i<=kvs.length/\Pv i σ H,⟨kvs.length,by simp,Nat.zero_le _,h0⟩,?_⟩;rintro i m σ H ⟨rfl,hi,p⟩;have q:=hl i σ H hi p
 by_cases hlt:i<kvs.length
 ·refine .inr ⟨⟨q,hlt⟩,Pv (i+1),λσ' H' p'=>⟨kvs.length-(i+1),by lia,rfl,hlt,p'⟩,λx H' y=>?_⟩;refine byG λGq hGq=>?_;obtain⟨e,b,k,v,ex,hk,hb⟩:=y;refine hGq ?_;clear hGq Gq;subst e ex;exact hs i b k v σ _ hk hb p
 ·have e:i=kvs.length:=by lia
  subst e;exact .inl ⟨⟨q,bD _⟩,hd σ H p⟩
theorem F4{P:qR}{w:qS}{K:qT}{u:HO}{D:qP}{Q:VK}(Pv:Nat->List V->Hp->Prop)(h0:Pv 0 [] (Ak H D (.lst [])))(hl:∀i ge H,i<=kvs.length->Pv i ge H->DR P w K H d u kvs)
  (hs:∀i b k v ge H2,kvs[i]?=some (k,v)->Am K H2 b (k.map kV)->Pv i ge H2->tt (some (.ref b)::σf) H2 λt H4=>if t=true then te (some (.ref b)::σf) H4 λy H5=>H5 D=some (.lst ge)/\ge.length<sizeLine/\Pv (i+1) (ge++[y]) (Ak H5 D (.lst (ge++[y]))) else Pv (i+1) ge H4)
  (hd:∀ge H2,Pv kvs.length ge H2->Q (.ref D) H2):Ex (XQ P w K d u kvs) tt te σf D Q H:=by
 refine⟨λk i ge H=>k=kvs.length-i/\i<=kvs.length/\Pv i ge H,⟨kvs.length,by simp,Nat.zero_le _,h0⟩,?_⟩;rintro k i ge H2 ⟨rfl,hi,p⟩;have q:=hl i ge H2 hi p
 by_cases hlt:i<kvs.length
 ·refine .inr ⟨⟨q,hlt⟩,Pv (i+1),λl H' p'=>⟨kvs.length-(i+1),by lia,rfl,hlt,p'⟩,λx H' y=>?_⟩;refine byG λGq hGq=>?_;obtain⟨e,b,k,v,ex,hk,hb⟩:=y;refine hGq ?_;clear hGq Gq;subst e ex;exact hs i b k v ge _ hk hb p
 ·have e:i=kvs.length:=by lia
  subst e;exact .inl ⟨⟨q,bD _⟩,hd ge H2 p⟩
section
variable{P:qR}{w:qS}{K:qT}
theorem DX(hP:X.prog=P)(hw:X.w=w)(hK:X.K=K)(hu:X.A.units+1<cLine)(ho:PE X o td)(hi:PE X i ty)(hs:Vr i):PE X (.Subscript o i pos) (Uz P w K td ty):=by subst hP hw hK;exact UI hu ho hi hs
theorem UL(hP:X.prog=P)(hw:X.w=w)(hK:X.K=K)(hu:X.A.units+1<cLine)(hi:PE X i ty)(ho:PE X o td):PC X .In i o (YD P w K ty td):=by subst hP hw hK;exact V0 hu hi ho
theorem Oa(hP:X.prog=P)(hw:X.w=w)(hK:X.K=K)(hu:X.A.units+1<cLine)(hi:PE X i ty)(ho:PE X o td):PC X .NotIn i o (Pc P w K ty td):=by subst hP hw hK;exact Qj hu hi ho
theorem NG(hP:X.prog=P)(hw:X.w=w)(hK:X.K=K)(hu:X.A.units+1<cLine)(ho:PE X o td)(hi:PE X i ty)(hv:PE X value tv)(hs:swapsWith value (some (.Subscript o i pos')) pos.line X.env=pure false):PS X (.Assign [.Subscript o i pos'] value pos) (U0 P w K td ty tv):=by subst hP hw hK;exact UJ hu ho hi hv hs
theorem Jw(hP:X.prog=P)(hw:X.w=w)(hK:X.K=K):PE X (.Dict [] [] pos) (U1 P w K):=by subst hP hw hK;exact UK
theorem Ob(hP:X.prog=P)(hw:X.w=w)(hK:X.K=K):CJ X (.builtin "len") (λxs H Q=>∃(d:qP) (u:HO) (kvs:List (List Cc×V)),xs=[V.ref d]/\DR P w K H d u kvs/\Q (.int kvs.length) H):=by subst hP hw hK;exact Qk
theorem Hz(hP:X.prog=P)(hw:X.w=w)(hK:X.K=K)(hu:X.A.units+1<cLine):XM X "dict.setdefault" (λx xs H Q=>∃(d b:qP) (kvs:List (List Cc×V)) (k:List Cc) (y:V),x=.ref d/\xs=[.ref b,y]/\DW P w K H d kvs/\Am K H b (k.map kV)/\kvs.length<sizeLine /\
  (∀z,Cf kvs k=some z->Q z H)/\(Cf kvs k=none->∀u',DW P w K (Ak H d u') d (GX kvs k y)->Q y (Ak H d u'))):=by subst hP hw hK;exact OY hu
theorem Fb(hP:X.prog=P)(hw:X.w=w)(hK:X.K=K){l:Expr}{tl:TE}(hl:PE X l tl):PI X tg l (SR P w K tl):=by subst hP hw hK;exact SS hl
noncomputable def Pd(K:qT)(a:qP)(ns:qU):Bool:=match K.lookup a with
 |some o=>o.cls==.type "tuple"&&(match o.data with|.seq its _=>decide (its.size<=1000)&&decide (its.toList.map VP=ns.map λn=>some (V.int n))|_=>false)
 |none=>false
end
end
theorem SU:∀{ns:qU} {us:List qO},us.map VP=ns.map (λn=>some (V.int n))->Av (ns.map V.int) us:=by
 intro ns
 induction ns with
 |nil=>intro us h;cases us with|nil=>exact .nil|cons u us=>cases h
 |cons n ns ih =>
  intro us h;cases us with
  |nil=>cases h
  |cons u us =>
   rw[cI,cI]at h
   injection h with h1 h2
   refine .cons ?_ (ih h2);cases u with
   |int i t=>cases h1;exact⟨_,rfl⟩
   |_=>cases h1
theorem Gh{K:qT}{ns:qU}(h:Pd K a ns=true)(H:Hp):Am K H a (ns.map V.int):=by
 delta Pd at h
 cases e:K.lookup a with
 |none=>rw[e]at h;cases h
 |some o =>
  rw[e]at h;obtain⟨h1,h2⟩:=(cy ..).mp h;cases ed:o.data with
  |seq its n =>
   rw[ed]at h2;have h2:=(cy ..).mp h2;have s:=qL h2.1;exact .inr ⟨o,its,n,e,eq_of_beq h1,ed,by rw[sizeLine_eq];lia,SU (qL h2.2)⟩
  |_=>rw[ed]at h2;cases h2
def aC(P:qR)(w:qS)(K:qT)(r:V->List V->Hp->VK->Prop)(to:TE)(t:TA):TE:=λσ H Q=>to σ H λx H1=>(∃(d:qP) (u:HO) (kvs:List (List Cc×V)),x=.ref d/\DR P w K H1 d u kvs)/\t σ H1 λxs H2=>r x xs H2 Q
theorem SW{P:qR}{w:qS}{K:qT}{o e:Expr}{t:TA}{apos cpos:Pos}{id:String}{r:V->List V->Hp->VK->Prop}(hP:X.prog=P)(hw:X.w=w)(hK:X.K=K)(slot:Slot "dict" name id)(hty:typeOf (.builtin id)=pure (.type "method_descriptor"))(hm:XM X id r)(ho:PE X o to)(ha:PA X (e::es) t)(hbase:attributeBase o name X.env (eval o X.env)=eval o X.env:=by rfl)(hfew:((backTo cpos (starEach (e::es) X.env)).all (λx=>!x.1)&&(backToKw cpos (keywordEach [] X.env)).all (λx=>x.1.isSome)&&decide ((e::es).length+([]:List Keyword).length+(if ([]:List Keyword).isEmpty then 0 else 1)<30))=true:=by rfl)(hline:(apos.endLine==cpos.line)=true:=by rfl)
  (hs:starEach (e::es) X.env=(false,eval e X.env)::starEach es X.env:=by rfl) (hplain:(backTo cpos (starEach es X.env)).any (·.1)=false:=by rfl):PE X (.Call (.Attribute o name apos) (e::es) [] cpos) (aC P w K r to t):=by
 subst hP hw hK;intro ad s σ H Q I h;refine wpAny_Call_method_late hbase hfew hline rfl (BU (ho ad s σ H _ I h) λv s1 z9=>?_);obtain⟨x,H1,I1,r1,⟨d,u,kvs,ex,dr⟩,q1⟩:=z9;subst ex;cases r1;refine byG λGq hGq=>?_;obtain⟨bs,xs,_,_,_,_,_,dd⟩:=dr.at I1;refine hGq ?_;clear hGq Gq;have h1:s1.TypeIs (.ref d) "dict":=dd.typeIs
 refine⟨"dict",id,PySem.F.plainAttrs_dict,slot,hty,h1,λb q=>by cases q;refine byG λGq hGq=>?_;obtain⟨ob,_,_,g1,g2,_⟩:=dd;refine hGq ?_;clear hGq Gq;exact⟨ob,g1,g2.2.1⟩,?_⟩
 have hA:=ha cpos ad s1 σ H1 _ I1 q1;rw[hs]at hA⊢;refine Calls.callWith_builtin (by show (false||(backTo cpos (starEach es X.env)).any (·.1))=false;rw[hplain]<;>rfl) (Calls.evalArgs_plain (BU hA λus s2 ⟨vs,H2,I2,r2,q2⟩=>hm ad s2 σ H2 (.ref d) vs (.ref d) us Q I2 rfl r2 q2))
end L2
namespace L2
open PySem PySem.Spec PyProof.Rows RW
variable{G i j k:Nat}{H H':Hp}{X:Cx}{a d:qP}{c g7:qU}{g:Int}{kvs:List (List Cc×V)}{ps:List qP}{te:TE}{tg:Expr}{tt:TT}{xs ys:List V}{α β:Type}{σf:List (Option V)}
noncomputable def Jx(p:qV):qV:=if p.1=p.2 then (0,0) else p
theorem D4(u:Nat):Jx (u,u)=(0,0):=qD rfl
def Nd(G h:Nat)(g7:qU)(p q:qV):Prop:=∃a b,a<h*G/\b<h*G/\a≠b/\g7.getD a 0=g7.getD b 0/\p=Jx (a/G,b/G)/\q=Jx (a%h,b%h)
def Lw(G h:Nat)(g7:qU)(rk:qV->Nat):Prop:=∀p q,Nd G h g7 p q->rk p<rk q
theorem Gi{n:Nat}{f:Nat->Int}(h:1<=Ae n f):∃j,j<n/\1<=f j:=by
 induction n with
 |zero=>rw[A8]at h;lia
 |succ n ih =>
  rw[AX]at h
  by_cases z:1<=f n
  ·exact⟨n,by lia,z⟩
  ·obtain⟨j,hj,hf⟩:=ih (by lia);exact⟨j,by lia,hf⟩
theorem SX{n:Nat}{f:Nat->Int}(h1:∀j,j<n->f j<=1)(h2:∀i j,i<n->j<n->i≠j->1<=f i->f j<=0):Ae n f<=1:=by
 induction n with
 |zero=>rw[A8];lia
 |succ n ih =>
  rw[AX];have a:=ih (λj hj=>h1 j (by lia)) λi j hi hj=>h2 i j (by lia) (by lia)
  have b:=h1 n (by lia)
  by_cases z:1<=f n
  ·have c:Ae n f<=0:=by
    by_cases y:1<=Ae n f
    ·obtain⟨j,hj,hf⟩:=Gi y;have:=h2 n j (by lia) (by lia) (by lia) z;lia
    ·lia
   lia
  ·lia
theorem Hb{n:Nat}{f g:Nat->Int}(h:∀k,k<n->f k<=g k):Ae n f<=Ae n g:=by
 induction n with
 |zero=>rw[A8,A8];lia
 |succ n ih =>
  rw[AX,AX];have:=ih λk hk=>h k (by lia)
  have:=h n (by lia);lia
theorem Ie{p:Bool}{x:Int}(h:1<=F9 p x):p=true/\1<=x:=by
 unfold F9 at h
 split at h
 ·rename_i z;exact⟨z,h⟩
 ·lia
section
variable{h:Nat}
theorem Pe{s:Int}{r:qU}{u v:Nat}(hw:1<=S8 G g7 h (s::r) u v):∃j,j<G/\g7.getD (u*G+j) 0=s/\1<=S8 G g7 h r ((u*G+j)%h) v:=by obtain⟨j,hj,hf⟩:=Gi (show 1<=Ae G _ from hw);obtain⟨h1,h2⟩:=Ie hf;exact⟨j,hj,qL h1,h2⟩
theorem Ig{u:Nat}(hu:u<h)(hj:j<G):u*G+j<h*G:=by have:=dc G (show u+1<=h from hu);rw[Nat.add_mul,Nat.one_mul]at this;lia
theorem DY{u:Nat}(hj:j<G):(u*G+j)/G=u:=by rw[gB,Nat.add_mul_div_right _ _ (by lia),Nat.div_eq_of_lt hj,Nat.zero_add]
theorem U2{rk:qV->Nat}(hr:Lw G h g7 rk)(h0:0<h){v:Nat}:∀(r:qU) {u u':Nat},u<h->u'<h->1<=S8 G g7 h r u v->1<=S8 G g7 h r u' v->rk (Jx (u,u'))<=rk (0,0)
 |[],u,u',_,_,h1,h2=>by
  have e:∀{u:Nat},1<=S8 G g7 h [] u v->u=v:=λ{u} z=>by
   have z:(1:Int)<=if u=v then 1 else 0:=z
   by_cases y:u=v
   ·exact y
   ·rw[qC y]at z;lia
  rw[e h1,e h2,D4];exact bD _
 |s::r,u,u',hu,hu',h1,h2=>by
  obtain⟨j,hj,hs,hw⟩:=Pe h1;obtain⟨j',hj',hs',hw'⟩:=Pe h2
  by_cases e:u*G+j=u'*G+j'
  ·have:u=u':=by rw[<-DY (u:=u) hj,e,DY hj']
   rw[this,D4];exact bD _
  ·have a:=hr _ _ ⟨u*G+j,u'*G+j',Ig hu hj,Ig hu' hj',e,hs.trans hs'.symm,rfl,rfl⟩;rw[DY hj,DY hj']at a;have b:=U2 hr h0 r (dG (u*G+j) h0) (dG (u'*G+j') h0) hw hw';lia
theorem SY{rk:qV->Nat}(hr:Lw G h g7 rk)(h0:0<h){v:Nat}:∀(r:qU) {u:Nat},u<h->S8 G g7 h r u v<=1
 |[],u,_=>by
  show (if u=v then (1:Int) else 0)<=1
  split<;>lia
 |s::r,u,hu=>by
  refine SX (λj hj=>?_) λi j hi hj ne hp=>?_
  ·have a:=SY hr h0 (v:=v) r (dG (u*G+j) h0);unfold F9
   split<;>lia
  ·obtain⟨p1,p2⟩:=Ie hp
   by_cases z:1<=F9 (decide (g7.getD (u*G+j) 0=s)) (S8 G g7 h r ((u*G+j)%h) v)
   ·obtain⟨q1,q2⟩:=Ie z;have a:=hr _ _ ⟨u*G+i,u*G+j,Ig hu hi,Ig hu hj,by lia,(qL p1).trans (qL q1).symm,rfl,rfl⟩;rw[DY hi,DY hj,D4]at a;have b:=U2 hr h0 r (dG (u*G+i) h0) (dG (u*G+j) h0) p2 q2;lia
   ·lia
end
theorem SZ(h0:0<g7.length/G):∀(r:qU) {u:Nat},u<g7.length/G->cnt G g7 r u=Ae (g7.length/G) λv=>S8 G g7 (g7.length/G) r u v
 |[],u,hu=>by
  have z:=JR (g7.length/G) u hu 1;refine z.symm.trans (AT λv _=>?_);show F9 (decide (v=u)) 1=if u=v then 1 else 0;unfold F9
  by_cases e:v=u
  ·rw[qD (qF e),qD e.symm]
  ·rw[qC (by rw[decide_eq_true_iff];exact e),qC λy=>e y.symm]
 |s::r,u,hu=>by
  show Ae G (λj=>F9 (decide (g7.getD (u*G+j) 0=s)) (cnt G g7 r ((u*G+j)%(g7.length/G))))=Ae _ λv=>Ae G λj=>F9 (decide (g7.getD (u*G+j) 0=s)) (S8 G g7 (g7.length/G) r ((u*G+j)%(g7.length/G)) v)
  rw[FQ];refine AT λj _=>?_;rw[SZ h0 r (dG _ h0),T8]
theorem V1{rk:qV->Nat}(hr:Lw G (g7.length/G) g7 rk)(h0:0<g7.length/G)(r:qU):Fi G g7 r<=((g7.length/G:Nat):Int)*((g7.length/G:Nat):Int):=by unfold Fi;refine Int.le_trans (Hb (g:=λ_=>((g7.length/G:Nat):Int)) λu hu=>?_) (by rw[BC];exact dU _);rw[SZ h0 r hu];refine Int.le_trans (Hb (g:=λ_=>(1:Int)) λv _=>SY hr h0 r hu) ?_;rw[BC,Int.mul_one];exact dU _
theorem NH(h0:0<g7.length/G)(c:qU):∀(r:qU) {u:Nat},u<g7.length/G->1<=cnt G g7 (r++c) u->∃v,v<g7.length/G/\1<=cnt G g7 c v
 |[],u,hu,h=>⟨u,hu,h⟩
 |s::r,u,hu,h=>by obtain⟨j,hj,hf⟩:=Gi (show 1<=Ae G _ from h);exact NH h0 c r (dG _ h0) (Ie hf).2
theorem Sa(h0:0<g7.length/G){r:qU}(h:1<=Fi G g7 (r++c)):1<=Fi G g7 c:=by obtain⟨u,hu,hc⟩:=Gi (show 1<=Ae _ _ from h);obtain⟨v,hv,hw⟩:=NH h0 c r hu hc;exact Int.le_trans hw (T0 (λk _=>JS G g7 c k) hv)
theorem Sb{n:Nat}{f:Nat->Int}{M:Int}(h:∀k,k<n->f k<=M)(e:(n:Int)*M<=Ae n f):∀k,k<n->f k=M:=by
 induction n with
 |zero=>intro k hk;lia
 |succ n ih =>
  rw[AX]at e
  have a:Ae n f<=(n:Int)*M:=by rw[<-BC];exact Hb λk hk=>h k (by lia)
  have b:=h n (by lia);have c:((n+1:Nat):Int)*M=(n:Int)*M+M:=by rw[dC,Int.add_mul];lia
  intro k hk
  by_cases z:k=n
  ·subst z;lia
  ·exact ih (λk hk=>h k (by omega)) (by omega) k (by omega)
theorem IA(G2:2<=G)(hb:∀n∈g7,0<=n/\n<(G:Int)){rk:qV->Nat}(hr:Lw G (g7.length/G) g7 rk)(h0:0<g7.length/G)(hc:∀n∈c,0<=n/\n<(G:Int)):1<=Fi G g7 c:=by
 have bd:=V1 hr h0;generalize ((g7.length/G:Nat):Int)*((g7.length/G:Nat):Int)=B at bd
 have top:∀(k:Nat) (r:qU),B-Fi G g7 r<=(k:Int)->∃r':qU,Fi G g7 r<=Fi G g7 r'/\∀s:qU,Fi G g7 s<=Fi G g7 r':=by
  intro k
  induction k with
  |zero =>
   intro r hk;exact⟨r,dU _,λs=>by have:=bd s;lia⟩
  |succ k ih =>
   intro r hk
   by_cases z:∃s,Fi G g7 r<Fi G g7 s
   ·obtain⟨s,hs⟩:=z;obtain⟨r',h1,h2⟩:=ih s (by lia);exact⟨r',by lia,h2⟩
   ·exact⟨r,dU _,λs=>by
     by_cases y:Fi G g7 s<=Fi G g7 r
     ·exact y
     ·exact qE ⟨s,by lia⟩ z⟩
 obtain⟨r,h1,h2⟩:=top (B-Fi G g7 []).toNat [] (by lia)
 have one:1<=Fi G g7 []:=by have z:Fi G g7 []=((g7.length/G:Nat):Int)*1:=BC _ _;rw[z];lia
 have ext:∀(k:Nat) (c:qU),c.length=k->(∀n∈c,0<=n/\n<(G:Int))->Fi G g7 (r++c)=Fi G g7 r:=by
  intro k
  induction k with
  |zero =>
   intro c hl _;rw[List.length_eq_zero_iff.mp hl,bz]
  |succ k ih =>
   intro c hl hcb;have ne:c≠[]:=λz=>by rw[z]at hl;cases hl
   have e:=List.dropLast_concat_getLast ne;have lb:=hcb _ (List.getLast_mem ne);have a:=ih c.dropLast (by rw[List.length_dropLast];lia) λn hn=>hcb n ((List.dropLast_subset c) hn)
   have b:=OF G2 hb (r++c.dropLast);rw[a]at b;have d:=Sb (n:=G) (f:=λs=>Fi G g7 (r++c.dropLast++[(s:Int)])) (M:=Fi G g7 r) (λk _=>h2 _) (by rw[b,cH];exact dU _) (c.getLast ne).toNat (by lia);rw[show (((c.getLast ne).toNat:Nat):Int)=c.getLast ne by lia,dj,e]at d;exact d
 exact Sa h0 (r:=r) (by rw[ext _ c rfl hc];lia)
section
variable{S:qV->qV->Prop}{rk:qV->Nat}{p:Nat->qV}{n:Nat}
def K8(S:qV->qV->Prop)(p:Nat->qV)(n:Nat):Prop:=∀i,i<n->(p i=(0,0)/\p (i+1)=(0,0))\/S (p i) (p (i+1))
theorem K8.up(hr:∀a b,S a b->rk a<rk b)(t:K8 S p n):∀(k i:Nat),i+k<=n->rk (p i)<=rk (p (i+k))
 |0,i,_=>bD _
 |k+1,i,h=>by
  have a:=K8.up hr t k i (by lia);rcases t (i+k) (by lia) with⟨x,y⟩|y
  ·rw[show i+(k+1)=i+k+1 by lia,y,<-x];exact a
  ·have:=hr _ _ y;rw[show i+(k+1)=i+k+1 by lia];lia
theorem K8.gone(hr:∀a b,S a b->rk a<rk b)(t:K8 S p n)(h0:p i=(0,0))(h1:p (i+1)≠(0,0))(hij:i<j)(hj:j<=n):p j≠(0,0):=λe=>by
 rcases t i (by lia) with⟨_,y⟩|y
 ·exact h1 y
 ·have a:=hr _ _ y;have b:=t.up hr (j-(i+1)) (i+1) (by lia);rw[show i+1+(j-(i+1))=j by lia,e]at b;rw[h0]at a;lia
theorem K9(h0:p i=(0,0))(hij:i<=j)(h1:p j≠(0,0)):∃k,i<=k/\k<j/\p k=(0,0)/\p (k+1)≠(0,0):=by
 induction j with
 |zero =>
  have:i=0:=by lia
  subst this;exact qE h0 h1
 |succ j ih =>
  by_cases e:p j=(0,0)
  ·refine⟨j,?_,by lia,e,h1⟩
   by_cases z:i=j+1
   ·rw[z]at h0;exact qE h0 h1
   ·lia
  ·by_cases z:i=j+1
   ·rw[z]at h0;exact qE h0 h1
   ·refine byG λGq hGq=>?_;obtain⟨k,a,b,c,d⟩:=ih (by lia) e;refine hGq ?_;clear hGq Gq;exact⟨k,a,by lia,c,d⟩
theorem K8.after(hr:∀a b,S a b->rk a<rk b)(t:K8 S p n){left:Nat}(hL:∀(q:Nat->qV) (k:Nat),q 0=(0,0)->(∀i,i<k->S (q i) (q (i+1)))->k<=left)(h0:p i=(0,0))(hij:i<=j)(hj:j+left<=n):p j=(0,0):=by
 by_cases e:p j=(0,0)
 ·exact e
 ·exfalso;obtain⟨k,a,b,c,d⟩:=K9 h0 hij e
  have z:=hL (λx=>p (k+x)) (n-k) c λx hx=>by
   rcases t (k+x) (by lia) with⟨y,y'⟩|y
   ·exfalso
    by_cases x0:x=0
    ·subst x0;exact d y'
    ·exact t.gone hr c d (show k<k+x by lia) (by lia) y
   ·exact y
  lia
theorem Oc(h1:p j≠(0,0)):∀(d:Nat),p (j+d)=(0,0)->∃k,j<k/\k<=j+d/\p k=(0,0)/\∀x,j<=x->x<k->p x≠(0,0):=λd=>by
 induction d using Nat.strongRecOn with
 |_ d ih =>
  intro h0
  by_cases z:∃x,x<d/\p (j+x)=(0,0)
  ·obtain⟨x,hx,e⟩:=z;obtain⟨k,a,b,c⟩:=ih x hx e;exact⟨k,a,by lia,c⟩
  ·refine⟨j+d,?_,bD _,h0,λx hx hxi e=>z ⟨x-j,by lia,by rw[show j+(x-j)=x by lia];exact e⟩⟩
   by_cases e:d=0
   ·subst e;exact qE h0 h1
   ·lia
theorem K8.ahead(hr:∀a b,S a b->rk a<rk b)(t:K8 S p n){g8:Nat}(hE:∀(q:Nat->qV) (k:Nat),q k=(0,0)->(∀i,i<k->S (q i) (q (i+1)))->k<=g8)(h0:p i=(0,0))(hij:j<=i)(hi:i<=n)(hj:g8<=j):p j=(0,0):=by
 by_cases e:p j=(0,0)
 ·exact e
 ·exfalso;obtain⟨k,jk,ki,k0,kn⟩:=Oc e (i-j) (by rw[show j+(i-j)=i by lia];exact h0)
  have z:=hE p k k0 λx hx=>by
   rcases t x (by lia) with⟨y,y'⟩|y
   ·exfalso
    by_cases xj:x<=j
    ·obtain⟨k',a,b,c,d⟩:=K9 y xj e;exact t.gone hr c d (show k'<k by lia) (by lia) k0
    ·exact kn x (by lia) hx y
   ·exact y
  lia
theorem K8.some(hr:∀a b,S a b->rk a<rk b)(t:K8 S p n)(hn:∀i,rk (p i)<n):∃i,i<=n/\p i=(0,0):=by
 by_cases z:∃i,i<=n/\p i=(0,0)
 ·exact z
 ·exfalso
  have a:∀k,k<=n->k<=rk (p k):=by
   intro k
   induction k with
   |zero=>intro _;lia
   |succ k ih =>
    intro hk;have:=ih (by lia);rcases t k (by lia) with⟨y,_⟩|y
    ·exact qE ⟨k,by lia,y⟩ z
    ·have:=hr _ _ y;lia
  have:=a n (bD _);have:=hn n;lia
end
theorem Hc{m:Nat}{ns:qU}(h:i+m<=ns.length):(BB g g7 m ns).getD i 0=g7.getD (Ao g ((ns.drop i).take m)).toNat 0:=by unfold BB;rw[AS (by lia)];rfl
theorem EZ(l:qU)(k i:Nat):(l.drop k).getD i 0=l.getD (k+i) 0:=by rw[a8,a8,List.getElem?_drop]
theorem NI{m:Nat}{ns:qU}(hk:k<=ns.length)(m1:1<=m):BB g g7 m (ns.take k)=(BB g g7 m ns).take (k+1-m):=by
 have l1:(ns.take k).length=k:=by rw[b9];lia
 refine Aq (by rw[Bh,l1,b9,Bh,fq (Nat.sub_le_sub_right (Nat.succ_le_succ hk) m)]) λi hi=>?_;rw[Bh,l1]at hi;rw[FT hi,Hc (by lia),Hc (by lia)]
 congr 3
 rw[List.drop_take,List.take_take,fq (by lia)]
theorem NJ{m:Nat}{ns:qU}(hk:k+m<=ns.length+1)(m1:1<=m):BB g g7 m (ns.drop k)=(BB g g7 m ns).drop k:=by have l1:(ns.drop k).length=ns.length-k:=cA ..;refine Aq (by rw[Bh,l1,cA,Bh,Nat.sub_right_comm (ns.length+1),Nat.sub_add_comm (show k<=ns.length by lia)]) λi hi=>?_;rw[Bh,l1]at hi;rw[EZ,Hc (by lia),Hc (by lia),List.drop_drop]
theorem UM(hg:2<=g){a b:qU}(ha:∀n∈a,0<=n/\n<g)(hb:∀n∈b,0<=n/\n<g)(hl:a.length=b.length)(e:Ao g a=Ao g b):a=b:=
 Aq hl λj hj=>by rw[<-EJ hg ha hj,<-EJ hg hb (by lia),e,hl]
noncomputable def D5(g:Int)(m:Nat)(y:qU)(i:Nat):Nat:=(Ao g ((y.drop i).take (m-1))).toNat
variable{y:qU}
section
variable(hg:2<=g){m:Nat}(hl:(g7.length:Int)=g^m)(m2:2<=m)
include hg hl m2
theorem Jy(hy:∀n∈y,0<=n/\n<g)(hi:i+m<=y.length):(Ao g ((y.drop i).take m)).toNat/g.toNat=D5 g m y i/\(Ao g ((y.drop i).take m)).toNat%(g7.length/g.toNat)=D5 g m y (i+1):=by
 have hd:((y.drop i).take m)=(y.drop i).take (m-1)++[y.getD (i+(m-1)) 0]:=by
  have hlt:m-1<(y.drop i).length:=by rw[cA];lia
  rw[show m=m-1+1 by lia,cg,bA hlt,List.getElem_drop,a8,bA (by lia)];rfl
 have wl:((y.drop i).take (m-1)).length=m-1:=FN (by lia)
 have wb:∀n∈(y.drop i).take (m-1)++[y.getD (i+(m-1)) 0],0<=n/\n<g:=by rw[<-hd];exact λn hn=>hy n (cB (cO hn))
 have xb:=wb _ (bJ.mpr (.inr (bL.mpr rfl)));have nb:=BL hg λn hn=>wb n (bJ.mpr (.inl hn))
 have e:(Ao g ((y.drop i).take m)).toNat=(Ao g ((y.drop i).take (m-1))).toNat*g.toNat+(y.getD (i+(m-1)) 0).toNat:=by
  rw[hd,Et];have:((Ao g ((y.drop i).take (m-1))).toNat:Int)*(g.toNat:Int)=Ao g ((y.drop i).take (m-1))*g:=by rw[bN nb.1,bN (by lia)]
  have:=Int.mul_nonneg nb.1 (show 0<=g by lia);have z:(((Ao g ((y.drop i).take (m-1))).toNat*g.toNat+(y.getD (i+(m-1)) 0).toNat:Nat):Int)=Ao g ((y.drop i).take (m-1))*g+y.getD (i+(m-1)) 0:=by rw[dC,cS];lia
  lia
 refine⟨?_,?_⟩
 ·rw[e];exact DY (by lia)
 ·rw[e,QT hg hl (by lia) wl wb,<-hd,List.drop_take,List.drop_drop];rfl
theorem Pf{z:qU}(hy:∀n∈y,0<=n/\n<g)(hz:∀n∈z,0<=n/\n<g)(le:y.length=z.length)(hi:i+(m-1)<=y.length)(e:Jx (D5 g m y i,D5 g m z i)=(0,0))(hj:j<m-1):y.getD (i+j) 0=z.getD (i+j) 0:=by
 have a:D5 g m y i=D5 g m z i:=by
  unfold Jx at e
  split at e
  ·assumption
  ·have e1:=qN Prod.fst e;have e2:=qN Prod.snd e;exact e1.trans e2.symm
 unfold D5 at a;have by':∀n∈(y.drop i).take (m-1),0<=n/\n<g:=λn hn=>hy n (cB (cO hn))
 have bz':∀n∈(z.drop i).take (m-1),0<=n/\n<g:=λn hn=>hz n (cB (cO hn))
 have n1:=BL hg by'
 have n2:=BL hg bz';have b:=UM hg by' bz' (by rw[FN hi,FN (by lia)]) (by lia)
 have c:=qN (λl:qU=>l.getD j 0) b;have c:((y.drop i).take (m-1)).getD j 0=((z.drop i).take (m-1)).getD j 0:=c;rw[FT hj,FT hj,EZ,EZ]at c;exact c
theorem LA{z:qU}(hy:∀n∈y,0<=n/\n<g)(hz:∀n∈z,0<=n/\n<g)(le:y.length=z.length)(e:BB g g7 m y=BB g g7 m z):K8 (Nd g.toNat (g7.length/g.toNat) g7) (λi=>Jx (D5 g m y i,D5 g m z i)) (y.length+1-m):=λi hi=>by
 obtain⟨a1,a2⟩:=Jy hg hl m2 hy (show i+m<=y.length by lia);obtain⟨b1,b2⟩:=Jy hg hl m2 hz (show i+m<=z.length by lia);have hd:=(BH hg hl (by lia)).2;have ya:=(N5 hg hy hl (show i+m<=y.length by lia)).2;have za:=(N5 hg hz hl (show i+m<=z.length by lia)).2;have te:g7.getD (Ao g ((y.drop i).take m)).toNat 0=g7.getD (Ao g ((z.drop i).take m)).toNat 0:=by rw[<-Hc (by lia),<-Hc (by lia),e]
 generalize (Ao g ((y.drop i).take m)).toNat=a at *;generalize (Ao g ((z.drop i).take m)).toNat=b at *
 by_cases ab:a=b
 ·subst ab;refine .inl ⟨?_,?_⟩
  ·show Jx (D5 g m y i,D5 g m z i)=_;rw[<-a1,<-b1,D4]
  ·show Jx (D5 g m y (i+1),D5 g m z (i+1))=_;rw[<-a2,<-b2,D4]
 ·refine .inr ⟨a,b,by rw[<-hd];exact ya,by rw[<-hd];exact za,ab,te,?_,?_⟩
  ·rw[a1,b1]
  ·rw[a2,b2]
end
variable{S:qV->qV->Prop}
section
variable(hg:2<=g){m:Nat}(hl:(g7.length:Int)=g^m)(m2:2<=m)(hb:∀n∈g7,0<=n/\n<g)
include hg hl m2
theorem K8.less{p:Nat->qV}{n:Nat}(t:K8 S p n)(h:k<=n):K8 S p k:=λi hi=>t i (by lia)
theorem K8.from{p:Nat->qV}{n:Nat}(t:K8 S p n){d:Nat}(h:d+k<=n):K8 S (λi=>p (d+i)) k:=λi hi=>t (d+i) (by lia)
include hb
theorem Sc{rk:qV->Nat}(hr:Lw g.toNat (g7.length/g.toNat) g7 rk)(hc:∀n∈c,0<=n/\n<g):∃w:qU,w.length=c.length+m-1/\(∀n∈w,0<=n/\n<g)/\BB g g7 m w=c:=by
 have hG:(g.toNat:Int)=g:=by lia
 have hd:=BH hg hl (show 1<=m by lia);have hp:=RW.Aa hg (m-1);have z:=IA (G:=g.toNat) (by lia) (by rw[hG];exact hb) hr (by lia) (c:=c) (by rw[hG];exact hc);rw[<-Lo (g:=g) g7 m c]at z;obtain⟨w,hw⟩:=List.exists_mem_of_length_pos (show 0<(Dm g g7 m c).length by lia);rw[<-K2 hg hl (by lia) c]at hw;obtain⟨h1,h2⟩:=bv.mp hw;obtain⟨n,hn,rfl⟩:=bR.mp h1;have hn:=bW.mp hn;exact⟨_,Au ..,BQ hg _ _,qL h2⟩
theorem Qm{rk:qV->Nat}(hr:Lw g.toNat (g7.length/g.toNat) g7 rk){R:Nat}(hR:∀p,rk p<R){g8 left:Nat}
  (hE:∀(q:Nat->qV) (k:Nat),q k=(0,0)->(∀i,i<k->Nd g.toNat (g7.length/g.toNat) g7 (q i) (q (i+1)))->k<=g8)
  (hL:∀(q:Nat->qV) (k:Nat),q 0=(0,0)->(∀i,i<k->Nd g.toNat (g7.length/g.toNat) g7 (q i) (q (i+1)))->k<=left)
  {y z:qU} (hy:∀n∈y,0<=n/\n<g) (hz:∀n∈z,0<=n/\n<g) (ly:y.length=g8+left+1) (lz:z.length=g8+left+1) (e:BB g g7 m y=BB g g7 m z):y.getD g8 0=z.getD g8 0:=by
 have rb:∀k,∀n∈List.replicate k (0:Int),0<=n/\n<g:=λk n hn=>by rw[(dE.mp hn).2];lia
 obtain⟨A,hA⟩:∃A:qU,A=List.replicate (R+m) 0:=⟨_,rfl⟩;obtain⟨B,hB⟩:∃B:qU,B=List.replicate (R+g8+m) 0:=⟨_,rfl⟩;have lA:A.length=R+m:=by rw[hA,bP]
 have lB:B.length=R+g8+m:=by rw[hB,bP]
 have Yb:∀n∈A++y,0<=n/\n<g:=λn hn=>(bJ.mp hn).elim (λh=>rb _ n (hA▸h)) (hy n)
 have Zb:∀n∈z++B,0<=n/\n<g:=λn hn=>(bJ.mp hn).elim (hz n) (λh=>rb _ n (hB▸h))
 clear hA hB;have lY:(A++y).length=R+m+(g8+left+1):=by rw[bC,lA,ly]
 have lZ:(z++B).length=g8+left+1+(R+g8+m):=by rw[bC,lB,lz]
 obtain⟨X,lX,bX,x1,x2⟩:∃X:qU,X.length=R+(g8+left+1)+(R+g8+m)+1/\(∀n∈X,0<=n/\n<g)/\X.take (R+(g8+left+1)+1)=BB g g7 m (A++y)/\X.drop (R+m)=BB g g7 m (z++B):=by
  have b1:=FO hg hb m (A++y);have b2:=FO hg hb m (z++B);have l1:(BB g g7 m (A++y)).length=R+(g8+left+1)+1:=by rw[Bh,lY,eH R,eH,d8]
  have l2:(BB g g7 m (z++B)).length=g8+left+1+(R+g8)+1:=by rw[Bh,lZ,<-Nat.add_assoc,eH,d8]
  by_cases c:m<=g8+left+1+1
  ·have f1:(BB g g7 m (A++y)).drop (R+m)=BB g g7 m y:=by
    rw[<-NJ (by lia) (by lia),show R+m=A.length from lA.symm,List.drop_left]
   have f2:(BB g g7 m (z++B)).take (g8+left+1+1-m)=BB g g7 m z:=by rw[<-NI (by lia) (by lia),show g8+left+1=z.length from lz.symm,List.take_left]
   refine⟨BB g g7 m (A++y)++(BB g g7 m (z++B)).drop (g8+left+1+1-m),?_,?_,?_,?_⟩
   ·rw[bC,cA,l1,l2];obtain⟨d,hd⟩:=Nat.exists_eq_add_of_le c;rw[hd,d5,show g8+left+1+(R+g8)+1=R+g8+m+d by lia,d8];lia
   ·exact λn hn=>(bJ.mp hn).elim (b1 n) λh=>b2 n (cB h)
   ·rw[<-l1,List.take_left]
   ·rw[List.drop_append_of_le_length (by lia),f1,e,<-f2,dQ]
  ·refine⟨BB g g7 m (A++y)++(List.replicate (m-(g8+left+1+1)) 0++BB g g7 m (z++B)),?_,?_,?_,?_⟩
   ·rw[bC,bC,bP,l1,l2];lia
   ·exact λn hn=>(bJ.mp hn).elim (b1 n) λh=>(bJ.mp h).elim (rb _ n) (b2 n)
   ·rw[<-l1,List.take_left]
   ·rw[List.drop_append,List.drop_eq_nil_of_le (by lia),List.nil_append,List.drop_append,List.drop_eq_nil_of_le (by rw[bP];lia),List.nil_append,bP,l1,show R+m-(R+(g8+left+1)+1)-(m-(g8+left+1+1))=0 by lia,fB]
 obtain⟨W,lW,Wb,hW⟩:=Sc hg hl m2 hb hr bX;replace lW:W.length=R+(g8+left+1)+(R+g8+m)+m:=by rw[lW,lX];lia
 clear lX bX e;have hrS:∀a b,Nd g.toNat (g7.length/g.toNat) g7 a b->rk a<rk b:=hr
 have s1:y.getD g8 0=W.getD (R+m+g8) 0:=by
  have lw:(W.take (R+m+(g8+left+1))).length=(A++y).length:=by rw[b9,lY];lia
  have wb:∀n∈W.take (R+m+(g8+left+1)),0<=n/\n<g:=λn hn=>Wb n (cO hn)
  have le:BB g g7 m (A++y)=BB g g7 m (W.take (R+m+(g8+left+1))):=by rw[NI (by lia) (by lia),hW,<-x1,show R+m+(g8+left+1)+1-m=R+(g8+left+1)+1 by rw[eH R,eH,d8]]
  have t:=LA hg hl m2 Yb wb lw.symm le;rw[lY]at t;obtain⟨i0,hi,e0⟩:=(K8.less hg hl m2 t (k:=R) (by lia)).some hrS λi=>hR _
  have ee:=t.after hrS hL e0 (j:=R+g8+2) (by lia) (by lia);have s:=Pf hg hl m2 Yb wb lw.symm (by lia) ee (j:=m-2) (by lia);rw[show R+g8+2+(m-2)=R+m+g8 by lia,FT (by lia)]at s;rw[<-s,a8,a8,bS (by lia),show R+m+g8-A.length=g8 by lia]
 have s2:z.getD g8 0=W.getD (R+m+g8) 0:=by
  have lw:(W.drop (R+m)).length=(z++B).length:=by rw[cA,lZ];lia
  have wb:∀n∈W.drop (R+m),0<=n/\n<g:=λn hn=>Wb n (cB hn)
  have le:BB g g7 m (z++B)=BB g g7 m (W.drop (R+m)):=by rw[NJ (by lia) (by lia),hW,x2]
  have t:=LA hg hl m2 Zb wb lw.symm le;rw[lZ]at t;obtain⟨i0,hi,e0⟩:=(K8.from hg hl m2 t (k:=R) (d:=g8) (by lia)).some hrS λi=>hR _
  have ee:=t.ahead hrS hE e0 (j:=g8) (by lia) (by lia) (bD _);have s:=Pf hg hl m2 Zb wb lw.symm (by lia) ee (j:=0) (by lia);rw[EZ,Nat.add_zero]at s;rw[<-s,a8,a8,bU (by lia)]
 rw[s1,s2]
end
def Sd(p:qV):List V:=[.int (p.1:Int),.int (p.2:Int)]
abbrev DC(K:qT)(H:Hp):List qP->List (qV)->Prop:=Paired λp x=>Am K H p (Sd x)
variable{L:List (qV)}
theorem DC.same{K:qT}(e:AH H H')(h:DC K H ps L):DC K H' ps L:=Paired.mapP h λ_ _ z=>z.same' e
theorem Paired.app{F:α->β->Prop}{a:List α}{b:List β}{c:List α}{d:List β}(p:Paired F a b)(h:Paired F c d):Paired F (a++c) (b++d):=by
 induction p with
 |nil=>exact h
 |cons r _ ih=>exact .cons r ih
theorem Am.updL{K:qT}{u:HO}(hd:H d=some (.lst ys))(q:Am K H a xs):Am K (Ak H d u) a xs:=by
 rcases q with (z|⟨o,z⟩)|z
 ·exact .inl (.inl (by rw[AJ (Ff z hd λy=>nomatch y)];exact z))
 ·exact .inl (.inr ⟨o,by rw[AJ (Ff z hd λy=>nomatch y)];exact z⟩)
 ·exact .inr z
theorem DC.upd{K:qT}{u:HO}(hd:H d=some (.lst ys))(h:DC K H ps L):DC K (Ak H d u) ps L:=Paired.mapP h λ_ _ z=>z.updL hd
inductive Gj(K:qT)(vs:List V)(H:Hp)(Q:VK)(z3_:XK):Prop
 |m (a b:Nat):vs=[.int (a:Int),.int (b:Int)]->(∀p H',AH H H'->Am K H' p (Sd (Jx (a,b)))->Q (.ref p) H')->Gj K vs H Q z3_
inductive Lx(K:qT)(vs:List V)(H:Hp)(Q:VK)(z3_:XK):Prop
 |m (r q:qP) (g lo:Int) (g7:qU) (m a b:Nat):vs=[.ref r,.ref q]->AY H r g lo g7 m->Am K H q (Sd (a,b))->(∀p H',AH H H'->Am K H' p (Sd (Jx (a/g.toNat,b/g.toNat)))->Q (.ref p) H')->Lx K vs H Q z3_
inductive Se(K:qT)(vs:List V)(H:Hp)(Q:VK)(z3_:XK):Prop
 |m (r q:qP) (g lo:Int) (g7:qU) (m a b:Nat):vs=[.ref r,.ref q]->AY H r g lo g7 m->Am K H q (Sd (a,b))->(∀p H',AH H H'->Am K H' p (Sd (Jx (a%(g7.length/g.toNat),b%(g7.length/g.toNat))))->Q (.ref p) H')->Se K vs H Q z3_
noncomputable def NK(h n:Nat):List (qV):=((List.range h).filter λo=>decide (o≠n)).map λo=>(n,o)
theorem UN(h n:Nat):(NK h n).length<=h:=by unfold NK;rw[a9];exact cF (cU ..) (by rw[bO];exact bD _)
theorem FE(h:Nat):∀i:Nat,((List.range i).flatMap (NK h)).length<=i*h
 |0=>cJ _
 |i+1=>by rw[b8,dM,bC,Nat.add_mul,cP,fD,bz];have:=FE h i;have:=UN h i;lia
noncomputable def BV(h:Nat):List (qV):=(0,0)::(List.range h).flatMap (NK h)
noncomputable def Sf(g7:qU)(a:Nat):List (qV):=((List.range g7.length).filter λb=>decide (g7.getD b 0=g7.getD a 0)&&decide (b≠a)).map λb=>(a,b)
noncomputable def Ei(g7:qU):List (qV):=(List.range g7.length).flatMap (Sf g7)
inductive Ly(K:qT)(vs:List V)(H:Hp)(Q:VK)(z3_:XK):Prop
 |m (r:qP) (g lo:Int) (g7:qU) (m:Nat):vs=[.ref r]->AY H r g lo g7 m->g^(m-1)<=9->(∀D H' ps,AH H H'->H D=none->H' D=some (.lst (ps.map V.ref))->DC K H' ps (BV (g7.length/g.toNat))->Q (.ref D) H')->Ly K vs H Q z3_
inductive Od(K:qT)(vs:List V)(H:Hp)(Q:VK)(z3_:XK):Prop
 |m (r:qP) (g lo:Int) (g7:qU) (m:Nat):vs=[.ref r]->AY H r g lo g7 m->g^(m-1)<=9->(∀D H' ps,AH H H'->H D=none->H' D=some (.lst (ps.map V.ref))->DC K H' ps (Ei g7)->Q (.ref D) H')->Od K vs H Q z3_
theorem NL{K:qT}{D:qP}{Q:VK}(Pv:Nat->List V->Hp->Prop)(h0:Pv 0 [] (Ak H D (.lst [])))(hl:∀i ge H,i<=xs.length->Pv i ge H->Am K H a xs)
  (hs:∀i x p ge H2,xs[i]?=some x->Pv i ge H2->H2 p=none->tt (some (.int ((i:Nat):Int))::some x::σf) (Ak H2 p (.tup [.int ((i:Nat):Int),x])) λb H4=>if b=true then te (some (.int ((i:Nat):Int))::some x::σf) H4 λy H5=>H5 D=some (.lst ge)/\ge.length<sizeLine/\Pv (i+1) (ge++[y]) (Ak H5 D (.lst (ge++[y]))) else Pv (i+1) ge H4)
  (hd:∀ge H2,Pv xs.length ge H2->Q (.ref D) H2):Dx K (QJ K a) tt te σf D Q H:=by
 refine⟨λk i ge H=>k=xs.length-i/\i<=xs.length/\Pv i ge H,⟨xs.length,by simp,Nat.zero_le _,h0⟩,?_⟩;rintro k i ge H2 ⟨rfl,hi,p⟩;have q:=hl i ge H2 hi p
 by_cases hlt:i<xs.length
 ·refine .inr ⟨⟨xs,xs[i],q,by simp[hlt]⟩,Pv (i+1),λl H' p'=>⟨xs.length-(i+1),by lia,rfl,hlt,p'⟩,λv H' y=>?_⟩;refine byG λGq hGq=>?_;obtain⟨p2,x,e1,e2,e3,y⟩:=y;refine hGq ?_;clear hGq Gq;subst e1 e3;exact⟨p2,_,_,rfl,Am.of AD,hs i x p2 ge H2 (y xs q) p e2⟩
 ·have e:i=xs.length:=by lia
  subst e;exact .inl ⟨⟨xs,q,bD _⟩,hd ge H2 p⟩
theorem UO(g7:qU)(a:Nat):(Sf g7 a).length<=g7.length:=by unfold Sf;rw[a9];exact cF (cU ..) (by rw[bO];exact bD _)
theorem FF(g7:qU):∀i:Nat,((List.range i).flatMap (Sf g7)).length<=i*g7.length
 |0=>cJ _
 |i+1=>by rw[b8,dM,bC,Nat.add_mul,cP,fD,bz];have:=FF g7 i;have:=UO g7 i;lia
theorem Sg{p:α->Bool}{j:α}(h:p j=true):[j].filter p=[j]:=by rw[List.filter_cons_of_pos h];rfl
theorem Pg{p:α->Bool}{j:α}(h:p j=false):[j].filter p=[]:=by rw[List.filter_cons_of_neg (by rw[h];decide)];rfl
noncomputable def BZ(p:qV):List Cc:=[Sum.inl (p.1:Int),Sum.inl (p.2:Int)]
variable{p q:qV}
theorem Jz(h:BZ p=BZ q):p=q:=by
 unfold BZ at h
 injection h with h1 h2
 injection h2 with h2 _
 have a:=Sum.inl.inj h1;have b:=Sum.inl.inj h2;exact Prod.ext (by lia) (by lia)
noncomputable def Ar(A:List (qV))(vs:List V):List (List Cc×V):=List.zipWith (λa v=>(BZ a,v)) A vs
theorem CH{A:List (qV)}{vs:List V}(h:vs.length=A.length):(Ar A vs).length=A.length:=by unfold Ar;rw[List.length_zipWith,h,Nat.min_self]
theorem D6:∀{A:List (qV)} {vs:List V} {a:qV},a∉A->Cf (Ar A vs) (BZ a)=none
 |[],_,_,_=>rfl
 |_::_,[],_,_=>rfl
 |b::A,v::vs,a,h=>by
  have n1:¬BZ b=BZ a:=λe=>h (by rw[Jz e];exact bf)
  show Cf ((BZ b,v)::Ar A vs) (BZ a)=none;rw[E6 (show ¬(BZ b,v).1=BZ a from n1)];exact D6 λe=>h (be _ e)
theorem CI:∀{A:List (qV)} {vs:List V} {i:Nat} {a:qV} {v:V},A.Nodup->A[i]?=some a->vs[i]?=some v->Cf (Ar A vs) (BZ a)=some v
 |[],_,_,_,_,_,h,_=>by simp at h
 |_::_,[],_,_,_,_,_,h=>by simp at h
 |b::A,v::vs,0,a,w,nd,h1,h2=>by simp at h1 h2;subst h1 h2;exact GY rfl
 |b::A,v::vs,i+1,a,w,nd,h1,h2=>by
  simp at h1 h2;have nd':=dL.mp nd;have n1:¬BZ b=BZ a:=λe=>nd'.1 (by rw[Jz e];exact bE h1)
  show Cf ((BZ b,v)::Ar A vs) (BZ a)=some w;rw[E6 (show ¬(BZ b,v).1=BZ a from n1)];exact CI nd'.2 h1 h2
theorem J1{A:List (qV)}{vs:List V}{a:qV}{v:V}(hl:vs.length=A.length)(h:a∉A):GX (Ar A vs) (BZ a) v=Ar (A++[a]) (vs++[v]):=by rw[R1 _ (D6 h)];unfold Ar;rw[List.zipWith_append hl.symm];rfl
theorem Gk{h:Nat}:p∈BV h↔p=(0,0)\/(p.1<h/\p.2<h/\p.1≠p.2):=by unfold BV;rw[bi,ff];refine or_congr Iff.rfl ⟨λz9=>?_,λ⟨h1,h2,h3⟩=>⟨p.1,bW.mpr h1,bR.mpr ⟨p.2,bv.mpr ⟨bW.mpr h2,qF (Ne.symm h3)⟩,rfl⟩⟩⟩;obtain⟨n,hn,hp⟩:=z9;obtain⟨o,ho,rfl⟩:=bR.mp hp;obtain⟨h1,h2⟩:=bv.mp ho;exact⟨bW.mp hn,bW.mp h1,Ne.symm (qL h2)⟩
theorem Lz{h a b:Nat}(ha:a<h)(hb:b<h):Jx (a,b)∈BV h:=by
 rw[Gk];unfold Jx;split
 ·exact .inl rfl
 ·rename_i e
  exact .inr ⟨ha,hb,e⟩
theorem J2(h:Nat):∀n:Nat,((List.range n).flatMap (NK h)).Nodup
 |0=>fU
 |n+1=>by
  rw[b8,dM,cP,fD,bz,dn];refine⟨J2 h n,?_,λx hx y hy e=>?_⟩
  ·unfold NK;exact List.Pairwise.map _ (λa b e z=>e (Prod.mk.inj z).2) (List.nodup_range.filter _)
  ·obtain⟨k,hk,hx⟩:=ff.mp hx;obtain⟨_,_,e1⟩:=bR.mp hx;obtain⟨_,_,e2⟩:=bR.mp hy;have:=bW.mp hk;have a:=qN Prod.fst e1;have b:=qN Prod.fst e2;rw[e]at a;have a:k=y.1:=a;have b:n=y.1:=b;lia
theorem C5(h:Nat):(BV h).Nodup:=by unfold BV;refine dL.mpr ⟨λe=>?_,J2 h h⟩;obtain⟨n,_,hp⟩:=ff.mp e;obtain⟨o,ho,e1⟩:=bR.mp hp;have h2:=qL (bv.mp ho).2;have a:=qN Prod.fst e1;have b:=qN Prod.snd e1;have a:n=0:=a;have b:o=0:=b;lia
theorem J3{a b:Nat}:(a,b)∈Ei g7↔a<g7.length/\b<g7.length/\a≠b/\g7.getD a 0=g7.getD b 0:=by
 unfold Ei;rw[ff];constructor
 ·rintro⟨n,hn,hp⟩;obtain⟨o,ho,e⟩:=bR.mp hp;obtain⟨h1,h2⟩:=bv.mp ho;rw[cy]at h2;cases e;exact⟨bW.mp hn,bW.mp h1,Ne.symm (qL h2.2),(qL h2.1).symm⟩
 ·rintro⟨h1,h2,h3,h4⟩;exact⟨a,bW.mpr h1,bR.mpr ⟨b,bv.mpr ⟨bW.mpr h2,by rw[cy];exact⟨qF h4.symm,qF (Ne.symm h3)⟩⟩,rfl⟩⟩
structure D8(K:qT)(H:Hp)(ls:List qP)(A:List (qV))(F:qV->List (qV)):Prop where
 n:ls.length=A.length
 nd:ls.Nodup
 e:∀(i:Nat) (a:qV) (l:qP),A[i]?=some a->ls[i]?=some l->∃ps:List qP,H l=some (.lst (ps.map V.ref))/\DC K H ps (F a)
variable{ls:List qP}{F:qV->List (qV)}
theorem D8.same{K:qT}{A:List (qV)}(e:AH H H')(g:D8 K H ls A F):D8 K H' ls A F:=
 ⟨g.n,g.nd,λi a l h1 h2=>by obtain⟨ps,h3,h4⟩:=g.e i a l h1 h2;exact⟨ps,e _ _ h3,DC.same e h4⟩⟩
theorem D8.snoc{K:qT}{A:List (qV)}(g:D8 K H ls A F){l:qP}{a:qV}(hl:l∉ls)(h:H l=some (.lst []))(hF:F a=[]):D8 K H (ls++[l]) (A++[a]) F:=by
 refine⟨by rw[bC,bC,g.n];rfl,dn.mpr ⟨g.nd,dL.mpr ⟨cM,fU⟩,λx hx y hy e=>hl (by rw[<-bL.mp hy,<-e];exact hx)⟩,λi b k h1 h2=>?_⟩
 by_cases z:i<A.length
 ·rw[bU z]at h1;rw[bU (by rw[g.n];exact z)]at h2;exact g.e i b k h1 h2
 ·rw[bS (by lia)]at h1;rw[bS (by rw[g.n];lia),g.n]at h2;have z0:i-A.length=0:=by have:=(bB.mp h1).1;simp at this;lia
  rw[z0]at h1 h2;cases h1;cases h2;exact⟨[],h,by rw[hF];exact .nil⟩
noncomputable def IJ(G h:Nat)(W:List (qV))(p:qV):List (qV):=(W.filter λx=>decide (Jx (x.1/G,x.2/G)=p)).map λx=>Jx (x.1%h,x.2%h)
inductive Ih(P:qR)(w:qS)(K:qT)(vs:List V)(H:Hp)(Q:VK)(z3_:XK):Prop
 |m (r:qP) (g lo:Int) (g7:qU) (m:Nat):vs=[.ref r]->AY H r g lo g7 m->g^(m-1)<=9->(∀d H' ls,AH H H'->H d=none->(∀l∈ls,H l=none)->DW P w K H' d (Ar (BV (g7.length/g.toNat)) (ls.map V.ref))->D8 K H' ls (BV (g7.length/g.toNat)) (IJ g.toNat (g7.length/g.toNat) (Ei g7))->Q (.ref d) H')->Ih P w K vs H Q z3_
section
variable{P:qR}{w:qS}{K:qT}
theorem DW.lst(z:DW P w K H d kvs){b:qP}(h:H b=some (.lst xs))(u:HO):Ak H d u b=some (.lst xs):=by obtain⟨bs,h1,_⟩:=z;rw[AJ (Ff h h1 λy=>nomatch y)];exact h
theorem DW.prv(z:DW P w K H d kvs)(h:DC K H ps L)(u:HO):DC K (Ak H d u) ps L:=by obtain⟨bs,h1,_⟩:=z;exact Paired.mapP h λ_ _ y=>y.upd' h1
theorem DW.grl(z:DW P w K H d kvs){A:List (qV)}(g:D8 K H ls A F)(u:HO):D8 K (Ak H d u) ls A F:=
 ⟨g.n,g.nd,λi a l h1 h2=>by obtain⟨ps,h3,h4⟩:=g.e i a l h1 h2;exact⟨ps,z.lst h3 u,z.prv h4 u⟩⟩
theorem D8.out{A:List (qV)}(g:D8 K H ls A F){l:qP}(h:H l=none):l∉ls:=λz=>by
 obtain⟨i,hi⟩:=bY.mp z;have hlt:=(bB.mp hi).1;have hA:i<A.length:=by rw[<-g.n];exact hlt
 obtain⟨ps,h3,_⟩:=g.e i A[i] l (bA hA) hi;rw[h]at h3;cases h3
end
theorem Gm{A:List (qV)}(nd:A.Nodup){a:qV}(h:A[i]?=some a):a∉A.take i:=λz=>by
 obtain⟨j,hj⟩:=bY.mp z;rw[List.getElem?_take]at hj
 split at hj
 ·rename_i lt
  have a1:=bB.mp h;have a2:=bB.mp hj;have:=(fY (h₀:=a2.1) (h₁:=a1.1) nd).mp (by rw[a2.2,a1.2]);lia
 ·cases hj
section
variable{P:qR}{w:qS}{K:qT}
theorem DW.updL(z:DW P w K H d kvs){l:qP}(hl:H l=some (.lst xs))(u:HO):DW P w K (Ak H l u) d kvs:=by obtain⟨bs,h1,h3,h4⟩:=z;exact⟨bs,by rw[AJ (Ff h1 hl λy=>nomatch y)];exact h1,h3,λp hp=>Am.updL hl (h4 p hp)⟩
theorem D8.push{A:List (qV)}{F':qV->List (qV)}(g:D8 K H ls A F)(nd:A.Nodup){a:qV}{l:qP}{q:qP}{x:qV}(hj:A[j]?=some a)(hl:ls[j]?=some l)(h:H l=some (.lst (ps.map V.ref)))(hp:DC K H ps (F a))(hq:Am K H q (Sd x))
  (hF:∀b,F' b=if a=b then F b++[x] else F b):D8 K (Ak H l (.lst ((ps++[q]).map V.ref))) ls A F':=by
 refine⟨g.n,g.nd,λi b k h1 h2=>?_⟩
 by_cases e:i=j
 ·subst e;rw[hj]at h1;rw[hl]at h2;cases h1;cases h2;refine⟨_,AD,?_⟩;rw[hF,qD rfl];exact Paired.app (DC.upd h hp) (.cons (Am.updL h hq) .nil)
 ·have nk:k≠l:=λz=>by
   have a1:=bB.mp h2;have a2:=bB.mp hl;exact e ((fY (h₀:=a1.1) (h₁:=a2.1) g.nd).mp (by rw[a1.2,a2.2,z]))
  have nb:¬a=b:=λz=>by have a1:=bB.mp h1;have a2:=bB.mp hj;exact e ((fY (h₀:=a1.1) (h₁:=a2.1) nd).mp (by rw[a1.2,a2.2,z]))
  obtain⟨ps',h3,h4⟩:=g.e i b k h1 h2;refine⟨ps',by rw[AJ nk];exact h3,?_⟩;rw[hF,qC nb];exact DC.upd h h4
end
theorem Sh{h:Nat}{W:List (qV)}{x:qV}(hx:W[i]?=some x)(b:qV):IJ G h (W.take (i+1)) b=if Jx (x.1/G,x.2/G)=b then IJ G h (W.take i) b++[Jx (x.1%h,x.2%h)] else IJ G h (W.take i) b:=by
 unfold IJ;rw[cg,hx,cL,bH]
 by_cases e:Jx (x.1/G,x.2/G)=b
 ·rw[qD e,show (some x).toList=[x] from rfl,Sg (p:=λx:Nat×Nat=>decide (Jx (x.1/G,x.2/G)=b)) (qF e)];rfl
 ·rw[qC e,show (some x).toList=[x] from rfl,Pg (p:=λx:Nat×Nat=>decide (Jx (x.1/G,x.2/G)=b)) (qG e)];exact bz _
theorem L0(G h:Nat)(W:List (qV))(p:qV):(IJ G h W p).length<=W.length:=by unfold IJ;rw[a9];exact cU ..
structure Ph(A:List (qV))(F:qV->List (qV))(A2:List (qV))(B:qV->List (qV)):Prop where
 nd:A2.Nodup
 all:∀p,p∈A2↔p∈A
 on:∀p q,q∈B p↔q∈A/\p∈F q
 len:∀p,(B p).length<=7000000
inductive L5(P:qR)(w:qS)(K:qT)(vs:List V)(H:Hp)(Q:VK)(z3_:XK):Prop
 |m (d:qP) (u:HO) (ls:List qP) (A:List (qV)) (F:qV->List (qV)):vs=[.ref d]->DR P w K H d u (Ar A (ls.map V.ref))->D8 K H ls A F->A.Nodup->(∀a∈A,∀p∈F a,p∈A)->A.length<=100->(∀a∈A,(F a).length<=70000)->(∀u' H' d2 ls2 A2 B,AH (Ak H d u') H'->DR P w K H' d u' (Ar A (ls.map V.ref))->H d2=none->(∀l∈ls2,H l=none)->DW P w K H' d2 (Ar A2 (ls2.map V.ref))->D8 K H' ls2 A2 B->Ph A F A2 B->Q (.ref d2) H')->L5 P w K vs H Q z3_
variable{d2:qP}
section
variable{P:qR}{w:qS}{K:qT}{u:HO}
theorem DR.updL(z:DR P w K H d u kvs){l:qP}(hl:H l=some (.lst xs))(v:HO):DR P w K (Ak H l v) d u kvs:=by
 refine byG λGq hGq=>?_;obtain⟨bs,h1,h2,h3,h4⟩:=z;refine hGq ?_;clear hGq Gq
 have ne:d≠l:=by
  refine Ff h1 hl λy=>?_;rcases h2 with e|⟨o,e⟩
  ·rw[e]at y;cases y
  ·rw[e]at y;cases y
 exact⟨bs,by rw[AJ ne];exact h1,h2,h3,λp hp=>Am.updL hl (h4 p hp)⟩
theorem DR.updX(z:DR P w K H d u kvs){kvs2:List (List Cc×V)}(x:DW P w K H d2 kvs2)(ne:d≠d2)(v:HO):DR P w K (Ak H d2 v) d u kvs:=by refine byG λGq hGq=>?_;obtain⟨bs,h1,h2,h3,h4⟩:=z;refine hGq ?_;clear hGq Gq;obtain⟨bs2,g1,_⟩:=x;exact⟨bs,by rw[AJ ne];exact h1,h2,h3,λp hp=>(h4 p hp).upd' g1⟩
end
def U3(P:qR)(w:qS)(K:qT)(H HX:Hp)(d2:qP)(A2:List (qV))(B:qV->List (qV)):Prop:=∃ls2:List qP,(∀l∈ls2,H l=none)/\DW P w K HX d2 (Ar A2 (ls2.map V.ref))/\D8 K HX ls2 A2 B
variable{A2:List (qV)}
theorem Si{P:qR}{w:qS}{K:qT}{HX:Hp}{B:qV->List (qV)}{ls2:List qP}{l:qP}{k:qV}{u:HO}(ln:∀l∈ls2,H l=none)(w0:DW P w K HX d2 (Ar A2 (ls2.map V.ref)))(g:D8 K HX ls2 A2 B)(hl:HX l=some (.lst []))(nl:l∉ls2)(h0:H l=none)(hk:k∉A2)(hB:B k=[])
  (w1:DW P w K (Ak HX d2 u) d2 (GX (Ar A2 (ls2.map V.ref)) (BZ k) (.ref l))):(∀x∈ls2++[l],H x=none)/\DW P w K (Ak HX d2 u) d2 (Ar (A2++[k]) ((ls2++[l]).map V.ref))/\D8 K (Ak HX d2 u) (ls2++[l]) (A2++[k]) B:=by
 rw[J1 (by rw[a9];exact g.n) hk]at w1;refine⟨λx hx=>?_,by rw[bH];exact w1,(w0.grl g u).snoc nl (w0.lst hl u) hB⟩;rcases bJ.mp hx with z|z
 ·exact ln x z
 ·rw[bL.mp z];exact h0
theorem U3.put{P:qR}{w:qS}{K:qT}{HX:Hp}{B:qV->List (qV)}{ls2:List qP}{l:qP}{k:qV}{u:HO}(ln:∀l∈ls2,H l=none)(w0:DW P w K HX d2 (Ar A2 (ls2.map V.ref)))(g:D8 K HX ls2 A2 B)(hl:HX l=some (.lst []))(nl:l∉ls2)(h0:H l=none)(hk:k∉A2)(hB:B k=[])
  (w1:DW P w K (Ak HX d2 u) d2 (GX (Ar A2 (ls2.map V.ref)) (BZ k) (.ref l))):U3 P w K H (Ak HX d2 u) d2 (A2++[k]) B:=⟨_,Si ln w0 g hl nl h0 hk hB w1⟩
structure Qx(A:List (qV))(F:qV->List (qV))(i:Nat)(D:(qV)->(qV)->Prop)(n:Nat)(A2:List (qV))(B:qV->List (qV)):Prop where
 nd:A2.Nodup
 sub:∀p∈A2,p∈A
 got:∀p∈A.take i,p∈A2
 no:∀p,p∉A2->B p=[]
 on:∀p q,q∈B p↔(q∈A.take i/\p∈F q)\/D p q
 len:∀p,(B p).length<=n
theorem Qx.key{A:List (qV)}{n:Nat}{D:(qV)->(qV)->Prop}{B:qV->List (qV)}(t:Qx A F i D n A2 B){k:qV}(hk:k∉A2)(hA:k∈A):Qx A F i D n (A2++[k]) B where
 nd:=dn.mpr ⟨t.nd,dL.mpr ⟨cM,fU⟩,λx hx y hy e=>hk (by rw[<-bL.mp hy,<-e];exact hx)⟩
 sub:=λp hp=>(bJ.mp hp).elim (t.sub p) λz=>by rw[bL.mp z];exact hA
 got:=λp hp=>bJ.mpr (.inl (t.got p hp))
 no:=λp hp=>t.no p λz=>hp (bJ.mpr (.inl z))
 on:=t.on
 len:=t.len
section
variable{P:qR}{w:qS}{K:qT}{u:HO}
theorem DR.isX(z:DR P w K H d u kvs):∃φ,H d=some u/\(u=.ext φ\/∃o,u=.frz o (.ext φ)):=by refine byG λGq hGq=>?_;obtain⟨bs,h1,h2,_⟩:=z;refine hGq ?_;clear hGq Gq;exact⟨_,h1,h2⟩
theorem DR.sqt(z:DR P w K H d u kvs)(q:Am K H a xs)(v:HO):Am K (Ak H d v) a xs:=by
 obtain⟨φ,h1,h2⟩:=z.isX;have ne:∀{b:qP} {y:HO},H b=some y->y≠u->b≠d:=λ{b y} hb n e=>n (by rw[e,h1]at hb;exact (Option.some.inj hb).symm)
 rcases q with (y|⟨o,y⟩)|y
 ·exact .inl (.inl (by rw[AJ (ne y (by rcases h2 with e|⟨o',e⟩<;>rw[e]<;>exact λt=>nomatch t))];exact y))
 ·exact .inl (.inr ⟨o,by rw[AJ (ne y (by rcases h2 with e|⟨o',e⟩<;>rw[e]<;>intro t<;>cases t))];exact y⟩)
 ·exact .inr y
theorem DR.lst(z:DR P w K H d u kvs){b:qP}(h:H b=some (.lst xs))(v:HO):Ak H d v b=some (.lst xs):=by
 obtain⟨φ,h1,h2⟩:=z.isX
 have ne:b≠d:=λe=>by rw[e,h1]at h;have h:=Option.some.inj h;rcases h2 with t|⟨o,t⟩<;>rw[t]at h<;>cases h
 rw[AJ ne];exact h
theorem DR.grl(z:DR P w K H d u kvs){A:List (qV)}(g:D8 K H ls A F)(v:HO):D8 K (Ak H d v) ls A F:=
 ⟨g.n,g.nd,λi a l h1 h2=>by obtain⟨ps,h3,h4⟩:=g.e i a l h1 h2;exact⟨ps,z.lst h3 v,Paired.mapP h4 λ_ _ y=>z.sqt y v⟩⟩
theorem D8.keep{A:List (qV)}(g:D8 K H ls A F){l:qP}(hl:H l=some (.lst xs))(nl:l∉ls)(v:HO):D8 K (Ak H l v) ls A F:=
 ⟨g.n,g.nd,λi a k h1 h2=>by obtain⟨ps,h3,h4⟩:=g.e i a k h1 h2;exact⟨ps,by rw[AJ λe=>nl (by rw[<-e];exact bE h2)];exact h3,DC.upd hl h4⟩⟩
theorem AH.both{H0:Hp}(e:AH H H0)(d:qP)(v:HO):AH (Ak H d v) (Ak H0 d v):=λb y h=>by
 by_cases z:b=d
 ·subst z;rw[AD]at h⊢;exact h
 ·rw[AJ z]at h⊢;exact e b y h
end
theorem L6{A:List (qV)}{k:List Cc}{v:V}(h:(Ar A (ls.map V.ref))[i]?=some (k,v)):∃a l,A[i]?=some a/\ls[i]?=some l/\k=BZ a/\v=.ref l:=by
 unfold Ar at h;rw[List.getElem?_zipWith,bF]at h;cases ha:A[i]? with
 |none=>rw[ha]at h;simp at h
 |some a =>
  cases hl:ls[i]? with
  |none=>rw[ha,hl]at h;simp at h
  |some l =>
   rw[ha,hl]at h;simp at h;exact⟨a,l,rfl,rfl,h.1.symm,h.2.symm⟩
theorem Qx.push{A:List (qV)}{n:Nat}{a p0:qV}{B:qV->List (qV)}(t:Qx A F i (λp q=>q=a/\p∈L.take j) n A2 B)(hp:L[j]?=some p0)(m:p0∈A2):Qx A F i (λp q=>q=a/\p∈L.take (j+1)) (n+1) A2 (λp=>if p0=p then B p++[a] else B p) where
 nd:=t.nd
 sub:=t.sub
 got:=t.got
 no:=λp h=>by rw[qC λe=>h (by rw[<-e];exact m)];exact t.no p h
 on:=λp q=>by
  rw[cg,hp,show (some p0).toList=[p0] from rfl,bJ,bL]
  by_cases e:p0=p
  ·rw[qD e,bJ,bL,t.on];constructor
   ·rintro ((h|⟨h1,h2⟩)|h)
    ·exact .inl h
    ·exact .inr ⟨h1,.inl h2⟩
    ·exact .inr ⟨h,.inr e.symm⟩
   ·rintro (h|⟨h1,_⟩)
    ·exact .inl (.inl h)
    ·exact .inr h1
  ·rw[qC e,t.on];constructor
   ·rintro (h|⟨h1,h2⟩)
    ·exact .inl h
    ·exact .inr ⟨h1,.inl h2⟩
   ·rintro (h|⟨h1,h2|h2⟩)
    ·exact .inl h
    ·exact .inr ⟨h1,h2⟩
    ·exact qE h2.symm e
 len:=λp=>by
  have:=t.len p
  by_cases e:p0=p
  ·rw[qD e,bC,bc];lia
  ·rw[qC e];lia
structure Pi(A:List (qV))(B:qV->List (qV))(M:List (qV))(f:qV->Nat):Prop where
 nd:M.Nodup
 sub:∀p∈M,p∈A
 low:∀p∈M,∀q∈B p,q∈M/\f q<f p
 top:∀p∈M,f p=0\/∃q∈B p,q∈M/\f p=f q+1
 rest:∀p∈A,p∉M->∃q∈B p,q∉M
 few:∀p∈M,f p<=A.length
inductive L7(P:qR)(w:qS)(K:qT)(vs:List V)(H:Hp)(Q:VK)(z3_:XK):Prop
 |m (d:qP) (u:HO) (ls:List qP) (A:List (qV)) (B:qV->List (qV)):vs=[.ref d]->DR P w K H d u (Ar A (ls.map V.ref))->D8 K H ls A B->A.Nodup->(∀a∈A,∀p∈B a,p∈A)->A.length<=100->(∀a∈A,(B a).length<=7000000)->(∀u' H' d2 M f,AH (Ak H d u') H'->DR P w K H' d u' (Ar A (ls.map V.ref))->H d2=none->DW P w K H' d2 (Ar M (M.map λp=>V.int (f p:Int)))->Pi A B M f->Q (.ref d2) H')->L7 P w K vs H Q z3_
theorem Oe{K:qT}(h:X.K=K)(hc:X.calm=true):CJ X (.builtin "all") (λxs H Q=>∃(p:qP) (bs:List Bool),xs=[.ref p]/\Ai K H p (bs.map V.bl)/\Q (.bl (bs.all id)) H):=h▸Mr hc
theorem Sj{K:qT}(h:X.K=K):FM X (binaryOp .Add) (Ug K):=h▸TN
theorem UP{K:qT}(h:X.K=K)(hu:X.A.units+64<cLine):FM X (compareOp .NotEq) (X5 K):=h▸N0 hu
theorem Sk{K:qT}{l:Expr}{tl:TE}(h:X.K=K)(hl:PE X l tl):PI X tg l (Q5 K tl):=h▸Oo hl
structure Sl(A:List (qV))(B:qV->List (qV))(M:List (qV))(f:qV->Nat)(FL:List (qV))(n:Nat):Prop where
 nd:M.Nodup
 sub:∀p∈M,p∈A
 ndF:FL.Nodup
 on:∀p,p∈FL↔p∈A/\p∉M/\∀q∈B p,q∈M
 lt:∀p∈M,f p<n
 low:∀p∈M,∀q∈B p,q∈M/\f q<f p
 top:∀p∈M,f p=0\/∃q∈B p,q∈M/\f p=f q+1
 due:∀p∈FL,n=0\/∃q∈B p,q∈M/\n=f q+1
 le:n<=M.length
theorem Sm{A:List (qV)}{B:qV->List (qV)}(nd:A.Nodup)(f:qV->Nat):Sl A B [] f (A.filter λp=>decide (B p=[])) 0 where
 nd:=fU
 sub:=λp hp=>qE hp cM
 ndF:=nd.filter _
 on:=λp=>by
  rw[bv,decide_eq_true_eq];refine and_congr Iff.rfl ⟨λe=>⟨cM,λq hq=>?_⟩,λ⟨_,e⟩=>?_⟩
  ·rw[e]at hq;exact hq
  ·exact List.eq_nil_iff_forall_not_mem.mpr λq hq=>qE (e q hq) cM
 lt:=λp hp=>qE hp cM
 low:=λp hp=>qE hp cM
 top:=λp hp=>qE hp cM
 due:=λ_ _=>.inl rfl
 le:=bD _
noncomputable def V2(M:List (qV))(f:qV->Nat)(n:Nat):qV->Nat:=λp=>if p∈M then f p else n
theorem Ea{M:List (qV)}{f:qV->Nat}{n:Nat}(h:p∈M):V2 M f n p=f p:=qD h
theorem Gn{M:List (qV)}{f:qV->Nat}{n:Nat}(h:p∉M):V2 M f n p=n:=qC h
theorem Sl.step{A:List (qV)}{B:qV->List (qV)}{M:List (qV)}{f:qV->Nat}{FL:List (qV)}{n:Nat}(m:Sl A B M f FL n)(ndA:A.Nodup)(h:FL≠[]):
  Sl A B (M++FL) (V2 M f n) (A.filter λp=>decide (p∉M++FL)&&decide (∀q∈B p,q∈M++FL)) (n+1):=by
 have out:∀p∈FL,p∉M:=λp hp=>((m.on p).mp hp).2.1
 refine⟨dn.mpr ⟨m.nd,m.ndF,λx hx y hy e=>out y hy (by rw[<-e];exact hx)⟩,λp hp=>?_,ndA.filter _,λp=>?_,λp hp=>?_,λp hp q hq=>?_,λp hp=>?_,λp hp=>?_,?_⟩
 ·rcases bJ.mp hp with z|z
  ·exact m.sub p z
  ·exact ((m.on p).mp z).1
 ·rw[bv,cy,decide_eq_true_eq,decide_eq_true_eq]
 ·rcases bJ.mp hp with z|z
  ·rw[Ea z];have:=m.lt p z;lia
  ·rw[Gn (out p z)];lia
 ·rcases bJ.mp hp with z|z
  ·obtain⟨h1,h2⟩:=m.low p z q hq;rw[Ea z,Ea h1];exact⟨bJ.mpr (.inl h1),h2⟩
  ·have h1:=((m.on p).mp z).2.2 q hq;rw[Gn (out p z),Ea h1];exact⟨bJ.mpr (.inl h1),m.lt q h1⟩
 ·rcases bJ.mp hp with z|z
  ·rcases m.top p z with e|⟨q,hq,h1,e⟩
   ·rw[Ea z];exact .inl e
   ·exact .inr ⟨q,hq,bJ.mpr (.inl h1),by rw[Ea z,Ea h1];exact e⟩
  ·rw[Gn (out p z)];rcases m.due p z with e|⟨q,hq,h1,e⟩
   ·exact .inl e
   ·exact .inr ⟨q,hq,bJ.mpr (.inl h1),by rw[Ea h1];exact e⟩
 ·rw[bv,cy,decide_eq_true_eq,decide_eq_true_eq]at hp;obtain⟨pA,pn,pq⟩:=hp;refine .inr ?_
  by_cases all:∀q∈B p,q∈M
  ·exact qE (bJ.mpr (.inr ((m.on p).mpr ⟨pA,λz=>pn (bJ.mpr (.inl z)),all⟩))) pn
  ·obtain⟨q,hq⟩:=Classical.not_forall.mp all;obtain⟨hq,nq⟩:=Classical.not_imp.mp hq;exact⟨q,hq,pq q hq,by rw[Gn nq]⟩
 ·have:0<FL.length:=fF.mpr h;have:=m.le;rw[bC];lia
theorem Sl.few{A:List (qV)}{B:qV->List (qV)}{M:List (qV)}{f:qV->Nat}{FL:List (qV)}{n:Nat}(m:Sl A B M f FL n):M.length+FL.length<=A.length:=by
 rw[<-bC];refine (dn.mpr ⟨m.nd,m.ndF,λx hx y hy e=>((m.on y).mp hy).2.1 (by rw[<-e];exact hx)⟩).length_le_of_subset λp hp=>?_;rcases bJ.mp hp with z|z
 ·exact m.sub p z
 ·exact ((m.on p).mp z).1
theorem Sl.done{A:List (qV)}{B:qV->List (qV)}{M:List (qV)}{f:qV->Nat}{n:Nat}(m:Sl A B M f [] n):Pi A B M f where
 nd:=m.nd
 sub:=m.sub
 low:=m.low
 top:=m.top
 rest:=λp hp np=>by
  by_cases all:∀q∈B p,q∈M
  ·exact qE ((m.on p).mpr ⟨hp,np,all⟩) cM
  ·obtain⟨q,hq⟩:=Classical.not_forall.mp all;obtain⟨hq,nq⟩:=Classical.not_imp.mp hq;exact⟨q,hq,nq⟩
 few:=λp hp=>by have:=m.lt p hp;have:=m.le;have:=m.few;lia
def Zu(P:qR)(w:qS)(K:qT)(H:Hp)(d d2:qP)(ls:List qP)(A:List (qV))(B:qV->List (qV))(D:qP)(M:List (qV))(f:qV->Nat)(FL:List (qV))(HX:Hp):Prop:=
 ∃u' ps,AH (Ak H d u') HX/\DR P w K HX d u' (Ar A (ls.map V.ref))/\D8 K HX ls A B/\H D=none/\HX D=some (.lst (ps.map V.ref))/\DC K HX ps FL/\DW P w K HX d2 (Ar M (M.map λp=>V.int (f p:Int)))
theorem J4{M:List (qV)}{f:qV->Nat}:(Cf (Ar M (M.map λp=>V.int (f p:Int))) (BZ p)).isSome=decide (p∈M):=by
 by_cases h:p∈M
 ·obtain⟨i,hi⟩:=bY.mp h;rw[qF h]
  suffices ∀(M:List (qV)),p∈M->(Cf (Ar M (M.map λp=>V.int (f p:Int))) (BZ p)).isSome=true from this M h
  intro M
  induction M with
  |nil=>intro z;exact qE z cM
  |cons a M ih =>
   intro z;show (Cf ((BZ a,V.int (f a:Int))::Ar M (M.map λp=>V.int (f p:Int))) (BZ p)).isSome=true
   by_cases e:a=p
   ·rw[GY (show (BZ a,V.int (f a:Int)).1=BZ p by rw[e])];rfl
   ·rw[E6 (show ¬(BZ a,V.int (f a:Int)).1=BZ p from λy=>e (Jz y))];exact ih ((bi.mp z).resolve_left λy=>e y.symm)
 ·rw[D6 h,qG h];rfl
theorem LB{L:List α}{a:α}{p:α->Bool}(h:L[i]?=some a):(L.take (i+1)).filter p=(L.take i).filter p++(if p a=true then[a] else[]):=by
 rw[cg,h,show (some a).toList=[a] from rfl,cL]
 by_cases e:p a=true
 ·rw[qD e,Sg e]
 ·rw[qC e,Pg (by cases z:p a;rfl;exact qE z e)]
end L2
namespace L2
open PySem PySem.Spec PyProof.Rows
variable{E Q:qO->qQ->Prop}{X:Cx}{a:qP}{i j:Nat}{s:qQ}{us vs:List qO}{α β:Type}
structure SB(k:SortKind)(a₀:Array Keyed)(st:SortSt):Prop where
 perm:(arrOf st).Perm a₀
 kd:kindOf st=k
 fl:failedOf st=none
 pd:pendingOf st=#[]
section
variable{prog:qR}{w:qS}{A:Around}{k:SortKind}{a₀:Array Keyed}{st:SortSt}
theorem SB.n(B:SB k a₀ st):(arrOf st).size=a₀.size:=B.perm.size_eq
theorem SB.put(B:SB k a₀ st){xs:Array Keyed}(p:xs.Perm (arrOf st)):SB k a₀ (setArr st xs):=⟨p.trans B.perm,B.kd,B.fl,B.pd⟩
def NM(prog:qR)(w:qS)(A:Around)(s:qQ)(k:SortKind)(a₀:Array Keyed):Prop:=
 ∀x∈a₀.toList,∀y∈a₀.toList,∃b:Bool,∀(E:qO->qQ->Prop) (Q:Bool->qQ->Prop),Q b s->wpAny (model prog w) A (keyLt' k x.1 y.1) Q E s
theorem SB.get(B:SB k a₀ st)(hi:i<a₀.size):∃x∈a₀.toList,(arrOf st)[i]?=some x:=by
 have h1:i<(arrOf st).size:=by rw[B.n];exact hi
 exact⟨(arrOf st)[i],(Array.perm_iff_toList_perm.mp B.perm).mem_iff.mp (by simp),getElem?_pos _ i h1⟩
theorem Qn(hc:NM prog w A s k a₀)(B:SB k a₀ st){Q:Option Bool->SortSt->Prop}(hi:i<a₀.size)(hj:j<a₀.size)(h:∀b,Q (some b) st):wpS (model prog w) A E s (ltAt' i j) Q st:=by obtain⟨x,mx,ex⟩:=B.get hi;obtain⟨y,my,ey⟩:=B.get hj;obtain⟨b,hb⟩:=hc x mx y my;rw[ltAt'_eq];refine qH (wpS_get ?_);show wpS _ _ _ _ (do let p <-elem' (arrOf st) i;let q <-elem' (arrOf st) j;lt' p q) Q st;rw[elem'_eq,ex,elem'_eq,ey];refine qH (qI (qH (qI ?_)));rw[lt'_eq];refine qH (wpS_get ?_);rw[B.kd];exact qH (wpS_lift (wpAny_attempt (hb _ _ ⟨rfl,qI (h b)⟩)))
theorem U4(hc:NM prog w A s k a₀)(B:SB k a₀ st){a n:Nat}{Q:AscSt->SortSt->Prop}(hn:n<=a₀.size)(a1:1<=a)(an:a<=n)(h:∀m,a<=m->m<=n->Q (none,m) st):wpS (model prog w) A E s (ascLoop a n) Q st:=by
 unfold ascLoop;refine qJ (I:=λx c t=>t=st/\c=(none,x)) ?_ ?_ ⟨rfl,rfl⟩
 ·rintro x c t ax xn ⟨rfl,rfl⟩;refine qH (Qn hc B (by dsimp only;lia) (by dsimp only;lia) λb=>?_);cases b
  ·exact qI ⟨rfl,rfl⟩
  ·exact qI (h x ax (by lia))
 ·rintro c t ⟨rfl,rfl⟩;rw[show max a n=n by lia];exact h n an (bD _)
theorem Sn(hc:NM prog w A s k a₀)(B:SB k a₀ st){m n:Nat}{Q:Option Nat->SortSt->Prop}(hn:n<=a₀.size)(m1:1<=m)(mn:m<=n)(h:∀r t,SB k a₀ t->1<=r->r<=n->Q (some r) t):wpS (model prog w) A E s (tail3 m n) Q st:=by unfold tail3;have B2:=B.put (mirror_perm (arrOf st) 0 m ((m-0)/2));exact qH (wpS_reverse (qH (U4 hc B2 hn m1 mn λr h1 h2=>qI (h r _ B2 (by lia) h2))))
theorem V3(hc:NM prog w A s k a₀)(B:SB k a₀ st){m n:Nat}{Q:DescSt->SortSt->Prop}(hn:n<=a₀.size)(m1:1<=m)(mn:m<=n)(h:∀r e t,SB k a₀ t->1<=r->r<=n->Q (none,r,e) t):wpS (model prog w) A E s (descLoop m n) Q st:=by
 unfold descLoop;refine qJ (I:=λx c t=>SB k a₀ t/\∃e,c=(none,x,e)) ?_ ?_ ⟨B,0,rfl⟩
 ·rintro x c t mx xn ⟨Bt,e,rfl⟩;refine qH (Qn hc Bt (by dsimp only;lia) (by dsimp only;lia) λb=>?_);cases b
  ·refine qH (Qn hc Bt (by dsimp only;lia) (by dsimp only;lia) λb2=>?_);cases b2
   ·exact qI ⟨Bt,_,rfl⟩
   ·exact qI (h x e t Bt (by lia) (by lia))
  ·by_cases z:e>0
   ·show wpS _ _ _ _ (if e>0 then _ else _) _ t;rw[qD z];exact qH (wpS_reverse (qI ⟨Bt.put (mirror_perm ..),_,rfl⟩))
   ·show wpS _ _ _ _ (if e>0 then _ else _) _ t;rw[qC z];exact qI ⟨Bt,_,rfl⟩
 ·rintro c t ⟨Bt,e,rfl⟩;rw[show max m n=n by lia];exact h n e t Bt (by lia) (bD _)
theorem Pj(hc:NM prog w A s k a₀)(B:SB k a₀ st){m n:Nat}{Q:Option Nat->SortSt->Prop}(hn:n<=a₀.size)(mn:m+1<=n)(h:∀r t,SB k a₀ t->1<=r->r<=n->Q (some r) t):wpS (model prog w) A E s (descPart m n) Q st:=by
 unfold descPart;refine qH (wpS_lift (wpAny_rule ⟨rfl,qH (V3 hc B hn (Nat.le_add_left 1 m) mn λr e t Bt r1 rn=>?_)⟩))
 by_cases z:e>0
 ·show wpS _ _ _ _ (if e>0 then _ else _) _ t;rw[qD z];exact qH (wpS_reverse (Sn hc (Bt.put (mirror_perm ..)) hn r1 rn h))
 ·show wpS _ _ _ _ (if e>0 then _ else _) _ t;rw[qC z];exact Sn hc Bt hn r1 rn h
theorem UQ(hc:NM prog w A s k a₀)(B:SB k a₀ st){n:Nat}{Q:Option Nat->SortSt->Prop}(hn:n<=a₀.size)(n1:1<=n)(h:∀r t,SB k a₀ t->1<=r->r<=n->Q (some r) t):wpS (model prog w) A E s (countRun' 0 n) Q st:=by
 rw[countRun0_eq];refine qH (U4 hc B hn (bD 1) n1 λm m1 mn=>?_);show wpS _ _ _ _ (if (m==n)=true then _ else _) _ st
 by_cases e:m=n
 ·rw[qD (by rw[e];exact beq_self_eq_true n)];exact qI (h m st B m1 mn)
 rw[qC (by rw[beq_iff_eq];exact e)]
 by_cases g:m>1
 ·show wpS _ _ _ _ (if m>1 then _ else _) _ st;rw[qD g];refine qH (Qn hc B (by lia) (by dsimp only;lia) λb=>?_);cases b
  ·exact qH (wpS_reverse (Pj hc (B.put (mirror_perm ..)) hn (by lia) h))
  ·exact qI (h m st B m1 mn)
 ·show wpS _ _ _ _ (if m>1 then _ else _) _ st;rw[qC g];exact Pj hc B hn (by lia) h
theorem YE(hc:NM prog w A s k a₀)(B:SB k a₀ st){n m:Nat}{Q:Bool->SortSt->Prop}(hn:n<=a₀.size)(h:∀t,SB k a₀ t->Q true t):wpS (model prog w) A E s (binarySort' 0 n m) Q st:=by
 rw[binarySort'_eq];simp only[Nat.zero_add];refine qH (wpS_mono (qJ (I:=λ_ c t=>c=(none,())/\SB k a₀ t) (Q:=λc t=>c=(none,())/\SB k a₀ t) ?_ (λ_ _ z=>z) ⟨rfl,B⟩) ?_)
 ·rintro x c t mx xn ⟨rfl,Bt⟩;refine qH (wpS_mono (qJ (I:=λ_ c u=>u=t/\∃l r,c=(none,l,r)/\r<=x) (Q:=λc u=>u=t/\∃l r,c=(none,l,r)) ?_ ?_ ⟨rfl,0,x,rfl,bD _⟩) ?_)
  ·rintro y c u _ yx ⟨rfl,l,r,rfl,rx⟩;dsimp only
   by_cases z:l≥r
   ·rw[qD z];exact qI ⟨rfl,l,r,rfl⟩
   ·rw[qC z];refine qH (Qn hc Bt (by lia) (by lia) λb=>?_);cases b
    ·exact qI ⟨rfl,_,_,rfl,rx⟩
    ·exact qI ⟨rfl,_,_,rfl,by lia⟩
  ·rintro c u ⟨rfl,l,r,rfl,_⟩;exact⟨rfl,l,r,rfl⟩
  ·rintro c u ⟨rfl,l,r,rfl⟩;show wpS _ _ _ _ (do moveDown' x l;pure (ForInStep.yield (none,()))) _ u;rw[moveDown'_eq];exact qH (wpS_modify (qI ⟨rfl,Bt.put (bubble_perm ..)⟩))
 ·rintro c t ⟨rfl,Bt⟩;exact qI (h t Bt)
theorem V4(hc:NM prog w A s k a₀)(B:SB k a₀ st){Q:Unit->SortSt->Prop}(n2:2<=a₀.size)(n64:a₀.size<64)(h:∀t,(arrOf t).Perm a₀->failedOf t=none->Q () t):wpS (model prog w) A E s sortRuns' Q st:=by
 rw[sortRuns'_eq];refine qH (wpS_get ?_);dsimp only
 have mr:minRun' a₀.size a₀.size 0=a₀.size:=by
  obtain⟨f,hf⟩:∃f,a₀.size=f+1:=⟨a₀.size-1,by lia⟩;have z:minRun' (f+1) a₀.size 0=a₀.size:=by rw[minRun'_succ,qD n64];rfl
  rwa [<-hf]at z
 simp only[B.n,mr]
 refine qH (wpS_mono (qJ (I:=λx c t=>(x=0/\c=(none,0)/\SB k a₀ t)\/(1<=x/\c=(none,a₀.size)/\(arrOf t).Perm a₀/\failedOf t=none/\(pendingOf t).size=1))
  (Q:=λc t=>c=(none,a₀.size)/\(arrOf t).Perm a₀/\failedOf t=none/\(pendingOf t).size=1) ?_ ?_ (.inl ⟨rfl,rfl,B⟩)) ?_)
 ·have last:∀{t:SortSt},SB k a₀ t->((arrOf (setPending t ((pendingOf t).push (0,a₀.size,0)))).Perm a₀/\failedOf (setPending t ((pendingOf t).push (0,a₀.size,0)))=none/\(pendingOf (setPending t ((pendingOf t).push (0,a₀.size,0)))).size=1):=λ{t} Bt =>
   ⟨Bt.perm,Bt.fl,by show ((pendingOf t).push _).size=1;rw[Bt.pd];rfl⟩
  rintro x c t _ xn (⟨rfl,rfl,Bt⟩|⟨x1,rfl,d⟩)
  ·dsimp only;rw[qC (by lia)];simp only[Nat.sub_zero,Nat.min_self,Nat.zero_add];refine qH (UQ hc Bt (bD _) (by lia) λr t2 B2 r1 rn=>?_);have nb:∀{t:SortSt},SB k a₀ t->(pendingOf t).back?=none:=λ{t} Bt=>by rw[Bt.pd];rfl
   dsimp only
   by_cases lt:r<a₀.size
   ·rw[qD lt];refine qH (wpS_lift (wpAny_rule ⟨rfl,qH (YE hc B2 (bD _) λt3 B3=>?_)⟩));simp only[Bool.not_true,Bool.false_eq_true,if_false];refine qH (wpS_get ?_);rw[nb B3];exact qH (wpS_modify (qI (.inr ⟨by lia,rfl,last B3⟩)))
   ·rw[qC lt];obtain rfl:r=a₀.size:=by lia
    refine qH (wpS_get ?_);rw[nb B2];exact qH (wpS_modify (qI (.inr ⟨by lia,rfl,last B2⟩)))
  ·dsimp only;rw[qD (bD _)];exact qI ⟨rfl,d⟩
 ·rintro c t (⟨x0,_,_⟩|⟨_,hc,d⟩)
  ·lia
  ·exact⟨hc,d⟩
 ·rintro c t ⟨rfl,d1,d2,d3⟩;dsimp only;refine qH (wpS_mono (qJ (I:=λ_ c u=>u=t/\c=(none,())) (Q:=λc u=>u=t/\c=(none,())) ?_ (λ_ _ z=>z) ⟨rfl,rfl⟩) ?_)
  ·rintro x c u _ _ ⟨rfl,rfl⟩;refine qH (wpS_get ?_);rw[qD (by rw[d3];exact bD 1)];exact qI ⟨rfl,rfl⟩
  ·rintro c u ⟨rfl,rfl⟩;exact qI (h _ d1 d2)
end
theorem Of(b:Bool)(x y:qO):keyLt' (tuples' b) x y=(do
  let xs <-Builtin.List.listItems x
  let ys <-Builtin.List.listItems y
  for ((p,q),i) in (xs.toList.zip ys.toList).zipIdx do
   if !(<-eqBool p q) then return <-oneLt' (b&&i==0) p q
  return decide (xs.size<ys.size)):=rfl
section
variable{prog:qR}{w:qS}{A:Around}
theorem Og(o:Bool){a b:Int}{t u:Tok}{Q:Bool->qQ->Prop}(h:Q (decide (a<b)) s):wpAny (model prog w) A (oneLt' o (.int a t) (.int b u)) Q E s:=by
 cases o with
 |true=>exact oneLt_int h
 |false =>
  rw[oneLt'_eq];simp only[Bool.false_eq_true,if_false];refine qA ((lt_int ?_:wpAny (model prog w) A (compareOp .Lt (.int a t) (.int b u)) _ E s));exact wpAny_truthy_bool h
theorem Qo(b:Bool){x y:qP}{ws:List qO}{ns ms:qU}(hx:IsTup s.heap x vs.toArray)(hy:IsTup s.heap y ws.toArray)(iv:IntsAre vs ns)(iw:IntsAre ws ms){Q:Bool->qQ->Prop}(h:Q (HT.Ds ns ms) s):
  wpAny (model prog w) A (keyLt' (tuples' b) (.ref x) (.ref y)) Q E s:=by
 refine byG λGq hGq=>?_;obtain⟨ox,gx,_,nx,dx⟩:=hx;refine hGq ?_;clear hGq Gq;refine byG λGq hGq=>?_;obtain⟨oy,gy,_,ny,dy⟩:=hy;refine hGq ?_;clear hGq Gq;rw[Of];refine qA (listItems_at gx dx (qA (listItems_at gy dy ?_)));have l1:vs.length=ns.length:=iv.length;have l2:ws.length=ms.length:=iw.length
 refine qA (qK (wpAny_forIn_list _ (λrest c s'=>c=(none,())/\s'=s/\∃(k:Nat) (vs' ws':List qO) (ns' ms':qU),rest=(vs'.zip ws').zipIdx k/\IntsAre vs' ns'/\IntsAre ws' ms'/\ns'.length+ms.length=ms'.length+ns.length/\HT.Ds ns' ms'=HT.Ds ns ms)
  (λc s'=>s'=s/\(c=(some (HT.Ds ns ms),())\/(c=(none,())/\decide (ns.length<ms.length)=HT.Ds ns ms))) ?_ ?_ _ _ ⟨rfl,rfl,0,vs,ws,ns,ms,by simp,iv,iw,Nat.add_comm ..,rfl⟩) ?_ λ_ _ e=>e)
 ·rintro⟨⟨p,q⟩,i⟩ rest c s' ⟨rfl,rfl,j,vs',ws',ns',ms',hz,hv,hw,hl,he⟩;cases hv with
  |nil=>simp at hz
  |cons a t hv' =>
   cases hw with
   |nil=>simp at hz
   |cons c u hw' =>
    rw[List.zip_cons_cons,List.zipIdx_cons]at hz
    injection hz with h1 h2
    injection h1 with h1 h3
    injection h1 with h4 h5
    subst h4 h5;rw[HT.Nn]at he;refine qA (wpAny_eqBool_int ?_)
    by_cases e:a=c
    ·rw[qD e]at he;rw[show (a==c)=true by simp[e]];refine qB ⟨rfl,rfl,_,_,_,_,_,h2,hv',hw',?_,he⟩;simp only[List.length_cons]at hl;lia
    ·rw[qC e]at he;rw[show (a==c)=false by simp[e]];refine qA (Og _ (qB ⟨rfl,.inl ?_⟩));rw[he]
 ·intro c s' hRq;refine byG λGq hGq=>?_;obtain⟨rfl,rfl,j,vs',ws',ns',ms',hz,hv,hw,hl,he⟩:=hRq;refine hGq ?_;clear hGq Gq;refine⟨rfl,.inr ⟨rfl,?_⟩⟩;rw[<-he];cases hv with
  |nil =>
   cases hw with
   |nil =>
    simp only[List.length_nil]at hl;rw[HT.KM,qG (by lia)]
   |cons c u hw' =>
    simp only[List.length_nil,List.length_cons]at hl;rw[HT.Io,qF (by lia)]
  |cons a t hv' =>
   cases hw with
   |nil =>
    simp only[List.length_nil,List.length_cons]at hl;rw[HT.Ip,qG (by lia)]
   |cons c u hw'=>simp at hz
 ·rintro c s' ⟨rfl,z|⟨z,y⟩⟩
  ·subst z;exact qB h
  ·subst z;refine qB ?_;rw[show decide (vs.toArray.size<ws.toArray.size)=HT.Ds ns ms by rw[<-y,bn,bn,l1,l2]];exact h
theorem Hd(v:qO):firstOfTuple' v=(do
  if (<-typeOf v) != .type "tuple" then return none
  return (<-Builtin.List.listItems v)[0]?):=rfl
def IB(h:Heap)(v:qO):Prop:=∃(t:qP) (vs:List qO) (ns:qU),v=.ref t/\IsTup h t vs.toArray/\IntsAre vs ns/\ns≠[]
theorem Qp{v:qO}(h:IB s.heap v){Q:Option qO->qQ->Prop}(q:∀n t,Q (some (.int n t)) s):wpAny (model prog w) A (firstOfTuple' v) Q E s:=by
 refine byG λGq hGq=>?_;obtain⟨t,vs,ns,rfl,⟨o,g,c,m,d⟩,i,ne⟩:=h;refine hGq ?_;clear hGq Gq;rw[Hd];refine qA (wpAny_typeOf (T:="tuple") ⟨o,g,c⟩ ?_);rw[qC (by simp)];refine qA (listItems_at g d (qB ?_));cases i with
 |nil=>exact qE rfl ne
 |cons n t i=>exact q n t
theorem J6{f:α->Sem β}{R:β->Prop}{Q:List β->qQ->Prop}:∀(l:List α),(∀x∈l,∀Q':β->qQ->Prop,(∀y,R y->Q' y s)->wpAny (model prog w) A (f x) Q' E s)->(∀ys,ys.length=l.length->(∀y∈ys,R y)->Q ys s)->wpAny (model prog w) A (l.mapM f) Q E s
 |[],_,q=>by rw[List.mapM_nil];exact qB (q [] rfl λ_ z=>qE z cM)
 |x::l,h,q=>by
  rw[List.mapM_cons];refine qA (h x bf _ λy hy=>qA (J6 l (λz hz=>h z (be _ hz)) λys hl hys=>qB (q (y::ys) (by rw[cK,cK,hl]) λz hz=>?_)));rcases bi.mp hz with e|e
  ·rw[e];exact hy
  ·exact hys z e
theorem So{v₁ v₂:qO}(h:∀v∈v₁::v₂::vs,IB s.heap v){Q:SortKind->qQ->Prop}(q:∀b,Q (tuples' b) s):wpAny (model prog w) A (keyKind' (v₁::v₂::vs).toArray) Q E s:=by
 rw[keyKind'_eq,List.mapM_toArray];refine qA (wpAny_map ?_);refine J6 (R:=λy=>∃n t,y=some (.int n t)) (v₁::v₂::vs) (λv hv Q' q'=>Qp (h v hv) λn t=>q' _ ⟨n,t,rfl⟩) λys hl hys=>?_
 have al:(ys.toArray.all λx=>x.isSome)=true:=by rw[List.all_toArray,fZ];intro y hy;obtain⟨n,t,e⟩:=hys y hy;rw[e];rfl
 rw[qD al];refine qA (wpAny_rule (qA ?_));rw[oneTypeOnly'_eq,List.filterMap_toArray,List.mapM_toArray];refine qA (wpAny_map (J6 (R:=λ_=>True) _ (λv hv Q' q'=>?_) λts _ _=>?_))
 ·obtain⟨y,hy,e⟩:=d6.mp hv;obtain⟨n,t,e2⟩:=hys y hy;rw[e2]at e;have e:v=.int n t:=(Option.some.inj e).symm;rw[e];exact wpAny_typeOf (typeIs_int s n t) (q' _ True.intro)
 ·split
  ·exact qB (qB (q _))
  ·exact qB (qB (q _))
theorem IB.at{h h':Heap}{v:qO}(x:IB h v)(k:∀t o,h.get? t=some o->o.cls=.type "tuple"->h'.get? t=some o):IB h' v:=by obtain⟨t,vs,ns,e,⟨o,g,c,d⟩,i,ne⟩:=x;exact⟨t,vs,ns,e,⟨o,k t o g c,c,d⟩,i,ne⟩
theorem Oh{n:Nat}{P:Fin->qQ->Prop}(ho:s.heap.get? a=some (seqObj "list" vs.toArray n))(hT:∀v∈vs,IB s.heap v)(h64:vs.length<64)
  (h:∀out:Array qO,out.toList.Perm vs->P (.done (.ret .none)) {s with heap:=sortedHeap s.heap a vs out}):wpAny (model prog w) A (Builtin.«list.sort» ⟨[.ref a],[]⟩) P E s:=by
 rw[list_sort_plain];have lt:=bM ho;obtain⟨e1,ho1⟩:∃e1,(s.heap.update a (Obj.mapSeq λ_=>#[])).get? a=some (seqObj "list" #[] e1):=⟨_,get?_update_seq ho (λ_=>#[])⟩;refine qA (listItems_at ho rfl (qA (listUpdate_at ho rfl (qA (seqEpoch_at ho1 rfl (qA (wpAny_newTuple (qA (wpAny_newList (qM ?_))))))))))
 have up:∀t o,t≠a->s.heap.get? t=some o->(((s.heap.update a (Obj.mapSeq λ_=>#[])).push (seqObj "tuple" vs.toArray 0)).push (seqObj "list" #[] 0)).get? t=some o:=λt o ne g =>
  bG _ (bG _ (by rw[fE _ _ _ _ ne];exact g))
 have hl:(((s.heap.update a (Obj.mapSeq λ_=>#[])).push (seqObj "tuple" vs.toArray 0)).push (seqObj "list" #[] 0)).get? a=some (seqObj "list" #[] e1):=bG _ (bG _ ho1);show wpAny (model prog w) A _ P E {s with heap:=((s.heap.update a (Obj.mapSeq λ_=>#[])).push (seqObj "tuple" vs.toArray 0)).push (seqObj "list" #[] 0)};dsimp only;have sz:vs.toArray.size=vs.length:=by simp
 have line:vs.length<=sizeLine+1:=by rw[sizeLine_eq];lia
 have hT6:∀v∈vs,IB (((s.heap.update a (Obj.mapSeq λ_=>#[])).push (seqObj "tuple" vs.toArray 0)).push (seqObj "list" #[] 0)) v:=λv hv=>(hT v hv).at λt o g c=>up t o (λz=>by rw[z,ho]at g;cases g;exact qE (Value.type.inj c) (by decide)) g
 by_cases h2:vs.toArray.size<2
 ·rw[qD h2,qD h2];refine qA (qB ?_);rw[StateT.run_pure];refine qA (qB (qA (seqEpoch_at hl rfl (qA (listUpdate_at hl rfl ?_ (hsz2:=by rw[Array.size_map];show (pairsOf vs).size<=_;rw[pairsOf_size];exact line))))));simp only[bne_self_eq_false,Bool.false_eq_true,if_false];exact qB (h _ (by simp[List.map_snd_zip]))
 ·rw[qC h2,qC h2]
  obtain⟨v₁,v₂,rest,rfl⟩:∃v₁ v₂ rest,vs=v₁::v₂::rest:=by
   match vs,sz,h2 with
   |[],_,h2=>simp at h2
   |[_],_,h2=>simp at h2
   |v₁::v₂::rest,_,_=>exact⟨v₁,v₂,rest,rfl⟩
  refine qA (So hT6 λb=>?_);refine qA (qK (V4 (k:=tuples' b) (a₀:=pairsOf (v₁::v₂::rest)) (Q:=λ_ t=>(arrOf t).Perm (pairsOf (v₁::v₂::rest))/\failedOf t=none) ?_ ⟨Array.Perm.refl _,rfl,rfl,rfl⟩ (by rw[pairsOf_size];simp) (by rw[pairsOf_size];exact h64) λt h1 h2=>⟨h1,h2⟩) ?_ λ_ _ e=>e)
  ·intro x hx y hy;rw[pairsOf_toList]at hx hy;refine byG λGq hGq=>?_;obtain⟨tx,vx,nx,ex,gx,ix,_⟩:=hT6 _ (mem_zip_self hx).2;refine hGq ?_;clear hGq Gq;refine byG λGq hGq=>?_;obtain⟨ty,vy,ny,ey,gy,iy,_⟩:=hT6 _ (mem_zip_self hy).2;refine hGq ?_;clear hGq Gq;refine⟨HT.Ds nx ny,λE Q q=>?_⟩;rw[ex,ey];exact Qo b gx gy ix iy q
  ·rintro⟨⟨⟩,t⟩ s' ⟨rfl,hp,hf⟩;have pl:((arrOf t).map (·.2)).toList.Perm (v₁::v₂::rest):=by have z:=(Array.perm_iff_toList_perm.mp hp).map (·.2);rw[pairsOf_toList,List.map_snd_zip (bD _)]at z;rw[Array.toList_map];exact z
   have ln:((arrOf t).map (·.2)).size<=sizeLine+1:=by have z:=pl.length_eq;rw[Array.length_toList]at z;rw[z];exact line
   dsimp only;refine qA (seqEpoch_at hl rfl (qA (listUpdate_at hl rfl ?_ (hsz2:=ln))));rw[hf];simp only[bne_self_eq_false,Bool.false_eq_true,if_false];exact qB (h _ pl)
theorem Sq{l:qP}(hl:s.heap.IsList l vs.toArray)(hT:∀v∈vs,IB s.heap v)(h64:vs.length<64)
  (h:∀out:Array qO,out.toList.Perm vs->Q (.ref (s.heap.objs.size+1)) {s with heap:=sortedAll s.heap vs out}):wpAny (model prog w) A (call (.builtin "sorted") [.ref l]) Q E s:=by
 refine Calls.call_function_entry kind_sorted plain_sorted entry_sorted (args_sorted1 _) ?_;unfold Builtin.«sorted»;refine qA (m:=checkCount "sorted" 1 1 _) (qB (qA (collect_list hl (qA (wpAny_newList ?_)))));have sz:((s.heap.push (seqObj "list" #[] 0)).update s.heap.objs.size (Obj.mapSeq (·++vs.toArray))).objs.size=s.heap.objs.size+1:=by rw[Heap.size_update,size_push']
 have gL:(((s.heap.push (seqObj "list" #[] 0)).update s.heap.objs.size (Obj.mapSeq (·++vs.toArray))).push (seqObj "list" vs.toArray 0)).get? (s.heap.objs.size+1)=some (seqObj "list" vs.toArray 0):=by rw[<-sz];exact bV _ rfl
 show wpAny _ _ _ _ _ {s with heap:=((s.heap.push (seqObj "list" #[] 0)).update s.heap.objs.size (Obj.mapSeq (·++vs.toArray))).push (seqObj "list" vs.toArray 0)};rw[sz];refine qA (qM (wpAny_call_entry slot_list_sort ⟨_,gL,rfl⟩ entry_list_sort (Oh gL (λv hv=>(hT v hv).at λt o g _=>?_) h64 λout p=>⟨_,rfl,qB ⟨_,rfl,h out p⟩⟩) (args_list_sort _)));exact bG _ (by rw[fE _ _ _ _ (bp (bM g))];exact bG _ g)
end
theorem Qq{ws:List qO}(p:us.Perm ws):∀{xs:List V},Av xs ws->∃zs,zs.Perm xs/\Av zs us:=by
 induction p with
 |nil=>intro xs h;exact⟨xs,.refl _,h⟩
 |cons a _ ih =>
  intro xs h;cases h with
  |cons r h =>
   obtain⟨zs,p1,v1⟩:=ih h;exact⟨_::zs,p1.cons _,.cons r v1⟩
 |swap a b l =>
  intro xs h;cases h with
  |cons r h =>
   cases h with
   |cons r2 h=>exact⟨_,.swap ..,.cons r2 (.cons r h)⟩
 |trans _ _ ih1 ih2 =>
  intro xs h;obtain⟨zs,p2,v2⟩:=ih2 h;obtain⟨ys,p1,v1⟩:=ih1 v2;exact⟨ys,p1.trans p2,v1⟩
theorem L8:∀{ns:qU} {us:List qO},Av (ns.map V.int) us->IntsAre us ns:=by
 intro ns
 induction ns with
 |nil=>intro us h;cases h;exact .nil
 |cons n ns ih =>
  intro us h;cases h with
  |cons a b=>obtain⟨t,e⟩:=a;subst e;exact .cons n t (ih b)
theorem Oi:CJ X (.builtin "sorted") (λxs H Q=>∃(a:qP) (ys:List V),xs=[.ref a]/\Ai X.K H a ys/\ys.length<64/\(∀y∈ys,∃t ns,y=.ref t/\Am X.K H t (ns.map V.int)/\ns≠[])/\∀D zs,H D=none->zs.Perm ys->Q (.ref D) (Ak H D (.lst zs))):=by
 intro ad s σ H xs us Q I r h;refine byG λGq hGq=>?_;obtain⟨a,ys,rfl,ha,l64,ht,q⟩:=h;refine hGq ?_;clear hGq Gq;obtain⟨u,rfl,ru⟩:=Dr r;cases ru;refine byG λGq hGq=>?_;obtain⟨its,rv,pl,hz⟩:=I.list ha;refine hGq ?_;clear hGq Gq;have ln:=rv.length;refine Sq (vs:=its) pl.isList (λv hv=>?_) (by lia) λout p=>?_
 ·obtain⟨i,hi⟩:=bY.mp hv;have il:=(bB.mp hi).1;obtain⟨w',hw,rw'⟩:=rv.get (i:=i) (x:=ys[i]) (by simp[show i<ys.length by lia]);rw[hi]at hw;cases hw;refine byG λGq hGq=>?_;obtain⟨t,ns,e,st,ne⟩:=ht ys[i] (b7 _);refine hGq ?_;clear hGq Gq;rw[e]at rw';refine byG λGq hGq=>?_;obtain⟨tv,rt,pt,_⟩:=I.tuple st;refine hGq ?_;clear hGq Gq;exact⟨t,tv,ns,rw',pt,L8 rt,ne⟩
 ·obtain⟨zs,pz,vz⟩:=Qq p rv;obtain⟨e,he⟩:=sortedAll_at s.heap its out;refine⟨.ref (s.heap.objs.size+1),_,I.laid (a:=s.heap.objs.size+1) (o:=.lst zs) (t':=s.toks) (λb o g=>sortedAll_old g) (dS _) ⟨by rw[pz.length_eq];exact hz,out.toList,e,vz,by rw[Array.toArray_toList];exact he⟩,rfl,q _ _ (I.hok.fresh (dS _)) pz⟩
theorem NO{K:qT}(h:X.K=K):CJ X (.builtin "sorted") (λxs H Q=>∃(a:qP) (ys:List V),xs=[.ref a]/\Ai K H a ys/\ys.length<64/\(∀y∈ys,∃t ns,y=.ref t/\Am K H t (ns.map V.int)/\ns≠[])/\∀D zs,H D=none->zs.Perm ys->Q (.ref D) (Ak H D (.lst zs))):=h▸Oi
end L2
namespace L2
open PySem PySem.Spec PyProof.Rows RW
variable{G i k m' mf:Nat}{H:Hp}{Rs rings:List (qU)}{S:qV->qV->Prop}{a:qP}{c g7 tab' tf y:qU}{g lf lo lo':Int}{p q:qV}{ps:List qP}{α:Type}
theorem Qr(hg:2<=g){m:Nat}(hl:(g7.length:Int)=g^m)(m1:1<=m):g7.length=g7.length/g.toNat*g.toNat:=by
 have z:g7.length%g.toNat=0:=by
  have e:g^m=g^(m-1)*g:=by rw[<-bq];congr 1;lia
  have:((g7.length%g.toNat:Nat):Int)=0:=by rw[cW,hl,e,bN (by lia)];exact Int.mul_emod_left ..
  lia
 have:=Nat.div_add_mod g7.length g.toNat;rw[z,Nat.add_zero,fG]at this;exact this.symm
structure TB(h:Nat)(S:qV->qV->Prop)(M:List (qV))(f:qV->Nat):Prop where
 nd:M.Nodup
 sub:∀p∈M,p∈BV h
 low:∀p∈M,∀q,S q p->q∈M/\f q<f p
 top:∀p∈M,f p=0\/∃q,S q p/\q∈M/\f p=f q+1
 rest:∀p∈BV h,p∉M->∃q,S q p/\q∈BV h/\q∉M
 few:∀p∈M,f p<=100
theorem FG{h:Nat}(h9:h<=9):(BV h).length<=100:=by have a:=FE h h;have b:=dA h9 h9;unfold BV;rw[cK];lia
theorem Pi.rk{h:Nat}(h9:h<=9){A:List (qV)}{B:qV->List (qV)}{M:List (qV)}{f:qV->Nat}(hA:∀p,p∈A↔p∈BV h)(nA:A.Nodup)(hB:∀p∈BV h,∀q,q∈B p↔S q p)(hS:∀p q,S q p->q∈BV h)(m:Pi A B M f):TB h S M f where
 nd:=m.nd
 sub:=λp hp=>(hA p).mp (m.sub p hp)
 low:=λp hp q hq=>m.low p hp q ((hB p ((hA p).mp (m.sub p hp)) q).mpr hq)
 top:=λp hp=>(m.top p hp).imp id λ⟨q,h1,h2,h3⟩=>⟨q,(hB p ((hA p).mp (m.sub p hp)) q).mp h1,h2,h3⟩
 rest:=λp hp np=>by obtain⟨q,h1,h2⟩:=m.rest p ((hA p).mpr hp) np;have z:=(hB p hp q).mp h1;exact⟨q,z,hS p q z,h2⟩
 few:=λp hp=>by
  have a:=m.few p hp;have b:=nA.length_le_of_subset λq hq=>(hA q).mp hq
  have:=FG h9;lia
theorem TB.all{h:Nat}{M:List (qV)}{f:qV->Nat}(m:TB h S M f){rk:qV->Nat}(hr:∀p q,S p q->rk p<rk q):∀p∈BV h,p∈M:=by
 suffices ∀(n:Nat) (p:qV),p∈BV h->rk p<=n->p∈M from λp hp=>this _ p hp (bD _)
 intro n
 induction n with
 |zero =>
  intro p hp hn
  by_cases z:p∈M
  ·exact z
  ·obtain⟨q,hq,_⟩:=m.rest p hp z;have:=hr q p hq;lia
 |succ n ih =>
  intro p hp hn
  by_cases z:p∈M
  ·exact z
  ·obtain⟨q,hq,qa,nq⟩:=m.rest p hp z;have:=hr q p hq;exact qE (ih q qa (by lia)) nq
theorem Ii{h:Nat}(hl:g7.length=h*G):q∈IJ G h (Ei g7) p↔Nd G h g7 p q:=by
 unfold IJ Nd;rw[bR];constructor
 ·intro hRq;refine byG λGq hGq=>?_;obtain⟨⟨a,b⟩,hx,rfl⟩:=hRq;refine hGq ?_;clear hGq Gq;obtain⟨h1,h2⟩:=bv.mp hx;refine byG λGq hGq=>?_;obtain⟨ha,hb,ne,e⟩:=J3.mp h1;refine hGq ?_;clear hGq Gq;exact⟨a,b,by lia,by lia,ne,e,(qL h2).symm,rfl⟩
 ·intro hRq;refine byG λGq hGq=>?_;obtain⟨a,b,ha,hb,ne,e,h1,h2⟩:=hRq;refine hGq ?_;clear hGq Gq;exact⟨(a,b),bv.mpr ⟨J3.mpr ⟨by lia,by lia,ne,e⟩,qF h1.symm⟩,h2.symm⟩
theorem Dh{h:Nat}(h0:0<h)(s:Nd G h g7 p q):p∈BV h/\q∈BV h:=by
 refine byG λGq hGq=>?_;obtain⟨a,b,ha,hb,ne,e,h1,h2⟩:=s;refine hGq ?_;clear hGq Gq;have c:∀{x:Nat},x<h*G->x/G<h:=λ{x} hx=>de (by rw[fG];exact hx)
 rw[h1,h2];exact⟨Lz (c ha) (c hb),Lz (dG _ h0) (dG _ h0)⟩
theorem TB.way{h:Nat}{M:List (qV)}{f:qV->Nat}(m:TB h S M f){q:Nat->qV}(hk:q k∈M)(hq:∀i,i<k->S (q i) (q (i+1))):k<=f (q k):=by
 induction k with
 |zero=>exact cJ _
 |succ k ih =>
  obtain⟨h1,h2⟩:=m.low _ hk _ (hq k (cq k));have:=ih h1 λi hi=>hq i (by lia)
  lia
theorem J7[DecidableEq α]{M A:List α}(nM:M.Nodup)(sub:∀p∈M,p∈A)(le:A.length<=M.length):∀p∈A,p∈M:=λp hp=>by
 by_cases z:p∈M
 ·exact z
 ·have:=(dL.mpr ⟨z,nM⟩).length_le_of_subset (l₂:=A) λx hx=>(bi.mp hx).elim (λe=>by rw[e];exact hp) (sub x)
  rw[cK]at this;lia
theorem He{M:List (qV)}{f:qV->Nat}(nd:M.Nodup)(hp:p∈M):Cf (Ar M (M.map λp=>V.int (f p:Int))) (BZ p)=some (.int (f p:Int)):=by obtain⟨i,hi⟩:=bY.mp hp;exact CI nd hi (by rw[bF,hi];rfl)
theorem Sr{M:List (qV)}{f:qV->Nat}{k:List Cc}{v:V}(h:(Ar M (M.map λp=>V.int (f p:Int)))[i]?=some (k,v)):∃a,M[i]?=some a/\k=BZ a/\v=.int (f a:Int):=by
 unfold Ar at h;rw[List.getElem?_zipWith,bF]at h;cases ha:M[i]? with
 |none=>rw[ha]at h;simp at h
 |some a =>
  rw[ha]at h;simp at h;exact⟨a,rfl,h.1.symm,h.2.symm⟩
theorem Ss{K:qT}{ns:qU}(h:Am K H a (ns.map V.int)):Eu K H (.ref a) (.tuple (ns.map PyData.int)):=.tup h (JB ns)
inductive J8(P:qR)(w:qS)(K:qT)(vs:List V)(H:Hp)(Q:VK)(z3_:XK):Prop
 |m (r:qP) (g lo:Int) (g7:qU) (m:Nat):vs=[.ref r]->AY H r g lo g7 m->g^(m-1)<=9->(∀d H' M f,AH H H'->H d=none->DW P w K H' d (Ar M (M.map λp=>V.int (f p:Int)))->TB (g7.length/g.toNat) (Nd g.toNat (g7.length/g.toNat) g7) M f->Q (.ref d) H')->J8 P w K vs H Q z3_
inductive J9(K:qT)(CT:qP)(vs:List V)(H:Hp)(Q:VK)(E:XK):Prop
 |m (r:qP) (g lo:Int) (g7:qU) (m:Nat) (lf:Int) (tf:qU) (mf:Nat):vs=[.ref r]->AY H r g lo g7 m->A9 g lo g7 m lf tf mf->g^(mf-1)<=7->(∀H',AH H H'->(∀rk,¬Lw g.toNat (tf.length/g.toNat) tf rk)->Q .non H')->(∀p D H' M f,AH H H'->H' p=some (.tup [.int (f (0,0):Nat),.ref D])->TB (tf.length/g.toNat) (Nd g.toNat (tf.length/g.toNat) tf) M f->(∀p∈BV (tf.length/g.toNat),p∈M)->Q (.ref p) H')->J9 K CT vs H Q E
theorem NP{fs:List Nat}(h:BA G Rs fs):∀j,j<=Rs.length->Cb Rs fs j≠0
 |0,_=>Nat.one_ne_zero
 |j+1,hj=>by have ih:=NP h j (by lia);have ft:=h.foot j (Rs.getD j []) (fs.getD j 0) (by rw[a8,bA (by lia)];rfl) (by rw[a8,bA (by rw[h.n];lia)];rfl);have:=ft.1;unfold Cb;exact Nat.mul_ne_zero ih (by lia)
theorem Eb{fs:List Nat}(h:BA G Rs fs){hd:Nat}(hl:hd<G):0<(Bl G Rs fs hd).getD hd 0:=by
 obtain⟨d,d0,e⟩:=FY (CM G Rs fs hd ((Cb Rs fs Rs.length:Nat):Int));have:=e hd;rw[EU Rs fs hl]at this;have D0:=NP h Rs.length (bD _);unfold Bl;rcases Int.lt_trichotomy ((CL (CM G Rs fs hd ((Cb Rs fs Rs.length:Nat):Int))).getD hd 0) 0 with y|y|y
 ·exfalso;have:=Int.mul_neg_of_pos_of_neg d0 y;lia
 ·rw[y,bj]at this;lia
 ·exact y
theorem FH{fs:List Nat}(h:BA G Rs fs){hd:Nat}(ne:i≠hd)(ni:¬i∈fs):(Bl G Rs fs hd).getD i 0=0:=by unfold Bl;rw[HS];exact EV h.n _ ne ni
theorem Qs{fs:List Nat}(h:BA G Rs fs){hd:Nat}(nf:¬hd∈fs)(hi:i<hd):(Bl G Rs fs hd).getD i 0=0:=by
 by_cases c:i∈fs
 ·obtain⟨j,hj⟩:=bY.mp c;have jl:=(bB.mp hj).1;rw[h.n]at jl;have e:fs.getD j 0=i:=by rw[a8,hj];rfl
  have ft:=h.foot j (Rs.getD j []) i (by rw[a8,bA jl];rfl) hj;have wf:=ET h ((Cb Rs fs Rs.length:Nat):Int) nf jl;unfold Bl;rw[HS,<-e,wf,e,ft.2 hd hi,Int.neg_zero,cT,Int.zero_ediv]
 ·exact FH h (by lia) c
theorem LC{fs:List Nat}(h:BA G Rs fs){hd:Nat}(hl:hd<G):CP (Bl G Rs fs hd)=1:=by
 have hp:=Eb h hl;have pz:PZ (Bl G Rs fs hd):=Ia _;rcases pz with p|z
 ·refine p _ λi=>?_
  by_cases c:i<(Bl G Rs fs hd).length
  ·rw[a8,bA c];exact (Gc _ 0).2 _ (b7 c)
  ·rw[a8,bh (by lia)];exact Nat.dvd_zero _
 ·rw[z hd]at hp;exact qE hp (by decide)
noncomputable def L9(ws:List (qU)):PyData:=.list (ws.map λw=>.list (w.map PyData.int))
theorem LF{K:qT}:∀(ps:List qP) (ws:List (qU)),ps.length=ws.length->(∀(i:Nat) (q:qP) (w:qU),ps[i]?=some q->ws[i]?=some w->H q=some (.lst (w.map V.int)))->Ev K H (ps.map V.ref) (ws.map λw=>.list (w.map PyData.int))
 |[],[],_,_=>.nil
 |[],w::ws,h,_=>by cases h
 |p::ps,[],h,_=>by cases h
 |p::ps,w::ws,h,e=>.cons (.lst (Ai.of (e 0 p w rfl rfl)) (JB w)) (LF ps ws (Nat.succ.inj h) λi q u h1 h2=>e (i+1) q u h1 h2)
theorem Gv.dat{K:qT}{p:qP}{ws:List (qU)}(h:Gv H p ps ws):Eu K H (.ref p) (L9 ws):=.lst (Ai.of h.l) (LF ps ws h.n h.e)
theorem LG:∀ws:List (qU),PyData.canLayAll0 (ws.map λw=>PyData.list (w.map PyData.int))=true
 |[]=>by simp only[List.map_nil,PyData.canLayAll0]
 |w::ws=>by simp only[List.map_cons,PyData.canLayAll0,PyData.canLay0,JC,LG ws,Bool.and_self]
theorem DD(ws:List (qU)):(L9 ws).canLay0=true:=by unfold L9;simp only[PyData.canLay0,LG]
theorem IC:∀ws:List (qU),PyData.depthAll (ws.map λw=>PyData.list (w.map PyData.int))<=1
 |[]=>by simp only[List.map_nil,PyData.depthAll,Nat.zero_le]
 |w::ws=>by have:=IC ws;simp only[List.map_cons,PyData.depthAll,PyData.depth,Fw];lia
theorem Ec(ws:List (qU)):(L9 ws).depth<=60:=by have:=IC ws;unfold L9;simp only[PyData.depth];lia
theorem KA(ws:List (qU)):PyData.eqv (L9 ws) (L9 ws)=true:=SeqAt.eqvAll_refl _ (DD ws)
theorem Hf(hg:2<=g){m:Nat}(hl:(g7.length:Int)=g^m)(hm:1<=m){row w:qU}(h:w∈Dm g g7 m row):BB g g7 m w=row/\(∀x∈w,0<=x/\x<g)/\w.length=row.length+m-1:=by rw[<-K2 hg hl hm]at h;obtain⟨n,_,rfl⟩:=bR.mp (show w∈(List.range (g^(row.length+m-1)).toNat).map λn:Nat=>Ad g (n:Int) (row.length+m-1) from (bv.mp h).1);exact⟨qL (bv.mp h).2,BQ hg _ _,Au ..⟩
noncomputable def U5(g:Int)(g7:qU)(m g8 gc n:Nat):Int:=((Dm g g7 m (Ad g (n:Int) gc)).getD 0 []).getD g8 0
noncomputable def Qy(g:Int)(g7:qU)(m g8 gc:Nat):qU:=(List.range (g^gc).toNat).map (U5 g g7 m g8 gc)
structure Go(g:Int)(g7:qU)(m g8 left:Nat):Prop where
 ex:∃rk:qV->Nat,Lw g.toNat (g7.length/g.toNat) g7 rk/\∃R,∀p,rk p<R
 e:∀(q:Nat->qV) (k:Nat),q k=(0,0)->(∀i,i<k->Nd g.toNat (g7.length/g.toNat) g7 (q i) (q (i+1)))->k<=g8
 l:∀(q:Nat->qV) (k:Nat),q 0=(0,0)->(∀i,i<k->Nd g.toNat (g7.length/g.toNat) g7 (q i) (q (i+1)))->k<=left
section
variable(hg:2<=g){m:Nat}(hl:(g7.length:Int)=g^m)(m2:2<=m)(hb:∀n∈g7,0<=n/\n<g){g8 left:Nat}(B:Go g g7 m g8 left)
include hg hl m2 hb B
theorem Go.sign{z:qU}(hy:∀n∈y,0<=n/\n<g)(hz:∀n∈z,0<=n/\n<g)(ly:y.length=g8+left+1)(lz:z.length=g8+left+1)(e:BB g g7 m y=BB g g7 m z):y.getD g8 0=z.getD g8 0:=by obtain⟨rk,hr,R,hR⟩:=B.ex;exact Qm hg hl m2 hb hr hR B.e B.l hy hz ly lz e
theorem Go.many:m<=g8+left+1:=by
 by_cases c:m<=g8+left+1
 ·exact c
 ·have z:∀x:Int,BB g g7 m (List.replicate (g8+left+1) x)=[]:=λx=>Mn (by rw[bP];lia)
  have b:∀x:Int,0<=x/\x<g->∀n∈List.replicate (g8+left+1) x,0<=n/\n<g:=λx hx n hn=>by rw[(dE.mp hn).2];exact hx
  have s:=Go.sign hg hl m2 hb B (y:=List.replicate (g8+left+1) 0) (z:=List.replicate (g8+left+1) 1) (b 0 ⟨by decide,by lia⟩) (b 1 ⟨by decide,by lia⟩) (bP ..) (bP ..) (by rw[z,z]);rw[a8,cC,qD (by lia),a8,cC,qD (by lia)]at s;cases s
theorem Go.first{gc:Nat}(hc:∀n∈c,0<=n/\n<g):∃w,(Dm g g7 m c)[0]?=some w:=by
 obtain⟨rk,hr,_⟩:=B.ex;have hG:(g.toNat:Int)=g:=by lia
 have hd:=BH hg hl (show 1<=m by lia);have hp:=RW.Aa hg (m-1);have z:=IA (G:=g.toNat) (by lia) (by rw[hG];exact hb) hr (by lia) (c:=c) (by rw[hG];exact hc);rw[<-Lo (g:=g) g7 m c]at z;exact⟨_,bA (by lia)⟩
theorem Go.at{gc:Nat}(em:g8+left+2=m+gc){v:qU}(hv:∀n∈v,0<=n/\n<g)(lv:v.length=m+gc-1):U5 g g7 m g8 gc (Ao g (BB g g7 m v)).toNat=v.getD g8 0:=by
 have cb:=FO hg hb m v;have cl:=Bh g g7 m v;have nb:=BL hg cb;obtain⟨w,hw⟩:=Go.first (gc:=gc) hg hl m2 hb B cb;obtain⟨w1,w2,w3⟩:=Hf hg hl (by lia) (bE hw)
 have e:Ad g (((Ao g (BB g g7 m v)).toNat:Nat):Int) gc=BB g g7 m v:=by have z:=CF hg cb;rw[cl,lv,Nat.sub_add_cancel (show 1<=m+gc by lia),d5]at z;rw[show (((Ao g (BB g g7 m v)).toNat:Nat):Int)=Ao g (BB g g7 m v) by lia];exact z
 unfold U5;rw[e,a8 (l:=Dm g g7 m (BB g g7 m v)),hw];show w.getD g8 0=v.getD g8 0;exact Go.sign hg hl m2 hb B w2 hv (by rw[w3,cl,lv,Nat.sub_add_cancel (show 1<=m+gc by lia),d5];clear w3 cl lv;lia) (by rw[lv];clear w3 cl lv;lia) w1
theorem Go.ring{gc:Nat}(em:g8+left+2=m+gc)(m1:1<=gc)(lo:Int){ring:qU}(hr:∀n∈ring,0<=n/\n<g)(n1:1<=ring.length):Al g (-lo-(g8:Int)) (Qy g g7 m g8 gc) gc (Al g lo g7 m ring)=ring:=by
 rw[<-DV hg lo (-lo-(g8:Int)) g7 (Qy g g7 m g8 gc) (by lia) m1 hr n1];refine Aq (A3 ..) λi hi=>?_;rw[A3]at hi
 have e1:(Al g (lo+(-lo-(g8:Int))) (Dg g g7 m (Qy g g7 m g8 gc) (m+gc-1)) (m+gc-1) ring).getD i 0=(Dg g g7 m (Qy g g7 m g8 gc) (m+gc-1)).getD (Ao g (AZ ring (m+gc-1) ((i:Int)+(lo+(-lo-(g8:Int)))))).toNat 0:=by unfold Al;exact AS hi
 have wb:=Cp hg hr (m+gc-1) ((i:Int)+(lo+(-lo-(g8:Int))));have jw:=Fz hg g7 m (Qy g g7 m g8 gc) wb;have wl:=A4 ring (m+gc-1) ((i:Int)+(lo+(-lo-(g8:Int))));rw[wl]at jw;rw[e1,jw];have cb:=FO hg hb m (AZ ring (m+gc-1) ((i:Int)+(lo+(-lo-(g8:Int)))));have cl:=Bh g g7 m (AZ ring (m+gc-1) ((i:Int)+(lo+(-lo-(g8:Int)))));have nb:=BL hg cb
 have e2:(Qy g g7 m g8 gc).getD (Ao g (BB g g7 m (AZ ring (m+gc-1) ((i:Int)+(lo+(-lo-(g8:Int))))))).toNat 0=U5 g g7 m g8 gc (Ao g (BB g g7 m (AZ ring (m+gc-1) ((i:Int)+(lo+(-lo-(g8:Int))))))).toNat:=by unfold Qy;refine AS ?_;rw[cl,wl,show m+gc-1+1-m=gc by lia]at nb;lia
 rw[e2,Go.at hg hl m2 hb B em wb wl];unfold AZ;rw[AS (by lia)];unfold Ah;rw[show (i:Int)+(lo+(-lo-(g8:Int)))+(g8:Int)=(i:Int) by lia,cE (by lia) (by lia),bI]
end
theorem UR(hg:2<=g)(g7:qU)(m g8 gc:Nat):((Qy g g7 m g8 gc).length:Int)=g^gc:=by unfold Qy;rw[a9,bO,bN (cn (RW.Aa hg gc))]
theorem V5(hg:2<=g){m:Nat}(hl:(g7.length:Int)=g^m)(hm:1<=m)(g8 gc:Nat):∀n∈Qy g g7 m g8 gc,0<=n/\n<g:=λn hn=>by
 unfold Qy at hn;obtain⟨k,_,rfl⟩:=bR.mp hn;unfold U5;cases e:(Dm g g7 m (Ad g (k:Int) gc))[0]? with
 |none =>
  rw[a8 (l:=Dm g g7 m (Ad g (k:Int) gc)),e];show 0<=(0:Int)/\(0:Int)<g;lia
 |some w =>
  rw[a8 (l:=Dm g g7 m (Ad g (k:Int) gc)),e];exact Br hg (Hf hg hl hm (bE e)).2.1 _
theorem YF{m:Nat}(h0:0<g7.length/g.toNat){M M':List (qV)}{f f':qV->Nat}(r:TB (g7.length/g.toNat) (Nd g.toNat (g7.length/g.toNat) g7) M f)(all:∀p∈BV (g7.length/g.toNat),p∈M)(r':TB (g7.length/g.toNat) (λa b=>Nd g.toNat (g7.length/g.toNat) g7 b a) M' f'):(∀p∈BV (g7.length/g.toNat),p∈M')/\Go g g7 m (f (0,0)) (f' (0,0)):=by
 have al:∀p∈BV (g7.length/g.toNat),p∈M':=r'.all (rk:=λp=>101-f p) λp q s=>by obtain⟨a,b⟩:=Dh h0 s;have:=(r.low p (all p b) q s).2;have:=r.few p (all p b);lia
 have ev:(0,0)∈BV (g7.length/g.toNat):=Gk.mpr (.inl rfl);refine⟨al,⟨⟨λp=>if p∈M then f p else 0,λp q s=>?_,101,λp=>?_⟩,λq k hk hq=>?_,λq k hk hq=>?_⟩⟩
 ·obtain⟨a,b⟩:=Dh h0 s;show (if p∈M then f p else 0)<(if q∈M then f q else 0);rw[qD (all p a),qD (all q b)];exact (r.low q (all q b) p s).2
 ·show (if p∈M then f p else 0)<101
  by_cases c:p∈M
  ·rw[qD c];have:=r.few p c;lia
  ·rw[qC c]
   decide
 ·have:=r.way (q:=q) (k:=k) (by rw[hk];exact all _ ev) hq;rw[hk]at this;exact this
 ·have:=r'.way (q:=λi=>q (k-i)) (k:=k) (by rw[eQ,hk];exact al _ ev) λi hi=>by
   have z:=hq (k-(i+1)) (by lia);rw[show k-(i+1)+1=k-i by lia]at z;exact z
  rw[eQ,hk]at this;exact this
theorem A9.congr(hg:2<=g){m:Nat}(hl:(g7.length:Int)=g^m){lo0:Int}{tab0:qU}{m0:Nat}(hl0:(tab0.length:Int)=g^m0)(al:Fy g lo g7 m lo0 tab0 m0)(fw:A9 g lo0 tab0 m0 lf tf mf):A9 g lo g7 m lf tf mf:=by
 refine byG λGq hGq=>?_;obtain⟨low0,M0,n0,rfl,z⟩:=fw;refine hGq ?_;clear hGq Gq;obtain⟨low,M,n⟩:=Jb g lo g7 m;obtain⟨rfl,rfl,e⟩:=Mu hg hl hl0 al n n0;refine⟨_,_,n,rfl,?_⟩;rcases z with⟨rfl,rfl,rfl⟩|⟨h2,rfl,rfl⟩
 ·exact .inl ⟨rfl,rfl,by rw[e]⟩
 ·exact .inr ⟨h2,rfl,e.symm⟩
theorem A9.again(hg:2<=g){m:Nat}(hl:(g7.length:Int)=g^m)(fw:A9 g lo g7 m lf tf mf):A9 g lf tf mf lf tf mf:=by obtain⟨al,tfl⟩:=fw.alike hg hl;exact A9.congr hg tfl hl al fw
inductive Hg(CN CT:qP)(vs:List V)(H:Hp)(Q:VK)(E:XK):Prop
 |m (r:qP) (g lo:Int) (g7:qU) (m:Nat) (lf:Int) (tf:qU) (mf:Nat):vs=[.ref r]->AY H r g lo g7 m->A9 g lo g7 m lf tf mf->g^(mf-1)<=7->(∀H',AH H H'->(∀rk,¬Lw g.toNat (tf.length/g.toNat) tf rk)->E (.ref CN) none H')->(∀H',AH H H'->E (.ref CT) none H')->(∀r' H' lo' tab' m',AH H H'->AY H' r' g lo' tab' m'->(∀ring:qU,(∀x∈ring,0<=x/\x<g)->1<=ring.length->Al g lo' tab' m' (Al g lo g7 m ring)=ring)->Q (.ref r') H')->Hg CN CT vs H Q E
theorem US{n:Nat}{f:Nat->Int}(hk:k<n)(h:∀i,i<n->i≠k->f i=0):Ae n f=f k:=by
 rw[AT (g:=λi=>F9 (decide (i=k)) (f k)) λi hi=>?_,JR n k hk]
 by_cases e:i=k
 ·rw[e,qF rfl];rfl
 ·rw[h i hi e,qG e];rfl
section
variable{Rs':List (qU)}{fs fs':List Nat}(h:BA G Rs fs)(h':BA G Rs' fs')(same:∀w:qU,w.length=G->((∀r∈Rs,Cu G w r=0)↔∀r∈Rs',Cu G w r=0))
include h
theorem KB{w:qU}(hw:∀r∈Rs,Cu G w r=0)(kG:k<G)(low:∀i,i<k->w.getD i 0=0)(ne:w.getD k 0≠0):¬k∈fs:=λhk=>by
 obtain⟨j,hj⟩:=bY.mp hk;have jl:=(bB.mp hj).1;obtain⟨r,hr⟩:∃r,Rs[j]?=some r:=⟨_,bA (by rw[<-h.n];exact jl)⟩;have ft:=h.foot j r k hr hj;have z:=hw r (bE hr);unfold Cu at z;rw[US kG λi hi ni=>?_]at z
 ·rcases dN.mp z with y|y
  ·exact ne y
  ·exact ft.1 y
 ·by_cases c:i<k
  ·rw[low i c,cT]
  ·rw[ft.2 i (by lia),bj]
theorem NQ{w:qU}(hw:∀r∈Rs,Cu G w r=0)(hz:∀i,i<G->¬i∈fs->w.getD i 0=0):∀i,i<G->w.getD i 0=0:=by
 suffices ∀n i,i<n->i<G->w.getD i 0=0 from λi hi=>this (i+1) i (cq i) hi
 intro n
 induction n with
 |zero=>intro i hi;exact qE hi (ce _)
 |succ n ih =>
  intro i hi iG
  by_cases c:i<n
  ·exact ih i c iG
  ·obtain rfl:i=n:=by lia
   by_cases z:w.getD i 0=0
   ·exact z
   ·exact hz i iG (KB h hw iG (λj hj=>ih j hj (by lia)) z)
include h' same
theorem Ed{hd:Nat}(hl:hd<G)(nf:¬hd∈fs):¬hd∈fs':=
 KB h' ((same _ (DO ..)).mp (Dz h hl nf)) hl (λi hi=>Qs h nf hi) (by have:=Eb h hl;lia)
theorem Oj{hd:Nat}(hl:hd<G)(nf:¬hd∈fs):Bl G Rs fs hd=Bl G Rs' fs' hd:=by
 have nf':=Ed h h' same hl nf;obtain⟨a,ha⟩:∃a,a=Bl G Rs fs hd:=⟨_,rfl⟩;obtain⟨b,hb⟩:∃b,b=Bl G Rs' fs' hd:=⟨_,rfl⟩;have la:a.length=G:=by rw[ha];exact DO ..
 have lb:b.length=G:=by rw[hb];exact DO ..
 have pa:0<a.getD hd 0:=by rw[ha];exact Eb h hl
 have pb:0<b.getD hd 0:=by rw[hb];exact Eb h' hl
 have ga:CP a=1:=by rw[ha];exact LC h hl
 have gb:CP b=1:=by rw[hb];exact LC h' hl
 have da:∀r∈Rs,Cu G a r=0:=by rw[ha];exact Dz h hl nf
 have db:∀r∈Rs,Cu G b r=0:=(same b lb).mpr (by rw[hb];exact Dz h' hl nf');have za:∀i,i≠hd->¬i∈fs->a.getD i 0=0:=λi ne ni=>by rw[ha];exact FH h ne ni
 have zb:∀i,i<G->i≠hd->¬i∈fs->b.getD i 0=0:=λi iG ne ni=>by rw[hb];exact FH h' ne (Ed h h' same iG ni)
 rw[<-ha,<-hb];clear ha hb;obtain⟨d,hd'⟩:∃d:qU,d=(List.range G).map λi=>b.getD hd 0*a.getD i 0-a.getD hd 0*b.getD i 0:=⟨_,rfl⟩
 have dg:∀i,i<G->d.getD i 0=b.getD hd 0*a.getD i 0-a.getD hd 0*b.getD i 0:=λi hi=>by rw[hd'];exact AS hi
 have dd:∀r∈Rs,Cu G d r=0:=λr hr=>by
  have e:Cu G d r=Cu G a r*b.getD hd 0-Cu G b r*a.getD hd 0:=by
   unfold Cu;rw[<-DU,<-DU,<-Gb];refine AT λi hi=>?_;rw[dg i hi]
   grind
  rw[e,da r hr,db r hr,cT,cT,fH]
 have d0:=NQ h dd λi hi ni=>by
  rw[dg i hi]
  by_cases e:i=hd
  ·rw[e,cH,fV]
  ·rw[za i e ni,zb i hi e ni,bj,bj,fH]
 have eq:∀i,i<G->b.getD hd 0*a.getD i 0=a.getD hd 0*b.getD i 0:=λi hi=>by have:=d0 i hi;rw[dg i hi]at this;lia
 obtain⟨x,hx⟩:∃x:Nat,b.getD hd 0=(x:Int):=⟨(b.getD hd 0).toNat,by lia⟩;obtain⟨y,hy⟩:∃y:Nat,a.getD hd 0=(y:Int):=⟨(a.getD hd 0).toNat,by lia⟩;rw[hx,hy]at eq;have x0:0<x:=by lia
 have y0:0<y:=by lia
 have c0:0<Nat.gcd x y:=Nat.gcd_pos_of_pos_left _ x0;have co:Nat.Coprime (x/Nat.gcd x y) (y/Nat.gcd x y):=Nat.coprime_div_gcd_div_gcd c0
 have ea:∀i,i<G->x*(a.getD i 0).natAbs=y*(b.getD i 0).natAbs:=λi hi=>by have:=qN Int.natAbs (eq i hi);rw[dJ,dJ,dF,dF]at this;exact this
 obtain⟨u,hu⟩:∃u,x=Nat.gcd x y*u:=⟨x/Nat.gcd x y,(Nat.mul_div_cancel' (Nat.gcd_dvd_left ..)).symm⟩;obtain⟨v,hv⟩:∃v,y=Nat.gcd x y*v:=⟨y/Nat.gcd x y,(Nat.mul_div_cancel' (Nat.gcd_dvd_right ..)).symm⟩;have cu:x/Nat.gcd x y=u:=Nat.div_eq_of_eq_mul_right c0 hu;have cv:y/Nat.gcd x y=v:=Nat.div_eq_of_eq_mul_right c0 hv;rw[cu,cv]at co
 have eu:∀i,i<G->u*(a.getD i 0).natAbs=v*(b.getD i 0).natAbs:=λi hi=>by refine Nat.eq_of_mul_eq_mul_left c0 ?_;rw[<-fK,<-fK,<-hu,<-hv];exact ea i hi
 have one:∀(k:Nat) (l:qU),l.length=G->CP l=1->(∀i,i<G->k∣(l.getD i 0).natAbs)->k=1:=λk l ll gl hk=>by
  have dv:∀(l:qU) (n:Nat),k∣n->(∀x∈l,k∣x.natAbs)->k∣l.foldl (λa n=>Nat.gcd a n.natAbs) n:=by
   intro l
   induction l with
   |nil=>intro n hn _;exact hn
   |cons x l ih=>intro n hn hl;exact ih _ (Nat.dvd_gcd hn (hl x bf)) λz hz=>hl z (be _ hz)
  have z:=dv l 0 (Nat.dvd_zero _) λx hx=>by obtain⟨i,hi,rfl⟩:=List.mem_iff_getElem.mp hx;have:=hk i (by lia);rw[a8,bA hi]at this;exact this
  rw[show l.foldl (λa n=>Nat.gcd a n.natAbs) 0=CP l from rfl,gl]at z;exact Nat.dvd_one.mp z
 have u1:u=1:=one u b lb gb λi hi=>co.dvd_of_dvd_mul_left ⟨_,(eu i hi).symm⟩
 have v1:v=1:=one v a la ga λi hi=>co.symm.dvd_of_dvd_mul_left ⟨_,eu i hi⟩
 have xy:x=y:=by rw[u1,Nat.mul_one]at hu;rw[v1,Nat.mul_one]at hv;exact hu.trans hv.symm
 refine Aq (by rw[la,lb]) λi hi=>?_;have:=eq i (by lia);rw[xy]at this;exact dW (by lia) this
theorem Qt:B5 G Rs fs G=B5 G Rs' fs' G:=by
 have eqv:∀i,i<G->(i∈fs↔i∈fs'):=λi hi=>by
  constructor
  ·intro z
   by_cases c:i∈fs'
   ·exact c
   ·exact qE z (Ed h' h (λw l=>(same w l).symm) hi c)
  ·intro z
   by_cases c:i∈fs
   ·exact c
   ·exact qE z (Ed h h' same hi c)
 unfold B5
 rw[List.filter_congr (q:=λx=>decide (¬x∈fs')) λx hx=>by
  have:=eqv x (bW.mp hx)
  by_cases c:x∈fs
  ·rw[qG (λy=>y c),qG (λy=>y (this.mp c))]
  ·have c':¬x∈fs':=λy=>c (this.mpr y)
   rw[qF c,qF c']]
 refine bZ λx hx=>?_;obtain⟨h1,h2⟩:=bv.mp hx;have xG:=bW.mp h1;exact Oj h h' same xG λy=>qL h2 ((eqv x xG).mp y)
end
theorem Gp(g2:2<=g){m:Nat}(tl:(g7.length:Int)=g^m)(tb:∀n∈g7,0<=n/\n<g)(fw:A9 g lo g7 m lf tf mf)(mf8:mf<=8){fs:List Nat}(B:C6 g lf tf mf rings Rs fs){w:qU}(wl:w.length=g.toNat):(∀r∈Rs,Cu g.toNat w r=0)↔Kp g lo g7 m w 1:=by
 have wl':(w.length:Int)=g:=by lia
 rw[<-Ju g2 tl fw (by rw[wl',bq,cN,cj]) (bD 1),K7 g2 lf (A9.lt g2 tb fw) fw.two mf8 wl'];constructor
 ·intro h ring hr;exact B.ask.all w h _ (bR.mpr ⟨ring,hr,rfl⟩)
 ·intro h;refine (B.ask.both w).mpr λc hc=>?_;obtain⟨r,h1,rfl⟩:=bR.mp hc;exact h r (B.sub r h1)
theorem F5(g2:2<=g){m:Nat}(tl:(g7.length:Int)=g^m)(tl':(tab'.length:Int)=g^m')(tb:∀n∈g7,0<=n/\n<g)(tb':∀n∈tab',0<=n/\n<g){lf':Int}{tf':qU}{mf':Nat}(fw:A9 g lo g7 m lf tf mf)(fw':A9 g lo' tab' m' lf' tf' mf')(mf8:mf<=8)(mf8':mf'<=8)
  {rings Rs rings' Rs':List (qU)} {fs fs':List Nat} (B:C6 g lf tf mf rings Rs fs) (B':C6 g lf' tf' mf' rings' Rs' fs') (k:∀w:qU,w.length=g.toNat->(Kp g lo g7 m w 1↔Kp g lo' tab' m' w 1)):B5 g.toNat Rs fs g.toNat=B5 g.toNat Rs' fs' g.toNat:=
 Qt B.rows B'.rows λw wl=>by rw[Gp g2 tl tb fw mf8 B wl,Gp g2 tl' tb' fw' mf8' B' wl,k w wl]
end L2
namespace L2
open PySem PySem.Spec PyProof.Rows
variable{D:Gw}{H:Hp}{X:Cx}{a:qP}{g lo:Int}{t:TS}{g7:qU}{to:TE}{x:Str}{xs:List V}{α β:Type}{σ:St}
abbrev TH:=Gw->St->qO->Hp->Prop
def HB(X:Cx)(hs:List ExceptHandler)(t:TH):Prop:=
 ∀(ad:List (qP×Obj)) (D:Gw) (σ:St) (H:Hp) (a:qP) (cls:qO) (B:Heap) (a0:qO) (s:qQ),
  (∀h6,Heap.FlyingW B (X.env::X.outer) a cls a0 h6->s.heap.UpToSlots h6->Ab X ad σ H {s with heap:=h6})->Heap.FlyingW B (X.env::X.outer) a cls a0 s.heap->s.heap.UpToSlots s.heap->t D σ cls H ->
  wpAny (model X.prog X.w) X.A (handleBy (.ref a) X.env hs) (SP X ad D) X.xe s
section
variable{R:qP}{W:St->XK}{b:List Stmt}{c0:Stmt}{suite:List Stmt}{tb th:TS}{t:TH}{np hpos pos:Pos}{hs:List ExceptHandler}{h0:ExceptHandler}
theorem Su:HB X [] (λ_ _ _ _=>False):=λ_ _ _ _ _ _ _ _ _ _ _ _ h=>h.elim
theorem MA(hg:Gl X x)(hm:X.mg x=some (.ref R))(hsu:∀v,Hj (X.hdl v) (c0::suite) th)(hr:HB X hs t)(hd:(x==("__debug__":Str))=false:=by decide):
  HB X (.ExceptHandler (some (.Name x np)) none (c0::suite) hpos::hs) (λD σ cls H=>(PySem.W.exmOne X.K cls (.ref R)=some true/\th D σ H)\/(PySem.W.exmOne X.K cls (.ref R)=some false/\t D σ cls H)):=by
 intro ad D σ H a cls B a0 s land fl sm h;have J5:Ab X ad σ H s:=land s.heap fl sm;have K5:=J5.hdl (.ref a);refine wpAny_handleBy_cons (codeAny_handlers_test (GA K5 hg hm ?_ hd)) (by intro q;cases q);obtain⟨ob,hob,hobc⟩:=fl.there
 have LT:PySem.W.Looks (model X.prog X.w) s.heap (typeOf (.ref a)) cls:=by subst hobc;exact (PySem.W.Looks.ld hob).andThen .now
 rcases h with⟨hx,h⟩|⟨hx,h⟩
 ·refine (PySem.W.exm_one J5.kIn LT hx).here ?_;show codeAny _ _ _ _ _;refine codeAny_handlers_suite ?_;refine lands_againW fl λh6 fl6 sm6=>?_;have run:=hsu (.ref a) ad {s with heap:=h6} σ H D ((land h6 fl6 sm6).hdl (.ref a)) h;refine qK run (λf s8 q8=>?_) λ_ _ z=>z.elim
  cases f with
  |next=>obtain⟨σ8,H8,I8,q8⟩:=q8;exact⟨σ8,H8,I8.unhdl J5.ok.hd,q8⟩
  |brk=>obtain⟨σ8,H8,I8,q8⟩:=q8;exact⟨σ8,H8,I8.unhdl J5.ok.hd,q8⟩
  |cont=>obtain⟨σ8,H8,I8,q8⟩:=q8;exact⟨σ8,H8,I8.unhdl J5.ok.hd,q8⟩
  |ret u=>obtain⟨v8,σ8,H8,I8,r8,q8⟩:=q8;exact⟨v8,σ8,H8,I8.unhdl J5.ok.hd,r8,q8⟩
 ·refine (PySem.W.exm_one J5.kIn LT hx).here ?_;exact hr ad D σ H a cls B a0 s land fl sm h
def YG(W:St->XK)(tb:TS)(t:TH):TS:=λD σ H=>tb D σ H/\∀σ' cls D' H',W σ' cls D' H'->t D σ' cls H'
theorem Pk(hst:X.stack=X.env::X.outer)(hfr:X.env.frame=some X.env.locals)(hb:∀p,Hj (X.tr p W) b tb)(hh:HB X (h0::hs) t):PS X (.Try b (h0::hs) [] [] pos) (YG W tb t):=by
 intro ad s σ H D I h;obtain⟨h1,h2⟩:=h;refine wpAny_Try_except (qK (hb (X.pn++ad) [] s σ H D (I.but _) h1) (λf s1 q=>?_) λe s1 q=>?_)
 ·have q':SP X ad D f s1:=SP.unbut (pins':=[]) q;cases f with
  |next=>exact wpAny_execs_nil q'
  |ret u=>exact q'
  |brk=>exact q'
  |cont=>exact q'
 ·refine byG λGq hGq=>?_;obtain⟨pins0,σ0,H0,s0,I0,a,cls,a0,D',B,H',rfl,F,hW⟩:=q;refine hGq ?_;clear hGq Gq;have J0:Ab X ad σ0 H0 s0:=I0.unbut;have fl:Heap.FlyingW B (X.env::X.outer) a cls a0 s1.heap:=by rw[<-hst];exact F.fly
  refine wpAny_looks_onW (by rw[<-hst];exact J0.ok.frames) hfr fl λh4 held4 sm4=>?_;refine wpAny_landsW (s:={s1 with heap:=h4}) held4 λh5 fl5 sm5=>?_;have LD:∀h6,Heap.FlyingW B (X.env::X.outer) a cls a0 h6->h5.UpToSlots h6->Ab X ad σ0 H' {s1 with heap:=h6}:=λh6 fl6 sm6=>F.land J0 fl6.1 ((sm4.trans sm5).trans sm6)
  exact hh ad D σ0 H' a cls B a0 {s1 with heap:=h5} LD fl5 (Heap.UpToSlots.refl _) (h2 σ0 cls D' H' hW)
end
theorem V6:FM X (compareOp .Is) (λx y H Q=>∃b c:Bool,x=.bl b/\y=.bl c/\Q (.bl (decide (b=c))) H):=by
 intro ad s σ H x y v u Q I rx ry h;refine byG λGq hGq=>?_;obtain⟨b,c,rfl,rfl,q⟩:=h;refine hGq ?_;clear hGq Gq;cases rx;cases ry;have e:compareOp .Is (.bool b) (.bool c)=pure (.bool (decide (b=c))):=by cases b<;>cases c<;>rfl
 rw[e];exact qB ⟨.bl _,H,I,rfl,q⟩
theorem LH:FM X (compareOp .IsNot) (λx y H Q=>∃b c:Bool,x=.bl b/\y=.bl c/\Q (.bl (!decide (b=c))) H):=by
 intro ad s σ H x y v u Q I rx ry h;refine byG λGq hGq=>?_;obtain⟨b,c,rfl,rfl,q⟩:=h;refine hGq ?_;clear hGq Gq;cases rx;cases ry;have e:compareOp .IsNot (.bool b) (.bool c)=pure (.bool (!decide (b=c))):=by cases b<;>cases c<;>rfl
 rw[e];exact qB ⟨.bl _,H,I,rfl,q⟩
section
variable(K:qT)
theorem Fk(h:X.K=K:=by rfl):Uh X (TQ K):=h▸O1
theorem B6(h:X.K=K:=by rfl):Uh X (TR K):=h▸RC
theorem IK(h:X.K=K:=by rfl):CJ X (.builtin "len") (λxs H Q=>∃p ys,xs=[V.ref p]/\(Ai K H p ys\/Am K H p ys)/\Q (.int ((ys.length:Nat):Int)) H):=h▸GF
theorem Ka{tg l:Expr}{tl:TE}(hl:PE X l tl)(h:X.K=K:=by rfl):PI X tg l (Q5 K tl):=h▸Oo hl
theorem Nf{o e:Expr}{t:TA}{apos cpos:Pos}(ho:PE X o to)(ha:PA X [e] t)(hK:X.K=K:=by rfl)
  (hbase:attributeBase o "append" X.env (eval o X.env)=eval o X.env:=by rfl)
  (hfew:((backTo cpos (starEach [e] X.env)).all (λx=>!x.1)&&(backToKw cpos (keywordEach [] X.env)).all (λx=>x.1.isSome)&&decide (([e]:List Expr).length+([]:List Keyword).length+(if ([]:List Keyword).isEmpty then 0 else 1)<30))=true:=by rfl)
  (hline:(apos.endLine==cpos.line)=true:=by rfl) (hs:starEach [e] X.env=(false,eval e X.env)::starEach [] X.env:=by rfl) (hplain:(backTo cpos (starEach [] X.env)).any (·.1)=false:=by rfl):
  PE X (.Call (.Attribute o "append" apos) [e] [] cpos) (Zq K "list" LV to t):=by
 subst hK;exact O2 dI PySem.F.slot_list_append PySem.F.type_list_append G4 ho ha hbase hfew hline hs hplain
end
theorem CU{u:TS}(Z:St->Hp->Prop)(h1:∀N:St->Hp->Prop,(∀σ' H',Z σ' H'->N σ' H')->t {D with nx:=N} σ H)(h2:∀G:St->Hp->Prop,(∀σ H,u D σ H->G σ H)->∀σ' H',Z σ' H'->G σ' H'):P0 t u D σ H:=Xo Z h1 (h2 _ λ_ _ z=>z)
variable{Pv:Nat->St->Hp->Prop}
theorem Fl{g:TG}{tb:TS}{R:VK}{B0:St->Hp->Prop}
  (h:∀(C B:St->Hp->Prop) i x,∀G:St->Hp->Prop,(∀σ H,(g x σ H λσ2 H2=>tb {nx:=Pv (i+1),rt:=R,bk:=B,ct:=C} σ2 H2)->G σ H)->∀σ H,xs[i]?=some x->Pv i σ H->G σ H):
  ∀i x σ H,xs[i]?=some x->Pv i σ H->g x σ H λσ2 H2=>tb {nx:=Pv (i+1),rt:=R,bk:=B0,ct:=Pv (i+1)} σ2 H2:=λi x σ H hx p=>h _ _ i x _ (λ_ _ z=>z) σ H hx p
theorem FI{n:Nat}{f:Nat->V}{g:TG}{tb:TS}{R:VK}{B0:St->Hp->Prop}
  (h:∀(C B:St->Hp->Prop) i,∀G:St->Hp->Prop,(∀σ H,(g (f i) σ H λσ2 H2=>tb {nx:=Pv (i+1),rt:=R,bk:=B,ct:=C} σ2 H2)->G σ H)->∀σ H,i<n->Pv i σ H->G σ H):
  ∀i σ H,i<n->Pv i σ H->g (f i) σ H λσ2 H2=>tb {nx:=Pv (i+1),rt:=R,bk:=B0,ct:=Pv (i+1)} σ2 H2:=λi σ H hx p=>h _ _ i _ (λ_ _ z=>z) σ H hx p
theorem FJ{A:Nat->V->α->β->Prop}{c:Nat->V->Prop}{Pv:Nat->α->β->Prop}(h:∀i x,∀G:α->β->Prop,(∀a b,A i x a b->G a b)->∀a b,c i x->Pv i a b->G a b):∀i x a b,c i x->Pv i a b->A i x a b:=λi x a b hc p=>h i x _ (λ_ _ z=>z) a b hc p
theorem Dn{A:Nat->α->β->Prop}{c:Nat->Prop}{Pv:Nat->α->β->Prop}(h:∀i,∀G:α->β->Prop,(∀a b,A i a b->G a b)->∀a b,c i->Pv i a b->G a b):∀i a b,c i->Pv i a b->A i a b:=λi a b hc p=>h i _ (λ_ _ z=>z) a b hc p
theorem At.el{r:qP}{P:Prop}(h:At H r g lo g7)(k:∀tb,H r=some (.tup [.int g,.int lo,.ref tb])->H tb=some (.tup (g7.map V.int))->P):P:=by obtain⟨tb,h1,h2⟩:=h;exact k tb h1 h2
theorem FK{K:qT}{i:Int}{v:V}{Q:VK}(h:Ai K H a xs)(hi:Kk xs i=some v)(q:Q v H):TQ K (.ref a) (.int i) H Q:=⟨a,xs,i,v,rfl,rfl,h,hi,q⟩
theorem Ck{K:qT}{i:Int}{v:V}{Q:VK}(h:Am K H a xs)(hi:Kk xs i=some v)(q:Q v H):TR K (.ref a) (.int i) H Q:=⟨a,xs,i,v,rfl,rfl,h,hi,q⟩
theorem D7(hg:2<=g)(lo:Int){m:Nat}{P:Prop}(k:∀lf tf mf,A9 g lo g7 m lf tf mf->P):P:=by obtain⟨lf,tf,mf,fw⟩:=R7 hg lo (g7:=g7) (m:=m);exact k lf tf mf fw
theorem aD{A:Nat->St->Hp->Prop}(h:∀m,∀G:St->Hp->Prop,(∀σ H,A m σ H->G σ H)->∀σ H,Pv m σ H->G σ H):∀m σ H,Pv m σ H->A m σ H:=λm σ H p=>h m _ (λ_ _ z=>z) σ H p
end L2
local macro_rules|`(tactic|walk_at "")=>`(tactic| ((try dsimp only[L2.RS,L2.Z5,L2.Uk,L2.P0,L2.Q3,L2.VQ,L2.Ud,L2.XI,L2.ao,L2.VL,L2.tC,L2.RK,L2.Hk,L2.IE,L2.VZ,L2.VY,L2.P1,L2.GB,L2.Ub,L2.Zq,L2.Z3,L2.LV,L2.XX,L2.Uj,L2.Uu,L2.Vj,L2.KL,Option.join_some,L2.Xe,L2.G6,L2.MW,L2.Lb,L2.Um,L2.Vg,L2.RY,L2.ME,L2.Xm,L2.XU,L2.XT,L2.ak,L2.tB,L2.UZ,L2.XV,L2.Ua,L2.rI,L2.TJ,L2.rU,L2.Vd,L2.RM,L2.au,L2.Uf,L2.LN,L2.Ct,L2.VV,L2.Q6,L2.VW,L2.ap,L2.aq,L2.PP,L2.PR,L2.PU,L2.PQ,List.map_cons,List.map_nil,List.length_cons,List.length_nil,List.cons_append,List.nil_append,List.replicate,List.getElem?_cons_zero,List.getElem?_cons_succ,List.set_cons_zero,List.set_cons_succ,Nat.reduceAdd,Nat.reduceSub]);try simp only[L2.RS,L2.Uk,L2.Uu,L2.KL,Option.join_some,L2.Vg,L2.ME,L2.RM,L2.Ct,L2.VV,L2.Q6,L2.VW,L2.PP,L2.PR,L2.PU,L2.PQ,List.map_cons,List.map_nil,List.length_cons,List.length_nil,List.cons_append,List.nil_append,List.replicate,List.getElem?_cons_zero,List.getElem?_cons_succ,List.set_cons_zero,List.set_cons_succ,Nat.reduceAdd,Nat.reduceSub,Option.some.injEq,L2.V.int.injEq,L2.V.bl.injEq,L2.V.ref.injEq,L2.V.str.injEq,List.cons.injEq,and_true,true_and,exists_eq_left',exists_eq_left,exists_eq_right,exists_and_left,exists_and_right,exists_eq,and_assoc,if_true,if_false,reduceIte,reduceCtorEq,not_true_eq_false,not_false_eq_true,Bool.false_eq_true,Bool.not_true,Bool.not_false,decide_eq_true_eq,Bool.not_eq_true',decide_eq_false_iff_not]))
namespace K93
open PySem L2 RW
def top(i:Nat):Stmt:=PySem.Challenge.pw_rowrules_k93_whole_kept_by_both.main.body.getD i (.Pass ⟨0,0,0,0⟩)
abbrev aE:Stmt:=TY (top 3) 0
abbrev V7:Stmt:=top 10
abbrev V8:Stmt:=top 11
abbrev V9:Stmt:=top 12
abbrev aG:Stmt:=top 13
abbrev aH:Stmt:=top 14
abbrev WA:Stmt:=top 15
abbrev WC:Stmt:=top 16
abbrev WD:Stmt:=top 19
abbrev WE:Stmt:=top 20
abbrev WF:Stmt:=top 21
abbrev WG:Stmt:=top 22
abbrev WH:Stmt:=top 23
abbrev WI:Stmt:=top 24
abbrev WK:Stmt:=top 25
abbrev WL:Stmt:=top 26
abbrev WM:Stmt:=top 27
abbrev WN:Stmt:=top 29
abbrev WO:Stmt:=top 30
abbrev aI:Stmt:=top 31
abbrev WP:Stmt:=top 32
abbrev WQ:Stmt:=top 33
abbrev WS:Stmt:=top 34
abbrev WT:Stmt:=top 37
abbrev WU:Stmt:=top 39
abbrev WV:Stmt:=top 40
abbrev WW:Stmt:=top 41
abbrev WX:Stmt:=top 43
abbrev WY:Stmt:=top 42
abbrev WZ:Stmt:=top 45
abbrev Wa:Stmt:=top 46
abbrev aJ:Stmt:=top 47
abbrev Wc:Stmt:=top 48
abbrev Wd:Stmt:=top 49
abbrev We:Stmt:=top 50
abbrev aK:Stmt:=top 51
abbrev aL:Stmt:=top 52
abbrev Wf:Stmt:=top 53
abbrev Wg:Stmt:=top 55
abbrev Wh:Stmt:=top 56
abbrev Wi:Stmt:=top 57
abbrev Wj:Stmt:=top 58
abbrev Wk:Stmt:=top 59
abbrev Wl:Stmt:=top 61
abbrev Wm:Stmt:=top 62
abbrev Wn:Stmt:=top 65
abbrev Wo:Stmt:=top 66
abbrev Wp:Stmt:=top 67
abbrev Wq:Stmt:=top 68
abbrev Wr:Stmt:=top 69
abbrev Ws:Stmt:=top 70
abbrev Wt:Stmt:=top 71
abbrev Wu:Stmt:=top 72
abbrev Wv:Stmt:=top 74
abbrev Ww:Stmt:=top 76
abbrev Wx:Stmt:=top 77
abbrev Wy:Stmt:=top 78
abbrev aN:Stmt:=top 81
abbrev Wz:Stmt:=top 82
abbrev W0:Stmt:=top 83
abbrev W1:Stmt:=top 84
abbrev aO:Stmt:=top 85
abbrev W2:Stmt:=top 86
abbrev W3:Stmt:=top 87
abbrev W4:Stmt:=top 88
abbrev W5:Stmt:=top 89
abbrev aP:Stmt:=top 91
abbrev W6:Stmt:=top 92
abbrev W7:Stmt:=top 93
abbrev W8:Stmt:=top 94
abbrev W9:Stmt:=top 95
abbrev XB:Stmt:=top 96
abbrev XC:Stmt:=top 97
abbrev XD:Stmt:=top 98
abbrev XE:Stmt:=top 99
abbrev XF:Stmt:=top 100
abbrev UT:Stmt:=top 101
set_option genInjectivity false
structure a6 where
 (c_44 c_62 c_72 c_63 c_43 c_54 c_29 c_30:qP)
 (f_5 f_50 f_56 f_22 f_9 f_1 f_41 f_61 f_21 f_27 f_11 f_15 f_82 f_69 f_40 f_42 f_76 f_65 f_47 f_4 f_37 f_68 f_59 f_75 f_81 f_39 f_84 f_73 f_51 f_38 f_10 f_2 f_52 f_79 f_55 f_3 f_0 f_45 f_70 f_58 f_64 f_60 f_36 f_18 f_24 f_57 f_35 f_28 f_46 f_66 f_25 f_26 f_78 f_53 f_77 f_71 f_67 f_6 f_17 f_23 f_49 f_7 f_48 f_16 f_74 f_80 f_8 f_14 f_19 f_34 f_33 f_32 f_13 f_20 f_12 f_31 f_83:qP)
 (k_EVEN:qP)
structure Bw(K:qT)(mg:Str->Option qO)(t:a6):Prop where
 m_44:mg "RowError"=some (.ref t.c_44)
 m_62:mg "NoRule"=some (.ref t.c_62)
 m_72:mg "NoRow"=some (.ref t.c_72)
 m_63:mg "NoSuch"=some (.ref t.c_63)
 m_43:mg "NoWindow"=some (.ref t.c_43)
 m_54:mg "TooWide"=some (.ref t.c_54)
 m_29:mg "NoWayBack"=some (.ref t.c_29)
 m_30:mg "NoWeights"=some (.ref t.c_30)
 m_EVEN:mg "EVEN"=some (.ref t.k_EVEN)
 q_EVEN:Pd K t.k_EVEN [0,0]=true
 d_5:∃fd,BX K "__init__" "NoRow.__init__" aE t.f_5 fd
 m_50:mg "is_whole"=some (.ref t.f_50)
 d_50:∃fd,BX K "is_whole" "is_whole" V7 t.f_50 fd
 m_56:mg "is_sign"=some (.ref t.f_56)
 d_56:∃fd,BX K "is_sign" "is_sign" V8 t.f_56 fd
 m_22:mg "check_word"=some (.ref t.f_22)
 d_22:∃fd,BX K "check_word" "check_word" V9 t.f_22 fd
 m_9:mg "check_length"=some (.ref t.f_9)
 d_9:∃fd,BX K "check_length" "check_length" aG t.f_9 fd
 m_1:mg "check_at_least"=some (.ref t.f_1)
 d_1:∃fd,BX K "check_at_least" "check_at_least" aH t.f_1 fd
 m_41:mg "number_of"=some (.ref t.f_41)
 d_41:∃fd,BX K "number_of" "number_of" WA t.f_41 fd
 m_61:mg "word_of"=some (.ref t.f_61)
 d_61:∃fd,BX K "word_of" "word_of" WC t.f_61 fd
 m_21:mg "check_head"=some (.ref t.f_21)
 d_21:∃fd,BX K "check_head" "check_head" WD t.f_21 fd
 m_27:mg "places_for"=some (.ref t.f_27)
 d_27:∃fd,BX K "places_for" "places_for" WE t.f_27 fd
 m_11:mg "table_length"=some (.ref t.f_11)
 d_11:∃fd,BX K "table_length" "table_length" WF t.f_11 fd
 m_15:mg "check_table"=some (.ref t.f_15)
 d_15:∃fd,BX K "check_table" "check_table" WG t.f_15 fd
 m_82:mg "rule"=some (.ref t.f_82)
 d_82:∃fd,BX K "rule" "rule" WH t.f_82 fd
 m_69:mg "places"=some (.ref t.f_69)
 d_69:∃fd,BX K "places" "places" WI t.f_69 fd
 m_40:mg "next_sign"=some (.ref t.f_40)
 d_40:∃fd,BX K "next_sign" "next_sign" WK t.f_40 fd
 m_42:mg "told_from"=some (.ref t.f_42)
 d_42:∃fd,BX K "told_from" "told_from" WL t.f_42 fd
 m_76:mg "heads"=some (.ref t.f_76)
 d_76:∃fd,BX K "heads" "heads" WM t.f_76 fd
 m_65:mg "counts"=some (.ref t.f_65)
 d_65:∃fd,BX K "counts" "counts" WN t.f_65 fd
 m_47:mg "counting"=some (.ref t.f_47)
 d_47:∃fd,BX K "counting" "counting" WO t.f_47 fd
 m_4:mg "sign_or_nought"=some (.ref t.f_4)
 d_4:∃fd,BX K "sign_or_nought" "sign_or_nought" aI t.f_4 fd
 m_37:mg "by_window"=some (.ref t.f_37)
 d_37:∃fd,BX K "by_window" "by_window" WP t.f_37 fd
 m_68:mg "narrow"=some (.ref t.f_68)
 d_68:∃fd,BX K "narrow" "narrow" WQ t.f_68 fd
 m_59:mg "widened"=some (.ref t.f_59)
 d_59:∃fd,BX K "widened" "widened" WS t.f_59 fd
 m_75:mg "frame"=some (.ref t.f_75)
 d_75:∃fd,BX K "frame" "frame" WT t.f_75 fd
 m_81:mg "lead"=some (.ref t.f_81)
 d_81:∃fd,BX K "lead" "lead" WU t.f_81 fd
 m_39:mg "lead_ring"=some (.ref t.f_39)
 d_39:∃fd,BX K "lead_ring" "lead_ring" WV t.f_39 fd
 m_84:mg "led"=some (.ref t.f_84)
 d_84:∃fd,BX K "led" "led" WW t.f_84 fd
 m_73:mg "after"=some (.ref t.f_73)
 d_73:∃tk fd dT,Rf K "after" "after" WX t.f_73 fd dT [.int 1 tk]
 m_51:mg "led_ring"=some (.ref t.f_51)
 d_51:∃fd,BX K "led_ring" "led_ring" WY t.f_51 fd
 m_38:mg "change_of"=some (.ref t.f_38)
 d_38:∃fd,BX K "change_of" "change_of" WZ t.f_38 fd
 m_10:mg "rings_to_ask"=some (.ref t.f_10)
 d_10:∃fd,BX K "rings_to_ask" "rings_to_ask" Wa t.f_10 fd
 m_2:mg "common_divisor"=some (.ref t.f_2)
 d_2:∃fd,BX K "common_divisor" "common_divisor" aJ t.f_2 fd
 m_52:mg "simplest"=some (.ref t.f_52)
 d_52:∃fd,BX K "simplest" "simplest" Wc t.f_52 fd
 m_79:mg "foot"=some (.ref t.f_79)
 d_79:∃fd,BX K "foot" "foot" Wd t.f_79 fd
 m_55:mg "cleared"=some (.ref t.f_55)
 d_55:∃fd,BX K "cleared" "cleared" We t.f_55 fd
 m_3:mg "rings_and_rows"=some (.ref t.f_3)
 d_3:∃fd,BX K "rings_and_rows" "rings_and_rows" aK t.f_3 fd
 m_0:mg "weights_with_head"=some (.ref t.f_0)
 d_0:∃fd,BX K "weights_with_head" "weights_with_head" aL t.f_0 fd
 m_45:mg "all_kept"=some (.ref t.f_45)
 d_45:∃fd,BX K "all_kept" "all_kept" Wf t.f_45 fd
 m_70:mg "shares"=some (.ref t.f_70)
 d_70:∃fd,BX K "shares" "shares" Wg t.f_70 fd
 m_58:mg "ways_on"=some (.ref t.f_58)
 d_58:∃fd,BX K "ways_on" "ways_on" Wh t.f_58 fd
 m_64:mg "choose"=some (.ref t.f_64)
 d_64:∃fd,BX K "choose" "choose" Wi t.f_64 fd
 m_60:mg "word_by"=some (.ref t.f_60)
 d_60:∃fd,BX K "word_by" "word_by" Wj t.f_60 fd
 m_36:mg "before_at"=some (.ref t.f_36)
 d_36:∃fd,BX K "before_at" "before_at" Wk t.f_36 fd
 m_18:mg "turned_back"=some (.ref t.f_18)
 d_18:∃fd,BX K "turned_back" "turned_back" Wl t.f_18 fd
 m_24:mg "most_steps"=some (.ref t.f_24)
 d_24:∃fd,BX K "most_steps" "most_steps" Wm t.f_24 fd
 m_57:mg "pair_of"=some (.ref t.f_57)
 d_57:∃fd,BX K "pair_of" "pair_of" Wn t.f_57 fd
 m_35:mg "all_pairs"=some (.ref t.f_35)
 d_35:∃fd,BX K "all_pairs" "all_pairs" Wo t.f_35 fd
 m_28:mg "word_pairs"=some (.ref t.f_28)
 d_28:∃fd,BX K "word_pairs" "word_pairs" Wp t.f_28 fd
 m_46:mg "begin_of"=some (.ref t.f_46)
 d_46:∃fd,BX K "begin_of" "begin_of" Wq t.f_46 fd
 m_66:mg "end_of"=some (.ref t.f_66)
 d_66:∃fd,BX K "end_of" "end_of" Wr t.f_66 fd
 m_25:mg "pair_nexts"=some (.ref t.f_25)
 d_25:∃fd,BX K "pair_nexts" "pair_nexts" Ws t.f_25 fd
 m_26:mg "pair_ranks"=some (.ref t.f_26)
 d_26:∃fd,BX K "pair_ranks" "pair_ranks" Wt t.f_26 fd
 m_78:mg "ranks"=some (.ref t.f_78)
 d_78:∃fd,BX K "ranks" "ranks" Wu t.f_78 fd
 m_53:mg "way_back"=some (.ref t.f_53)
 d_53:∃fd,BX K "way_back" "way_back" Wv t.f_53 fd
 m_77:mg "moved"=some (.ref t.f_77)
 d_77:∃fd,BX K "moved" "moved" Ww t.f_77 fd
 m_71:mg "turned"=some (.ref t.f_71)
 d_71:∃fd,BX K "turned" "turned" Wx t.f_71 fd
 m_67:mg "joined"=some (.ref t.f_67)
 d_67:∃fd,BX K "joined" "joined" Wy t.f_67 fd
 m_6:mg "check_weights"=some (.ref t.f_6)
 d_6:∃fd,BX K "check_weights" "check_weights" aN t.f_6 fd
 m_17:mg "gain_places"=some (.ref t.f_17)
 d_17:∃fd,BX K "gain_places" "gain_places" Wz t.f_17 fd
 m_23:mg "many_gains"=some (.ref t.f_23)
 d_23:∃fd,BX K "many_gains" "many_gains" W0 t.f_23 fd
 m_49:mg "gains_by"=some (.ref t.f_49)
 d_49:∃fd,BX K "gains_by" "gains_by" W1 t.f_49 fd
 m_7:mg "checked_gains"=some (.ref t.f_7)
 d_7:∃fd,BX K "checked_gains" "checked_gains" aO t.f_7 fd
 m_48:mg "flows_by"=some (.ref t.f_48)
 d_48:∃fd,BX K "flows_by" "flows_by" W2 t.f_48 fd
 m_16:mg "first_wrong"=some (.ref t.f_16)
 d_16:∃fd,BX K "first_wrong" "first_wrong" W3 t.f_16 fd
 m_74:mg "flows"=some (.ref t.f_74)
 d_74:∃fd,BX K "flows" "flows" W4 t.f_74 fd
 m_80:mg "kept"=some (.ref t.f_80)
 d_80:∃fd,BX K "kept" "kept" W5 t.f_80 fd
 m_8:mg "_law_cell_at"=some (.ref t.f_8)
 d_8:∃fd,BX K "_law_cell_at" "_law_cell_at" aP t.f_8 fd
 m_14:mg "_law_stream"=some (.ref t.f_14)
 d_14:∃fd,BX K "_law_stream" "_law_stream" W6 t.f_14 fd
 m_19:mg "_law_power"=some (.ref t.f_19)
 d_19:∃fd,BX K "_law_power" "_law_power" W7 t.f_19 fd
 m_34:mg "_law_word"=some (.ref t.f_34)
 d_34:∃fd,BX K "_law_word" "_law_word" W8 t.f_34 fd
 m_33:mg "_law_sign"=some (.ref t.f_33)
 d_33:∃fd,BX K "_law_sign" "_law_sign" W9 t.f_33 fd
 m_32:mg "_law_rule"=some (.ref t.f_32)
 d_32:∃fd,BX K "_law_rule" "_law_rule" XB t.f_32 fd
 m_13:mg "_law_places"=some (.ref t.f_13)
 d_13:∃fd,BX K "_law_places" "_law_places" XC t.f_13 fd
 m_20:mg "_law_total"=some (.ref t.f_20)
 d_20:∃fd,BX K "_law_total" "_law_total" XD t.f_20 fd
 m_12:mg "_law_joined"=some (.ref t.f_12)
 d_12:∃fd,BX K "_law_joined" "_law_joined" XE t.f_12 fd
 m_31:mg "_law_back"=some (.ref t.f_31)
 d_31:∃fd,BX K "_law_back" "_law_back" XF t.f_31 fd
 m_83:mg "law"=some (.ref t.f_83)
 d_83:∃fd,BX K "law" "law" UT t.f_83 fd
 z_len:mg "len"=none
 z_list:mg "list"=none
 z_reversed:mg "reversed"=none
 z_isinstance:mg "isinstance"=none
 z_range:mg "range"=none
 z_int:mg "int"=none
 z_bool:mg "bool"=none
 z_ValueError:mg "ValueError"=none
 z_tuple:mg "tuple"=none
 z_enumerate:mg "enumerate"=none
 z_min:mg "min"=none
 z_max:mg "max"=none
 z_sum:mg "sum"=none
 z_sorted:mg "sorted"=none
 z_abs:mg "abs"=none
 z_any:mg "any"=none
 z_all:mg "all"=none
 z_zip:mg "zip"=none
 g_LONGEST_TABLE:∃k,mg "LONGEST_TABLE"=some (.int 256 k)
 g_MOST_NODES:∃k,mg "MOST_NODES"=some (.int 9 k)
 g_MOST_GAINS:∃k,mg "MOST_GAINS"=some (.int 729 k)
 x_62:PySem.W.excIn K t.c_62 Ep "ValueError.__new__"=true
 x_63:PySem.W.excIn K t.c_63 Ep "ValueError.__new__"=true
 x_43:PySem.W.excIn K t.c_43 Ep "ValueError.__new__"=true
 x_54:PySem.W.excIn K t.c_54 Ep "ValueError.__new__"=true
 x_29:PySem.W.excIn K t.c_29 Ep "ValueError.__new__"=true
 x_30:PySem.W.excIn K t.c_30 Ep "ValueError.__new__"=true
 xm_72:Zs K t.c_72 t.f_5
 ek_72:MP K t.c_72
 xa_NoRow_at:XA K t.c_72 t.c_44 "at"
 em_54_54:PySem.W.exmOne K (.ref t.c_54) (.ref t.c_54)=some true
 em_29_29:PySem.W.exmOne K (.ref t.c_29) (.ref t.c_29)=some true
 en_54_29:PySem.W.exmOne K (.ref t.c_54) (.ref t.c_29)=some false
def Pl(K:qT)(CR CS:qP):Sp:=λvs H Q E=>∃(r a:qP) (g lo:Int) (g7:qU) (m:Nat) (xs:List V) (n:Int),vs=[.ref r,.ref a,.int n]/\AY H r g lo g7 m/\Ai K H a xs/\(∀x∈xs,Kd H x)/\xs.length<=100 /\
 match BY g xs with
 |none=>∀ns:qU,xs=ns.map V.int->((n<0\/Fi g.toNat g7 ns<=n)->∀H',AH H H'->E (.ref CS) none H')/\(0<=n->n<Fi g.toNat g7 ns->∀q H' w,(Dm g g7 m ns)[n.toNat]?=some w->Dv H H' q w->Q (.ref q) H')
 |some i=>QH CR i H E
inductive KC(CT CW:qP)(vs:List V)(H:Hp)(Q:VK)(E:XK):Prop
 |m (r:qP) (g lo:Int) (g7:qU) (m:Nat) (lf:Int) (tf:qU) (mf:Nat) (z:V):vs=[.ref r,z]->AY H r g lo g7 m->A9 g lo g7 m lf tf mf->Fh H z->(Vu CT CW g mf z H E λw ws mw=>(DE g.toNat (Bk g tf mf ws mw) (BM g.toNat (Bk g tf mf ws mw))->∀p H',Dv H H' p (BM g.toNat (Bk g tf mf ws mw))->Q (.ref p) H')/\(¬DE g.toNat (Bk g tf mf ws mw) (BM g.toNat (Bk g tf mf ws mw))->∀H',AH H H'->Q .non H'))->KC CT CW vs H Q E
inductive Hh(vs:List V)(H:Hp)(Q:VK)(z3_:XK):Prop
 |m (c m:Int):vs=[.int c,.int m]->0<=m->m<=300->(∀(r:qP) (H':Hp) (l:qU),l.length=m.toNat->(∀x∈l,0<=x/\x<2147483647)->AH H H'->H r=none->H' r=some (.lst (l.map V.int))->Q (.ref r) H')->Hh vs H Q z3_
inductive KD(vs:List V)(H:Hp)(Q:VK)(z3_:XK):Prop
 |m (kind g n:Int) (a:qP) (ws:qU):vs=[.int kind,.int g,.ref a,.int n]->2<=g->H a=some (.lst (ws.map V.int))->(∀x∈ws,0<=x/\x<g)->2<=ws.length->(kind=1->g%2=0)->(kind=2->3<=g)->(∀v,0<=v->v<g->Q (.int v) H)->KD vs H Q z3_
inductive KE(vs:List V)(H:Hp)(Q:VK)(z3_:XK):Prop
 |m (g c lo:Int):vs=[.int g,.int c,.int lo]->2<=g->g<=6->(∀(r:qP) (H':Hp) (g7:qU) (m:Nat),AH H H'->AY H' r g lo g7 m->(m=2\/(m=3/\g=2))->Q (.ref r) H')->KE vs H Q z3_
inductive F6(vs:List V)(H:Hp)(Q:VK)(z3_:XK):Prop
 |m (r:qP) (g lo:Int) (g7:qU) (m:Nat):vs=[.ref r]->AY H r g lo g7 m->(m=2\/(m=3/\g=2))->Q (.int (m:Nat)) H->F6 vs H Q z3_
noncomputable def F7(ws ring:qU):Int:=(ring.map λs=>ws.getD s.toNat 0).sum
inductive Hi(vs:List V)(H:Hp)(Q:VK)(z3_:XK):Prop
 |m (w a:qP) (ws ring:qU):vs=[.ref w,.ref a]->H w=some (.lst (ws.map V.int))->H a=some (.lst (ring.map V.int))->(∀x∈ring,0<=x/\x<(ws.length:Int))->ring.length<=900->(∀H',AH H H'->Q (.int (F7 ws ring)) H')->Hi vs H Q z3_
inductive F8(vs:List V)(H:Hp)(Q:VK)(z3_:XK):Prop
 |m (r r' w:qP) (g lo lo':Int) (g7 tab':qU) (m m':Nat) (ws:qU):vs=[.ref r,.ref r',.ref w]->AY H r g lo g7 m->AY H r' g lo' tab' m'->(m=2\/(m=3/\g=2))->(m'=2\/(m'=3/\g=2))->g<=6->H w=some (.lst (ws.map V.int))->ws.length=g.toNat->Kp g lo g7 m ws 1->Kp g lo' tab' m' ws 1->(∀H',AH H H'->Q (.bl true) H')->F8 vs H Q z3_
inductive KG(vs:List V)(H:Hp)(Q:VK)(z3_:XK):Prop
 |m (r p:qP) (g lo:Int) (g7:qU) (m:Nat) (lf:Int) (tf:qU) (mf:Nat) (rs:List qP) (rings Rs:List (qU)) (fs:List Nat):vs=[.ref r,.ref p]->AY H r g lo g7 m->A9 g lo g7 m lf tf mf->g^(mf-1)<=7->Gv H p rs (B5 g.toNat Rs fs g.toNat)->C6 g lf tf mf rings Rs fs->(∀H',AH H H'->Q (.bl true) H')->KG vs H Q z3_
theorem UU{g:Int}(g2:2<=g){lo lo':Int}{g7 tab':qU}{m m':Nat}(tb:∀n∈g7,0<=n/\n<g)(tb':∀n∈tab',0<=n/\n<g)(bk:∀ring:qU,(∀x∈ring,0<=x/\x<g)->1<=ring.length->Al g lo' tab' m' (Al g lo g7 m ring)=ring)(w:qU):Kp g lo g7 m w 1↔Kp g lo' tab' m' w 1:=by
 constructor
 ·intro k ring rb n1
  obtain⟨R,hR,lR,e⟩:∃R:qU,(∀x∈R,0<=x/\x<g)/\R.length=ring.length/\Al g lo g7 m R=ring:=by
   have gp:=RW.Aa g2 ring.length
   have wm:∀{u:qU},u∈CZ g ring.length->(∀x∈u,0<=x/\x<g)/\u.length=ring.length:=λ{u} hu=>by unfold CZ at hu;obtain⟨k,_,rfl⟩:=bR.mp hu;exact⟨BQ g2 _ _,Au ..⟩
   have mw:∀{u:qU},(∀x∈u,0<=x/\x<g)->u.length=ring.length->u∈CZ g ring.length:=λ{u} hu lu=>by have b:=BL g2 hu;rw[lu]at b;refine bR.mpr ⟨(Ao g u).toNat,bW.mpr (by lia),?_⟩;have z:=CF g2 hu;rw[lu]at z;rw[show (((Ao g u).toNat:Nat):Int)=Ao g u by lia];exact z
   have ndW:(CZ g ring.length).Nodup:=by unfold CZ;refine List.Pairwise.map _ (λa b ab e=>?_) (List.Pairwise.and_mem.mp (List.pairwise_lt_range (n:=(g^ring.length).toNat)));obtain⟨ha,hb,ab⟩:=ab;have ha:=bW.mp ha;have hb:=bW.mp hb;have e:=qN (Ao g) e;rw[C3 g2 (by lia) (by lia),C3 g2 (by lia) (by lia)]at e;lia
   have nd:((CZ g ring.length).map (Al g lo g7 m)).Nodup:=by refine List.Pairwise.map _ (λa b ab e=>?_) (List.Pairwise.and_mem.mp ndW);obtain⟨ha,hb,ab⟩:=ab;obtain⟨a1,a2⟩:=wm ha;obtain⟨b1,b2⟩:=wm hb;refine ab ?_;rw[<-bk a a1 (by lia),<-bk b b1 (by lia),e]
   have:=J7 nd (A:=CZ g ring.length) (λu hu=>by obtain⟨v,hv,rfl⟩:=bR.mp hu;exact mw (Bx g2 lo tb m v) (by rw[A3];exact (wm hv).2)) (by rw[a9];exact bD _) ring (mw rb rfl)
   obtain⟨R,h1,h2⟩:=bR.mp this;exact⟨R,(wm h1).1,(wm h1).2,h2⟩
  rw[<-e,bk R hR (by lia)];exact (k R hR (by lia)).symm
 ·intro k ring rb n1;have:=k (Al g lo g7 m ring) (Bx g2 lo tb m ring) (by rw[A3];exact n1);rw[bk ring rb n1]at this;exact this.symm
theorem Fc{g:Int}(ws:qU){ring:qU}(rb:∀x∈ring,0<=x/\x<g):(Al g 0 ws 1 ring).sum=F7 ws ring:=by
 unfold F7
 congr 1
 refine Aq (by rw[A3,a9]) λi hi=>?_;rw[A3]at hi;unfold Al;rw[AS hi,a8 (l:=ring.map _),bF,bA hi];show ws.getD (Ao g [Ah ring ((i:Int)+0+((0:Nat):Int))]).toNat 0=ws.getD (ring[i]).toNat 0;rw[Tw];unfold Ah;rw[show (i:Int)+0+((0:Nat):Int)=(i:Int) by lia,cE (by lia) (by lia),bI,a8 (l:=ring),bA hi];rfl
theorem NR:∀(n:Nat) (f:Nat->Int),Ae n f=Ae n λk=>f (n-1-k)
 |0,_=>rfl
 |n+1,f=>by
  rw[AX n f,NR n f,show n+1=1+n by lia,Bu 1 n,show Ae 1 (λk=>f (1+n-1-k))=f n by show Ae (0+1) _=_;rw[AX,A8,bg];congr 1;lia,dR]
  congr 1
  exact AT λk hk=>by congr 1;lia
theorem Fd(ws:qU){ring:qU}(n1:1<=ring.length):F7 ws (Bi ring)=F7 ws ring:=by
 have key:∀l:qU,F7 ws l=Ae l.length λi=>ws.getD (l.getD i 0).toNat 0:=λl=>by
  unfold F7 Ae
  congr 1
  refine List.ext_getElem (by simp) λi h1 h2=>?_;rw[a9]at h1;simp[h1]
 rw[key,key,Bb];obtain⟨n,hn⟩:∃n,ring.length=1+n:=⟨ring.length-1,by lia⟩
 have at':∀i,i<ring.length->(Bi ring).getD i 0=ring.getD ((ring.length-i)%ring.length) 0:=λi hi=>by
  unfold Bi;rw[AS hi];unfold Ah
  congr 1
  rw[show (0-(i:Int))%(ring.length:Int)=(((ring.length-i)%ring.length:Nat):Int) by rw[cW,show (((ring.length-i:Nat):Nat):Int)=(ring.length:Int)-(i:Int) by lia,<-Int.add_emod_left (ring.length:Int) (0-(i:Int))];congr 1;lia,bI]
 rw[AT λi hi=>by rw[at' i hi],hn,Bu 1 n,Bu 1 n (λi=>ws.getD (ring.getD i 0).toNat 0)]
 congr 1
 ·exact AT λk hk=>by rw[show k=0 by lia,Nat.sub_zero,Nat.mod_self]
 ·rw[NR n];exact AT λk hk=>by rw[Nat.mod_eq_of_lt (by lia)];congr 3;lia
theorem Qu{ring:qU}(n1:1<=ring.length):Bi (Bi ring)=ring:=by
 have at':∀z:Int,Ah (Bi ring) z=Ah ring (0-z):=λz=>by have e:=JM n1 1 z;rw[show AZ (Bi ring) 1 z=[Ah (Bi ring) (z+((0:Nat):Int))] from rfl,show AZ ring 1 (1-z-((1:Nat):Int))=[Ah ring (1-z-((1:Nat):Int)+((0:Nat):Int))] from rfl,List.reverse_singleton]at e;have e:=List.singleton_inj.mp e;rw[show z+((0:Nat):Int)=z by lia,show 1-z-((1:Nat):Int)+((0:Nat):Int)=0-z by lia]at e;exact e
 refine Aq (by rw[Bb,Bb]) λi hi=>?_;rw[Bb,Bb]at hi
 have:(Bi (Bi ring)).getD i 0=Ah (Bi ring) (0-(i:Int)):=by show ((List.range (Bi ring).length).map λi:Nat=>Ah (Bi ring) (0-(i:Int))).getD i 0=_;exact AS (by rw[Bb];exact hi)
 rw[this,at'];unfold Ah;rw[show (0:Int)-(0-(i:Int))=(i:Int) by lia,cE (by lia) (by lia),bI]
theorem Gr{g:Int}(g2:2<=g){lo:Int}{g7:qU}(tb:∀n∈g7,0<=n/\n<g){m:Nat}{w:qU}:Kp g lo g7 m w 1↔∀ring:qU,(∀x∈ring,0<=x/\x<g)->1<=ring.length->F7 w (Al g lo g7 m ring)=F7 w ring:=by
 constructor
 ·intro k ring rb n1;rw[<-Fc w rb,<-Fc w (Bx g2 lo tb m ring)];exact k ring rb n1
 ·intro k ring rb n1;rw[Fc w rb,Fc w (Bx g2 lo tb m ring)];exact k ring rb n1
theorem UV{g:Int}(g2:2<=g){lo:Int}{g7:qU}{m:Nat}(hl:(g7.length:Int)=g^m)(tb:∀n∈g7,0<=n/\n<g)(w:qU):Kp g lo g7 m w 1↔Kp g (1-lo-(m:Int)) (DT g g7 m) m w 1:=by
 rw[Gr g2 tb,Gr g2 (JK g2 tb m)];constructor
 ·intro k ring rb n1;have b1:1<=(Bi ring).length:=by rw[Bb];exact n1
  have e:=JN (lo:=lo) g2 hl (GQ g2 rb) b1;rw[Qu n1]at e;rw[e,Fd w (by rw[A3];exact b1),k _ (GQ g2 rb) b1,Fd w n1]
 ·intro k ring rb n1;have e:=JN (lo:=lo) g2 hl rb n1;have z:=k (Bi ring) (GQ g2 rb) (by rw[Bb];exact n1);rw[e,Fd w (by rw[A3];exact n1),Fd w n1]at z;exact z
theorem UW{g:Int}(g2:2<=g){lo lo':Int}{g7:qU}{m:Nat}(m1:1<=m)(w:qU):Kp g lo g7 m w 1↔Kp g lo' g7 m w 1:=by
 constructor
 ·intro k ring rb n1;rw[DN g2 lo' g7 m1 w (bD 1) rb n1,<-DN g2 lo g7 m1 w (bD 1) rb n1];exact k ring rb n1
 ·intro k ring rb n1;rw[DN g2 lo g7 m1 w (bD 1) rb n1,<-DN g2 lo' g7 m1 w (bD 1) rb n1];exact k ring rb n1
theorem MB{g:Int}(g2:2<=g){lo:Int}{g7:qU}(tb:∀n∈g7,0<=n/\n<g)(m:Nat):Kp g lo g7 m (List.replicate g.toNat 1) 1:=by
 rw[Gr g2 tb];intro ring rb n1
 have key:∀l:qU,(∀x∈l,0<=x/\x<g)->F7 (List.replicate g.toNat 1) l=l.length:=by
  intro l
  induction l with
  |nil=>intro _;rfl
  |cons x l ih =>
   intro h;have hx:=h x bf;have ih:=ih λy hy=>h y (be _ hy)
   unfold F7 at ih⊢;rw[cI,fJ,ih,a8,cC,qD (by lia),cK];show (1:Int)+_=_;lia
 rw[key _ rb,key _ (Bx g2 lo tb m ring),A3]
theorem Qv{g:Int}(g2:2<=g){lo:Int}{g7:qU}{m:Nat}(tl:(g7.length:Int)=g^m)(tb:∀n∈g7,0<=n/\n<g){lf:Int}{tf:qU}{mf:Nat}(fw:A9 g lo g7 m lf tf mf)(mf8:mf<=8){rings Rs:List (qU)}{fs:List Nat}(B:C6 g lf tf mf rings Rs fs):B5 g.toNat Rs fs g.toNat≠[]:=λe=>by
 have hw:=(Gp g2 tl tb fw mf8 B (bP ..)).mpr (MB g2 (lo:=lo) tb m)
 have z:=NQ B.rows hw (λi hi ni=>by have hm:Bl g.toNat Rs fs i∈B5 g.toNat Rs fs g.toNat:=bR.mpr ⟨i,bv.mpr ⟨bW.mpr hi,qF ni⟩,rfl⟩;rw[e]at hm;exact qE hm cM) 0 (by lia)
 rw[a8,cC,qD (by lia)]at z;cases z
theorem Sv{ws:List (qU)}(h:ws≠[]):PyData.eqv (L9 ws) (.list [])=false:=by
 cases ws with
 |nil=>exact qE rfl h
 |cons w ws=>simp[L9,PyData.eqv,PyData.eqvAll]
theorem Ol{K:qT}{C:qP}{H:Hp}{r a:qP}{g lo:Int}{g7:qU}{m:Nat}{ring:qU}{Q:VK}{E:XK}(ok:AY H r g lo g7 m)(h:H a=some (.lst (ring.map V.int)))(rb:∀x∈ring,0<=x/\x<g)(n1:1<=ring.length)(n8:ring.length<=800)(q:∀p H',Dv H H' p (Al g lo g7 m ring)->Q (.ref p) H'):FP K C [.ref r,.ref a] H Q E:=
 ⟨r,a,g,lo,g7,m,_,rfl,ok.g2,ok.g9,ok.v,ok.len,ok.m1,ok.m8,ok.tb,Ai.of h,Co,by rw[a9];exact n8,by rw[KR rb n1];exact λns' e p H' n=>q p H' (by rw[CV e];exact n)⟩
theorem MC{CT CW:qP}{H:Hp}{r w:qP}{g lo:Int}{g7:qU}{m:Nat}{lf:Int}{tf:qU}{mf:Nat}{ws:qU}{Q:VK}{E:XK}(ok:AY H r g lo g7 m)(fw:A9 g lo g7 m lf tf mf)(sm:g^(mf-1)<=6)(g6:g<=6)(h:H w=some (.lst (ws.map V.int)))(wl:ws.length=g.toNat)(q:∀(b:Bool) H',AH H H'->(b=true↔Kp g lo g7 m ws 1)->Q (.bl b) H'):Jh CT CW [.ref r,.ref w] H Q E:=by
 have g2:=ok.g2;have g1:g^1=g:=by rw[bq,cN,cj]
 have gp:=RW.Aa g2 (mf-1);have wg:(ws.length:Int)=g^1:=by rw[g1];lia
 refine⟨r,g,lo,g7,m,lf,tf,mf,.ref w,rfl,ok,fw,⟨_,.inl h,Co⟩,.inr (.inr ⟨w,ws,1,by lia,rfl,h,wg,bD 1,.inr ⟨?_,λb H' e hb=>q b H' e (hb.trans (Ju g2 ok.len fw wg (bD 1)))⟩⟩)⟩;have:=c8 sm (show (ws.length:Int)<=6 by lia) (by lia) (by decide);lia
theorem aQ{l:qU}{x:Int}(ll:l.length=(x+2).toNat)(x0:0<=x):((MT l (some 2) none).length:Int)=x:=by have ea:HT.KN l.length 0 (some 2)=min 2 l.length:=rfl;have eb:HT.KN l.length l.length none=l.length:=rfl;unfold MT;rw[ea,eb,b9,cA,Nat.min_self,fq (by lia),ll];lia
section
variable{P:qR}{w:qS}{K:qT}{mg:Str->Option qO}{base:Heap}{t:a6}
theorem aR:AI ["self","at"] ["self","at"] (AG aE):=By
theorem aS(T:Bw K mg t) :Aj P w K mg base 1 t.f_5 ["self","at"] (JA K t.c_72 t.c_44):=by refine Aw T.d_5 aR λvs H Q E h=>?_;obtain⟨a,n,y,rfl,ea,q⟩:=h;refine⟨rfl,λgh A outer s hr=>?_⟩;refine⟨_,(AE (Vh (pv 0) (pv 1))),?_⟩;walk_at "";exact⟨_,_,n,ea,T.xa_NoRow_at,q⟩
theorem YH:AI ["thing"] ["thing"] (AG V7):=By
theorem YI(T:Bw K mg t) :Aj P w K mg base 1 t.f_50 ["thing"] (GK):=by
 refine Aw T.d_50 YH λvs H Q E h=>?_;obtain⟨x,rfl,kd,q⟩:=h;refine⟨rfl,λgh A outer s hr=>?_⟩;refine⟨_,(AE (AM (Il (Nr rfl T.z_isinstance (pv 0) (MS rfl T.z_int PyProof.Rows.boot_int)) (Ik (Q0 (Nr rfl T.z_isinstance (pv 0) (MS rfl T.z_bool PyProof.Rows.boot_bool))))))),?_⟩;walk_at "";cases x with
 |int i =>
  refine⟨_,.of (.int i),_,Xr,?_⟩;rw[qD rfl];exact⟨_,.of (.int i),_,Xs,q⟩
 |bl b =>
  refine⟨_,.of (.bl b),_,Xt,?_⟩;rw[qD rfl];exact⟨_,.of (.bl b),_,Xu,q⟩
 |non =>
  refine⟨_,.of .non,_,Xv,?_⟩;rw[qC (by decide)];exact q
 |str y =>
  refine⟨_,.of (.str y),_,Xw,?_⟩;rw[qC (by decide)];exact q
 |ref a =>
  obtain⟨xs,z|z⟩:=kd
  ·refine⟨_,.of (.lst z),_,Xx,?_⟩;rw[qC (by decide)];exact q
  ·refine⟨_,.of (.tup z),_,Xz,?_⟩;rw[qC (by decide)];exact q
 |byt _=>exact kd.elim
 |flt _=>exact kd.elim
 |ty _=>exact kd.elim
theorem YJ:AI ["thing","signs"] ["thing","signs"] (AG V8):=By
theorem YK(T:Bw K mg t)(G_50:Aj P w K mg base 1 t.f_50 ["thing"] (GK)):Aj P w K mg base 2 t.f_56 ["thing","signs"] (Ld):=by
 refine Aw T.d_56 YJ λvs H Q E h=>?_;obtain⟨x,g,rfl,kd,q⟩:=h;refine⟨rfl,λgh A outer s hr=>?_⟩;refine⟨_,(AE (AM (Il (AK hr G_50 T.m_50 (AA (pv 0) AB)) (Il (Cm Q9 AF (pv 0) (AR _)) (Ik (Cm Dp (pv 0) (pv 1) (AR _))))))),?_⟩;walk_at "";refine⟨x,rfl,kd,?_⟩;cases x with
 |int i =>
  walk_at "";simp only[RZ]at q
  by_cases h:0<=i
  ·rw[qF h,Bool.true_and]at q;rw[qD h];exact q
  ·rw[qG h,Bool.false_and]at q;rw[qC h];exact q
 |_=>exact⟨false,rfl,G5 q⟩
theorem Sw:AI ["word","signs","at","thing"] ["word","signs"] (AG V9):=By
theorem YL(T:Bw K mg t)(G_56:Aj P w K mg base 2 t.f_56 ["thing","signs"] (Ld))(G_5:Aj P w K mg base 1 t.f_5 ["self","at"] (JA K t.c_72 t.c_44)):Aj P w K mg base 3 t.f_22 ["word","signs"] (EE K t.c_72):=by
 refine CK T.d_22 Sw λvs H Q E h=>?_;obtain⟨a,xs,g,rfl,hS,kd,h⟩:=h;refine⟨rfl,λgh A outer s hr=>?_⟩;refine⟨_,(AE (A7 PassesOwn.leaving rfl (GI rfl T.z_enumerate (AA (pv 0) AB)) (Fo rfl (Bd (BI 2 Sw) (Bd (BI 3 Sw) EB))) (AE (A6 (EA (Cv (AK hr G_56 T.m_56 (AA (pv 3) (AA (pv 1) AB))))) (AE (G7 rfl T.xm_72 G_5 (hr.mono (by decide)) rfl T.m_72 ED (AA (pv 2) AB))) Af)))),?_⟩;refine⟨_,rfl,a,xs,rfl,hS,?_⟩;refine GJ (xs:=xs) (λi σ H1=>BY g (xs.take i)=none/\(∃x2 x3,σ=[some (.ref a),some (.int g),x2,x3])/\AH H H1) ⟨rfl,⟨none,none,rfl⟩,AH.refl _⟩ (λi σ H1 _ z=>z.2.2.seq hS) ?_ ?_
 ·rintro i x p σ H1 hx ⟨hb,⟨x2,x3,rfl⟩,e⟩ hp;have e2:AH H (Ak H1 p (.tup [.int ((i:Nat):Int),x])):=e.trans (AH.new hp _);refine⟨p,_,rfl,Am.of AD,rfl,_,_,rfl,_,_,rfl,rfl,?_⟩;walk_at "";refine⟨x,g,rfl,(kd x (bE hx)).same e2,?_⟩;cases hs:RZ g x with
  |true =>
   walk_at "";exact⟨Ft hb hx hs,⟨_,rfl⟩,e2⟩
  |false =>
   walk_at "";refine⟨by decide,λea hea=>⟨ea,true,_,rfl,AD,λdx hdx=>⟨rfl,some dx,?_,?_⟩⟩⟩
   ·rw[AJ (Ne.symm (C7 hdx).1),AD]
   ·rw[Fu hb hx hs]at h;exact h _ dx (Fs e2 hea hdx) (by rw[Cn (C7 hdx).1,AD])
 ·rintro σ H1 ⟨hb,_,e⟩;rw[br]at hb;rw[hb]at h;exact h H1 e
theorem aT:AI ["word","signs","many"] ["word","signs","many"] (AG aG):=By
theorem aU(T:Bw K mg t)(G_22:Aj P w K mg base 3 t.f_22 ["word","signs"] (EE K t.c_72))(G_5:Aj P w K mg base 1 t.f_5 ["self","at"] (JA K t.c_72 t.c_44)):Aj P w K mg base 4 t.f_9 ["word","signs","many"] (Fv K t.c_72):=by
 refine CK T.d_9 aT λvs H Q E h=>?_;obtain⟨a,xs,g,m,rfl,hS,kd,h⟩:=h;refine⟨rfl,λgh A outer s hr=>?_⟩
 refine⟨_,(AC (Ay (An G_22 (hr.mono (by decide)) rfl T.m_22 Ac (AA (Ir LQ (pv 0) Ow (IM (pv 2))) (AA (pv 1) AB))))
  (AE (A6 (AN GC (Ag (IK K) rfl T.z_len bu (AA (pv 0) AB)) (pv 2) (AR _)) (AE (G7 rfl T.xm_72 G_5 (hr.mono (by decide)) rfl T.m_72 ED (AA (Ag (P5 rfl) rfl T.z_min PyProof.Rows.boot_min (AA (Ag (IK K) rfl T.z_len bu (AA (pv 0) AB)) (AA (pv 2) AB))) AB))) Af))),?_⟩
 walk_at "";refine N1 hS λp H1 e1 _ h1=>?_;rw[Tu]at h1;refine⟨p,_,g,rfl,Ai.of h1,λx hx=>(kd x (cO hx)).same e1,?_⟩;unfold E1 at h;cases hb:BY g (xs.take m) with
 |some i =>
  rw[hb]at h;exact QH.same e1 h
 |none =>
  rw[hb]at h;dsimp only at h;intro H2 e2;refine⟨xs,.inl ((e1.trans e2).seq hS),?_⟩
  by_cases hl:xs.length=m
  ·rw[qD hl]at h;rw[qC (by lia)];exact h _ (e1.trans e2)
  ·rw[qC hl]at h;rw[qD (by lia)];refine⟨xs,.inl ((e1.trans e2).seq hS),by decide,λea hea=>⟨ea,true,_,rfl,AD,λdx hdx=>⟨rfl,some dx,?_,?_⟩⟩⟩
   ·rw[AJ (Ne.symm (C7 hdx).1),AD]
   ·refine h _ dx (Fs (e1.trans e2) hea hdx) ?_;rw[Cn (C7 hdx).1,AD];have e:(if (m:Int)<(xs.length:Int) then (m:Int) else (xs.length:Int))=((min xs.length m:Nat):Int):=by split<;>lia
    rw[e]
theorem aV:AI ["word","signs","fewest"] ["word","signs","fewest"] (AG aH):=By
theorem aW(T:Bw K mg t)(G_22:Aj P w K mg base 3 t.f_22 ["word","signs"] (EE K t.c_72))(G_5:Aj P w K mg base 1 t.f_5 ["self","at"] (JA K t.c_72 t.c_44)):Aj P w K mg base 4 t.f_1 ["word","signs","fewest"] (EH K t.c_72):=by
 refine CK T.d_1 aV λvs H Q E h=>?_;obtain⟨a,xs,g,m,rfl,hS,kd,h⟩:=h;refine⟨rfl,λgh A outer s hr=>?_⟩
 refine⟨_,(AC (Ay (An G_22 (hr.mono (by decide)) rfl T.m_22 Ac (AA (pv 0) (AA (pv 1) AB))))
  (AE (A6 (AN Dp (Ag (IK K) rfl T.z_len bu (AA (pv 0) AB)) (pv 2) (AR _)) (AE (G7 rfl T.xm_72 G_5 (hr.mono (by decide)) rfl T.m_72 ED (AA (Ag (IK K) rfl T.z_len bu (AA (pv 0) AB)) AB))) Af))),?_⟩
 walk_at "";refine⟨a,xs,g,rfl,hS,kd,?_⟩;cases hb:BY g xs with
 |some i =>
  rw[Mf hb]at h;exact h
 |none =>
  unfold CA at h;rw[hb]at h;dsimp only at h;intro H1 e;refine⟨xs,.inl (e.seq hS),?_⟩
  by_cases z:xs.length<m
  ·rw[qD z]at h;rw[qD (by lia)];refine⟨xs,.inl (e.seq hS),by decide,λea hea=>⟨ea,true,_,rfl,AD,λdx hdx=>⟨rfl,some dx,?_,?_⟩⟩⟩
   ·rw[AJ (Ne.symm (C7 hdx).1),AD]
   ·refine h _ dx (Fs e hea hdx) ?_;rw[Cn (C7 hdx).1,AD]
  ·rw[qC z]at h;rw[qC (by lia)];exact h _ e
theorem Pm:AI ["word","signs","number","sign"] ["word","signs"] (AG WA):=By
theorem YM(T:Bw K mg t)(G_22:Aj P w K mg base 3 t.f_22 ["word","signs"] (EE K t.c_72)):Aj P w K mg base 4 t.f_41 ["word","signs"] (GL K t.c_72):=by
 refine CK T.d_41 Pm λvs H Q E h=>?_;obtain⟨a,xs,g,rfl,g2,g9,hS,kd,h⟩:=h;refine⟨rfl,λgh A outer s hr=>?_⟩
 refine⟨_,(AC (Ay (An G_22 (hr.mono (by decide)) rfl T.m_22 Ac (AA (pv 0) (AA (pv 1) AB))))
  (AC (AQ 2 Pm AF)
  (AC (PS.nox (A7 PassesOwn.never rfl (Ka K (pv 0)) (BI 3 Pm) (AE (AQ 2 Pm (AL BF (AL Cd (pv 2) (pv 1)) (pv 3))))))
  (AE (AM (pv 2)))))),?_⟩
 walk_at "";refine⟨a,xs,g,rfl,hS,kd,?_⟩;cases hb:BY g xs with
 |some i =>
  rw[hb]at h;exact h
 |none =>
  rw[hb]at h;obtain⟨ns,rfl,hns⟩:=Cz hb;intro H1 e;refine⟨_,rfl,a,rfl,⟨_,e.seq hS⟩,?_⟩;refine Be (xs:=ns.map V.int) (λi σ H2=>(∃x3,σ=[some (.ref a),some (.int g),some (.int (Ao g (ns.take i))),x3])/\H2=H1) ⟨⟨none,rfl⟩,rfl⟩ (λi σ H2 _ z=>by rw[z.2];exact e.seq hS) ?_ ?_
  ·refine Fl ?_;rintro _ _ i x _ hGo σ H2 hx ⟨⟨x3,rfl⟩,rfl⟩;refine hGo _ _ ?_;obtain⟨n,hn,rfl⟩:=B8 hx;walk_at "";refine⟨.inr ⟨by lia,by lia⟩,?_⟩;rw[MZ hn];exact⟨rfl,_,rfl⟩
  ·rintro σ H2 ⟨⟨x3,rfl⟩,rfl⟩;walk_at "";rw[a9,br];exact h ns rfl _ e
theorem Pn:AI ["number","signs","many","backwards","rest"] ["number","signs","many"] (AG WC):=By
theorem YN(T:Bw K mg t) :KP P w K mg base 1 t.f_61 ["number","signs","many"] (EF t.c_63):=by
 refine Tp T.d_61 Pn (λ_ _ _ _ _ _=>b3 λ_ _ _=>rfl) (λvs H Q E h=>?_) (λgh A outer s H vs Q E hr h=>?_)
 ·obtain⟨n,g,m,rfl,g2,g9,m0,m3,hbad,hgood⟩:=h;rfl
 obtain⟨n,g,m,rfl,g2,g9,m0,m3,hbad,hgood⟩:=h
 refine⟨_,(AC (A6 (AN Dp (pv 0) AF (AR _)) (AE (BK rfl T.x_63 rfl T.m_63 Ap (AA Bq AB))) Af)
  (AC (AQ 3 Pn (BO AB))
  (AC (AQ 4 Pn (pv 0))
  (AC (PS.nox (Do PassesOwn.never (AN Dp (Ag (IK K) rfl T.z_len bu (AA (pv 3) AB)) (pv 2) (AR _)) (AC (Ay (Nf K (pv 3) (AA (AL BS (pv 4) (pv 1)) AB)))
  (AE (AQ 4 Pn (AL B4 (pv 4) (pv 1)))))))
  (AC (A6 (AN Dq (pv 4) AF (AR _)) (AE (BK rfl T.x_63 rfl T.m_63 Ap (AA Bq AB))) Af)
  (AE (AM (La rfl rfl T.z_reversed rfl T.z_list (AA (pv 3) AB))))))))),?_⟩
 walk_at ""
 by_cases hn:n<0
 ·rw[qD hn];exact⟨by decide,hbad (.inl hn) H (AH.refl H)⟩
 rw[qC hn];refine⟨cJ _,λp hp=>?_⟩
 refine El (λσ H1=>∃i:Nat,i<=m.toNat/\σ=[some (.int n),some (.int g),some (.int m),some (.ref p),some (.int (dr g n i))]/\H1=Ak H p (.lst ((C1 g n i).map V.int)))
  (λσ H1=>match H1 p with|some (.lst xs)=>m.toNat-xs.length|_=>0) ⟨0,cJ _,rfl,rfl⟩ ?_ ?_
 ·rintro σ H1 ⟨i,hi,rfl,rfl⟩;walk_at "";have hl:((C1 g n i).map V.int).length=i:=by rw[a9,C9]
  refine⟨_,.inl (Ai.of AD),?_⟩;rw[hl]
  by_cases hlt:(i:Int)<m
  ·rw[qD hlt];refine⟨.inl ⟨_,Ai.of AD⟩,by lia,_,AD,by rw[hl];exact AU (by lia),by lia,by lia,⟨i+1,by lia,rfl,?_⟩,?_⟩
   ·rw[Dc,C1,bH];rfl
   ·rw[AD,AD];show m.toNat-(List.map V.int (C1 g n i)++[V.int (dr g n i%g)]).length<m.toNat-(List.map V.int (C1 g n i)).length;rw[bC,hl];simp only[List.length_cons,List.length_nil];lia
  ·rw[qC hlt];have ei:i=m.toNat:=by lia
   by_cases hd:0<dr g n i
   ·rw[qD hd];refine⟨by decide,hbad (.inr (Int.not_lt.mp λz=>?_)) _ (AH.new hp _)⟩;rw[ei,PB g2 (by lia) z]at hd;lia
   ·rw[qC hd];refine⟨_,Ai.of AD,λr hr'=>hgood (by lia) (Int.not_le.mp λz=>?_) r _ ⟨(AH.new hp _).trans (AH.new hr' _),(C7 hr').2,?_⟩⟩
    ·rw[ei]at hd;exact hd (Vm g2 z)
    ·rw[AD,ei,fg]
 ·intro σ H1 Q1 Q2 hq;walk_at "";rintro⟨v,h1,p,h2,x,h3,v2,h4,x1,h5,h6⟩;exact⟨v,h1,p,h2,x,h3,v2,h4,x1,h5,hq _ _ h6⟩
theorem YO:AI ["signs","low"] ["signs","low"] (AG WD):=By
theorem YQ(T:Bw K mg t)(G_50:Aj P w K mg base 1 t.f_50 ["thing"] (GK)):Aj P w K mg base 2 t.f_21 ["signs","low"] (N3 t.c_62):=by
 refine CK T.d_21 YO λvs H Q E h=>?_;obtain⟨x,y,rfl,kx,ky,hg,hbad⟩:=h;refine⟨rfl,λgh A outer s hr=>?_⟩
 refine⟨_,(AC (A6 (PW.pt (Dd (EA (Cv (AK hr G_50 T.m_50 (AA (pv 0) AB)))) (Dd (AN Dp (pv 0) AF (AR _)) (Di (AN Dq (pv 0) AF (AR _)))))) (AE (BK rfl T.x_62 rfl T.m_62 Ap (AA Bq AB))) Af)
  (AE (A6 (EA (Cv (AK hr G_50 T.m_50 (AA (pv 1) AB)))) (AE (BK rfl T.x_62 rfl T.m_62 Ap (AA Bq AB))) Af))),?_⟩
 walk_at "";refine⟨x,rfl,kx,ME x,rfl,?_⟩;cases x with
 |int g =>
  show if true=false then _ else _;rw[qC (by decide)];refine⟨g,rfl,?_⟩
  by_cases h2:g<2
  ·rw[qD h2];exact⟨by decide,hbad (by show ((decide (2<=g)&&decide (g<=9))&&ME y)=false;rw[qG (p:=2<=g) (by lia)];rfl)⟩
  rw[qC h2];refine⟨g,rfl,?_⟩
  by_cases h9:9<g
  ·rw[qD h9];exact⟨by decide,hbad (by show ((decide (2<=g)&&decide (g<=9))&&ME y)=false;rw[qG (p:=g<=9) (by lia),ej];rfl)⟩
  rw[qC h9]
  have e:DS (.int g) y=ME y:=by show ((decide (2<=g)&&decide (g<=9))&&ME y)=ME y;rw[qF (p:=2<=g) (by lia),qF (p:=g<=9) (by lia)];rfl
  rw[e]at hg hbad;refine⟨y,rfl,ky,ME y,rfl,?_⟩;cases hy:ME y with
  |false =>
   rw[qD rfl];exact⟨by decide,hbad hy⟩
  |true =>
   rw[qC (by decide)];exact hg hy
 |_ =>
  show if false=false then _ else _;rw[qD rfl];exact⟨by decide,hbad rfl⟩
theorem NT:AI ["signs","length","many","words"] ["signs","length"] (AG WE):=By
theorem YR(T:Bw K mg t) :Aj P w K mg base 1 t.f_27 ["signs","length"] (Ch):=by
 refine Aw T.d_27 NT λvs H Q E h=>?_;obtain⟨g,n,rfl,g2,g9,hy,hn⟩:=h;refine⟨rfl,λgh A outer s hr=>?_⟩
 refine⟨_,(AC (AQ 2 NT AF)
  (AC (AQ 3 NT AF)
  (AC (Do PassesOwn.never (AN Dp (pv 3) (pv 1) (AR _)) (AC (AQ 3 NT (AL Cd (pv 3) (pv 0)))
  (AE (AQ 2 NT (AL BF (pv 2) AF)))))
  (AC (A6 (AN Bo (pv 3) (pv 1) (AR _)) (AE (AM (pv 2))) Af)
  (AE (AM AF)))))),?_⟩
 walk_at ""
 refine El (λσ H1=>∃i:Nat,σ=[some (.int g),some (.int n),some (.int ((i:Nat):Int)),some (.int (g^i))]/\H1=H/\∀j,j<i->g^j<n)
  (λ(σ:St) (H1:Hp)=>match σ[3]? with|some (some (V.int x))=>(n-x).toNat|_=>0) ⟨0,by rw[cN];rfl,rfl,λj hj=>qE hj (ce _)⟩ ?_ ?_
 ·rintro σ H1 ⟨i,rfl,rfl,hj⟩;have gp:=RW.Aa g2 i;walk_at ""
  by_cases hlt:g^i<n
  ·rw[qD hlt];refine⟨.inr ⟨by lia,by lia⟩,⟨i+1,rfl,?_,λj hj2=>?_⟩,?_⟩
   ·rw[bq]
   ·by_cases z:j=i
    ·rw[z];exact hlt
    ·exact hj j (by lia)
   ·have:g^i<g^i*g:=by
     have:=dH g2 (cn gp);lia
    lia
  ·rw[qC hlt]
   by_cases he:g^i=n
   ·rw[qD he];exact hy i he.symm
   ·rw[qC he];refine hn λm z=>?_
    by_cases hm:m<i
    ·have:=hj m hm;lia
    ·have:=Bf g2 (Nat.le_of_not_lt hm);lia
 ·intro σ H1 Q1 Q2 hq;walk_at "";rintro⟨v,h1,v2,h2,i,h3,x,h4,h5⟩;exact⟨v,h1,v2,h2,i,h3,x,h4,hq _ _ h5⟩
theorem NU:AI ["signs","many","length","done"] ["signs","many"] (AG WF):=By
theorem YS(T:Bw K mg t) :Aj P w K mg base 1 t.f_11 ["signs","many"] (G9):=by
 refine Aw T.d_11 NU λvs H Q E h=>?_;obtain⟨g,m,rfl,g2,g9,m1,hy,hn⟩:=h;refine⟨rfl,λgh A outer s hr=>?_⟩
 refine⟨_,(AC (AQ 2 NU AF)
  (AC (AQ 3 NU AF)
  (AC (Do PassesOwn.never (PW.pt (Ej (AN Dp (pv 3) (pv 1) (AR _)) (D9 (AN Q9 (pv 2) (Cy rfl T.g_LONGEST_TABLE) (AR _))))) (AC (AQ 2 NU (AL Cd (pv 2) (pv 0)))
  (AE (AQ 3 NU (AL BF (pv 3) AF)))))
  (AE (AM (pv 2)))))),?_⟩
 walk_at ""
 refine El (λσ H1=>∃i:Nat,i<=m.toNat/\σ=[some (.int g),some (.int m),some (.int (g^i)),some (.int ((i:Nat):Int))]/\H1=H)
  (λ(σ:St) (H1:Hp)=>match σ[3]? with|some (some (V.int x))=>(m-x).toNat|_=>0) ⟨0,cJ _,by rw[cN];rfl,rfl⟩ ?_ ?_
 ·rintro σ H1 ⟨i,hi,rfl,rfl⟩;have gp:=RW.Aa g2 i;walk_at ""
  by_cases hlt:(i:Int)<m
  ·rw[qD hlt]
   by_cases hle:g^i<=256
   ·rw[qD hle];exact⟨.inr ⟨by lia,by lia⟩,⟨i+1,by lia,by rw[bq],by lia⟩,by lia⟩
   ·rw[qC hle];have:=Bf g2 hi;exact hn (by lia) _ (by lia)
  ·rw[qC hlt];have ei:i=m.toNat:=by lia
   subst ei
   by_cases hle:g^m.toNat<=256
   ·exact hy hle
   ·exact hn (by lia) _ (by lia)
 ·intro σ H1 Q1 Q2 hq;walk_at "";rintro⟨v,h1,v2,h2,i,h3,x,h4,h5⟩;refine⟨v,h1,v2,h2,i,h3,x,h4,?_⟩
  by_cases z:i<x
  ·rw[qD z]at h5⊢;obtain⟨v3,h6,j,h7,h8⟩:=h5;exact⟨v3,h6,j,h7,hq _ _ h8⟩
  ·rw[qC z]at h5⊢;exact hq _ _ h5
theorem U6:AI ["signs","table","told"] ["signs","table"] (AG WG):=By
theorem YT(T:Bw K mg t)(G_27:Aj P w K mg base 1 t.f_27 ["signs","length"] (Ch))(G_56:Aj P w K mg base 2 t.f_56 ["thing","signs"] (Ld)):Aj P w K mg base 3 t.f_15 ["signs","table"] (Lg t.c_62):=by
 refine CK T.d_15 U6 λvs H Q E h=>?_;obtain⟨g,z,rfl,g2,g9,kz,hg,hbad⟩:=h;refine⟨rfl,λgh A outer s hr=>?_⟩
 refine⟨_,(AC (A6 (EA (Cv (Tj rfl T.z_isinstance (pv 1) (AA (MS rfl T.z_list PyProof.Rows.boot_list) (AA (MS rfl T.z_tuple PyProof.Rows.boot_tuple) AB))))) (AE (BK rfl T.x_62 rfl T.m_62 Ap (AA Bq AB))) Af)
  (AC (A6 (PW.pt (Dd (AN Dq (Ag (IK K) rfl T.z_len bu (AA (pv 1) AB)) (Cy rfl T.g_LONGEST_TABLE) (AR _)) (Di (AN Bo (AK hr G_27 T.m_27 (AA (pv 0) (AA (Ag (IK K) rfl T.z_len bu (AA (pv 1) AB)) AB))) AF (AR _))))) (AE (BK rfl T.x_62 rfl T.m_62 Ap (AA Bq AB))) Af)
  (AE (A7 PassesOwn.leaving rfl (X0 (Ka K (pv 1)) (VT (pv 1))) (BI 2 U6) (AE (A6 (EA (Cv (AK hr G_56 T.m_56 (AA (pv 2) (AA (pv 0) AB))))) (AE (BK rfl T.x_62 rfl T.m_62 Ap (AA Bq AB))) Af)))))),?_⟩
 walk_at "";refine⟨by decide,λp hp=>?_⟩;have e1:=AH.new hp (.tup [V.ty "list",V.ty "tuple"]);have h1:Ak H p (.tup [V.ty "list",V.ty "tuple"]) p=some (.tup [V.ty "list",V.ty "tuple"]):=AD;generalize Ak H p (HO.tup [V.ty "list",V.ty "tuple"])=H1 at e1 h1⊢;cases z with
 |ref a =>
  obtain⟨xs,hs,kx⟩:=kz;have hs1:=hs.same e1
  have notk:¬PD g xs->¬IP H g (.ref a):=by rintro h ⟨b,ys,e,hs2,ok⟩;cases e;have:=hs.inj hs2;subst this;exact h ok
  obtain⟨tt,ty,hk⟩:∃tt,XN K H1 (.ref a) tt/\PySem.W.kitAny K tt [.type "list",.type "tuple"]=some true:=hs1.elim (λq=>⟨_,.of (.lst q),az Uo _⟩) λq=>⟨_,.of (.tup q),To Up (az Xy _)⟩
  refine⟨tt,ty,_,h1,[.type "list",.type "tuple"],rfl,true,hk,?_⟩;rw[qC (by decide)];refine⟨a,rfl,xs,hs1.sq,?_⟩
  by_cases h256:(256:Int)<xs.length
  ·rw[qD h256];exact⟨by decide,hbad (notk λok=>by have:=ok.1;lia) _ e1⟩
  rw[qC h256];refine⟨a,rfl,xs,hs1.sq,g,_,rfl,g2,g9,λm hm=>⟨rfl,?_⟩,λhno=>⟨rfl,?_⟩⟩
  ·by_cases hm0:m=0
   ·subst hm0;rw[qD (show V.int ((0:Nat):Int)=V.int 0 from rfl)];refine⟨by decide,hbad (notk λok=>?_) _ e1⟩;obtain⟨m',hm1,hl⟩:=ok.2.1;have:=Df g2 (hm.symm.trans hl);lia
   rw[qC (by intro z;injection z with z;lia)];rcases hs1 with hL|hT
   ·refine Or.inl ⟨_,rfl,a,rfl,⟨_,Ai.of hL⟩,?_⟩;refine Be (xs:=xs) (λi σ H2=>BY g (xs.take i)=none/\(∃x2,σ=[some (.int g),some (.ref a),x2])/\H2=H1) ⟨rfl,⟨none,rfl⟩,rfl⟩ (λi σ H2 _ z=>by rw[z.2.2];exact Ai.of hL) ?_ ?_
    ·refine Fl ?_;rintro _ _ i x _ hGo σ H2 hx ⟨hb,⟨x2,rfl⟩,rfl⟩;refine hGo _ _ ?_;walk_at "";refine⟨x,g,rfl,(kx x (bE hx)).same e1,?_⟩;cases hsg:RZ g x with
     |true =>
      walk_at "";exact⟨Ft hb hx hsg,_,rfl⟩
     |false =>
      walk_at "";exact⟨by decide,hbad (notk λok=>by have z:=ok.2.2;rw[Fu hb hx hsg]at z;cases z) _ e1⟩
    ·rintro σ H2 ⟨hb,_,rfl⟩;rw[br]at hb;exact hg ⟨a,xs,rfl,hs,by lia,⟨m,by lia,hm⟩,hb⟩ _ e1
   ·refine Or.inr ⟨_,rfl,a,rfl,⟨_,Am.of hT⟩,?_⟩;refine TF (xs:=xs) (λi σ H2=>BY g (xs.take i)=none/\(∃x2,σ=[some (.int g),some (.ref a),x2])/\H2=H1) ⟨rfl,⟨none,rfl⟩,rfl⟩ (λi σ H2 _ z=>by rw[z.2.2];exact Am.of hT) ?_ ?_
    ·rintro i x σ H2 hx ⟨hb,⟨x2,rfl⟩,rfl⟩;walk_at "";refine⟨x,g,rfl,(kx x (bE hx)).same e1,?_⟩;cases hsg:RZ g x with
     |true =>
      walk_at "";exact⟨Ft hb hx hsg,_,rfl⟩
     |false =>
      walk_at "";exact⟨by decide,hbad (notk λok=>by have z:=ok.2.2;rw[Fu hb hx hsg]at z;cases z) _ e1⟩
    ·rintro σ H2 ⟨hb,_,rfl⟩;rw[br]at hb;exact hg ⟨a,xs,rfl,hs,by lia,⟨m,by lia,hm⟩,hb⟩ _ e1
  ·rw[qD rfl];refine⟨by decide,hbad (notk λok=>?_) _ e1⟩;obtain⟨m',_,hl⟩:=ok.2.1;exact hno m' hl
 |non =>
  refine⟨_,.of .non,_,h1,[.type "list",.type "tuple"],rfl,false,To Uq (To X1 rfl),?_⟩;rw[qD rfl];exact⟨by decide,hbad (λ⟨_,_,e,_⟩=>nomatch e) _ e1⟩
 |str y =>
  refine⟨_,.of (.str y),_,h1,[.type "list",.type "tuple"],rfl,false,To Ur (To X2 rfl),?_⟩;rw[qD rfl];exact⟨by decide,hbad (λ⟨_,_,e,_⟩=>nomatch e) _ e1⟩
 |int y =>
  refine⟨_,.of (.int y),_,h1,[.type "list",.type "tuple"],rfl,false,To Us (To X3 rfl),?_⟩;rw[qD rfl];exact⟨by decide,hbad (λ⟨_,_,e,_⟩=>nomatch e) _ e1⟩
 |bl y =>
  refine⟨_,.of (.bl y),_,h1,[.type "list",.type "tuple"],rfl,false,To Ut (To X4 rfl),?_⟩;rw[qD rfl];exact⟨by decide,hbad (λ⟨_,_,e,_⟩=>nomatch e) _ e1⟩
 |byt _=>exact kz.elim
 |flt _=>exact kz.elim
 |ty _=>exact kz.elim
theorem YU:AI ["signs","low","table"] ["signs","low","table"] (AG WH):=By
theorem YV(T:Bw K mg t)(G_21:Aj P w K mg base 2 t.f_21 ["signs","low"] (N3 t.c_62))(G_15:Aj P w K mg base 3 t.f_15 ["signs","table"] (Lg t.c_62)):Aj P w K mg base 4 t.f_82 ["signs","low","table"] (E3 t.c_62):=by
 refine CK T.d_82 YU λvs H Q E h=>?_;obtain⟨x,y,z,rfl,kx,ky,kz,hg,hbad⟩:=h;refine⟨rfl,λgh A outer s hr=>?_⟩
 refine⟨_,(AC (Ay (An G_21 (hr.mono (by decide)) rfl T.m_21 Ac (AA (pv 0) (AA (pv 1) AB))))
  (AC (Ay (An G_15 (hr.mono (by decide)) rfl T.m_15 Ac (AA (pv 0) (AA (pv 2) AB))))
  (AE (AM (DQ (AA (pv 0) (AA (pv 1) (AA (DM Dk rfl T.z_tuple fM (AA (pv 2) AB)) AB)))))))),?_⟩
 walk_at "";refine⟨x,y,rfl,kx,ky,λhgood=>?_,λhb=>hbad (λh=>by rw[h.1]at hb;cases hb) _ (AH.refl _)⟩;obtain⟨g,lo,rfl,rfl,g2,g9⟩:=Lf hgood;refine⟨g,z,rfl,g2,g9,kz,λok H1 e1=>?_,λnok H1 e1=>hbad (λh=>?_) _ e1⟩
 ·obtain⟨a,xs,rfl,hs,ok⟩:=ok;obtain⟨g7,rfl,htab⟩:=Cz ok.2.2;refine⟨a,rfl,g7.map V.int,?_⟩;rcases hs with hL|hT
  ·refine .inl ⟨Ai.of (e1 _ _ hL),λl hl=>⟨by decide,λp hp=>?_⟩⟩;have e2:=AH.new hl (.tup (g7.map V.int));have e3:=AH.new hp (.tup [.int g,.int lo,.ref l]);exact hg g lo g7 a rfl rfl rfl (.inl hL) g2 g9 ok htab p _ ((e1.trans e2).trans e3) ⟨l,AD,e3 _ _ AD⟩
  ·refine .inr ⟨Am.of (e1 _ _ hT),by decide,λp hp=>?_⟩;have e3:=AH.new hp (.tup [.int g,.int lo,.ref a]);exact hg g lo g7 a rfl rfl rfl (.inr hT) g2 g9 ok htab p _ (e1.trans e3) ⟨a,AD,e3 _ _ (e1 _ _ hT)⟩
 ·obtain⟨_,g',e,h'⟩:=h;cases e;exact nok h'
theorem YW:AI ["one"] ["one"] (AG WI):=By
theorem YX(T:Bw K mg t)(G_27:Aj P w K mg base 1 t.f_27 ["signs","length"] (Ch)):Aj P w K mg base 2 t.f_69 ["one"] (Bg):=by
 refine Aw T.d_69 YW λvs H Q E h=>?_;obtain⟨r,g,lo,g7,m,rfl,g2,g9,⟨tb,h1,h2⟩,hl,q⟩:=h;refine⟨rfl,λgh A outer s hr=>?_⟩;refine⟨_,(AE (AM (AK hr G_27 T.m_27 (AA (AO (B6 K) (pv 0) AF (λ_ _=>rfl)) (AA (Ag (IK K) rfl T.z_len bu (AA (AO (B6 K) (pv 0) AF (λ_ _=>rfl)) AB)) AB))))),?_⟩;walk_at "";refine (Ck (v:=.int g) (Am.of h1) (DI rfl) (Ck (v:=.ref tb) (Am.of h1) (DI rfl) ?_));walk_at "";refine⟨_,.inr (Am.of h2),g,_,rfl,g2,g9,λm' e=>?_,λz=>?_⟩
 ·rw[a9,hl]at e;rw[<-Df g2 e];exact q
 ·exact qE (by rw[a9,hl]) (z m)
theorem YY:AI ["one","word"] ["one","word"] (AG WK):=By
theorem YZ(T:Bw K mg t)(G_9:Aj P w K mg base 4 t.f_9 ["word","signs","many"] (Fv K t.c_72))(G_69:Aj P w K mg base 2 t.f_69 ["one"] (Bg))(G_41:Aj P w K mg base 4 t.f_41 ["word","signs"] (GL K t.c_72)):Aj P w K mg base 5 t.f_40 ["one","word"] (JH K t.c_72):=by
 refine CK T.d_40 YY λvs H Q E h=>?_;obtain⟨r,a,g,lo,g7,m,xs,rfl,g2,g9,hR,hl,hS,kd,h⟩:=h;refine⟨rfl,λgh A outer s hr=>?_⟩
 refine⟨_,(AC (Ay (An G_9 (hr.mono (by decide)) rfl T.m_9 Ac (AA (pv 1) (AA (AO (B6 K) (pv 0) AF (λ_ _=>rfl)) (AA (AK hr G_69 T.m_69 (AA (pv 0) AB)) AB)))))
  (AE (AM (AO (B6 K) (AO (B6 K) (pv 0) AF (λ_ _=>rfl)) (An G_41 (hr.mono (by decide)) rfl T.m_41 Ac (AA (pv 1) (AA (AO (B6 K) (pv 0) AF (λ_ _=>rfl)) AB))) (λ_ _=>rfl))))),?_⟩
 refine At.el hR λtb h1 h2=>?_;walk_at "";refine (Ck (Am.of h1) rfl ⟨r,g,lo,g7,m,rfl,g2,g9,hR,hl,a,xs,g,m,rfl,hS,kd,?_⟩);cases hb:E1 g m xs with
 |some i =>
  rw[hb]at h;exact h
 |none =>
  rw[hb]at h;obtain⟨hlen,hbi⟩:=Md hb;obtain⟨ns,rfl,hns⟩:=Cz hbi;rw[a9]at hlen;intro H1 e1;refine (Ck (Am.of (e1 _ _ h1)) rfl (Ck (Am.of (e1 _ _ h1)) rfl ⟨a,_,g,rfl,g2,g9,e1.seq hS,Co,?_⟩));rw[hbi];intro ms hms H2 e2;have:=CV hms;subst this;have nb:=BL g2 hns;rw[hlen,<-hl]at nb;refine (Ck (v:=.int (g7.getD (Ao g ns).toNat 0)) (Am.of (e2 _ _ (e1 _ _ h2))) ?_ (h ns rfl _ (e1.trans e2)));have z:=CY (ns:=g7) (k:=(Ao g ns).toNat) (by lia);rw[show (((Ao g ns).toNat:Nat):Int)=Ao g ns by lia]at z;exact z
theorem U7:AI ["one","head","sign","first"] ["one","head","sign"] (AG WL):=By
theorem Ya(T:Bw K mg t) :Aj P w K mg base 1 t.f_42 ["one","head","sign"] (Ll):=by
 refine Aw T.d_42 U7 λvs H Q E h=>?_;obtain⟨r,g,lo,g7,m,h,s',rfl,ok,hh,q⟩:=h;refine⟨rfl,λgh A outer s hr=>?_⟩
 refine⟨_,(AC (AQ 3 U7 (AL Cd (pv 1) (AO (B6 K) (pv 0) AF (λ_ _=>rfl))))
  (AE (AM (DH [(2,"sign"),(0,"one")] [("sign",_),("one",_)] (Ke rfl T.z_range (AA (pv 3) (AA (AL BF (pv 3) (AO (B6 K) (pv 0) AF (λ_ _=>rfl))) AB))) (λ_ _ _ _=>(Ew (AN Bo (AO (GM (K:=K) rfl) (AO (GM (K:=K) rfl) (pv 2) AF (λ_ _=>rfl)) (pv 0) (λ_ _=>rfl)) (pv 1) (AR _)))) (λ_ _ _ _=>(pv 0)))))),?_⟩
 refine At.el ok.v λtb h1 h2=>?_;have g2:=ok.g2;have g9:=ok.g9;have m1:=ok.m1;have m8:=ok.m8;have hl:=ok.len;have sz:=ok.sz;have hlm:(g7.map V.int).length=g7.length:=a9 ..;have hd:=BH g2 hl m1;walk_at "";have gn:((g.toNat:Nat):Int)=g:=by lia
 have hb2:h*g.toNat+g.toNat<=g7.length:=by have:=dc g.toNat (show h+1<=g7.length/g.toNat from hh);rw[Nat.add_mul,Nat.one_mul]at this;lia
 refine (Ck (Am.of h1) rfl ⟨g,rfl,.inr ⟨by lia,by lia⟩,?_⟩);refine⟨_,rfl,_,rfl,_,rfl,r,_,0,_,rfl,rfl,Am.of h1,rfl,_,_,rfl,rfl,_,_,rfl,?_⟩;have eh:(h:Int)*g=((h*g.toNat:Nat):Int):=by rw[cS,gn]
 rw[eh];refine⟨⟨by lia,by lia,by lia,by lia⟩,λD hD=>?_⟩;rw[show (((h*g.toNat:Nat):Int)+g-((h*g.toNat:Nat):Int)).toNat=g.toNat by lia];refine Bj (lo:=((h*g.toNat:Nat):Int)) (n:=g.toNat) (λi ge Hx=>ge=(JX (((List.range i).filter λj=>decide (g7.getD (h*g.toNat+j) 0=s')).map λj=>h*g.toNat+j)).map V.int/\Hx=Ak H D (.lst ge)) ⟨rfl,rfl⟩ ?_ ?_
 ·refine Dn ?_;rintro i _ hGo ge Hx hi ⟨rfl,rfl⟩;refine hGo _ _ ?_;have en:=AH.new hD (.lst ((JX (((List.range i).filter λj=>decide (g7.getD (h*g.toNat+j) 0=s')).map λj=>h*g.toNat+j)).map V.int));have ei:((h*g.toNat:Nat):Int)+(i:Int)=((h*g.toNat+i:Nat):Int):=by lia
  have fl:((List.range i).filter λj=>decide (g7.getD (h*g.toNat+j) 0=s')).length<=i:=by have:=cU (λj=>decide (g7.getD (h*g.toNat+j) 0=s')) (List.range i);rw[bO]at this;exact this
  rw[ei];walk_at "";refine (Ck (Am.of (en _ _ h1)) rfl (Ck (Am.of (en _ _ h2)) (CY (by lia)) ⟨rfl,?_⟩))
  by_cases hc:g7.getD (h*g.toNat+i) 0=s'
  ·rw[qD (by rw[hc])];refine⟨AD,?_,?_,by rw[Dc]⟩
   ·unfold JX;rw[a9,a9,a9];exact AU (by lia)
   ·unfold JX;have f1:([i]:List Nat).filter (λj=>decide (g7.getD (h*g.toNat+j) 0=s'))=[i]:=by rw[fC,qD (qF hc)];rfl
    rw[b8,cL,f1,bH,bH,bH];rfl
  ·rw[qC (by intro z;exact hc (V.int.inj z))];have f1:([i]:List Nat).filter (λj=>decide (g7.getD (h*g.toNat+j) 0=s'))=[]:=by rw[fC,qC (by rw[qG hc];decide)];rfl
   rw[b8,cL,f1,bz];exact⟨rfl,rfl⟩
 ·rintro ge Hx ⟨rfl,rfl⟩;exact q D _ ⟨AH.new hD _,hD,AD⟩
theorem Yc:AI ["one"] ["one"] (AG WM):=By
theorem Yd(T:Bw K mg t) :Aj P w K mg base 1 t.f_76 ["one"] (Cr):=by
 refine Aw T.d_76 Yc λvs H Q E h=>?_;obtain⟨r,g,lo,g7,m,rfl,ok,q⟩:=h;refine⟨rfl,λgh A outer s hr=>?_⟩;refine⟨_,(AE (AM (AL B4 (Ag (IK K) rfl T.z_len bu (AA (AO (B6 K) (pv 0) AF (λ_ _=>rfl)) AB)) (AO (B6 K) (pv 0) AF (λ_ _=>rfl))))),?_⟩;refine At.el ok.v λtb h1 h2=>?_;have g2:=ok.g2;have g9:=ok.g9;have m1:=ok.m1;have m8:=ok.m8;have hl:=ok.len;have sz:=ok.sz;have hlm:(g7.map V.int).length=g7.length:=a9 ..;walk_at "";refine (Ck (Am.of h1) rfl ?_);walk_at "";refine⟨_,.inr (Am.of h2),Ck (Am.of h1) rfl ⟨g,rfl,by lia,by lia,?_⟩⟩
 have e:(((g7.map V.int).length:Nat):Int)/g=((g7.length/g.toNat:Nat):Int):=by rw[hlm,cz,bN (by lia)]
 rw[e];exact q
theorem NV:AI ["one","weight","table","number","told","there"] ["one","weight"] (AG WN):=By
theorem Ye(T:Bw K mg t) :Aj P w K mg base 1 t.f_65 ["one","weight"] (JO):=by
 refine Aw T.d_65 NV λvs H Q E h=>?_;obtain⟨r,g,lo,g7,wt,rfl,g2,g9,hR,w0,w3,tl,q⟩:=h;refine⟨rfl,λgh A outer s hr=>?_⟩
 refine⟨_,(AC (AQ 2 NV (AO (B6 K) (pv 0) AF (λ_ _=>rfl)))
  (AC (A7 PassesOwn.never rfl (JG rfl T.z_enumerate (AA (pv 2) AB)) (Fo rfl (Bd (BI 3 NV) (Bd (BI 4 NV) EB))) (AC (AQ 5 NV (AL BS (AL B4 (pv 3) (pv 1)) (AO (B6 K) (pv 0) AF (λ_ _=>rfl))))
  (AE (A6 (AN GC (pv 4) (AO (B6 K) (pv 2) (AL BJ (pv 3) (AL Cd (pv 5) (pv 1))) (λ_ _=>rfl)) (AR _)) (AE (AM Ee)) Af))))
  (AE (AM Ee)))),?_⟩
 refine At.el hR λtb h1 h2=>?_;walk_at "";refine (Ck (Am.of h1) rfl ?_);walk_at "";refine⟨_,rfl,tb,_,rfl,Am.of h2,?_⟩;refine Kq (xs:=g7.map V.int) (λi σ H1=>(∃x3 x4 x5,σ=[some (.ref r),some (.int wt),some (.ref tb),x3,x4,x5])/\AH H H1/\∀k,k<i->g7.getD k 0=g7.getD ((k:Int)-(k:Int)/wt%g*wt).toNat 0) ⟨⟨none,none,none,rfl⟩,AH.refl _,λk hk=>qE hk (ce _)⟩ (λi σ H1 _ z=>Am.of (z.2.1 _ _ h2)) ?_ ?_
 ·rintro i x p2 σ H1 hx ⟨⟨x3,x4,x5,rfl⟩,e,hall⟩ hp2;obtain⟨n,hn,rfl⟩:=B8 hx;have hi:i<g7.length:=(bB.mp hn).1;have e2:AH H (Ak H1 p2 (.tup [.int ((i:Nat):Int),.int n])):=e.trans (AH.new hp2 _);refine⟨p2,_,rfl,Am.of AD,rfl,_,_,rfl,_,_,rfl,rfl,?_⟩;walk_at "";have ix:=Vn (k:=(i:Int)) (w:=wt) (g:=g) (by lia) w0 g2;have gA:=Dl (ns:=g7) ix.1 (by lia);have ng:n=g7.getD i 0:=by rw[a8,hn];rfl
  refine⟨w0,by lia,Ck (Am.of (e2 _ _ h1)) rfl ⟨g,rfl,by lia,.inr ⟨by lia,by lia⟩,Ck (Am.of (e2 _ _ h2)) gA ⟨rfl,?_⟩⟩⟩
  by_cases hd:V.int n=V.int (g7.getD ((i:Int)-(i:Int)/wt%g*wt).toNat 0)
  ·rw[qC (λz=>z hd)];refine⟨⟨_,rfl⟩,e2,λk hk=>?_⟩
   by_cases z:k=i
   ·subst z;rw[<-ng];exact V.int.inj hd
   ·exact hall k (by lia)
  ·rw[qD hd];have z:Ce g g7 wt=true:=HI.mpr ⟨i,hi,λy=>hd (by rw[ng,y])⟩;rw[z]at q;exact q _ e2
 ·rintro σ H1 ⟨⟨x3,x4,x5,rfl⟩,e,hall⟩;walk_at "";rw[a9]at hall
  have z:Ce g g7 wt=false:=by
   cases z:Ce g g7 wt with
   |false=>rfl
   |true =>
    obtain⟨k,hk,h⟩:=HI.mp z;exact qE (hall k hk) h
  rw[z]at q;exact q H1 e
theorem NW:AI ["one","found","weight","at"] ["one"] (AG WO):=By
theorem Yf(T:Bw K mg t)(G_69:Aj P w K mg base 2 t.f_69 ["one"] (Bg))(G_65:Aj P w K mg base 1 t.f_65 ["one","weight"] (JO)):Aj P w K mg base 3 t.f_47 ["one"] (EI):=by
 refine Aw T.d_47 NW λvs H Q E h=>?_;obtain⟨r,g,lo,g7,m,rfl,g2,g9,hR,hl,m1,m8,gm,q⟩:=h;refine⟨rfl,λgh A outer s hr=>?_⟩
 refine⟨_,(AC (AQ 1 NW (BO AB))
  (AC (AQ 2 NW (Ag (IK K) rfl T.z_len bu (AA (AO (B6 K) (pv 0) AF (λ_ _=>rfl)) AB)))
  (AC (A7 PassesOwn.never rfl (A1 rfl T.z_range (AA (AK hr G_69 T.m_69 (AA (pv 0) AB)) AB)) (BI 3 NW) (AC (AQ 2 NW (AL B4 (pv 2) (AO (B6 K) (pv 0) AF (λ_ _=>rfl))))
  (AE (A6 (Cv (AK hr G_65 T.m_65 (AA (pv 0) (AA (pv 2) AB)))) (AE (Ay (Nf K (pv 1) (AA (AL BF (AO (B6 K) (pv 0) AF (λ_ _=>rfl)) (pv 3)) AB)))) Af))))
  (AE (AM (pv 1)))))),?_⟩
 refine At.el hR λtb h1 h2=>?_;walk_at "";refine⟨cJ _,λp hp=>?_⟩;have e0:=AH.new hp (.lst []);refine (Ck (Am.of (e0 _ _ h1)) rfl ?_);walk_at "";refine⟨_,.inr (Am.of (e0 _ _ h2)),?_⟩;rw[a9];refine⟨_,rfl,r,g,lo,g7,m,rfl,g2,g9,hR.same e0,hl,_,rfl,by lia,by lia,?_⟩;refine Ba (n:=m) (λi σ H1=>∃x3,σ=[some (.ref r),some (.ref p),some (.int (g^(m-i))),x3]/\AH H H1/\H1 p=some (.lst ((((List.range i).filter λj=>Ce g g7 (g^(m-1-j))).map λj:Nat=>lo+(j:Int)).map V.int))) ⟨none,by rw[hl,Nat.sub_zero],e0,AD⟩ ?_ ?_
 ·refine FI ?_;rintro _ _ i _ hGo σ H1 hi ⟨x3,rfl,e,hp1⟩;refine hGo _ _ ?_;have dv:g^(m-i)/g=g^(m-1-i):=by rw[show m-i=(m-1-i)+1 by lia,bq,Int.mul_ediv_cancel _ (by lia)]
  have gp:=RW.Aa g2 (m-1-i);have gb:=Bf g2 (show m-1-i<=m by lia);walk_at "";refine (Ck (Am.of (e _ _ h1)) rfl ?_);walk_at "";rw[dv];refine⟨by lia,by lia,r,g,lo,g7,_,rfl,g2,g9,hR.same e,gp,by lia,by lia,λH2 e2=>?_⟩;have e3:=e.trans e2;refine⟨_,rfl,?_⟩;cases hc:Ce g g7 (g^(m-1-i)) with
  |true =>
   rw[qD rfl];refine⟨.inl ⟨_,Ai.of (e2 _ _ hp1)⟩,Ck (Am.of (e3 _ _ h1)) rfl ⟨lo,rfl,_,e2 _ _ hp1,?_,by rw[show m-(i+1)=m-1-i by lia],e3.into hp,?_⟩⟩
   ·rw[a9,a9];have:=cU (λj=>Ce g g7 (g^(m-1-j))) (List.range i);rw[bO]at this;exact AU (by lia)
   ·rw[AD,b8,cL,bH,bH,bg];simp[List.filter,hc]
  |false =>
   rw[qC (by decide)];refine⟨by rw[show m-(i+1)=m-1-i by lia],e3,?_⟩;rw[e2 _ _ hp1,b8,cL];simp[List.filter,hc]
 ·rintro σ H1 ⟨x3,rfl,e,hp1⟩;walk_at "";exact q p H1 ⟨e,hp,hp1⟩
theorem aY:AI ["word","at"] ["word","at"] (AG aI):=By
theorem aZ(T:Bw K mg t) :Aj P w K mg base 1 t.f_4 ["word","at"] (JZ K):=by
 refine Aw T.d_4 aY λvs H Q E h=>?_;obtain⟨a,v,z,rfl,hS,q⟩:=h;refine⟨rfl,λgh A outer s hr=>?_⟩
 refine⟨_,(AC (A6 (PW.pt (Dd (AN Dp (pv 1) AF (AR _)) (Di (AN Ot (pv 1) (Ag (IK K) rfl T.z_len bu (AA (pv 0) AB)) (AR _))))) (AE (AM AF)) Af)
  (AE (AM (AO (Fk K) (pv 0) (pv 1) (λ_ _=>rfl))))),?_⟩
 have hlm:(v.map V.int).length=v.length:=a9 ..;unfold sn at q;walk_at ""
 by_cases h0:z<0
 ·rw[qD (.inl h0)]at q;rw[qD h0];exact q
 rw[qC h0];refine⟨_,.inl hS,?_⟩;rw[hlm]
 by_cases h1:(v.length:Int)<=z
 ·rw[qD (.inr h1)]at q;rw[qD h1];exact q
 rw[qC h1];rw[qC (by lia)]at q;exact⟨a,_,_,_,rfl,rfl,hS,Dl (by lia) (by lia),q⟩
theorem NX:AI ["one","low","many","ahead","table","number","word"] ["one","low","many"] (AG WP):=By
theorem Yg(T:Bw K mg t)(G_82:Aj P w K mg base 4 t.f_82 ["signs","low","table"] (E3 t.c_62))(G_11:Aj P w K mg base 1 t.f_11 ["signs","many"] (G9))(G_61:KP P w K mg base 1 t.f_61 ["number","signs","many"] (EF t.c_63))(G_40:Aj P w K mg base 5 t.f_40 ["one","word"] (JH K t.c_72))(G_4:Aj P w K mg base 1 t.f_4 ["word","at"] (JZ K))(G_69:Aj P w K mg base 2 t.f_69 ["one"] (Bg)):Aj P w K mg base 6 t.f_37 ["one","low","many"] (IV):=by
 refine Aw T.d_37 NX λvs H Q E h=>?_;obtain⟨r,g,lo,g7,m,low,M,rfl,ok,M1,gM,q⟩:=h;refine⟨rfl,λgh A outer s hr=>?_⟩
 refine⟨_,(AC (AQ 3 NX (AL BJ (AO (B6 K) (pv 0) AF (λ_ _=>rfl)) (pv 1)))
  (AC (AQ 4 NX (BO AB))
  (AC (A7 PassesOwn.never rfl (A1 rfl T.z_range (AA (AK hr G_11 T.m_11 (AA (AO (B6 K) (pv 0) AF (λ_ _=>rfl)) (AA (pv 2) AB))) AB)) (BI 5 NX) (AC (AQ 6 NX (C8 G_61 (hr.mono (by decide)) rfl T.m_61 E5 (AA (pv 5) (AA (AO (B6 K) (pv 0) AF (λ_ _=>rfl)) (AA (pv 2) AB)))))
  (AE (Ay (Nf K (pv 4) (AA (AK hr G_40 T.m_40 (AA (pv 0) (AA (DH [(6,"word"),(3,"ahead")] [("word",_),("ahead",_)] (A1 rfl T.z_range (AA (AK hr G_69 T.m_69 (AA (pv 0) AB)) AB)) (λ_ _ _ _=>CO) (λ_ _ _ _=>(AK hr G_4 T.m_4 (AA (pv 1) (AA (AL BF (pv 2) (pv 0)) AB))))) AB))) AB))))))
  (AE (AM (AK hr G_82 T.m_82 (AA (AO (B6 K) (pv 0) AF (λ_ _=>rfl)) (AA (pv 1) (AA (pv 4) AB))))))))),?_⟩
 refine At.el ok.v λtb h1 h2=>?_;have g2:=ok.g2;have g9:=ok.g9;have m8:=ok.m8;have hl:=ok.len;have gp:=RW.Aa g2 M;have M8:=EL g2 gM;walk_at "";refine (Ck (Am.of h1) rfl ⟨lo,rfl,cJ _,λp hp=>?_⟩);have e0:=AH.new hp (.lst []);refine⟨_,rfl,r,_,0,_,rfl,rfl,Am.of (e0 _ _ h1),rfl,_,rfl,?_⟩;refine⟨g,_,rfl,g2,g9,by lia,λ_=>?_,λz=>qE z (by rw[bI];lia)⟩;rw[bI];refine⟨_,rfl,by lia,by lia,?_⟩;refine Ba (n:=(g^M).toNat) (λi σ H1=>∃x5 x6,σ=[some (.ref r),some (.int low),some (.int ((M:Nat):Int)),some (.int (lo-low)),some (.ref p),x5,x6]/\AH H H1/\H1 p=some (.lst (((List.range i).map λn:Nat=>g7.getD (Ao g (PJ (Ad g (n:Int) M) (lo-low) m)).toNat 0).map V.int))) ⟨none,none,rfl,e0,AD⟩ ?_ ?_
 ·refine FI ?_;rintro _ _ i _ hGo σ H1 hi ⟨x5,x6,rfl,e,hp1⟩;refine hGo _ _ ?_;walk_at "";refine (Ck (Am.of (e _ _ h1)) rfl ⟨_,g,_,rfl,g2,g9,by lia,by lia,λz=>qE z (by rw[bI];lia),λ_ _ pw H2 hN2=>?_⟩);rw[bI,bg]at hN2;have e2:=e.trans hN2.1;have hp2:=hN2.1 _ _ hp1;refine⟨.inl ⟨_,Ai.of hp2⟩,?_⟩;refine⟨_,rfl,r,g,lo,g7,m,rfl,g2,g9,ok.v.same e2,hl,_,rfl,by lia,by lia,λD hD=>?_⟩;rw[bI];have hw2:H2 pw=some (.lst ((Ad g (i:Int) M).map V.int)):=hN2.2.2;refine Bj (n:=m) (λj ge Hx=>ge=((List.range j).map λk:Nat=>sn (Ad g (i:Int) M) (lo-low+(k:Int))).map V.int/\Hx=Ak H2 D (.lst ge)) ⟨rfl,rfl⟩ ?_ ?_
  ·refine Dn ?_;rintro j _ hGo ge Hx hj ⟨rfl,rfl⟩;refine hGo _ _ ?_;walk_at "";rw[bg];refine⟨pw,_,_,rfl,Ai.of (AH.new hD _ _ _ hw2),AD,?_,?_,by rw[Dc]⟩
   ·rw[a9,a9,bO];exact AU (by lia)
   ·rw[Ax,bH];rfl
  ·rintro ge Hx ⟨rfl,rfl⟩;have en:=AH.new hD (.lst ((PJ (Ad g (i:Int) M) (lo-low) m).map V.int));have bb:=Rt g2 (BQ g2 (i:Int) M) (lo-low) m;have bl:=E2 bb;rw[IU]at bl;refine⟨r,D,g,lo,g7,m,(PJ (Ad g (i:Int) M) (lo-low) m).map V.int,rfl,g2,g9,(ok.v.same e2).same en,hl,Ai.of AD,Co,?_⟩;rw[bl];intro ms hms H4 e4;have:=CV hms;subst this;have e24:=en.trans e4;refine⟨_,e24 _ _ hp2,?_,(e2.trans e24).into hp,?_⟩
   ·rw[a9,a9,bO];exact AU (by lia)
   ·rw[AD,Ax,bH];rfl
 ·rintro σ H1 ⟨x5,x6,rfl,e,hp1⟩;walk_at "";refine (Ck (Am.of (e _ _ h1)) rfl ?_);exact Dw (g7:=EK g lo g7 m low M) g2 g9 M1 (Bs g2 _ _ _ _ _) gM (Rv g2 _ ok.tb _ _ _) (.inl hp1) λr' H' e' hR=>q r' H' (e.trans e') (ok.bw M1 gM hR)
theorem U8:AI ["one","found"] ["one"] (AG WQ):=By
theorem Yh(T:Bw K mg t)(G_47:Aj P w K mg base 3 t.f_47 ["one"] (EI))(G_37:Aj P w K mg base 6 t.f_37 ["one","low","many"] (IV)):Aj P w K mg base 7 t.f_68 ["one"] (GV):=by
 refine Aw T.d_68 U8 λvs H Q E h=>?_;obtain⟨r,g,lo,g7,m,rfl,ok,q⟩:=h;refine⟨rfl,λgh A outer s hr=>?_⟩
 refine⟨_,(AC (AQ 1 U8 (AK hr G_47 T.m_47 (AA (pv 0) AB)))
  (AC (A6 (AN Bo (Ag (IK K) rfl T.z_len bu (AA (pv 1) AB)) AF (AR _)) (AE (AM (AK hr G_37 T.m_37 (AA (pv 0) (BP (BP AB)))))) Af)
  (AE (AM (AK hr G_37 T.m_37 (AA (pv 0) (AA (AO (Fk K) (pv 1) AF (λ_ _=>rfl)) (AA (AL BF (AL BJ (AO (Fk K) (pv 1) (Kf G1 AF) (λ_ _=>rfl)) (AO (Fk K) (pv 1) AF (λ_ _=>rfl))) AF) AB)))))))),?_⟩
 have g2:=ok.g2;have g9:=ok.g9;have m1:=ok.m1;have m8:=ok.m8;have sz:=ok.sz;walk_at "";refine⟨r,g,lo,g7,m,rfl,g2,g9,ok.v,ok.len,m1,m8,sz,λp H1 hN1=>?_⟩;have hcl:((Bp g lo g7 m).map V.int).length=(Bp g lo g7 m).length:=a9 ..;walk_at "";refine⟨_,.inl (Ai.of hN1.2.2),?_⟩;rw[hcl]
 by_cases hc:Bp g lo g7 m=[]
 ·rw[qD (by rw[hc];rfl)];have g1:g^1=g:=by rw[bq,cN,cj]
  exact⟨r,g,lo,g7,m,0,1,rfl,ok.same hN1.1,bD _,by lia,λr' H' e' ok'=>q 0 1 (Ml hc) r' H' (hN1.1.trans e') ok'⟩
 ·obtain⟨M,hM,hMm,hW⟩:=Ku hc;have hp0:0<(Bp g lo g7 m).length:=fF.mpr hc;rw[qC (by lia)];have gM:=Bf g2 hMm;refine (FK (Ai.of hN1.2.2) (Dl (by decide) (by show 0<_;lia)) (FK (Ai.of hN1.2.2) (Kv hp0) (FK (Ai.of hN1.2.2) (Dl (by decide) (by show 0<_;lia)) ⟨_,rfl,_,rfl,?_⟩)));refine⟨r,g,lo,g7,m,(Bp g lo g7 m).getD 0 0,M,?_,ok.same hN1.1,hW.one,by lia,λr' H' e' ok'=>q _ M hW r' H' (hN1.1.trans e') ok'⟩;rw[hM];rfl
theorem U9:AI ["one","low","high","place"] ["one","low","high"] (AG WS):=By
theorem Yi(T:Bw K mg t)(G_47:Aj P w K mg base 3 t.f_47 ["one"] (EI))(G_37:Aj P w K mg base 6 t.f_37 ["one","low","many"] (IV))(G_11:Aj P w K mg base 1 t.f_11 ["signs","many"] (G9)):Aj P w K mg base 7 t.f_59 ["one","low","high"] (HK t.c_43 t.c_54):=by
 refine CK T.d_59 U9 λvs H Q E h=>?_;obtain⟨r,g,lo,g7,m,low,high,rfl,ok,hout,hwide,hok⟩:=h;refine⟨rfl,λgh A outer s hr=>?_⟩
 refine⟨_,(AC (A6 (AN Dq (pv 1) (pv 2) (AR _)) (AE (BK rfl T.x_43 rfl T.m_43 Ap (AA Bq AB))) Af)
  (AC (A7 PassesOwn.leaving rfl (Ka K (AK hr G_47 T.m_47 (AA (pv 0) AB))) (BI 3 U9) (AE (A6 (PW.pt (Dd (AN Dp (pv 3) (pv 1) (AR _)) (Di (AN Dq (pv 3) (pv 2) (AR _))))) (AE (BK rfl T.x_43 rfl T.m_43 Ap (AA Bq AB))) Af)))
  (AC (A6 (AN Dq (AK hr G_11 T.m_11 (AA (AO (B6 K) (pv 0) AF (λ_ _=>rfl)) (AA (AL BF (AL BJ (pv 2) (pv 1)) AF) AB))) (Cy rfl T.g_LONGEST_TABLE) (AR _)) (AE (BK rfl T.x_54 rfl T.m_54 Ap (AA Bq AB))) Af)
  (AE (AM (AK hr G_37 T.m_37 (AA (pv 0) (AA (pv 1) (AA (AL BF (AL BJ (pv 2) (pv 1)) AF) AB))))))))),?_⟩
 refine At.el ok.v λtb h1 h2=>?_;have g2:=ok.g2;have g9:=ok.g9;have m1:=ok.m1;have m8:=ok.m8;walk_at ""
 by_cases hlh:high<low
 ·rw[qD hlh];exact⟨by decide,hout (.inl hlh) _ (AH.refl _)⟩
 rw[qC hlh];refine⟨_,rfl,r,g,lo,g7,m,rfl,g2,g9,ok.v,ok.len,m1,m8,ok.sz,λp H1 hN1=>?_⟩;refine⟨p,rfl,⟨_,Ai.of hN1.2.2⟩,?_⟩;refine Be (xs:=(Bp g lo g7 m).map V.int) (λi σ H2=>(∃x3,σ=[some (.ref r),some (.int low),some (.int high),x3])/\H2=H1/\∀z∈(Bp g lo g7 m).take i,low<=z/\z<=high) ⟨⟨none,rfl⟩,rfl,λz hz=>qE hz (by simp)⟩ (λi σ H2 _ z=>by rw[z.2.1];exact Ai.of hN1.2.2) ?_ ?_
 ·refine Fl ?_;rintro _ _ i x _ hGo σ H2 hx ⟨⟨x3,rfl⟩,rfl,hall⟩;refine hGo _ _ ?_;obtain⟨n,hn,rfl⟩:=B8 hx;have nm:=bE hn;walk_at ""
  by_cases c1:n<low
  ·rw[qD c1];exact⟨by decide,hout (.inr ⟨n,nm,.inl c1⟩) _ hN1.1⟩
  rw[qC c1]
  by_cases c2:high<n
  ·rw[qD c2];exact⟨by decide,hout (.inr ⟨n,nm,.inr c2⟩) _ hN1.1⟩
  rw[qC c2];refine⟨⟨_,rfl⟩,λz hz=>?_⟩;rw[cf,hn]at hz;rcases bJ.mp hz with y|y
  ·exact hall z y
  ·have:z=n:=by simpa using y
   lia
 ·rintro σ H2 ⟨⟨x3,rfl⟩,rfl,hall⟩;rw[a9,br]at hall
  have nout:¬T3 g lo g7 m low high:=by
   rintro (z|⟨z,hz,y⟩)
   ·exact hlh z
   ·have:=hall z hz;lia
  walk_at "";refine (Ck (Am.of (hN1.1 _ _ h1)) rfl ⟨g,_,rfl,g2,g9,by lia,λhle=>?_,λhgt rr hrr=>?_⟩)
  ·refine⟨_,rfl,?_⟩;rw[qC (by lia)];exact⟨r,g,lo,g7,m,low,(high-low+1).toNat,by rw[show (((high-low+1).toNat:Nat):Int)=high-low+1 by lia],ok.same hN1.1,by lia,hle,λr' H' e' ok'=>hok nout hle r' H' (hN1.1.trans e') ok'⟩
  ·refine⟨_,rfl,?_⟩;rw[qD hrr];exact⟨by decide,hwide nout hgt _ hN1.1⟩
theorem VA:AI ["one","least"] ["one"] (AG WT):=By
theorem Yj(T:Bw K mg t)(G_68:Aj P w K mg base 7 t.f_68 ["one"] (GV))(G_69:Aj P w K mg base 2 t.f_69 ["one"] (Bg))(G_59:Aj P w K mg base 7 t.f_59 ["one","low","high"] (HK t.c_43 t.c_54))(G_76:Aj P w K mg base 1 t.f_76 ["one"] (Cr)):Aj P w K mg base 8 t.f_75 ["one"] (FU t.c_54):=by
 refine CK T.d_75 VA λvs H Q E h=>?_;obtain⟨r,g,lo,g7,m,lf,tf,mf,rfl,ok,fw,hok,hex⟩:=h;refine⟨rfl,λgh A outer s hr=>?_⟩
 refine⟨_,(AC (AQ 1 VA (AK hr G_68 T.m_68 (AA (pv 0) AB)))
  (AC (A6 (AN Bo (AK hr G_69 T.m_69 (AA (pv 1) AB)) AF (AR _)) (AE (AM (An G_59 (hr.mono (by decide)) rfl T.m_59 Ac (AA (pv 1) (AA (AO (B6 K) (pv 1) AF (λ_ _=>rfl)) (AA (AL BF (AO (B6 K) (pv 1) AF (λ_ _=>rfl)) AF) AB)))))) Af)
  (AC (A6 (AN Dq (AK hr G_76 T.m_76 (AA (pv 1) AB)) (Cy rfl T.g_MOST_NODES) (AR _)) (AE (BK rfl T.x_54 rfl T.m_54 Ap (AA Bq AB))) Af)
  (AE (AM (pv 1)))))),?_⟩
 have g2:=ok.g2;have g9:=ok.g9;refine Az λN hN=>?_;walk_at "";refine⟨r,g,lo,g7,m,rfl,ok,λlow M hW r1 H1 e1 ok1=>hN _ _ ?_⟩;clear hN N;walk_at "";refine⟨r1,g,low,_,M,rfl,g2,g9,ok1.v,ok1.len,rfl,?_⟩;obtain⟨low',M',hW',elf,hc⟩:=id fw;obtain⟨rfl,rfl⟩:=R6 g2 ok.len hW hW';subst elf;refine At.el ok1.v λtb h1 h2=>?_;rcases hc with⟨rfl,rfl,rfl⟩|⟨hM,rfl,rfl⟩
 ·rw[qD (show V.int ((1:Nat):Int)=V.int 1 from rfl)];have g1:g^(2-1)=g:=by show g^(0+1)=g;rw[bq,cN,cj]
  have e2:(lf+1-lf+1).toNat=2:=by lia
  refine (Ck (Am.of h1) rfl (Ck (Am.of h1) rfl ⟨lf,rfl,?_⟩));refine⟨r1,g,lf,_,1,lf,lf+1,rfl,ok1,λho=>?_,λ_ hw=>?_,λ_ _ r2 H2 f2 ok2=>?_⟩
  ·exfalso;rcases ho with z|⟨z,hz,y⟩
   ·lia
   ·unfold Bp at hz;obtain⟨j,hj,rfl⟩:=bR.mp hz;have:=bW.mp (bv.mp hj).1;lia
  ·exfalso;rw[e2]at hw;have:g^2<=9*9:=by rw[show (2:Nat)=(2-1)+1 from rfl,bq,g1];exact c8 g9 g9 (by lia) (by lia)
   lia
  ·rw[e2]at ok2;exact hok (by lia) r2 H2 (e1.trans f2) ok2
 ·rw[qC (λz=>by have:=V.int.inj z;lia)];refine⟨r1,g,lf,_,mf,rfl,ok1,_,rfl,?_⟩;rw[(BH g2 ok1.len ok1.m1).1]
  by_cases h9:9<g^(mf-1)
  ·rw[qD h9];exact⟨by decide,hex h9 _ e1⟩
  ·rw[qC h9];exact hok (by lia) r1 H1 e1 ok1
theorem Gs:AI ["one","row","signs","table","short","number","told","at","sign"] ["one","row"] (AG WU):=By
theorem Yk(T:Bw K mg t)(G_69:Aj P w K mg base 2 t.f_69 ["one"] (Bg)):Aj P w K mg base 3 t.f_81 ["one","row"] (JI K):=by
 refine Aw T.d_81 Gs λvs H Q E h=>?_;obtain⟨r,a,g,lo,g7,m,ns,rfl,g2,g9,hR,hl,m1,hS,hb,hn,q⟩:=h;refine⟨rfl,λgh A outer s hr=>?_⟩
 refine⟨_,(AC (AQ 2 Gs (AO (B6 K) (pv 0) AF (λ_ _=>rfl)))
  (AC (AQ 3 Gs (AO (B6 K) (pv 0) AF (λ_ _=>rfl)))
  (AC (AQ 4 Gs (AL BJ (AK hr G_69 T.m_69 (AA (pv 0) AB)) AF))
  (AC (AQ 5 Gs AF)
  (AC (AQ 6 Gs (BO AB))
  (AC (A7 PassesOwn.never rfl (GI rfl T.z_enumerate (AA (pv 1) AB)) (Fo rfl (Bd (BI 7 Gs) (Bd (BI 8 Gs) EB))) (AC (AQ 5 Gs (AL BS (AL BF (AL Cd (pv 5) (pv 2)) (pv 8)) (Ag (IK K) rfl T.z_len bu (AA (pv 3) AB))))
  (AE (A6 (AN Ot (pv 7) (pv 4) (AR _)) (AE (Ay (Nf K (pv 6) (AA (AO (B6 K) (pv 3) (pv 5) (λ_ _=>rfl)) AB)))) Af))))
  (AE (AM (pv 6))))))))),?_⟩
 refine At.el hR λtb h1 h2=>?_;walk_at "";refine (Ck (Am.of h1) rfl ?_);walk_at "";refine (Ck (Am.of h1) rfl ?_);walk_at "";refine⟨r,g,lo,g7,m,rfl,g2,g9,hR,hl,?_⟩;walk_at "";refine⟨cJ _,λp hp=>?_⟩;have gp:=RW.Aa g2 m;refine⟨_,rfl,a,_,rfl,(AH.new hp _).seq hS,?_⟩;refine GJ (xs:=ns.map V.int) (λi σ H1=>(∃x7 x8,σ=[some (.ref r),some (.ref a),some (.int g),some (.ref tb),some (.int ((m:Int)-1)),some (.int (Ao g (ns.take i)%g^m)),some (.ref p),x7,x8])/\AH H H1/\H1 p=some (.lst (((List.range (i+1-m)).map (N4 g g7 m ns)).map V.int))) ⟨⟨none,none,by rw[List.take_zero];rfl⟩,AH.new hp _,by rw[AD,show 0+1-m=0 by lia];rfl⟩ (λi σ H1 _ z=>z.2.1.seq hS) ?_ ?_
 ·rintro i x p2 σ H1 hx ⟨⟨x7,x8,rfl⟩,e,hp1⟩ hp2;obtain⟨n,hn1,rfl⟩:=B8 hx;have hi:i<ns.length:=(bB.mp hn1).1;have e2:AH H (Ak H1 p2 (.tup [.int ((i:Nat):Int),.int n])):=e.trans (AH.new hp2 _);have hp3:=AH.new hp2 (.tup [.int ((i:Nat):Int),.int n]) _ _ hp1;refine⟨p2,_,rfl,Am.of AD,rfl,_,_,rfl,_,_,rfl,rfl,?_⟩;walk_at "";have htl:((g7.map V.int).length:Int)=g^m:=by rw[a9,hl]
  have hst:(Ao g (ns.take i)%g^m*g+n)%g^m=Ao g (ns.take (i+1))%g^m:=by rw[Rm,MZ hn1]
  refine⟨.inr ⟨by lia,by lia⟩,_,.inr (Am.of (e2 _ _ h2)),by lia,?_⟩;rw[htl,hst]
  by_cases hge:(m:Int)-1<=(i:Int)
  ·rw[qD hge];have hw:=Tv g2 hb (k:=i+1-m) (m:=m) (by lia);rw[show i+1-m+m=i+1 by lia]at hw;have wi:=N5 g2 hb hl (k:=i+1-m) (by lia);rw[hw];refine⟨.inl ⟨_,Ai.of hp3⟩,Ck (Am.of (e2 _ _ h2)) (Dl wi.1 wi.2) ⟨_,hp3,?_,rfl,⟨_,rfl⟩,e2.into hp,?_⟩⟩
   ·rw[a9,a9,bO];exact AU (by lia)
   ·rw[AD,show i+1+1-m=(i+1-m)+1 by lia,Ax,bH];rfl
  ·rw[qC hge];refine⟨rfl,⟨_,rfl⟩,e2,?_⟩;rw[hp3,show i+1-m=0 by lia,show i+1+1-m=0 by lia]
 ·rintro σ H1 ⟨⟨x7,x8,rfl⟩,e,hp1⟩;walk_at "";rw[a9]at hp1;exact q p H1 ⟨e,hp,hp1⟩
theorem Sx:AI ["one","ring","many","first"] ["one","ring"] (AG WV):=By
theorem Yl(T:Bw K mg t)(G_81:Aj P w K mg base 3 t.f_81 ["one","row"] (JI K))(G_69:Aj P w K mg base 2 t.f_69 ["one"] (Bg)):Aj P w K mg base 4 t.f_39 ["one","ring"] (EG K):=by
 refine Aw T.d_39 Sx λvs H Q E h=>?_;obtain⟨r,a,g,lo,g7,m,ns,rfl,g2,g9,hR,hl,m1,m8,hS,hb,n1,n8,q⟩:=h;refine⟨rfl,λgh A outer s hr=>?_⟩
 refine⟨_,(AC (AQ 2 Sx (Ag (IK K) rfl T.z_len bu (AA (pv 1) AB)))
  (AC (AQ 3 Sx (AL BS (AO (B6 K) (pv 0) AF (λ_ _=>rfl)) (pv 2)))
  (AE (AM (AK hr G_81 T.m_81 (AA (pv 0) (AA (DH [(1,"ring"),(2,"many"),(3,"first")] [("ring",_),("many",_),("first",_)] (A1 rfl T.z_range (AA (AL BJ (AL BF (pv 2) (AK hr G_69 T.m_69 (AA (pv 0) AB))) AF) AB)) (λ_ _ _ _=>CO) (λ_ _ _ _=>(AO (Du (K:=K) rfl) (pv 1) (AL BS (AL BF (pv 3) (pv 0)) (pv 2)) (λ_ _=>rfl)))) AB))))))),?_⟩
 refine At.el hR λtb h1 h2=>?_;have hns:(ns.map V.int).length=ns.length:=a9 ..;walk_at "";refine⟨_,.inl hS,?_⟩;rw[hns];refine (Ck (Am.of h1) rfl ⟨lo,rfl,by lia,?_⟩);refine⟨_,rfl,_,rfl,r,g,lo,g7,m,rfl,g2,g9,hR,hl,_,_,rfl,rfl,_,_,rfl,rfl,_,rfl,by lia,by lia,λD hD=>?_⟩;rw[show ((ns.length:Int)+(m:Int)-1).toNat=ns.length+m-1 by lia];refine Bj (n:=ns.length+m-1) (λi ge Hx=>ge=((List.range i).map λk:Nat=>Ah ns (lo%(ns.length:Int)+(k:Int))).map V.int/\Hx=Ak H D (.lst ge)) ⟨rfl,rfl⟩ ?_ ?_
 ·refine Dn ?_;rintro i _ hGo ge Hx hi ⟨rfl,rfl⟩;refine hGo _ _ ?_;have rz:=IS (z:=lo%(ns.length:Int)+(i:Int)) n1;walk_at "";refine⟨by lia,?_⟩;rw[bg];refine⟨a,_,_,_,rfl,rfl,(AH.new hD _).seq hS,Dl (by lia) rz.1,AD,?_,?_,by rw[Dc]⟩
  ·rw[a9,a9,bO];exact AU (by lia)
  ·rw[Ax,bH];rfl
 ·rintro ge Hx ⟨rfl,rfl⟩;refine⟨r,D,g,lo,g7,m,GP lo m ns,rfl,g2,g9,hR.same (AH.new hD _),hl,m1,Ai.of AD,Ro g2 hb lo m,?_,λp H' hN=>?_⟩
  ·unfold GP;rw[a9,bO];lia
  ·rw[QL g lo g7 ns m1]at hN;exact q p H' ⟨(AH.new hD _).trans hN.1,(AH.new hD _).free hN.2.1,hN.2.2⟩
theorem Ym:AI ["one","row"] ["one","row"] (AG WW):=By
theorem Yn(T:Bw K mg t)(G_22:Aj P w K mg base 3 t.f_22 ["word","signs"] (EE K t.c_72))(G_81:Aj P w K mg base 3 t.f_81 ["one","row"] (JI K)):Aj P w K mg base 4 t.f_84 ["one","row"] (Rn K t.c_72):=by
 refine CK T.d_84 Ym λvs H Q E h=>?_;obtain⟨r,a,g,lo,g7,m,xs,rfl,g2,g9,hR,hl,m1,hS,kd,hn,h⟩:=h;refine⟨rfl,λgh A outer s hr=>?_⟩
 refine⟨_,(AC (Ay (An G_22 (hr.mono (by decide)) rfl T.m_22 Ac (AA (pv 1) (AA (AO (B6 K) (pv 0) AF (λ_ _=>rfl)) AB))))
  (AE (AM (AK hr G_81 T.m_81 (AA (pv 0) (AA (pv 1) AB)))))),?_⟩
 refine At.el hR λtb h1 h2=>?_;walk_at "";refine (Ck (Am.of h1) rfl ?_);walk_at "";refine⟨a,xs,g,rfl,hS,kd,?_⟩;cases hb:BY g xs with
 |some i =>
  rw[hb]at h;exact h
 |none =>
  rw[hb]at h;obtain⟨ns,rfl,hns⟩:=Cz hb;rw[a9]at hn;intro H1 e;exact⟨r,a,g,lo,g7,m,ns,rfl,g2,g9,hR.same e,hl,m1,e.seq hS,hns,hn,λp H' hN=>h ns rfl p H' ⟨e.trans hN.1,e.free hN.2.1,hN.2.2⟩⟩
theorem Po:AI ["one","ring","times","come","done"] ["one","ring","times"] (AG WX):=By
theorem Yo(T:Bw K mg t)(G_1:Aj P w K mg base 4 t.f_1 ["word","signs","fewest"] (EH K t.c_72))(G_39:Aj P w K mg base 4 t.f_39 ["one","ring"] (EG K)):Tr P w K mg base 5 t.f_73 ["one","ring","times"] (Lj K t.c_72) [.int 1]:=by
 obtain⟨tk,D⟩:=T.d_73;refine Ts (n:=2) D (.cons ⟨_,rfl⟩ .nil) Po (λ_ _ _ _ _ _ _=>b3 λ_ _ _=>⟨_,rfl,rfl⟩) rfl (λ_ _ _ _ _ _ _=>b2 λ_ _=>⟨_,rfl,rfl⟩) (λvs H Q E h=>?_) (λgh A outer s H vs Q E hr h=>?_)
 ·obtain⟨r,a,g,lo,g7,m,xs,tm,rfl,g2,g9,hR,hl,m1,m8,tabb,hS,kd,hn,htm,h⟩:=h;rfl
 obtain⟨r,a,g,lo,g7,m,xs,tm,rfl,g2,g9,hR,hl,m1,m8,tabb,hS,kd,hn,htm,h⟩:=h
 refine⟨_,(AC (Ay (An G_1 (hr.mono (by decide)) rfl T.m_1 Ac (AA (pv 1) (AA (AO (B6 K) (pv 0) AF (λ_ _=>rfl)) (BP AB)))))
  (AC (AQ 3 Po (DM LU rfl T.z_list PyProof.Rows.boot_list (AA (pv 1) AB)))
  (AC (PS.nox (A7 PassesOwn.never rfl (A1 rfl T.z_range (AA (pv 2) AB)) (BI 4 Po) (AE (AQ 3 Po (AK hr G_39 T.m_39 (AA (pv 0) (AA (pv 3) AB)))))))
  (AE (AM (pv 3)))))),?_⟩
 refine At.el hR λtb h1 h2=>?_;walk_at "";refine (Ck (Am.of h1) rfl ?_);refine⟨a,xs,g,1,rfl,hS,kd,?_⟩;cases hb:CA g 1 xs with
 |some i =>
  rw[hb]at h;exact h
 |none =>
  rw[hb]at h;obtain⟨hbi,hlen⟩:=KS hb;obtain⟨ns,rfl,hns⟩:=Cz hbi;rw[a9]at hn hlen;intro H1 e1;refine⟨_,.inl (e1.seq hS),λp hp=>?_⟩;refine⟨_,rfl,_,rfl,by lia,by lia,?_⟩;refine Ba (n:=tm) (λi σ H2=>∃q' x4,σ=[some (.ref r),some (.ref a),some (.int ((tm:Nat):Int)),some (.ref q'),x4]/\Dv H H2 q' (JJ g lo g7 m ns i)) ⟨p,none,rfl,e1.trans (AH.new hp _),e1.free hp,AD⟩ ?_ ?_
  ·refine FI ?_;rintro _ _ i _ hGo σ H2 hi ⟨q',x4,rfl,hN⟩;refine hGo _ _ ?_;walk_at "";refine⟨r,q',g,lo,g7,m,JJ g lo g7 m ns i,rfl,g2,g9,hR.same hN.1,hl,m1,m8,Ai.of hN.2.2,Rp g2 lo tabb m hns i,by rw[HD];exact hlen,by rw[HD];exact hn,λp2 H3 hN2=>?_⟩;exact⟨p2,rfl,hN.1.trans hN2.1,hN.1.free hN2.2.1,hN2.2.2⟩
  ·rintro σ H2 ⟨q',x4,rfl,hN⟩;walk_at "";exact h ns rfl q' H2 hN
theorem Yp:AI ["one","ring"] ["one","ring"] (AG WY):=By
theorem Yq(T:Bw K mg t)(G_73:Tr P w K mg base 5 t.f_73 ["one","ring","times"] (Lj K t.c_72) [.int 1]):Aj P w K mg base 6 t.f_51 ["one","ring"] (FP K t.c_72):=by refine CK T.d_51 Yp λvs H Q E h=>?_;obtain⟨r,a,g,lo,g7,m,xs,rfl,g2,g9,hR,hl,m1,m8,tabb,hS,kd,hn,h⟩:=h;refine⟨rfl,λgh A outer s hr=>?_⟩;refine⟨_,(AE (AM (Rg G_73 (hr.mono (by decide)) rfl T.m_73 Ac (AA (pv 0) (AA (pv 1) AB))))),?_⟩;walk_at "";refine⟨r,a,g,lo,g7,m,xs,1,rfl,g2,g9,hR,hl,m1,m8,tabb,hS,kd,hn,by decide,?_⟩;exact h
theorem VB:AI ["one","ring","come"] ["one","ring"] (AG WZ):=By
theorem Yr(T:Bw K mg t)(G_39:Aj P w K mg base 4 t.f_39 ["one","ring"] (EG K)):Aj P w K mg base 5 t.f_38 ["one","ring"] (F1):=by
 refine Aw T.d_38 VB λvs H Q E h=>?_;obtain⟨r,a,g,lo,g7,m,ring,rfl,ok,ha,rb,n1,n8,q⟩:=h;refine⟨rfl,λgh A outer s hr=>?_⟩
 refine⟨_,(AC (AQ 2 VB (AK hr G_39 T.m_39 (AA (pv 0) (AA (pv 1) AB))))
  (AE (AM (DH [(1,"ring"),(2,"come")] [("ring",_),("come",_)] (A1 rfl T.z_range (AA (AO (B6 K) (pv 0) AF (λ_ _=>rfl)) AB)) (λ_ _ _ _=>CO) (λ_ _ _ _=>(AL BJ (SJ (K:=K) rfl dI fL PySem.F.type_list_count M3 (pv 2) (AA (pv 0) AB)) (SJ (K:=K) rfl dI fL PySem.F.type_list_count M3 (pv 1) (AA (pv 0) AB)))))))),?_⟩
 refine At.el ok.v λtb h1 h2=>?_;have g2:=ok.g2;have g9:=ok.g9;refine Az λN hN=>?_;walk_at "";refine⟨r,a,g,lo,g7,m,ring,rfl,g2,g9,ok.v,ok.len,ok.m1,ok.m8,Ai.of ha,rb,n1,n8,λp H1 n1'=>hN _ _ ?_⟩;clear hN N;walk_at "";refine⟨_,rfl,r,_,0,_,rfl,rfl,Am.of (n1'.1 _ _ h1),rfl,g,rfl,by lia,by lia,λD hD=>?_⟩;refine Bj (n:=g.toNat) (λi ge Hx=>ge=((List.range i).map λs:Nat=>(((Al g lo g7 m ring).count (s:Int):Nat):Int)-((ring.count (s:Int):Nat):Int)).map V.int/\AH H1 Hx/\Hx D=some (.lst ge)) ⟨rfl,AH.new hD _,AD⟩ ?_ ?_
 ·refine Dn ?_;rintro i _ hGo ge Hx hi ⟨rfl,ex,hDx⟩;refine hGo _ _ ?_;walk_at "";rw[bg];refine⟨.inl ⟨_,Ai.of (ex _ _ n1'.2.2)⟩,_,ex _ _ n1'.2.2,.inl ⟨_,Ai.of ((n1'.1.trans ex) _ _ ha)⟩,_,(n1'.1.trans ex) _ _ ha,hDx,?_,?_,ex.into hD,AD⟩
  ·rw[a9,a9,bO];exact AU (by lia)
  ·rw[Ax,bH];rfl
 rintro ge H2 ⟨rfl,e2,h2⟩;exact q D H2 ⟨n1'.1.trans e2,n1'.1.free hD,h2⟩
theorem Pp:AI ["framed","short","noughts","rings"] ["framed"] (AG Wa):=By
theorem Ys(T:Bw K mg t)(G_69:Aj P w K mg base 2 t.f_69 ["one"] (Bg))(G_61:KP P w K mg base 1 t.f_61 ["number","signs","many"] (EF t.c_63))(G_76:Aj P w K mg base 1 t.f_76 ["one"] (Cr)):Aj P w K mg base 3 t.f_10 ["framed"] (OU):=by
 refine Aw T.d_10 Pp λvs H Q E h=>?_;obtain⟨r,g,lo,g7,m,rfl,ok,s9,m2,q⟩:=h;refine⟨rfl,λgh A outer s hr=>?_⟩
 refine⟨_,(AC (AQ 1 Pp (AL BJ (AK hr G_69 T.m_69 (AA (pv 0) AB)) AF))
  (AC (AQ 2 Pp (AL Iw (BO (BP AB)) (pv 1)))
  (AC (GN (iy:=3) (fv:=[(1,"short"),(2,"noughts"),(0,"framed")]) (cl:=[("short",_),("noughts",_),("framed",_)]) rfl Pp.nd rfl (Or.inl rfl) (A1 rfl T.z_range (AA (AK hr G_76 T.m_76 (AA (pv 0) AB)) AB)) (by with_unfolding_all rfl) (by with_unfolding_all rfl) (by decide +kernel) rfl (by decide +kernel) rfl ⟨(by with_unfolding_all rfl),⟨(by with_unfolding_all rfl),⟨(by with_unfolding_all rfl),trivial⟩⟩⟩ (by with_unfolding_all rfl) ⟨⟨rfl,rfl,(by with_unfolding_all rfl),rfl⟩,⟨⟨rfl,rfl,(by with_unfolding_all rfl),rfl⟩,⟨⟨rfl,rfl,(by with_unfolding_all rfl),rfl⟩,trivial⟩⟩⟩ (by decide) (λ_ _ _ _=>CO) (λ_ _ _ _=>(AL LW (pv 2) (C8 G_61 (hr.mono (by decide)) rfl T.m_61 E5 (AA (pv 0) (AA (AO (GM (K:=K) rfl) (pv 3) AF (λ_ _=>rfl)) (AA (pv 1) AB)))))))
  (AE (AM (AL LW (pv 3) (DH [(1,"short"),(2,"noughts"),(0,"framed")] [("short",_),("noughts",_),("framed",_)] (A1 rfl T.z_range (AA (Ag (IK K) rfl T.z_len bu (AA (AO (B6 K) (pv 0) AF (λ_ _=>rfl)) AB)) AB)) (λ_ _ _ _=>CO) (λ_ _ _ _=>(AL LW (pv 2) (C8 G_61 (hr.mono (by decide)) rfl T.m_61 E5 (AA (pv 0) (AA (AO (GM (K:=K) rfl) (pv 3) AF (λ_ _=>rfl)) (AA (AL BF (pv 1) AF) AB))))))))))))),?_⟩
 refine At.el ok.v λtb h1 h2=>?_;have g2:=ok.g2;have g9:=ok.g9;have hl:=ok.len;have sz:=ok.sz;have m8:=ok.m8;have hd:=BH g2 hl ok.m1;have hp0:=RW.Aa g2 (m-1);have hpm:=RW.Aa g2 m;have hlm:(g7.map V.int).length=g7.length:=a9 ..;refine Az λN hN=>?_;walk_at "";refine⟨r,g,lo,g7,m,rfl,g2,g9,ok.v,hl,_,rfl,hN _ _ ?_⟩;clear hN N;rw[show ((m:Nat):Int)-1=((m-1:Nat):Int) by lia];refine Az λN hN=>?_;walk_at "";refine⟨by decide,λp1 hp1=>GO AD (by lia) (by lia) λp2 H2 e2 f2 h2'=>hN _ _ ?_⟩;clear hN N;rw[bI]at h2';have e12:=(AH.new hp1 (.lst [V.int 0])).trans e2;have mz:List.replicate (m-1) (V.int 0)=(List.replicate (m-1) (0:Int)).map V.int:=by rw[List.map_replicate]
 rw[mz]at h2';refine Az λN hN=>?_;refine⟨_,rfl,r,g,lo,g7,m,rfl,ok.same e12,_,rfl,by lia,by lia,λD hD=>?_⟩;rw[bI];refine Bj (n:=g7.length/g.toNat) (λi ge Hx=>∃ps:List qP,ge=ps.map V.ref/\AH H2 Hx/\Hx D=some (.lst ge)/\ps.length=i/\∀(k:Nat) (q:qP),ps[k]?=some q->Hx q=some (.lst ((List.replicate (m-1) 0++Ad g (k:Int) (m-1)).map V.int))/\q≠D) ⟨[],rfl,AH.new hD _,AD,rfl,λk q z=>by cases z⟩ ?_ ?_
 ·refine Dn ?_;rintro i _ hGo ge Hx hi ⟨ps,rfl,ex,hDx,pl,hps⟩;refine hGo _ _ ?_;walk_at "";rw[bg];refine (Ck (Am.of ((e12.trans ex) _ _ h1)) rfl ⟨((i:Nat):Int),g,_,rfl,g2,g9,by lia,by lia,λhb=>?_,λ_ _ pw H3 n3=>?_⟩)
  ·exfalso;rw[bI]at hb;lia
  rw[bI]at n3;have n3':H3 pw=some (.lst ((Ad g (i:Int) (m-1)).map V.int)):=n3.2.2;refine IN ((ex.trans n3.1) _ _ h2') n3' ?_ λpc H4 e4 f4 h4=>?_
  ·rw[a9,a9,bP,Au];lia
  rw[<-bH]at h4;have e34:=n3.1.trans e4
  have pD:pc≠D:=λz=>by rw[z,n3.1 _ _ hDx]at f4;cases f4
  refine⟨e34 _ _ hDx,?_,ps++[pc],by rw[bH];rfl,(ex.trans e34).into hD,AD,by rw[bC,pl];rfl,λk q' hq=>?_⟩
  ·rw[a9,pl];exact AU (by lia)
  ·by_cases kl:k<i
   ·rw[bU (by lia)]at hq;obtain⟨a1,a2⟩:=hps k q' hq;exact⟨by rw[AJ a2];exact e34 _ _ a1,a2⟩
   ·rw[bS (by lia)]at hq;have k0:k-ps.length=0:=by have:=(bB.mp hq).1;rw[bc]at this;lia
    have ki:k=i:=by lia
    rw[k0]at hq;cases hq;rw[ki];exact⟨by rw[AJ pD];exact h4,pD⟩
 rintro ge H3 ⟨ps,rfl,e3,hD3,pl,hps⟩;refine hN _ _ ?_;clear hN N;have e13:=e12.trans e3;have z3:=e3 _ _ h2';walk_at "";refine⟨_,rfl,r,_,2,_,rfl,rfl,Am.of (e13 _ _ h1),rfl,tb,rfl,_,.inr (Am.of (e13 _ _ h2)),_,rfl,by rw[hlm];lia,by rw[hlm];lia,λD' hD'=>?_⟩;rw[hlm,bI];refine Bj (n:=g7.length) (λi ge Hx=>∃qs:List qP,ge=qs.map V.ref/\AH H3 Hx/\Hx D'=some (.lst ge)/\qs.length=i/\∀(k:Nat) (q:qP),qs[k]?=some q->Hx q=some (.lst ((List.replicate (m-1) 0++Ad g (k:Int) m).map V.int))/\q≠D') ⟨[],rfl,AH.new hD' _,AD,rfl,λk q z=>by cases z⟩ ?_ ?_
 ·refine Dn ?_;rintro i _ hGo ge Hx hi ⟨qs,rfl,ex,hDx,ql,hqs⟩;refine hGo _ _ ?_;walk_at "";rw[bg,show ((m-1:Nat):Int)+1=((m:Nat):Int) by lia];refine (Ck (Am.of ((e13.trans ex) _ _ h1)) rfl ⟨((i:Nat):Int),g,_,rfl,g2,g9,by lia,by lia,λhb=>?_,λ_ _ pw H4 n4=>?_⟩)
  ·exfalso;rw[bI]at hb;lia
  rw[bI]at n4;have n4':H4 pw=some (.lst ((Ad g (i:Int) m).map V.int)):=n4.2.2;refine IN ((ex.trans n4.1) _ _ z3) n4' ?_ λpc H5 e5 f5 h5=>?_
  ·rw[a9,a9,bP,Au];lia
  rw[<-bH]at h5;have e45:=n4.1.trans e5
  have pD:pc≠D':=λz=>by rw[z,n4.1 _ _ hDx]at f5;cases f5
  refine⟨e45 _ _ hDx,?_,qs++[pc],by rw[bH];rfl,(ex.trans e45).into hD',AD,by rw[bC,ql];rfl,λk q' hq=>?_⟩
  ·rw[a9,ql];exact AU (by lia)
  ·by_cases kl:k<i
   ·rw[bU (by lia)]at hq;obtain⟨a1,a2⟩:=hqs k q' hq;exact⟨by rw[AJ a2];exact e45 _ _ a1,a2⟩
   ·rw[bS (by lia)]at hq;have k0:k-qs.length=0:=by have:=(bB.mp hq).1;rw[bc]at this;lia
    have ki:k=i:=by lia
    rw[k0]at hq;cases hq;rw[ki];exact⟨by rw[AJ pD];exact h5,pD⟩
 rintro ge H4 ⟨qs,rfl,e4,hD4,ql,hqs⟩;refine IN (e4 _ _ hD3) hD4 (by rw[a9,a9,pl,ql];lia) λpc H5 e5 f5 h5=>?_;rw[<-bH]at h5;have al:(g^(m-1)).toNat=g7.length/g.toNat:=by lia
 have bl:(g^m).toNat=g7.length:=by lia
 refine q pc (ps++qs) H5 ((e13.trans e4).trans e5) ⟨h5,?_,?_⟩
 ·rw[bC,pl,ql];unfold DL;rw[bC,a9,a9,bO,bO,al,bl]
 ·intro i q' w hq hw;unfold DL at hw
  by_cases il:i<ps.length
  ·rw[bU il]at hq;rw[bU (by rw[a9,bO];lia),bF,cV (by lia)]at hw;cases hw;exact (e4.trans e5) _ _ (hps i q' hq).1
  ·rw[bS (by lia)]at hq;have ql':=(bB.mp hq).1;rw[bS (by rw[a9,bO];lia),bF,a9,bO,al,<-pl,cV (by lia)]at hw;cases hw;exact e5 _ _ (hqs _ q' hq).1
theorem Om:AI ["numbers","found","number","rest","further"] ["numbers"] (AG aJ):=By
theorem aa(T:Bw K mg t) :Aj P w K mg base 1 t.f_2 ["numbers"] (SK):=by
 refine Aw T.d_2 Om λvs H Q E h=>?_;obtain⟨a,ns,rfl,ha,q⟩:=h;refine⟨rfl,λgh A outer s hr=>?_⟩
 refine⟨_,(AC (AQ 1 Om AF)
  (AC (A7 PassesOwn.never rfl (Ka K (pv 0)) (BI 2 Om) (AC (AQ 3 Om (Ag Hw rfl T.z_abs PyProof.Rows.boot_abs (AA (pv 2) AB)))
  (AE (Do PassesOwn.never (AN Dq (pv 3) AF (AR _)) (AC (AQ 4 Om (AL BS (pv 1) (pv 3)))
  (AC (AQ 1 Om (pv 3))
  (AE (AQ 3 Om (pv 4)))))))))
  (AE (AM (pv 1))))),?_⟩
 refine Az λN hN=>?_;walk_at "";refine hN _ _ ?_;clear hN N;refine CU (λσ HX=>(∃x2 x3 x4,σ=[some (.ref a),some (.int ((CP ns:Nat):Int)),x2,x3,x4])/\HX=H) (λN hN=>?_) ?_
 ·refine⟨_,rfl,a,rfl,⟨_,Ai.of ha⟩,?_⟩;refine Be (xs:=ns.map V.int) (λi σ HX=>(∃x2 x3 x4,σ=[some (.ref a),some (.int ((CP (ns.take i):Nat):Int)),x2,x3,x4])/\HX=H) ⟨⟨none,none,none,rfl⟩,rfl⟩ (λi σ HX _ z=>by rw[z.2];exact Ai.of ha) ?_ ?_
  ·refine Fl ?_;rintro _ _ i x _ hGo σ HX hx ⟨⟨x2,x3,x4,rfl⟩,rfl⟩;refine hGo _ _ ?_;obtain⟨v,hv,rfl⟩:=B8 hx;refine Az λN2 hN2=>?_;walk_at "";refine hN2 _ _ ?_;clear hN2 N2;have av:(if v<0 then -v else v)=((v.natAbs:Nat):Int):=by split<;>lia
   rw[av]
   have gt:CP (ns.take (i+1))=Nat.gcd (CP (ns.take i)) v.natAbs:=by unfold CP;rw[cf,hv];show (ns.take i++[v]).foldl _ 0=_;rw[fT];rfl
   refine El (λσ HY=>∃(x y:Nat) (x4:Option V),σ=[some (.ref a),some (.int ((x:Nat):Int)),some (.int v),some (.int ((y:Nat):Int)),x4]/\HY=HX/\Nat.gcd x y=CP (ns.take (i+1)))
    (λ(σ:St) (HY:Hp)=>match σ[3]? with|some (some (V.int x))=>x.toNat|_=>0) ⟨_,_,x4,rfl,rfl,gt.symm⟩ ?_ ?_
   ·rintro σ HY ⟨x,y,x4,rfl,rfl,gxy⟩;walk_at ""
    by_cases z:0<(y:Int)
    ·rw[qD z];have m0:(x:Int)%(y:Int)=((x%y:Nat):Int):=(cW ..).symm;have ml:=dG x (show 0<y by lia);rw[m0];refine⟨z,⟨y,rfl,x%y,rfl,?_⟩,by lia⟩;rw[<-gxy,Nat.gcd_comm x y,Nat.gcd_rec y x,Nat.gcd_comm]
    ·rw[qC z];have y0:y=0:=by lia
     subst y0;rw[Nat.gcd_zero_right]at gxy;exact⟨by rw[gxy],_,rfl⟩
   ·intro σ HZ Q1 Q2 hq;walk_at "";rintro⟨v,h1,i',e1,hh⟩;exact⟨v,h1,i',e1,hq _ _ hh⟩
  ·rintro σ HX ⟨⟨x2,x3,x4,rfl⟩,rfl⟩;rw[a9,br];exact hN _ _ ⟨⟨_,_,_,rfl⟩,rfl⟩
 rintro _ hGo σ HX ⟨⟨x2,x3,x4,rfl⟩,rfl⟩;refine hGo _ _ ?_;walk_at "";exact q
theorem VC:AI ["row","divisor"] ["row"] (AG Wc):=By
theorem Yt(T:Bw K mg t)(G_2:Aj P w K mg base 1 t.f_2 ["numbers"] (SK)):Aj P w K mg base 2 t.f_52 ["row"] (Lv):=by
 refine Aw T.d_52 VC λvs H Q E h=>?_;obtain⟨a,ns,rfl,ha,nl,sb,q⟩:=h;refine⟨rfl,λgh A outer s hr=>?_⟩
 refine⟨_,(AC (AQ 1 VC (AK hr G_2 T.m_2 (AA (pv 0) AB)))
  (AC (A6 (AN Bo (pv 1) AF (AR _)) (AE (AM (pv 0))) Af)
  (AE (AM (DH [(1,"divisor")] [("divisor",_)] (Ka K (pv 0)) (λ_ _ _ _=>CO) (λ_ _ _ _=>(AL M7 (pv 0) (pv 1)))))))),?_⟩
 refine Az λN hN=>?_;walk_at "";refine⟨a,ns,rfl,ha,hN _ _ ?_⟩;clear hN N;refine CU (λσ HX=>σ=[some (.ref a),some (.int ((CP ns:Nat):Int))]/\HX=H/\CP ns≠0) (λN hN=>?_) ?_
 ·walk_at ""
  by_cases z:CP ns=0
  ·rw[qD (by lia)];exact q a H (AH.refl _) (by unfold CL;rw[qD z];exact ha)
  ·rw[qC (by lia)];exact hN _ _ ⟨rfl,rfl,z⟩
 rintro _ hGo σ HX ⟨rfl,rfl,nz⟩;refine hGo _ _ ?_;walk_at "";have es:CL ns=ns.map λn=>n/((CP ns:Nat):Int):=by unfold CL;rw[qC nz]
 refine⟨_,rfl,a,rfl,⟨_,Ai.of ha⟩,λD hD=>?_⟩;refine Cg (xs:=ns.map V.int) (λi ge Hx=>ge=((ns.take i).map λn=>n/((CP ns:Nat):Int)).map V.int/\AH HX Hx/\Hx D=some (.lst ge)) ⟨rfl,AH.new hD _,AD⟩ (λi ge Hx _ z=>Ai.of (z.2.1 _ _ ha)) ?_ ?_
 ·refine FJ ?_;rintro i x _ hGo ge Hx hx ⟨rfl,ex,hDx⟩;refine hGo _ _ ?_;obtain⟨v,hv,rfl⟩:=B8 hx;have hi:=(bB.mp hv).1;have dv:=Jp (bE hv);have vb:=sb i;rw[es,a8,bF,hv]at vb;walk_at "";refine⟨⟨by lia,v/((CP ns:Nat):Int),(fi dv).symm,.inl vb⟩,hDx,?_,?_,ex.into hD,AD⟩
  ·rw[a9,a9,b9];exact AU (by lia)
  ·rw[cf,hv];simp
 rintro ge H2 ⟨rfl,e2,h2⟩;rw[a9,br]at h2;exact q D H2 e2 (by rw[es];exact h2)
theorem Yu:AI ["row"] ["row"] (AG Wd):=By
theorem Yv(T:Bw K mg t) :Aj P w K mg base 1 t.f_79 ["row"] (Jr):=by
 refine Aw T.d_79 Yu λvs H Q E h=>?_;obtain⟨a,ns,f,rfl,ha,nl,hf,q⟩:=h;refine⟨rfl,λgh A outer s hr=>?_⟩;refine⟨_,(AE (AM (Ag (Mb rfl) rfl T.z_max PyProof.Rows.boot_max (AA (Jn (fv:=[]) (cl:=[]) rfl (GI rfl T.z_enumerate (AA (pv 0) AB)) (by with_unfolding_all rfl) (by decide +kernel) rfl (by decide +kernel) rfl rfl trivial (by with_unfolding_all rfl) trivial (by decide) (λ_ _ _ _=>(Ew (AN GC (pv 1) AF (AR _)))) (λ_ _ _ _=>(pv 0))) AB)))),?_⟩;walk_at "";refine⟨_,rfl,a,_,rfl,Ai.of ha,λD hD=>?_⟩;refine OS (xs:=ns.map V.int) (λi ge Hx=>ge=(((List.range i).filter λj=>decide (ns.getD j 0≠0)).map λj:Nat=>((j:Nat):Int)).map V.int/\AH H Hx/\Hx D=some (.lst ge)) ⟨rfl,AH.new hD _,AD⟩ (λi ge Hx _ z=>Ai.of (z.2.1 _ _ ha)) ?_ ?_
 ·rintro i x p ge Hx hx ⟨rfl,ex,hDx⟩ hp;obtain⟨v,hv,rfl⟩:=B8 hx;have hi:=(bB.mp hv).1;have ev:ns.getD i 0=v:=by rw[a8,hv];rfl
  have ep:=AH.new hp (.tup [.int ((i:Nat):Int),.int v]);walk_at ""
  by_cases z:v=0
  ·rw[qC (λy=>y z)];refine⟨?_,ex.trans ep,ep _ _ hDx⟩;rw[b8,cL,fC,qC (by rw[ev,z];decide),List.filter_nil,bz]
  ·rw[qD z];refine⟨ep _ _ hDx,?_,?_,(ex.trans ep).into hD,AD⟩
   ·rw[a9,a9];have:=cU (λj=>decide (ns.getD j 0≠0)) (List.range i);rw[bO]at this;exact AU (by lia)
   ·rw[b8,cL,fC,qD (by rw[ev];exact qF z),List.filter_nil,bH,bH];rfl
 rintro ge H2 ⟨rfl,e2,h2⟩;rw[a9]at h2;have fl:=hf.lt;have fm:((f:Nat):Int)∈((List.range ns.length).filter λj=>decide (ns.getD j 0≠0)).map λj:Nat=>((j:Nat):Int):=bR.mpr ⟨f,bv.mpr ⟨bW.mpr fl,qF hf.1⟩,rfl⟩
 refine⟨D,rfl,_,Ai.of h2,List.length_pos_of_mem fm,λm hm hx=>?_⟩;obtain⟨j,hj,rfl⟩:=bR.mp hm;have jn:=qL (bv.mp hj).2;have:=hx _ fm
 have jf:j=f:=by
  by_cases c:f<j
  ·exact qE (hf.2 j c) jn
  ·lia
 subst jf;exact q _ e2
theorem VD:AI ["row","other","at"] ["row","other"] (AG We):=By
theorem Yw(T:Bw K mg t)(G_79:Aj P w K mg base 1 t.f_79 ["row"] (Jr))(G_52:Aj P w K mg base 2 t.f_52 ["row"] (Lv)):Aj P w K mg base 3 t.f_55 ["row","other"] (SL):=by
 refine Aw T.d_55 VD λvs H Q E h=>?_;obtain⟨a,b,r,o,f,rfl,ha,hb,hl,rl,hf,rbb,obb,cbb,q⟩:=h;refine⟨rfl,λgh A outer s hr=>?_⟩
 refine⟨_,(AC (AQ 2 VD (AK hr G_79 T.m_79 (AA (pv 1) AB)))
  (AE (AM (AK hr G_52 T.m_52 (AA (Jn (fv:=[(0,"row"),(1,"other"),(2,"at")]) (cl:=[("row",_),("other",_),("at",_)]) rfl (Vs rfl T.z_zip (AA (pv 0) (AA (pv 1) AB))) (by with_unfolding_all rfl) (by decide +kernel) rfl (by decide +kernel) rfl rfl ⟨(by with_unfolding_all rfl),⟨(by with_unfolding_all rfl),⟨(by with_unfolding_all rfl),trivial⟩⟩⟩ (by with_unfolding_all rfl) ⟨⟨rfl,rfl,(by with_unfolding_all rfl),rfl⟩,⟨⟨rfl,rfl,(by with_unfolding_all rfl),rfl⟩,⟨⟨rfl,rfl,(by with_unfolding_all rfl),rfl⟩,trivial⟩⟩⟩ (by decide) (λ_ _ _ _=>CO) (λ_ _ _ _=>(AL BJ (AL Ic (AO (Du (K:=K) rfl) (pv 3) (pv 4) (λ_ _=>rfl)) (pv 0)) (AL Ic (AO (Du (K:=K) rfl) (pv 2) (pv 4) (λ_ _=>rfl)) (pv 1))))) AB))))),?_⟩
 refine Az λN hN=>?_;walk_at "";refine⟨b,o,f,rfl,hb,by lia,hf,λH1 e1=>hN _ _ ?_⟩;clear hN N;have fl:=hf.lt;have big:∀{x:Int},x.natAbs<2^4000->x.natAbs<2^100000:=λh=>bQ h (cm (by decide) (by decide))
 walk_at "";refine⟨_,rfl,_,rfl,a,b,_,_,rfl,Ai.of (e1 _ _ ha),Ai.of (e1 _ _ hb),λD hD=>?_⟩;refine QY (xs:=r.map V.int) (ys:=o.map V.int) (by rw[a9,a9,hl]) (λi ge Hx=>ge=((List.range i).map λi=>o.getD f 0*r.getD i 0-r.getD f 0*o.getD i 0).map V.int/\AH H1 Hx/\Hx D=some (.lst ge)) ⟨rfl,AH.new hD _,AD⟩ (λi ge Hx _ z=>⟨Ai.of (z.2.1 _ _ (e1 _ _ ha)),Ai.of (z.2.1 _ _ (e1 _ _ hb))⟩) ?_ ?_
 ·rintro i x y p ge Hx hx hy ⟨rfl,ex,hDx⟩ hp;obtain⟨v,hv,rfl⟩:=B8 hx;obtain⟨u,hu,rfl⟩:=B8 hy;have ev:r.getD i 0=v:=by rw[a8,hv];rfl
  have eu:o.getD i 0=u:=by rw[a8,hu];rfl
  have hi:=(bB.mp hv).1;have ep:=ex.trans (AH.new hp (.tup [.int v,.int u]));have eP:=e1.trans ep;walk_at "";refine (FK (Ai.of (eP _ _ hb)) (CY fl) ⟨_,rfl,⟨big (obb f),by rw[<-ev];exact big (rbb i)⟩,FK (Ai.of (eP _ _ ha)) (CY (by lia)) ⟨_,rfl,⟨big (rbb f),by rw[<-eu];exact big (obb i)⟩,(AH.new hp _) _ _ hDx,?_,?_,ep.into hD,AD⟩⟩)
  ·rw[a9,a9,bO];exact AU (by lia)
  ·rw[Ax,bH,ev,eu];rfl
 rintro ge H2 ⟨rfl,e2,h2⟩;rw[a9]at h2;exact⟨D,Lr r o f,rfl,h2,by unfold Lr;rw[List.length_map,List.length_range];exact rl,cbb,λp H3 e3 h3=>q p H3 ((e1.trans e2).trans e3) h3⟩
theorem MD:AI ["one","framed","rings","rows","ring","row","other"] ["one"] (AG aK):=By
theorem ac(T:Bw K mg t)(G_75:Aj P w K mg base 8 t.f_75 ["one"] (FU t.c_54))(G_10:Aj P w K mg base 3 t.f_10 ["framed"] (OU))(G_38:Aj P w K mg base 5 t.f_38 ["one","ring"] (F1))(G_55:Aj P w K mg base 3 t.f_55 ["row","other"] (SL)):Aj P w K mg base 9 t.f_3 ["one"] (Vx t.c_54):=by
 refine CK T.d_3 MD λvs H Q E h=>?_;obtain⟨r,g,lo,g7,m,lf,tf,mf,rfl,ok,fw,hq,hx⟩:=h;refine⟨rfl,λgh A outer s hr=>?_⟩
 refine⟨_,(AC (AQ 1 MD (An G_75 (hr.mono (by decide)) rfl T.m_75 Ac (AA (pv 0) AB)))
  (AC (AQ 2 MD (BO AB))
  (AC (AQ 3 MD (BO AB))
  (AC (PS.nox (A7 PassesOwn.never rfl (Ka K (AK hr G_10 T.m_10 (AA (pv 1) AB))) (BI 4 MD) (AC (AQ 5 MD (AK hr G_38 T.m_38 (AA (pv 1) (AA (pv 4) AB))))
  (AC (A7 PassesOwn.never rfl (Ka K (pv 3)) (BI 6 MD) (AE (AQ 5 MD (AK hr G_55 T.m_55 (AA (pv 5) (AA (pv 6) AB))))))
  (AE (A6 (Cv (Ag (Mz rfl) rfl T.z_any PyProof.Rows.boot_any (AA (pv 5) AB))) (AC (GN (iy:=3) (fv:=[(5,"row")]) (cl:=[("row",_)]) rfl MD.nd rfl (Or.inl rfl) (Ka K (pv 3)) (by with_unfolding_all rfl) (by with_unfolding_all rfl) (by decide +kernel) rfl (by decide +kernel) rfl ⟨(by with_unfolding_all rfl),trivial⟩ (by with_unfolding_all rfl) ⟨⟨rfl,rfl,(by with_unfolding_all rfl),rfl⟩,trivial⟩ (by decide) (λ_ _ _ _=>CO) (λ_ _ _ _=>(AK hr G_55 T.m_55 (AA (pv 0) (AA (pv 1) AB)))))
  (AC (Ay (Nf K (pv 3) (AA (pv 5) AB)))
  (AE (Ay (Nf K (pv 2) (AA (pv 4) AB)))))) Af))))))
  (AE (AM (DQ (AA (pv 2) (AA (pv 3) AB))))))))),?_⟩
 have g2:=ok.g2;have g9:=ok.g9;have mf2:=fw.two;refine Az λN hN=>?_;walk_at "";refine⟨r,g,lo,g7,m,lf,tf,mf,rfl,ok,fw,λs9 r' H1 e1 ok1=>hN _ _ ?_,λs9 H' e'=>hx s9 H' e'⟩;clear hN N;replace hq:=hq s9;refine Az λN hN=>?_;walk_at "";refine⟨cJ _,λpR hR=>hN _ _ ?_⟩;clear hN N;refine Az λN hN=>?_;walk_at "";refine⟨cJ _,λpW hW=>hN _ _ ?_⟩;clear hN N;have WR:pW≠pR:=λz=>by rw[z,AD]at hW;cases hW
 have eA:=AH.new hR (.lst []);have eB:=AH.new hW (.lst []);have m8:=ok1.m8;have tbf:=ok1.tb;have okB:=ok1.same (eA.trans eB);have RB:(Ak (Ak H1 pR (.lst [])) pW (.lst [])) pR=some (.lst []):=by rw[AJ (λz=>WR z.symm)];exact AD
 have aL1:1<=(DL g mf).length:=by unfold DL;rw[bC,a9,a9,bO,bO];have:=RW.Aa g2 mf;lia
 have eAB:=eA.trans eB;obtain⟨HB,hHB⟩:∃HB,HB=Ak (Ak H1 pR (.lst [])) pW (.lst []):=⟨_,rfl⟩;have WB:HB pW=some (.lst []):=by rw[hHB];exact AD
 rw[<-hHB]at okB RB eAB⊢;clear hHB eB eA;refine CU (λσ HX=>∃(pW:qP) (x4 x5 x6:Option V) (rs ws:List qP) (rings Rs:List (qU)) (fs:List Nat),σ=[some (.ref r),some (.ref r'),some (.ref pR),some (.ref pW),x4,x5,x6]/\AH H1 HX/\Gv HX pR rs rings/\Gv HX pW ws Rs/\Nc g lf tf mf (DL g mf) rings Rs fs) (λN hN=>?_) ?_
 ·refine⟨_,rfl,r',g,lf,tf,mf,rfl,okB,s9,mf2,λpA psA H3 e3 v3=>⟨pA,rfl,⟨_,Ai.of v3.l⟩,?_⟩⟩;have R3:=e3 _ _ RB
  have nA:pA≠pR:=λz=>by
   have:=v3.l;rw[z,R3]at this;have:=v3.n;cases psA with
   |nil=>rw[List.length_nil]at this;lia
   |cons x y=>simp only[Option.some.injEq,HO.lst.injEq,List.map_cons]at *;contradiction
  obtain⟨B,hB⟩:∃B:Hp,B=λa=>if a=pR then none else H3 a:=⟨_,rfl⟩
  have BR:B pR=none:=by rw[hB];exact qD rfl
  have Bn:∀a,a≠pR->B a=H3 a:=λa ha=>by rw[hB];exact qC ha
  have B3:AH B H3:=λa o h=>by
   by_cases c:a=pR
   ·rw[c,BR]at h;cases h
   ·rw[Bn a c]at h;exact h
  have B1:AH H1 B:=λa o h=>by
   have c:a≠pR:=λz=>by rw[z,hR]at h;cases h
   rw[Bn a c];exact (eAB.trans e3) a o h
  have vB:Gv B pA psA (DL g mf):=⟨by rw[Bn _ nA];exact v3.l,v3.n,λi q w h1 h2=>by have hw:=v3.e i q w h1 h2;rw[Bn q (EW (ps:=[]) hw (FZ mf2 m8 (bE h2)).1 R3)];exact hw⟩
  have ok3:=ok1.same B1;refine Be (xs:=psA.map V.ref) (λi σ HX=>∃(pW:qP) (x4 x5 x6:Option V) (rs ws:List qP) (rings Rs:List (qU)) (fs:List Nat),σ=[some (.ref r),some (.ref r'),some (.ref pR),some (.ref pW),x4,x5,x6]/\AH B HX/\Gv HX pR rs rings/\Gv HX pW ws Rs/\Nc g lf tf mf ((DL g mf).take i) rings Rs fs) ⟨pW,none,none,none,[],[],[],[],[],rfl,B3,⟨R3,rfl,λi q w h=>by cases h⟩,⟨e3 _ _ WB,rfl,λi q w h=>by cases h⟩,Nc.nil ..⟩ (λi σ HX _ z=>by obtain⟨_,_,_,_,_,_,_,_,_,_,z,_⟩:=z;exact Ai.of (z _ _ vB.l)) ?_ ?_
  ·refine Fl ?_;rintro _ _ i x _ hGo σ HX hx' ⟨pV,x4,x5,x6,rs,ws,rings,Rs,fs,rfl,eX,vR,vW,gi⟩;refine hGo _ _ ?_;obtain⟨q,rfl,hq1,il,hq2,hqB⟩:=vB.at hx';obtain⟨ring,hring⟩:∃ring,ring=(DL g mf).getD i []:=⟨_,rfl⟩;rw[<-hring]at hq2 hqB;have rin:=bE hq2;obtain⟨rl1,rl2⟩:=FZ mf2 m8 rin;have rlt:=F2 g2 rin;have f8:=gi.few g2 g9 tbf λs hs=>F2 g2 (cO hs)
   have sm:=λj (hj:j<=Rs.length)=>gi.small (ring:=ring) f8 rl2 hj
   have rb:=gi.rowsb f8;have cl:=λj=>CD gi.rows (Ca g lf tf mf ring) j
   have tk:(DL g mf).take (i+1)=(DL g mf).take i++[ring]:=by rw[cf,hq2];rfl
   rw[tk];refine Az λN2 hN2=>?_;walk_at "";refine⟨r',q,g,lf,tf,mf,ring,rfl,ok3.same eX,eX _ _ hqB,rlt,rl1,by lia,λp4 H4 n4=>hN2 _ _ ?_⟩;clear hN2 N2;have n4':H4 p4=some (.lst ((DG g lf tf mf ring).map V.int)):=n4.2.2;have e4:=n4.1;obtain⟨c,hc⟩:∃c,c=DG g lf tf mf ring:=⟨_,rfl⟩;rw[<-hc]at n4' sm cl;refine CU (λσ HY=>∃(pv:qP) (x6:Option V),σ=[some (.ref r),some (.ref r'),some (.ref pR),some (.ref pV),some (.ref q),some (.ref pv),x6]/\AH HX HY/\HY pv=some (.lst ((BE Rs fs Rs.length c).map V.int))) (λN2 hN2=>?_) ?_
   ·refine⟨_,rfl,pV,rfl,⟨_,Ai.of (e4 _ _ vW.l)⟩,?_⟩;refine Be (xs:=ws.map V.ref) (λj σ HY=>∃(pv:qP) (x6:Option V),σ=[some (.ref r),some (.ref r'),some (.ref pR),some (.ref pV),some (.ref q),some (.ref pv),x6]/\AH HX HY/\HY pv=some (.lst ((BE Rs fs j c).map V.int))) ⟨p4,_,rfl,e4,n4'⟩ (λj σ HY _ z=>by obtain⟨_,_,_,z,_⟩:=z;exact Ai.of (z _ _ vW.l)) ?_ ?_
    ·refine Fl ?_;rintro _ _ j y _ hGo σ HY hy ⟨pv,x6,rfl,eY,hY⟩;refine hGo _ _ ?_;obtain⟨o,rfl,ho1,jl,ho2,hoH⟩:=vW.at hy;have om:=bE ho2;have ol:=gi.rows.len _ om;have jf:=(gi.rows.at (Ca g lf tf mf ring) jl).2;have ft:=gi.rows.foot j _ _ ho2 jf;walk_at "";refine⟨pv,o,_,_,fs.getD j 0,rfl,hY,eY _ _ hoH,by rw[cl,ol],by rw[cl];lia,ft,(sm j (by lia)).mono (by decide),(rb _ om).mono (by decide),(sm (j+1) (by lia)).mono (by decide),λp5 H5 e5 h5=>?_⟩
     first
     |exact⟨p5,⟨rfl,rfl⟩,eY.trans e5,h5⟩
     |exact⟨p5,rfl,eY.trans e5,h5⟩
     |exact⟨eY.trans e5,h5⟩
    ·rintro σ HY ⟨pv,x6,rfl,eY,hY⟩;rw[a9,vW.n]at hY;exact hN2 _ _ ⟨pv,x6,rfl,eY,hY⟩
   rintro _ hGo σ HY ⟨pv,x6',rfl,eY,hY⟩;refine hGo _ _ ?_;have cG:=cl Rs.length;obtain⟨row,hrow⟩:∃row,row=BE Rs fs Rs.length c:=⟨_,rfl⟩;have smr:=sm Rs.length (bD _);rw[<-hrow]at hY cG smr;walk_at "";refine⟨row,Ai.of hY,?_⟩
   by_cases z:∃i,row.getD i 0≠0
   ·obtain⟨f,hf⟩:=UB row z;have an:(row.any λn=>decide (n≠0))=true:=by refine fb.mpr ⟨row.getD f 0,?_,qF hf.1⟩;rw[a8,bA hf.lt];exact b7 _
    rw[qD an];have cut1:c.length=g.toNat:=by rw[hc];exact Ca ..
    have mid':=gi.take (ring:=ring) f8 rl2 (by rw[<-hc,<-hrow];exact hf);rw[<-hc,<-hrow]at mid';have vWY:=vW.same eY;have vRY:=vR.same eY
    have cb:∀o∈Rs,CC (CQ o row f) 4000:=λo ho=>by
     have m8':=mid'.few g2 g9 tbf λs hs=>by
      rcases bJ.mp hs with y|y
      ·exact F2 g2 (cO y)
      ·rw[bL.mp y];exact rlt
     exact (mid'.rowsb m8' _ (cX _ (bR.mpr ⟨o,ho,rfl⟩))).mono (by decide)
    refine⟨_,rfl,pV,rfl,⟨_,Ai.of vWY.l⟩,λD hD=>?_⟩;refine Cg (xs:=ws.map V.ref) (λj ge Hx=>∃ps:List qP,ge=ps.map V.ref/\AH HY Hx/\Hx D=some (.lst ge)/\ps.length=j/\∀(k:Nat) (q:qP) (o:qU),ps[k]?=some q->Rs[k]?=some o->Hx q=some (.lst ((CQ o row f).map V.int))/\q≠D) ⟨[],rfl,AH.new hD _,AD,rfl,λk q o z=>by cases z⟩ (λj ge Hx _ z=>by obtain⟨_,_,z,_⟩:=z;exact Ai.of (z _ _ vWY.l)) ?_ ?_
    ·refine FJ ?_;rintro j y _ hGo ge Hx hy ⟨ps,rfl,ex,hDx,pl,hps⟩;refine hGo _ _ ?_;obtain⟨o,rfl,ho1,jl,ho2,hoH⟩:=vWY.at hy;have om:=bE ho2;have ol:=gi.rows.len _ om;walk_at "";refine⟨o,pv,_,row,f,rfl,ex _ _ hoH,ex _ _ hY,by rw[cG,ol],by rw[ol];lia,hf,(rb _ om).mono (by decide),smr.mono (by decide),cb _ om,λp5 H5 e5 h5=>?_⟩;have pD:p5≠D:=EW h5 (by rw[Ge,ol];lia) (e5 _ _ hDx);refine⟨e5 _ _ hDx,?_,ps++[p5],by rw[bH];rfl,(ex.trans e5).into hD,AD,by rw[bC,pl];rfl,λk q' o' hq' ho'=>?_⟩
     ·rw[a9,pl];exact AU (by lia)
     ·by_cases kl:k<j
      ·rw[bU (by lia)]at hq';obtain⟨a1,a2⟩:=hps k q' o' hq' ho';exact⟨by rw[AJ a2];exact e5 _ _ a1,a2⟩
      ·rw[bS (by lia)]at hq';have k0:k-ps.length=0:=by have:=(bB.mp hq').1;rw[bc]at this;lia
       have ki:k=j:=by lia
       rw[k0]at hq';cases hq';rw[ki,ho2]at ho';cases ho';exact⟨by rw[AJ pD];exact h5,pD⟩
    rintro ge H5 ⟨ps,rfl,e5,hD5,pl,hps⟩;rw[a9,vW.n]at pl;have R5:=e5 _ _ vRY.l;have nRD:pR≠D:=λy=>by rw[<-y,vRY.l]at hD;cases hD
    have pvD:pv≠D:=λy=>by rw[<-y,hY]at hD;cases hD
    have pvR:pv≠pR:=EW hY (by rw[cG];lia) vRY.l;have RU:Ak H5 D (.lst (ps.map V.ref++[V.ref pv])) pR=some (.lst (rs.map V.ref)):=by rw[AJ nRD];exact R5
    have rn:=vR.n;have mc:=gi.cnt
    have BD:B D=none:=by
     cases y:B D with
     |none=>rfl
     |some o=>rw[(eX.trans eY) _ _ y]at hD;cases hD
    have eL:AH B (Ak (Ak H5 D (.lst (ps.map V.ref++[V.ref pv]))) pR (.lst (rs.map V.ref++[V.ref q]))):=((((eX.trans eY).trans e5).into BD).into BR);refine⟨.inl ⟨_,Ai.of hD5⟩,D,rfl,_,hD5,?_,.inl ⟨_,Ai.of RU⟩,_,RU,?_,D,rfl,eL,rs++[q],ps++[pv],rings++[ring],⟨?_,?_,?_⟩,_,⟨?_,?_,?_⟩,_,mid'⟩
    ·rw[a9,pl];exact AU (by lia)
    ·rw[a9];exact AU (by lia)
    ·rw[AD,bH];rfl
    ·rw[bC,bC,rn];rfl
    ·intro k q' w hk hw
     by_cases kl:k<rs.length
     ·rw[bU kl]at hk;rw[bU (by lia)]at hw;have hwY:=vRY.e k q' w hk hw;have wm:=gi.sub w (bE hw);have w1:=(FZ mf2 m8 (cO wm)).1;rw[AJ (EW hwY w1 vRY.l),AJ (λy=>by rw[<-y,hwY]at hD;cases hD)];exact e5 _ _ hwY
     ·rw[bS (by lia)]at hk;rw[bS (by lia)]at hw;have k0:k-rs.length=0:=by have:=(bB.mp hk).1;rw[bc]at this;lia
      have k1:k-rings.length=0:=by lia
      rw[k0]at hk;rw[k1]at hw;cases hk;cases hw;exact eL _ _ hqB
    ·rw[AJ (λy=>nRD y.symm),AD,bH];rfl
    ·rw[bC,bC,a9,pl];rfl
    ·intro k q' w hk hw
     by_cases kl:k<ps.length
     ·rw[bU kl]at hk;rw[bU (by rw[a9];lia),bF]at hw;obtain⟨o,ho⟩:∃o,Rs[k]?=some o:=⟨_,bA (by lia)⟩;rw[ho]at hw;cases hw;obtain⟨a1,a2⟩:=hps k q' o hk ho;rw[AJ (EW a1 (by rw[Ge,gi.rows.len _ (bE ho)];lia) R5),AJ a2];exact a1
     ·rw[bS (by lia)]at hk;rw[bS (by rw[a9];lia),a9]at hw;have k0:k-ps.length=0:=by have:=(bB.mp hk).1;rw[bc]at this;lia
      have k1:k-Rs.length=0:=by lia
      rw[k0]at hk;rw[k1]at hw;cases hk;cases hw;rw[AJ pvR,AJ pvD];exact e5 _ _ hY
   ·have an:(row.any λn=>decide (n≠0))=false:=by
     refine List.any_eq_false.mpr λn hn=>?_;obtain⟨k,hk⟩:=bY.mp hn;intro y;refine z ⟨k,?_⟩;rw[a8,hk];exact qL y
    rw[qC (by rw[an];decide)];refine⟨eX.trans eY,rs,ws,rings,vR.same eY,Rs,vW.same eY,fs,gi.skip λk=>?_⟩;rw[<-hc,<-hrow];exact Classical.byContradiction λy=>z ⟨k,y⟩
  ·rintro σ HX ⟨pV,x4,x5,x6,rs,ws,rings,Rs,fs,rfl,eX,vR,vW,gi⟩;rw[a9,v3.n,br]at gi;exact hN _ _ ⟨pV,x4,x5,x6,rs,ws,rings,Rs,fs,rfl,B1.trans eX,vR,vW,gi⟩
 rintro _ hGo σ HX ⟨pV,x4,x5,x6,rs,ws,rings,Rs,fs,rfl,eX,vR,vW,gi⟩;refine hGo _ _ ?_;have bo:=gi.done g2 g9 tbf (λs hs=>F2 g2 hs) rfl;walk_at "";refine⟨by decide,λp hp=>?_⟩;have ep:=AH.new hp (.tup [.ref pR,.ref pV]);exact hq p pR pV rs ws rings Rs fs _ ((e1.trans eX).trans ep) AD (vR.same ep) (vW.same ep) bo
theorem UX:AI ["signs","rows","head","weights","row"] ["signs","rows","head"] (AG aL):=By
theorem ae(T:Bw K mg t)(G_52:Aj P w K mg base 2 t.f_52 ["row"] (Lv))(G_79:Aj P w K mg base 1 t.f_79 ["row"] (Jr)):Aj P w K mg base 3 t.f_0 ["signs","rows","head"] (Vy):=by
 refine Aw T.d_0 UX λvs H Q E h=>?_;obtain⟨pw,ws,G,Rs,fs,hd,rfl,vW,ok,g9,f8,rb,hl,nf,wb,q⟩:=h;refine⟨rfl,λgh A outer s hr=>?_⟩
 refine⟨_,(AC (AQ 3 UX (AL Iw (BO (BP AB)) (pv 0)))
  (AC (Nh AF (Ng (pv 3) (pv 2) Iu))
  (AC (A7 PassesOwn.never rfl (Ka K (pv 1)) (BI 4 UX) (AE (Nh (AL Ic (AO (Fk K) (pv 3) (pv 2) (λ_ _=>rfl)) (Ag Hw rfl T.z_abs PyProof.Rows.boot_abs (AA (AO (Fk K) (pv 4) (AK hr G_79 T.m_79 (AA (pv 4) AB)) (λ_ _=>rfl)) AB))) (Ng (pv 3) (pv 2) Iu))))
  (AC (A7 PassesOwn.never rfl (Ka K (pv 1)) (BI 4 UX) (AE (Nh (AL M7 (AL Ic (Kf G1 (AO (Fk K) (pv 4) (pv 2) (λ_ _=>rfl))) (AO (Fk K) (pv 3) (pv 2) (λ_ _=>rfl))) (AO (Fk K) (pv 4) (AK hr G_79 T.m_79 (AA (pv 4) AB)) (λ_ _=>rfl))) (Ng (pv 3) (AK hr G_79 T.m_79 (AA (pv 4) AB)) Iu))))
  (AE (AM (AK hr G_52 T.m_52 (AA (pv 3) AB)))))))),?_⟩
 refine Az λN hN=>?_;walk_at "";refine⟨by decide,λp1 hp1=>GO AD (by lia) (by lia) λp2 H2 e2 f2 h2'=>hN _ _ ?_⟩;clear hN N;rw[bI]at h2'
 have n2:H p2=none:=by
  by_cases c:p2=p1
  ·rw[c,AD]at f2;cases f2
  ·rw[AJ c]at f2;exact f2
 have e12:=(AH.new hp1 (.lst [V.int 0])).trans e2;have mz:List.replicate G (V.int 0)=(List.replicate G (0:Int)).map V.int:=by rw[List.map_replicate]
 rw[mz]at h2';refine Az λN hN=>?_;walk_at "";refine⟨_,rfl,_,rfl,p2,_,_,hd,rfl,rfl,h2',(by rw[a9,bP];exact IQ hl),hN _ _ ?_⟩;clear hN N;rw[show V.int 1=V.int (((1:Nat):Int)) from rfl,<-List.map_set];have e3:AH H (Ak H2 p2 (.lst (((List.replicate G (0:Int)).set hd (((1:Nat):Int))).map V.int))):=e12.into n2;obtain⟨H3,hH3⟩:∃H3,H3=Ak H2 p2 (.lst (((List.replicate G (0:Int)).set hd (((1:Nat):Int))).map V.int)):=⟨_,rfl⟩;have h3:H3 p2=some (.lst (((List.replicate G (0:Int)).set hd (((1:Nat):Int))).map V.int)):=by rw[hH3];exact AD
 rw[<-hH3]at e3⊢;clear hH3 h2' e2 e12 f2 hp1;have big:∀{x:Int} {b:Nat},x.natAbs<2^b->b<=100000->x.natAbs<2^100000:=λh hb=>bQ h (cm (by decide) hb)
 have pb:∀j,j<=Rs.length->(((Cb Rs fs j:Nat):Int)).natAbs<2^30000:=λj hj=>by rw[dF];exact bQ (Js (fs:=fs) rb j hj) (cm (by decide) (by lia))
 have sl:∀x:Int,((List.replicate G (0:Int)).set hd x).length=G:=λx=>by rw[fI,bP]
 have sh:∀x:Int,((List.replicate G (0:Int)).set hd x).getD hd 0=x:=λx=>by rw[FD _ _ _ _ (by rw[bP];exact hl),qD rfl]
 refine CU (λσ HX=>(∃x4,σ=[some (.int ((G:Nat):Int)),some (.ref pw),some (.int ((hd:Nat):Int)),some (.ref p2),x4])/\AH H HX/\HX p2=some (.lst (((List.replicate G (0:Int)).set hd ((Cb Rs fs Rs.length:Nat):Int)).map V.int))) (λN hN=>?_) ?_
 ·refine⟨_,rfl,pw,rfl,⟨_,Ai.of (e3 _ _ vW.l)⟩,?_⟩;refine Be (xs:=ws.map V.ref) (λj σ HX=>(∃x4,σ=[some (.int ((G:Nat):Int)),some (.ref pw),some (.int ((hd:Nat):Int)),some (.ref p2),x4])/\AH H HX/\HX p2=some (.lst (((List.replicate G (0:Int)).set hd ((Cb Rs fs j:Nat):Int)).map V.int))) ⟨⟨_,rfl⟩,e3,h3⟩ (λj σ HX _ z=>Ai.of (z.2.1 _ _ vW.l)) ?_ ?_
  ·refine Fl ?_;rintro _ _ j y _ hGo σ HX hy ⟨⟨x4,rfl⟩,eX,hX⟩;refine hGo _ _ ?_;obtain⟨o,rfl,ho1,jl,ho2,hoH⟩:=vW.at hy;have om:=bE ho2;have ol:=ok.len _ om;have jf:fs[j]?=some (fs.getD j 0):=by rw[a8,bA (by rw[ok.n];exact jl)];rfl
   have ft:=ok.foot j _ _ ho2 jf;walk_at "";refine (FK (Ai.of hX) (CY (by rw[sl];exact hl)) ?_);refine⟨o,_,fs.getD j 0,rfl,eX _ _ hoH,by lia,ft,λH4 e4=>?_⟩;refine (FK (Ai.of ((eX.trans e4) _ _ hoH)) (CY ft.lt) ⟨_,rfl,_,rfl,?_,?_⟩)
   ·rw[sh];refine⟨big (pb j (by lia)) (by decide),?_⟩;have:=big (rb _ om (fs.getD j 0)) (by decide)
    split<;>lia
   refine⟨_,rfl,_,rfl,p2,_,_,hd,rfl,rfl,e4 _ _ hX,(by rw[a9,sl];exact IQ hl),⟨_,rfl⟩,(eX.trans e4).into n2,?_⟩;rw[AD,<-List.map_set,List.set_set,sh]
   have av:(((Cb Rs fs j:Nat):Int)*if (Rs.getD j []).getD (fs.getD j 0) 0<0 then -((Rs.getD j []).getD (fs.getD j 0) 0) else (Rs.getD j []).getD (fs.getD j 0) 0)=((Cb Rs fs (j+1):Nat):Int):=by
    rw[show Cb Rs fs (j+1)=Cb Rs fs j*((Rs.getD j []).getD (fs.getD j 0) 0).natAbs from rfl,cS]
    congr 1
    split<;>lia
   rw[av]
  ·rintro σ HX ⟨⟨x4,rfl⟩,eX,hX⟩;rw[a9,vW.n]at hX;exact hN _ _ ⟨⟨_,rfl⟩,eX,hX⟩
 rintro _ hGo σ HX ⟨⟨x4,rfl⟩,eX,hX⟩;refine hGo _ _ ?_;obtain⟨D,hD⟩:∃D:Int,D=((Cb Rs fs Rs.length:Nat):Int):=⟨_,rfl⟩
 have dvs:∀l,l<Rs.length->(Rs.getD l []).getD (fs.getD l 0) 0∣D:=λl hl'=>by rw[hD];exact fW.mp (by rw[dF];exact Fa Rs fs _ l hl')
 have Db:=pb _ (bD _);rw[<-hD]at hX Db;refine CU (λσ HY=>(∃x4,σ=[some (.int ((G:Nat):Int)),some (.ref pw),some (.int ((hd:Nat):Int)),some (.ref p2),x4])/\AH H HY/\HY p2=some (.lst ((CM G Rs fs hd D).map V.int))) (λN hN=>?_) ?_
 ·refine⟨_,rfl,pw,rfl,⟨_,Ai.of (eX _ _ vW.l)⟩,?_⟩
  refine Be (xs:=ws.map V.ref) (λj σ HY=>(∃x4,σ=[some (.int ((G:Nat):Int)),some (.ref pw),some (.int ((hd:Nat):Int)),some (.ref p2),x4])/\AH H HY/\∃us,WJ G Rs fs hd D j us/\HY p2=some (.lst (us.map V.int))) ⟨⟨_,rfl⟩,eX,_,⟨sl _,sh _,λl h=>qE h (ce _),λi h1 _=>by
   rw[FD _ _ _ _ (by rw[bP];exact hl),qC h1,a8,cC]
   split<;>rfl⟩,hX⟩ (λj σ HY _ z=>Ai.of (z.2.1 _ _ vW.l)) ?_ ?_
  ·rintro j y σ HY hy ⟨⟨x4,rfl⟩,eY,us,wj,hY⟩;obtain⟨o,rfl,ho1,jl,ho2,hoH⟩:=vW.at hy;have om:=bE ho2;have ol:=ok.len _ om;have jf:fs[j]?=some (fs.getD j 0):=by rw[a8,bA (by rw[ok.n];exact jl)];rfl
   have ft:=ok.foot j _ _ ho2 jf;have wj':=wj.add ok nf jl;walk_at "";have oD:=dvs j jl;obtain⟨row,hrow⟩:∃row,row=Rs.getD j []:=⟨_,rfl⟩;rw[<-hrow]at wj' oD ft ol hoH om;obtain⟨f,hf⟩:∃f,f=fs.getD j 0:=⟨_,rfl⟩;have fl:f<G:=by rw[hf];exact ok.lt jf
   rw[<-hf]at wj' oD ft;refine (FK (Ai.of (eY _ _ hoH)) (CY (by rw[ol];exact hl)) ⟨_,rfl,?_⟩);refine (FK (Ai.of hY) (CY (by rw[wj.n];exact hl)) ⟨_,rfl,?_,?_⟩)
   ·rw[wj.h];exact⟨by rw[Int.natAbs_neg];exact big (rb _ om hd) (by decide),big Db (by decide)⟩
   refine⟨o,_,f,rfl,eY _ _ hoH,by lia,ft,λH4 e4=>?_⟩;refine (FK (Ai.of ((eY.trans e4) _ _ hoH)) (CY ft.lt) ⟨_,rfl,?_,?_⟩)
   ·rw[wj.h];obtain⟨u,hu⟩:=oD;exact⟨ft.1,-row.getD hd 0*u,by rw[hu,Int.mul_left_comm],.inr (bQ (rb _ om f) (cm (by decide) (by decide)))⟩
   refine⟨_,rfl,_,rfl,o,_,f,rfl,(eY.trans e4) _ _ hoH,by lia,ft,λH5 e5=>?_⟩;refine⟨p2,_,_,f,rfl,rfl,(e4.trans e5) _ _ hY,(by rw[a9,wj.n];exact IQ fl),⟨_,rfl⟩,((eY.trans e4).trans e5).into n2,_,wj',?_⟩;rw[AD,<-List.map_set,wj.h]
  ·rintro σ HY ⟨⟨x4,rfl⟩,eY,us,wj,hY⟩;rw[a9,vW.n]at wj;rw[wj.done ok nf hl]at hY;exact hN _ _ ⟨⟨_,rfl⟩,eY,hY⟩
 rintro _ hGo σ HY ⟨⟨x4,rfl⟩,eY,hY⟩;refine hGo _ _ ?_;unfold Bl at wb q;rw[<-hD]at wb q;walk_at "";refine⟨p2,_,rfl,hY,?_,wb,λp H' e' h'=>q p H' (eY.trans e') h'⟩;unfold CM;rw[a9,bO];lia
theorem Sy:AI ["one","rows","feet"] ["one"] (AG Wf):=By
theorem Yx(T:Bw K mg t)(G_3:Aj P w K mg base 9 t.f_3 ["one"] (Vx t.c_54))(G_79:Aj P w K mg base 1 t.f_79 ["row"] (Jr))(G_0:Aj P w K mg base 3 t.f_0 ["signs","rows","head"] (Vy)):Aj P w K mg base 10 t.f_45 ["one"] (UE t.c_54):=by
 refine CK T.d_45 Sy λvs H Q E h=>?_;obtain⟨r,g,lo,g7,m,lf,tf,mf,rfl,ok,fw,hq,hx⟩:=h;refine⟨rfl,λgh A outer s hr=>?_⟩
 refine⟨_,(AC (AQ 1 Sy (AO (B6 K) (An G_3 (hr.mono (by decide)) rfl T.m_3 Ac (AA (pv 0) AB)) AF (λ_ _=>rfl)))
  (AC (Gy (i:=2) Sy.nd rfl (Or.inr rfl) (DH [] [] (Ka K (pv 1)) (λ_ _ _ _=>CO) (λ_ _ _ _=>(AK hr G_79 T.m_79 (AA (pv 0) AB)))) (hs:=by with_unfolding_all rfl))
  (AE (AM (DH [(1,"rows"),(0,"one"),(2,"feet")] [("rows",_),("one",_),("feet",_)] (A1 rfl T.z_range (AA (AO (B6 K) (pv 0) AF (λ_ _=>rfl)) AB)) (λ_ _ _ _=>(Ew (AN (KZ (K:=K) rfl) (pv 0) (pv 3) (by with_unfolding_all rfl)))) (λ_ _ _ _=>(AK hr G_0 T.m_0 (AA (AO (GM (K:=K) rfl) (pv 2) AF (λ_ _=>rfl)) (AA (pv 1) (AA (pv 0) AB)))))))))),?_⟩
 refine At.el ok.v λtb h1 h2=>?_;have g2:=ok.g2;have g9:=ok.g9;refine Az λN hN=>?_;walk_at "";refine⟨r,g,lo,g7,m,lf,tf,mf,rfl,ok,fw,λs9 p pr pw rs ws rings Rs fs H1 e1 hp v1 v2 bo=>?_,hx⟩;refine (Ck (Am.of hp) rfl (hN _ _ ?_));clear hN N;replace hq:=hq s9;have rok:=bo.rows;obtain⟨b,Δ,M,b3,sc,rb⟩:=bo.scl;have f8:=bo.few;have at':∀l,l<Rs.length->fs[l]?=some (fs.getD l 0):=λl hl=>by rw[a8,bA (by rw[rok.n];exact hl)];rfl
 refine Az λN hN=>?_;refine⟨_,rfl,pw,rfl,⟨_,Ai.of v2.l⟩,λD hD=>?_⟩;refine Cg (xs:=ws.map V.ref) (λj ge Hx=>ge=((fs.take j).map λf:Nat=>((f:Nat):Int)).map V.int/\AH H1 Hx/\Hx D=some (.lst ge)) ⟨rfl,AH.new hD _,AD⟩ (λj ge Hx _ z=>Ai.of (z.2.1 _ _ v2.l)) ?_ ?_
 ·refine FJ ?_;rintro j y _ hGo ge Hx hy ⟨rfl,ex,hDx⟩;refine hGo _ _ ?_;obtain⟨o,rfl,ho1,jl,ho2,hoH⟩:=v2.at hy;have om:=bE ho2;have ol:=rok.len _ om;have ft:=rok.foot j _ _ ho2 (at' j jl);walk_at "";refine⟨o,_,fs.getD j 0,rfl,ex _ _ hoH,by lia,ft,λH4 e4=>⟨e4 _ _ hDx,?_,?_,(ex.trans e4).into hD,AD⟩⟩
  ·rw[a9,a9,b9];exact AU (by lia)
  ·rw[cf,at' j jl,bH,bH];rfl
 rintro ge H2 ⟨rfl,e2,hF⟩;rw[a9,v2.n,<-rok.n,br]at hF;refine hN _ _ ?_;clear hN N;have e12:=e1.trans e2;walk_at "";have eG:((g.toNat:Nat):Int)=g:=bN (by lia);refine⟨_,rfl,r,_,0,_,rfl,rfl,Am.of (e12 _ _ h1),rfl,g,rfl,by lia,by lia,λD2 hD2=>?_⟩;refine Bj (n:=g.toNat) (λi ge Hx=>∃ps:List qP,ge=ps.map V.ref/\AH H2 Hx/\Gv Hx D2 ps (B5 g.toNat Rs fs i)) ⟨[],rfl,AH.new hD2 _,AD,rfl,λk q w z=>by cases z⟩ ?_ ?_
 ·refine Dn ?_;rintro i _ hGo ge Hx hi ⟨ps,rfl,ex,vK⟩;refine hGo _ _ ?_;walk_at "";rw[bg,OW];refine⟨D,_,rfl,.inl (Ai.of (ex _ _ hF)),rfl,K6 fs,_,rfl,?_⟩;rw[qD rfl,NC];have kl:=Qe g.toNat Rs fs i
  by_cases c:i∈fs
  ·rw[qC (by rw[qF c];decide),qD c,bz];exact⟨ps,rfl,ex,vK⟩
  ·rw[qD (by rw[qG c];rfl),qC c];refine (Ck (Am.of ((e12.trans ex) _ _ h1)) rfl ⟨pw,ws,g.toNat,Rs,fs,i,by rw[eG],(v2.same e2).same ex,rok,by lia,f8,rb,hi,c,(Jt rok sc hi c).mono (by lia),λp5 H5 e5 h5=>⟨e5 _ _ vK.l,?_,ps++[p5],by rw[bH];rfl,(ex.trans e5).into hD2,?_⟩⟩)
   ·rw[a9,vK.n];exact AU (by lia)
   ·exact (vK.same e5).snoc (λu hu=>by obtain⟨hd',_,_,rfl⟩:=D1 hu;rw[DO];lia) (by rw[DO];lia) h5
 rintro ge H3 ⟨ps,rfl,e3,vK⟩;exact hq D2 ps rings Rs fs H3 (e12.trans e3) vK bo
theorem Yy:AI ["one","fitting","ways"] ["one","fitting","ways"] (AG Wg):=By
theorem Yz(T:Bw K mg t)(G_76:Aj P w K mg base 1 t.f_76 ["one"] (Cr)):Aj P w K mg base 2 t.f_70 ["one","fitting","ways"] (GU):=by
 refine Aw T.d_70 Yy λvs H Q E h=>?_;obtain⟨r,f,w',g,lo,g7,m,fs,ws,rfl,ok,hf,fl,hw,wl,q⟩:=h;refine⟨rfl,λgh A outer s hr=>?_⟩;refine⟨_,(AE (AM (DH [(2,"ways"),(0,"one")] [("ways",_),("one",_)] (Ka K (pv 1)) (λ_ _ _ _=>CO) (λ_ _ _ _=>(AO (Du (K:=K) rfl) (pv 1) (AL BS (pv 0) (AK hr G_76 T.m_76 (AA (pv 2) AB))) (λ_ _=>rfl)))))),?_⟩;refine At.el ok.v λtb h1 h2=>?_;have g2:=ok.g2;have g9:=ok.g9;have m1:=ok.m1;have m8:=ok.m8;have hl:=ok.len;have sz:=ok.sz;have hlm:(g7.map V.int).length=g7.length:=a9 ..;have hd:=BH g2 hl m1;have hp:=RW.Aa g2 (m-1);have hp2:0<g7.length/g.toNat:=by lia
 walk_at "";refine⟨_,rfl,f,rfl,⟨_,Ai.of hf⟩,λD hD=>?_⟩;refine Cg (xs:=(JX fs).map V.int) (λi ge Hx=>ge=((fs.take i).map λn=>ws.getD (n%(g7.length/g.toNat)) 0).map V.int/\Hx=Ak H D (.lst ge)) ⟨rfl,rfl⟩ (λi ge Hx _ z=>by rw[z.2];exact Ai.of (AH.new hD _ _ _ hf)) ?_ ?_
 ·refine FJ ?_;rintro i x _ hGo ge Hx hx ⟨rfl,rfl⟩;refine hGo _ _ ?_;obtain⟨v,hv,rfl⟩:=B8 hx
  obtain⟨n,hn,rfl⟩:∃n:Nat,fs[i]?=some n/\v=(n:Int):=by
   unfold JX at hv;rw[bF]at hv;cases z:fs[i]? with
   |none=>rw[z]at hv;cases hv
   |some n=>rw[z]at hv;exact⟨n,rfl,(Option.some.inj hv).symm⟩
  have en:=AH.new hD (.lst (((fs.take i).map λn=>ws.getD (n%(g7.length/g.toNat)) 0).map V.int));have md:(n:Int)%((g7.length/g.toNat:Nat):Int)=((n%(g7.length/g.toNat):Nat):Int):=(cW ..).symm;have lt:=dG n hp2;walk_at "";refine⟨r,g,lo,g7,m,rfl,ok.same en,_,rfl,by lia,?_⟩;rw[md];refine (FK (Ai.of (en _ _ hw)) (CY (by lia)) ⟨AD,?_,?_,by rw[Dc]⟩)
  ·rw[a9,a9,b9];exact AU (by lia)
  ·rw[cf,hn];simp
 rintro ge Hx ⟨rfl,rfl⟩;have lf:((JX fs).map V.int).length=fs.length:=by unfold JX;rw[List.length_map,List.length_map]
 rw[lf,br];exact q D _ ⟨AH.new hD _,hD,AD⟩
theorem Pq:AI ["one","row","ways","sign","ends"] ["one","row"] (AG Wh):=By
theorem Y0(T:Bw K mg t)(G_76:Aj P w K mg base 1 t.f_76 ["one"] (Cr))(G_70:Aj P w K mg base 2 t.f_70 ["one","fitting","ways"] (GU))(G_42:Aj P w K mg base 1 t.f_42 ["one","head","sign"] (Ll)):Aj P w K mg base 3 t.f_58 ["one","row"] (OH K):=by
 refine Aw T.d_58 Pq λvs H Q E h=>?_;obtain⟨r,a,g,lo,g7,m,ns,rfl,ok,hS,hn,q⟩:=h;refine⟨rfl,λgh A outer s hr=>?_⟩
 refine⟨_,(AC (AQ 2 Pq (BO (AA (AL Iw (BO (BP AB)) (AK hr G_76 T.m_76 (AA (pv 0) AB))) AB)))
  (AC (A7 PassesOwn.never rfl (Ve rfl T.z_reversed (AA (pv 1) AB)) (BI 3 Pq) (AC (AQ 4 Pq (AO (Fk K) (pv 2) (Kf G1 AF) (λ_ _=>rfl)))
  (AE (Ay (Nf K (pv 2) (AA (DH [(3,"sign"),(0,"one"),(4,"ends")] [("sign",_),("one",_),("ends",_)] (A1 rfl T.z_range (AA (AK hr G_76 T.m_76 (AA (pv 0) AB)) AB)) (λ_ _ _ _=>CO) (λ_ _ _ _=>(Ag (OJ (K:=K) rfl rfl) rfl T.z_sum fX (AA (AK hr G_70 T.m_70 (AA (pv 2) (AA (AK hr G_42 T.m_42 (AA (pv 2) (AA (pv 0) (AA (pv 1) AB)))) (AA (pv 3) AB)))) AB)))) AB))))))
  (AE (AM (La rfl rfl T.z_reversed rfl T.z_list (AA (pv 2) AB)))))),?_⟩
 refine At.el ok.v λtb h1 h2=>?_;have g2:=ok.g2;have g9:=ok.g9;have m1:=ok.m1;have m8:=ok.m8;have hl:=ok.len;have sz:=ok.sz;have hlm:(g7.map V.int).length=g7.length:=a9 ..;have hd:=BH g2 hl m1;have hp:=RW.Aa g2 (m-1);have hm1:=Bf g2 (show m-1<=m by lia);walk_at "";refine⟨by decide,λp1 hp1=>?_⟩;have f1:=AH.new hp1 (.lst [V.int 1]);refine⟨r,g,lo,g7,m,rfl,ok.same f1,?_⟩;refine GO AD (by lia) (by lia) λp2 H2 f2 n2 h2'=>⟨by decide,λpw hpw=>?_⟩
 rw[bI]at h2';have f3:=AH.new hpw (.lst [.ref p2])
 have c0:H2 p2=some (.lst ((E4 g.toNat g7 []).map V.int)):=by
  rw[h2']
  congr 2
  unfold E4;rw[cp]
  symm
  rw[List.eq_replicate_iff];refine⟨by rw[a9,bO],λb hb=>?_⟩;obtain⟨x,_,e⟩:=bR.mp hb;rw[<-e];rfl
 have sA:AH H (Ak H2 pw (.lst [.ref p2])):=(f1.trans f2).trans f3;have npw:H pw=none:=(f1.trans f2).free hpw;refine⟨_,rfl,a,_,rfl,sA.seq hS,?_⟩;refine Te (xs:=ns.map V.int) (λi σ H3=>∃(ps:List qP) (x3 x4:Option V),σ=[some (.ref r),some (.ref a),some (.ref pw),x3,x4]/\AH H H3/\H3 pw=some (.lst (ps.map V.ref))/\ps.length=i+1/\∀(j:Nat) (q':qP),ps[j]?=some q'->H3 q'=some (.lst ((E4 g.toNat g7 (ns.drop (ns.length-j))).map V.int))) ⟨[p2],none,none,rfl,sA,AD,rfl,λj q' hq=>?_⟩ (λi σ H3 _ z=>by obtain⟨_,_,_,_,e,_⟩:=z;exact e.seq hS) ?_ ?_
 ·have hj:j=0:=by
   have:=(bB.mp hq).1;simpa using this
  subst hj;have:q'=p2:=by simpa using hq.symm
  subst this;rw[Nat.sub_zero,List.drop_length];exact f3 _ _ c0
 ·rintro i x σ H3 hx ⟨ps,x3,x4,rfl,e3,hpw3,pl,hps⟩;rw[<-fg]at hx;obtain⟨sg,hsg,rfl⟩:=B8 hx;walk_at "";have il:i<ns.length:=by have:=(bB.mp hsg).1;rw[c6]at this;exact this
  have dr:ns.drop (ns.length-(i+1))=sg::ns.drop (ns.length-i):=by rw[eK il]at hsg;obtain⟨hlt,hget⟩:=bB.mp hsg;rw[show ns.length-(i+1)=ns.length-1-i by lia,c7 hlt,hget,show ns.length-1-i+1=ns.length-i by lia]
  obtain⟨q0,hq0⟩:∃q0,ps[i]?=some q0:=⟨ps[i],bA (by lia)⟩;have hv0:=hps i q0 hq0
  have la:Kk (ps.map V.ref) (-1)=some (V.ref q0):=by
   have z:Ox (ps.map V.ref).length (-1)=some i:=by
    unfold Ox;rw[a9,qC (by decide),qD (by lia)]
    congr 1
    lia
   unfold Kk;rw[z];show (ps.map V.ref)[i]?=_;rw[bF,hq0];rfl
  refine (FK (Ai.of hpw3) la ⟨.inl ⟨_,Ai.of hpw3⟩,?_⟩);refine⟨_,rfl,r,g,lo,g7,m,rfl,ok.same e3,_,rfl,by lia,by lia,λD hD=>?_⟩;rw[bI]
  have hne:D≠pw:=λz=>by rw[z,hpw3]at hD;cases hD
  refine Bj (n:=g7.length/g.toNat) (λk ge Hx=>ge=((List.range k).map (cnt g.toNat g7 (sg::ns.drop (ns.length-i)))).map V.int/\AH H3 Hx/\Hx D=some (.lst ge)) ⟨rfl,AH.new hD _,AD⟩ ?_ ?_
  ·refine Dn ?_;rintro k _ hGo ge Hx hk ⟨rfl,ex,hDx⟩;refine hGo _ _ ?_;walk_at "";refine⟨r,g,lo,g7,m,k,sg,by rw[bg],ok.same (e3.trans ex),hk,λp5 H5 hN5=>?_⟩;have fl:(Ci g.toNat g7 k sg).length<=9:=by unfold Ci;rw[a9];have:=cU (λj=>decide (g7.getD (k*g.toNat+j) 0=sg)) (List.range g.toNat);rw[bO]at this;lia
   refine⟨r,p5,q0,g,lo,g7,m,Ci g.toNat g7 k sg,E4 g.toNat g7 (ns.drop (ns.length-i)),rfl,ok.same ((e3.trans ex).trans hN5.1),hN5.2.2,by lia,hN5.1 _ _ (ex _ _ hv0),JV ..,λp6 H6 hN6=>?_⟩
   have sumE:((Ci g.toNat g7 k sg).map λn=>(E4 g.toNat g7 (ns.drop (ns.length-i))).getD (n%(g7.length/g.toNat)) 0).sum=cnt g.toNat g7 (sg::ns.drop (ns.length-i)) k:=by
    rw[<-JU]
    congr 1
    refine bZ λn _=>JW (dG _ (by lia))
   refine⟨p6,rfl,_,Ai.of hN6.2.2,hN6.1 _ _ (hN5.1 _ _ hDx),?_,?_,((ex.trans hN5.1).trans hN6.1).into hD,AD⟩
   ·rw[a9,a9,bO];exact AU (by lia)
   ·rw[sumE,Ax,bH];rfl
  ·rintro ge Hx ⟨rfl,ex,hDx⟩;refine⟨_,ex _ _ hpw3,?_,(e3.trans ex).into npw,ps++[D],?_,?_,λj q' hq=>?_⟩
   ·rw[a9];exact AU (by lia)
   ·rw[AD,bH];rfl
   ·rw[bC,pl];rfl
   ·by_cases hj:j<ps.length
    ·rw[bU hj]at hq;have hh:=hps j q' hq
     have:q'≠pw:=λz=>by
      rw[z,hpw3]at hh;have z2:=HO.lst.inj (Option.some.inj hh);have e1:(ps.map V.ref)[i]?=some (V.ref q0):=by rw[bF,hq0];rfl
      rw[z2,bF]at e1;cases hz:(E4 g.toNat g7 (ns.drop (ns.length-j)))[i]? with
      |none=>rw[hz]at e1;cases e1
      |some c=>rw[hz]at e1;cases e1
     rw[AJ this];exact ex _ _ hh
    ·have hj2:=(bB.mp hq).1;rw[bC]at hj2;have hj3:j=i+1:=by simp only[List.length_cons,List.length_nil]at hj2;lia
     subst hj3;rw[bS (by lia),pl,eQ]at hq;have:q'=D:=(Option.some.inj hq).symm;subst this;rw[AJ hne,hDx,dr];rfl
 ·rintro σ H3 ⟨ps,x3,x4,rfl,e3,hpw3,pl,hps⟩;walk_at "";refine⟨_,Ai.of hpw3,λp9 hp9=>?_⟩;have f9:=AH.new hp9 (.lst (ps.map V.ref).reverse);rw[a9]at pl;refine q p9 _ (e3.trans f9) (e3.free hp9) ⟨ps.reverse,by rw[AD,fg],by rw[c6,pl],λk q' hq=>?_⟩;have kl:=(bB.mp hq).1;rw[c6]at kl;rw[eK kl]at hq;have hh:=hps _ q' hq;rw[show ns.length-(ps.length-1-k)=k by lia]at hh;exact f9 _ _ hh
theorem NY:AI ["parts","number","at","rest"] ["parts","number"] (AG Wi):=By
theorem Y1(T:Bw K mg t) :Aj P w K mg base 1 t.f_64 ["parts","number"] (Je):=by
 refine Aw T.d_64 NY λvs H Q E h=>?_;obtain⟨p,ps,n,rfl,hp,n0,n1,q⟩:=h;refine⟨rfl,λgh A outer s hr=>?_⟩
 refine⟨_,(AC (AQ 2 NY AF)
  (AC (AQ 3 NY (pv 1))
  (AC (Do PassesOwn.never (AN Ot (pv 3) (AO (Fk K) (pv 0) (pv 2) (λ_ _=>rfl)) (AR _)) (AC (AQ 3 NY (AL BJ (pv 3) (AO (Fk K) (pv 0) (pv 2) (λ_ _=>rfl))))
  (AE (AQ 2 NY (AL BF (pv 2) AF)))))
  (AE (AM (DQ (AA (pv 2) (AA (pv 3) AB)))))))),?_⟩
 have hlm:(ps.map V.int).length=ps.length:=a9 ..
 have pos:0<ps.length:=by
  cases ps with
  |nil=>exact qE n1 (by simp;lia)
  |cons a r=>exact Nat.succ_pos _
 refine Az λN hN=>?_;walk_at "";refine hN _ _ ?_;clear hN N;refine Az λN hN=>?_;walk_at "";refine hN _ _ ?_;clear hN N;refine CU (λσ HX=>∃(k rest:Nat),k<ps.length/\(rest:Int)<ps.getD k 0/\n=(ps.take k).sum+(rest:Int)/\σ=[some (.ref p),some (.int n),some (.int ((k:Nat):Int)),some (.int ((rest:Nat):Int))]/\HX=H) (λN hN=>?_) ?_
 ·refine El (λσ HX=>∃(k rest:Nat),k<ps.length/\n=(ps.take k).sum+(rest:Int)/\σ=[some (.ref p),some (.int n),some (.int ((k:Nat):Int)),some (.int ((rest:Nat):Int))]/\HX=H)
   (λ(σ:St) (HX:Hp)=>match σ[2]? with|some (some (V.int y))=>((ps.length:Int)-y).toNat|_=>0) ⟨0,n.toNat,pos,by simp;lia,by rw[Int.toNat_of_nonneg n0];rfl,rfl⟩ ?_ ?_
  ·rintro σ HX ⟨k,rest,hk,hn,rfl,rfl⟩;have st:=KY hk;walk_at "";refine (FK (Ai.of hp) (CY hk) ⟨_,rfl,?_⟩)
   by_cases hle:ps.getD k 0<=(rest:Int)
   ·rw[qD hle];refine (FK (Ai.of hp) (CY hk) ⟨_,rfl,⟨k+1,?_,(((rest:Nat):Int)-ps.getD k 0).toNat,?_,by lia,by lia,rfl⟩,by lia⟩)
    ·by_cases z:k+1<ps.length
     ·exact z
     ·rw[fP (show ps.length<=k+1 by lia)]at st;lia
    ·rw[st];lia
   ·rw[qC hle];exact hN _ _ ⟨k,rest,hk,by lia,hn,rfl,rfl⟩
  ·intro σ H1 Q1 Q2 hq;walk_at "";rintro⟨v,h1,v1,h2,v2,h3,p',ys,i',x',e1,e2,e3,e4,i,h5,x,h6,h7⟩;exact⟨v,h1,v1,h2,v2,h3,p',ys,i',x',e1,e2,e3,e4,i,h5,x,h6,hq _ _ h7⟩
 rintro _ hGo σ HX ⟨k,rest,hk,hr,hn,rfl,rfl⟩;refine hGo _ _ ?_;walk_at "";exact⟨by decide,λb hb=>q k rest b _ (AH.new hb _) hk hr hn AD⟩
theorem Fm:AI ["one","row","ways","number","chosen","head","word","at","sign","fitting","taken"] ["one","row","ways","number"] (AG Wj):=By
theorem Y2(T:Bw K mg t)(G_64:Aj P w K mg base 1 t.f_64 ["parts","number"] (Je))(G_61:KP P w K mg base 1 t.f_61 ["number","signs","many"] (EF t.c_63))(G_42:Aj P w K mg base 1 t.f_42 ["one","head","sign"] (Ll))(G_69:Aj P w K mg base 2 t.f_69 ["one"] (Bg))(G_70:Aj P w K mg base 2 t.f_70 ["one","fitting","ways"] (GU))(G_76:Aj P w K mg base 1 t.f_76 ["one"] (Cr)):Aj P w K mg base 3 t.f_60 ["one","row","ways","number"] (Jf K):=by
 refine Aw T.d_60 Fm λvs H Q E h=>?_;obtain⟨r,a,p,g,lo,g7,m,row,n,rfl,ok,hS,hn,hW,hlt,q⟩:=h;refine⟨rfl,λgh A outer s hr=>?_⟩
 refine⟨_,(AC (AQ 4 Fm (AK hr G_64 T.m_64 (AA (AO (Fk K) (pv 2) AF (λ_ _=>rfl)) (AA (pv 3) AB))))
  (AC (AQ 5 Fm (AO (B6 K) (pv 4) AF (λ_ _=>rfl)))
  (AC (AQ 6 Fm (C8 G_61 (hr.mono (by decide)) rfl T.m_61 E5 (AA (pv 5) (AA (AO (B6 K) (pv 0) AF (λ_ _=>rfl)) (AA (AL BJ (AK hr G_69 T.m_69 (AA (pv 0) AB)) AF) AB)))))
  (AC (A7 PassesOwn.never rfl (GI rfl T.z_enumerate (AA (pv 1) AB)) (Fo rfl (Bd (BI 7 Fm) (Bd (BI 8 Fm) EB))) (AC (AQ 9 Fm (AK hr G_42 T.m_42 (AA (pv 0) (AA (pv 5) (AA (pv 8) AB)))))
  (AC (AQ 4 Fm (AK hr G_64 T.m_64 (AA (AK hr G_70 T.m_70 (AA (pv 0) (AA (pv 9) (AA (AO (Fk K) (pv 2) (AL BF (pv 7) AF) (λ_ _=>rfl)) AB)))) (AA (AO (B6 K) (pv 4) AF (λ_ _=>rfl)) AB))))
  (AC (AQ 10 Fm (AO (Fk K) (pv 9) (AO (B6 K) (pv 4) AF (λ_ _=>rfl)) (λ_ _=>rfl)))
  (AC (Ay (Nf K (pv 6) (AA (AL BS (pv 10) (AO (B6 K) (pv 0) AF (λ_ _=>rfl))) AB)))
  (AE (AQ 5 Fm (AL BS (pv 10) (AK hr G_76 T.m_76 (AA (pv 0) AB))))))))))
  (AE (AM (pv 6))))))),?_⟩
 refine At.el ok.v λtb h1 h2=>?_;have g2:=ok.g2;have g9:=ok.g9;have m1:=ok.m1;have m8:=ok.m8;have hd:=BH g2 ok.len m1;have hpw:=RW.Aa g2 (m-1);have hp2:0<g7.length/g.toNat:=by lia
 obtain⟨ps,hps,pl,pe⟩:=hW;obtain⟨q0,hq0⟩:∃q0,ps[0]?=some q0:=⟨ps[0],bA (by lia)⟩;have hv0:=pe 0 q0 hq0;rw[fB]at hv0;refine Az λN hN=>?_;walk_at "";refine (FK (v:=.ref q0) (Ai.of hps) (DI (by rw[bF,hq0];rfl)) ⟨q0,E4 g.toNat g7 row,_,rfl,hv0,by lia,by rw[Mo];exact hlt,λh0 rest b H2 e2 hh hr hnn hb=>hN _ _ ?_⟩);clear hN N;rw[JV]at hh;rw[JW hh]at hr;have inv0:∀c,(KW g.toNat g7 row h0)[rest]?=some c->(Dm g g7 m row)[n]?=some (Ad g (h0:Int) (m-1)++c):=λc hc=>Vt hh hr hnn hc
 clear hnn;refine Az λN hN=>?_;walk_at "";refine (Ck (Am.of hb) rfl (hN _ _ ?_));clear hN N;have ok2:=ok.same e2;refine Az λN hN=>?_;walk_at "";refine At.el ok2.v λtb2 k1 k2=>?_;refine (Ck (Am.of k1) rfl ⟨r,g,lo,g7,m,rfl,g2,g9,ok2.v,ok2.len,_,rfl,_,g,_,rfl,g2,g9,by lia,by lia,λz=>qE z ?_,λ_ _ pw H3 n3=>hN _ _ ?_⟩)
 ·rw[show ((m:Int)-1).toNat=m-1 by lia];lia
 clear hN N;rw[show ((m:Int)-1).toNat=m-1 by lia]at n3;have hb3:=n3.1 _ _ hb;have hw3:H3 pw=some (.lst ((Ad g (h0:Int) (m-1)).map V.int)):=n3.2.2;have nw:=n3.2.1;have e3:=n3.1;clear n3 hb k1 k2;refine CU (λσ HX=>∃b h x7 x8 x9 x10 w,σ=[some (.ref r),some (.ref a),some (.ref p),some (.int ((n:Nat):Int)),some (.ref b),some (.int ((h:Nat):Int)),some (.ref pw),x7,x8,x9,x10]/\AH H2 HX/\HX pw=some (.lst (w.map V.int))/\(Dm g g7 m row)[n]?=some w) (λN hN=>?_) ?_
 ·refine⟨_,rfl,a,_,rfl,(e2.trans e3).seq hS,?_⟩;refine GJ (xs:=row.map V.int) (λi σ HX=>∃b b0 h rest x7 x8 x9 x10 w,σ=[some (.ref r),some (.ref a),some (.ref p),some (.int ((n:Nat):Int)),some (.ref b),some (.int ((h:Nat):Int)),some (.ref pw),x7,x8,x9,x10]/\AH H2 HX/\HX b=some (.tup [.int b0,.int ((rest:Nat):Int)])/\h<g7.length/g.toNat/\(rest:Int)<cnt g.toNat g7 (row.drop i) h/\HX pw=some (.lst (w.map V.int))/\w.length=m-1+i/\∀c,(KW g.toNat g7 (row.drop i) h)[rest]?=some c->(Dm g g7 m row)[n]?=some (w++c)) ⟨b,_,h0,rest,none,none,none,none,_,rfl,e3,hb3,hh,hr,hw3,by rw[Au];rfl,inv0⟩ (λi σ HX _ z=>by obtain⟨_,_,_,_,_,_,_,_,_,_,e,_⟩:=z;exact (e2.trans e).seq hS) ?_ ?_
  ·clear inv0 hb3 hw3 hr;rintro i x pt σ HX hx ⟨b,b0,h,rest,x7,x8,x9,x10,w,rfl,eX,hb,hh,hr,hw,wl,inv⟩ hpt;obtain⟨s,hs,rfl⟩:=B8 hx;have dr:row.drop i=s::row.drop (i+1):=by obtain⟨hl,hget⟩:=bB.mp hs;rw[c7 hl,hget]
   have il:=(bB.mp hs).1;rw[dr]at hr inv;have et:=AH.new hpt (.tup [.int ((i:Nat):Int),.int s]);refine⟨pt,_,rfl,Am.of AD,rfl,_,_,rfl,_,_,rfl,rfl,?_⟩;have eT:=eX.trans et;have hbT:=et _ _ hb;have hwT:=et _ _ hw;generalize Ak HX pt (.tup [.int ((i:Nat):Int),.int s])=HT at eT hbT hwT et⊢;have okT:=(ok.same e2).same eT;refine Az λN2 hN2=>?_;walk_at "";refine⟨r,g,lo,g7,m,h,s,rfl,okT,hh,λpf H4 n4=>hN2 _ _ ?_⟩;clear hN2 N2;have e4:=eT.trans n4.1;have hb4:=n4.1 _ _ hbT;have hw4:=n4.1 _ _ hwT;have hf4:=n4.2.2;have ok4:=okT.same n4.1;clear n4 okT eT hbT hwT et hb hw hpt eX;obtain⟨qk,hqk⟩:∃qk,ps[i+1]?=some qk:=⟨ps[i+1],bA (by lia)⟩;have hvk:=pe (i+1) qk hqk;refine Az λN2 hN2=>?_;walk_at "";have eH4:=e2.trans e4;have sh:((Ci g.toNat g7 h s).map λf=>(E4 g.toNat g7 (row.drop (i+1))).getD (f%(g7.length/g.toNat)) 0)=(Ci g.toNat g7 h s).map λf=>cnt g.toNat g7 (row.drop (i+1)) (f%(g7.length/g.toNat)):=bZ λf _=>JW (dG _ hp2)
   have fl:(Ci g.toNat g7 h s).length<=300:=by unfold Ci;rw[a9];have:=cU (λj=>decide (g7.getD (h*g.toNat+j) 0=s)) (List.range g.toNat);rw[bO]at this;lia
   refine (FK (v:=.ref qk) (Ai.of (eH4 _ _ hps)) (by rw[show (i:Int)+1=((i+1:Nat):Int) by lia];exact DI (by rw[bF,hqk];rfl)) ?_);refine⟨r,pf,qk,g,lo,g7,m,Ci g.toNat g7 h s,E4 g.toNat g7 (row.drop (i+1)),rfl,ok4,hf4,fl,eH4 _ _ hvk,JV _ _ _,λpsh H5 n5=>?_⟩;rw[sh]at n5;refine (Ck (Am.of (n5.1 _ _ hb4)) rfl ⟨psh,_,_,rfl,n5.2.2,by lia,by rw[JU];exact hr,λk rest' b' H6 e6 hk hr' hn' hb'=>hN2 _ _ ?_⟩);clear hN2 N2;rw[a9]at hk;obtain⟨f,hf⟩:∃f,(Ci g.toNat g7 h s)[k]?=some f:=⟨_,bA hk⟩;rw[a8,bF,hf]at hr';replace hr':(rest':Int)<cnt g.toNat g7 (row.drop (i+1)) (f%(g7.length/g.toNat)):=hr'
   have inv2:∀c,(KW g.toNat g7 (row.drop (i+1)) (f%(g7.length/g.toNat)))[rest']?=some c->(Dm g g7 m row)[n]?=some (w++[((f%g.toNat:Nat):Int)]++c):=λc hc=>by rw[dj];exact inv _ (X9 hf hr' hn' hc)
   have e56:=n5.1.trans e6;have e6':=e4.trans e56;have hf6:=e56 _ _ hf4;have hw6:=e56 _ _ hw4;have ok6:=ok4.same e56;clear n5 e6 hn' e56 hf4 hw4 hb4 e4 inv hr ok4 sh eH4 hvk hqk;refine Az λN2 hN2=>?_;walk_at "";refine (Ck (Am.of hb') rfl (FK (v:=.int ((f:Nat):Int)) (Ai.of hf6) (DI (by unfold JX;rw[List.map_map,List.getElem?_map,hf];rfl)) (hN2 _ _ ?_)));clear hN2 N2;refine At.el ok6.v λtb6 k1 k2=>?_;refine Az λN2 hN2=>?_;walk_at "";refine⟨.inl ⟨_,Ai.of hw6⟩,Ck (Am.of k1) rfl ⟨_,rfl,by lia,_,hw6,?_,hN2 _ _ ?_⟩⟩
   ·rw[a9,wl];exact AU (by lia)
   clear hN2 N2;have e7:=e6'.into nw (o:=.lst (w.map V.int++[V.int ((f:Int)%g)]))
   have hb7:Ak H6 pw (.lst (w.map V.int++[V.int ((f:Int)%g)])) b'=some (.tup [.int ((k:Nat):Int),.int ((rest':Nat):Int)]):=by rw[AJ (Ff hb' hw6 (λz=>nomatch z))];exact hb'
   have hw7:Ak H6 pw (.lst (w.map V.int++[V.int ((f:Int)%g)])) pw=some (.lst ((w++[((f%g.toNat:Nat):Int)]).map V.int)):=by rw[AD,bH,show (f:Int)%g=((f%g.toNat:Nat):Int) by rw[cW,bN (by lia)]];rfl
   have ok7:=(ok.same e2).same e7;generalize Ak H6 pw (.lst (w.map V.int++[V.int ((f:Int)%g)]))=H7 at e7 hb7 hw7 ok7⊢;walk_at "";exact⟨r,g,lo,g7,m,rfl,ok7,_,rfl,by lia,_,f%(g7.length/g.toNat),by rw[cW],e7,rest',hb7,dG _ hp2,hr',_,hw7,by rw[bC,wl];rfl,inv2⟩
  ·rintro σ HX ⟨b,b0,h,rest,x7,x8,x9,x10,w,rfl,eX,hb,hh,hr,hw,wl,inv⟩;rw[a9,List.drop_length]at hr inv;have r0:rest=0:=by have:(rest:Int)<1:=hr;lia
   refine hN _ _ ⟨b,h,x7,x8,x9,x10,w,rfl,eX,hw,?_⟩;have:=inv [] (by rw[r0];rfl);rw[bz]at this;exact this
 rintro _ hGo σ HX ⟨b,h,x7,x8,x9,x10,w,rfl,eX,hw,hall⟩;refine hGo _ _ ?_;walk_at "";exact q pw HX w hall ⟨e2.trans eX,e2.free nw,hw⟩
theorem VE:AI ["one","row","number","ways"] ["one","row","number"] (AG Wk):=By
theorem Y3(T:Bw K mg t)(G_22:Aj P w K mg base 3 t.f_22 ["word","signs"] (EE K t.c_72))(G_58:Aj P w K mg base 3 t.f_58 ["one","row"] (OH K))(G_60:Aj P w K mg base 3 t.f_60 ["one","row","ways","number"] (Jf K)):Aj P w K mg base 4 t.f_36 ["one","row","number"] (Pl K t.c_72 t.c_63):=by
 refine CK T.d_36 VE λvs H Q E h=>?_;obtain⟨r,a,g,lo,g7,m,xs,n,rfl,ok,hS,kd,hn,h⟩:=h;refine⟨rfl,λgh A outer s hr=>?_⟩
 refine⟨_,(AC (Ay (An G_22 (hr.mono (by decide)) rfl T.m_22 Ac (AA (pv 1) (AA (AO (B6 K) (pv 0) AF (λ_ _=>rfl)) AB))))
  (AC (AQ 3 VE (AK hr G_58 T.m_58 (AA (pv 0) (AA (pv 1) AB))))
  (AC (A6 (PW.pt (Dd (AN Dp (pv 2) AF (AR _)) (Di (AN Ot (pv 2) (Ag (Ey rfl) rfl T.z_sum fX (AA (AO (Fk K) (pv 3) AF (λ_ _=>rfl)) AB)) (AR _))))) (AE (BK rfl T.x_63 rfl T.m_63 Ap (AA Bq AB))) Af)
  (AE (AM (AK hr G_60 T.m_60 (AA (pv 0) (AA (pv 1) (AA (pv 3) (AA (pv 2) AB)))))))))),?_⟩
 refine At.el ok.v λtb h1 h2=>?_;refine Az λN hN=>?_;walk_at "";refine (Ck (Am.of h1) rfl ⟨a,xs,g,rfl,hS,kd,?_⟩);cases hb:BY g xs with
 |some i =>
  rw[hb]at h;exact h
 |none =>
  rw[hb]at h;obtain⟨ns,rfl,hns⟩:=Cz hb;rw[a9]at hn;obtain⟨hbad,hgood⟩:=h ns rfl;clear h;intro H1 e1;refine hN _ _ ?_;clear hN N;refine Az λN hN=>?_;walk_at "";refine⟨r,a,g,lo,g7,m,ns,rfl,ok.same e1,e1.seq hS,by lia,λp H2 e2 hp hW=>hN _ _ ?_⟩;clear hN N;have e12:=e1.trans e2;obtain⟨ps,hps,pl,pe⟩:=id hW;obtain⟨q0,hq0⟩:∃q0,ps[0]?=some q0:=⟨ps[0],bA (by lia)⟩;have hv0:=pe 0 q0 hq0;rw[fB]at hv0;refine Az λN hN=>?_;walk_at ""
  by_cases n0:n<0
  ·rw[qD n0];exact⟨by decide,hbad (.inl n0) _ e12⟩
  rw[qC n0];refine (FK (v:=.ref q0) (Ai.of hps) (DI (by rw[bF,hq0];rfl)) ⟨q0,rfl,_,Ai.of hv0,?_⟩);rw[Mo]
  by_cases n1:Fi g.toNat g7 ns<=n
  ·rw[qD n1];exact⟨by decide,hbad (.inr n1) _ e12⟩
  rw[qC n1];refine hN _ _ ?_;clear hN N;obtain⟨M,rfl⟩:∃M:Nat,n=((M:Nat):Int):=⟨n.toNat,by lia⟩;walk_at "";exact⟨r,a,p,g,lo,g7,m,ns,M,rfl,ok.same e12,e12.seq hS,hn,hW,by lia,λq H' w hw n5=>hgood (by lia) (by lia) q H' w hw ⟨e12.trans n5.1,e12.free n5.2.1,n5.2.2⟩⟩
theorem Pr:AI ["nexts","ahead","here","come"] ["nexts"] (AG Wl):=By
theorem Y4(T:Bw K mg t) :Aj P w K mg base 1 t.f_18 ["nexts"] (L5 P w K):=by
 refine Aw T.d_18 Pr λvs H Q E h=>?_;obtain⟨d,u,ls,A0,F,rfl,dr,gr,nd,cl,lA,lF,q⟩:=h;refine⟨rfl,λgh A outer s hr=>?_⟩
 refine⟨_,(AC (Gy (i:=1) Pr.nd rfl (Or.inl rfl) (Jw (P:=P) (w:=w) (K:=K) rfl rfl rfl))
  (AC (A7 PassesOwn.never rfl (Fb (P:=P) (w:=w) (K:=K) rfl rfl rfl (pv 0)) (BI 2 Pr) (AC (Ay (SW (P:=P) (w:=w) (K:=K) rfl rfl rfl eE PySem.F.type_dict_setdefault (Hz (P:=P) (w:=w) (K:=K) rfl rfl rfl (Dt hr)) (pv 1) (AA (pv 2) (AA (BO AB) AB))))
  (AE (A7 PassesOwn.never rfl (Ka K (DX (P:=P) (w:=w) (K:=K) rfl rfl rfl (Dt hr) (pv 0) (pv 2) (λ_ _=>rfl))) (BI 3 Pr) (AE (Ay (Nf K (SW (P:=P) (w:=w) (K:=K) rfl rfl rfl eE PySem.F.type_dict_setdefault (Hz (P:=P) (w:=w) (K:=K) rfl rfl rfl (Dt hr)) (pv 1) (AA (pv 3) (AA (BO AB) AB))) (AA (pv 2) AB))))))))
  (AE (AM (pv 1))))),?_⟩
 refine Az λN hN=>?_;walk_at "";intro d2 u2 hd2 dw;refine hN _ _ ?_;clear hN N;have e0:=AH.new hd2 u2;generalize Ak H d2 u2=H0 at dw e0⊢;refine CU (λσ HX=>(∃x2 x3,σ=[some (.ref d),some (.ref d2),x2,x3])/\∃u' ls2 A2 B,AH (Ak H d u') HX/\DR P w K HX d u' (Ar A0 (ls.map V.ref))/\(∀l∈ls2,H l=none)/\DW P w K HX d2 (Ar A2 (ls2.map V.ref))/\D8 K HX ls2 A2 B/\Ph A0 F A2 B) (λN hN=>?_) ?_
 ·refine⟨_,rfl,d,u,_,rfl,dr.same e0,λu' dr'=>?_⟩;have nd2:d≠d2:=λe=>by obtain⟨φ,h1,_⟩:=dr.isX;rw[e,hd2]at h1;cases h1
  have eF:=AH.both e0 d u';have gF:=(dr.same e0).grl (gr.same e0) u'
  have aF:U3 P w K H (Ak H0 d u') d2 [] (λ_=>[]):=by obtain⟨bs,h1,h3,h4⟩:=dw;have hb:bs=[]:=List.map_eq_nil_iff.mp h3;subst hb;exact⟨[],λl hl=>qE hl List.not_mem_nil,⟨[],by rw[AJ (Ne.symm nd2)];exact h1,rfl,λp hp=>qE hp List.not_mem_nil⟩,⟨rfl,List.nodup_nil,λi a l z=>by simp at z⟩⟩
  generalize Ak H0 d u'=HF at dr' eF gF aF⊢;refine Ql (P:=P) (w:=w) (K:=K) (d:=d) (u:=u') (kvs:=Ar A0 (ls.map V.ref)) (λi σ HX=>(∃x2 x3,σ=[some (.ref d),some (.ref d2),x2,x3])/\AH (Ak H d u') HX/\DR P w K HX d u' (Ar A0 (ls.map V.ref))/\D8 K HX ls A0 F/\∃A2 B,U3 P w K H HX d2 A2 B/\Qx A0 F i (λ_ _=>False) (i*70000) A2 B) ⟨⟨none,none,rfl⟩,eF,dr',gF,[],λ_=>[],aF,⟨List.nodup_nil,λp hp=>qE hp List.not_mem_nil,λp hp=>qE hp (by simp),λ_ _=>rfl,λp q=>by simp,λ_=>Nat.zero_le _⟩⟩ (λi σ HX _ z=>z.2.2.1) ?_ ?_
  ·rintro i b k v σ HX hk sb ⟨⟨x2,x3,rfl⟩,eX,dX,gX,A2,B,aX,tX⟩;obtain⟨a,l,ha,hl,rfl,rfl⟩:=L6 hk;dsimp only[GB];have aA:a∈A0:=bE ha;have lA2:∀{A2:List (qV)} {B:qV->List (qV)} {D:(qV)->(qV)->Prop} {n:Nat},Qx A0 F i D n A2 B->A2.length<=100:=λt=>cF (t.nd.length_le_of_subset t.sub) lA
   have Hn:∀{HX:Hp} {l:qP},AH (Ak H d u') HX->HX l=none->H l=none:=λ{HX l} e z=>by have y:=e.free z;rw[AJ λx=>by rw[x,AD]at y;cases y]at y;exact y
   have hd2':Ak H d u' d2=none:=by rw[AJ (Ne.symm nd2)];exact hd2
   refine CU (λσ HY=>(∃x3,σ=[some (.ref d),some (.ref d2),some (.ref b),x3])/\AH (Ak H d u') HY/\DR P w K HY d u' (Ar A0 (ls.map V.ref))/\D8 K HY ls A0 F/\Am K HY b (Sd a)/\∃A2 B,U3 P w K H HY d2 A2 B/\Qx A0 F i (λ_ _=>False) (i*70000) A2 B/\a∈A2) (λN2 hN2=>?_) ?_
   ·obtain⟨ls2,ln,wX,g2⟩:=aX;obtain⟨v2,r2⟩:=wX.r;have lr:(Ar A2 (ls2.map V.ref)).length<=100:=by rw[CH (by rw[a9];exact g2.n)];exact lA2 tX
    refine⟨_,rfl,⟨d2,v2,_,rfl,r2⟩,_,rfl,by decide,λl' hl'=>?_⟩;have f1:=AH.new hl' (.lst []);have h0:=Hn eX hl';have nl:=g2.out hl';have lY:Ak HX l' (.lst []) l'=some (.lst []):=AD;have eY:=eX.trans f1;have dY:=dX.same f1;have gY:=gX.same f1;have wY:=wX.same f1;have g2Y:=g2.same f1;have sY:=Am.same' f1 sb;generalize Ak HX l' (.lst [])=HY at lY eY dY gY wY g2Y sY⊢;refine⟨d2,b,_,BZ a,.ref l',rfl,rfl,wY,sY,AU (by lia),λz hz=>hN2 _ _ ⟨⟨_,rfl⟩,eY,dY,gY,sY,A2,B,⟨ls2,ln,wY,g2Y⟩,tX,?_⟩,λhz u3 w3=>hN2 _ _ ?_⟩
    ·by_cases m:a∈A2
     ·exact m
     ·rw[D6 m]at hz;cases hz
    ·have m:a∉A2:=λm=>by
      obtain⟨j,hj⟩:=bY.mp m;have jl:=(bB.mp hj).1;rw[CI tX.nd hj (v:=.ref (ls2[j]'(by rw[g2.n];exact jl))) (by rw[bF,bA (by rw[g2.n];exact jl)];rfl)]at hz;cases hz
     exact⟨⟨_,rfl⟩,eY.into hd2',dY.updX wY nd2 u3,wY.grl gY u3,(by obtain⟨_,h1,_⟩:=wY;exact sY.upd' h1),A2++[a],B,U3.put ln wY g2Y lY nl h0 m (tX.no a m) w3,tX.key m aA,bJ.mpr (.inr (bL.mpr rfl))⟩
   clear tX aX eX dX gX sb;rintro _ hGo σ HY ⟨⟨x3,rfl⟩,eX,dX,gX,sb,A2,B,aX,tX,mA⟩;refine hGo _ _ ?_;obtain⟨ps,hps,pp⟩:=gX.e i a l ha hl;have pn:=Paired.length pp;have fa:=lF a aA;have i100:i<=100:=by have:=(bB.mp ha).1;lia
   have nls:∀{x:qP},H x=none->x∉ls:=λhx=>gr.out hx
   refine⟨_,rfl,_,rfl,d,b,u',_,BZ a,.ref l,rfl,rfl,dX,sb,CI nd ha (by rw[bF,hl];rfl),l,rfl,⟨_,Ai.of hps⟩,?_⟩;refine Be (xs:=ps.map V.ref) (λj σ HZ=>(∃x3,σ=[some (.ref d),some (.ref d2),some (.ref b),x3])/\AH (Ak H d u') HZ/\HZ l=some (.lst (ps.map V.ref))/\DC K HZ ps (F a)/\DR P w K HZ d u' (Ar A0 (ls.map V.ref))/\D8 K HZ ls A0 F/\Am K HZ b (Sd a)/\∃A2 B,U3 P w K H HZ d2 A2 B/\Qx A0 F i (λp q=>q=a/\p∈(F a).take j) (i*70000+j) A2 B/\a∈A2) ⟨⟨_,rfl⟩,eX,hps,pp,dX,gX,sb,A2,B,aX,⟨tX.nd,tX.sub,tX.got,tX.no,λp q=>by rw[tX.on];simp,λp=>Nat.le_trans (tX.len p) (Nat.le_add_right ..)⟩,mA⟩ (λj σ HZ _ z=>Ai.of z.2.2.1) ?_ ?_
   ·clear tX aX eX dX gX sb mA hps pp;rintro j x σ HZ hx ⟨⟨x3,rfl⟩,eX,hps,pp,dX,gX,sb,A2,B,⟨ls2,ln,wX,g2⟩,tX,mA⟩;obtain⟨c,hci,rfl⟩:∃c,ps[j]?=some c/\x=V.ref c:=by rw[bF]at hx;obtain⟨c,h1,h2⟩:=cR.mp hx;exact⟨c,h1,h2.symm⟩
    obtain⟨p0,hp0,sc⟩:=Bv pp hci;have p0A:p0∈A0:=cl a aA p0 (bE hp0);have j7:j<70000:=by have:=(bB.mp hp0).1;lia
    have i7:=dc 70000 i100;obtain⟨v2,r2⟩:=wX.r
    have lr:(Ar A2 (ls2.map V.ref)).length<=100:=by rw[CH (by rw[a9];exact g2.n)];exact lA2 tX
    have app:∀(HQ:Hp) (A2:List (qV)) (ls2:List qP) (j2:Nat) (l2:qP),AH (Ak H d u') HQ->HQ l=some (.lst (ps.map V.ref))->DC K HQ ps (F a)->DR P w K HQ d u' (Ar A0 (ls.map V.ref))->D8 K HQ ls A0 F->Am K HQ b (Sd a)->(∀l∈ls2,H l=none)->DW P w K HQ d2 (Ar A2 (ls2.map V.ref))->D8 K HQ ls2 A2 B->Qx A0 F i (λp q=>q=a/\p∈(F a).take j) (i*70000+j) A2 B->a∈A2->A2[j2]?=some p0->ls2[j2]?=some l2 ->
      ∃qs:List qP,HQ l2=some (.lst (qs.map V.ref))/\(qs.map V.ref).length<sizeLine/\∃HW,HW=Ak HQ l2 (.lst (qs.map V.ref++[V.ref b]))/\AH (Ak H d u') HW/\HW l=some (.lst (ps.map V.ref))/\DC K HW ps (F a)/\DR P w K HW d u' (Ar A0 (ls.map V.ref))/\D8 K HW ls A0 F/\Am K HW b (Sd a)/\∃A2 B,U3 P w K H HW d2 A2 B/\Qx A0 F i (λp q=>q=a/\p∈(F a).take (j+1)) (i*70000+(j+1)) A2 B/\a∈A2:=by
     intro HQ A2 ls2 j2 l2 e h1 h2 h3 h4 h5 ln w2 g2 t m hj2 hl2;obtain⟨qs,hq,hqp⟩:=g2.e j2 p0 l2 hj2 hl2;have ml:=bE hl2;have h0:=ln l2 ml;have nl:=nls h0;have ne:l≠l2:=λz=>nl (by rw[<-z];exact bE hl)
     have lq:=Paired.length hqp;have lb:=t.len p0;have tp:=t.push hp0 (bE hj2);rw[Nat.add_assoc]at tp;refine⟨qs,hq,by rw[a9,sizeLine_eq];lia,_,rfl,?_⟩;rw[show qs.map V.ref++[V.ref b]=(qs++[b]).map V.ref by rw[bH];rfl];refine⟨e.into (by rw[AJ λz=>by obtain⟨φ,y,_⟩:=dr.isX;rw[<-z,h0]at y;cases y];exact h0),by rw[AJ ne];exact h1,DC.upd hq h2,h3.updL hq _,h4.keep hq nl _,Am.updL hq h5,A2,_,⟨ls2,ln,w2.updL hq _,g2.push t.nd hj2 hl2 hq hqp h5 λ_=>rfl⟩,tp,m⟩
    refine⟨_,rfl,⟨d2,v2,_,rfl,r2⟩,_,rfl,by decide,λl' hl'=>?_⟩;have f1:=AH.new hl' (.lst []);have h0:=Hn eX hl';have nl:=g2.out hl';have lY:Ak HZ l' (.lst []) l'=some (.lst []):=AD;have eY:=eX.trans f1;have dY:=dX.same f1;have gY:=gX.same f1;have wY:=wX.same f1;have g2Y:=g2.same f1;have sY:=Am.same' f1 sb;have cY:=Am.same' f1 sc;have hY:=f1 _ _ hps;have pY:=DC.same f1 pp;generalize Ak HZ l' (.lst [])=HY at lY eY dY gY wY g2Y sY cY hY pY⊢;refine⟨d2,c,_,BZ p0,.ref l',rfl,rfl,wY,cY,AU (by lia),λz hz=>?_,λhz u3 w3=>?_⟩
    ·have m:p0∈A2:=by
      by_cases m:p0∈A2
      ·exact m
      ·rw[D6 m]at hz;cases hz
     obtain⟨j2,hj2⟩:=bY.mp m;have jl:=(bB.mp hj2).1;obtain⟨l2,hl2⟩:∃l2,ls2[j2]?=some l2:=⟨ls2[j2]'(by rw[g2.n];exact jl),bA _⟩;rw[CI tX.nd hj2 (v:=.ref l2) (by rw[bF,hl2];rfl)]at hz;cases hz;obtain⟨qs,h1,h2,HW,hW,h3⟩:=app HY A2 ls2 j2 l2 eY hY pY dY gY sY ln wY g2Y tX mA hj2 hl2;refine⟨.inl ⟨rfl,_,Ai.of h1⟩,_,rfl,l2,_,_,rfl,rfl,h1,h2,?_⟩;rw[<-hW];exact⟨⟨_,rfl⟩,h3⟩
    ·have m:p0∉A2:=λm=>by
      obtain⟨j2,hj2⟩:=bY.mp m;have jl:=(bB.mp hj2).1;rw[CI tX.nd hj2 (v:=.ref (ls2[j2]'(by rw[g2.n];exact jl))) (by rw[bF,bA (by rw[g2.n];exact jl)];rfl)]at hz;cases hz
     obtain⟨ln3,w3',g3⟩:=Si ln wY g2Y lY nl h0 m (tX.no p0 m) w3;have hj2:(A2++[p0])[A2.length]?=some p0:=by rw[bS (bD _),eQ];rfl
     have hl2:(ls2++[l'])[A2.length]?=some l':=by rw[<-g2.n,bS (bD _),eQ];rfl
     have wx:∃φ,HY d2=some (.ext φ):=by obtain⟨_,y,_⟩:=wY;exact⟨_,y⟩
     obtain⟨φ,hφ⟩:=wx;obtain⟨qs,h1,h2,HW,hW,h3⟩:=app (Ak HY d2 u3) (A2++[p0]) (ls2++[l']) A2.length l' (eY.into hd2') (wY.lst hY u3) (wY.prv pY u3) (dY.updX wY nd2 u3) (wY.grl gY u3) (sY.upd' hφ) ln3 w3' g3 (tX.key m p0A) (bJ.mpr (.inl mA)) hj2 hl2;refine⟨.inl ⟨rfl,_,Ai.of h1⟩,_,rfl,l',_,_,rfl,rfl,h1,h2,?_⟩;rw[<-hW];exact⟨⟨_,rfl⟩,h3⟩
   ·rintro σ HZ ⟨⟨x3,rfl⟩,eX,hps,pp,dX,gX,sb,A2,B,aX,tX,mA⟩;rw[a9,pn]at tX;refine⟨⟨_,_,rfl⟩,eX,dX,gX,A2,B,aX,tX.nd,tX.sub,λp hp=>?_,tX.no,λp q=>?_,λp=>cF (tX.len p) (by lia)⟩
    ·rw[cg,ha]at hp;rcases bJ.mp hp with z|z
     ·exact tX.got p z
     ·rw[bL.mp z];exact mA
    ·rw[tX.on,br,cg,ha,show (some a).toList=[a] from rfl,bJ,bL,or_false];constructor
     ·rintro (⟨h1,h2⟩|⟨h1,h2⟩)
      ·exact⟨.inl h1,h2⟩
      ·exact⟨.inr h1,by rw[h1];exact h2⟩
     ·rintro⟨h1|h1,h2⟩
      ·exact .inl ⟨h1,h2⟩
      ·exact .inr ⟨h1,by rw[h1]at h2;exact h2⟩
  ·rintro σ HX ⟨⟨x2,x3,rfl⟩,eX,dX,gX,A2,B,⟨ls2,ln,wX,gX2⟩,tX⟩;rw[CH (by rw[a9];exact gX.n)]at tX;exact hN _ _ ⟨⟨_,_,rfl⟩,u',ls2,A2,B,eX,dX,ln,wX,gX2,⟨tX.nd,λp=>⟨tX.sub p,λh=>tX.got p (by rw[List.take_length];exact h)⟩,λp q=>by rw[tX.on,List.take_length];simp,λp=>Nat.le_trans (tX.len p) (Nat.mul_le_mul_right 70000 lA)⟩⟩
 rintro _ hGo σ HX ⟨⟨x2,x3,rfl⟩,u',ls2,A2,B,eX,dX,ln,wX,gX,tX⟩;refine hGo _ _ ?_;walk_at "";exact q u' HX d2 ls2 A2 B eX dX hd2 ln wX gX tX
theorem KH:AI ["ahead","most","free","steps","here"] ["ahead"] (AG Wm):=By
theorem Y5(T:Bw K mg t) :Aj P w K mg base 1 t.f_24 ["ahead"] (L7 P w K):=by
 refine Aw T.d_24 KH λvs H Q E h=>?_;obtain⟨d,u,ls,A0,B,rfl,dr,gr,nd,cl,lA,lB,q⟩:=h;refine⟨rfl,λgh A outer s hr=>?_⟩
 refine⟨_,(AC (Gy (i:=1) KH.nd rfl (Or.inr rfl) (Jw (P:=P) (w:=w) (K:=K) rfl rfl rfl))
  (AC (GN (iy:=2) (fv:=[(0,"ahead")]) (cl:=[("ahead",_)]) rfl KH.nd rfl (Or.inl rfl) (Fb (P:=P) (w:=w) (K:=K) rfl rfl rfl (pv 0)) (by with_unfolding_all rfl) (by with_unfolding_all rfl) (by decide +kernel) rfl (by decide +kernel) rfl ⟨(by with_unfolding_all rfl),trivial⟩ (by with_unfolding_all rfl) ⟨⟨rfl,rfl,(by with_unfolding_all rfl),rfl⟩,trivial⟩ (by decide) (λ_ _ _ _=>(Ew (AN Bo (Ag (OI (K:=K) rfl) rfl T.z_len bu (AA (by exact DX (P:=P) (w:=w) (K:=K) rfl rfl rfl (Dt hr) (pv 1) (pv 0) (λ_ _=>rfl)) AB)) AF (AR _)))) (λ_ _ _ _=>(pv 0)))
  (AC (AQ 3 KH AF)
  (AC (Do PassesOwn.never (AN Dq (Ag (IK K) rfl T.z_len bu (AA (pv 2) AB)) AF (AR _)) (AC (A7 PassesOwn.never rfl (Ka K (pv 2)) (BI 4 KH) (AE (NG (P:=P) (w:=w) (K:=K) rfl rfl rfl (Dt hr) (pv 1) (pv 4) (pv 3) rfl)))
  (AC (AQ 3 KH (AL BF (pv 3) AF))
  (AE (GN (iy:=2) (fv:=[(1,"most"),(0,"ahead")]) (cl:=[("most",_),("ahead",_)]) rfl KH.nd rfl (Or.inl rfl) (Fb (P:=P) (w:=w) (K:=K) rfl rfl rfl (pv 0)) (by with_unfolding_all rfl) (by with_unfolding_all rfl) (by decide +kernel) rfl (by decide +kernel) rfl ⟨(by with_unfolding_all rfl),⟨(by with_unfolding_all rfl),trivial⟩⟩ (by with_unfolding_all rfl) ⟨⟨rfl,rfl,(by with_unfolding_all rfl),rfl⟩,⟨⟨rfl,rfl,(by with_unfolding_all rfl),rfl⟩,trivial⟩⟩ (by decide) (λ_ _ _ _=>(Ew (PW.pt (Ej (VO (Oa (P:=P) (w:=w) (K:=K) rfl rfl rfl (Dt hr) (pv 0) (pv 1))) (D9 (Cv (Ag (Oe (K:=K) rfl rfl) rfl T.z_all PyProof.Rows.boot_all (AA (DH [(1,"most")] [("most",_)] (Sk (K:=K) rfl (by exact DX (P:=P) (w:=w) (K:=K) rfl rfl rfl (Dt hr) (pv 2) (pv 0) (λ_ _=>rfl))) (λ_ _ _ _=>CO) (λ_ _ _ _=>(VN (UL (P:=P) (w:=w) (K:=K) rfl rfl rfl (Dt hr) (pv 0) (pv 1))))) AB)))))))) (λ_ _ _ _=>(pv 0)))))))
  (AE (AM (pv 1))))))),?_⟩
 refine Az λN hN=>?_;walk_at "";intro d2 u2 hd2 dw;refine hN _ _ ?_;clear hN N
 have nd2:d≠d2:=λe=>by obtain⟨φ,h1,_⟩:=dr.isX;rw[e,hd2]at h1;cases h1
 have e0:=AH.new hd2 u2;generalize Ak H d2 u2=H0 at dw e0⊢
 have Hn:∀{HX:Hp} {l:qP} {u':HO},AH (Ak H d u') HX->HX l=none->H l=none:=λ{HX l u'} e z=>by have y:=e.free z;rw[AJ λx=>by rw[x,AD]at y;cases y]at y;exact y
 refine CU (λσ HX=>∃D,σ=[some (.ref d),some (.ref d2),some (.ref D),none,none]/\Zu P w K H d d2 ls A0 B D [] (λ_=>0) (A0.filter λp=>decide (B p=[])) HX) (λN hN=>?_) ?_
 ·refine⟨_,rfl,d,u,_,rfl,dr.same e0,λu' dr' D hD=>?_⟩;have eF:=AH.both e0 d u';have gF:=(dr.same e0).grl (gr.same e0) u';have wF:DW P w K (Ak H0 d u') d2 (Ar [] []):=by obtain⟨bs,h1,h3,h4⟩:=dw;have hb:bs=[]:=List.map_eq_nil_iff.mp h3;subst hb;exact⟨[],by rw[AJ (Ne.symm nd2)];exact h1,rfl,λp hp=>qE hp cM⟩
  generalize Ak H0 d u'=HF at dr' eF gF wF hD⊢;refine F4 (P:=P) (w:=w) (K:=K) (λi ge Hx=>∃ps:List qP,ge=ps.map V.ref/\ps.length<=i/\AH HF Hx/\Hx D=some (.lst ge)/\DC K Hx ps ((A0.take i).filter λp=>decide (B p=[]))) ⟨[],rfl,bD _,AH.new hD _,AD,.nil⟩ (λi ge Hx _ z=>by obtain⟨_,_,_,e,_⟩:=z;exact dr'.same e) ?_ ?_
  ·rintro i b k v ge Hx hk sb ⟨ps,rfl,lp,ex,hDx,hp⟩;obtain⟨a,l,ha,hl,rfl,rfl⟩:=L6 hk;have i100:i<=100:=by have:=(bB.mp ha).1;lia
   obtain⟨qs,hq,pq⟩:=(gF.same ex).e i a l ha hl;have lq:=Paired.length pq;refine⟨_,rfl,_,rfl,d,b,u',_,BZ a,.ref l,rfl,rfl,dr'.same ex,sb,CI nd ha (by rw[bF,hl];rfl),l,_,rfl,.inl (Ai.of hq),rfl,_,rfl,?_⟩;dsimp only;rw[LB ha,a9,lq]
   by_cases z:B a=[]
   ·rw[qD (by rw[z];rfl),qD (qF z)];refine⟨_,rfl,hDx,by rw[a9];exact AU (by lia),ps++[b],by rw[bH];rfl,by rw[bC,bc];lia,ex.into hD,AD,?_⟩;exact Paired.app (DC.upd hDx hp) (.cons (Am.updL hDx sb) .nil)
   ·have nz:(B a).length≠0:=λy=>z (List.length_eq_zero_iff.mp y)
    rw[qC (λy=>nz (by have:=qL y;injection this with this;lia)),qC (λy=>z (qL y)),bz];exact⟨ps,rfl,by lia,ex,hDx,hp⟩
  ·rintro ge H2 ⟨ps,rfl,lp,ex,hDx,hp⟩;rw[CH (by rw[a9];exact gF.n),br]at hp;exact hN _ _ ⟨D,rfl,u',ps,eF.trans ex,dr'.same ex,gF.same ex,Hn eF hD,hDx,hp,wF.same ex⟩
 rintro _ hGo σ HX ⟨D,rfl,mv⟩;refine hGo _ _ ?_;refine Az λN hN=>?_;refine hN _ _ ?_;clear hN N dw e0;refine CU (λσ HX=>∃D M f n x4,σ=[some (.ref d),some (.ref d2),some (.ref D),some (.int (n:Nat)),x4]/\Zu P w K H d d2 ls A0 B D M f [] HX/\Sl A0 B M f [] n) (λN hN=>?_) ?_
 ·refine⟨λm σ HX=>∃D M f FL n x4,m=101-n/\σ=[some (.ref d),some (.ref d2),some (.ref D),some (.int (n:Nat)),x4]/\Zu P w K H d d2 ls A0 B D M f FL HX/\Sl A0 B M f FL n,⟨_,D,[],_,_,0,none,rfl,rfl,mv,Sm nd _⟩,?_⟩;clear mv HX D;rintro m σ HX ⟨D,M,f,FL,n,x4,rfl,rfl,⟨u',ps,eX,dX,gX,hD0,hD,pX,wX⟩,mp⟩;have lp:=Paired.length pX;refine⟨_,rfl,D,_,rfl,.inl (Ai.of hD),_,_,rfl,rfl,_,rfl,?_⟩;dsimp only;rw[a9,lp];have few:=mp.few;have nle:=mp.le
  by_cases z:FL=[]
  ·subst z;rw[qC (λy=>qE (qL y) (by decide))];exact hN _ _ ⟨D,M,f,n,x4,rfl,⟨u',ps,eX,dX,gX,hD0,hD,pX,wX⟩,mp⟩
  have fl:0<FL.length:=fF.mpr z;rw[qD (qF (by lia))];refine⟨λσ HX=>∃D M' f' FL' x4,σ=[some (.ref d),some (.ref d2),some (.ref D),some (.int ((n+1:Nat):Int)),x4]/\Zu P w K H d d2 ls A0 B D M' f' FL' HX/\Sl A0 B M' f' FL' (n+1),by rintro σ' H' ⟨D,M',f',FL',x4,h1,h2,h3⟩;exact⟨101-(n+1),by lia,D,M',f',FL',n+1,x4,rfl,h1,h2,h3⟩,?_⟩;have hd2':∀u',Ak H d u' d2=none:=λu'=>by rw[AJ (Ne.symm nd2)];exact hd2
  refine Xo (λσ HZ=>(∃x4,σ=[some (.ref d),some (.ref d2),some (.ref D),some (.int (n:Nat)),x4])/\AH (Ak H d u') HZ/\DR P w K HZ d u' (Ar A0 (ls.map V.ref))/\D8 K HZ ls A0 B/\DW P w K HZ d2 (Ar (M++FL) ((M++FL).map λp=>V.int (V2 M f n p:Int)))) (λN hN=>?_) ?_
  ·refine⟨_,rfl,D,rfl,⟨_,Ai.of hD⟩,?_⟩;refine Be (xs:=ps.map V.ref) (λj σ HZ=>(∃x4,σ=[some (.ref d),some (.ref d2),some (.ref D),some (.int (n:Nat)),x4])/\AH (Ak H d u') HZ/\DR P w K HZ d u' (Ar A0 (ls.map V.ref))/\D8 K HZ ls A0 B/\HZ D=some (.lst (ps.map V.ref))/\DC K HZ ps FL/\DW P w K HZ d2 (Ar (M++FL.take j) ((M++FL.take j).map λp=>V.int (V2 M f n p:Int)))) ⟨⟨_,rfl⟩,eX,dX,gX,hD,pX,?_⟩ (λj σ HZ _ z=>Ai.of z.2.2.2.2.1) ?_ ?_
   ·rw[List.take_zero,bz,bZ (g:=λp=>V.int (f p:Int)) λp hp=>by rw[Ea hp]];exact wX
   ·rintro j x σ HZ hx ⟨⟨x4,rfl⟩,eZ,dZ,gZ,hDZ,pZ,wZ⟩;obtain⟨c,hci,rfl⟩:∃c,ps[j]?=some c/\x=V.ref c:=by rw[bF]at hx;obtain⟨c,h1,h2⟩:=cR.mp hx;exact⟨c,h1,h2.symm⟩
    obtain⟨p0,hp0,sc⟩:=Bv pZ hci;have pn:p0∉M:=((mp.on p0).mp (bE hp0)).2.1;have nin:p0∉M++FL.take j:=λy=>(bJ.mp y).elim pn (Gm mp.ndF hp0)
    have lr:(Ar (M++FL.take j) ((M++FL.take j).map λp=>V.int (V2 M f n p:Int))).length<=100:=by rw[CH (by rw[a9]),bC,b9];lia
    refine⟨_,rfl,_,rfl,_,rfl,d2,c,_,BZ p0,rfl,rfl,wZ,sc,AU (by lia),λu3 w3=>⟨⟨_,rfl⟩,eZ.into (hd2' u'),dZ.updX wZ nd2 u3,wZ.grl gZ u3,wZ.lst hDZ u3,wZ.prv pZ u3,?_⟩⟩;rw[J1 (by rw[a9]) nin]at w3;rw[cg,hp0,show (some p0).toList=[p0] from rfl,<-dj,bH (l₂:=[p0]),List.map_singleton,Gn pn];exact w3
   ·rintro σ HZ ⟨⟨x4,rfl⟩,eZ,dZ,gZ,hDZ,pZ,wZ⟩;rw[a9,lp,br]at wZ;exact hN _ _ ⟨⟨_,rfl⟩,eZ,dZ,gZ,wZ⟩
  clear eX dX gX hD pX wX;have mq:=mp.step nd z;have lM2:(M++FL).length<=100:=by rw[bC];lia
  obtain⟨M2,hM2⟩:∃M2,M2=M++FL:=⟨_,rfl⟩;rw[<-hM2]at mq lM2⊢;generalize V2 M f n=f2 at mq⊢;rintro σ HZ ⟨⟨y4,rfl⟩,eZ,dZ,gZ,wZ⟩;refine Az λN hN=>⟨_,rfl,_,_,rfl,rfl,hN _ _ ?_⟩
  clear hN N;refine⟨_,rfl,d,u',_,rfl,dZ,λu2 dr2 D2 hD2=>?_⟩;have eG:=AH.both eZ d u2;rw[Dc]at eG;have gG:=dZ.grl gZ u2
  have wG:DW P w K (Ak HZ d u2) d2 (Ar M2 (M2.map λp=>V.int (f2 p:Int))):=by obtain⟨bs,h1,h3,h4⟩:=wZ;exact⟨bs,by rw[AJ (Ne.symm nd2)];exact h1,h3,λp hp=>dZ.sqt (h4 p hp) u2⟩
  generalize Ak HZ d u2=HG at dr2 eG gG wG hD2⊢;refine F4 (P:=P) (w:=w) (K:=K) (λi ge Hx=>∃ps2:List qP,ge=ps2.map V.ref/\ps2.length<=i/\AH HG Hx/\Hx D2=some (.lst ge)/\DC K Hx ps2 ((A0.take i).filter λp=>decide (p∉M2)&&decide (∀q∈B p,q∈M2))) ⟨[],rfl,bD _,AH.new hD2 _,AD,.nil⟩ (λi ge Hx _ z=>by obtain⟨_,_,_,e,_⟩:=z;exact dr2.same e) ?_ ?_
  ·rintro i b k v ge Hx hk sb ⟨ps2,rfl,l2,ex,hDx,hp⟩;obtain⟨a,l,ha,hl,rfl,rfl⟩:=L6 hk;have i100:i<=100:=by have:=(bB.mp ha).1;lia
   obtain⟨qs,hq,pq⟩:=(gG.same ex).e i a l ha hl;have lq:=Paired.length pq;have la:=lB a (bE ha);obtain⟨u5,r5⟩:=(wG.same ex).r;refine⟨_,rfl,_,rfl,d2,b,u5,_,BZ a,rfl,rfl,r5,sb,_,rfl,?_⟩;dsimp only;rw[J4,LB ha]
   by_cases m:a∈M2
   ·rw[qF m,Bool.not_true];refine G5 (G5 ?_);rw[qC (by rw[qG (λy=>y m)];exact bT),bz];exact⟨ps2,rfl,by lia,ex,hDx,hp⟩
   rw[qG m,Bool.not_false];refine Xj ?_;refine⟨_,rfl,_,rfl,d,b,u2,_,BZ a,.ref l,rfl,rfl,dr2.same ex,sb,CI nd ha (by rw[bF,hl];rfl),l,rfl,⟨_,Ai.of hq⟩,λD3 hD3=>?_⟩;refine Cg (xs:=qs.map V.ref) (λj ge Hy=>ge=((B a).take j).map (λp=>V.bl (decide (p∈M2)))/\AH Hx Hy/\Hy D3=some (.lst ge)) ⟨rfl,AH.new hD3 _,AD⟩ (λj ge Hy _ z=>Ai.of (z.2.1 _ _ hq)) ?_ ?_
   ·refine FJ ?_;rintro j x _ hGo ge Hy hx ⟨rfl,ey,h3⟩;refine hGo _ _ ?_;obtain⟨c,hci,rfl⟩:∃c,qs[j]?=some c/\x=V.ref c:=by rw[bF]at hx;obtain⟨c,h1,h2⟩:=cR.mp hx;exact⟨c,h1,h2.symm⟩
    obtain⟨p0,hp0,sc⟩:=Bv pq hci;dsimp only[Vj];rw[qD rfl];refine⟨_,rfl,_,rfl,d2,c,u5,_,BZ p0,rfl,rfl,r5.same ey,Am.same' ey sc,h3,?_,?_,ey.into hD3,AD⟩
    ·rw[a9,b9,sizeLine_eq];lia
    ·rw[J4,cg,hp0,bH];rfl
   ·rintro ge Hy ⟨rfl,ey,h3⟩;rw[a9,lq,br]at h3;refine⟨D3,(B a).map λp=>decide (p∈M2),rfl,Ai.of (by rw[h3,cp];rfl),_,rfl,?_⟩;dsimp only;have ev:(((B a).map λp=>decide (p∈M2)).all id=true)↔∀q∈B a,q∈M2:=by simp
    by_cases all:∀q∈B a,q∈M2
    ·rw[qD (ev.mpr all),qD (by rw[qF m,qF all];rfl)];have hD':=ey _ _ hDx;refine⟨_,rfl,hD',by rw[a9];exact AU (by lia),ps2++[b],by rw[bH];rfl,by rw[bC,bc];lia,(ex.trans ey).into hD2,AD,?_⟩;exact Paired.app (DC.upd hD' (DC.same ey hp)) (.cons (Am.updL hD' (Am.same' ey sb)) .nil)
    ·rw[qC (λy=>all (ev.mp y)),qC (by rw[qG all,ej];exact bT),bz];exact⟨ps2,rfl,by lia,ex.trans ey,ey _ _ hDx,DC.same ey hp⟩
  ·rintro ge H2 ⟨ps2,rfl,l2,ex,hDx,hp⟩;rw[CH (by rw[a9];exact gG.n),br]at hp;exact⟨D2,M2,f2,_,_,rfl,⟨u2,ps2,eG.trans ex,dr2.same ex,gG.same ex,Hn eG hD2,hDx,hp,wG.same ex⟩,mq⟩
 rintro _ hGo σ HX ⟨D,M,f,n,x4,rfl,⟨u',ps,eX,dX,gX,hD0,hD,pX,wX⟩,mp⟩;refine hGo _ _ ?_;walk_at "";exact q u' HX d2 M f eX dX hd2 wX mp.done
theorem Y6:AI ["node","other"] ["node","other"] (AG Wn):=By
theorem Y7(T:Bw K mg t) :Aj P w K mg base 1 t.f_57 ["node","other"] (Gj K):=by
 refine Aw T.d_57 Y6 λvs H Q E h=>?_;obtain⟨a,b,rfl,q⟩:=h;refine⟨rfl,λgh A outer s hr=>?_⟩
 refine⟨_,(AC (A6 (AN Bo (pv 0) (pv 1) (AR _)) (AE (AM (Iz rfl T.m_EVEN))) Af)
  (AE (AM (DQ (AA (pv 0) (AA (pv 1) AB)))))),?_⟩
 walk_at ""
 by_cases e:a=b
 ·rw[qD (by rw[e])];refine q _ H (AH.refl _) ?_;subst e;rw[D4];exact Gh T.q_EVEN H
 ·rw[qC (by lia)];refine⟨by decide,λp hp=>q p _ (AH.new hp _) (Am.of ?_)⟩;unfold Jx;rw[qC e];exact AD
theorem Sz:AI ["framed","pairs","node"] ["framed"] (AG Wo):=By
theorem Y8(T:Bw K mg t)(G_76:Aj P w K mg base 1 t.f_76 ["one"] (Cr)):Aj P w K mg base 2 t.f_35 ["framed"] (Ly K):=by
 refine Aw T.d_35 Sz λvs H Q E h=>?_;obtain⟨r,g,lo,g7,m,rfl,ok,sm,q⟩:=h;refine⟨rfl,λgh A outer s hr=>?_⟩
 refine⟨_,(AC (AQ 1 Sz (BO (AA (Iz rfl T.m_EVEN) AB)))
  (AC (A7 PassesOwn.never rfl (A1 rfl T.z_range (AA (AK hr G_76 T.m_76 (AA (pv 0) AB)) AB)) (BI 2 Sz) (AE (Ay (O2 dI PySem.F.slot_list_extend PySem.F.type_list_extend Km (pv 1) (AA (DH [(2,"node")] [("node",_)] (A1 rfl T.z_range (AA (AK hr G_76 T.m_76 (AA (pv 0) AB)) AB)) (λ_ _ _ _=>(Ew (AN GC (pv 0) (pv 1) (AR _)))) (λ_ _ _ _=>(DQ (AA (pv 1) (AA (pv 0) AB))))) AB)))))
  (AE (AM (pv 1))))),?_⟩
 have hd:=BH ok.g2 ok.len ok.m1;have gp:=RW.Aa ok.g2 (m-1);obtain⟨h,hh⟩:∃h:Nat,h=g7.length/g.toNat:=⟨_,rfl⟩;rw[<-hh]at q hd;have h9:h<=9:=by lia
 refine Az λN hN=>?_;walk_at "";refine⟨by decide,λD hD=>hN _ _ ?_⟩;clear hN N;refine CU (λσ HX=>(∃x2,σ=[some (.ref r),some (.ref D),x2])/\AH H HX/\∃ps:List qP,HX D=some (.lst (ps.map V.ref))/\DC K HX ps (BV h)) (λN hN=>?_) ?_
 ·have e0:=AH.new hD (.lst [V.ref t.k_EVEN]);refine⟨_,rfl,r,g,lo,g7,m,rfl,ok.same e0,?_⟩;rw[<-hh];refine⟨_,rfl,by lia,by lia,?_⟩;rw[bI];refine Ba (n:=h) (λi σ HX=>(∃x2,σ=[some (.ref r),some (.ref D),x2])/\AH H HX/\∃ps:List qP,HX D=some (.lst (ps.map V.ref))/\DC K HX ps ((0,0)::(List.range i).flatMap (NK h))) ⟨⟨none,rfl⟩,e0,[t.k_EVEN],AD,.cons (Gh T.q_EVEN _) .nil⟩ ?_ λσ HX z=>hN _ _ z
  refine FI ?_;rintro _ _ i _ hGo σ HX hi ⟨⟨x2,rfl⟩,eX,ps,hX,hp⟩;refine hGo _ _ ?_;have lp:=Paired.length hp
  have ll:ps.length<=100:=by have a:=FE h i;have b:=dA (show i<=9 by lia) h9;rw[lp,cK];lia
  have okX:=ok.same eX;refine⟨_,rfl,.inl ⟨rfl,_,Ai.of hX⟩,?_⟩;refine⟨_,rfl,r,g,lo,g7,m,rfl,okX,?_⟩;rw[<-hh];refine⟨_,rfl,by lia,by lia,λD2 hD2=>?_⟩;rw[bI];refine Bj (n:=h) (λj ge Hx=>∃ps2:List qP,ge=ps2.map V.ref/\ps2.length<=j/\AH HX Hx/\Hx D2=some (.lst ge)/\DC K Hx ps2 (((List.range j).filter λo=>decide (o≠i)).map λo=>(i,o))) ⟨[],rfl,bD _,AH.new hD2 _,AD,.nil⟩ ?_ ?_
  ·refine Dn ?_;rintro j _ hGo ge Hx hj ⟨ps2,rfl,l2,ex,h2,hp2⟩;refine hGo _ _ ?_;walk_at "";rw[b8,cL]
   by_cases e:j=i
   ·rw[qC (by lia),show ([j].filter λo=>decide (o≠i))=[] by subst e;simp,List.append_nil];exact⟨ps2,rfl,by lia,ex,h2,hp2⟩
   ·rw[qD (by lia),show ([j].filter λo=>decide (o≠i))=[j] by simp[e],List.map_append];refine⟨by decide,λp hp=>?_⟩;have f1:=AH.new hp (.tup [V.int (0+(i:Int)),V.int (0+(j:Int))]);have hl:=f1 _ _ h2;refine⟨hl,by rw[a9];exact AU (by lia),ps2++[p],by rw[bH];rfl,by rw[bC,bc];lia,(ex.trans f1).into hD2,AD,Paired.app (DC.upd hl (DC.same f1 hp2)) (.cons (Am.updL hl (Am.of ?_)) .nil)⟩;rw[AD,bg,bg];rfl
  ·rintro ge H2 ⟨ps2,rfl,l2,ex,h2,hp2⟩;dsimp only[IE];refine⟨D,D2,_,_,rfl,rfl,ex _ _ hX,h2,?_,?_⟩
   ·rw[a9,a9];exact dq (AU (show ps.length+ps2.length<=1000 by lia))
   refine⟨⟨_,rfl⟩,(eX.trans ex).into hD,ps++ps2,by rw[AD,bH],?_⟩;rw[b8,dM,<-List.cons_append];refine Paired.app (DC.upd (ex _ _ hX) (DC.same ex hp)) ?_;rw[cP,fD,bz];exact DC.upd (ex _ _ hX) hp2
 rintro _ hGo σ HX ⟨⟨x2,rfl⟩,eX,ps,hX,hp⟩;refine hGo _ _ ?_;walk_at "";exact q D HX ps eX hD hX hp
theorem Ps:AI ["framed","found","word","told"] ["framed"] (AG Wp):=By
theorem Y9(T:Bw K mg t) :Aj P w K mg base 1 t.f_28 ["framed"] (Od K):=by
 refine Aw T.d_28 Ps λvs H Q E h=>?_;obtain⟨r,g,lo,g7,m,rfl,ok,sm,q⟩:=h;refine⟨rfl,λgh A outer s hr=>?_⟩
 refine⟨_,(AC (AQ 1 Ps (BO AB))
  (AC (A7 PassesOwn.never rfl (JG rfl T.z_enumerate (AA (AO (B6 K) (pv 0) AF (λ_ _=>rfl)) AB)) (Fo rfl (Bd (BI 2 Ps) (Bd (BI 3 Ps) EB))) (AE (Ay (O2 dI PySem.F.slot_list_extend PySem.F.type_list_extend Km (pv 1) (AA (Jn (fv:=[(2,"word"),(3,"told")]) (cl:=[("word",_),("told",_)]) rfl (JG rfl T.z_enumerate (AA (AO (B6 K) (pv 0) AF (λ_ _=>rfl)) AB)) (by with_unfolding_all rfl) (by decide +kernel) rfl (by decide +kernel) rfl rfl ⟨(by with_unfolding_all rfl),⟨(by with_unfolding_all rfl),trivial⟩⟩ (by with_unfolding_all rfl) ⟨⟨rfl,rfl,(by with_unfolding_all rfl),rfl⟩,⟨⟨rfl,rfl,(by with_unfolding_all rfl),rfl⟩,trivial⟩⟩ (by decide) (λ_ _ _ _=>(Ew (PW.pt (Ej (AN Bo (pv 1) (pv 3) (AR _)) (D9 (AN GC (pv 0) (pv 2) (AR _))))))) (λ_ _ _ _=>(DQ (AA (pv 2) (AA (pv 0) AB))))) AB)))))
  (AE (AM (pv 1))))),?_⟩
 refine At.el ok.v λtb h1 h2=>?_;have hlm:(g7.map V.int).length=g7.length:=a9 ..;refine Az λN hN=>?_;walk_at "";refine⟨by decide,λD hD=>hN _ _ ?_⟩;clear hN N;refine CU (λσ HX=>(∃x2 x3,σ=[some (.ref r),some (.ref D),x2,x3])/\AH H HX/\∃ps:List qP,HX D=some (.lst (ps.map V.ref))/\DC K HX ps (Ei g7)) (λN hN=>?_) ?_
 ·have e0:=AH.new hD (.lst []);refine⟨_,rfl,r,_,2,_,rfl,rfl,Am.of (e0 _ _ h1),rfl,?_⟩;refine⟨tb,_,rfl,Am.of (e0 _ _ h2),?_⟩;refine Kq (xs:=g7.map V.int) (λi σ HX=>(∃x2 x3,σ=[some (.ref r),some (.ref D),x2,x3])/\AH H HX/\∃ps:List qP,HX D=some (.lst (ps.map V.ref))/\DC K HX ps ((List.range i).flatMap (Sf g7))) ⟨⟨none,none,rfl⟩,e0,[],AD,.nil⟩ (λi σ HX _ z=>Am.of (z.2.1 _ _ h2)) ?_ λσ HX z=>hN _ _ (by rw[hlm]at z;exact z)
  rintro i x p2 σ HX hx ⟨⟨x2,x3,rfl⟩,eX,ps,hX,hp⟩ hp2;obtain⟨n,hn,rfl⟩:=B8 hx;have hi:i<g7.length:=(bB.mp hn).1;have f2:=AH.new hp2 (.tup [V.int ((i:Nat):Int),V.int n]);have eY:=eX.trans f2;have hY:=f2 _ _ hX;have pY:=DC.same f2 hp;refine⟨p2,_,rfl,Am.of AD,rfl,_,_,rfl,_,_,rfl,rfl,?_⟩;generalize Ak HX p2 (.tup [V.int ((i:Nat):Int),V.int n])=HY at eY hY pY⊢;clear hX hp f2 eX hp2;refine⟨_,rfl,.inl ⟨rfl,_,Ai.of hY⟩,?_⟩;refine⟨_,rfl,r,_,2,_,rfl,rfl,Am.of (eY _ _ h1),rfl,?_⟩;refine⟨tb,_,rfl,Am.of (eY _ _ h2),λD2 hD2=>?_⟩;refine NL (xs:=g7.map V.int) (λj ge Hx=>∃ps2:List qP,ge=ps2.map V.ref/\ps2.length<=j/\AH HY Hx/\Hx D2=some (.lst ge)/\DC K Hx ps2 (((List.range j).filter λb=>decide (g7.getD b 0=g7.getD i 0)&&decide (b≠i)).map λb=>(i,b))) ⟨[],rfl,bD _,AH.new hD2 _,AD,.nil⟩ (λj ge Hx _ z=>by obtain⟨_,_,_,z,_⟩:=z;exact Am.of (z _ _ (eY _ _ h2))) ?_ ?_
  ·rintro j x p3 ge Hx hx ⟨ps2,rfl,l2,ex,h2',hp2⟩ hp3;obtain⟨n',hn',rfl⟩:=B8 hx;have f3:=AH.new hp3 (.tup [V.int ((j:Nat):Int),V.int n']);have eA:=ex.trans f3;have hA:=f3 _ _ h2';have pA:=DC.same f3 hp2;generalize Ak Hx p3 (.tup [V.int ((j:Nat):Int),V.int n'])=HA at eA hA pA⊢;clear f3 ex h2' hp2 hp3;have en:n=g7.getD i 0:=by rw[a8,hn];rfl
   have en':n'=g7.getD j 0:=by rw[a8,hn'];rfl
   walk_at "";rw[b8,cL]
   by_cases e1:n'=n
   ·have e1':g7.getD j 0=g7.getD i 0:=by rw[<-en',e1,en]
    rw[qD e1]
    by_cases e:j=i
    ·rw[qC (by lia),Pg (by rw[qG (show ¬j≠i from λz=>z e),ej]),bz];exact⟨ps2,rfl,by lia,eA,hA,pA⟩
    ·rw[qD (by lia),Sg (by rw[cy];exact⟨qF e1',qF e⟩),bH];refine⟨by decide,λp hp=>?_⟩;have f1:=AH.new hp (.tup [V.int ((i:Nat):Int),V.int ((j:Nat):Int)]);have hl:=f1 _ _ hA;have hj:j<g7.length:=(bB.mp hn').1;have lt:g7.length<=256:=by have:=ok.sz;have:=ok.len;lia
     refine⟨hl,by rw[a9];exact AU (by lia),ps2++[p],by rw[bH];rfl,by rw[bC,bc];lia,(eA.trans f1).into hD2,AD,Paired.app (DC.upd hl (DC.same f1 pA)) (.cons (Am.updL hl (Am.of AD)) .nil)⟩
   ·rw[qC e1,Pg (by rw[qG (show ¬g7.getD j 0=g7.getD i 0 from λz=>e1 (by rw[en',z,en])),Bool.false_and]),bz];exact⟨ps2,rfl,by lia,eA,hA,pA⟩
  ·rintro ge H2 ⟨ps2,rfl,l2,ex,h2',hp2⟩;dsimp only[IE];rw[hlm]at l2 hp2;have lt:g7.length<=256:=by have:=ok.sz;have:=ok.len;lia
   have lp:=Paired.length pY;have ll:=FF g7 i;have lm:=dA (show i<=256 by lia) lt;refine⟨D,D2,_,_,rfl,rfl,ex _ _ hY,h2',?_,?_⟩
   ·rw[a9,a9,sizeLine_eq];lia
   refine⟨⟨_,_,rfl⟩,(eY.trans ex).into hD,ps++ps2,by rw[AD,bH],?_⟩;rw[b8,dM];refine Paired.app (DC.upd (ex _ _ hY) (DC.same ex pY)) ?_;rw[cP,fD,bz];exact DC.upd (ex _ _ hY) hp2
 rintro _ hGo σ HX ⟨⟨x2,x3,rfl⟩,eX,ps,hX,hp⟩;refine hGo _ _ ?_;walk_at "";exact q D HX ps eX hD hX hp
theorem ZA:AI ["framed","words"] ["framed","words"] (AG Wq):=By
theorem ZB(T:Bw K mg t)(G_57:Aj P w K mg base 1 t.f_57 ["node","other"] (Gj K)):Aj P w K mg base 2 t.f_46 ["framed","words"] (Lx K):=by
 refine Aw T.d_46 ZA λvs H Q E h=>?_;obtain⟨r,c,g,lo,g7,m,a,b,rfl,ok,hc,q⟩:=h;refine⟨rfl,λgh A outer s hr=>?_⟩;refine⟨_,(AE (AM (AK hr G_57 T.m_57 (AA (AL B4 (AO (B6 K) (pv 1) AF (λ_ _=>rfl)) (AO (B6 K) (pv 0) AF (λ_ _=>rfl))) (AA (AL B4 (AO (B6 K) (pv 1) AF (λ_ _=>rfl)) (AO (B6 K) (pv 0) AF (λ_ _=>rfl))) AB))))),?_⟩;refine At.el ok.v λtb h1 h2=>?_;have g2:=ok.g2;have g9:=ok.g9;walk_at "";refine⟨c,_,0,_,rfl,rfl,hc,rfl,Ck (Am.of h1) rfl ?_⟩;refine⟨_,rfl,_,rfl,by lia,by lia,?_⟩;refine⟨c,_,1,_,rfl,rfl,hc,rfl,Ck (Am.of h1) rfl ?_⟩;refine⟨_,rfl,_,rfl,by lia,by lia,?_⟩;have ea:((a:Nat):Int)/g=((a/g.toNat:Nat):Int):=by rw[cz,bN (by lia)]
 have eb:((b:Nat):Int)/g=((b/g.toNat:Nat):Int):=by rw[cz,bN (by lia)]
 exact⟨_,_,by rw[<-ea,<-eb],q⟩
theorem ZC:AI ["framed","words"] ["framed","words"] (AG Wr):=By
theorem ZD(T:Bw K mg t)(G_57:Aj P w K mg base 1 t.f_57 ["node","other"] (Gj K))(G_76:Aj P w K mg base 1 t.f_76 ["one"] (Cr)):Aj P w K mg base 2 t.f_66 ["framed","words"] (Se K):=by
 refine Aw T.d_66 ZC λvs H Q E h=>?_;obtain⟨r,c,g,lo,g7,m,a,b,rfl,ok,hc,q⟩:=h;refine⟨rfl,λgh A outer s hr=>?_⟩;refine⟨_,(AE (AM (AK hr G_57 T.m_57 (AA (AL BS (AO (B6 K) (pv 1) AF (λ_ _=>rfl)) (AK hr G_76 T.m_76 (AA (pv 0) AB))) (AA (AL BS (AO (B6 K) (pv 1) AF (λ_ _=>rfl)) (AK hr G_76 T.m_76 (AA (pv 0) AB))) AB))))),?_⟩;have hd:=BH ok.g2 ok.len ok.m1;have gp:=RW.Aa ok.g2 (m-1);have ea:((a:Nat):Int)%((g7.length/g.toNat:Nat):Int)=((a%(g7.length/g.toNat):Nat):Int):=(cW ..).symm;have eb:((b:Nat):Int)%((g7.length/g.toNat:Nat):Int)=((b%(g7.length/g.toNat):Nat):Int):=(cW ..).symm;have hp:(0:Int)<((g7.length/g.toNat:Nat):Int):=by lia
 walk_at "";refine⟨c,_,0,_,rfl,rfl,hc,rfl,r,g,lo,g7,m,rfl,ok,?_⟩;refine⟨_,rfl,_,rfl,hp,?_⟩;refine⟨c,_,1,_,rfl,rfl,hc,rfl,r,g,lo,g7,m,rfl,ok,?_⟩;refine⟨_,rfl,_,rfl,hp,?_⟩;exact⟨_,_,by rw[<-ea,<-eb],q⟩
theorem Pt:AI ["framed","nexts","pair","words"] ["framed"] (AG Ws):=By
theorem ZE(T:Bw K mg t)(G_35:Aj P w K mg base 2 t.f_35 ["framed"] (Ly K))(G_28:Aj P w K mg base 1 t.f_28 ["framed"] (Od K))(G_66:Aj P w K mg base 2 t.f_66 ["framed","words"] (Se K))(G_46:Aj P w K mg base 2 t.f_46 ["framed","words"] (Lx K)):Aj P w K mg base 3 t.f_25 ["framed"] (Ih P w K):=by
 refine Aw T.d_25 Pt λvs H Q E h=>?_;obtain⟨r,g,lo,g7,m,rfl,ok,sm,q⟩:=h;refine⟨rfl,λgh A outer s hr=>?_⟩
 refine⟨_,(AC (Gy (i:=1) Pt.nd rfl (Or.inl rfl) (Jw (P:=P) (w:=w) (K:=K) rfl rfl rfl))
  (AC (A7 PassesOwn.never rfl (Ka K (AK hr G_35 T.m_35 (AA (pv 0) AB))) (BI 2 Pt) (AE (NG (P:=P) (w:=w) (K:=K) rfl rfl rfl (Dt hr) (pv 1) (pv 2) (BO AB) rfl)))
  (AC (A7 PassesOwn.never rfl (Ka K (AK hr G_28 T.m_28 (AA (pv 0) AB))) (BI 3 Pt) (AE (Ay (Nf K (DX (P:=P) (w:=w) (K:=K) rfl rfl rfl (Dt hr) (pv 1) (AK hr G_46 T.m_46 (AA (pv 0) (AA (pv 3) AB))) (λ_ _=>rfl)) (AA (AK hr G_66 T.m_66 (AA (pv 0) (AA (pv 3) AB))) AB)))))
  (AE (AM (pv 1)))))),?_⟩
 obtain⟨h,hh⟩:∃h:Nat,h=g7.length/g.toNat:=⟨_,rfl⟩;rw[<-hh]at q;have hd9:=BH ok.g2 ok.len ok.m1;have h9:h<=9:=by rw[<-hh]at hd9;lia
 refine Az λN hN=>?_;walk_at "";intro d u hd dw;refine hN _ _ ?_;clear hN N;have e0:=AH.new hd u;generalize Ak H d u=H0 at dw e0⊢;refine CU (λσ HX=>(∃x2 x3,σ=[some (.ref r),some (.ref d),x2,x3])/\AH H HX/\∃ls:List qP,(∀l∈ls,H l=none)/\DW P w K HX d (Ar (BV h) (ls.map V.ref))/\D8 K HX ls (BV h) λ_=>[]) (λN hN=>?_) ?_
 ·refine⟨_,rfl,r,g,lo,g7,m,rfl,ok.same e0,sm,λD H1 ps e1 hD1 hD hp=>?_⟩;rw[<-hh]at hp;have pn:=Paired.length hp;have nd:=C5 h;have lA:(BV h).length<=100:=by have a:=FE h h;have b:=dA h9 h9;unfold BV;rw[cK];lia
  refine⟨D,rfl,⟨_,Ai.of hD⟩,?_⟩;refine Be (xs:=ps.map V.ref) (λi σ HX=>(∃x2 x3,σ=[some (.ref r),some (.ref d),x2,x3])/\AH H HX/\HX D=some (.lst (ps.map V.ref))/\DC K HX ps (BV h)/\∃ls:List qP,(∀l∈ls,H l=none)/\DW P w K HX d (Ar ((BV h).take i) (ls.map V.ref))/\D8 K HX ls ((BV h).take i) λ_=>[]) ⟨⟨none,none,rfl⟩,e0.trans e1,hD,hp,[],(λl hl=>qE hl List.not_mem_nil),dw.same e1,⟨rfl,List.nodup_nil,λi a l z=>by simp at z⟩⟩ (λi σ HX _ z=>Ai.of z.2.2.1) ?_ ?_
  ·refine Fl ?_;rintro _ _ i x _ hGo σ HX hx ⟨⟨x2,x3,rfl⟩,eX,hDX,pX,ls,ln,dX,gX⟩;refine hGo _ _ ?_;obtain⟨p,hpi,rfl⟩:∃p,ps[i]?=some p/\x=V.ref p:=by rw[bF]at hx;obtain⟨p,h1,h2⟩:=cR.mp hx;exact⟨p,h1,h2.symm⟩
   obtain⟨a,ha,sa⟩:=Bv pX hpi;have hi:i<(BV h).length:=(bB.mp ha).1
   have lr:(Ar ((BV h).take i) (ls.map V.ref)).length<=100:=by rw[CH (by rw[a9];exact gX.n),b9];lia
   refine⟨by decide,λl hl=>?_⟩;have f1:=AH.new hl (.lst []);have dY:=dX.same f1;have gY:=gX.same f1;have hY:=f1 _ _ hDX;have pY:=DC.same f1 pX;have sY:=Am.same' f1 sa;have lY:Ak HX l (.lst []) l=some (.lst []):=AD;have nl:=gX.out hl;have eY:=eX.trans f1;have hn:=eX.free hl;generalize Ak HX l (.lst [])=HY at f1 dY gY hY pY sY lY eY⊢;refine⟨_,rfl,_,rfl,d,p,_,BZ a,rfl,rfl,dY,sY,AU (by lia),λu' dw'=>⟨⟨_,_,rfl⟩,eY.into hd,dY.lst hY u',dY.prv pY u',ls++[l],λk hk=>?_,?_,?_⟩⟩
   ·rcases bJ.mp hk with z|z
    ·exact ln k z
    ·rw[bL.mp z];exact hn
   ·rw[bH,cg,ha];rw[J1 (by rw[a9];exact gX.n) (Gm nd ha)]at dw';exact dw'
   ·rw[cg,ha];exact (dY.grl gY u').snoc nl (dY.lst lY u') rfl
  ·rintro σ HX ⟨⟨x2,x3,rfl⟩,eX,hDX,pX,ls,ln,dX,gX⟩;rw[a9,pn,br]at dX gX;exact hN _ _ ⟨⟨_,_,rfl⟩,eX,ls,ln,dX,gX⟩
 rintro _ hGo σ HX ⟨⟨x2,x3,rfl⟩,eX,ls,ln,dX,gX⟩;refine hGo _ _ ?_;refine CU (λσ HX=>(∃x2 x3,σ=[some (.ref r),some (.ref d),x2,x3])/\AH H HX/\DW P w K HX d (Ar (BV h) (ls.map V.ref))/\D8 K HX ls (BV h) (IJ g.toNat h (Ei g7))) (λN hN=>?_) ?_
 ·refine⟨_,rfl,r,g,lo,g7,m,rfl,ok.same eX,sm,λD H1 ps e1 hD1 hD hp=>?_⟩;have pn:=Paired.length hp;have nD:=gX.out hD1;have nd:=C5 h;refine⟨D,rfl,⟨_,Ai.of hD⟩,?_⟩;refine Be (xs:=ps.map V.ref) (λi σ HX=>(∃x2 x3,σ=[some (.ref r),some (.ref d),x2,x3])/\AH H HX/\HX D=some (.lst (ps.map V.ref))/\DC K HX ps (Ei g7)/\DW P w K HX d (Ar (BV h) (ls.map V.ref))/\D8 K HX ls (BV h) (IJ g.toNat h ((Ei g7).take i))) ⟨⟨_,_,rfl⟩,eX.trans e1,hD,hp,dX.same e1,gX.same e1⟩ (λi σ HX _ z=>Ai.of z.2.2.1) ?_ ?_
  ·clear dX gX eX hD hp e1;rintro i x σ HX hx ⟨⟨x2,x3,rfl⟩,eX,hDX,pX,dX,gX⟩;obtain⟨c,hci,rfl⟩:∃c,ps[i]?=some c/\x=V.ref c:=by rw[bF]at hx;obtain⟨c,h1,h2⟩:=cR.mp hx;exact⟨c,h1,h2.symm⟩
   obtain⟨⟨a,b⟩,hab,sc⟩:=Bv pX hci;have mw:=J3.mp (bE hab);have hd9':=hd9;rw[<-hh]at hd9';obtain⟨j,hj⟩:=bY.mp (Lz (h:=h) (a:=a/g.toNat) (b:=b/g.toNat) (de (by rw[fG];lia)) (de (by rw[fG];lia)));obtain⟨l,hl⟩:∃l,ls[j]?=some l:=⟨ls[j]'(by rw[gX.n];exact (bB.mp hj).1),bA _⟩;have ml:=bE hl;have okX:=ok.same eX;refine⟨_,rfl,_,rfl,_,rfl,r,c,g,lo,g7,m,a,b,rfl,okX,sc,λp H2 e2 sp=>?_⟩;obtain⟨u,dr⟩:=(dX.same e2).r;obtain⟨qs,hq,hqp⟩:=(gX.same e2).e j _ l hj hl;refine⟨d,p,u,_,BZ _,.ref l,rfl,rfl,dr,sp,CI nd hj (by rw[bF,hl];rfl),.inl ⟨rfl,_,Ai.of hq⟩,?_⟩;refine⟨_,rfl,_,rfl,r,c,g,lo,g7,m,a,b,rfl,okX.same e2,Am.same' e2 sc,λp3 H3 e3 sp3=>?_⟩;rw[<-hh]at sp3;have hq3:=e3 _ _ hq;have e23:=e2.trans e3;refine⟨l,_,_,rfl,rfl,hq3,?_,?_⟩
   ·have l1:=Paired.length hqp;have l2:=L0 g.toNat h ((Ei g7).take i) (Jx (a/g.toNat,b/g.toNat));have l3:=FF g7 g7.length;have lt:g7.length<=256:=by have:=ok.sz;have:=ok.len;lia
    have l4:=dA lt lt;have l5:((Ei g7).take i).length<=(Ei g7).length:=by rw[b9];exact Nat.min_le_right ..
    have l6:(Ei g7).length<=g7.length*g7.length:=l3;rw[a9,sizeLine_eq];lia
   rw[show qs.map V.ref++[V.ref p3]=(qs++[p3]).map V.ref by rw[bH];rfl];refine⟨⟨_,_,rfl⟩,(eX.trans e23).into (ln l ml),by rw[AJ λz=>nD (by rw[z];exact ml)];exact e23 _ _ hDX,DC.upd hq3 (DC.same e23 pX),(dX.same e23).updL hq3 _,(gX.same e23).push nd hj hl hq3 (DC.same e3 hqp) sp3 λz=>Sh hab z⟩
  ·rintro σ HX ⟨⟨x2,x3,rfl⟩,eX,hDX,pX,dX,gX⟩;rw[a9,pn,br]at gX;exact hN _ _ ⟨⟨_,_,rfl⟩,eX,dX,gX⟩
 rintro _ hGo σ HX ⟨⟨x2,x3,rfl⟩,eX,dX,gX⟩;refine hGo _ _ ?_;walk_at "";exact q d HX ls eX hd ln dX gX
theorem ZF:AI ["framed"] ["framed"] (AG Wt):=By
theorem ZG(T:Bw K mg t)(G_24:Aj P w K mg base 1 t.f_24 ["ahead"] (L7 P w K))(G_18:Aj P w K mg base 1 t.f_18 ["nexts"] (L5 P w K))(G_25:Aj P w K mg base 3 t.f_25 ["framed"] (Ih P w K)):Aj P w K mg base 4 t.f_26 ["framed"] (J8 P w K):=by
 refine Aw T.d_26 ZF λvs H Q E h=>?_;obtain⟨r,g,lo,g7,m,rfl,ok,sm,q⟩:=h;refine⟨rfl,λgh A outer s hr=>?_⟩;refine⟨_,(AE (AM (AK hr G_24 T.m_24 (AA (AK hr G_18 T.m_18 (AA (AK hr G_25 T.m_25 (AA (pv 0) AB)) AB)) AB)))),?_⟩;have g2:=ok.g2;have hl:=Qr g2 ok.len ok.m1;obtain⟨h,hh⟩:∃h:Nat,h=g7.length/g.toNat:=⟨_,rfl⟩;have hd9:=BH ok.g2 ok.len ok.m1;rw[<-hh]at q hl hd9;have h9:h<=9:=by lia
 have hp:=RW.Aa ok.g2 (m-1);have h0:0<h:=by lia
 have wl:(Ei g7).length<=70000:=by
  have l3:(Ei g7).length<=g7.length*g7.length:=FF g7 g7.length;have lt:g7.length<=256:=by have:=ok.sz;have:=ok.len;lia
  have l4:=dA lt lt;lia
 walk_at "";refine⟨r,g,lo,g7,m,rfl,ok,sm,λd1 H1 ls e1 hd1 ln dw gr=>?_⟩;rw[<-hh]at dw gr;obtain⟨u1,dr⟩:=dw.r;refine⟨d1,u1,ls,BV h,IJ g.toNat h (Ei g7),rfl,dr,gr,C5 h,λa _ p hp=>(Dh h0 ((Ii hl).mp hp)).2,FG h9,λa _=>cF (L0 ..) wl,λu' H2 d2 ls2 A2 B e2 dr2 hd2 ln2 dw2 gr2 tp=>?_⟩;obtain⟨u2,drr⟩:=dw2.r;have eH2:=(e1.into hd1 (o:=u')).trans e2;have l2:A2.length<=100:=cF (tp.nd.length_le_of_subset λp hp=>(tp.all p).mp hp) (FG h9)
 have hB:∀p q,q∈B p↔Nd g.toNat h g7 q p:=λp q=>by rw[tp.on,Ii hl];exact⟨λz=>z.2,λz=>⟨(Dh h0 z).1,z⟩⟩
 refine⟨d2,u2,ls2,A2,B,rfl,drr,gr2,tp.nd,λa _ p hp=>(tp.all p).mpr (Dh h0 ((hB a p).mp hp)).1,l2,λa _=>tp.len a,λu3 H3 d3 M f e3 dr3 hd3 dw3 mp=>?_⟩;exact q d3 H3 M f ((eH2.into (e1.free hd2)).trans e3) (eH2.free hd3) dw3 (mp.rk h9 tp.all tp.nd (λp _ q=>hB p q) λp q z=>(Dh h0 z).1)
theorem S0:AI ["one","framed","found"] ["one"] (AG Wu):=By
theorem ZH(T:Bw K mg t)(G_75:Aj P w K mg base 8 t.f_75 ["one"] (FU t.c_54))(G_26:Aj P w K mg base 4 t.f_26 ["framed"] (J8 P w K))(G_35:Aj P w K mg base 2 t.f_35 ["framed"] (Ly K)):Aj P w K mg base 9 t.f_78 ["one"] (J9 K t.c_54):=by
 refine CK T.d_78 S0 λvs H Q E h=>?_;obtain⟨r,g,lo,g7,m,lf,tf,mf,rfl,ok,fw,sm,q1,q2⟩:=h;refine⟨rfl,λgh A outer s hr=>?_⟩
 refine⟨_,(AC (AQ 1 S0 (An G_75 (hr.mono (by decide)) rfl T.m_75 Ac (AA (pv 0) AB)))
  (AC (AQ 2 S0 (AK hr G_26 T.m_26 (AA (pv 1) AB)))
  (AC (A6 (AN Dp (Ag (Ob (P:=P) (w:=w) (K:=K) rfl rfl rfl) rfl T.z_len bu (AA (pv 2) AB)) (Ag (IK K) rfl T.z_len bu (AA (AK hr G_35 T.m_35 (AA (pv 1) AB)) AB)) (AR _)) (AE (AM Gx)) Af)
  (AE (AM (DQ (AA (DX (P:=P) (w:=w) (K:=K) rfl rfl rfl (Dt hr) (pv 2) (Iz rfl T.m_EVEN) (λ_ _=>rfl)) (AA (Ag (NO (K:=K) rfl) rfl T.z_sorted PyProof.Rows.boot_sorted (AA (DH [(2,"found")] [("found",_)] (Fb (P:=P) (w:=w) (K:=K) rfl rfl rfl (pv 2)) (λ_ _ _ _=>(Ew (AN (UP (K:=K) rfl hr.units) (pv 0) (Iz rfl T.m_EVEN) (AR _)))) (λ_ _ _ _=>(AL (Sj (K:=K) rfl) (pv 0) (DQ (AA (by exact DX (P:=P) (w:=w) (K:=K) rfl rfl rfl (Dt hr) (pv 1) (pv 0) (λ_ _=>rfl)) AB))))) AB)) AB)))))))),?_⟩
 have g2:=ok.g2;have gp:=RW.Aa g2 (mf-1);refine Az λN hN=>?_;walk_at "";refine⟨r,g,lo,g7,m,lf,tf,mf,rfl,ok,fw,λ_ r1 H1 e1 ok1=>hN _ _ ?_,λz=>by lia⟩;clear hN N;have hd9:=BH g2 ok1.len ok1.m1;obtain⟨h,hh⟩:∃h:Nat,h=tf.length/g.toNat:=⟨_,rfl⟩;rw[<-hh]at q1 q2 hd9;have h7:h<=7:=by lia
 have h0:0<h:=by lia
 have g8:(0,0)∈BV h:=Gk.mpr (.inl rfl);refine Az λN hN=>?_;walk_at "";refine⟨r1,g,lf,tf,mf,rfl,ok1,by lia,λd H2 M f e2 hd dw rk=>hN _ _ ?_⟩;clear hN N;rw[<-hh]at rk;have e12:=e1.trans e2;have lM:M.length<=(BV h).length:=rk.nd.length_le_of_subset λp hp=>rk.sub p hp
 have lA:=FG (show h<=9 by lia);refine CU (λσ HX=>σ=[some (.ref r),some (.ref r1),some (.ref d)]/\AH H2 HX/\∀p∈BV h,p∈M) (λN hN=>?_) ?_
 ·obtain⟨u,dr⟩:=dw.r;refine⟨_,rfl,d,u,_,rfl,dr,_,rfl,r1,g,lf,tf,mf,rfl,ok1.same e2,by lia,λD H3 ps e3 hD0 hD hps=>?_⟩;have pn:=Paired.length hps;rw[<-hh]at hps pn;refine⟨D,_,rfl,.inl (Ai.of hD),_,_,rfl,rfl,_,rfl,?_⟩;dsimp only;rw[a9,pn,CH (by rw[a9])]
  by_cases z:M.length<(BV h).length
  ·rw[qD (qF (by lia))];refine q1 H3 (e12.trans e3) λrr hr=>?_;have:=rk.all hr;have:=(C5 h).length_le_of_subset λp hp=>this p hp
   lia
  ·rw[qC (λy=>z (by have:=qL y;lia))];exact hN _ _ ⟨rfl,e3,J7 rk.nd rk.sub (by lia)⟩
 rintro _ hGo σ HX ⟨rfl,eX,all⟩;refine hGo _ _ ?_
 have l50:M.length<=50:=by
  have a:=FE h h;have b:=dA h7 h7;have c:(BV h).length=((List.range h).flatMap (NK h)).length+1:=by unfold BV;rw[List.length_cons]
  lia
 obtain⟨u,dr⟩:=(dw.same eX).r;refine⟨_,rfl,d,t.k_EVEN,u,_,BZ (0,0),.int (f (0,0):Nat),rfl,rfl,dr,Gh T.q_EVEN HX,He rk.nd (all _ g8),_,rfl,d,u,_,rfl,dr,λu' dr' D hD=>?_⟩;have eF:=(e12.trans eX).into (e1.free hd) (o:=u');generalize Ak HX d u'=HF at dr' eF hD⊢;refine F4 (P:=P) (w:=w) (K:=K) (λi ge Hx=>∃ps:List qP,ge=ps.map V.ref/\ps.length<=i/\AH HF Hx/\Hx D=some (.lst ge)/\∀p∈ps,∃ns:qU,Am K Hx p (ns.map V.int)/\ns≠[]) ⟨[],rfl,bD _,AH.new hD _,AD,λp hp=>qE hp cM⟩ (λi ge Hx _ z=>by obtain⟨_,_,_,e,_⟩:=z;exact dr'.same e) ?_ ?_
 ·rintro i b k v ge Hx hk sb ⟨ps,rfl,lp,ex,hDx,hp⟩;obtain⟨a,ha,rfl,rfl⟩:=Sr hk;have aM:=bE ha;have i50:i<=50:=by have:=(bB.mp ha).1;lia
  have sb':Am K Hx b (([(a.1:Int),(a.2:Int)]).map V.int):=sb;refine⟨_,rfl,_,_,Ss sb',Ss (ns:=[0,0]) (Gh T.q_EVEN Hx),O9 _,O9 _,QQ _,_,rfl,?_⟩;refine IF (λ_=>?_) λ_=>⟨ps,rfl,by lia,ex,hDx,hp⟩
  refine⟨_,rfl,_,rfl,_,rfl,d,b,u',_,BZ a,.int (f a:Nat),rfl,rfl,dr'.same ex,sb,He rk.nd aM,(by show 1<=sizeLine;decide),λp3 hp3=>⟨b,p3,([(a.1:Int),(a.2:Int)]).map V.int,[V.int (f a:Nat)],rfl,rfl,Am.same' (AH.new hp3 _) sb',Am.of AD,List.cons_ne_nil _ _,by show 2+1<=sizeLine;decide,λz=>qE z (List.cons_ne_nil _ _),λ_ p4 hp4=>?_⟩⟩;have e4:=(AH.new hp3 (.tup [V.int (f a:Nat)])).trans (AH.new hp4 (.tup (([(a.1:Int),(a.2:Int)]).map V.int++[V.int (f a:Nat)])));have s4:Am K (Ak (Ak Hx p3 (.tup [V.int (f a:Nat)])) p4 (.tup (([(a.1:Int),(a.2:Int)]).map V.int++[V.int (f a:Nat)]))) p4 (([(a.1:Int),(a.2:Int),((f a:Nat):Int)]).map V.int):=Am.of AD;generalize Ak (Ak Hx p3 (.tup [V.int (f a:Nat)])) p4 (.tup (([(a.1:Int),(a.2:Int)]).map V.int++[V.int (f a:Nat)]))=HY at e4 s4⊢;have h4:=e4 _ _ hDx;refine⟨h4,by rw[a9];exact AU (by lia),ps++[p4],by rw[bH];rfl,by rw[bC,bc];lia,(ex.trans e4).into hD,AD,λp hpp=>?_⟩;rcases bJ.mp hpp with z|z
  ·obtain⟨ns,h1,h2⟩:=hp p z;exact⟨ns,Am.updL h4 (Am.same' e4 h1),h2⟩
  ·rw[bL.mp z];exact⟨_,Am.updL h4 s4,λz=>nomatch z⟩
 ·rintro ge H4 ⟨ps,rfl,lp,ex,hDx,hp⟩;rw[CH (by rw[a9])]at lp;refine⟨D,_,rfl,Ai.of hDx,by rw[a9];lia,λy hy=>?_,λD2 zs hD2 _=>⟨(by show 2<=sizeLine;decide),λp5 hp5=>?_⟩⟩
  ·obtain⟨p,hpp,rfl⟩:=bR.mp hy;obtain⟨ns,h1,h2⟩:=hp p hpp;exact⟨p,ns,rfl,h1,h2⟩
  ·exact q2 p5 D2 _ M f (((eF.trans ex).trans (AH.new hD2 _)).trans (AH.new hp5 _)) AD rk all
theorem ID:AI ["one","framed","ranked","even","many","table","number","come"] ["one"] (AG Wv):=By
theorem ZI(T:Bw K mg t)(G_75:Aj P w K mg base 8 t.f_75 ["one"] (FU t.c_54))(G_78:Aj P w K mg base 9 t.f_78 ["one"] (J9 K t.c_54))(G_82:Aj P w K mg base 4 t.f_82 ["signs","low","table"] (E3 t.c_62))(G_69:Aj P w K mg base 2 t.f_69 ["one"] (Bg))(G_11:Aj P w K mg base 1 t.f_11 ["signs","many"] (G9))(G_61:KP P w K mg base 1 t.f_61 ["number","signs","many"] (EF t.c_63))(G_36:Aj P w K mg base 4 t.f_36 ["one","row","number"] (Pl K t.c_72 t.c_63))(G_24:Aj P w K mg base 1 t.f_24 ["ahead"] (L7 P w K))(G_25:Aj P w K mg base 3 t.f_25 ["framed"] (Ih P w K)):Aj P w K mg base 10 t.f_53 ["one"] (Hg t.c_29 t.c_54):=by
 refine CK T.d_53 ID λvs H Q E h=>?_;obtain⟨r,g,lo,g7,m,lf,tf,mf,rfl,ok,fw,sm,qn,qt,q⟩:=h;refine⟨rfl,λgh A outer s hr=>?_⟩
 refine⟨_,(AC (AQ 1 ID (An G_75 (hr.mono (by decide)) rfl T.m_75 Ac (AA (pv 0) AB)))
  (AC (AQ 2 ID (An G_78 (hr.mono (by decide)) rfl T.m_78 Ac (AA (pv 1) AB)))
  (AC (A6 (AN RA (pv 2) Gx (AR _)) (AE (BK rfl T.x_29 rfl T.m_29 Ap (AA Bq AB))) Af)
  (AC (AQ 3 ID (AO (B6 K) (pv 2) AF (λ_ _=>rfl)))
  (AC (AQ 4 ID (AL BJ (AL BF (AL BF (pv 3) (DX (P:=P) (w:=w) (K:=K) rfl rfl rfl (Dt hr) (AK hr G_24 T.m_24 (AA (AK hr G_25 T.m_25 (AA (pv 1) AB)) AB)) (Iz rfl T.m_EVEN) (λ_ _=>rfl))) AF) (AK hr G_69 T.m_69 (AA (pv 1) AB))))
  (AC (A6 (AN Dq (AK hr G_11 T.m_11 (AA (AO (B6 K) (pv 1) AF (λ_ _=>rfl)) (AA (pv 4) AB))) (Cy rfl T.g_LONGEST_TABLE) (AR _)) (AE (BK rfl T.x_54 rfl T.m_54 Ap (AA Bq AB))) Af)
  (AC (AQ 5 ID (BO AB))
  (AC (A7 PassesOwn.leaving rfl (A1 rfl T.z_range (AA (AK hr G_11 T.m_11 (AA (AO (B6 K) (pv 1) AF (λ_ _=>rfl)) (AA (pv 4) AB))) AB)) (BI 6 ID) (AC (AQ 7 ID (C8 G_61 (hr.mono (by decide)) rfl T.m_61 E5 (AA (pv 6) (AA (AO (B6 K) (pv 1) AF (λ_ _=>rfl)) (AA (pv 4) AB)))))
  (AE (Ay (Nf K (pv 5) (AA (AO (Fk K) (An G_36 (hr.mono (by decide)) rfl T.m_36 Ac (AA (pv 1) (AA (pv 7) (BP AB)))) (pv 3) (λ_ _=>rfl)) AB))))))
  (AE (AM (An G_82 (hr.mono (by decide)) rfl T.m_82 Ac (AA (AO (B6 K) (pv 1) AF (λ_ _=>rfl)) (AA (AL BJ (Kf G1 (AO (B6 K) (pv 1) AF (λ_ _=>rfl))) (pv 3)) (AA (pv 5) AB)))))))))))))),?_⟩
 have g2:=ok.g2;have g9:=ok.g9;have gp:=RW.Aa g2 (mf-1);refine Az λN hN=>?_;walk_at "";refine⟨r,g,lo,g7,m,lf,tf,mf,rfl,ok,fw,λ_ r1 H1 e1 ok1=>hN _ _ ?_,λz=>by lia⟩;clear hN N;have hd9:=BH g2 ok1.len ok1.m1;have mf2:=fw.two;have h0:0<tf.length/g.toNat:=by lia
 have even0:(0,0)∈BV (tf.length/g.toNat):=Gk.mpr (.inl rfl);refine Az λN hN=>?_;walk_at "";refine⟨r1,g,lf,tf,mf,lf,tf,mf,rfl,ok1,fw.again g2 ok.len,sm,λH2 e2 no=>hN _ _ ?_,λpr D H2 M f e2 hpr rk all=>hN _ _ ?_⟩
 ·clear hN N;walk_at "";exact⟨by decide,qn H2 (e1.trans e2) no⟩
 clear hN N;refine Az λN hN=>?_;walk_at "";refine hN _ _ ?_;clear hN N;have e12:=e1.trans e2;refine Az λN hN=>?_;refine⟨_,rfl,pr,_,0,_,rfl,rfl,Am.of hpr,rfl,hN _ _ ?_⟩;clear hN N;refine Es (λHX=>AH H HX/\AY HX r1 g lf tf mf) ⟨e12,ok1.same e2⟩ ?_;clear e2 hpr e12 e1 ok1 D;rintro H2 ⟨e2,ok2⟩;refine Az λN hN=>?_
 have wl:(Ei tf).length<=70000:=by
  have l3:(Ei tf).length<=tf.length*tf.length:=FF tf tf.length;have lt:tf.length<=256:=by have:=ok2.sz;have:=ok2.len;lia
  have l4:=dA lt lt;lia
 have h9:tf.length/g.toNat<=9:=by lia
 refine⟨_,rfl,_,rfl,r1,g,lf,tf,mf,rfl,ok2,by lia,λd1 H3 ls e3 hd1 ln dw gr=>?_⟩;obtain⟨u1,dr⟩:=dw.r;refine⟨d1,u1,ls,_,_,rfl,dr,gr,C5 _,λa _ p hp=>(Dh h0 ((Ii hd9.2).mp hp)).2,FG h9,λa _=>cF (L0 ..) (by lia),λu' H4 d2 M' f' e4 dr4 hd2 dw4 mp=>?_⟩;have rk':TB (tf.length/g.toNat) (λa b=>Nd g.toNat (tf.length/g.toNat) tf b a) M' f':=mp.rk h9 (λ_=>Iff.rfl) (C5 _) (λp _ q=>Ii hd9.2) λp q z=>(Dh h0 z).2
 obtain⟨all',bk⟩:=YF (m:=mf) h0 rk all rk';have e24:=(e3.into hd1 (o:=u')).trans e4;obtain⟨u4,dr5⟩:=dw4.r;refine⟨d2,t.k_EVEN,u4,_,BZ (0,0),.int (f' (0,0):Nat),rfl,rfl,dr5,Gh T.q_EVEN H4,He mp.nd (all' _ even0),?_⟩;refine⟨_,_,rfl,rfl,_,_,rfl,rfl,?_⟩;have ok4:=ok2.same e24;have mny:=Go.many g2 ok2.len mf2 ok2.tb bk;generalize f (0,0)=g8 at bk mny⊢;generalize f' (0,0)=left at bk mny⊢;obtain⟨gc,em⟩:∃gc,g8+left+2=mf+gc:=⟨g8+left+2-mf,by lia⟩;have m1:1<=gc:=by lia
 refine⟨_,rfl,r1,g,lf,tf,mf,rfl,g2,g9,ok4.v,ok4.len,_,_,rfl,rfl,hN _ _ ?_⟩;clear hN N;dsimp only;rw[show ((g8:Nat):Int)+((left:Nat):Int)+2-((mf:Nat):Int)=((gc:Nat):Int) by lia];refine Es (λHX=>AH H HX/\AY HX r1 g lf tf mf) ⟨e2.trans e24,ok4⟩ ?_;clear ok4 dr5 dw4 dr4 hd2 e4 dr gr dw ln hd1 e3 e24 ok2 e2 mp rk' all' rk all;rintro H5 ⟨e5,ok5⟩;refine At.el ok5.v λtb5 h51 h52=>?_;refine CU (λσ HX=>σ=[some (.ref r),some (.ref r1),some (.ref pr),some (.int (g8:Nat)),some (.int (gc:Nat)),none,none,none]/\HX=H5/\g^gc<=256) (λN hN=>?_) ?_
 ·refine⟨_,rfl,r1,_,0,_,rfl,rfl,Am.of h51,rfl,_,rfl,?_⟩;refine⟨g,_,rfl,g2,g9,by lia,λz=>?_,λz x hx=>?_⟩
  ·rw[bI]at z⊢;refine⟨_,_,rfl,rfl,_,rfl,?_⟩;dsimp only;rw[qC (λy=>by have:=qL y;lia)];exact hN _ _ ⟨rfl,rfl,z⟩
  ·refine⟨_,_,rfl,rfl,_,rfl,?_⟩;dsimp only;rw[qD (qF (by lia))];exact⟨by decide,qt H5 e5⟩
 rintro _ hGo σ HX ⟨rfl,hHX,s256⟩;refine hGo _ _ ?_;rw[hHX];clear hHX HX;have m8:=EL g2 s256;have gm:=RW.Aa g2 gc;refine Az λN hN=>?_;walk_at "";refine⟨by decide,λD hD=>hN _ _ ?_⟩;clear hN N;have e6:=AH.new hD (.lst []);have hD6:Ak H5 D (.lst []) D=some (.lst []):=AD;generalize Ak H5 D (.lst [])=H6 at e6 hD6⊢;refine CU (λσ HX=>(∃x6 x7,σ=[some (.ref r),some (.ref r1),some (.ref pr),some (.int (g8:Nat)),some (.int (gc:Nat)),some (.ref D),x6,x7])/\AH H5 HX/\HX D=some (.lst ((Qy g tf mf g8 gc).map V.int))) (λN hN=>?_) ?_
 ·refine⟨_,rfl,r1,_,0,_,rfl,rfl,Am.of (e6 _ _ h51),rfl,_,rfl,?_⟩;refine⟨g,_,rfl,g2,g9,by lia,λz=>?_,λz=>qE s256 (by rw[bI]at z;lia)⟩;rw[bI];refine⟨_,rfl,by lia,by lia,?_⟩;refine Ba (n:=(g^gc).toNat) (λi σ HX=>(∃x6 x7,σ=[some (.ref r),some (.ref r1),some (.ref pr),some (.int (g8:Nat)),some (.int (gc:Nat)),some (.ref D),x6,x7])/\AH H5 HX/\HX D=some (.lst (((List.range i).map (U5 g tf mf g8 gc)).map V.int))) ⟨⟨none,none,rfl⟩,e6,hD6⟩ ?_ λσ HX z=>hN _ _ z
  clear e6 hD6;rintro i σ HX hi ⟨⟨x6,x7,rfl⟩,eX,hDX⟩;have okX:=ok5.same eX;have hX1:=eX _ _ h51;refine Az λN2 hN2=>?_;refine⟨_,rfl,_,rfl,r1,_,0,_,rfl,rfl,Am.of hX1,rfl,_,rfl,?_⟩;rw[bg];refine⟨_,g,_,rfl,g2,g9,by lia,by lia,λz=>?_,λ_ _ p7 H7 n7=>hN2 _ _ ?_⟩
  ·exfalso;rw[bI]at z;lia
  clear hN2 N2;rw[bI,show (RW.C1 g (i:Int) gc).reverse=Ad g (i:Int) gc from rfl]at n7;have wb:=BQ g2 (i:Int) gc;have wln:=Au g (i:Int) gc;obtain⟨w,hw⟩:=Go.first (gc:=gc) g2 okX.len mf2 okX.tb bk wb;obtain⟨w1,w2,w3⟩:=Hf g2 okX.len (by lia) (bE hw);have ok7:=okX.same n7.1;refine⟨_,rfl,.inl ⟨rfl,_,Ai.of (n7.1 _ _ hDX)⟩,?_⟩;refine⟨_,rfl,_,rfl,r1,p7,g,lf,tf,mf,_,0,rfl,ok7,Ai.of n7.2.2,Co,by rw[a9,wln];lia,?_⟩;rw[C0 wb]
  have tp:0<Fi g.toNat tf (Ad g (i:Int) gc):=by rw[<-Lo (g:=g) tf mf];have:=(bB.mp hw).1;lia
  refine λns hns=>⟨λz=>?_,λ_ _ q8 H8 w8 hw8 n8=>?_⟩
  ·exfalso;rw[<-CV hns]at z;lia
  rw[<-CV hns,Int.toNat_zero,hw]at hw8;cases hw8;have lw:g8<w.length:=by rw[w3,wln];lia
  refine⟨_,rfl,q8,_,_,_,rfl,rfl,Ai.of n8.2.2,DI (by rw[bF,bA lw];rfl),?_⟩;have hD8:=n8.1 _ _ (n7.1 _ _ hDX);refine⟨D,_,_,rfl,rfl,hD8,by rw[a9,a9,bO];exact AU (by lia),⟨_,_,rfl⟩,((eX.trans n7.1).trans n8.1).into hD,?_⟩;rw[AD,Ax,bH]
  have ew:w.getD g8 0=U5 g tf mf g8 gc i:=by unfold U5;rw[a8 (l:=Dm g tf mf (Ad g (i:Int) gc)),hw];rfl
  rw[a8,bA lw]at ew;rw[<-ew];rfl
 rintro _ hGo σ HX ⟨⟨x6,x7,rfl⟩,eX,hDX⟩;refine hGo _ _ ?_;have hX1:=eX _ _ h51;have wl:=UR g2 tf mf g8 gc;have wt:=V5 g2 ok5.len (show 1<=mf by lia) g8 gc;refine⟨_,rfl,r1,_,0,_,rfl,rfl,Am.of hX1,rfl,_,rfl,r1,_,1,_,rfl,rfl,Am.of hX1,rfl,_,rfl,_,rfl,_,_,rfl,rfl,_,rfl,?_⟩;refine Dw (m:=gc) g2 g9 m1 wl s256 wt (.inl hDX) λr' H' e' rv=>q r' H' _ _ gc ((e5.trans eX).trans e') ⟨rv,g2,g9,m1,m8,wl,s256,wt⟩ λring rb n1=>?_
 obtain⟨al,tfl⟩:=fw.alike g2 ok.len;rw[<-Cs g2 al rb];exact Go.ring g2 ok5.len mf2 ok5.tb bk em m1 lf rb n1
theorem ZJ:AI ["one","by"] ["one","by"] (AG Ww):=By
theorem ZK(T:Bw K mg t)(G_82:Aj P w K mg base 4 t.f_82 ["signs","low","table"] (E3 t.c_62)):Aj P w K mg base 5 t.f_77 ["one","by"] (Lm):=by refine Aw T.d_77 ZJ λvs H Q E h=>?_;obtain⟨r,g,lo,g7,m,by1,rfl,ok,q⟩:=h;refine⟨rfl,λgh A outer s hr=>?_⟩;refine⟨_,(AE (AM (AK hr G_82 T.m_82 (AA (AO (B6 K) (pv 0) AF (λ_ _=>rfl)) (AA (AL BF (AO (B6 K) (pv 0) AF (λ_ _=>rfl)) (pv 1)) (AA (AO (B6 K) (pv 0) AF (λ_ _=>rfl)) AB)))))),?_⟩;refine At.el ok.v λtb h1 h2=>?_;walk_at "";refine (Ck (Am.of h1) rfl (Ck (Am.of h1) rfl ⟨lo,rfl,Ck (Am.of h1) rfl ?_⟩));exact Dw ok.g2 ok.g9 ok.m1 ok.len ok.sz ok.tb (.inr h2) λr' H' e hR=>q r' H' e ⟨hR,ok.g2,ok.g9,ok.m1,ok.m8,ok.len,ok.sz,ok.tb⟩
theorem Pu:AI ["one","many","table","number"] ["one"] (AG Wx):=By
theorem ZL(T:Bw K mg t)(G_69:Aj P w K mg base 2 t.f_69 ["one"] (Bg))(G_82:Aj P w K mg base 4 t.f_82 ["signs","low","table"] (E3 t.c_62))(G_40:Aj P w K mg base 5 t.f_40 ["one","word"] (JH K t.c_72))(G_61:KP P w K mg base 1 t.f_61 ["number","signs","many"] (EF t.c_63)):Aj P w K mg base 6 t.f_71 ["one"] (JY):=by
 refine Aw T.d_71 Pu λvs H Q E h=>?_;obtain⟨r,g,lo,g7,m,rfl,ok,q⟩:=h;refine⟨rfl,λgh A outer s hr=>?_⟩
 refine⟨_,(AC (AQ 1 Pu (AK hr G_69 T.m_69 (AA (pv 0) AB)))
  (AC (AQ 2 Pu (BO AB))
  (AC (A7 PassesOwn.never rfl (A1 rfl T.z_range (AA (Ag (IK K) rfl T.z_len bu (AA (AO (B6 K) (pv 0) AF (λ_ _=>rfl)) AB)) AB)) (BI 3 Pu) (AE (Ay (Nf K (pv 2) (AA (AK hr G_40 T.m_40 (AA (pv 0) (AA (La rfl rfl T.z_reversed rfl T.z_list (AA (C8 G_61 (hr.mono (by decide)) rfl T.m_61 E5 (AA (pv 3) (AA (AO (B6 K) (pv 0) AF (λ_ _=>rfl)) (AA (pv 1) AB)))) AB)) AB))) AB)))))
  (AE (AM (AK hr G_82 T.m_82 (AA (AO (B6 K) (pv 0) AF (λ_ _=>rfl)) (AA (AL BJ (AL BJ AF (AO (B6 K) (pv 0) AF (λ_ _=>rfl))) (pv 1)) (AA (pv 2) AB))))))))),?_⟩
 refine At.el ok.v λtb h1 h2=>?_;have g2:=ok.g2;have g9:=ok.g9;have m8:=ok.m8;have hl:=ok.len;have sz:=ok.sz;have hlm:(g7.map V.int).length=g7.length:=a9 ..;walk_at "";refine⟨r,g,lo,g7,m,rfl,g2,g9,ok.v,hl,?_⟩;walk_at "";refine⟨cJ _,λp hp=>?_⟩;have e0:=AH.new hp (.lst []);refine⟨_,rfl,r,_,2,_,rfl,rfl,Am.of (e0 _ _ h1),rfl,tb,rfl,_,.inr (Am.of (e0 _ _ h2)),_,rfl,by lia,by lia,?_⟩;rw[hlm];refine Ba (n:=g7.length) (λi σ H1=>∃x3,σ=[some (.ref r),some (.int ((m:Nat):Int)),some (.ref p),x3]/\AH H H1/\H1 p=some (.lst (((List.range i).map λk:Nat=>g7.getD (Ao g (C1 g (k:Int) m)).toNat 0).map V.int))) ⟨none,rfl,e0,AD⟩ ?_ ?_
 ·refine FI ?_;rintro _ _ i _ hGo σ H1 hi ⟨x3,rfl,e,hp1⟩;refine hGo _ _ ?_;walk_at "";refine⟨.inl ⟨_,Ai.of hp1⟩,Ck (Am.of (e _ _ h1)) rfl ?_⟩;refine⟨_,g,_,rfl,g2,g9,by lia,by lia,λz=>qE z (by rw[bI];lia),λ_ _ pw H2 hN2=>?_⟩;rw[bg,bI]at hN2;refine⟨pw,rfl,_,Ai.of hN2.2.2,λp1 hp1'=>?_⟩;rw[<-fg,eW];have e3:=AH.new hp1' (.lst ((C1 g (i:Int) m).map V.int));have bl:=E2 (Lh g2 (i:Int) m);rw[C9]at bl;refine⟨r,p1,g,lo,g7,m,_,rfl,g2,g9,(ok.v.same e).same (hN2.1.trans e3),hl,Ai.of AD,Co,?_⟩;rw[bl];intro ms hms H4 e4;have:=CV hms;subst this;have e14:=(hN2.1.trans e3).trans e4;refine⟨_,e14 _ _ hp1,?_,(e.trans e14).into hp,?_⟩
  ·rw[a9,a9,bO];exact AU (by lia)
  ·rw[AD,Ax,bH];rfl
 ·rintro σ H1 ⟨x3,rfl,e,hp1⟩;walk_at "";refine (Ck (Am.of (e _ _ h1)) rfl (Ck (Am.of (e _ _ h1)) rfl ⟨lo,rfl,?_⟩));exact Dw (g7:=DT g g7 m) g2 g9 ok.m1 (by rw[Kt];exact hl) sz (JK g2 ok.tb m) (.inl hp1) λr' H' e' hR=>q r' H' (e.trans e') (ok.turn hR)
theorem KI:AI ["first","second","ahead","behind","signs","many","table","number"] ["first","second"] (AG Wy):=By
theorem ZM(T:Bw K mg t)(G_68:Aj P w K mg base 7 t.f_68 ["one"] (GV))(G_11:Aj P w K mg base 1 t.f_11 ["signs","many"] (G9))(G_82:Aj P w K mg base 4 t.f_82 ["signs","low","table"] (E3 t.c_62))(G_69:Aj P w K mg base 2 t.f_69 ["one"] (Bg))(G_40:Aj P w K mg base 5 t.f_40 ["one","word"] (JH K t.c_72))(G_84:Aj P w K mg base 4 t.f_84 ["one","row"] (Rn K t.c_72))(G_61:KP P w K mg base 1 t.f_61 ["number","signs","many"] (EF t.c_63)):Aj P w K mg base 8 t.f_67 ["first","second"] (Jc t.c_62 t.c_54):=by
 refine CK T.d_67 KI λvs H Q E h=>?_;obtain⟨r,r',g,lo,g7,m,g',lo',tab',m',rfl,ok,ok',h⟩:=h;refine⟨rfl,λgh A outer s hr=>?_⟩
 refine⟨_,(AC (A6 (AN GC (AO (B6 K) (pv 0) AF (λ_ _=>rfl)) (AO (B6 K) (pv 1) AF (λ_ _=>rfl)) (AR _)) (AE (BK rfl T.x_62 rfl T.m_62 Ap (AA Bq AB))) Af)
  (AC (AQ 2 KI (AK hr G_68 T.m_68 (AA (pv 0) AB)))
  (AC (AQ 3 KI (AK hr G_68 T.m_68 (AA (pv 1) AB)))
  (AC (AQ 4 KI (AO (B6 K) (pv 0) AF (λ_ _=>rfl)))
  (AC (AQ 5 KI (AL BJ (AL BF (AK hr G_69 T.m_69 (AA (pv 2) AB)) (AK hr G_69 T.m_69 (AA (pv 3) AB))) AF))
  (AC (A6 (AN Dq (AK hr G_11 T.m_11 (AA (pv 4) (AA (pv 5) AB))) (Cy rfl T.g_LONGEST_TABLE) (AR _)) (AE (BK rfl T.x_54 rfl T.m_54 Ap (AA Bq AB))) Af)
  (AC (AQ 6 KI (BO AB))
  (AC (A7 PassesOwn.leaving rfl (A1 rfl T.z_range (AA (AK hr G_11 T.m_11 (AA (pv 4) (AA (pv 5) AB))) AB)) (BI 7 KI) (AE (Ay (Nf K (pv 6) (AA (An G_40 (hr.mono (by decide)) rfl T.m_40 Ac (AA (pv 3) (AA (An G_84 (hr.mono (by decide)) rfl T.m_84 Ac (AA (pv 2) (AA (C8 G_61 (hr.mono (by decide)) rfl T.m_61 E5 (AA (pv 7) (AA (pv 4) (AA (pv 5) AB)))) AB))) AB))) AB)))))
  (AE (AM (AK hr G_68 T.m_68 (AA (An G_82 (hr.mono (by decide)) rfl T.m_82 Ac (AA (pv 4) (AA (AL BF (AO (B6 K) (pv 2) AF (λ_ _=>rfl)) (AO (B6 K) (pv 3) AF (λ_ _=>rfl))) (AA (pv 6) AB)))) AB)))))))))))),?_⟩
 refine At.el ok.v λtb h1 h2=>?_;refine At.el ok'.v λtb' h1' h2'=>?_;refine CU (λσ HX=>g=g'/\σ=[some (.ref r),some (.ref r'),none,none,none,none,none,none]/\HX=H) (λN hN=>?_) ?_
 ·walk_at "";refine (Ck (Am.of h1) rfl (Ck (Am.of h1') rfl ⟨rfl,?_⟩))
  by_cases z:g=g'
  ·rw[qC (λy=>y (by rw[z]))];exact hN _ _ ⟨z,rfl,rfl⟩
  ·rw[qD (λy=>z (V.int.inj y))];rcases h with⟨_,k⟩|⟨y,_⟩
   ·exact⟨by decide,k _ (AH.refl _)⟩
   ·exact qE y z
 rintro _ hGo σ HX ⟨rfl,rfl,rfl⟩;refine hGo _ _ ?_;rcases h with⟨y,_⟩|⟨_,low,M,low',M',hW,hW',h⟩
 ·exact qE rfl y
 have g2:=ok.g2;have g9:=ok.g9;refine Az λN hN=>?_;walk_at "";refine⟨r,g,lo,g7,m,rfl,ok,λlowx Mx hWx r1 H1 e1 ok1=>hN _ _ ?_⟩;clear hN N;obtain⟨rfl,rfl⟩:=hW.uniq hWx;refine Az λN hN=>?_;walk_at "";refine⟨r',g,lo',tab',m',rfl,ok'.same e1,λlowx Mx hWx r2 H2 e2 ok2=>hN _ _ ?_⟩;clear hN N;obtain⟨rfl,rfl⟩:=hW'.uniq hWx;have e12:=e1.trans e2;have ok1:=ok1.same e2;refine Az λN hN=>?_;walk_at "";refine (Ck (Am.of (e12 _ _ h1)) rfl (hN _ _ ?_));clear hN N;refine Az λN hN=>?_;walk_at "";refine⟨r1,g,_,_,M,rfl,g2,g9,ok1.v,ok1.len,r2,g,_,_,M',rfl,g2,g9,ok2.v,ok2.len,?_⟩;refine⟨_,rfl,_,rfl,hN _ _ ?_⟩;clear hN N;have M1:=hW.one;have M1':=hW'.one;obtain⟨Mx,hMx⟩:∃Mx:Nat,Mx=M+M'-1:=⟨_,rfl⟩;rw[<-hMx]at h;rw[show (M:Int)+(M':Int)-1=((Mx:Nat):Int) by lia];have gp:=RW.Aa g2 Mx;refine CU (λσ HX=>g^Mx<=256/\σ=[some (.ref r),some (.ref r'),some (.ref r1),some (.ref r2),some (.int g),some (.int ((Mx:Nat):Int)),none,none]/\HX=H2) (λN hN=>?_) ?_
 ·walk_at "";refine⟨g,_,rfl,g2,g9,by lia,λhle=>⟨_,rfl,?_⟩,λhgt rr hrr=>⟨_,rfl,?_⟩⟩
  ·rw[qC (by lia)];rw[bI]at hle;exact hN _ _ ⟨hle,rfl,rfl⟩
  ·rw[qD hrr];rw[bI]at hgt;rcases h with⟨_,k⟩|⟨y,_⟩
   ·exact⟨by decide,k _ e12⟩
   ·lia
 rintro _ hGo σ HX ⟨hle,rfl,rfl⟩;refine hGo _ _ ?_;rcases h with⟨y,_⟩|⟨_,h⟩
 ·lia
 have Mx8:Mx<=8:=by
  by_cases z:Mx<=8
  ·exact z
  ·exfalso;have a:=Bf g2 (show 9<=Mx by lia)
   have b:512<=g^9:=by
    obtain z|z|z|z|z|z|z|z:g=2\/g=3\/g=4\/g=5\/g=6\/g=7\/g=8\/g=9:=by have:=ok.g9;lia
    all_goals rw[z];decide
   lia
 refine Az λN hN=>?_;walk_at "";refine⟨cJ _,λp hp=>hN _ _ ?_⟩;clear hN N;have eN:=AH.new hp (.lst []);obtain⟨T1,hT1⟩:∃T1,T1=EK g lo g7 m low M:=⟨_,rfl⟩;obtain⟨T2,hT2⟩:∃T2,T2=EK g lo' tab' m' low' M':=⟨_,rfl⟩;rw[<-hT1,<-hT2]at h;rw[<-hT1]at ok1;rw[<-hT2]at ok2;refine CU (λσ HY=>(∃x7,σ=[some (.ref r),some (.ref r'),some (.ref r1),some (.ref r2),some (.int g),some (.int ((Mx:Nat):Int)),some (.ref p),x7])/\AH HX HY/\HY p=some (.lst ((Dg g T1 M T2 Mx).map V.int))) (λN hN=>?_) ?_
 ·refine⟨_,rfl,_,rfl,g,_,rfl,g2,g9,by lia,λ_=>⟨_,rfl,?_,?_,?_⟩,λhgt=>?_⟩
  ·rw[bI];lia
  ·rw[bI];lia
  ·rw[bI];refine Ba (n:=(g^Mx).toNat) (λi σ HY=>(∃x7,σ=[some (.ref r),some (.ref r'),some (.ref r1),some (.ref r2),some (.int g),some (.int ((Mx:Nat):Int)),some (.ref p),x7])/\AH HX HY/\HY p=some (.lst (((List.range i).map λn:Nat=>T2.getD (Ao g (BB g T1 M (Ad g (n:Int) Mx))).toNat 0).map V.int))) ⟨⟨none,rfl⟩,eN,AD⟩ ?_ λσ HY z=>hN _ _ z
   refine FI ?_;rintro _ _ i _ hGo σ HY hi ⟨⟨x7,rfl⟩,eY,hpY⟩;refine hGo _ _ ?_;have wlen:=Au g (i:Int) Mx;have wlt:=BQ g2 (i:Int) Mx;have ll:=Bh g T1 M (Ad g (i:Int) Mx);have llt:=FO g2 ok1.tb M (Ad g (i:Int) Mx);walk_at "";rw[bg];refine⟨.inl ⟨_,Ai.of hpY⟩,(i:Int),g,_,rfl,g2,g9,by lia,by lia,λhb=>?_,λ_ _ pw H3 n3=>?_⟩
   ·rw[bI]at hb;lia
   rw[bI]at n3;have e3:=eY.trans n3.1;refine⟨r1,pw,g,low,T1,M,(Ad g (i:Int) Mx).map V.int,rfl,g2,g9,ok1.v.same e3,ok1.len,M1,Ai.of n3.2.2,Co,by rw[a9,wlen];lia,?_⟩;rw[C0 wlt];intro ms hms p4 H4 n4;have:=CV hms;subst this;have e4:=e3.trans n4.1;refine⟨r2,p4,g,low',T2,M',_,rfl,g2,g9,ok2.v.same e4,ok2.len,Ai.of n4.2.2,Co,?_⟩;have bl:=E2 llt;rw[ll,wlen,show Mx+1-M=M' by lia]at bl;rw[bl];intro ms hms H5 e5;have:=CV hms;subst this;have e5':=(n3.1.trans n4.1).trans e5;refine⟨_,e5' _ _ hpY,?_,⟨_,rfl⟩,(eY.trans e5').into hp,?_⟩
   ·rw[a9,a9,bO];exact AU (by lia)
   ·rw[AD,Ax,bH];rfl
  ·rw[bI]at hgt;lia
 rintro _ hGo σ HY ⟨⟨x7,rfl⟩,eY,hpY⟩;refine hGo _ _ ?_;refine At.el (ok1.v.same eY) λtb1 k1 k1'=>?_;refine At.el (ok2.v.same eY) λtb2 k2 k2'=>?_;walk_at "";have jl:=Kz g2 T1 M T2 Mx;have jb:=R8 g2 T1 M ok2.tb Mx;refine (Ck (Am.of k1) rfl (Ck (Am.of k2) rfl ⟨_,rfl,_,rfl,Dw g2 g9 (by lia) jl hle jb (.inl hpY) λr3 H3 e3 hv=>?_⟩));exact⟨r3,g,_,_,Mx,rfl,⟨hv,g2,g9,by lia,Mx8,jl,hle,jb⟩,λlj Mj hj rj H4 e4 okj=>h lj Mj hj rj H4 (((e12.trans eY).trans e3).trans e4) okj⟩
theorem ZN:AI ["signs","weights","weight"] ["signs","weights"] (AG aN):=By
theorem af(T:Bw K mg t)(G_27:Aj P w K mg base 1 t.f_27 ["signs","length"] (Ch))(G_50:Aj P w K mg base 1 t.f_50 ["thing"] (GK)):Aj P w K mg base 2 t.f_6 ["signs","weights"] (Jg t.c_30):=by
 refine CK T.d_6 ZN λvs H Q E h=>?_;obtain⟨g,z,rfl,g2,g9,kz,hg,hbad⟩:=h;refine⟨rfl,λgh A outer s hr=>?_⟩
 refine⟨_,(AC (A6 (PW.pt (Dd (EA (Cv (Nr rfl T.z_isinstance (pv 1) (MS rfl T.z_list PyProof.Rows.boot_list)))) (Di (AN Bo (AK hr G_27 T.m_27 (AA (pv 0) (AA (Ag (IK K) rfl T.z_len PySem.boot_len (AA (pv 1) AB)) AB))) AF (AR _))))) (AE (BK rfl T.x_30 rfl T.m_30 Ap (AA Bq AB))) Af)
  (AE (A7 PassesOwn.leaving rfl (Ka K (pv 1)) (BI 2 ZN) (AE (A6 (EA (Cv (AK hr G_50 T.m_50 (AA (pv 2) AB)))) (AE (BK rfl T.x_30 rfl T.m_30 Ap (AA Bq AB))) Af))))),?_⟩
 walk_at "";have no:(∀a,z≠.ref a)->¬Ht H g z:=λh ⟨a,_,e,_⟩=>h a e
 cases z with
 |ref a =>
  obtain⟨xs,hs,kx⟩:=kz
  have notk:H a=some (.lst xs)->¬((∃m:Nat,1<=m/\(xs.length:Int)=g^m)/\∀x∈xs,ME x=true)->¬Ht H g (.ref a):=by rintro hL h ⟨b,ys,e,hb,k⟩;cases e;rw[hL]at hb;cases hb;exact h k
  rcases hs with hL|hT
  ·refine⟨_,.of (.lst hL),_,Uo,?_⟩;rw[qC (by decide)];refine⟨a,rfl,xs,.inl (Ai.of hL),g,_,rfl,g2,g9,λm hm=>⟨rfl,?_⟩,λhno=>⟨rfl,?_⟩⟩
   ·by_cases hm0:m=0
    ·subst hm0;rw[qD (show V.int ((0:Nat):Int)=V.int 0 from rfl)];refine⟨by decide,hbad (notk hL λ⟨⟨m',h1,h2⟩,_⟩=>?_) _ (AH.refl _)⟩;have:=Df g2 (hm.symm.trans h2);lia
    rw[qC (by intro z;injection z with z;lia)];refine⟨_,rfl,a,rfl,⟨_,Ai.of hL⟩,?_⟩;refine Be (xs:=xs) (λi σ H2=>(∀x∈xs.take i,ME x=true)/\(∃x2,σ=[some (.int g),some (.ref a),x2])/\H2=H) ⟨λx hx=>qE hx (by simp),⟨none,rfl⟩,rfl⟩ (λi σ H2 _ z=>by rw[z.2.2];exact Ai.of hL) ?_ ?_
    ·refine Fl ?_;rintro _ _ i x _ hGo σ H2 hx ⟨hb,⟨x2,rfl⟩,rfl⟩;refine hGo _ _ ?_;walk_at "";refine⟨x,rfl,kx x (bE hx),_,rfl,?_⟩;cases hsg:ME x with
     |true =>
      rw[qC (by decide)];refine⟨λy hy=>?_,⟨_,rfl⟩,rfl⟩;rw[cf,hx]at hy;rcases bJ.mp hy with z|z
      ·exact hb y z
      ·have:y=x:=by simpa using z
       rw[this];exact hsg
     |false =>
      rw[qD rfl];exact⟨by decide,hbad (notk hL λk=>by have:=k.2 x (bE hx);rw[hsg]at this;cases this) _ (AH.refl _)⟩
    ·rintro σ H2 ⟨hb,_,rfl⟩;rw[br]at hb;exact hg ⟨a,xs,rfl,hL,⟨m,by lia,hm⟩,hb⟩ _ (AH.refl _)
   ·rw[qD rfl];exact⟨by decide,hbad (notk hL λ⟨⟨m',_,h2⟩,_⟩=>hno m' h2) _ (AH.refl _)⟩
  ·refine⟨_,.of (.tup hT),_,Up,?_⟩;rw[qD rfl];refine⟨by decide,hbad ?_ _ (AH.refl _)⟩;rintro⟨b,ys,e,hb,_⟩;cases e;rw[hT]at hb;cases hb
 |non =>
  refine⟨_,.of .non,_,Uq,?_⟩;rw[qD rfl];exact⟨by decide,hbad (no λ_ e=>nomatch e) _ (AH.refl _)⟩
 |str y =>
  refine⟨_,.of (.str y),_,Ur,?_⟩;rw[qD rfl];exact⟨by decide,hbad (no λ_ e=>nomatch e) _ (AH.refl _)⟩
 |int y =>
  refine⟨_,.of (.int y),_,Us,?_⟩;rw[qD rfl];exact⟨by decide,hbad (no λ_ e=>nomatch e) _ (AH.refl _)⟩
 |bl y =>
  refine⟨_,.of (.bl y),_,Ut,?_⟩;rw[qD rfl];exact⟨by decide,hbad (no λ_ e=>nomatch e) _ (AH.refl _)⟩
 |byt _=>exact kz.elim
 |flt _=>exact kz.elim
 |ty _=>exact kz.elim
theorem ZO:AI ["framed","weights"] ["framed","weights"] (AG Wz):=By
theorem ZP(T:Bw K mg t)(G_69:Aj P w K mg base 2 t.f_69 ["one"] (Bg))(G_27:Aj P w K mg base 1 t.f_27 ["signs","length"] (Ch)):Aj P w K mg base 3 t.f_17 ["framed","weights"] (HN):=by refine Aw T.d_17 ZO λvs H Q E h=>?_;obtain⟨r,w',g,lo,g7,m,mw,xs,rfl,ok,hw,wl,q⟩:=h;refine⟨rfl,λgh A outer s hr=>?_⟩;refine⟨_,(AE (AM (AL BJ (AL BF (AK hr G_69 T.m_69 (AA (pv 0) AB)) (AK hr G_27 T.m_27 (AA (AO (B6 K) (pv 0) AF (λ_ _=>rfl)) (AA (Ag (IK K) rfl T.z_len bu (AA (pv 1) AB)) AB)))) AF))),?_⟩;refine At.el ok.v λtb h1 h2=>?_;have m1:=ok.m1;walk_at "";refine⟨r,g,lo,g7,m,rfl,ok.g2,ok.g9,ok.v,ok.len,?_⟩;refine (Ck (Am.of h1) rfl ⟨_,.inl (Ai.of hw),g,_,rfl,ok.g2,ok.g9,λmw' hm=>⟨_,rfl,_,rfl,?_⟩,λhn=>qE wl (hn mw)⟩);have:=Df ok.g2 (wl.symm.trans hm);rw[<-this,show (m:Int)+(mw:Int)-1=((m+mw-1:Nat):Int) by lia];exact q
theorem ZQ:AI ["framed","weights"] ["framed","weights"] (AG W0):=By
theorem ZR(T:Bw K mg t)(G_76:Aj P w K mg base 1 t.f_76 ["one"] (Cr)):Aj P w K mg base 2 t.f_23 ["framed","weights"] (IZ):=by refine Aw T.d_23 ZQ λvs H Q E h=>?_;obtain⟨r,w',g,lo,g7,m,xs,rfl,ok,hw,q⟩:=h;refine⟨rfl,λgh A outer s hr=>?_⟩;refine⟨_,(AE (AM (AL Cd (AK hr G_76 T.m_76 (AA (pv 0) AB)) (Ag (IK K) rfl T.z_len bu (AA (pv 1) AB))))),?_⟩;walk_at "";have hd:=BH ok.g2 ok.len ok.m1;have hle:g7.length/g.toNat<=g7.length:=Nat.div_le_self ..;have sz:=ok.sz;have tl:=ok.len;refine⟨r,g,lo,g7,m,rfl,ok,_,.inl (Ai.of hw),_,rfl,?_⟩;rw[<-hd.1]at q;obtain⟨h,hh⟩:∃h,h=g7.length/g.toNat:=⟨_,rfl⟩;rw[<-hh]at q hle⊢;exact⟨.inl ⟨by lia,by lia⟩,q⟩
theorem LI:AI ["framed","weights","signs","many","gains","number","come"] ["framed","weights"] (AG W1):=By
theorem ZS(T:Bw K mg t)(G_17:Aj P w K mg base 3 t.f_17 ["framed","weights"] (HN))(G_23:Aj P w K mg base 2 t.f_23 ["framed","weights"] (IZ))(G_41:Aj P w K mg base 4 t.f_41 ["word","signs"] (GL K t.c_72))(G_81:Aj P w K mg base 3 t.f_81 ["one","row"] (JI K))(G_61:KP P w K mg base 1 t.f_61 ["number","signs","many"] (EF t.c_63))(G_76:Aj P w K mg base 1 t.f_76 ["one"] (Cr)):Aj P w K mg base 5 t.f_49 ["framed","weights"] (Lp):=by
 refine Aw T.d_49 LI λvs H Q E h=>?_;obtain⟨r,w',g,lo,g7,m,mw,ws,rfl,ok,hw,wl,w1,h729,q⟩:=h;refine⟨rfl,λgh A outer s hr=>?_⟩
 refine⟨_,(AC (AQ 2 LI (AO (B6 K) (pv 0) AF (λ_ _=>rfl)))
  (AC (AQ 3 LI (AK hr G_17 T.m_17 (AA (pv 0) (AA (pv 1) AB))))
  (AC (AQ 4 LI (BO AB))
  (AC (A7 PassesOwn.never rfl (A1 rfl T.z_range (AA (AK hr G_23 T.m_23 (AA (pv 0) (AA (pv 1) AB))) AB)) (BI 5 LI) (AC (AQ 6 LI (AK hr G_41 T.m_41 (AA (AK hr G_81 T.m_81 (AA (pv 0) (AA (C8 G_61 (hr.mono (by decide)) rfl T.m_61 E5 (AA (pv 5) (AA (pv 2) (AA (pv 3) AB)))) AB))) (AA (pv 2) AB))))
  (AE (Ay (Nf K (pv 4) (AA (AL BJ (AO (Fk K) (pv 1) (pv 6) (λ_ _=>rfl)) (AO (Fk K) (pv 1) (AL B4 (pv 5) (AK hr G_76 T.m_76 (AA (pv 0) AB))) (λ_ _=>rfl))) AB))))))
  (AE (AM (pv 4))))))),?_⟩
 refine At.el ok.v λtb h1 h2=>?_;have g2:=ok.g2;have g9:=ok.g9;have m1:=ok.m1;have m8:=ok.m8;have hlm:(ws.map V.int).length=ws.length:=a9 ..;have hd:=BH g2 ok.len m1;have gp:=RW.Aa g2 (m-1);have wp:=RW.Aa g2 mw;refine Az λN hN=>?_;walk_at "";refine (Ck (Am.of h1) rfl (hN _ _ ?_));clear hN N;refine Az λN hN=>?_;walk_at "";refine⟨r,w',g,lo,g7,m,mw,_,rfl,ok,hw,by rw[hlm];exact wl,hN _ _ ?_⟩;clear hN N;refine Az λN hN=>?_;walk_at "";refine⟨cJ _,λp hp=>hN _ _ ?_⟩;clear hN N;have hG:((g^(m-1)).toNat:Int)=g^(m-1):=by lia
 have Fi:g^(m-1)*(ws.length:Int)=g^(m+mw-1):=by rw[wl,<-Int.pow_add,show m-1+mw=m+mw-1 by lia]
 have mw9:mw<=10:=by
  by_cases z:mw<=10
  ·exact z
  ·exfalso;have a:=Bf g2 (show 10<=m+mw-1 by lia)
   have b:1024<=g^10:=by
    obtain z|z|z|z|z|z|z|z:g=2\/g=3\/g=4\/g=5\/g=6\/g=7\/g=8\/g=9:=by lia
    all_goals rw[z];decide
   lia
 have hw0:H w'=some (.lst (ws.map V.int)):=hw;have wl2:(((g^(m-1)).toNat*ws.length:Nat):Int)=g^(m-1)*(ws.length:Int):=by rw[cS,hG]
 refine CU (λσ HX=>(∃x5 x6,σ=[some (.ref r),some (.ref w'),some (.int g),some (.int ((m+mw-1:Nat):Int)),some (.ref p),x5,x6])/\AH H HX/\HX p=some (.lst ((Bk g g7 m ws mw).map V.int))) (λN hN=>?_) ?_
 ·refine⟨_,rfl,_,rfl,r,w',g,lo,g7,m,_,rfl,ok.same (AH.new hp _),AH.new hp _ _ _ hw,_,rfl,?_,?_,?_⟩
  ·rw[hlm];lia
  ·rw[hlm];lia
  rw[hlm,<-wl2,bI];refine Ba (n:=(g^(m-1)).toNat*ws.length) (λi σ HX=>(∃x5 x6,σ=[some (.ref r),some (.ref w'),some (.int g),some (.int ((m+mw-1:Nat):Int)),some (.ref p),x5,x6])/\AH H HX/\HX p=some (.lst (((List.range i).map λn:Nat=>ws.getD (Ao g (BB g g7 m (Ad g (n:Int) (m+mw-1)))).toNat 0-ws.getD (n/(g^(m-1)).toNat) 0).map V.int))) ⟨⟨none,none,rfl⟩,AH.new hp _,AD⟩ ?_ λσ HX z=>hN _ _ z
  refine FI ?_;rintro _ _ i _ hGo σ HX hi ⟨⟨x5,x6,rfl⟩,eX,hpX⟩;refine hGo _ _ ?_;have wlen:=Au g (i:Int) (m+mw-1);have wlt:=BQ g2 (i:Int) (m+mw-1);have ll:=Bh g g7 m (Ad g (i:Int) (m+mw-1));have llt:=FO g2 ok.tb m (Ad g (i:Int) (m+mw-1));have nb:=BL g2 llt;rw[ll,wlen,show m+mw-1+1-m=mw by lia,<-wl]at nb;refine Az λN2 hN2=>?_;walk_at "";rw[bg];refine⟨(i:Int),g,_,rfl,g2,g9,by lia,by lia,λhb=>?_,λ_ _ pw H3 n3=>?_⟩
  ·rw[bI]at hb;lia
  rw[bI]at n3;have e3:=eX.trans n3.1;refine⟨r,pw,g,lo,g7,m,Ad g (i:Int) (m+mw-1),rfl,g2,g9,ok.v.same e3,ok.len,m1,Ai.of n3.2.2,wlt,by lia,λp4 H4 n4=>?_⟩;refine⟨p4,_,g,rfl,g2,g9,Ai.of n4.2.2,Co,?_⟩;rw[C0 llt];intro ms hms H5 e5;have:=CV hms;subst this;refine hN2 _ _ ?_;clear hN2 N2;have e5':=(n3.1.trans n4.1).trans e5;have e55:=eX.trans e5';walk_at "";have ed:(i:Int)/g^(m-1)=((i/(g^(m-1)).toNat:Nat):Int):=by rw[cz,hG]
  have dl:i/(g^(m-1)).toNat<ws.length:=de hi;have hsm:=Bf g2 (show m-1<=m by lia);have sz:=ok.sz;refine⟨.inl ⟨_,Ai.of (e5' _ _ hpX)⟩,FK (Ai.of (e55 _ _ hw)) (Dl nb.1 (by lia)) ⟨r,g,lo,g7,m,rfl,ok.same e55,_,rfl,?_⟩⟩;rw[hd.1,ed];refine⟨gp,by lia,FK (Ai.of (e55 _ _ hw)) (CY dl) ⟨_,rfl,_,rfl,_,e5' _ _ hpX,?_,⟨_,rfl⟩,e55.into hp,?_⟩⟩
  ·rw[a9,a9,bO];exact AU (by lia)
  ·rw[AD,Ax,bH];rfl
 rintro _ hGo σ HX ⟨⟨x5,x6,rfl⟩,eX,hpX⟩;refine hGo _ _ ?_;walk_at "";exact q p _ ⟨eX,hp,hpX⟩
theorem ZT:AI ["one","weights","framed"] ["one","weights"] (AG aO):=By
theorem ag(T:Bw K mg t)(G_75:Aj P w K mg base 8 t.f_75 ["one"] (FU t.c_54))(G_6:Aj P w K mg base 2 t.f_6 ["signs","weights"] (Jg t.c_30))(G_49:Aj P w K mg base 5 t.f_49 ["framed","weights"] (Lp))(G_23:Aj P w K mg base 2 t.f_23 ["framed","weights"] (IZ)):Aj P w K mg base 9 t.f_7 ["one","weights"] (HR t.c_54 t.c_30):=by
 refine CK T.d_7 ZT λvs H Q E h=>?_;obtain⟨r,g,lo,g7,m,lf,tf,mf,z,rfl,ok,fw,kz,h⟩:=h;refine⟨rfl,λgh A outer s hr=>?_⟩
 refine⟨_,(AC (AQ 2 ZT (An G_75 (hr.mono (by decide)) rfl T.m_75 Ac (AA (pv 0) AB)))
  (AC (Ay (An G_6 (hr.mono (by decide)) rfl T.m_6 Ac (AA (AO (B6 K) (pv 2) AF (λ_ _=>rfl)) (AA (pv 1) AB))))
  (AC (A6 (AN Dq (AK hr G_23 T.m_23 (AA (pv 2) (AA (pv 1) AB))) (Cy rfl T.g_MOST_GAINS) (AR _)) (AE (BK rfl T.x_54 rfl T.m_54 Ap (AA Bq AB))) Af)
  (AE (AM (AK hr G_49 T.m_49 (AA (pv 2) (AA (pv 1) AB)))))))),?_⟩
 have g2:=ok.g2;have g9:=ok.g9;refine Az λN hN=>?_;walk_at "";refine⟨r,g,lo,g7,m,lf,tf,mf,rfl,ok,fw,λh9 r1 H1 e1 ok1=>hN _ _ ?_,λh9 H1 e1=>?_⟩
 ·clear hN N;refine At.el ok1.v λtb k1 k2=>?_;walk_at "";refine (Ck (Am.of k1) rfl ⟨g,z,rfl,g2,g9,kz.same e1,λhg H2 e2=>?_,λhb H2 e2=>?_⟩)
  ·have e12:=e1.trans e2;rcases h with⟨h',_⟩|⟨_,nw,_⟩|⟨w',ws,mw,_,rfl,hw,wl,w1,h⟩
   ·exact qE h9 (by lia)
   ·exact qE hg (SC kz e1 nw)
   ·have hlm:(ws.map V.int).length=ws.length:=a9 ..;refine⟨r1,w',g,lf,tf,mf,_,rfl,ok1.same e2,e12 _ _ hw,_,rfl,?_⟩;rw[hlm];rcases h with⟨h7,k⟩|⟨h7,k⟩
    ·rw[qD h7];exact⟨by decide,k _ e12⟩
    ·rw[qC (by lia)];exact⟨r1,w',g,lf,tf,mf,mw,ws,rfl,ok1.same e2,e12 _ _ hw,wl,w1,h7,λp H3 n3=>k p H3 ⟨e12.trans n3.1,e12.free n3.2.1,n3.2.2⟩⟩
  ·rcases h with⟨h',_⟩|⟨_,nw,k⟩|⟨w',ws,mw,_,rfl,hw,wl,w1,h⟩
   ·exact qE h9 (by lia)
   ·exact k _ (e1.trans e2)
   ·exact qE (SA (e1 _ _ hw) wl w1) hb
 rcases h with⟨_,k⟩|⟨h',_⟩|⟨w',ws,mw,h',_⟩
 ·exact k _ e1
 ·exact qE h9 (by lia)
 ·exact qE h9 (by lia)
theorem S1:AI ["signs","gains","found","number"] ["signs","gains"] (AG W2):=By
theorem ZU(T:Bw K mg t) :Aj P w K mg base 1 t.f_48 ["signs","gains"] (HP):=by
 refine Aw T.d_48 S1 λvs H Q E h=>?_;obtain⟨p,g,gs,rfl,g2,g9,hp,gl,gl2,q⟩:=h;refine⟨rfl,λgh A outer s hr=>?_⟩
 refine⟨_,(AC (AQ 2 S1 (BO (BP AB)))
  (AC (A7 PassesOwn.never rfl (Ke rfl T.z_range (BP (AA (AL B4 (Ag (IK K) rfl T.z_len bu (AA (pv 1) AB)) (pv 0)) AB))) (BI 3 S1) (AE (Ay (Nf K (pv 2) (AA (AL BJ (AO (Fk K) (pv 2) (AL B4 (pv 3) (pv 0)) (λ_ _=>rfl)) (AO (Fk K) (pv 1) (pv 3) (λ_ _=>rfl))) AB)))))
  (AE (AM (pv 2))))),?_⟩
 refine Az λN hN=>?_;walk_at "";refine⟨by decide,λd hd=>hN _ _ ?_⟩;clear hN N;have hlm:(gs.map V.int).length=gs.length:=a9 ..;have gn:((g.toNat:Nat):Int)=g:=by lia
 have e:(((gs.map V.int).length:Nat):Int)/g=((gs.length/g.toNat:Nat):Int):=by rw[hlm,cz,gn]
 have h1:1<=gs.length/g.toNat:=(Nat.le_div_iff_mul_le (by lia)).mpr (by lia);have hle:gs.length/g.toNat<=gs.length:=Nat.div_le_self ..;have hm2:gs.length/g.toNat*g.toNat<=gs.length:=Nat.div_mul_le_self ..;have eN:=AH.new hd (.lst [V.int 0]);refine CU (λσ HX=>(∃x3,σ=[some (.int g),some (.ref p),some (.ref d),x3])/\AH H HX/\HX d=some (.lst ((BM g.toNat gs).map V.int))) (λN hN=>?_) ?_
 ·refine⟨_,rfl,p,_,rfl,.inl (Ai.of (eN _ _ hp)),_,rfl,_,_,rfl,rfl,⟨by lia,by lia⟩,_,_,rfl,?_,?_⟩
  ·rw[e];exact⟨by decide,by decide,by lia,by lia⟩
  rw[e,show (((gs.length/g.toNat:Nat):Int)-1).toNat=gs.length/g.toNat-1 by lia];refine Ba (lo:=1) (n:=gs.length/g.toNat-1) (λi σ HX=>(∃x3,σ=[some (.int g),some (.ref p),some (.ref d),x3])/\HX=Ak H d (.lst ((DB g.toNat gs i).map V.int))) ⟨⟨none,rfl⟩,rfl⟩ ?_ ?_
  ·refine FI ?_;rintro _ _ i _ hGo σ HX hi ⟨⟨x3,rfl⟩,rfl⟩;refine hGo _ _ ?_;have eX:=AH.new hd (.lst ((DB g.toNat gs i).map V.int));have fl:=Cj g.toNat gs i;have ei:(1+(i:Int))/g=(((i+1)/g.toNat:Nat):Int):=by rw[show 1+(i:Int)=((i+1:Nat):Int) by lia,cz,gn]
   have di:(i+1)/g.toNat<i+1:=Nat.div_lt_self (by lia) (by lia);walk_at "";refine⟨.inl ⟨_,Ai.of AD⟩,by lia,by lia,?_⟩;rw[ei];refine (FK (Ai.of AD) (CY (by rw[fl];exact di)) (FK (Ai.of (eX _ _ hp)) (Dl (by lia) (by lia)) ⟨_,rfl,_,rfl,_,AD,?_,⟨_,rfl⟩,?_⟩))
   ·rw[a9,fl];exact AU (by lia)
   ·rw[Dc,show (1+(i:Int)).toNat=i+1 by lia,show DB g.toNat gs (i+1)=DB g.toNat gs i++[(DB g.toNat gs i).getD ((i+1)/g.toNat) 0-gs.getD (i+1) 0] from rfl,bH];rfl
  ·rintro σ HX ⟨⟨x3,rfl⟩,rfl⟩;exact hN _ _ ⟨⟨_,rfl⟩,AH.new hd _,AD⟩
 rintro _ hGo σ HX ⟨⟨x3,rfl⟩,eX,hX⟩;refine hGo _ _ ?_;walk_at "";exact q d _ ⟨eX,hd,hX⟩
theorem S2:AI ["signs","gains","found","number","gain"] ["signs","gains","found"] (AG W3):=By
theorem ZV(T:Bw K mg t) :Aj P w K mg base 1 t.f_16 ["signs","gains","found"] (ER):=by
 refine Aw T.d_16 S2 λvs H Q E h=>?_;obtain⟨p,q',g,gs,fs,rfl,g2,g9,hp,hq,f1,gf,gl2,hok,hbad⟩:=h;refine⟨rfl,λgh A outer s hr=>?_⟩
 refine⟨_,(AC (A7 PassesOwn.never rfl (GI rfl T.z_enumerate (AA (pv 1) AB)) (Fo rfl (Bd (BI 3 S2) (Bd (BI 4 S2) EB))) (AE (A6 (AN GC (pv 4) (AL BJ (AO (Fk K) (pv 2) (AL B4 (pv 3) (pv 0)) (λ_ _=>rfl)) (AO (Fk K) (pv 2) (AL BS (pv 3) (Ag (IK K) rfl T.z_len bu (AA (pv 2) AB))) (λ_ _=>rfl))) (AR _)) (AE (AM (pv 3))) Af)))
  (AE (AM Gx))),?_⟩
 have gn:((g.toNat:Nat):Int)=g:=by lia
 refine CU (λσ HX=>(∃x3 x4,σ=[some (.int g),some (.ref p),some (.ref q'),x3,x4])/\AH H HX/\DE g.toNat gs fs) (λN hN=>?_) ?_
 ·refine⟨_,rfl,p,_,rfl,Ai.of hp,?_⟩;refine GJ (xs:=gs.map V.int) (λi σ HX=>(∃x3 x4,σ=[some (.int g),some (.ref p),some (.ref q'),x3,x4])/\AH H HX/\∀k,k<i->¬EQ g.toNat gs fs k) ⟨⟨none,none,rfl⟩,AH.refl _,λk hk=>qE hk (ce _)⟩ (λi σ HX _ z=>Ai.of (z.2.1 _ _ hp)) ?_ ?_
  ·rintro i y p2 σ HX hy ⟨⟨x3,x4,rfl⟩,eX,inv⟩ hp2;obtain⟨v,hv,rfl⟩:=B8 hy;have il:=(bB.mp hv).1;have e2:=eX.trans (AH.new hp2 (.tup [.int ((i:Nat):Int),.int v]));refine⟨p2,_,rfl,Am.of AD,rfl,_,_,rfl,_,_,rfl,rfl,?_⟩;generalize Ak HX p2 (.tup [.int ((i:Nat):Int),.int v])=HT at e2⊢;have ei:(i:Int)/g=((i/g.toNat:Nat):Int):=by rw[cz,gn]
   have flm:(fs.map V.int).length=fs.length:=a9 ..;have em:(i:Int)%((fs.map V.int).length:Int)=((i%fs.length:Nat):Int):=by rw[flm,cW]
   have d1:i/g.toNat<fs.length:=de (by rw[fG];lia);have d2:=dG i f1;have hqT:=e2 _ _ hq;have gv:gs.getD i 0=v:=by rw[a8,hv];rfl
   walk_at "";rw[ei];refine⟨by lia,by lia,FK (Ai.of hqT) (CY d1) ⟨_,.inl (Ai.of hqT),by lia,?_⟩⟩;rw[em];refine (FK (Ai.of hqT) (CY d2) ⟨_,rfl,_,rfl,?_⟩)
   by_cases z:v=fs.getD (i/g.toNat) 0-fs.getD (i%fs.length) 0
   ·rw[qC (λy=>y z)];refine⟨⟨_,rfl⟩,e2,λk hk=>?_⟩
    by_cases y:k=i
    ·subst y;unfold EQ;rw[gv];exact λw=>w z
    ·exact inv k (by lia)
   ·rw[qD z];exact hbad i il (by unfold EQ;rw[gv];exact z) inv _ e2
  ·rintro σ HX ⟨⟨x3,x4,rfl⟩,eX,inv⟩;rw[a9]at inv;exact hN _ _ ⟨⟨_,_,rfl⟩,eX,inv⟩
 rintro _ hGo σ HX ⟨⟨x3,x4,rfl⟩,eX,inv⟩;refine hGo _ _ ?_;walk_at "";exact hok inv _ eX
theorem S3:AI ["one","weights","gains","found"] ["one","weights"] (AG W4):=By
theorem ZW(T:Bw K mg t)(G_7:Aj P w K mg base 9 t.f_7 ["one","weights"] (HR t.c_54 t.c_30))(G_48:Aj P w K mg base 1 t.f_48 ["signs","gains"] (HP))(G_16:Aj P w K mg base 1 t.f_16 ["signs","gains","found"] (ER)):Aj P w K mg base 10 t.f_74 ["one","weights"] (KC t.c_54 t.c_30):=by
 refine CK T.d_74 S3 λvs H Q E h=>?_;obtain⟨r,g,lo,g7,m,lf,tf,mf,z,rfl,ok,fw,kz,h⟩:=h;refine⟨rfl,λgh A outer s hr=>?_⟩
 refine⟨_,(AC (AQ 2 S3 (An G_7 (hr.mono (by decide)) rfl T.m_7 Ac (AA (pv 0) (AA (pv 1) AB))))
  (AC (AQ 3 S3 (AK hr G_48 T.m_48 (AA (AO (B6 K) (pv 0) AF (λ_ _=>rfl)) (AA (pv 2) AB))))
  (AC (A6 (AN RA (AK hr G_16 T.m_16 (AA (AO (B6 K) (pv 0) AF (λ_ _=>rfl)) (AA (pv 2) (AA (pv 3) AB)))) Gx (AR _)) (AE (AM (pv 3))) Af)
  (AE (AM Gx))))),?_⟩
 have g2:=ok.g2;have g9:=ok.g9;refine At.el ok.v λtb k1 k2=>?_;have f2:=fw.two;refine Az λN hN=>?_;walk_at "";refine⟨r,g,lo,g7,m,lf,tf,mf,z,rfl,ok,fw,kz,?_⟩;rcases h with h|h|⟨w',ws,mw,h9,rfl,hw,wl,w1,h|⟨h7,hA,hB⟩⟩
 ·exact .inl h
 ·exact .inr (.inl h)
 ·exact .inr (.inr ⟨w',ws,mw,h9,rfl,hw,wl,w1,.inl h⟩)
 refine .inr (.inr ⟨w',ws,mw,h9,rfl,hw,wl,w1,.inr ⟨h7,λp H1 n1=>hN _ _ ?_⟩⟩);clear hN N;have gl:=HM g tf mf ws mw;have gd:=SD g2 f2 wl w1;have gp:=RW.Aa g2 (mf-1)
 have g729:(g^(mf-1)).toNat*ws.length<=729:=by
  have:(((g^(mf-1)).toNat*ws.length:Nat):Int)=g^(mf-1)*(ws.length:Int):=by rw[cS,bN (by lia)]
  lia
 obtain⟨gs,hgs⟩:∃gs,gs=Bk g tf mf ws mw:=⟨_,rfl⟩;rw[<-hgs]at gl n1 hA hB;rw[<-gl]at gd g729;have fl:=QU g2 gd.1 gd.2;refine Az λN hN=>?_;walk_at "";refine (Ck (Am.of (n1.1 _ _ k1)) rfl ⟨p,g,gs,rfl,g2,g9,n1.2.2,?_,g729,λq' H2 n2=>hN _ _ ?_⟩)
 ·have:=dc g.toNat gd.2;have:=gd.1;lia
 clear hN N;have e12:=n1.1.trans n2.1;walk_at "";refine (Ck (Am.of (e12 _ _ k1)) rfl ⟨p,q',g,gs,_,rfl,g2,g9,n2.1 _ _ n1.2.2,n2.2.2,fl.1,fl.2,g729,λhr H3 e3=>?_,λn hn hw' _ H3 e3=>?_⟩)
 ·try dsimp only
  rw[qD rfl];exact hA hr q' H3 ⟨e12.trans e3,n1.1.free n2.2.1,e3 _ _ n2.2.2⟩
 ·try dsimp only
  rw[qC (by intro z;cases z)];exact hB (λhr=>hr n hn hw') H3 (e12.trans e3)
theorem ZX:AI ["one","weights"] ["one","weights"] (AG W5):=By
theorem ZY(T:Bw K mg t)(G_74:Aj P w K mg base 10 t.f_74 ["one","weights"] (KC t.c_54 t.c_30)):Aj P w K mg base 11 t.f_80 ["one","weights"] (Jh t.c_54 t.c_30):=by
 refine CK T.d_80 ZX λvs H Q E h=>?_;obtain⟨r,g,lo,g7,m,lf,tf,mf,z,rfl,ok,fw,kz,h⟩:=h;refine⟨rfl,λgh A outer s hr=>?_⟩;refine⟨_,(AE (AM (Cm TL (An G_74 (hr.mono (by decide)) rfl T.m_74 Ac (AA (pv 0) (AA (pv 1) AB))) Gx (AR _)))),?_⟩;walk_at "";refine⟨r,g,lo,g7,m,lf,tf,mf,z,rfl,ok,fw,kz,?_⟩;rcases h with h|h|⟨w',ws,mw,h9,rfl,hw,wl,w1,h|⟨h7,hk⟩⟩
 ·exact .inl h
 ·exact .inr (.inl h)
 ·exact .inr (.inr ⟨w',ws,mw,h9,rfl,hw,wl,w1,.inl h⟩)
 refine .inr (.inr ⟨w',ws,mw,h9,rfl,hw,wl,w1,.inr ⟨h7,λhr p H1 e1=>?_,λhr H1 e1=>?_⟩⟩)
 ·exact hk true _ e1.1 ⟨λ_=>hr,λ_=>rfl⟩
 ·exact hk false _ e1 ⟨(λz=>Bool.noConfusion z),λz=>qE z hr⟩
theorem ah:AI ["_law_script","_law_k"] ["_law_script","_law_k"] (AG aP):=By
theorem ai(T:Bw K mg t) :Aj P w K mg base 1 t.f_8 ["_law_script","_law_k"] (Nv K):=by
 refine Aw T.d_8 ah λvs H Q E h=>?_;obtain⟨a,ns,k,rfl,hS,h63,q⟩:=h;refine⟨rfl,λgh A outer s hr=>?_⟩
 refine⟨_,(AC (A6 (AN Dp (pv 1) (Ag (IK K) rfl T.z_len bu (AA (pv 0) AB)) (AR _)) (AE (AM (AO (Fk K) (pv 0) (pv 1) (λ_ _=>rfl)))) Af)
  (AE (AM AF))),?_⟩
 walk_at "";refine⟨_,.inl hS,?_⟩;rw[a9]
 by_cases h:(k:Int)<(ns.length:Int)
 ·rw[qD h];have hk:k<ns.length:=by lia
  refine⟨a,_,k,.int (ns.getD k 0),rfl,rfl,hS,DI ?_,q⟩;rw[bF,bA hk,a8,bA hk];rfl
 ·rw[qC h];have e:ns.getD k 0=0:=by rw[a8,bh (by lia)];rfl
  rw[e]at q;exact q
theorem NZ:AI ["_law_cell","_law_many","_law_found","_law_number","_law_k"] ["_law_cell","_law_many"] (AG W6):=By
theorem ZZ(T:Bw K mg t) :Aj P w K mg base 1 t.f_14 ["_law_cell","_law_many"] (Hh):=by
 refine Aw T.d_14 NZ λvs H Q E h=>?_;obtain⟨c,m,rfl,m0,m3,q⟩:=h;refine⟨rfl,λgh A outer s hr=>?_⟩
 refine⟨_,(AC (AQ 2 NZ (BO AB))
  (AC (AQ 3 NZ (AL BF (AL BS (pv 0) AF) AF))
  (AC (A7 PassesOwn.never rfl (A1 rfl T.z_range (AA (pv 1) AB)) (BI 4 NZ) (AC (AQ 3 NZ (AL BS (AL BF (AL BF (AL Cd (pv 3) AF) (AL Cd (pv 4) (pv 4))) AF) AF))
  (AE (Ay (Nf K (pv 2) (AA (AL B4 (pv 3) AF) AB))))))
  (AE (AM (pv 2)))))),?_⟩
 walk_at "";refine⟨cJ _,λp hp=>⟨by decide,?_⟩⟩;refine⟨_,rfl,m,rfl,by lia,by lia,?_⟩;refine Ba (n:=m.toNat) (λi σ H1=>∃(l:qU) (x3:Int) (x4:Option V),(l.length=i/\∀x∈l,0<=x/\x<2147483647)/\σ=[some (.int c),some (.int m),some (.ref p),some (.int x3),x4]/\H1=Ak H p (.lst (l.map V.int))) ⟨[],_,none,⟨rfl,λx h=>by cases h⟩,rfl,rfl⟩ ?_ ?_
 ·refine FI ?_;rintro _ _ i _ hGo σ H1 hi ⟨l,x3,x4,⟨hl,hb⟩,rfl,rfl⟩;refine hGo _ _ ?_;walk_at "";refine⟨.inr ⟨by decide,by decide⟩,.inl ⟨by lia,by lia⟩,by decide,.inl ⟨_,Ai.of AD⟩,by decide,by decide,_,AD,?_,l++[(x3*48271+(0+(i:Int))*(0+(i:Int))+11)%2147483647/7],?_,λx hx=>?_,?_⟩
  ·rw[a9];exact AU (by lia)
  ·rw[bC,hl];rfl
  ·rcases bJ.mp hx with y|y
   ·exact hb x y
   ·rw[bL.mp y];generalize x3*48271+(0+(i:Int))*(0+(i:Int))+11=u;lia
  ·rw[Dc,bH];rfl
 ·rintro σ H1 ⟨l,x3,x4,⟨hl,hb⟩,rfl,rfl⟩;walk_at "";exact q p _ l hl hb (AH.new hp _) hp AD
theorem Pw:AI ["_law_signs","_law_many","_law_size","_law_k"] ["_law_signs","_law_many"] (AG W7):=By
theorem Za(T:Bw K mg t) :Aj P w K mg base 1 t.f_19 ["_law_signs","_law_many"] (IR):=by
 refine Aw T.d_19 Pw λvs H Q E h=>?_;obtain⟨g,m,rfl,g2,g9,m0,m3,q⟩:=h;refine⟨rfl,λgh A outer s hr=>?_⟩
 refine⟨_,(AC (AQ 2 Pw AF)
  (AC (A7 PassesOwn.never rfl (A1 rfl T.z_range (AA (pv 1) AB)) (BI 3 Pw) (AE (AQ 2 Pw (AL Cd (pv 2) (pv 0)))))
  (AE (AM (pv 2))))),?_⟩
 walk_at "";refine⟨_,rfl,m,rfl,by lia,by lia,?_⟩;refine Ba (n:=m.toNat) (λi σ H1=>∃x,σ=[some (.int g),some (.int m),some (.int (g^i)),x]/\H1=H) ⟨none,by rw[cN],rfl⟩ ?_ ?_
 ·refine FI ?_;rintro _ _ i _ hGo σ H1 hi ⟨x,rfl,rfl⟩;refine hGo _ _ ?_;walk_at "";refine⟨.inr ⟨by lia,by lia⟩,?_⟩;rw[bq];exact⟨rfl,_,rfl⟩
 ·rintro σ H1 ⟨x,rfl,rfl⟩;walk_at "";exact q
theorem Na:AI ["_law_number","_law_signs","_law_many","_law_word_here","_law_k"] ["_law_number","_law_signs","_law_many"] (AG W8):=By
theorem Zc(T:Bw K mg t) :Aj P w K mg base 1 t.f_34 ["_law_number","_law_signs","_law_many"] (Lk):=by
 refine Aw T.d_34 Na λvs H Q E h=>?_;obtain⟨n,g,m,rfl,g2,g9,m0,m3,q⟩:=h;refine⟨rfl,λgh A outer s hr=>?_⟩
 refine⟨_,(AC (AQ 3 Na (BO AB))
  (AC (A7 PassesOwn.never rfl (A1 rfl T.z_range (AA (pv 2) AB)) (BI 4 Na) (AC (AQ 3 Na (AL LW (BO (AA (AL BS (pv 0) (pv 1)) AB)) (pv 3)))
  (AE (AQ 0 Na (AL B4 (pv 0) (pv 1))))))
  (AE (AM (pv 3))))),?_⟩
 walk_at "";refine⟨cJ _,λp hp=>?_⟩;refine⟨_,rfl,m,rfl,by lia,by lia,?_⟩;refine Ba (n:=m.toNat) (λi σ H1=>∃p' x4,σ=[some (.int (dr g n i)),some (.int g),some (.int m),some (.ref p'),x4]/\Dv H H1 p' (Ad g n i)) ⟨p,none,rfl,AH.new hp _,hp,AD⟩ ?_ ?_
 ·refine FI ?_;rintro _ _ i _ hGo σ H1 hi ⟨p',x4,rfl,hN⟩;refine hGo _ _ ?_;walk_at "";refine⟨by lia,by decide,λp2 hp2=>?_⟩;have e2:=AH.new hp2 (.lst [V.int (dr g n i%g)]);refine IN AD (e2 _ _ hN.2.2) ?_ λp3 H3 e3 f3 h3=>?_
  ·rw[a9,Au];simp only[List.length_cons,List.length_nil];lia
  refine⟨by lia,by lia,rfl,p3,rfl,(hN.1.trans e2).trans e3,(hN.1.trans e2).free f3,?_⟩;rw[h3];unfold Ad;rw[C1,List.reverse_append];rfl
 ·rintro σ H1 ⟨p',x4,rfl,hN⟩;walk_at "";exact q p' H1 hN
theorem Nb:AI ["_law_kind","_law_signs","_law_word_here","_law_number","_law_here","_law_there"] ["_law_kind","_law_signs","_law_word_here","_law_number"] (AG W9):=By
theorem Zd(T:Bw K mg t) :Aj P w K mg base 1 t.f_33 ["_law_kind","_law_signs","_law_word_here","_law_number"] (KD):=by
 refine Aw T.d_33 Nb λvs H Q E h=>?_;obtain⟨kind,g,n,a,ws,rfl,g2,ha,wb,w2,k1,k2,q⟩:=h;refine⟨rfl,λgh A outer s hr=>?_⟩
 refine⟨_,(AC (AQ 4 Nb (AO (Fk K) (pv 2) AF (λ_ _=>rfl)))
  (AC (AQ 5 Nb (AO (Fk K) (pv 2) (Kf G1 AF) (λ_ _=>rfl)))
  (AC (A6 (AN Bo (AL BS (pv 3) AF) AF (AR _)) (AC (AQ 4 Nb (AO (Fk K) (pv 2) (Kf G1 AF) (λ_ _=>rfl)))
  (AE (AQ 5 Nb (AO (Fk K) (pv 2) AF (λ_ _=>rfl))))) Af)
  (AC (A6 (AN Bo (pv 0) AF (AR _)) (AE (AM (DM JF rfl T.z_int PyProof.Rows.boot_int (AA (XW (Il (Cm Bo (AO (Fk K) (pv 2) AF (λ_ _=>rfl)) AF (AR _)) (Ik (Cm Bo (pv 5) AF (AR _)))) (Ik (Il (Cm Bo (AO (Fk K) (pv 2) AF (λ_ _=>rfl)) AF (AR _)) (Ik (Cm Bo (pv 4) AF (AR _)))))) AB)))) Af)
  (AC (A6 (AN Bo (pv 0) AF (AR _)) (AE (AM (AL BF (AL Cd (AL B4 (pv 4) AF) AF) (AL BS (pv 5) AF)))) Af)
  (AC (A6 (PW.pt (Ej (AN Bo (pv 0) AF (AR _)) (Ej (AN Dp (pv 4) (AL BJ (pv 1) AF) (AR _)) (D9 (AN Bo (pv 5) (AL BJ (pv 1) AF) (AR _)))))) (AE (AM (AL BS (AL BF (pv 4) AF) (AL BJ (pv 1) AF)))) Af)
  (AE (AM (pv 4))))))))),?_⟩
 have at0:∀j,j<ws.length->0<=ws.getD j 0/\ws.getD j 0<g:=λj hj=>by rw[a8,bA hj];exact wb _ (b7 hj)
 have gl:Kk (ws.map V.int) (-1)=some (.int (ws.getD (ws.length-1) 0)):=Kv (by lia);have g0:Kk (ws.map V.int) ((0:Nat):Int)=some (.int (ws.getD 0 0)):=CY (by lia);have g1:Kk (ws.map V.int) ((1:Nat):Int)=some (.int (ws.getD 1 0)):=CY (by lia);have b0:=at0 0 (by lia);have bl:=at0 (ws.length-1) (by lia);generalize ws.getD (ws.length-1) 0=wl at gl bl;generalize ws.getD 0 0=w0 at g0 b0;generalize ws.getD 1 0=wm at g1;refine Az λN hN=>?_;walk_at "";refine (FK (Ai.of ha) g0 (hN _ _ ?_));clear hN N;refine Az λN hN=>?_;walk_at "";refine (FK (Ai.of ha) gl (hN _ _ ?_));clear hN N;refine CU (λσ HX=>∃h t:Int,σ=[some (.int kind),some (.int g),some (.ref a),some (.int n),some (.int h),some (.int t)]/\HX=H/\0<=h/\h<g/\0<=t/\t<g) (λN hN=>?_) ?_
 ·walk_at "";refine⟨by decide,?_⟩
  by_cases c:n%2=1
  ·rw[qD c];exact (FK (Ai.of ha) gl (FK (Ai.of ha) g0 (hN _ _ ⟨wl,w0,rfl,rfl,bl.1,bl.2,b0.1,b0.2⟩)))
  ·rw[qC c];exact hN _ _ ⟨w0,wl,rfl,rfl,b0.1,b0.2,bl.1,bl.2⟩
 rintro _ hGo σ HX ⟨h',t',rfl,rfl,h0,hg,t0,tg⟩;refine hGo _ _ ?_;refine Az λN hN=>?_;walk_at "";have q0:=q 0 (by decide) (by lia);have q1:=q 1 (by decide) (by lia)
 have qh:Q (.int (if h'=1 then 1 else 0)) HX:=by
  split
  ·exact q1
  ·exact q0
 by_cases c0:kind=0
 ·rw[qD c0];refine (FK (Ai.of ha) g1 ⟨rfl,IF (λ_=>IF (λ_=>⟨1,.inr rfl,q1⟩) λ_=>(FK (Ai.of ha) g1 ⟨rfl,IF (λ_=>⟨_,.inr rfl,qh⟩) λ_=>⟨0,.inr rfl,q0⟩⟩)) λ_=>(FK (Ai.of ha) g1 ⟨rfl,IF (λ_=>⟨_,.inr rfl,qh⟩) λ_=>⟨0,.inr rfl,q0⟩⟩)⟩)
 rw[qC c0];refine hN _ _ ?_;clear hN N;refine Az λN hN=>?_;walk_at ""
 by_cases c1:kind=1
 ·rw[qD c1];have e:=k1 c1;refine⟨by decide,by decide,.inr ⟨by decide,by decide⟩,by decide,q _ (by lia) (by lia)⟩
 rw[qC c1];refine hN _ _ ?_;clear hN N;walk_at "";refine IF (λc2=>IF (λ_=>IF (λ_=>⟨by have:=k2 c2;lia,q _ (dm _ (by have:=k2 c2;lia)) ?_⟩) λ_=>q _ h0 hg) λ_=>q _ h0 hg) λ_=>q _ h0 hg
 have:=k2 c2;have:=dD (h'+1) (show 0<g-1 by lia);lia
theorem LJ:AI ["_law_signs","_law_cell","_law_low","_law_xs","_law_kind","_law_many","_law_words"] ["_law_signs","_law_cell","_law_low"] (AG XB):=By
theorem Ze(T:Bw K mg t)(G_14:Aj P w K mg base 1 t.f_14 ["_law_cell","_law_many"] (Hh))(G_34:Aj P w K mg base 1 t.f_34 ["_law_number","_law_signs","_law_many"] (Lk))(G_19:Aj P w K mg base 1 t.f_19 ["_law_signs","_law_many"] (IR))(G_33:Aj P w K mg base 1 t.f_33 ["_law_kind","_law_signs","_law_word_here","_law_number"] (KD)):Aj P w K mg base 2 t.f_32 ["_law_signs","_law_cell","_law_low"] (KE):=by
 refine Aw T.d_32 LJ λvs H Q E h=>?_;obtain⟨g,c,lo,rfl,g2,g6,q⟩:=h;refine⟨rfl,λgh A outer s hr=>?_⟩
 refine⟨_,(AC (AQ 3 LJ (AK hr G_14 T.m_14 (AA (pv 1) (AA (AL BF (AL Cd (pv 0) (pv 0)) AF) AB))))
  (AC (AQ 4 LJ (AL BS (AO (Fk K) (pv 3) AF (λ_ _=>rfl)) AF))
  (AC (A6 (PW.pt (Dd (PW.pt (Ej (AN Bo (pv 4) AF (AR _)) (D9 (AN Dq (pv 0) AF (AR _))))) (Dd (PW.pt (Ej (AN Bo (pv 4) AF (AR _)) (D9 (AN Bo (AL BS (pv 0) AF) AF (AR _))))) (Di (PW.pt (Ej (AN Bo (pv 4) AF (AR _)) (D9 (AN Bo (pv 0) AF (AR _))))))))) (AE (AQ 4 LJ AF)) Af)
  (AC (AQ 5 LJ (AL BF AF (DM JF rfl T.z_int PyProof.Rows.boot_int (AA (Cm Bo (pv 4) AF (AR _)) AB))))
  (AC (A6 (AN Bo (pv 4) AF (AR _)) (AE (AM (DQ (AA (pv 0) (AA (pv 2) (AA (DM Dk rfl T.z_tuple fM (AA (DH [(0,"_law_signs")] [("_law_signs",_)] (Ka K (Ir LQ (pv 3) (IM AF) Ow)) (λ_ _ _ _=>CO) (λ_ _ _ _=>(AL BS (pv 0) (pv 1)))) AB)) AB)))))) Af)
  (AC (GN (iy:=6) (fv:=[(0,"_law_signs"),(5,"_law_many")]) (cl:=[("_law_signs",_),("_law_many",_)]) rfl LJ.nd rfl (Or.inl rfl) (A1 rfl T.z_range (AA (AK hr G_19 T.m_19 (AA (pv 0) (AA (pv 5) AB))) AB)) (by with_unfolding_all rfl) (by with_unfolding_all rfl) (by decide +kernel) rfl (by decide +kernel) rfl ⟨(by with_unfolding_all rfl),⟨(by with_unfolding_all rfl),trivial⟩⟩ (by with_unfolding_all rfl) ⟨⟨rfl,rfl,(by with_unfolding_all rfl),rfl⟩,⟨⟨rfl,rfl,(by with_unfolding_all rfl),rfl⟩,trivial⟩⟩ (by decide) (λ_ _ _ _=>CO) (λ_ _ _ _=>(AK hr G_34 T.m_34 (AA (pv 0) (AA (pv 1) (AA (pv 2) AB))))))
  (AE (AM (DQ (AA (pv 0) (AA (pv 2) (AA (DM Dk rfl T.z_tuple fM (AA (DH [(3,"_law_xs"),(0,"_law_signs"),(4,"_law_kind")] [("_law_xs",_),("_law_signs",_),("_law_kind",_)] (Ka K (pv 6)) (λ_ _ _ _=>CO) (λ_ _ _ _=>(AK hr G_33 T.m_33 (AA (pv 3) (AA (pv 2) (AA (pv 0) (AA (AO (Du (K:=K) rfl) (pv 1) AF (λ_ _=>rfl)) AB))))))) AB)) AB)))))))))))),?_⟩
 refine Az λN hN=>?_;walk_at "";have gg:4<=g*g/\g*g<=36:=⟨c8 g2 g2 (by decide) (by lia),c8 g6 g6 (by lia) (by decide)⟩;refine⟨.inl ⟨by lia,by lia⟩,c,_,rfl,by lia,by lia,λpx H1 l ll lb e1 _ h1=>hN _ _ ?_⟩;clear hN N;refine Az λN hN=>?_;walk_at "";have lg:∀j:Nat,(j:Int)<g*g+2->Kk (l.map V.int) (j:Int)=some (.int (l.getD j 0)):=λj hj=>CY (by lia)
 have l0:Kk (l.map V.int) ((0:Nat):Int)=some (.int (l.getD 0 0)):=lg 0 (by lia);have l1:Kk (l.map V.int) ((1:Nat):Int)=some (.int (l.getD 1 0)):=lg 1 (by lia);refine (FK (Ai.of h1) l0 ⟨_,rfl,by decide,hN _ _ ?_⟩);clear hN N;have z0:=dm (l.getD 0 0) (show (5:Int)≠0 by decide);have z1:=dD (l.getD 0 0) (show (0:Int)<5 by decide);generalize l.getD 0 0%5=kind0 at z0 z1⊢;clear l0;refine CU (λσ HX=>∃kind:Int,σ=[some (.int g),some (.int c),some (.int lo),some (.ref px),some (.int kind),none,none]/\HX=H1/\0<=kind/\kind<=4/\(kind=0->g=2)/\(kind=1->g%2=0)/\(kind=2->3<=g)) (λN hN=>?_) ?_
 ·walk_at "";have n4:N [some (V.int g),some (V.int c),some (V.int lo),some (V.ref px),some (V.int 4),none,none] H1:=hN _ _ ⟨4,rfl,rfl,by decide,by decide,λz=>by lia,λz=>by lia,λz=>by lia⟩;have nk:¬(kind0=0/\2<g)->¬(kind0=1/\g%2=1)->¬(kind0=2/\g=2)->N [some (V.int g),some (V.int c),some (V.int lo),some (V.ref px),some (V.int kind0),none,none] H1:=λa b d=>hN _ _ ⟨kind0,rfl,rfl,z0,by lia,λz=>by lia,λz=>by lia,λz=>by lia⟩
  by_cases a0:kind0=0
  ·rw[qD a0];refine IF (λ_=>n4) λx=>?_;rw[qC (by lia),qC (by lia)];exact nk (by lia) (by lia) (by lia)
  rw[qC a0]
  by_cases a1:kind0=1
  ·rw[qD a1];refine⟨by decide,IF (λ_=>n4) λx=>?_⟩;rw[qC (by lia)];exact nk (by lia) (by lia) (by lia)
  rw[qC a1];refine IF (λa2=>IF (λ_=>n4) λx=>nk (by lia) (by lia) (by lia)) λa2=>nk (by lia) (by lia) (by lia)
 rintro _ hGo σ HX ⟨kind,rfl,rfl,k0,k4,c0,c1,c2⟩;refine hGo _ _ ?_;refine Az λN hN=>?_;walk_at "";refine⟨_,.inr rfl,hN _ _ ?_⟩;clear hN N
 obtain⟨m,hm,em⟩:∃m:Nat,(m=2\/(m=3/\g=2))/\2+(if kind=0 then (1:Int) else 0)=(m:Int)/\True:=by
  by_cases a0:kind=0
  ·exact⟨3,.inr ⟨rfl,c0 a0⟩,by rw[qD a0];rfl,True.intro⟩
  ·exact⟨2,.inl rfl,by rw[qC a0];rfl,True.intro⟩
 have gsq:g^2=g*g:=by rw[show (2:Nat)=0+1+1 from rfl,bq,bq,cN,cj]
 have sz:g^m<=36:=by
  rcases hm with rfl|⟨rfl,rfl⟩
  ·rw[gsq];exact gg.2
  ·decide
 have gp:=RW.Aa g2 m
 have fin:∀(H2:Hp) (p2:qP) (g7:qU) (mm:Nat),AH HX H2->H2 p2=some (.lst (g7.map V.int))->(g7.length:Int)=g^mm->(mm=2\/(mm=3/\g=2))->(∀n∈g7,0<=n/\n<g)->∀l8,H2 l8=none->∀p9,Ak H2 l8 (.tup (g7.map V.int)) p9=none->Q (.ref p9) (Ak (Ak H2 l8 (.tup (g7.map V.int))) p9 (.tup [.int g,.int lo,.ref l8])):=by
  intro H2 p2 g7 mm e2 hp2 tl hmm tb l8 hl8 p9 hp9;have e8:=AH.new hl8 (.tup (g7.map V.int));have e9:=AH.new hp9 (.tup [.int g,.int lo,.ref l8])
  have s36:g^mm<=36:=by
   rcases hmm with rfl|⟨rfl,rfl⟩
   ·rw[gsq];exact gg.2
   ·decide
  exact q p9 _ g7 mm (((e1.trans e2).trans e8).trans e9) ⟨⟨l8,AD,e9 _ _ AD⟩,g2,by lia,by lia,by lia,tl,by lia,tb⟩ hmm
 refine CU (λσ HY=>σ=[some (.int g),some (.int c),some (.int lo),some (.ref px),some (.int kind),some (.int (m:Nat)),none]/\HY=HX/\kind<=3) (λN hN=>?_) ?_
 ·rw[em.1];refine⟨_,rfl,rfl,_,rfl,?_⟩;dsimp only
  by_cases c4:kind=4
  ·rw[qD (by rw[c4];rfl)];refine⟨_,rfl,_,rfl,_,rfl,2,rfl,?_⟩;dsimp only[LN];refine N1 (Ai.of h1) λp1 H3 e3 _ h3=>⟨p1,rfl,⟨_,Ai.of h3⟩,λD hD=>?_⟩
   rw[MU]at h3;obtain⟨cs,hcs⟩:∃cs:qU,cs=MT l (some 2) none:=⟨_,rfl⟩;rw[<-hcs]at h3
   have cl:(cs.length:Int)=g^2:=by rw[hcs,gsq];exact aQ ll (by lia)
   refine Cg (xs:=cs.map V.int) (λi ge Hx=>ge=((cs.take i).map (·%g)).map V.int/\AH H3 Hx/\Hx D=some (.lst ge)) ⟨rfl,AH.new hD _,AD⟩ (λi ge Hx _ z=>Ai.of (z.2.1 _ _ h3)) ?_ ?_
   ·refine FJ ?_;rintro i x _ hGo ge Hx hx ⟨rfl,ex,hDx⟩;refine hGo _ _ ?_;obtain⟨v,hv,rfl⟩:=B8 hx;have hi:=(bB.mp hv).1;walk_at "";refine⟨by lia,hDx,?_,?_,ex.into hD,AD⟩
    ·rw[a9,a9,b9];exact AU (by lia)
    ·rw[cf,hv];simp
   rintro ge H4 ⟨rfl,e4,h4⟩;rw[a9,br]at h4;exact⟨D,_,rfl,.inl ⟨Ai.of h4,λl8 hl8=>⟨(by show 3<=sizeLine;decide),λp9 hp9=>fin H4 D (cs.map (·%g)) 2 (e3.trans e4) h4 (by rw[a9];exact cl) (.inl rfl) (O5 g2 cs) l8 hl8 p9 hp9⟩⟩⟩
  ·rw[qC (λz=>c4 (by have:=qL z;injection this))];exact hN _ _ ⟨rfl,rfl,by lia⟩
 rintro _ hGo σ HY ⟨rfl,hHY,k3⟩;refine hGo _ _ ?_;rw[hHY];clear hHY HY;refine CU (λσ HY=>∃D ps,σ=[some (.int g),some (.int c),some (.int lo),some (.ref px),some (.int kind),some (.int (m:Nat)),some (.ref D)]/\AH HX HY/\Gv HY D ps ((List.range (g^m).toNat).map λk:Nat=>Ad g (k:Int) m)) (λN hN=>?_) ?_
 ·refine⟨_,rfl,_,rfl,g,_,rfl,g2,by lia,by lia,by lia,?_⟩;rw[bI];refine⟨_,rfl,by lia,by lia,λD hD=>?_⟩;refine Bj (n:=(g^m).toNat) (λi ge Hx=>∃ps,ge=ps.map V.ref/\AH HX Hx/\Gv Hx D ps ((List.range i).map λk:Nat=>Ad g (k:Int) m)) ⟨[],rfl,AH.new hD _,⟨AD,rfl,λi q w z=>by simp at z⟩⟩ ?_ ?_
  ·refine Dn ?_;rintro i _ hGo ge Hx hi ⟨ps,rfl,ex,lv⟩;refine hGo _ _ ?_;walk_at "";have ln:=lv.n;rw[a9,bO]at ln;refine⟨_,g,_,rfl,g2,by lia,by lia,by lia,λp4 H4 n4=>⟨n4.1 _ _ lv.l,by rw[a9];exact AU (by lia),ps++[p4],by rw[bH];rfl,(ex.trans n4.1).into hD,?_⟩⟩;rw[Ax];have hq:=n4.2.2;rw[bg,bI]at hq;exact (lv.same n4.1).snoc (λu hu=>by obtain⟨k,_,rfl⟩:=bR.mp hu;rw[Au];lia) (by rw[Au];lia) hq
  ·rintro ge H4 ⟨ps,rfl,e4,lv⟩;exact hN _ _ ⟨D,ps,rfl,e4,lv⟩
 rintro _ hGo σ HY ⟨D,ps,rfl,eY,lv⟩;refine hGo _ _ ?_;have ln:=lv.n;rw[a9,bO]at ln;refine⟨_,rfl,_,rfl,_,rfl,D,rfl,⟨_,Ai.of lv.l⟩,λD2 hD2=>?_⟩;refine Cg (xs:=ps.map V.ref) (λi ge Hx=>∃g7:qU,ge=g7.map V.int/\g7.length=i/\(∀n∈g7,0<=n/\n<g)/\AH HY Hx/\Hx D2=some (.lst ge)) ⟨[],rfl,rfl,λn hn=>qE hn cM,AH.new hD2 _,AD⟩ (λi ge Hx _ z=>by obtain⟨_,_,_,_,e,_⟩:=z;exact Ai.of (e _ _ lv.l)) ?_ ?_
 ·refine FJ ?_;rintro i x _ hGo ge Hx hx ⟨g7,rfl,tl,tb,ex,hDx⟩;refine hGo _ _ ?_;obtain⟨qa,rfl,h3,h4,h5,h6⟩:=lv.at hx;have il:i<(g^m).toNat:=by rw[a9,bO]at h4;exact h4
  have ew:((List.range (g^m).toNat).map λk:Nat=>Ad g (k:Int) m).getD i []=Ad g (i:Int) m:=by rw[a8,bF,cV il];rfl
  rw[ew]at h6;walk_at "";refine (FK (Ai.of (ex _ _ (eY _ _ h1))) l1 ?_);refine⟨kind,g,_,qa,_,rfl,g2,ex _ _ h6,BQ g2 _ _,by rw[Au];lia,c1,c2,λv v0 vg=>⟨hDx,by rw[a9];exact AU (by lia),g7++[v],by rw[bH];rfl,by rw[bC,bc,tl],λn hn=>?_,ex.into hD2,AD⟩⟩;rcases bJ.mp hn with z|z
  ·exact tb n z
  ·rw[bL.mp z];exact⟨v0,vg⟩
 rintro ge H4 ⟨g7,rfl,tl,tb,e4,h4⟩;exact⟨D2,_,rfl,.inl ⟨Ai.of h4,λl8 hl8=>⟨(by show 3<=sizeLine;decide),λp9 hp9=>fin H4 D2 g7 m (eY.trans e4) h4 (by rw[tl,a9,ln];lia) hm tb l8 hl8 p9 hp9⟩⟩⟩
theorem Zf:AI ["_law_one"] ["_law_one"] (AG XC):=By
theorem Zg(T:Bw K mg t) :Aj P w K mg base 1 t.f_13 ["_law_one"] (F6):=by
 refine Aw T.d_13 Zf λvs H Q E h=>?_;obtain⟨r,g,lo,g7,m,rfl,ok,hm,q⟩:=h;refine⟨rfl,λgh A outer s hr=>?_⟩
 refine⟨_,(AC (A6 (AN Bo (Ag (IK K) rfl T.z_len bu (AA (AO (B6 K) (pv 0) AF (λ_ _=>rfl)) AB)) (AL Cd (AO (B6 K) (pv 0) AF (λ_ _=>rfl)) (AO (B6 K) (pv 0) AF (λ_ _=>rfl))) (AR _)) (AE (AM AF)) Af)
  (AE (AM AF))),?_⟩
 refine At.el ok.v λtb h1 h2=>?_;have g2:=ok.g2;have g9:=ok.g9;have hl:=ok.len;have gsq:g^2=g*g:=by rw[show (2:Nat)=0+1+1 from rfl,bq,bq,cN,cj]
 walk_at "";refine (Ck (Am.of h1) rfl ⟨tb,rfl,_,.inr (Am.of h2),Ck (Am.of h1) rfl (Ck (Am.of h1) rfl ⟨_,rfl,_,rfl,.inl ⟨by lia,by lia⟩,?_⟩)⟩);rw[a9,hl];rcases hm with rfl|⟨rfl,rfl⟩
 ·rw[qD gsq];exact q
 ·rw[qC (by decide)];exact q
theorem Zh:AI ["_law_weights","_law_ring"] ["_law_weights","_law_ring"] (AG XD):=By
theorem Zi(T:Bw K mg t) :Aj P w K mg base 1 t.f_20 ["_law_weights","_law_ring"] (Hi):=by
 refine Aw T.d_20 Zh λvs H Q E h=>?_;obtain⟨w',a,ws,ring,rfl,hw,ha,rb,n9,q⟩:=h;refine⟨rfl,λgh A outer s hr=>?_⟩;refine⟨_,(AE (AM (Ag (Ey rfl) rfl T.z_sum fX (AA (DH [(0,"_law_weights")] [("_law_weights",_)] (Ka K (pv 1)) (λ_ _ _ _=>CO) (λ_ _ _ _=>(AO (Du (K:=K) rfl) (pv 1) (pv 0) (λ_ _=>rfl)))) AB)))),?_⟩;walk_at "";refine⟨_,rfl,a,rfl,⟨_,Ai.of ha⟩,λD hD=>?_⟩;refine Cg (xs:=ring.map V.int) (λi ge Hx=>ge=((ring.take i).map λs=>ws.getD s.toNat 0).map V.int/\AH H Hx/\Hx D=some (.lst ge)) ⟨rfl,AH.new hD _,AD⟩ (λi ge Hx _ z=>Ai.of (z.2.1 _ _ ha)) ?_ ?_
 ·refine FJ ?_;rintro i x _ hGo ge Hx hx ⟨rfl,ex,hDx⟩;refine hGo _ _ ?_;obtain⟨v,hv,rfl⟩:=B8 hx;have vb:=rb v (bE hv);have hi:=(bB.mp hv).1;walk_at "";refine (FK (Ai.of (ex _ _ hw)) (Dl vb.1 (by lia)) ⟨hDx,?_,?_,ex.into hD,AD⟩)
  ·rw[a9,a9,b9];exact AU (by lia)
  ·rw[cf,hv,bH,bH];rfl
 rintro ge H4 ⟨rfl,e4,h4⟩;rw[a9,br]at h4;exact⟨D,rfl,_,Ai.of h4,q _ e4⟩
theorem S4:AI ["_law_first","_law_second","_law_weights","_law_small","_law_found"] ["_law_first","_law_second","_law_weights"] (AG XE):=By
theorem Zj(T:Bw K mg t)(G_19:Aj P w K mg base 1 t.f_19 ["_law_signs","_law_many"] (IR))(G_80:Aj P w K mg base 11 t.f_80 ["one","weights"] (Jh t.c_54 t.c_30))(G_67:Aj P w K mg base 8 t.f_67 ["first","second"] (Jc t.c_62 t.c_54))(G_13:Aj P w K mg base 1 t.f_13 ["_law_one"] (F6)):Aj P w K mg base 12 t.f_12 ["_law_first","_law_second","_law_weights"] (F8):=by
 refine Aw T.d_12 S4 λvs H Q E h=>?_;obtain⟨r,r',w',g,lo,lo',g7,tab',m,m',ws,rfl,ok,ok',hm,hm',g6,hw,wl,k,k',q⟩:=h;refine⟨rfl,λgh A outer s hr=>?_⟩
 refine⟨_,(AC (AQ 3 S4 (Cm Q9 (AK hr G_19 T.m_19 (AA (AO (B6 K) (pv 0) AF (λ_ _=>rfl)) (AA (AL BJ (AL BF (AK hr G_13 T.m_13 (AA (pv 0) AB)) (AK hr G_13 T.m_13 (AA (pv 1) AB))) AF) AB))) AF (AR _)))
  (AC (Pk (W:=(λσ cls _ H'=>σ=[some (.ref r),some (.ref r'),some (.ref w'),some (.bl false),none]/\cls=.ref t.c_54/\AH H H')) rfl rfl (λ_=>(AE (AQ 4 S4 (An G_80 (hr.mono (by decide)) rfl T.m_80 EC (AA (An G_67 (hr.mono (by decide)) rfl T.m_67 EC (AA (pv 0) (AA (pv 1) AB))) (AA (pv 2) AB)))))) (MA rfl T.m_54 (λ_=>(AE (AM (Q0 (pv 3))))) Su))
  (AE (AM (Cm V6 (pv 4) Ee (AR _)))))),?_⟩
 refine Az λN hN=>?_;walk_at "";refine At.el ok.v λtb h1 h2=>?_;have g2:=ok.g2;refine (Ck (Am.of h1) rfl ⟨r,g,lo,g7,m,rfl,ok,hm,r',g,lo',tab',m',rfl,ok',hm',_,rfl,_,rfl,?_⟩);refine⟨g,_,rfl,g2,by lia,by lia,by lia,_,rfl,hN _ _ ?_⟩;clear hN N;rw[show ((m:Nat):Int)+((m':Nat):Int)-2=((m+m'-2:Nat):Int) by lia,bI];obtain⟨low,M,nar⟩:=Jb g lo g7 m;obtain⟨low',M',nar'⟩:=Jb g lo' tab' m';have Mm:=nar.small ok.m1;have Mm':=nar'.small ok'.m1;have M1:=nar.one;have M1':=nar'.one;have pS:∀k:Nat,k<=m+m'-1->2<=k->g^(m+m'-2)<=9->g^(k-1)<=9:=λk hk k2 z=>Int.le_trans (Bf g2 (show k-1<=m+m'-2 by lia)) z
 have g1:g^1=g:=by rw[bq,cN,cj]
 have big:∀k:Nat,k<=m+m'-1->g^(m+m'-2)<=9->g^k<=54:=λk hk z=>by
  have a:=Bf g2 hk;have gp:=RW.Aa g2 (m+m'-2);have b:g^(m+m'-1)=g^(m+m'-2)*g:=by rw[<-bq];congr 1;lia
  have c:=c8 z g6 (by lia) (by decide);lia
 refine Xo (λσ HX=>σ=[some (.ref r),some (.ref r'),some (.ref w'),some (.bl (decide (g^(m+m'-2)<=9))),some (.bl true)]/\AH H HX) (λN hN=>⟨?_,?_⟩) ?_
 ·refine⟨_,rfl,_,rfl,r,r',g,lo,g7,m,g,lo',tab',m',rfl,ok,ok',.inr ⟨rfl,low,M,low',M',nar,nar',?_⟩⟩
  by_cases c:256<g^(M+M'-1)
  ·refine .inl ⟨c,λH1 e1=>⟨?_,rfl,e1⟩⟩;rw[qG λz=>by have:=big (M+M'-1) (by lia) z;lia]
  ·refine .inr ⟨by lia,λlj Mj nj rj H1 e1 okj=>⟨_,rfl,?_⟩⟩;have Ms:=nj.small (show 1<=M+M'-1 by lia);have Jl:=Kz g2 (EK g lo g7 m low M) M (EK g lo' tab' m' low' M') (M+M'-1);refine D7 g2 lj (g7:=EK g (low+low') (Dg g (EK g lo g7 m low M) M (EK g lo' tab' m' low' M') (M+M'-1)) (M+M'-1) lj Mj) (m:=Mj) λlf tf mf fw=>?_;have fle:=fw.le g2 okj.len okj.len λ_ _=>rfl
   have f2:=fw.two;refine⟨rj,g,lj,_,Mj,lf,tf,mf,.ref w',rfl,okj,fw,⟨_,.inl (e1 _ _ hw),Co⟩,?_⟩
   by_cases c9:9<g^(mf-1)
   ·refine .inl ⟨c9,λH2 e2=>⟨?_,rfl,e1.trans e2⟩⟩;rw[qG λz=>by have:=pS (max 2 Mj) (by lia) (by lia) z;have:=Bf g2 (show mf-1<=max 2 Mj-1 by lia);lia]
   ·refine .inr (.inr ⟨w',ws,1,by lia,rfl,e1 _ _ hw,by rw[g1];lia,bD 1,.inr ⟨?_,λb H2 e2 hb=>?_⟩⟩)
    ·have gp:=RW.Aa g2 (mf-1);have:=c8 (show g^(mf-1)<=9 by lia) (show (ws.length:Int)<=6 by lia) (by lia) (by decide);lia
    ·have kj:Kp g lj (EK g (low+low') (Dg g (EK g lo g7 m low M) M (EK g lo' tab' m' low' M') (M+M'-1)) (M+M'-1) lj Mj) Mj ws 1:=λring rb n1=>by
      rw[Cs g2 (E7 g2 Jl nj) rb,DV g2 low low' _ _ M1 M1' rb n1,Cs g2 (E7 g2 ok.len nar) rb,Cs g2 (E7 g2 ok'.len nar') (Bx g2 lo ok.tb m ring)];rw[k' _ (Bx g2 lo ok.tb m ring) (by rw[A3];exact n1)];exact k ring rb n1
     have bt:b=true:=hb.mpr ((Ju g2 okj.len fw (by rw[g1];lia) (bD 1)).mpr kj);rw[bt];exact hN _ _ ⟨rfl,e1.trans e2⟩
 ·rintro σ cls D' H1 ⟨rfl,rfl,e1⟩;exact .inl ⟨T.em_54_54,_,rfl,_,rfl,q _ e1⟩
 rintro σ HX ⟨rfl,eX⟩;exact⟨_,rfl,true,true,rfl,rfl,q _ eX⟩
theorem VF:AI ["_law_one","_law_some","_law_found"] ["_law_one","_law_some"] (AG XF):=By
theorem Zk(T:Bw K mg t)(G_45:Aj P w K mg base 10 t.f_45 ["one"] (UE t.c_54))(G_53:Aj P w K mg base 10 t.f_53 ["one"] (Hg t.c_29 t.c_54)):Aj P w K mg base 11 t.f_31 ["_law_one","_law_some"] (KG):=by
 refine Aw T.d_31 VF λvs H Q E h=>?_;obtain⟨r,p,g,lo,g7,m,lf,tf,mf,rs,rings,Rs,fs,rfl,ok,fw,sm,lv,B,q⟩:=h;refine⟨rfl,λgh A outer s hr=>?_⟩
 refine⟨_,(AC (Pk (W:=(λ_ cls _ H'=>(cls=.ref t.c_29\/cls=.ref t.c_54)/\AH H H')) rfl rfl (λ_=>(AE (AQ 2 VF (An G_45 (hr.mono (by decide)) rfl T.m_45 EC (AA (An G_53 (hr.mono (by decide)) rfl T.m_53 EC (AA (pv 0) AB)) AB))))) (MA rfl T.m_29 (λ_=>(AE (AM Ee))) (MA rfl T.m_54 (λ_=>(AE (AM Ee))) Su)))
  (AE (AM (Cm (Ra hr.units) (pv 2) (pv 1) (AR _))))),?_⟩
 have g2:=ok.g2;refine Xo (λσ HX=>∃p2 rs2,σ=[some (.ref r),some (.ref p),some (.ref p2)]/\AH H HX/\Gv HX p2 rs2 (B5 g.toNat Rs fs g.toNat)) (λN hN=>⟨?_,?_⟩) ?_
 ·refine⟨_,rfl,r,g,lo,g7,m,lf,tf,mf,rfl,ok,fw,sm,λH1 e1 _=>⟨.inl rfl,e1⟩,λH1 e1=>⟨.inr rfl,e1⟩,λr1 H1 lo1 tab1 m1 e1 ok1 bk=>?_⟩;refine D7 g2 lo1 (g7:=tab1) (m:=m1) λlf1 tf1 mf1 fw1=>?_;refine⟨r1,g,lo1,tab1,m1,lf1,tf1,mf1,rfl,ok1,fw1,λsm1 p2 rs2 rings2 Rs2 fs2 H2 e2 lv2 B2=>hN _ _ ⟨p2,rs2,rfl,e1.trans e2,?_⟩,λ_ H2 e2=>⟨.inr rfl,e1.trans e2⟩⟩
  have mf8:mf<=8:=by
   have:=fw.le g2 ok.len ok.len λ_ _=>rfl
   have:=ok.m8;lia
  have mf8':mf1<=8:=by
   have:=fw1.le g2 ok1.len ok1.len λ_ _=>rfl
   have:=ok1.m8;lia
  rw[F5 g2 ok.len ok1.len ok.tb ok1.tb fw fw1 mf8 mf8' B B2 λw _=>UU g2 ok.tb ok1.tb bk w];exact lv2
 ·rintro σ cls D' H1 ⟨z|z,e1⟩
  ·rw[z];exact .inl ⟨T.em_29_29,q _ e1⟩
  ·rw[z];exact .inr ⟨T.en_54_29,.inl ⟨T.em_54_54,q _ e1⟩⟩
 rintro σ HX ⟨p2,rs2,rfl,eX,lv2⟩;refine⟨_,rfl,_,rfl,_,_,lv2.dat,(lv.same eX).dat,DD _,DD _,Ec _,?_⟩;rw[KA];exact q _ eX
theorem Fn:AI ["_law_script","_law_signs","_law_first","_law_second","_law_by","_law_ring","_law_some","_law_there","_law_weights"] ["_law_script"] (AG UT):=By
theorem Zl{f:qP}{fd:FuncData}(T:Bw K mg t)(F:BX K "law" "law" UT f fd)(G_32:Aj P w K mg base 2 t.f_32 ["_law_signs","_law_cell","_law_low"] (KE))(G_45:Aj P w K mg base 10 t.f_45 ["one"] (UE t.c_54))(G_51:Aj P w K mg base 6 t.f_51 ["one","ring"] (FP K t.c_72))(G_8:Aj P w K mg base 1 t.f_8 ["_law_script","_law_k"] (Nv K))(G_80:Aj P w K mg base 11 t.f_80 ["one","weights"] (Jh t.c_54 t.c_30))(G_31:Aj P w K mg base 11 t.f_31 ["_law_one","_law_some"] (KG))(G_20:Aj P w K mg base 1 t.f_20 ["_law_weights","_law_ring"] (Hi))(G_71:Aj P w K mg base 6 t.f_71 ["one"] (JY))(G_77:Aj P w K mg base 5 t.f_77 ["one","by"] (Lm))(G_12:Aj P w K mg base 12 t.f_12 ["_law_first","_law_second","_law_weights"] (F8)):Fp P w K mg base (KJ P w) 13 f fd ["_law_script"] (MY K):=by
 refine F.okY Fn λvs H Q E h=>?_;obtain⟨a,ns,rfl,hS,h63,q⟩:=h;refine⟨rfl,λgh A outer s hr=>?_⟩
 refine⟨_,(HL.out (CB (EM (i:=1) Fn.nd rfl (Or.inr rfl) (Vp (Fk K) (PN (CG (CG (CG (CG (CG (CG (CG (CG PM))))))))) (.of (AL BS (AK hr G_8 T.m_8 (AA (pv 0) (BP AB))) AF)) (λ_ _=>rfl)) rfl (by first|exact .inl rfl|exact .inr rfl))
  (CB (EM (i:=2) Fn.nd rfl (Or.inl rfl) (.of (AK hr G_32 T.m_32 (AA (pv 1) (AA (AK hr G_8 T.m_8 (AA (pv 0) (BP AB))) (AA (AL BJ (AL BS (AL B4 (AK hr G_8 T.m_8 (AA (pv 0) (BP AB))) AF) AF) AF) AB))))) rfl (by first|exact .inl rfl|exact .inr rfl))
  (CB (EM (i:=3) Fn.nd rfl (Or.inl rfl) (.of (AK hr G_32 T.m_32 (AA (pv 1) (AA (AK hr G_8 T.m_8 (AA (pv 0) (BP AB))) (AA (AL BJ (AL BS (AK hr G_8 T.m_8 (AA (pv 0) (BP AB))) AF) AF) AB))))) rfl (by first|exact .inl rfl|exact .inr rfl))
  (CB (EM (i:=4) Fn.nd rfl (Or.inl rfl) (.of (AL BF (AL BJ (AL BS (AL Cd (AK hr G_8 T.m_8 (AA (pv 0) (BP AB))) AF) (AL BJ (AL Cd AF (AL Q7 AF AF)) AF)) (AL Q7 AF AF)) AF)) rfl (by first|exact .inl rfl|exact .inr rfl))
  (CB (.of (Nt (iy:=5) (ig:=1) rfl Fn.nd rfl rfl rfl rfl (Ir LQ (pv 0) (IM AF) (IM AF)) (by with_unfolding_all rfl) (by with_unfolding_all rfl) (by with_unfolding_all rfl) (by decide +kernel) rfl (by decide +kernel) rfl (by with_unfolding_all rfl)))
  (CB (OK (AN (Vf hr.units) (pv 5) (BO AB) (AR _)) (IW (EM (i:=5) Fn.nd rfl (Or.inl rfl) (PN (CG PM)) rfl (by first|exact .inl rfl|exact .inr rfl))) Ln)
  (CB (EM (i:=6) Fn.nd rfl (Or.inl rfl) (.of (AK hr G_45 T.m_45 (AA (pv 2) AB))) rfl (by first|exact .inl rfl|exact .inr rfl))
  (CB (OK (PW.pt (Dd (AN (Ra hr.units) (pv 6) (BO AB) (AR _)) (Dd (AN (N0 hr.units) (AK hr G_45 T.m_45 (AA (AK hr G_71 T.m_71 (AA (pv 2) AB)) AB)) (pv 6) (AR _)) (Di (AN (N0 hr.units) (AK hr G_45 T.m_45 (AA (AK hr G_77 T.m_77 (AA (pv 2) (AA (pv 4) AB))) AB)) (pv 6) (AR _)))))) (IW (.of (AM Ee))) Ln)
  (CB (OK (PW.pt (Dd (EA (Cv (AK hr G_31 T.m_31 (AA (pv 2) (AA (pv 6) AB))))) (Dd (AN LH (AK hr G_80 T.m_80 (AA (pv 3) (AA (AL Iw (BO (BP AB)) (pv 1)) AB))) Ee (AR _)) (Di (AN LH (AK hr G_80 T.m_80 (AA (pv 2) (AA (AL Iw (BO (BP AB)) (pv 1)) AB))) Ee (AR _)))))) (IW (.of (AM Ee))) Ln)
  (CB (EM (i:=7) Fn.nd rfl (Or.inl rfl) (.of (AK hr G_51 T.m_51 (AA (pv 3) (AA (AK hr G_51 T.m_51 (AA (pv 2) (AA (pv 5) AB))) AB)))) rfl (by first|exact .inl rfl|exact .inr rfl))
  (CB (.of (A7 PassesOwn.never rfl (Ka K (pv 6)) (BI 8 Fn) (AC (A6 (AN GC (AK hr G_20 T.m_20 (AA (pv 8) (AA (pv 5) AB))) (AK hr G_20 T.m_20 (AA (pv 8) (AA (AK hr G_51 T.m_51 (AA (pv 2) (AA (pv 5) AB))) AB))) (AR _)) (AE (AM Ee)) Af)
  (AE (A6 (Cv (AK hr G_80 T.m_80 (AA (pv 3) (AA (pv 8) AB)))) (AE (A6 (PW.pt (Dd (AN GC (AK hr G_20 T.m_20 (AA (pv 8) (AA (pv 5) AB))) (AK hr G_20 T.m_20 (AA (pv 8) (AA (pv 7) AB))) (AR _)) (Di (EA (Cv (AK hr G_12 T.m_12 (AA (pv 2) (AA (pv 3) (AA (pv 8) AB))))))))) (AE (AM Ee)) Af)) Af)))))
  (IW (.of (AM Ee))))))))))))))),?_⟩
 refine Az λN hN=>?_;walk_at "";refine⟨by decide,λp hp=>?_⟩;have e0:=AH.new hp (.lst [V.int 2,V.int 3,V.int 2,V.int 4,V.int 2,V.int 3,V.int 5,V.int 6]);refine⟨a,ns,0,rfl,e0.seq hS,h63,_,rfl,by decide,?_⟩;have z0:=dm (ns.getD 0 0) (show (8:Int)≠0 by decide);have z1:=dD (ns.getD 0 0) (show (0:Int)<8 by decide);obtain⟨k,hk⟩:∃k:Int,k=ns.getD 0 0%8:=⟨_,rfl⟩;rw[<-hk]at z0 z1⊢;refine (FK (Ai.of AD) (Dl (ns:=[2,3,2,4,2,3,5,6]) z0 (by show k.toNat<8;lia)) (hN _ _ ?_));clear hN N;have gg:∀j<8,2<=([2,3,2,4,2,3,5,6]:qU).getD j 0/\([2,3,2,4,2,3,5,6]:qU).getD j 0<=6:=by decide
 have g26:=gg k.toNat (by lia);obtain⟨g,hg⟩:∃g:Int,g=([2,3,2,4,2,3,5,6]:qU).getD k.toNat 0:=⟨_,rfl⟩;rw[<-hg]at g26⊢;clear hg gg z0 z1 hk;obtain⟨g2,g6⟩:=g26;refine Es (λHX=>AH H HX) e0 ?_;clear e0 hp p;intro H0 e0;refine Az λN hN=>?_;walk_at "";refine⟨a,ns,1,rfl,e0.seq hS,h63,a,ns,0,rfl,e0.seq hS,h63,_,rfl,by decide,by decide,by decide,?_⟩;refine⟨g,_,_,rfl,g2,g6,λr1 H1 tab1 m1 e1 ok1 hm1=>hN _ _ ?_⟩;clear hN N;generalize ns.getD 0 0/8%19-9=lo1 at ok1⊢;have e01:=e0.trans e1;refine Az λN hN=>?_;walk_at "";refine⟨a,ns,2,rfl,e01.seq hS,h63,a,ns,3,rfl,e01.seq hS,h63,_,rfl,by decide,?_⟩;refine⟨g,_,_,rfl,g2,g6,λr2 H2 tab2 m2 e2 ok2 hm2=>hN _ _ ?_⟩;clear hN N;generalize ns.getD 3 0%19-9=lo2 at ok2⊢;have e02:=e01.trans e2;have ok12:=ok1.same e2;refine Es (λHX=>AH H HX/\AY HX r1 g lo1 tab1 m1/\AY HX r2 g lo2 tab2 m2) ⟨e02,ok12,ok2⟩ ?_;clear e02 ok12 ok2 e2 e01 ok1 e1 e0 H0 H1 H2;rintro H2 ⟨e2,ok1,ok2⟩;refine Az λN hN=>?_;walk_at "";refine⟨a,ns,4,rfl,e2.seq hS,h63,_,rfl,.inr ⟨by decide,by decide⟩,by decide,by decide,by decide,.inl ⟨by decide,by decide⟩,by decide,by decide,by decide,by decide,hN _ _ ?_⟩;clear hN N;generalize ns.getD 4 0*982451653%(2*10^Int.toNat 59-1)-10^Int.toNat 59+1=by1;refine Az λN hN=>?_;refine⟨g,rfl,by lia,_,rfl,5,rfl,303,rfl,N1 (e2.seq hS) λp1 H3 e3 hn3 h3=>?_⟩;rw[MU]at h3;obtain⟨cs,hcs⟩:∃cs:qU,cs=MT ns (some 5) (some 303):=⟨_,rfl⟩;rw[<-hcs]at h3
 have cl:cs.length<=63:=by rw[hcs];exact cF (Tn _ _ _) h63
 refine⟨p1,cs,rfl,Ai.of h3,λD hD=>hN _ _ ?_⟩;clear hN N;have wb:=O5 g2 cs;have wl:(cs.map (·%g)).length<=63:=by rw[a9];exact cl
 have e4:=e3.trans (AH.new hD (.lst ((cs.map (·%g)).map V.int)));have hD4:Ak H3 D (.lst ((cs.map (·%g)).map V.int)) D=some (.lst ((cs.map (·%g)).map V.int)):=AD;generalize Ak H3 D (.lst ((cs.map (·%g)).map V.int))=H4 at e4 hD4⊢;generalize cs.map (·%g)=ring0 at wb wl hD4;clear h3 hcs cl hD e3 hn3 cs p1;refine CU (λσ HX=>∃(D:qP) (ring:qU),σ=[some (.ref a),some (.int g),some (.ref r1),some (.ref r2),some (.int by1),some (.ref D),none,none,none]/\AH H2 HX/\HX D=some (.lst (ring.map V.int))/\(∀x∈ring,0<=x/\x<g)/\1<=ring.length/\ring.length<=63) (λN hN=>?_) ?_
 ·refine⟨_,rfl,cJ _,λp5 hp5=>?_⟩;have e5:=AH.new hp5 (.lst []);refine⟨D,p5,ring0,[],rfl,rfl,Ai.of (e5 _ _ hD4),Ai.of AD,_,rfl,?_⟩;dsimp only
  by_cases c:ring0=[]
  ·rw[qD (qF c)];refine⟨(by show 1<=sizeLine;decide),λp6 hp6=>hN _ _ ⟨p6,[0],rfl,(e4.trans e5).trans (AH.new hp6 _),AD,λx hx=>?_,by decide,by decide⟩⟩;rw[bL.mp hx];lia
  ·rw[qC (λz=>c (qL z))];exact hN _ _ ⟨D,ring0,rfl,e4.trans e5,e5 _ _ hD4,wb,fF.mpr c,wl⟩
 clear hD4 e4 H4 wb wl ring0 D;rintro _ hGo σ H4 ⟨D,ring,rfl,e4,hD,rb,n1,n63⟩;refine hGo _ _ ?_;have ok41:=ok1.same e4;have ok42:=ok2.same e4;have e24:=e2.trans e4;refine Es (λHX=>AH H HX/\AY HX r1 g lo1 tab1 m1/\AY HX r2 g lo2 tab2 m2/\HX D=some (.lst (ring.map V.int))) ⟨e24,ok41,ok42,hD⟩ ?_;clear ok41 ok42 e24 hD e4 ok1 ok2 e2 H4 H2 H3;rintro H4 ⟨e4,ok1,ok2,hD⟩;refine D7 g2 lo1 (g7:=tab1) (m:=m1) λlf1 tf1 mf1 fw1=>?_;refine D7 g2 lo2 (g7:=tab2) (m:=m2) λlf2 tf2 mf2 fw2=>?_;have g1:g^1=g:=by rw[bq,cN,cj]
 have sm:∀(m mf:Nat),(m=2\/(m=3/\g=2))->mf<=max 2 m->2<=mf->g^(mf-1)<=6:=λm mf hm h1 h2=>by
  have a:=Bf g2 (show mf-1<=max 2 m-1 by lia);rcases hm with rfl|⟨rfl,rfl⟩
  ·rw[show max 2 2-1=1 from rfl,g1]at a;lia
  ·rw[show max 2 3-1=2 from rfl,show (2:Int)^2=4 from rfl]at a;lia
 have le1:=fw1.le g2 ok1.len ok1.len λ_ _=>rfl
 have le2:=fw2.le g2 ok2.len ok2.len λ_ _=>rfl
 have sm1:=sm m1 mf1 hm1 le1 fw1.two;have sm2:=sm m2 mf2 hm2 le2 fw2.two;have mf8:mf1<=8:=by lia
 refine Az λN hN=>?_;walk_at "";refine⟨r1,g,lo1,tab1,m1,lf1,tf1,mf1,rfl,ok1,fw1,λ_ pf ps rings Rs fs H5 e5 lv B=>hN _ _ ?_,λz=>qE z (by lia)⟩;clear hN N;have ne:=Qv g2 ok1.len ok1.tb fw1 mf8 B;have e45:=e4.trans e5;have ok15:=ok1.same e5;have ok25:=ok2.same e5;have hD5:=e5 _ _ hD;have tl1:=ok1.len;have tb1:=ok1.tb;have tl2:=ok2.len;have tb2:=ok2.tb;have m11:=ok1.m1;have m21:=ok2.m1;refine Es (λHX=>AH H HX/\AY HX r1 g lo1 tab1 m1/\AY HX r2 g lo2 tab2 m2/\HX D=some (.lst (ring.map V.int))/\Gv HX pf ps (B5 g.toNat Rs fs g.toNat)) ⟨e45,ok15,ok25,hD5,lv⟩ ?_;clear ok15 ok25 e45 hD5 lv e5 hD ok1 ok2 e4 H5 H4;rintro H5 ⟨e5,ok1,ok2,hD,lv⟩;refine CU (λσ HX=>σ=[some (.ref a),some (.int g),some (.ref r1),some (.ref r2),some (.int by1),some (.ref D),some (.ref pf),none,none]/\AH H5 HX) (λN hN=>?_) ?_
 ·refine⟨_,rfl,by decide,λp6 hp6=>⟨_,_,(lv.same (AH.new hp6 _)).dat,Eu.lst (Ai.of AD) Ev.nil,DD _,rfl,Ec _,_,rfl,?_⟩⟩;dsimp only;have e6:=AH.new hp6 (.lst []);have ok16:=ok1.same e6;have lv6:=lv.same e6;rw[Sv ne];refine G5 ?_;generalize Ak H5 p6 (.lst [])=H6 at e6 ok16 lv6⊢;refine⟨_,rfl,r1,g,lo1,tab1,m1,rfl,ok16,λrt H7 e7 okt=>?_⟩;refine D7 g2 (1-lo1-(m1:Int)) (g7:=DT g tab1 m1) (m:=m1) λlft tft mft fwt=>?_;have let':=fwt.le g2 okt.len okt.len λ_ _=>rfl
  have smt:=sm m1 mft hm1 let' fwt.two;refine⟨rt,g,_,_,m1,lft,tft,mft,rfl,okt,fwt,λ_ pt pst ringst Rst fst' H8 e8 lvt Bt=>?_,λz=>qE z (by lia)⟩;rw[<-F5 g2 tl1 okt.len tb1 okt.tb fw1 fwt mf8 (by lia) B Bt λw _=>UV g2 tl1 tb1 w]at lvt;have e78:=e7.trans e8;refine⟨_,rfl,_,_,lvt.dat,(lv6.same e78).dat,DD _,DD _,Ec _,_,rfl,?_⟩;dsimp only;rw[KA];refine G5 ?_;refine⟨_,rfl,_,rfl,r1,g,lo1,tab1,m1,by1,rfl,ok16.same e78,λrm H9 e9 okm=>?_⟩;refine D7 g2 (lo1+by1) (g7:=tab1) (m:=m1) λlfm tfm mfm fwm=>?_;have lem:=fwm.le g2 okm.len okm.len λ_ _=>rfl
  have smm:=sm m1 mfm hm1 lem fwm.two;refine⟨rm,g,_,_,m1,lfm,tfm,mfm,rfl,okm,fwm,λ_ pm psm ringsm Rsm fsm HA eA lvm Bm=>?_,λz=>qE z (by lia)⟩;rw[<-F5 g2 tl1 okm.len tb1 okm.tb fw1 fwm mf8 (by lia) B Bm λw _=>UW g2 m11 w]at lvm;have e9A:=(e78.trans e9).trans eA;refine⟨_,rfl,_,_,lvm.dat,(lv6.same e9A).dat,DD _,DD _,Ec _,_,rfl,?_⟩;dsimp only;rw[KA];exact G5 (hN _ _ ⟨rfl,e6.trans e9A⟩)
 rintro _ hGo σ H6 ⟨rfl,e6⟩;refine hGo _ _ ?_;have e56:=e5.trans e6;have ok16:=ok1.same e6;have ok26:=ok2.same e6;have hD6:=e6 _ _ hD;have lv6:=lv.same e6;refine Es (λHX=>AH H HX/\AY HX r1 g lo1 tab1 m1/\AY HX r2 g lo2 tab2 m2/\HX D=some (.lst (ring.map V.int))/\Gv HX pf ps (B5 g.toNat Rs fs g.toNat)) ⟨e56,ok16,ok26,hD6,lv6⟩ ?_;clear ok16 ok26 e56 hD6 lv6 e6 hD ok1 ok2 lv e5 H6 H5;rintro H5 ⟨e5,ok1,ok2,hD,lv⟩;have ones:∀{HX:Hp} {p:qP},HX p=some (.lst (List.replicate g.toNat (V.int 1)))->HX p=some (.lst ((List.replicate g.toNat (1:Int)).map V.int)):=λ{HX p} h=>by rw[h,List.map_replicate]
 refine CU (λσ HX=>σ=[some (.ref a),some (.int g),some (.ref r1),some (.ref r2),some (.int by1),some (.ref D),some (.ref pf),none,none]/\AH H5 HX) (λN hN=>?_) ?_
 ·refine⟨_,rfl,_,rfl,r1,pf,g,lo1,tab1,m1,lf1,tf1,mf1,ps,rings,Rs,fs,rfl,ok1,fw1,by lia,lv,B,λH6 e6=>⟨true,rfl,?_⟩⟩;refine G5 ?_;refine⟨_,rfl,(by show 1<=sizeLine;decide),λp7 hp7=>⟨_,rfl,GO AD (by lia) (by lia) λp8 H8 e8 _ h8=>?_⟩⟩;have e68:=(e6.trans (AH.new hp7 _)).trans e8;dsimp only[IE];refine MC (ok2.same e68) fw2 sm2 g6 (ones h8) (bP ..) λb H9 e9 hb=>⟨b,true,rfl,rfl,_,rfl,?_⟩
  have bt:b=true:=hb.mpr (MB g2 tb2 m2);rw[bt];refine G5 ?_;have e69:=e68.trans e9;refine⟨_,rfl,(by show 1<=sizeLine;decide),λpA hpA=>⟨_,rfl,GO AD (by lia) (by lia) λpB HB eB _ hB=>?_⟩⟩;have e6B:=(e69.trans (AH.new hpA _)).trans eB;dsimp only[IE];refine MC (ok1.same e6B) fw1 sm1 g6 (ones hB) (bP ..) λb HC eC hb=>⟨b,true,rfl,rfl,_,rfl,?_⟩
  have bt:b=true:=hb.mpr (MB g2 tb1 m1);rw[bt];exact G5 (hN _ _ ⟨rfl,e6B.trans eC⟩)
 rintro _ hGo σ H6 ⟨rfl,e6⟩;refine hGo _ _ ?_;refine Az λN hN=>?_;refine⟨_,rfl,_,rfl,_,rfl,?_⟩;dsimp only[IE];refine Ol (ok1.same e6) (e6 _ _ hD) rb n1 (by lia) λp7 H7 n7=>?_;have e67:=e6.trans n7.1;have rl1:=A3 g lo1 tab1 m1 ring;have rb1:=Bx g2 lo1 tb1 m1 ring;refine Ol (ok2.same e67) n7.2.2 rb1 (by lia) (by lia) λp8 H8 n8=>hN _ _ ?_
 clear hN N;have e58:=e67.trans n8.1;have h8:=n8.2.2;generalize hth:Al g lo2 tab2 m2 (Al g lo1 tab1 m1 ring)=there at h8;have tlen:there.length=ring.length:=by rw[<-hth,A3,A3]
 have thb:∀x∈there,0<=x/\x<g:=by rw[<-hth];exact Bx g2 lo2 tb2 m2 _
 refine Es (λHX=>AH H HX/\AY HX r1 g lo1 tab1 m1/\AY HX r2 g lo2 tab2 m2/\HX D=some (.lst (ring.map V.int))/\Gv HX pf ps (B5 g.toNat Rs fs g.toNat)/\HX p8=some (.lst (there.map V.int))) ⟨e5.trans e58,ok1.same e58,ok2.same e58,e58 _ _ hD,lv.same e58,h8⟩ ?_;clear h8 e58 n8 H8 e67 n7 H7 p7 e6 H6 hD ok1 ok2 lv e5 H5;rintro H5 ⟨e5,ok1,ok2,hD,lv,hT⟩;refine Xo (λσ HX=>True) (λN hN=>?_) ?_
 ·refine⟨_,rfl,pf,rfl,⟨_,Ai.of lv.l⟩,?_⟩;refine Be (xs:=ps.map V.ref) (λi σ HX=>(∃x8,σ=[some (.ref a),some (.int g),some (.ref r1),some (.ref r2),some (.int by1),some (.ref D),some (.ref pf),some (.ref p8),x8])/\AH H5 HX) ⟨⟨none,rfl⟩,AH.refl _⟩ (λi σ HX _ z=>Ai.of (z.2 _ _ lv.l)) ?_ λσ HX z=>hN _ _ True.intro
  refine Fl ?_;rintro _ _ i x _ hGo σ HX hx ⟨⟨x8,rfl⟩,eX⟩;refine hGo _ _ ?_;obtain⟨o,rfl,ho1,il,ho2,hoH⟩:=lv.at hx;have om:=bE ho2;generalize (B5 g.toNat Rs fs g.toNat).getD i []=w0 at ho2 hoH om;obtain⟨wl,_,_⟩:=OX g2 tl1 fw1 tb1 mf8 B om
  have k1:Kp g lo1 tab1 m1 w0 1:=by rw[<-Gp g2 tl1 tb1 fw1 mf8 B wl];obtain⟨hd,h1,h2,rfl⟩:=D1 om;exact Dz B.rows h1 h2
  have wg:∀{l:qU},(∀x∈l,0<=x/\x<g)->∀x∈l,0<=x/\x<(w0.length:Int):=λh x hx=>by have:=h x hx;lia
  have t1:=(Gr g2 tb1).mp k1 ring rb n1;refine CU (λσ HY=>σ=[some (.ref a),some (.int g),some (.ref r1),some (.ref r2),some (.int by1),some (.ref D),some (.ref pf),some (.ref p8),some (.ref o)]/\AH H5 HY) (λN2 hN2=>?_) ?_
  ·refine⟨_,rfl,_,rfl,o,D,w0,ring,rfl,eX _ _ hoH,eX _ _ hD,wg rb,by lia,λH6 e6=>?_⟩;have eX6:=eX.trans e6;refine⟨_,rfl,_,rfl,_,rfl,?_⟩;dsimp only[IE];refine Ol (ok1.same eX6) (eX6 _ _ hD) rb n1 (by lia) λp7 H7 n7=>?_;have eX7:=eX6.trans n7.1;refine⟨o,p7,w0,_,rfl,eX7 _ _ hoH,n7.2.2,wg rb1,by lia,λH8 e8=>⟨rfl,_,rfl,?_⟩⟩;rw[t1]
   try dsimp only
   rw[qF (show V.int (F7 w0 ring)=V.int (F7 w0 ring) from rfl)];exact G5 (hN2 _ _ ⟨rfl,eX7.trans e8⟩)
  rintro _ hGo σ HY ⟨rfl,eY⟩;refine hGo _ _ ?_;refine⟨_,rfl,_,rfl,?_⟩;dsimp only[IE];refine MC (ok2.same eY) fw2 sm2 g6 (eY _ _ hoH) wl λb H6 e6 hb=>⟨b,rfl,?_⟩
  have eY6:=eY.trans e6;cases b with
  |false=>exact G5 ⟨⟨_,rfl⟩,eY6⟩
  |true =>
   refine Xj ?_;have k2:=hb.mp rfl;have t2:=(Gr g2 tb2).mp k2 _ rb1 (by lia);rw[hth,t1]at t2;refine⟨_,rfl,_,rfl,o,D,w0,ring,rfl,eY6 _ _ hoH,eY6 _ _ hD,wg rb,by lia,λH7 e7=>?_⟩;have eY7:=eY6.trans e7;refine⟨_,rfl,_,rfl,o,p8,w0,there,rfl,eY7 _ _ hoH,eY7 _ _ hT,wg thb,by lia,λH8 e8=>⟨rfl,_,rfl,?_⟩⟩;rw[t2]
   try dsimp only
   rw[qF (show V.int (F7 w0 ring)=V.int (F7 w0 ring) from rfl)];refine G5 ?_;have eY8:=eY7.trans e8;refine⟨_,rfl,_,rfl,_,rfl,r1,r2,o,g,lo1,lo2,tab1,tab2,m1,m2,w0,rfl,ok1.same eY8,ok2.same eY8,hm1,hm2,g6,eY8 _ _ hoH,wl,k1,k2,λH9 e9=>⟨true,rfl,?_⟩⟩;exact G5 ⟨⟨_,rfl⟩,eY8.trans e9⟩
 intro σ HX _;exact q HX
end
theorem XG{l:PySem.W.OpenLaw}{w:qS}{K:qT}{h:Heap}{mg:Str->Option qO}{fa c_44 c_62 c_72 c_63 c_43 c_54 c_29 c_30 f_5 f_50 f_56 f_22 f_9 f_1 f_41 f_61 f_21 f_27 f_11 f_15 f_82 f_69 f_40 f_42 f_76 f_65 f_47 f_4 f_37 f_68 f_59 f_75 f_81 f_39 f_84 f_73 f_51 f_38 f_10 f_2 f_52 f_79 f_55 f_3 f_0 f_45 f_70 f_58 f_64 f_60 f_36 f_18 f_24 f_57 f_35 f_28 f_46 f_66 f_25 f_26 f_78 f_53 f_77 f_71 f_67 f_6 f_17 f_23 f_49 f_7 f_48 f_16 f_74 f_80 f_8 f_14 f_19 f_34 f_33 f_32 f_13 f_20 f_12 f_31 f_83 k_EVEN:qP}{g_LONGEST_TABLE g_MOST_NODES g_MOST_GAINS:Tok}(X:K.In h)(G:h.Ns mainGlobals mg)(hfa:mg "law"=some (.ref fa))
  (n_44:PySem.W.nsIn K mainGlobals "RowError"=some (some (.ref c_44)))
  (n_62:PySem.W.nsIn K mainGlobals "NoRule"=some (some (.ref c_62)))
  (n_72:PySem.W.nsIn K mainGlobals "NoRow"=some (some (.ref c_72)))
  (n_63:PySem.W.nsIn K mainGlobals "NoSuch"=some (some (.ref c_63)))
  (n_43:PySem.W.nsIn K mainGlobals "NoWindow"=some (some (.ref c_43)))
  (n_54:PySem.W.nsIn K mainGlobals "TooWide"=some (some (.ref c_54)))
  (n_29:PySem.W.nsIn K mainGlobals "NoWayBack"=some (some (.ref c_29)))
  (n_30:PySem.W.nsIn K mainGlobals "NoWeights"=some (some (.ref c_30)))
  (n_EVEN:PySem.W.nsIn K mainGlobals "EVEN"=some (some (.ref k_EVEN)))
  (q_EVEN:Pd K k_EVEN [0,0]=true)
  (a_5:PySem.W.findIn K (.ref c_72) "__init__"=some (some (.ref f_5)))
  (h_5:∃fd,BX K "__init__" "NoRow.__init__" aE f_5 fd)
  (h_50:AV K "is_whole" V7 f_50)
  (h_56:AV K "is_sign" V8 f_56)
  (h_22:AV K "check_word" V9 f_22)
  (h_9:AV K "check_length" aG f_9)
  (h_1:AV K "check_at_least" aH f_1)
  (h_41:AV K "number_of" WA f_41)
  (h_61:AV K "word_of" WC f_61)
  (h_21:AV K "check_head" WD f_21)
  (h_27:AV K "places_for" WE f_27)
  (h_11:AV K "table_length" WF f_11)
  (h_15:AV K "check_table" WG f_15)
  (h_82:AV K "rule" WH f_82)
  (h_69:AV K "places" WI f_69)
  (h_40:AV K "next_sign" WK f_40)
  (h_42:AV K "told_from" WL f_42)
  (h_76:AV K "heads" WM f_76)
  (h_65:AV K "counts" WN f_65)
  (h_47:AV K "counting" WO f_47)
  (h_4:AV K "sign_or_nought" aI f_4)
  (h_37:AV K "by_window" WP f_37)
  (h_68:AV K "narrow" WQ f_68)
  (h_59:AV K "widened" WS f_59)
  (h_75:AV K "frame" WT f_75)
  (h_81:AV K "lead" WU f_81)
  (h_39:AV K "lead_ring" WV f_39)
  (h_84:AV K "led" WW f_84)
  (h_73:O8 K "after" WX f_73 1)
  (h_51:AV K "led_ring" WY f_51)
  (h_38:AV K "change_of" WZ f_38)
  (h_10:AV K "rings_to_ask" Wa f_10)
  (h_2:AV K "common_divisor" aJ f_2)
  (h_52:AV K "simplest" Wc f_52)
  (h_79:AV K "foot" Wd f_79)
  (h_55:AV K "cleared" We f_55)
  (h_3:AV K "rings_and_rows" aK f_3)
  (h_0:AV K "weights_with_head" aL f_0)
  (h_45:AV K "all_kept" Wf f_45)
  (h_70:AV K "shares" Wg f_70)
  (h_58:AV K "ways_on" Wh f_58)
  (h_64:AV K "choose" Wi f_64)
  (h_60:AV K "word_by" Wj f_60)
  (h_36:AV K "before_at" Wk f_36)
  (h_18:AV K "turned_back" Wl f_18)
  (h_24:AV K "most_steps" Wm f_24)
  (h_57:AV K "pair_of" Wn f_57)
  (h_35:AV K "all_pairs" Wo f_35)
  (h_28:AV K "word_pairs" Wp f_28)
  (h_46:AV K "begin_of" Wq f_46)
  (h_66:AV K "end_of" Wr f_66)
  (h_25:AV K "pair_nexts" Ws f_25)
  (h_26:AV K "pair_ranks" Wt f_26)
  (h_78:AV K "ranks" Wu f_78)
  (h_53:AV K "way_back" Wv f_53)
  (h_77:AV K "moved" Ww f_77)
  (h_71:AV K "turned" Wx f_71)
  (h_67:AV K "joined" Wy f_67)
  (h_6:AV K "check_weights" aN f_6)
  (h_17:AV K "gain_places" Wz f_17)
  (h_23:AV K "many_gains" W0 f_23)
  (h_49:AV K "gains_by" W1 f_49)
  (h_7:AV K "checked_gains" aO f_7)
  (h_48:AV K "flows_by" W2 f_48)
  (h_16:AV K "first_wrong" W3 f_16)
  (h_74:AV K "flows" W4 f_74)
  (h_80:AV K "kept" W5 f_80)
  (h_8:AV K "_law_cell_at" aP f_8)
  (h_14:AV K "_law_stream" W6 f_14)
  (h_19:AV K "_law_power" W7 f_19)
  (h_34:AV K "_law_word" W8 f_34)
  (h_33:AV K "_law_sign" W9 f_33)
  (h_32:AV K "_law_rule" XB f_32)
  (h_13:AV K "_law_places" XC f_13)
  (h_20:AV K "_law_total" XD f_20)
  (h_12:AV K "_law_joined" XE f_12)
  (h_31:AV K "_law_back" XF f_31)
  (h_83:AV K "law" UT f_83)
  (z_len:PySem.W.nsIn K mainGlobals "len"=some none)
  (z_list:PySem.W.nsIn K mainGlobals "list"=some none)
  (z_reversed:PySem.W.nsIn K mainGlobals "reversed"=some none)
  (z_isinstance:PySem.W.nsIn K mainGlobals "isinstance"=some none)
  (z_range:PySem.W.nsIn K mainGlobals "range"=some none)
  (z_int:PySem.W.nsIn K mainGlobals "int"=some none)
  (z_bool:PySem.W.nsIn K mainGlobals "bool"=some none)
  (z_ValueError:PySem.W.nsIn K mainGlobals "ValueError"=some none)
  (z_tuple:PySem.W.nsIn K mainGlobals "tuple"=some none)
  (z_enumerate:PySem.W.nsIn K mainGlobals "enumerate"=some none)
  (z_min:PySem.W.nsIn K mainGlobals "min"=some none)
  (z_max:PySem.W.nsIn K mainGlobals "max"=some none)
  (z_sum:PySem.W.nsIn K mainGlobals "sum"=some none)
  (z_sorted:PySem.W.nsIn K mainGlobals "sorted"=some none)
  (z_abs:PySem.W.nsIn K mainGlobals "abs"=some none)
  (z_any:PySem.W.nsIn K mainGlobals "any"=some none)
  (z_all:PySem.W.nsIn K mainGlobals "all"=some none)
  (z_zip:PySem.W.nsIn K mainGlobals "zip"=some none)
  (w_LONGEST_TABLE:PySem.W.nsIn K mainGlobals "LONGEST_TABLE"=some (some (.int 256 g_LONGEST_TABLE)))
  (w_MOST_NODES:PySem.W.nsIn K mainGlobals "MOST_NODES"=some (some (.int 9 g_MOST_NODES)))
  (w_MOST_GAINS:PySem.W.nsIn K mainGlobals "MOST_GAINS"=some (some (.int 729 g_MOST_GAINS)))
  (x_62:PySem.W.excIn K c_62 Ep "ValueError.__new__"=true)
  (x_63:PySem.W.excIn K c_63 Ep "ValueError.__new__"=true)
  (x_43:PySem.W.excIn K c_43 Ep "ValueError.__new__"=true)
  (x_54:PySem.W.excIn K c_54 Ep "ValueError.__new__"=true)
  (x_29:PySem.W.excIn K c_29 Ep "ValueError.__new__"=true)
  (x_30:PySem.W.excIn K c_30 Ep "ValueError.__new__"=true)
  (xi_72:Zr K c_72 f_5=true)
  (xt_72:PySem.W.typeIn K (.ref f_5)=some (.type "function"))
  (xk_72:PySem.W.keepIn K (.ref c_72)=true)
  (ci_72:(PySem.W.clsIn K c_72).isSome=true)
  (ga_72:PySem.W.findIn K (.ref c_72) "__getattribute__"=some (some (.builtin "BaseException.__getattribute__")))
  (gn_72:PySem.W.findIn K (.ref c_72) "__getattr__"=some none)
  (ca_72:PySem.W.findIn K (.ref c_72) "__class__"=some (some (.builtin "object.__class__")))
  (sg_72:PySem.W.specialIn K (.builtin "object.__class__") "__get__"=some (some (.builtin "getset_descriptor.__get__")))
  (tk_72:PySem.W.takesIn K (.builtin "object.__class__")=some true)
  (mo_72:PySem.W.mroIn K c_72 (.type "object")=some true)
  (mb_72:PySem.W.mroIn K c_72 (.type "BaseException")=some true)
  (sa_72:PySem.W.findIn K (.ref c_72) "__setattr__"=some (some (.builtin "object.__setattr__")))
  (hd_72:PySem.W.hasDictIn K c_72=true)
  (mr_72:Xp K c_72 c_44=true)
  (no_72:PySem.W.findIn K (.ref c_72) "at"=some none)
  (em_54_54:PySem.W.exmOne K (.ref c_54) (.ref c_54)=some true)
  (em_29_29:PySem.W.exmOne K (.ref c_29) (.ref c_29)=some true)
  (en_54_29:PySem.W.exmOne K (.ref c_54) (.ref c_29)=some false)
  : ∃fd:FuncData,(∀(s:qQ) (v:qO),BindsTo s fd ⟨[v],[]⟩ [("_law_script",v)])/\∀base:Heap,K.In base->base.Ns mainGlobals mg->Fp l.prog w K mg base (KJ l.prog w) 13 fa fd ["_law_script"] (MY K):=by
 have mo:∀{n:Str}{v:Value},PySem.W.nsIn K mainGlobals n=some (some v)->mg n=some v:=λe=>PySem.W.mg_of X G e;have T:Bw K mg ⟨c_44,c_62,c_72,c_63,c_43,c_54,c_29,c_30,f_5,f_50,f_56,f_22,f_9,f_1,f_41,f_61,f_21,f_27,f_11,f_15,f_82,f_69,f_40,f_42,f_76,f_65,f_47,f_4,f_37,f_68,f_59,f_75,f_81,f_39,f_84,f_73,f_51,f_38,f_10,f_2,f_52,f_79,f_55,f_3,f_0,f_45,f_70,f_58,f_64,f_60,f_36,f_18,f_24,f_57,f_35,f_28,f_46,f_66,f_25,f_26,f_78,f_53,f_77,f_71,f_67,f_6,f_17,f_23,f_49,f_7,f_48,f_16,f_74,f_80,f_8,f_14,f_19,f_34,f_33,f_32,f_13,f_20,f_12,f_31,f_83,k_EVEN⟩:=⟨mo n_44,mo n_62,mo n_72,mo n_63,mo n_43,mo n_54,mo n_29,mo n_30,mo n_EVEN,q_EVEN,h_5,mo h_50.2,h_50.1,mo h_56.2,h_56.1,mo h_22.2,h_22.1,mo h_9.2,h_9.1,mo h_1.2,h_1.1,mo h_41.2,h_41.1,mo h_61.2,h_61.1,mo h_21.2,h_21.1,mo h_27.2,h_27.1,mo h_11.2,h_11.1,mo h_15.2,h_15.1,mo h_82.2,h_82.1,mo h_69.2,h_69.1,mo h_40.2,h_40.1,mo h_42.2,h_42.1,mo h_76.2,h_76.1,mo h_65.2,h_65.1,mo h_47.2,h_47.1,mo h_4.2,h_4.1,mo h_37.2,h_37.1,mo h_68.2,h_68.1,mo h_59.2,h_59.1,mo h_75.2,h_75.1,mo h_81.2,h_81.1,mo h_39.2,h_39.1,mo h_84.2,h_84.1,mo h_73.2,h_73.1,mo h_51.2,h_51.1,mo h_38.2,h_38.1,mo h_10.2,h_10.1,mo h_2.2,h_2.1,mo h_52.2,h_52.1,mo h_79.2,h_79.1,mo h_55.2,h_55.1,mo h_3.2,h_3.1,mo h_0.2,h_0.1,mo h_45.2,h_45.1,mo h_70.2,h_70.1,mo h_58.2,h_58.1,mo h_64.2,h_64.1,mo h_60.2,h_60.1,mo h_36.2,h_36.1,mo h_18.2,h_18.1,mo h_24.2,h_24.1,mo h_57.2,h_57.1,mo h_35.2,h_35.1,mo h_28.2,h_28.1,mo h_46.2,h_46.1,mo h_66.2,h_66.1,mo h_25.2,h_25.1,mo h_26.2,h_26.1,mo h_78.2,h_78.1,mo h_53.2,h_53.1,mo h_77.2,h_77.1,mo h_71.2,h_71.1,mo h_67.2,h_67.1,mo h_6.2,h_6.1,mo h_17.2,h_17.1,mo h_23.2,h_23.1,mo h_49.2,h_49.1,mo h_7.2,h_7.1,mo h_48.2,h_48.1,mo h_16.2,h_16.1,mo h_74.2,h_74.1,mo h_80.2,h_80.1,mo h_8.2,h_8.1,mo h_14.2,h_14.1,mo h_19.2,h_19.1,mo h_34.2,h_34.1,mo h_33.2,h_33.1,mo h_32.2,h_32.1,mo h_13.2,h_13.1,mo h_20.2,h_20.1,mo h_12.2,h_12.1,mo h_31.2,h_31.1,mo h_83.2,h_83.1,PySem.W.mg_none_of X G z_len,PySem.W.mg_none_of X G z_list,PySem.W.mg_none_of X G z_reversed,PySem.W.mg_none_of X G z_isinstance,PySem.W.mg_none_of X G z_range,PySem.W.mg_none_of X G z_int,PySem.W.mg_none_of X G z_bool,PySem.W.mg_none_of X G z_ValueError,PySem.W.mg_none_of X G z_tuple,PySem.W.mg_none_of X G z_enumerate,PySem.W.mg_none_of X G z_min,PySem.W.mg_none_of X G z_max,PySem.W.mg_none_of X G z_sum,PySem.W.mg_none_of X G z_sorted,PySem.W.mg_none_of X G z_abs,PySem.W.mg_none_of X G z_any,PySem.W.mg_none_of X G z_all,PySem.W.mg_none_of X G z_zip,⟨_,mo w_LONGEST_TABLE⟩,⟨_,mo w_MOST_NODES⟩,⟨_,mo w_MOST_GAINS⟩,x_62,x_63,x_43,x_54,x_29,x_30,⟨xi_72,xt_72,xk_72⟩,⟨ci_72,ga_72,gn_72,ca_72,sg_72,tk_72,mo_72,mb_72⟩,⟨sa_72,hd_72,mr_72,no_72,⟨ci_72,ga_72,gn_72,ca_72,sg_72,tk_72,mo_72,mb_72⟩⟩,em_54_54,em_29_29,en_54_29⟩;have e:=hfa.symm.trans T.m_83;cases e;obtain⟨fd,F⟩:=T.d_83;obtain⟨oc,od,kV,doc,pm,an,gh,ct,osl,ef,lk,hcd⟩:=F.ex;refine⟨fd,λs v=>by rw[ef];exact .of_eq rfl,λbase _ _=>?_⟩;have G_5:=aS (P:=l.prog) (w:=w) (base:=base) T;have G_50:=YI (P:=l.prog) (w:=w) (base:=base) T;have G_56:=YK (P:=l.prog) (w:=w) (base:=base) T G_50;have G_22:=YL (P:=l.prog) (w:=w) (base:=base) T G_56 G_5;have G_9:=aU (P:=l.prog) (w:=w) (base:=base) T G_22 G_5;have G_1:=aW (P:=l.prog) (w:=w) (base:=base) T G_22 G_5;have G_41:=YM (P:=l.prog) (w:=w) (base:=base) T G_22;have G_61:=YN (P:=l.prog) (w:=w) (base:=base) T;have G_21:=YQ (P:=l.prog) (w:=w) (base:=base) T G_50;have G_27:=YR (P:=l.prog) (w:=w) (base:=base) T;have G_11:=YS (P:=l.prog) (w:=w) (base:=base) T;have G_15:=YT (P:=l.prog) (w:=w) (base:=base) T G_27 G_56;have G_82:=YV (P:=l.prog) (w:=w) (base:=base) T G_21 G_15;have G_69:=YX (P:=l.prog) (w:=w) (base:=base) T G_27;have G_40:=YZ (P:=l.prog) (w:=w) (base:=base) T G_9 G_69 G_41;have G_42:=Ya (P:=l.prog) (w:=w) (base:=base) T;have G_76:=Yd (P:=l.prog) (w:=w) (base:=base) T;have G_65:=Ye (P:=l.prog) (w:=w) (base:=base) T;have G_47:=Yf (P:=l.prog) (w:=w) (base:=base) T G_69 G_65;have G_4:=aZ (P:=l.prog) (w:=w) (base:=base) T;have G_37:=Yg (P:=l.prog) (w:=w) (base:=base) T G_82 G_11 G_61 G_40 G_4 G_69;have G_68:=Yh (P:=l.prog) (w:=w) (base:=base) T G_47 G_37;have G_59:=Yi (P:=l.prog) (w:=w) (base:=base) T G_47 G_37 G_11;have G_75:=Yj (P:=l.prog) (w:=w) (base:=base) T G_68 G_69 G_59 G_76;have G_81:=Yk (P:=l.prog) (w:=w) (base:=base) T G_69;have G_39:=Yl (P:=l.prog) (w:=w) (base:=base) T G_81 G_69;have G_84:=Yn (P:=l.prog) (w:=w) (base:=base) T G_22 G_81;have G_73:=Yo (P:=l.prog) (w:=w) (base:=base) T G_1 G_39;have G_51:=Yq (P:=l.prog) (w:=w) (base:=base) T G_73;have G_38:=Yr (P:=l.prog) (w:=w) (base:=base) T G_39;have G_10:=Ys (P:=l.prog) (w:=w) (base:=base) T G_69 G_61 G_76;have G_2:=aa (P:=l.prog) (w:=w) (base:=base) T;have G_52:=Yt (P:=l.prog) (w:=w) (base:=base) T G_2;have G_79:=Yv (P:=l.prog) (w:=w) (base:=base) T;have G_55:=Yw (P:=l.prog) (w:=w) (base:=base) T G_79 G_52;have G_3:=ac (P:=l.prog) (w:=w) (base:=base) T G_75 G_10 G_38 G_55;have G_0:=ae (P:=l.prog) (w:=w) (base:=base) T G_52 G_79;have G_45:=Yx (P:=l.prog) (w:=w) (base:=base) T G_3 G_79 G_0;have G_70:=Yz (P:=l.prog) (w:=w) (base:=base) T G_76;have G_58:=Y0 (P:=l.prog) (w:=w) (base:=base) T G_76 G_70 G_42;have G_64:=Y1 (P:=l.prog) (w:=w) (base:=base) T;have G_60:=Y2 (P:=l.prog) (w:=w) (base:=base) T G_64 G_61 G_42 G_69 G_70 G_76;have G_36:=Y3 (P:=l.prog) (w:=w) (base:=base) T G_22 G_58 G_60;have G_18:=Y4 (P:=l.prog) (w:=w) (base:=base) T;have G_24:=Y5 (P:=l.prog) (w:=w) (base:=base) T;have G_57:=Y7 (P:=l.prog) (w:=w) (base:=base) T;have G_35:=Y8 (P:=l.prog) (w:=w) (base:=base) T G_76;have G_28:=Y9 (P:=l.prog) (w:=w) (base:=base) T;have G_46:=ZB (P:=l.prog) (w:=w) (base:=base) T G_57;have G_66:=ZD (P:=l.prog) (w:=w) (base:=base) T G_57 G_76;have G_25:=ZE (P:=l.prog) (w:=w) (base:=base) T G_35 G_28 G_66 G_46;have G_26:=ZG (P:=l.prog) (w:=w) (base:=base) T G_24 G_18 G_25;have G_78:=ZH (P:=l.prog) (w:=w) (base:=base) T G_75 G_26 G_35;have G_53:=ZI (P:=l.prog) (w:=w) (base:=base) T G_75 G_78 G_82 G_69 G_11 G_61 G_36 G_24 G_25;have G_77:=ZK (P:=l.prog) (w:=w) (base:=base) T G_82;have G_71:=ZL (P:=l.prog) (w:=w) (base:=base) T G_69 G_82 G_40 G_61;have G_67:=ZM (P:=l.prog) (w:=w) (base:=base) T G_68 G_11 G_82 G_69 G_40 G_84 G_61;have G_6:=af (P:=l.prog) (w:=w) (base:=base) T G_27 G_50;have G_17:=ZP (P:=l.prog) (w:=w) (base:=base) T G_69 G_27;have G_23:=ZR (P:=l.prog) (w:=w) (base:=base) T G_76;have G_49:=ZS (P:=l.prog) (w:=w) (base:=base) T G_17 G_23 G_41 G_81 G_61 G_76;have G_7:=ag (P:=l.prog) (w:=w) (base:=base) T G_75 G_6 G_49 G_23;have G_48:=ZU (P:=l.prog) (w:=w) (base:=base) T;have G_16:=ZV (P:=l.prog) (w:=w) (base:=base) T;have G_74:=ZW (P:=l.prog) (w:=w) (base:=base) T G_7 G_48 G_16;have G_80:=ZY (P:=l.prog) (w:=w) (base:=base) T G_74;have G_8:=ai (P:=l.prog) (w:=w) (base:=base) T;have G_14:=ZZ (P:=l.prog) (w:=w) (base:=base) T;have G_19:=Za (P:=l.prog) (w:=w) (base:=base) T;have G_34:=Zc (P:=l.prog) (w:=w) (base:=base) T;have G_33:=Zd (P:=l.prog) (w:=w) (base:=base) T;have G_32:=Ze (P:=l.prog) (w:=w) (base:=base) T G_14 G_34 G_19 G_33;have G_13:=Zg (P:=l.prog) (w:=w) (base:=base) T;have G_20:=Zi (P:=l.prog) (w:=w) (base:=base) T;have G_12:=Zj (P:=l.prog) (w:=w) (base:=base) T G_19 G_80 G_67 G_13;have G_31:=Zk (P:=l.prog) (w:=w) (base:=base) T G_45 G_53;exact Zl T F G_32 G_45 G_51 G_8 G_80 G_31 G_20 G_71 G_77 G_12
theorem aj{l:PySem.W.OpenLaw}{q:qR}{loose:List Str}{XP:(Str->Option qO)->Heap->Prop}{YP:qS->Heap->Prop}{d:PySem.DefRec}{K:PySem.Params->qT}(hn:l.most=some 63)(hdf:d.params.defaults=[])
  (hY:∀(w:qS) (h:Heap),YP w h->(K w.params).In h)
  (F:∀(w:qS) (mg:Str->Option qO) (fa:qP) (h:Heap),(K w.params).In h->h.Ns mainGlobals mg->mg d.name=some (.ref fa) ->
   ∃fd:FuncData,(∀(s:qQ) (u:qO),BindsTo s fd ⟨[u],[]⟩ [("_law_script",u)])/\∀base:Heap,(K w.params).In base->base.Ns mainGlobals mg->Fp l.prog w (K w.params) mg base (KJ l.prog w) 13 fa fd ["_law_script"] (MY (K w.params))):
  PySem.W.WalkO q loose XP YP l.row.toRowW d [] (λf vs=>PySem.call f vs):=
 L2.TX (n:=63) (k:=13) (x:="_law_script") (CX:=λw=>KJ l.prog w) (sp:=λw=>MY (K w.params)) hn (by decide) hdf ⟨rfl,by decide,by decide⟩ hY F (λ_ _ a ns hl _ hS=>⟨a,ns,rfl,hS,hl,λ_=>rfl⟩) λ_ _ _ _ _ ⟨_,_,_,_,_,_,_,_,z⟩=>z
end K93
noncomputable def PySem.W.Fast.tw331279025442045296:=PySem.Challenge.pw_rowrules_k93_whole_kept_by_both
theorem PySem.W.Fast.te331279025442045296:PySem.Challenge.pw_rowrules_k93_whole_kept_by_both=PySem.W.Fast.tw331279025442045296:=rfl
namespace PySem.W.Fast
abbrev A:=Nat
def tw1467819671513940282:=A
def tw9080259530152574422:=A
def tw3685825162397123425:=A
def tw3102283672492668892:=A
def tw9020951710810252923:=A
def tw238837313754135240:=A
def tw8578810257106845504:=A
def tw15484932188067217005:=A
def tw12329989728314686417:=A
def tw1226533507684354876:=A
def tw17631436126667181891:=A
def tw16941219254246719720:=A
def tw15673006320516788978:=A
def tw1719681456672005181:=A
def tw7409838743524776179:=A
def tw5598814442608900183:=A
def tw4699496866038398197:=A
def tw13981186317402154556:=A
def tw12364166779361552004:=A
def tw3680951841627021687:=A
def tw11617230976488939463:=A
def tw15826887728036230187:=A
def tw3944026109544687297:=A
def tw623137400703299767:=A
def tw18262277584621957928:=A
def tw14556215908743994950:=A
def tw2096952545164153749:=A
def tw1347870502573447052:=A
def tw9527176734379745823:=A
def tw4409209884874517447:=A
def tw9108815923735627574:=A
def tw16954859290563412293:=A
def tw5690121526202446620:=A
def tw12726360444506891615:=A
def tw9351229706089571083:=A
def tw13251092911310066804:=A
def tw13517869572225220383:=A
def tw18441531732481718720:=A
def tw6532976833755586421:=A
def tw5647065776887551006:=A
def tw15955716366423304363:=A
def tw6400999881132368412:=A
def tw804471479697441881:=A
def tw1263978898385225445:=A
def tw1381838442853081590:=A
def tw15078414743466203278:=A
def tw1357703434774896864:=A
def tw13963418428336038724:=A
def tw9295646215708203024:=A
def tw15089651629582732981:=A
def tw15967277401517423204:=A
def tw4922494748902155872:=A
def tw10114484559972258842:=A
def tw1260016179649100052:=A
def tw15705261400108211400:=A
def tw1794052933406541304:=A
def tw7469081981287019263:=A
def tw16451584364105875159:=A
def tw3441727091794337343:=A
def tw9326093634217037314:=A
def tw15165497060311755242:=A
def tw17167945172093542199:=A
def tw18013579045229365026:=A
def tw14294981689901460233:=A
def tw10352093504648943588:=A
def tw7397487974910801269:=A
def tw13636173287777213910:=A
def tw3046983993321342469:=A
def tw12407163884041756796:=A
def tw13686674187300335339:=A
def tw3483998321173085426:=A
def tw9025686931305176235:=A
def tw173910988989090728:=A
def tw9988347340481432412:=A
def tw1286097822596831822:=A
def tw8766731182638606067:=A
def tw17250644248731953538:=A
def tw11413389167433080552:=A
def tw3369017445839303866:=A
def tw15569399406274369108:=A
def tw7232960199052516467:=A
def tw16358703717187321179:=A
def tw17547670698515244772:=A
def tw17563006327869668311:=A
def tw4001028120589980651:=A
def tw8396367630025138830:=A
def tw5338028768324242043:=A
def tw5292613057894537017:=A
def tw16721682380559636525:=A
def tw858629511223043420:=A
def tw11183662054016723802:=A
def tw6008974212606047929:=A
def tw4425227753628382933:=A
def tw2813458324176422673:=A
def tw6232648994950038492:=A
def tw9018594481242927192:=A
def tw5102712920474168417:=A
def tw7264498887156678027:=A
def tw14118655777588850409:=A
def tw11516083573503499235:=A
def tw15604578724065869189:=A
def tw6862873436798202209:=A
def tw7453356863476934568:=A
def tw12680832608950625633:=A
def tw14534604627915348439:=A
def tw6930762605377376303:=A
def tw8950304085499916024:=A
def tw14665818628664625415:=A
def tw2199387450147802224:=A
def tw12177106042874420647:=A
def tw10219952823307244939:=A
def tw5093257706271798321:=A
def tw10087232001307389301:=A
def tw5946375870859427637:=A
def tw7974001435302074701:=A
def tw3234637259778627099:=A
def tw2940039845209715416:=A
def tw14822295264652996957:=A
def tw1955849667021409796:=A
def tw3534526384668343808:=A
def tw17690344409894704499:=A
def tw7715609750987519861:=A
def tw14077524708879753565:=A
def tw13553608860231523794:=A
def tw7477641484970616547:=A
def tw13606127716603988564:=A
def tw12130797676879389259:=A
def tw12891271681461073186:=A
def tw17676026452559602141:=A
def tw11816198709745570058:=A
def tw11513868729966388649:=A
def tw12344759403497562488:=A
def tw13076670636092291898:=A
def tw14718524032038419035:=A
def tw10034501577165314903:=A
def tw11530614004070198970:=A
def tw10766530608364708406:=A
def tw10202658519831153919:=A
def tw16372614416596929949:=A
def tw2701562593208277613:=A
def tw6162898972410201266:=A
def tw15879611086957629204:=A
def tw14058637618379759048:=A
def tw18412556382159719983:=A
def tw14333024695653198812:=A
def tw5471825712498500962:=A
def tw2642495270940493135:=A
def tw7940967323954429413:=A
def tw16126666415772609700:=A
def tw12981054261741269834:=A
def tw11302994723601217476:=A
def tw6837219464441483284:=A
def tw12185790754353875066:=A
def tw5339748842322760517:=A
def tw7258555228148895751:=A
def tw16124851294192242923:=A
def tw16658973590436464390:=A
def tw17085405322926716276:=A
def tw6159891944463564139:=A
def tw5962570094902057728:=A
def tw17855983911719495619:=A
def tw564989076694316395:=A
def tw12628792476679681183:=A
def tw18266055300486282358:=A
def tw3749842321152054515:=A
def tw1647028585929385583:=A
def tw9607572862262650061:=A
def tw17451880110578380208:=A
def tw11585274216589481408:=A
def tw4530220029905029499:=A
def tw5588528497589896873:=A
def tw5126974248347332828:=A
def tw4441442941344556161:=A
def tw13474899271996552273:=A
def tw2176846132060566993:=A
def tw5115777161465077844:=A
def tw6713927604726430851:=A
def tw5249200993224579139:=A
def tw8953811668890456608:=A
def tw199830524956224181:=A
def tw16555216279331471695:=A
def tw6685009170851505784:=A
def tw12046429824131676948:=A
def tw15509472482809393879:=A
def tw4420611921583722094:=A
def tw16744913048098792605:=A
def tw17128368803811401558:=A
def tw5830030531237734942:=A
def tw542161204550656535:=A
def tw14468725024849117040:=A
def tw16327480322677294919:=A
def tw9845515225487624827:=A
def tw14697710890225880855:=A
def tw620041501053063919:=A
def tw328989212814626307:=A
def tw16714988689997411259:=A
def tw7140065012939913990:=A
def tw17896803867579383810:=A
def tw8000379866948542155:=A
def tw875527778030712371:=A
def tw7177718209573697163:=A
def tw3284662404857119109:=A
def tw13781130714019981856:=A
def tw5066199905309586435:=A
def tw14974882996231715122:=A
def tw12348338463433919758:=A
def tw17547566323757187165:=A
def tw10699653775711840389:=A
def tw8555714663901753390:=A
def tw12060318413432536707:=A
def tw16325229635256332464:=A
def tw12557901604098929007:=A
def tw17251283943596151773:=A
def tw15103864107085124168:=A
def tw9267341179171175306:=A
def tw17826204980018383536:=A
def tw3255296928801489314:=A
def tw7656006568063448765:=A
def tw18214419743001311982:=A
def tw7704079209668414453:=A
def tw13711957224563023752:=A
def tw11988366128788029941:=A
def tw6289451764020274980:=A
def tw2547153536860976351:=A
def tw3814460234773368977:=A
def tw16833689850761183943:=A
def tw16729951482478265730:=A
def tw16582187411407281691:=A
def tw716335413134572194:=A
def tw18039050799514678189:=A
def tw76855361668485352:=A
def tw9930657915977614176:=A
def tw6603992012973560950:=A
def tw321169086298167718:=A
def tw9607876296902309731:=A
def tw9266151713855912315:=A
def tw18093164433061839170:=A
def tw4863395902300219715:=A
def tw15554845004155263511:=A
def tw2046516823876581969:=A
def tw6334249559848643053:=A
def tw16592496796288064432:=A
def tw15753563255505922797:=A
def tw14018241828831367787:=A
def tw1556614244465667605:=A
def tw9884888840110525024:=A
def tw6520405355405980369:=A
def tw6568886579698751827:=A
def tw14013489414847153999:=A
def tw9038098085962239539:=A
def tw3603582815732207994:=A
def tw8007505752530695244:=A
def tw17362055563934889147:=A
def tw7170758027218752793:=A
def tw5535521226277836683:=A
def tw7617265080065790184:=A
def tw8830259854409874449:=A
def tw5817434054931339928:=A
def tw8759509897634527282:=A
def tw13574408884435583092:=A
def tw777477055127089545:=A
def tw16946319408704922807:=A
def tw12311512534358289842:=A
def tw8084478853230930610:=A
def tw16022183648341157487:=A
def tw5046070635479954120:=A
def tw12042808548121965313:=A
def tw10126268274457710919:=A
def tw5232645281444101705:=A
def tw4072855344447913276:=A
def tw9534387923106467696:=A
def tw12637348029652103693:=A
def tw17339216774578147904:=A
def tw12016642425918982308:=A
def tw7063951520904555930:=A
def tw15401930767342687393:=A
def tw834358888955025956:=A
def tw5956498540930754818:=A
def tw11086278490621964951:=A
def tw2810638042915231047:=A
def tw3072682442923564884:=A
def tw9682253808274497577:=A
def tw3806123823566062566:=A
def tw11436184927969390988:=A
def tw15281473712556964872:=A
def tw15915587401965324542:=A
def tw5288372462580819514:=A
def tw8050839691982143575:=A
def tw14360223701688644866:=A
def tw17364096706846488519:=A
def tw8119853578866812504:=A
def tw3278115583351354765:=A
def tw14102491114628567846:=A
def tw18162943602990544423:=A
def tw16963266247000476781:=A
def tw16813975393430327449:=A
def tw16865238784246798554:=A
def tw16639701398616462221:=A
def tw12047595956599393270:=A
def tw9065069073497896147:=A
def tw11962829150887797334:=A
def tw6642896408873750923:=A
def tw15173552694401769687:=A
def tw5769521456532543268:=A
def tw12817366479350072341:=A
def tw16614462400851259929:=A
def tw16710335925287602127:=A
def tw11996318840088524393:=A
def tw9886249571386621885:=A
def tw5397657793091987619:=A
def tw15182966450974380340:=A
def tw298462564102409070:=A
def tw17727113210600104729:=A
def tw8144614171314867433:=A
def tw16400882566999460721:=A
def tw2572524635886924307:=A
def tw5633857259764433049:=A
def tw3269741688319153773:=A
def tw15652827505268027305:=A
def tw18402440210493053385:=A
def tw15162849900453959420:=A
def tw17863183409142858404:=A
def tw5323707679170509080:=A
def tw15180982227613720724:=A
def tw12431221404644054131:=A
def tw16620423295108008722:=A
def tw14471798233202610195:=A
def tw11775457056162747032:=A
def tw4635866128942598948:=A
def tw11518304285747221444:=A
def tw5827535564176191785:=A
def tw15595003081531325295:=A
def tw13636670601610523945:=A
def tw4069771915187812897:=A
def tw16455115745696137924:=A
def tw13061327783478740516:=A
def tw15081859286674163204:=A
def tw10516157281323383113:=A
def tw9914805699311577913:=A
def tw8072428974256913235:=A
def tw10517004244879566289:=A
def tw10698857822137627686:=A
end PySem.W.Fast
open PySem PySem.W PyProof.Rows
set_option maxRecDepth 100000 in
set_option maxHeartbeats 0 in
theorem PySem.Challenge.cw_rowrules_k93_whole_kept_by_both_holds : PySem.Challenge.rw_rowrules_k93_whole_kept_by_both.Holds := by
 w_on;o_law;k_head;(case hw=>w_witness2)
 k_fill
 refine K93.aj (l:=PySem.Challenge.rw_rowrules_k93_whole_kept_by_both) rfl rfl (λw h Y=>PySem.W.kIn_of Y) ?F
 case F =>
  intro w mg fa h KX G hmg;refine' K93.XG KX G hmg ?_ ?_ ?_ ?_ ?_ ?_ ?_ ?_ ?_ ?_ ?_ ⟨_,L2.RF ?_ ?_ ?_⟩ (L2.AW ?_ ?_ ?_ ?_) (L2.AW ?_ ?_ ?_ ?_) (L2.AW ?_ ?_ ?_ ?_) (L2.AW ?_ ?_ ?_ ?_) (L2.AW ?_ ?_ ?_ ?_) (L2.AW ?_ ?_ ?_ ?_) (L2.AW ?_ ?_ ?_ ?_) (L2.AW ?_ ?_ ?_ ?_) (L2.AW ?_ ?_ ?_ ?_) (L2.AW ?_ ?_ ?_ ?_) (L2.AW ?_ ?_ ?_ ?_) (L2.AW ?_ ?_ ?_ ?_) (L2.AW ?_ ?_ ?_ ?_) (L2.AW ?_ ?_ ?_ ?_) (L2.AW ?_ ?_ ?_ ?_) (L2.AW ?_ ?_ ?_ ?_) (L2.AW ?_ ?_ ?_ ?_) (L2.AW ?_ ?_ ?_ ?_) (L2.AW ?_ ?_ ?_ ?_) (L2.AW ?_ ?_ ?_ ?_) (L2.AW ?_ ?_ ?_ ?_) (L2.AW ?_ ?_ ?_ ?_) (L2.AW ?_ ?_ ?_ ?_) (L2.AW ?_ ?_ ?_ ?_) (L2.AW ?_ ?_ ?_ ?_) (L2.AW ?_ ?_ ?_ ?_) (L2.Tt ?_ ?_ ?_ ?_ ?_) (L2.AW ?_ ?_ ?_ ?_) (L2.AW ?_ ?_ ?_ ?_) (L2.AW ?_ ?_ ?_ ?_) (L2.AW ?_ ?_ ?_ ?_) (L2.AW ?_ ?_ ?_ ?_) (L2.AW ?_ ?_ ?_ ?_) (L2.AW ?_ ?_ ?_ ?_) (L2.AW ?_ ?_ ?_ ?_) (L2.AW ?_ ?_ ?_ ?_) (L2.AW ?_ ?_ ?_ ?_) (L2.AW ?_ ?_ ?_ ?_) (L2.AW ?_ ?_ ?_ ?_) (L2.AW ?_ ?_ ?_ ?_) (L2.AW ?_ ?_ ?_ ?_) (L2.AW ?_ ?_ ?_ ?_) (L2.AW ?_ ?_ ?_ ?_) (L2.AW ?_ ?_ ?_ ?_) (L2.AW ?_ ?_ ?_ ?_) (L2.AW ?_ ?_ ?_ ?_) (L2.AW ?_ ?_ ?_ ?_) (L2.AW ?_ ?_ ?_ ?_) (L2.AW ?_ ?_ ?_ ?_) (L2.AW ?_ ?_ ?_ ?_) (L2.AW ?_ ?_ ?_ ?_) (L2.AW ?_ ?_ ?_ ?_) (L2.AW ?_ ?_ ?_ ?_) (L2.AW ?_ ?_ ?_ ?_) (L2.AW ?_ ?_ ?_ ?_) (L2.AW ?_ ?_ ?_ ?_) (L2.AW ?_ ?_ ?_ ?_) (L2.AW ?_ ?_ ?_ ?_) (L2.AW ?_ ?_ ?_ ?_) (L2.AW ?_ ?_ ?_ ?_) (L2.AW ?_ ?_ ?_ ?_) (L2.AW ?_ ?_ ?_ ?_) (L2.AW ?_ ?_ ?_ ?_) (L2.AW ?_ ?_ ?_ ?_) (L2.AW ?_ ?_ ?_ ?_) (L2.AW ?_ ?_ ?_ ?_) (L2.AW ?_ ?_ ?_ ?_) (L2.AW ?_ ?_ ?_ ?_) (L2.AW ?_ ?_ ?_ ?_) (L2.AW ?_ ?_ ?_ ?_) (L2.AW ?_ ?_ ?_ ?_) (L2.AW ?_ ?_ ?_ ?_) (L2.AW ?_ ?_ ?_ ?_) (L2.AW ?_ ?_ ?_ ?_) (L2.AW ?_ ?_ ?_ ?_) (L2.AW ?_ ?_ ?_ ?_) ?_ ?_ ?_ ?_ ?_ ?_ ?_ ?_ ?_ ?_ ?_ ?_ ?_ ?_ ?_ ?_ ?_ ?_ ?_ ?_ ?_ ?_ ?_ ?_ ?_ ?_ ?_ ?_ ?_ ?_ ?_ ?_ ?_ ?_ ?_ ?_ ?_ ?_ ?_ ?_ ?_ ?_ ?_ ?_ ?_
  any_goals k_is
  ·kernel_rfl
  ·k_exc
  ·k_exc
  ·k_exc
  ·k_exc
  ·k_exc
  ·k_exc
  ·kernel_rfl
  ·show PySem.W.isClsIn _ _=true;k_is
  ·kernel_rfl
  ·kts_exm
  ·kts_exm
  ·kts_exm
