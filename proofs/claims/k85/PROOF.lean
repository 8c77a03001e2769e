import PyProof.Rows.All
import Wide.All
import OpenK.AllK
import Wide.FinOn
import Lean
import PyProof.EqAt
import PyProof.EqKinds
import PyProof.TupleCall
import PySem.Challenge.RW_rowrules_k85_what_a_book_refuses
set_option Elab.async false
set_option linter.all false
set_option maxRecDepth 100000
abbrev qA:=@PySem.wpAny_bind
abbrev qB:=@PySem.wpAny_pure
abbrev qC:=@if_neg
abbrev qD:=@if_pos
abbrev qE:=@absurd
abbrev qF:=@decide_eq_true
abbrev qG:=@decide_eq_false
abbrev qH:=@PySem.wpAny_mono
abbrev qI:=@of_decide_eq_true
abbrev qJ:=@PySem.wpAny_holding
abbrev qK:=@congrArg
abbrev qL:=@PySem.Value
abbrev qM:=@PySem.Addr
abbrev qN:=@PySem.Shared
abbrev qO:=@PySem.Program
abbrev qP:=@PySem.World
abbrev qQ:=PySem.W.Frag
abbrev qR:=List Int
abbrev qS:=Nat×Nat
abbrev aW:=@List.length_map
abbrev aY:=@List.forall_mem_cons
abbrev aZ:=@PySem.Heap.get?_push_of_some
abbrev aa:=@List.mem_cons_of_mem
abbrev ac:=@List.length_append
abbrev ae:=@List.getElem?_eq_some_iff
abbrev af:=@Nat.le_refl
abbrev ag:=@PySem.Heap.lt_size
abbrev ah:=@List.mem_cons_self
abbrev ai:=@Array.length_toList
abbrev aj:=@PySem.Heap.get?_push_size
abbrev ak:=@List.mem_singleton
abbrev am:=@Nat.lt_of_lt_of_le
abbrev ao:=@List.getElem?_eq_getElem
abbrev ap:=@Bool.false_ne_true
abbrev aq:=@List.getD_eq_getElem?_getD
abbrev ar:=@List.mem_append
abbrev au:=@Bool.and_eq_true
abbrev aw:=@List.mem_cons
abbrev ax:=@List.not_mem_nil
abbrev ay:=@List.getElem?_map
abbrev az:=@List.map_append
abbrev a8:=@List.mem_of_getElem?
abbrev a9:=@List.length_cons
abbrev bA:=@Nat.ne_of_lt
abbrev bB:=@Nat.le_trans
abbrev bC:=@PySem.boot_len
abbrev bD:=@List.all_eq_true
abbrev bE:=@List.mem_append_right
abbrev bF:=@List.map_cons
abbrev bG:=@PySem.Heap.get?_update_self
abbrev bH:=@Option.map_eq_some_iff
abbrev bI:=@Int.toNat_natCast
abbrev bJ:=@List.length_take
abbrev bK:=@PyProof.Rows.callWith_type1
abbrev bL:=@List.mem_map
abbrev bM:=@Nat.lt_irrefl
abbrev bN:=@List.take_length
abbrev bO:=@List.append_nil
abbrev bP:=@PySem.F.plainAttrs_str
abbrev bQ:=@List.mem_range
abbrev bR:=@List.mem_filter
abbrev bS:=@List.size_toArray
abbrev bT:=@List.mem_iff_getElem?
abbrev bU:=@PySem.W.hideAll_get
abbrev bV:=@List.take_add_one
abbrev bW:=@PySem.W.kia_one
abbrev bX:=@Int.pow_succ
abbrev bY:=@PyProof.Rows.boot_str
abbrev bZ:=@List.lookup_cons
abbrev ba:=@PySem.Heap.get?_update_other
abbrev be:=@List.take_of_length_le
abbrev bf:=@PySem.Heap.size_push
abbrev bg:=@List.range_succ
abbrev bh:=@Int.toNat_of_nonneg
abbrev bi:=@List.length_singleton
abbrev bj:=@Nat.zero_le
abbrev bo:=@Nat.ne_of_gt
abbrev bp:=@List.getElem?_append_right
abbrev bq:=@List.length_range
abbrev br:=@Array.toList_append
abbrev bt:=@Array.getElem?_eq_getElem
abbrev bu:=@Int.zero_add
abbrev bv:=@PySem.F.slot_str_join
abbrev bx:=@PySem.F.type_str_join
abbrev bz:=@Int.mul_le_mul_of_nonneg_left
abbrev b8:=@Nat.le_succ
abbrev b9:=@List.nodup_cons
abbrev cB:=@List.map_congr_left
abbrev cC:=@Array.getElem?_eq_some_iff
abbrev cD:=@PySem.F.excBase_ValueError
abbrev cE:=@List.mem_filterMap
abbrev cF:=@List.getElem?_eq_none
abbrev cG:=@Int.pow_zero
abbrev cH:=@Int.le_of_lt
abbrev cI:=@List.filter_append
abbrev cJ:=@PySem.W.looks_findIn
abbrev cK:=@Option.isSome_iff_exists
abbrev cL:=@List.nodup_append
abbrev cM:=@Nat.le_of_lt
abbrev cN:=@PySem.mem_of_lookup
abbrev cO:=@Nat.toDigits_of_lt_base
abbrev cP:=@List.flatMap_append
abbrev cQ:=@List.take_succ
abbrev cR:=@PySem.W.of_hideAll
abbrev cS:=@Int.emod_lt_of_pos
abbrev cT:=@List.pairwise_cons
abbrev cU:=@PySem.F.slot_dict_setdefault
abbrev cV:=@Bool.eq_iff_iff
abbrev cW:=@List.length_filter_le
abbrev cX:=@List.append_assoc
abbrev cZ:=@Option.isSome_map
abbrev cb:=@List.flatMap_cons
abbrev ce:=@PySem.Heap.get?_none_of_le
abbrev cf:=@List.findIdx?_eq_none_iff
abbrev cg:=@PySem.F.slot_dict_getitem
abbrev cj:=@Nat.mul_le_mul
abbrev cm:=@List.length_drop
abbrev cn:=@List.cons_append
abbrev cp:=@List.getElem_mem
abbrev cq:=@List.flatMap_nil
abbrev cr:=@List.length_reverse
abbrev cu:=@PySem.Heap.get?_update_ne
abbrev cv:=@Int.mul_comm
abbrev cw:=@PySem.W.callWith_K
abbrev cx:=@Int.emod_nonneg
abbrev cy:=@PySem.F.plainAttrs_list
abbrev cz:=@List.getElem?_set_self
abbrev c5:=@PySem.W.funFrames_hide
abbrev c7:=@Int.ediv_eq_zero_of_lt
abbrev c8:=@PySem.W.kitx_list
abbrev dA:=@PySem.W.kitx_dict
abbrev dB:=@Nat.lt_succ_of_lt
abbrev dC:=@Bool.and_false
abbrev dD:=@Int.mul_le_mul
abbrev dE:=@List.nodup_nil
abbrev dF:=@PyProof.Rows.boot_all
abbrev dG:=@List.getElem_inj
abbrev dH:=@Nat.lt_succ_self
abbrev dI:=@List.mem_reverse
abbrev dJ:=@List.any_eq_true
abbrev dL:=@List.mem_flatMap
abbrev dM:=@List.mem_append_left
abbrev dN:=@List.getElem?_set_ne
abbrev dO:=@List.reverse_reverse
abbrev dP:=@Nat.div_lt_of_lt_mul
abbrev dQ:=@List.mem_of_mem_take
abbrev dR:=@List.any_cons
abbrev dS:=@Nat.mul_comm
abbrev dU:=@List.map_map
theorem byG{T:Prop}(h:∀G:Prop,(T->G)->G):T:=h T id
namespace L2
open PySem PySem.Spec PyProof.Rows
abbrev BQ:=Sum Int Str
noncomputable def Ic:BQ->qL->Bool
 |.inl k,v=>Value.isInt k v
 |.inr x,v=>Value.isStrOf x v
noncomputable def ZS(w:qP):BQ->Int
 |.inl k=>hashInt k
 |.inr x=>hashStr w x
theorem BG:∀{k:BQ} {v:qL},Ic k v=true->(∃i t,k=Sum.inl i/\v=Value.int i t)\/(∃x t,k=Sum.inr x/\v=Value.str x t)
 |.inl i,v,h=>by obtain⟨t,e⟩:=Value.isInt_shape (k:=i) (v:=v) h;exact .inl ⟨i,t,rfl,e⟩
 |.inr x,v,h=>by obtain⟨t,e⟩:=Value.isStrOf_shape (x:=x) (v:=v) h;exact .inr ⟨x,t,rfl,e⟩
theorem Nt(i:Int)(t:Tok):Ic (.inl i) (.int i t)=true:=by simp[Ic,Value.isInt]
theorem Nu(x:Str)(t:Tok):Ic (.inr x) (.str x t)=true:=by simp[Ic,Value.isStrOf]
theorem Ts(a b:Int):decide ((Sum.inl a:BQ)=Sum.inl b)=(a==b):=by
 by_cases e:a=b
 ·subst e;simp
 ·have h:¬(Sum.inl a:BQ)=Sum.inl b:=λq=>e (Sum.inl.inj q)
  rw[qG h];exact (beq_eq_false_iff_ne.mpr e).symm
theorem Tt(a b:Str):decide ((Sum.inr a:BQ)=Sum.inr b)=decide (a=b):=by
 by_cases e:a=b
 ·subst e;simp
 ·have h:¬(Sum.inr a:BQ)=Sum.inr b:=λq=>e (Sum.inr.inj q)
  rw[qG h,qG e]
theorem Tu(a:Int)(b:Str):decide ((Sum.inl a:BQ)=Sum.inr b)=false:=qG (λq=>nomatch q)
theorem Tv(a:Str)(b:Int):decide ((Sum.inr a:BQ)=Sum.inl b)=false:=qG (λq=>nomatch q)
noncomputable def A6(prog:qO)(w:qP):PySem.KeyKind prog w BQ where
 is:=Ic
 hash:=ZS w
 inj:=λv a b ha hb=>by
  rcases BG ha with⟨i,t,rfl,rfl⟩|⟨x,t,rfl,rfl⟩
  ·rcases BG hb with⟨j,u,rfl,e⟩|⟨y,u,rfl,e⟩
   ·injection e with e1 _;rw[e1]
   ·exact nomatch e
  ·rcases BG hb with⟨j,u,rfl,e⟩|⟨y,u,rfl,e⟩
   ·exact nomatch e
   ·injection e with e1 _;rw[e1]
 byValue:=λk v h=>by rcases BG h with⟨i,t,rfl,rfl⟩|⟨x,t,rfl,rfl⟩<;>rfl
 pyHash:=λhv h=>by
  rcases BG hv with⟨i,t,rfl,rfl⟩|⟨x,t,rfl,rfl⟩
  ·exact wpAny_pyHash_int h
  ·exact wpAny_pyHash_str h
 eqBool:=λhu hv h=>by
  rcases BG hu with⟨i,t,rfl,rfl⟩|⟨x,t,rfl,rfl⟩
  ·rcases BG hv with⟨j,u,rfl,rfl⟩|⟨y,u,rfl,rfl⟩
   ·rw[Ts]at h;exact wpAny_eqBool_int h
   ·rw[Tu]at h;exact SeqAt.EqAt.int_str i t y u _ _ _ _ h
  ·rcases BG hv with⟨j,u,rfl,rfl⟩|⟨y,u,rfl,rfl⟩
   ·rw[Tv]at h;exact SeqAt.EqAt.str_int x t j u _ _ _ _ h
   ·rw[Tt]at h;exact wpAny_eqBool_str h
 «strs»:=λk x t v h=>by
  rcases BG h with⟨i,u,rfl,e⟩|⟨y,u,rfl,e⟩
  ·exact nomatch e
  ·injection e with e1 _
   subst e1;cases v<;>rfl
theorem KR(prog:qO)(w:qP)(i:Int)(t:Tok):(A6 prog w).is (.inl i) (.int i t)=true:=Nt i t
theorem KS(prog:qO)(w:qP)(x:Str)(t:Tok):(A6 prog w).is (.inr x) (.str x t)=true:=Nu x t
inductive V where
 |non|bl (b:Bool)|int (i:Int)|str (x:Str)|byt (b:Array UInt8)|flt (b:UInt64)|ref (a:qM)|ty (n:String)
 deriving DecidableEq
def Av:V->qL->Prop
 |.non,u=>u=Value.none
 |.bl b,u=>u=Value.bool b
 |.int i,u=>∃t,u=Value.int i t
 |.str x,u=>∃t,u=Value.str x t
 |.byt b,u=>∃t,u=Value.bytes b t
 |.flt b,u=>∃t,u=Value.float b t
 |.ref a,u=>u=Value.ref a
 |.ty n,u=>u=Value.type n
abbrev Au:List V->List qL->Prop:=Paired Av
variable{xs:List V}{us:List qL}
theorem Au.length(r:Au xs us):xs.length=us.length:=Paired.length r
theorem Au.get:∀{xs:List V} {us:List qL} {i:Nat} {x:V},Au xs us->xs[i]?=some x->∃u,us[i]?=some u/\Av x u
 |_,_,_,_,.nil,e=>by simp at e
 |_,_,0,_,.cons r _,e=>by simp at e;subst e;exact⟨_,rfl,r⟩
 |_,_,i+1,x,.cons _ t,e=>by obtain⟨u,h1,h2⟩:=Au.get (i:=i) (x:=x) t (by simpa using e);exact⟨u,by simpa using h1,h2⟩
theorem Au.append:∀{xs ys:List V} {us ws:List qL},Au xs us->Au ys ws->Au (xs++ys) (us++ws):=by
 intro _ _ _ _ h s
 induction h with
 |nil=>exact s
 |cons r _ ih=>exact .cons r ih
theorem Au.take:∀{xs:List V} {us:List qL} (n:Nat),Au xs us->Au (xs.take n) (us.take n)
 |_,_,0,_=>.nil
 |_,_,_+1,.nil=>.nil
 |_,_,n+1,.cons r t=>.cons r (Au.take n t)
theorem Au.drop:∀{xs:List V} {us:List qL} (n:Nat),Au xs us->Au (xs.drop n) (us.drop n)
 |_,_,0,r=>r
 |_,_,_+1,.nil=>.nil
 |_,_,n+1,.cons _ t=>Au.drop n t
noncomputable def DP:Option V->Option qL->Prop
 |some v,some u=>Av v u
 |none,none=>True
 |_,_=>False
def KV{κ:Type}:List (κ×V)->List (κ×qL)->Prop:=Paired λ(p:κ×V) (q:κ×qL)=>p.1=q.1/\Av p.2 q.2
def kV:BQ->V
 |.inl i=>.int i
 |.inr x=>.str x
inductive HO where
 |lst (xs:List V)
 |tup (xs:List V)
 |dK (kvs:List (BQ×V))|dT (kvs:List (List BQ×V))
 |set (S:Int->Bool) (n:Nat)
 |ins (C dx:qM) (fs:List (Str×V))
 |own (x:qM)
 |xd (fs:List (Str×V))
 |met (f x:qM)
 |rng (lo hi:Int)
 |frz (o:Obj) (u:HO)
 |tbl (ps:Array qL)
 |ext (φ:Heap->Prop)
abbrev Hp:=qM->Option HO
noncomputable def Ai(H:Hp)(a:qM)(o:HO):Hp:=λb=>if b=a then some o else H b
variable{H:Hp}{a:qM}{o:HO}
theorem AF:Ai H a o a=some o:=by unfold Ai;rw[qD rfl]
theorem AR{b:qM}(h:b≠a):Ai H a o b=H b:=by unfold Ai;rw[qC h]
theorem DE{u:HO}:Ai (Ai H a o) a u=Ai H a u:=by
 funext b;unfold Ai;split<;>rfl
theorem Eg{b:qM}{u:HO}(h:H a=some o)(h':H b=some u)(d:o≠u):a≠b:=by intro e;subst e;rw[h]at h';exact d (Option.some.inj h')
theorem A3{b:qM}(h:H a=some o)(h':H b=none):a≠b:=by intro e;subst e;rw[h]at h';cases h'
section
variable(P:qO)(w:qP)
noncomputable def An(H:Hp)(h:Heap)(a:qM):HO->Prop
 |.lst xs=>xs.length<=sizeLine/\∃(its:List qL) (n:Nat),Au xs its/\h.get? a=some {cls:=.type "list",data:=.seq its.toArray n}
 |.tup xs=>xs.length<=sizeLine/\∃its:List qL,Au xs its/\IsTup h a its.toArray
 |.dK kvs=>kvs.length<=sizeLine/\(a==sysModules)=false/\∃vs,KV kvs vs/\h.DictOf (A6 P w) a vs
 |.dT kvs=>kvs.length<=sizeLine/\(a==sysModules)=false/\∃xs:List (List BQ×qM×qL),
   Paired (λ(p:List BQ×V) (q:List BQ×qM×qL)=>p.1=q.1/\H q.2.1=some (.tup (p.1.map kV))/\Av p.2 q.2.2) kvs xs /\
   ∃o es ep,h.get? a=some o/\o.ExactDict/\o.data=.dict es ep/\es.toList=xs.map (entryOfKey (tupleKind (A6 P w)))/\(xs.map (·.1)).Nodup
 |.set S n=>h.SetOf (intKind P w) a S n
 |.ins C dx fs=>H dx=some (.own a)/\fs.length<=1000/\dx≠a/\h.get? a=some (PySem.W.instObj C dx) /\
   ∃mA,h.Ns1 dx mA/\(∀f,DP (fs.lookup f) (mA f))/\PySem.Within mA (fs.map (·.1))
 |.own _=>∃o,h.get? a=some o
 |.xd fs=>∃mA,h.Ns1 a mA/\∀f,DP (fs.lookup f) (mA f)
 |.rng lo hi=>∃t u v,h.get? a=some {cls:=.type "range",data:=.fields #[.int lo t,.int hi u,.int 1 v]}
 |.frz o u=>h.get? a=some o/\An H h a u
 |.tbl ps=>h.get? a=some {cls:=.none,data:=.fields ps}
 |.met f x=>h.get? a=some (PySem.W.methodObj (.ref f) (.ref x))
 |.ext φ=>φ h/\(∃o,h.get? a=some o)/\∀h1 h2:Heap,φ h1->(∀o,h1.get? a=some o->h2.get? a=some o)->φ h2
def D4(H:Hp)(h:Heap):Prop:=∀a o,H a=some o->An P w H h a o
end
variable{α β:Type}
section
variable{P:qO}{w:qP}{H':Hp}{h h':Heap}
theorem An.lt(x:An P w H h a o):a<h.objs.size:=by
 cases o with
 |lst xs=>obtain⟨_,_,_,_,e⟩:=x;exact ag e
 |tup xs=>obtain⟨_,_,_,p⟩:=x;exact p.lt
 |dK kvs=>obtain⟨_,_,_,_,o,_,_,e,_⟩:=x;exact ag e
 |dT kvs=>obtain⟨_,_,_,_,o,_,_,e,_⟩:=x;exact ag e
 |set S n=>obtain⟨o,_,_,_,e,_⟩:=x;exact ag e
 |ins C dx fs=>obtain⟨_,_,_,e,_⟩:=x;exact ag e
 |own y=>obtain⟨_,e⟩:=x;exact ag e
 |xd fs=>obtain⟨_,⟨_,_,_,e,_⟩,_⟩:=x;exact ag e
 |rng lo hi=>obtain⟨_,_,_,e⟩:=x;exact ag e
 |frz ob u=>obtain⟨e,_⟩:=x;exact ag e
 |tbl ps=>exact ag (show h.get? a=some _ from x)
 |met f y=>exact ag (show h.get? a=some _ from x)
 |ext φ=>obtain⟨_,⟨_,e⟩,_⟩:=x;exact ag e
theorem Paired.mapP{F G:α->β->Prop}:∀{l₁:List α} {l₂:List β},Paired F l₁ l₂->(∀a b,F a b->G a b)->Paired G l₁ l₂:=by
 intro _ _ h f
 induction h with
 |nil=>exact .nil
 |cons r _ ih=>exact .cons (f _ _ r) ih
theorem An.stay(x:An P w H h a o)(k:∀b u,(b=a\/H b=some (.own a))->h.get? b=some u->h'.get? b=some u)
  (ho:∀b,H b=some (.own a)->H' b=some (.own a)) (ht:∀b xs,H b=some (.tup xs)->H' b=some (.tup xs)):An P w H' h' a o:=by
 induction o with
 |lst xs=>obtain⟨z,its,n,r,e⟩:=x;exact⟨z,its,n,r,k _ _ (.inl rfl) e⟩
 |tup xs=>obtain⟨z,its,r,ob,e,c⟩:=x;exact⟨z,its,r,ob,k _ _ (.inl rfl) e,c⟩
 |dK kvs=>obtain⟨z,y,vs,r,ob,es,ep,e,c⟩:=x;exact⟨z,y,vs,r,ob,es,ep,k _ _ (.inl rfl) e,c⟩
 |dT kvs =>
  obtain⟨z,y,xs,r,ob,es,ep,e,c⟩:=x;exact⟨z,y,xs,Paired.mapP r λp q z=>⟨z.1,ht _ _ z.2.1,z.2.2⟩,ob,es,ep,k _ _ (.inl rfl) e,c⟩
 |set S n=>obtain⟨ob,es,ep,t,e,c⟩:=x;exact⟨ob,es,ep,t,k _ _ (.inl rfl) e,c⟩
 |ins C dx fs =>
  obtain⟨d,z,ne,e,mA,⟨od,es,ep,e2,c⟩,r⟩:=x;exact⟨ho _ d,z,ne,k _ _ (.inl rfl) e,mA,⟨od,es,ep,k _ _ (.inr d) e2,c⟩,r⟩
 |own y=>obtain⟨ob,e⟩:=x;exact⟨ob,k _ _ (.inl rfl) e⟩
 |xd fs=>obtain⟨mA,⟨od,es,ep,e,c⟩,r⟩:=x;exact⟨mA,⟨od,es,ep,k _ _ (.inl rfl) e,c⟩,r⟩
 |rng lo hi=>obtain⟨t,u,v,e⟩:=x;exact⟨t,u,v,k _ _ (.inl rfl) e⟩
 |frz ob u ih=>obtain⟨e,q⟩:=x;exact⟨k _ _ (.inl rfl) e,ih q⟩
 |tbl ps =>
  have e:h.get? a=some {cls:=.none,data:=.fields ps}:=x;show h'.get? a=some {cls:=.none,data:=.fields ps};exact k a _ (.inl rfl) e
 |met f y =>
  have e:h.get? a=some (PySem.W.methodObj (.ref f) (.ref y)):=x;show h'.get? a=some (PySem.W.methodObj (.ref f) (.ref y));exact k a _ (.inl rfl) e
 |ext φ=>obtain⟨p,⟨o,e⟩,st⟩:=x;exact⟨st _ _ p λo q=>k _ _ (.inl rfl) q,⟨o,k _ _ (.inl rfl) e⟩,st⟩
theorem D4.lt(x:D4 P w H h)(e:H a=some o):a<h.objs.size:=(x a o e).lt
theorem D4.fresh(x:D4 P w H h)(e:h.objs.size<=a):H a=none:=by
 cases q:H a with
 |none=>rfl
 |some u=>exact qE (am (x.lt q) e) (bM _)
theorem D4.kept(x:D4 P w H h)(k:∀b u,h.get? b=some u->h'.get? b=some u):D4 P w H h':=λa o e =>
 (x a o e).stay (λb u _ q=>k b u q) (λ_ q=>q) λ_ _ q=>q
theorem D4.laid(x:D4 P w H h)(k:∀b u,h.get? b=some u->h'.get? b=some u)(hp:h.objs.size<=a)(new:An P w (Ai H a o) h' a o):D4 P w (Ai H a o) h':=λb u e=>by
 have hn:=x.fresh hp
 by_cases hb:b=a
 ·subst hb;rw[AF]at e;cases e;exact new
 ·rw[AR hb]at e;exact (x b u e).stay (λc v _ q=>k c v q) (λc q=>by rw[AR (A3 q hn)];exact q) λc xs q=>by rw[AR (A3 q hn)];exact q
end
def Rd(H:Hp)(a:qM)(u:HO):Prop:=H a=some u\/∃o,H a=some (.frz o u)
variable{h:Heap}
theorem Rd.ok{P:qO}{w:qP}{u:HO}(r:Rd H a u)(x:D4 P w H h):An P w H h a u:=by
 rcases r with r|⟨o,r⟩
 ·exact x a u r
 ·obtain⟨_,q⟩:=x a _ r;exact q
noncomputable def WJ:Option HO->Prop
 |some (.lst _)=>True
 |some (.dK _)=>True
 |some (.dT _)=>True
 |some (.set _ _)=>True
 |some (.ins _ _ _)=>True
 |some (.ext _)=>True
 |_=>False
section
variable{P:qO}{w:qP}{h':Heap}{x e:qM}{o':HO}
theorem D4.write(ok:D4 P w H h)(mu:WJ (H x))(he:e=x\/H e=some (.own x))(k:∀b u,b≠e->h.get? b=some u->h'.get? b=some u)(heo:∃u,h'.get? e=some u)
  (new:An P w (Ai H x o') h' x o'):D4 P w (Ai H x o') h':=λb u q=>by
 have nown:∀c y,H c=some (.own y)->c≠x:=λc y r z=>by subst z;rw[r]at mu;exact mu
 have ntup:∀c xs,H c=some (.tup xs)->c≠x:=λc xs r z=>by subst z;rw[r]at mu;exact mu
 by_cases hb:b=x
 ·subst hb;rw[AF]at q;cases q;exact new
 ·rw[AR hb]at q
  by_cases hbe:b=e
  ·have q':H b=some (.own x):=by
    rcases he with z|z
    ·exact qE (hbe.trans z) hb
    ·rw[hbe];exact z
   rw[q]at q';cases q';obtain⟨v,hv⟩:=heo;exact⟨v,by rw[hbe];exact hv⟩
  ·refine (ok b u q).stay (λc v hc r=>k c v ?_ r) (λc r=>by rw[AR (nown c b r)];exact r) λc xs r=>by rw[AR (ntup c xs r)];exact r
   rcases hc with rfl|hc
   ·exact hbe
   ·rintro rfl;rcases he with z|z
    ·exact nown c b hc z
    ·rw[hc]at z;cases z;exact hb rfl
end
structure Un(fs ex:List qM)(H H':Hp)(h h':Heap):Prop where
 keep:∀b o,h.get? b=some o->H b=none->b∉fs->b∉ex->h'.get? b=some o
 slot:∀b o,h.get? b=some o->H b=none->b∈fs->b∉ex->∃sl,h'.get? b=some {o with slots:=sl}
 free:∀b o,h.get? b=some o->H b=none->b∉ex->H' b=none
 there:∀b o,h.get? b=some o->b∉ex->∃o',h'.get? b=some o'
 tups:∀b xs,H b=some (.tup xs)->H' b=some (.tup xs)
 frzs:∀b o u,H b=some (.frz o u)->H' b=some (.frz o u)
 tbls:∀b ps,H b=some (.tbl ps)->∃more,H' b=some (.tbl (ps++more))
section
variable{fs fs' ex ex':List qM}{H1 H2:Hp}{h1 h2 h':Heap}{x e:qM}
theorem Un.any(u:Un fs ex H H1 h h1){b:qM}{ob:Obj}(q:h.get? b=some ob)(n:H b=none)(hx:b∉ex):∃sl,h1.get? b=some {ob with slots:=sl}:=by
 by_cases hb:b∈fs
 ·exact u.slot b ob q n hb hx
 ·exact⟨ob.slots,u.keep b ob q n hb hx⟩
theorem Un.kept(k:∀b u,h.get? b=some u->h'.get? b=some u):Un fs ex H H h h':=
 ⟨λb ob q _ _ _=>k b ob q,λb ob q _ _ _=>⟨ob.slots,k b ob q⟩,λ_ _ _ n _=>n,λb ob q _=>⟨ob,k b ob q⟩,λ_ _ q=>q,λ_ _ _ q=>q,λ_ ps q=>⟨#[],by rw[q];simp⟩⟩
theorem Un.refl:Un fs ex H H h h:=Un.kept λ_ _ q=>q
theorem Un.laid(k:∀b u,h.get? b=some u->h'.get? b=some u)(hp:h.objs.size<=a)(hn:H a=none):Un fs ex H (Ai H a o) h h' where
 keep:=λb u q _ _ _=>k b u q
 slot:=λb u q _ _ _=>⟨u.slots,k b u q⟩
 free:=λb u q n _=>by rw[AR (bA (am (ag q) hp))];exact n
 there:=λb u q _=>⟨u,k b u q⟩
 tups:=λb xs q=>by rw[AR (A3 q hn)];exact q
 frzs:=λb u xs q=>by rw[AR (A3 q hn)];exact q
 tbls:=λb ps q=>⟨#[],by rw[AR (A3 q hn),q];simp⟩
theorem Un.write(mu:WJ (H x))(he:e=x\/H e=some (.own x))(k:∀b u,b≠e->h.get? b=some u->h'.get? b=some u)(heo:∃u,h'.get? e=some u):Un fs ex H (Ai H x o) h h':=by
 have hx:∀b,H b=none->b≠x:=λb n z=>by subst z;rw[n]at mu;exact mu
 have hb:∀b,H b=none->b≠e:=λb n z=>by
  subst z;rcases he with r|r
  ·exact hx b n r
  ·rw[n]at r;cases r
 have hm:∀b u,H b=some u->¬WJ (some u)->b≠x:=λb u q nm z=>by subst z;rw[q]at mu;exact nm mu
 refine⟨λb u q n _ _=>k b u (hb b n) q,λb u q n _ _=>⟨u.slots,k b u (hb b n) q⟩,λb u q n _=>by rw[AR (hx b n)];exact n,λb u q _=>?_,
  λb xs q=>by rw[AR (hm b _ q λz=>z)];exact q,λb u xs q=>by rw[AR (hm b _ q λz=>z)];exact q,λb ps q=>⟨#[],by rw[AR (hm b _ q λz=>z),q];simp⟩⟩
 by_cases hbe:b=e
 ·subst hbe;exact heo
 ·exact⟨u,k b u hbe q⟩
end
noncomputable def trk(h:Heap)(H:Hp):List qM:=(List.range h.objs.size).filter λa=>(H a).isSome
noncomputable def Em(h:Heap)(H:Hp):Heap:=PySem.W.hideAll h (trk h H)
theorem Ie(h:Heap)(H:Hp):(Em h H).objs.size=h.objs.size:=PySem.W.hideAll_size _ _
theorem KU{b:qM}{o:Obj}(e:h.get? b=some o)(n:H b=none):(Em h H).get? b=some o:=
 bU _ e λhm=>by have q:(H b).isSome=true:=(bR.mp hm).2;rw[n]at q;simp at q
theorem Ml{b:qM}{o:Obj}(e:(Em h H).get? b=some o):h.get? b=some o/\H b=none:=by
 have e':h.get? b=some o:=cR (trk h H) e;refine⟨e',?_⟩;cases q:H b with
 |none=>rfl
 |some x =>
  have hm:b∈trk h H:=List.mem_filter.mpr ⟨List.mem_range.mpr (Heap.lt_size e'),by simp[q]⟩;have z:(Em h H).get? b=none:=PySem.W.hideAll_none (trk h H) hm;rw[z]at e;cases e
structure WK(K:qQ)(mg:Str->Option qL)(base:Heap):Prop where
 kin:K.In base
 glob:base.Ns mainGlobals mg
 blt:∃mb,base.Ns builtinsNs mb/\∀x:Str,x≠"__name__"->mb x=bootBuiltins x
 nolimit:base.NoLimit
structure Cx where
 prog:qO
 w:qP
 K:qQ
 mg:Str->Option qL
 base:Heap
 A:Around
 N:List Str
 s₀:qN
 H₀:Hp
 env:Env
 outer:List Env
 stack:List Env
 ex:List qM
 fn:Str->Bool
 calm:Bool
 pn:List (qM×Obj)
 xe:qL->qN->Prop
def CC(l:List Env):List qM:=l.filterMap (·.frame)
abbrev Cx.fs(X:Cx):List qM:=CC X.outer
def ZT(sc:Scope)(x:Str):Prop:=sc.names.lookup x=some .local\/sc.names.lookup x=some .cell\/sc.names.lookup x=some .free
def So(sc:Scope)(x:Str):Prop:=sc.names.lookup x=some .local\/sc.names.lookup x=some .cell
def ZU(env:Env)(h:Heap)(m:Str->Option qL)(x:Str)(u:qL):Prop:=
 (env.kindOf x=some .local/\m x=some u)\/((env.kindOf x=some .cell\/env.kindOf x=some .free)/\∃c,env.cells.lookup x=some c/\h.IsCell c (some u))
structure Cx.Ok(X:Cx):Prop where
 mod:WK X.K X.mg X.base
 kind:X.env.scope.kind=.function
 glob:X.env.globals=mainGlobals
 blt:X.env.builtins=builtinsNs
 above:X.s₀.heap.objs.size<=X.env.locals
 inj:∀x y c,X.env.cells.lookup x=some c->X.env.cells.lookup y=some c->x=y
 has:∀x,(X.env.kindOf x=some .cell\/X.env.kindOf x=some .free)->∃c,X.env.cells.lookup x=some c
 cab:∀x c,X.fn x=true->X.env.cells.lookup x=some c->X.s₀.heap.objs.size<=c
 hd:X.calm=true->X.A.handled=none
 frames:X.A.frames=some X.stack
 stk:X.stack=X.outer\/(X.stack=X.env::X.outer/\X.env.frame=some X.env.locals)
 exf:∀b∈X.ex,b≠X.env.locals/\∀x c,X.env.cells.lookup x=some c->c≠b
 bs:∀b o,X.base.get? b=some o->X.s₀.heap.get? b=some o/\X.H₀ b=none
 bsz:X.base.objs.size<=X.s₀.heap.objs.size
 noex:∀b o,X.base.get? b=some o->b∉X.ex
 exfs:∀b∈X.ex,b∉X.fs
 funs:X.s₀.heap.FunFrames X.base X.outer
 frf:∀b∈X.fs,X.H₀ b=none
structure AX(X:Cx)(ad:List (qM×Obj))(σ:List (Option V))(H:Hp)(s:qN):Prop where
 ok:X.Ok
 os:s.os=X.s₀.os
 bare:AllBare s.gens
 base:Un X.fs X.ex X.H₀ H X.s₀.heap s.heap
 loc:∃m,s.heap.Ns X.env.locals m/\∀(i:Nat) (x:Str) (v:V),X.N[i]?=some x->σ[i]?=some (some v)->ZT X.env.scope x->∃u,Av v u/\ZU X.env s.heap m x u
 cell:∀x c,X.env.cells.lookup x=some c->∃v,s.heap.IsCell c v
 free:H X.env.locals=none
 freeC:∀x c,X.env.cells.lookup x=some c->H c=none
 pin:∀p∈X.pn++ad,s.heap.get? p.1=some p.2/\H p.1=none/\p.1≠X.env.locals/\p.1∉X.fs/\∀v,p.2.data≠.cell v
 hok:D4 X.prog X.w H s.heap
 len:σ.length=X.N.length
variable{u:qL}{ch:List qM}{t' i j:Nat}{it:qM}{x:Str}{s':qN}
section
variable{X:Cx}{ad:List (qM×Obj)}{σ:List (Option V)}{H':Hp}{s:qN}{h':Heap}
theorem Cx.Ok.nofr(ok:X.Ok){b:qM}{o:Obj}(e:X.base.get? b=some o):b∉X.fs:=λhb=>by have:=(ok.funs.mem hb).1;rw[e]at this;cases this
theorem AX.bs(I:AX X ad σ H s):∀b o,X.base.get? b=some o->s.heap.get? b=some o/\H b=none:=λb o e =>
 ⟨I.base.keep b o (I.ok.bs b o e).1 (I.ok.bs b o e).2 (I.ok.nofr e) (I.ok.noex b o e),I.base.free b o (I.ok.bs b o e).1 (I.ok.bs b o e).2 (I.ok.noex b o e)⟩
theorem AX.bk(I:AX X ad σ H s):∀b o,X.base.get? b=some o->s.heap.get? b=some o:=λb o e=>(I.bs b o e).1
theorem AX.mod(I:AX X ad σ H s):WK X.K X.mg X.base:=I.ok.mod
theorem AX.kIn(I:AX X ad σ H s):X.K.In s.heap:=I.ok.mod.kin.keeps I.bk
theorem AX.lt(I:AX X ad σ H s):X.env.locals<s.heap.objs.size:=let ⟨_,hn,_⟩:=I.loc;hn.lt
theorem AX.sz(I:AX X ad σ H s):X.s₀.heap.objs.size<=s.heap.objs.size:=bB I.ok.above (cM I.lt)
theorem AX.nofs(I:AX X ad σ H s)(h:s.heap.objs.size<=a):a∉X.fs:=λhb=>by obtain⟨_,o,ho,_⟩:=I.ok.funs.mem hb;exact qE (am (ag ho) (bB I.sz h)) (bM _)
theorem AX.cne(I:AX X ad σ H s):∀x c,X.env.cells.lookup x=some c->c≠X.env.locals:=λx c e z=>by obtain⟨v,o,ho,hd⟩:=I.cell x c e;obtain⟨m,⟨o',es,ep,ho',hd',_⟩,_⟩:=I.loc;rw[z,ho']at ho;cases ho;rw[hd']at hd;cases hd
theorem AX.funs(I:AX X ad σ H s):s.heap.FunFrames X.base X.outer:=by
 have all:∀(l:List Env),(∀b∈CC l,b∈X.fs)->X.s₀.heap.FunFrames X.base l->s.heap.FunFrames X.base l:=by
  intro l
  induction l with
  |nil=>intro _ _;trivial
  |cons env r ih =>
   intro hs hl;refine byG λGq hGq=>?_;obtain⟨hk,⟨L,o,hf,hn,ho,hd⟩,hr⟩:=hl;refine hGq ?_;clear hGq Gq;have hL:L∈X.fs:=hs L (by unfold CC;rw[List.filterMap_cons,hf];exact List.mem_cons_self);obtain⟨sl,e⟩:=I.base.slot L o ho (I.ok.frf L hL) hL λz=>I.ok.exfs L z hL
   exact⟨hk,⟨L,_,hf,hn,e,hd⟩,ih (λb hb=>hs b (by unfold CC;rw[List.filterMap_cons,hf];exact List.mem_cons_of_mem _ hb)) hr⟩
 exact all X.outer (λ_ hb=>hb) I.ok.funs
theorem AX.stack(I:AX X ad σ H s):s.heap.FunFrames X.base X.stack:=by
 rcases I.ok.stk with e|⟨e,hf⟩
 ·rw[e];exact I.funs
 ·rw[e];obtain⟨m,hn,_⟩:=I.loc;refine .cons (by rw[I.ok.kind];decide) hf hn ?_ I.funs;exact ce (bB I.ok.bsz I.ok.above)
theorem AX.stkSub(I:AX X ad σ H s):∀b∈CC X.stack,b∈X.env.locals::X.fs:=λb hb=>by
 rcases I.ok.stk with e|⟨e,hf⟩
 ·rw[e]at hb;exact aa _ hb
 ·rw[e]at hb;unfold CC at hb;rw[List.filterMap_cons,hf]at hb;exact hb
theorem AX.stkFree(I:AX X ad σ H s):∀b∈CC X.stack,H b=none:=λb hb=>by
 rcases aw.mp (I.stkSub b hb) with e|hb
 ·rw[e];exact I.free
 ·obtain⟨_,o,ho,_⟩:=I.ok.funs.mem hb;exact I.base.free b o ho (I.ok.frf b hb) λz=>I.ok.exfs b z hb
theorem AX.step{g':Array GenState}{t':Nat}{d':Drawn}(I:AX X ad σ H s)
  (hch:∀b∈ch,(b∈X.ex\/X.s₀.heap.objs.size<=b)/\b≠X.env.locals/\(∀x c,X.env.cells.lookup x=some c->c≠b)/\∀p∈X.pn++ad,p.1≠b)
  (keep:∀b o,b≠X.env.locals->b∉X.fs->b∉ch->s.heap.get? b=some o->H b=none->h'.get? b=some o)
  (slot:∀b o,b≠X.env.locals->b∈X.fs->b∉ch->s.heap.get? b=some o->H b=none->∃sl,h'.get? b=some {o with slots:=sl}) (free:∀b o,b∉ch->s.heap.get? b=some o->H b=none->H' b=none)
  (there:∀b o,b∉ch->s.heap.get? b=some o->∃o',h'.get? b=some o')
  (tups:∀b xs,H b=some (.tup xs)->H' b=some (.tup xs)) (frzs:∀b o u,H b=some (.frz o u)->H' b=some (.frz o u)) (tbls:∀b ps,H b=some (.tbl ps)->∃more,H' b=some (.tbl (ps++more)))
  (ns:∀m,s.heap.Ns X.env.locals m->h'.Ns X.env.locals m) (hok:D4 X.prog X.w H' h') (hg:AllBare g'):
  AX X ad σ H' {s with heap:=h',gens:=g',drawn:=d',toks:=t'}:=by
 have neL:∀b o,X.s₀.heap.get? b=some o->b≠X.env.locals:=λb o e=>bA (am (ag e) I.ok.above)
 have neC:∀b o,X.s₀.heap.get? b=some o->b∉X.ex->b∉ch:=λb o e hx hb=>by
  rcases (hch b hb).1 with z|z
  ·exact hx z
  ·exact qE (am (ag e) z) (bM _)
 have cellK:∀x c,X.env.cells.lookup x=some c->∀v,s.heap.IsCell c v->h'.IsCell c v:=λx c e v ⟨o,ho,hd⟩=>by
  have nch:c∉ch:=λz=>(hch c z).2.2.1 x c e rfl
  by_cases hc:c∈X.fs
  ·obtain⟨sl,q⟩:=slot c o (I.cne x c e) hc nch ho (I.freeC x c e);exact⟨_,q,hd⟩
  ·exact⟨o,keep c o (I.cne x c e) hc nch ho (I.freeC x c e),hd⟩
 refine⟨I.ok,I.os,hg,⟨λb o e n hb hx=>?_,λb o e n hb hx=>?_,λb o e n hx=>?_,λb o e hx=>?_,λb xs e=>tups b xs (I.base.tups b xs e),λb o xs e=>frzs b o xs (I.base.frzs b o xs e),λb ps e=>?_⟩,?_,λx c e=>?_,?_,λx c e=>?_,λp hp=>?_,hok,I.len⟩
 ·exact keep b o (neL b o e) hb (neC b o e hx) (I.base.keep b o e n hb hx) (I.base.free b o e n hx)
 ·obtain⟨sl,e1⟩:=I.base.slot b o e n hb hx;obtain⟨sl',e2⟩:=slot b _ (neL b o e) hb (neC b o e hx) e1 (I.base.free b o e n hx);exact⟨sl',e2⟩
 ·obtain⟨o',e1⟩:=I.base.there b o e hx;exact free b o' (neC b o e hx) e1 (I.base.free b o e n hx)
 ·obtain⟨o',e1⟩:=I.base.there b o e hx;exact there b o' (neC b o e hx) e1
 ·obtain⟨m1,e1⟩:=I.base.tbls b ps e;obtain⟨m2,e2⟩:=tbls b _ e1;exact⟨m1++m2,by rw[e2,Array.append_assoc]⟩
 ·obtain⟨m,hn,hl⟩:=I.loc;refine⟨m,ns m hn,λi x v e1 e2 e3=>?_⟩;obtain⟨u,r,l⟩:=hl i x v e1 e2 e3;refine⟨u,r,?_⟩;rcases l with l|⟨k,c,e,z⟩
  ·exact .inl l
  ·exact .inr ⟨k,c,e,cellK x c e _ z⟩
 ·obtain⟨v,z⟩:=I.cell x c e;exact⟨v,cellK x c e v z⟩
 ·obtain⟨m,⟨o,_,_,ho,_⟩,_⟩:=I.loc;exact free _ o (λz=>(hch _ z).2.1 rfl) ho I.free
 ·obtain⟨v,o,ho,hd⟩:=I.cell x c e;exact free c o (λz=>(hch c z).2.2.1 x c e rfl) ho (I.freeC x c e)
 ·obtain⟨e,n,ne,nf,d⟩:=I.pin p hp;have nch:p.1∉ch:=λz=>(hch p.1 z).2.2.2 p hp rfl
  exact⟨keep p.1 p.2 ne nf nch e n,free p.1 p.2 nch e n,ne,nf,d⟩
theorem AX.un(I:AX X ad σ H s)(u:Un X.fs [] H H' s.heap h')(hok:D4 X.prog X.w H' h'):AX X ad σ H' {s with heap:=h',toks:=t'}:=by
 obtain⟨m,⟨o,es,ep,ho,r⟩,_⟩:=id I.loc;obtain⟨sl,hL⟩:=u.any ho I.free (by simp)
 exact I.step (g':=s.gens) (d':=s.drawn) (ch:=[]) (λ_ z=>nomatch z) (λb o _ hb _ e n=>u.keep b o e n hb (by simp)) (λb o _ hb _ e n=>u.slot b o e n hb (by simp)) (λb o _ e n=>u.free b o e n (by simp)) (λb o _ e=>u.there b o e (by simp)) u.tups u.frzs u.tbls (λm' hm=>by obtain⟨o',es',ep',ho',r'⟩:=hm;rw[ho]at ho';cases ho';exact⟨_,es',ep',hL,r'⟩) hok I.bare
theorem AX.call{g':Array GenState}{d':Drawn}(I:AX X ad σ H s)(u:Un (CC X.stack) ch H H' s.heap h')(hok:D4 X.prog X.w H' h')(hg:AllBare g')
  (hch:∀b∈ch,(b∈X.ex\/X.s₀.heap.objs.size<=b)/\b≠X.env.locals/\(∀x c,X.env.cells.lookup x=some c->c≠b)/\∀p∈X.pn++ad,p.1≠b):
  AX X ad σ H' {s with heap:=h',gens:=g',drawn:=d',toks:=t'}:=by
 obtain⟨m,⟨o,es,ep,ho,r⟩,_⟩:=id I.loc;obtain⟨sl,hL⟩:=u.any ho I.free λz=>(hch _ z).2.1 rfl
 exact I.step (ch:=ch) hch (λb o hL hb hc e n=>u.keep b o e n (λz=>(aw.mp (I.stkSub b z)).elim hL hb) hc) (λb o _ _ hc e n=>u.any e n hc) (λb o hc e n=>u.free b o e n hc) (λb o hc e=>u.there b o e hc) u.tups u.frzs u.tbls (λm' hm=>by obtain⟨o',es',ep',ho',r'⟩:=hm;rw[ho]at ho';cases ho';exact⟨_,es',ep',hL,r'⟩) hok hg
theorem AX.turned(I:AX X ad σ H s)(k:∀b o,b≠it->s.heap.get? b=some o->h'.get? b=some o)(hn:H it=none)(hL:it≠X.env.locals)
  (h1:it∈X.ex\/X.s₀.heap.objs.size<=it) (h2:∀x c,X.env.cells.lookup x=some c->c≠it) (h3:∀p∈X.pn++ad,p.1≠it):AX X ad σ H {s with heap:=h',toks:=t'}:=by
 have nit:∀b u,H b=some u->b≠it:=λb u e z=>by rw[z,hn]at e;cases e
 refine I.step (g':=s.gens) (d':=s.drawn) (ch:=[it]) (λb hb=>?_) (λb o _ _ hc e _=>k b o (λz=>hc (by simp[z])) e) (λb o _ _ hc e _=>⟨o.slots,k b o (λz=>hc (by simp[z])) e⟩) (λ_ _ _ _ n=>n)
  (λb o hc e=>⟨o,k b o (λz=>hc (by simp[z])) e⟩) (λ_ _ e=>e) (λ_ _ _ e=>e) (λb ps e=>⟨#[],by rw[e];simp⟩) (λm hm=>?_) (λb u e=>?_) I.bare
 ·have e:b=it:=by simpa using hb
  subst e;exact⟨h1,hL,h2,h3⟩
 ·obtain⟨o,es,ep,ho,r⟩:=hm;exact⟨o,es,ep,k _ o (Ne.symm hL) ho,r⟩
 ·refine (I.hok b u e).stay (λc v hc q=>k c v ?_ q) (λ_ q=>q) λ_ _ q=>q
  rcases hc with z|z
  ·rw[z];exact nit b u e
  ·exact nit c _ z
theorem AX.tok(I:AX X ad σ H s)(t:Nat):AX X ad σ H {s with toks:=t}:=I.un (h':=s.heap) (t':=t) Un.refl I.hok
theorem AX.kept(I:AX X ad σ H s)(k:∀b u,s.heap.get? b=some u->h'.get? b=some u):AX X ad σ H {s with heap:=h',toks:=t'}:=I.un (Un.kept k) (I.hok.kept k)
theorem AX.laid(I:AX X ad σ H s)(k:∀b u,s.heap.get? b=some u->h'.get? b=some u)(hp:s.heap.objs.size<=a)(new:An X.prog X.w (Ai H a o) h' a o):
  AX X ad σ (Ai H a o) {s with heap:=h',toks:=t'}:=I.un (Un.laid k hp (I.hok.fresh hp)) (I.hok.laid k hp new)
theorem AX.write{x e:qM}(I:AX X ad σ H s)(mu:WJ (H x))(he:e=x\/H e=some (.own x))(k:∀b u,b≠e->s.heap.get? b=some u->h'.get? b=some u)(heo:∃u,h'.get? e=some u)
  (new:An X.prog X.w (Ai H x o) h' x o):AX X ad σ (Ai H x o) {s with heap:=h',toks:=t'}:=I.un (Un.write mu he k heo) (I.hok.write mu he k heo new)
theorem AX.pins_of{pins':List (qM×Obj)}(I:AX X ad σ H s)(h:∀p∈pins',s.heap.get? p.1=some p.2/\H p.1=none/\p.1≠X.env.locals/\p.1∉X.fs/\∀v,p.2.data≠.cell v):AX X pins' σ H s:=
 ⟨I.ok,I.os,I.bare,I.base,I.loc,I.cell,I.free,I.freeC,λp hp=>(ar.mp hp).elim (λz=>I.pin p (dM _ z)) (h p),I.hok,I.len⟩
theorem Gz{N:List Str}(hN:N.Nodup)(a:N[i]?=some x)(b:N[j]?=some x):i=j:=by obtain⟨h1,e1⟩:=ae.mp a;obtain⟨h2,e2⟩:=ae.mp b;exact (dG hN).mp (e1.trans e2.symm)
theorem Ig{M:Model}{A:Around}{E:qL->qN->Prop}{v:V}{Q:Unit->qN->Prop}(I:AX X ad σ H s)(hN:X.N.Nodup)(hi:X.N[i]?=some x)(hx:So X.env.scope x)(r:Av v u)
  (h:∀s',AX X ad (σ.set i (some v)) H s'->(∃a,Heap.SameBut a s.heap s'.heap/\(a=X.env.locals\/X.env.cells.lookup x=some a))->Q () s') (hf:X.fn x=true\/X.env.scope.names.lookup x=some .local:=by first|exact .inl rfl|exact .inr rfl|assumption):wpAny M A (storeName X.env x u) Q E s:=by
 obtain⟨m,hn,hl⟩:=id I.loc;have hcls:(X.env.scope.kind==.class||(X.env.scope.kind==.module&&X.env.locals != X.env.globals))=false:=by rw[I.ok.kind];rfl
 have hiσ:i<σ.length:=by rw[I.len];exact (ae.mp hi).1
 have cne:=I.cne
 have tracked:∀{a:qM} {h':Heap},(∃o,s.heap.get? a=some o/\H a=none)->Heap.SameBut a s.heap h'->D4 X.prog X.w H h':=λ{a h'} ha hs b ob e=>by
  obtain⟨_,_,hfree⟩:=ha;refine (I.hok b ob e).stay (λc w' hc q=>(hs.2 c ?_).trans q) (λ_ q=>q) λ_ _ q=>q
  rintro rfl;rcases hc with rfl|hc
  ·rw[hfree]at e;cases e
  ·rw[hfree]at hc;cases hc
 rcases hx with hk|hk
 ·refine wpAny_storeName_local hk hn (λh' hn' hs=>?_) hcls;refine byG λGq hGq=>?_;obtain⟨oL,_,_,hoL,_⟩:=id hn;refine hGq ?_;clear hGq Gq;refine h _ ⟨I.ok,I.os,I.bare,⟨λb o e n hb hx=>?_,λb o e n hb hx=>?_,I.base.free,λb o e hx=>?_,I.base.tups,I.base.frzs,I.base.tbls⟩,⟨_,hn',λj y v' e1 e2 e3=>?_⟩,λy c e=>?_,I.free,I.freeC,λp hp=>?_,tracked ⟨oL,hoL,I.free⟩ hs,by simpa using I.len⟩ ⟨_,hs,.inl rfl⟩
  ·exact (hs.2 b (bA (am (ag e) I.ok.above))).trans (I.base.keep b o e n hb hx)
  ·obtain⟨sl,e1⟩:=I.base.slot b o e n hb hx;exact⟨sl,(hs.2 b (bA (am (ag e) I.ok.above))).trans e1⟩
  ·obtain⟨o',e1⟩:=I.base.there b o e hx;exact⟨o',(hs.2 b (bA (am (ag e) I.ok.above))).trans e1⟩
  ·by_cases hj:j=i
   ·subst hj;rw[hi]at e1;cases e1;rw[cz hiσ]at e2;cases e2;exact⟨u,r,.inl ⟨hk,by simp⟩⟩
   ·rw[dN (Ne.symm hj)]at e2;obtain⟨u',r',q⟩:=hl j y v' e1 e2 e3;refine⟨u',r',?_⟩;rcases q with⟨k,e⟩|⟨k,c,e,z⟩
    ·refine .inl ⟨k,?_⟩;have:y≠x:=λe=>hj (Gz hN e1 (e▸hi))
     simp[this,e]
    ·exact .inr ⟨k,c,e,z.sameBut hs (cne y c e)⟩
  ·obtain⟨w',z⟩:=I.cell y c e;exact⟨w',z.sameBut hs (cne y c e)⟩
  ·refine byG λGq hGq=>?_;obtain⟨e,n,ne,nf,d⟩:=I.pin p hp;refine hGq ?_;clear hGq Gq;exact⟨(hs.2 p.1 ne).trans e,n,ne,nf,d⟩
 ·have hfn:X.fn x=true:=by
   rcases hf with z|z
   ·exact z
   ·rw[z]at hk;cases hk
  obtain⟨c,hc⟩:=I.ok.has x (.inl hk);obtain⟨w',z⟩:=I.cell x c hc;refine wpAny_storeName_cell I.ok.kind hk hc z (λh' hc' hs=>?_);obtain⟨oc,hoc,hocd⟩:=id z;refine h {s with heap:=h'} ⟨I.ok,I.os,I.bare,⟨λb o e n hb hx=>?_,λb o e n hb hx=>?_,I.base.free,λb o e hx=>?_,I.base.tups,I.base.frzs,I.base.tbls⟩,⟨m,hn.sameBut hs (Ne.symm (cne x c hc)),λj y v' e1 e2 e3=>?_⟩,λy c' e=>?_,I.free,I.freeC,λp hp=>?_,tracked ⟨oc,hoc,I.freeC x c hc⟩ hs,by simpa using I.len⟩ ⟨c,hs,.inr hc⟩
  ·exact (hs.2 b (bA (am (ag e) (I.ok.cab x c hfn hc)))).trans (I.base.keep b o e n hb hx)
  ·obtain⟨sl,e1⟩:=I.base.slot b o e n hb hx;exact⟨sl,(hs.2 b (bA (am (ag e) (I.ok.cab x c hfn hc)))).trans e1⟩
  ·obtain⟨o',e1⟩:=I.base.there b o e hx;exact⟨o',(hs.2 b (bA (am (ag e) (I.ok.cab x c hfn hc)))).trans e1⟩
  ·by_cases hj:j=i
   ·subst hj;rw[hi]at e1;cases e1;rw[cz hiσ]at e2;cases e2;exact⟨u,r,.inr ⟨.inl hk,c,hc,hc'⟩⟩
   ·rw[dN (Ne.symm hj)]at e2;obtain⟨u',r',q⟩:=hl j y v' e1 e2 e3;refine⟨u',r',?_⟩;rcases q with q|⟨k,c',e,z'⟩
    ·exact .inl q
    ·refine .inr ⟨k,c',e,z'.sameBut hs ?_⟩;rintro rfl;exact hj (Gz hN e1 (I.ok.inj _ _ _ e hc▸hi))
  ·by_cases hcc:c'=c
   ·subst hcc;exact⟨_,hc'⟩
   ·obtain⟨w2,z2⟩:=I.cell y c' e;exact⟨w2,z2.sameBut hs hcc⟩
  ·refine byG λGq hGq=>?_;obtain⟨e,n,ne,nf,d⟩:=I.pin p hp;refine hGq ?_;clear hGq Gq;refine⟨(hs.2 p.1 ?_).trans e,n,ne,nf,d⟩;intro q;rw[q,hoc]at e;have q':oc=p.2:=Option.some.inj e;exact d w' (by rw[<-q'];exact hocd)
theorem G0{M:Model}{A:Around}{E:qL->qN->Prop}{v:V}{Q:Unit->qN->Prop}(I:AX X ad σ H s)(hN:X.N.Nodup)(hi:X.N[i]?=some x)(hx:So X.env.scope x)(r:Av v u)
  (h:∀s',AX X ad (σ.set i (some v)) H s'->Q () s') (hf:X.fn x=true\/X.env.scope.names.lookup x=some .local:=by first|exact .inl rfl|exact .inr rfl|assumption):wpAny M A (storeName X.env x u) Q E s:=
 Ig I hN hi hx r (λs' I' _=>h s' I') hf
theorem AX.call'(I:AX X ad σ H s)(ho:s'.os=s.os)(u:Un (CC X.stack) ch H H' s.heap s'.heap)(hok:D4 X.prog X.w H' s'.heap)(hg:AllBare s'.gens)
  (hch:∀b∈ch,(b∈X.ex\/X.s₀.heap.objs.size<=b)/\b≠X.env.locals/\(∀x c,X.env.cells.lookup x=some c->c≠b)/\∀p∈X.pn++ad,p.1≠b):AX X ad σ H' s':=by
 obtain⟨h',g',d',t',o'⟩:=s';have e:o'=s.os:=ho;subst e;exact I.call (g':=g') (t':=t') (d':=d') u hok hg hch
end
abbrev XK:=qL->Option qM->Hp->Prop
abbrev St:=List (Option V)
abbrev VK:=V->Hp->Prop
abbrev TE:=St->Hp->VK->Prop
abbrev TT:=St->Hp->(Bool->Hp->Prop)->Prop
abbrev TA:=St->Hp->(List V->Hp->Prop)->Prop
structure G1 where
 nx:St->Hp->Prop
 rt:VK
 bk:St->Hp->Prop:=λ_ _=>False
 ct:St->Hp->Prop:=λ_ _=>False
abbrev TS:=G1->St->Hp->Prop
def EP(X:Cx)(ad:List (qM×Obj))(σ:St)(Q:VK)(u:qL)(s':qN):Prop:=∃v H',AX X ad σ H' s'/\Av v u/\Q v H'
def TP(X:Cx)(ad:List (qM×Obj))(σ:St)(Q:Bool->Hp->Prop)(b:Bool)(s':qN):Prop:=∃H',AX X ad σ H' s'/\Q b H'
def AP(X:Cx)(ad:List (qM×Obj))(σ:St)(Q:List V->Hp->Prop)(us:List qL)(s':qN):Prop:=∃vs H',AX X ad σ H' s'/\Au vs us/\Q vs H'
def SP(X:Cx)(ad:List (qM×Obj))(D:G1)(f:Flow)(s':qN):Prop:=
 match f with
 |.next=>∃σ' H',AX X ad σ' H' s'/\D.nx σ' H'
 |.brk=>∃σ' H',AX X ad σ' H' s'/\D.bk σ' H'
 |.cont=>∃σ' H',AX X ad σ' H' s'/\D.ct σ' H'
 |.ret u=>∃v σ' H',AX X ad σ' H' s'/\Av v u/\D.rt v H'
def PE(X:Cx)(e:Expr)(t:TE):Prop:=
 ∀(ad:List (qM×Obj)) (s:qN) (σ:St) (H:Hp) (Q:VK),AX X ad σ H s->t σ H Q->wpAny (model X.prog X.w) X.A (eval e X.env) (EP X ad σ Q) X.xe s
def PT(X:Cx)(e:Expr)(t:TT):Prop:=
 ∀(ad:List (qM×Obj)) (s:qN) (σ:St) (H:Hp) (Q:Bool->Hp->Prop),AX X ad σ H s->t σ H Q->wpAny (model X.prog X.w) X.A (isTrue e X.env (eval e X.env)) (TP X ad σ Q) X.xe s
def PW(X:Cx)(e:Expr)(t:TT):Prop:=
 ∀(whole:Sem qL) (ad:List (qM×Obj)) (s:qN) (σ:St) (H:Hp) (Q:Bool->Hp->Prop),AX X ad σ H s->t σ H Q->wpAny (model X.prog X.w) X.A (isTrue e X.env whole) (TP X ad σ Q) X.xe s
variable{X:Cx}
theorem PW.pt{e:Expr}{t:TT}(h:PW X e t):PT X e t:=h _
def PA(X:Cx)(es:List Expr)(t:TA):Prop:=
 ∀(pos:Pos) (ad:List (qM×Obj)) (s:qN) (σ:St) (H:Hp) (Q:List V->Hp->Prop),AX X ad σ H s->t σ H Q->wpAny (model X.prog X.w) X.A (spliced (backTo pos (starEach es X.env))) (AP X ad σ Q) X.xe s
def PS(X:Cx)(st:Stmt)(t:TS):Prop:=
 ∀(ad:List (qM×Obj)) (s:qN) (σ:St) (H:Hp) (D:G1),AX X ad σ H s->t D σ H->wpAny (model X.prog X.w) X.A (exec st X.env) (SP X ad D) X.xe s
def FD(X:Cx)(st:List Stmt)(t:TS):Prop:=
 ∀(ad:List (qM×Obj)) (s:qN) (σ:St) (H:Hp) (D:G1),AX X ad σ H s->t D σ H->wpAny (model X.prog X.w) X.A (execs st X.env) (SP X ad D) X.xe s
variable{E:qL->qN->Prop}{s:qN}
theorem A8{t:Sem α}{Q Q':α->qN->Prop}{M:Model}{A:Around}(h:wpAny M A t Q E s)(hQ:∀a s,Q a s->Q' a s):wpAny M A t Q' E s:=qH h hQ λ_ _ x=>x
variable{Q:qL->qN->Prop}{ad:List (qM×Obj)}{σ:St}{op:CmpOp}
section
def Nv(i:Nat):TE:=λσ H Q=>∃v,σ[i]?=some (some v)/\Q v H
def tC(v:V):TE:=λ_ H Q=>Q v H
theorem Tw{pos:Pos}(hN:X.N[i]?=some x)(hv:ZT X.env.scope x)(hd:(x==("__debug__":Str))=false:=by decide)(hcd:(x==("__classdict__":Str))=false:=by decide):PE X (.Name x pos) (Nv i):=by
 intro ad s σ H Q I h;obtain⟨v,e,h⟩:=h;obtain⟨m,hn,hl⟩:=I.loc;obtain⟨u,r,l⟩:=hl i x v hN e hv;have fin:EP X ad σ Q u s:=⟨v,H,I,r,h⟩;rcases l with⟨hk,hm⟩|⟨hk,c,hc,hcell⟩
 ·exact wpAny_Name (wpAny_loadName_local I.ok.kind hk hn hm fin) hd
 ·rcases hk with hk|hk
  ·exact wpAny_Name (wpAny_loadName_cell I.ok.kind hk hc hcell fin) hd
  ·exact wpAny_Name (wpAny_loadName_free I.ok.kind hk hc hcell fin hcd) hd
theorem AE{i j pos}:PE X (.Constant (.int i) j pos) (tC (.int i)):=λ_ _ _ H _ I h=>wpAny_Constant_int ⟨.int i,H,I.tok _,⟨_,rfl⟩,h⟩
theorem GN{b j pos}:PE X (.Constant (.bool b) j pos) (tC (.bl b)):=λ_ _ _ H _ I h=>Constant_bool ⟨.bl b,H,I,rfl,h⟩
theorem Fx{j pos}:PE X (.Constant .none j pos) (tC .non):=λ_ _ _ H _ I h=>Constant_none ⟨.non,H,I,rfl,h⟩
theorem AI{x j pos}:PE X (.Constant (.str x) j pos) (tC (.str x)):=λ_ _ _ H _ I h=>Calls.Constant_str ⟨.str x,H,I.tok _,⟨_,rfl⟩,h⟩
def Gl(X:Cx)(x:Str):Prop:=X.env.kindOf x=some .globalImplicit
theorem DF{E:qL->qN->Prop}{pos:Pos}(I:AX X ad σ H s)(hg:Gl X x)(hm:X.mg x=some u)(h:Q u s)
  (hd:(x==("__debug__":Str))=false:=by decide):wpAny (model X.prog X.w) X.A (eval (.Name x pos) X.env) Q E s:=
 Calls.Name_function_global I.ok.kind hg (Calls.loadGlobal_global (by rw[I.ok.glob];exact I.mod.glob.keeps I.bk) hm h) hd
theorem Cq{E:qL->qN->Prop}{pos:Pos}(I:AX X ad σ H s)(hg:Gl X x)(hm:X.mg x=none)(hv:bootBuiltins x=some u)(h:Q u s)
  (hn:x≠"__name__":=by decide) (hd:(x==("__debug__":Str))=false:=by decide):wpAny (model X.prog X.w) X.A (eval (.Name x pos) X.env) Q E s:=by
 obtain⟨mb,h1,h2⟩:=I.mod.blt;exact Calls.Name_function_global I.ok.kind hg (Calls.loadGlobal_builtin (by rw[I.ok.glob];exact I.mod.glob.keeps I.bk) hm (by rw[I.ok.blt];exact h1.keeps I.bk) ((h2 x hn).trans hv) h) hd
theorem JP{v:V}{pos:Pos}(hg:Gl X x)(hm:X.mg x=some u)(r:Av v u)(hd:(x==("__debug__":Str))=false:=by decide):PE X (.Name x pos) (tC v):=
 λ_ _ _ H _ I h=>DF I hg hm ⟨v,H,I,r,h⟩ hd
theorem RK{v:V}{pos:Pos}(hg:Gl X x)(hm:X.mg x=none)(hv:bootBuiltins x=some u)(r:Av v u)(hn:x≠"__name__":=by decide)(hd:(x==("__debug__":Str))=false:=by decide):PE X (.Name x pos) (tC v):=
 λ_ _ _ H _ I h=>Cq I hg hm hv ⟨v,H,I,r,h⟩ hn hd
variable{a b:Expr}{ta tb:TE}{pos:Pos}
def PC(X:Cx)(op:CmpOp)(a b:Expr)(t:TE):Prop:=
 ∀(ad:List (qM×Obj)) (s:qN) (σ:St) (H:Hp) (Q:VK),AX X ad σ H s->t σ H Q ->
  wpAny (model X.prog X.w) X.A (eval a X.env) (λv s₁=>wpAny (model X.prog X.w) X.A (eval b X.env) (λu s₂=>wpAny (model X.prog X.w) X.A (compareOp op v u) (EP X ad σ Q) X.xe s₂) X.xe s₁) X.xe s
def tB(t:TE):TT:=λσ H Q=>t σ H λx H1=>∃c,x=.bl c/\Q c H1
theorem Tx{t:TE}(h:PC X op a b t)(h1:behindInMarks op b=false:=by first|exact nobehind _ (by decide) (by decide)|rfl):PE X (.Compare a [op] [b] pos) t:=λad s σ H Q I hw=>wpAny_Compare1 (h ad s σ H Q I hw) h1
theorem Lc{t:TE}(h:PC X op a b t)(h1:behindInMarks op b=false:=by first|exact nobehind _ (by decide) (by decide)|rfl):PT X (.Compare a [op] [b] pos) (tB t):=by intro ad s σ H Q I hw;refine wpAny_isTrue_Compare1 (A8 (h ad s σ H _ I hw) λv s1 h1=>A8 h1 λu s2 h2=>A8 h2 λc s3 z9=>?_) h1;obtain⟨x,H1,I1,r1,q1⟩:=z9;obtain⟨d,rfl,q⟩:=q1;cases r1;exact wpAny_truthy_bool ⟨H1,I1,q⟩
theorem Bq{e:Expr}{t:TE}(h:PE X e t)(he:∀whole,isTrue e X.env whole=(do let v <-whole;standAt e.pos;holding [v] (truthy v)):=by intro _;rfl):PT X e (tB t):=by intro ad s σ H Q I hw;refine isTrue_plain (A8 (h ad s σ H _ I hw) λv s1 z9=>?_) (he _);obtain⟨x,H1,I1,r1,q1⟩:=z9;obtain⟨d,rfl,q⟩:=q1;cases r1;exact wpAny_truthy_bool ⟨H1,I1,q⟩
variable{tA tB':TT}{rest:List Expr}
def WL(t u:TT):TT:=λσ H Q=>t σ H λc H1=>if c=true then u σ H1 Q else Q false H1
def aE(t u:TT):TT:=λσ H Q=>t σ H λc H1=>if c=true then Q true H1 else u σ H1 Q
def WM(t:TT):TT:=λσ H Q=>t σ H λc H1=>Q (!c) H1
theorem JQ(ha:PT X a tA):PW X (.BoolOp .And [a] pos) tA:=by
 intro wh ad s σ H Q I h;refine isTrue_and (A8 (ha ad s σ H Q I h) λc s1 e=>?_);cases c with
 |true=>exact isTrue_and_nil e
 |false=>exact e
theorem Cr(ha:PT X a tA):PW X (.BoolOp .Or [a] pos) tA:=by
 intro wh ad s σ H Q I h;refine isTrue_or (A8 (ha ad s σ H Q I h) λc s1 e=>?_);cases c with
 |false=>exact isTrue_or_nil e
 |true=>exact e
theorem Ld(ha:PT X a tA)(hb:PW X (.BoolOp .And (b::rest) pos) tB'):PW X (.BoolOp .And (a::b::rest) pos) (WL tA tB'):=by
 intro wh ad s σ H Q I h;refine isTrue_and (A8 (ha ad s σ H _ I h) λc s1 z9=>?_);obtain⟨H1,I1,q1⟩:=z9;cases c with
 |true=>exact hb wh ad s1 σ H1 Q I1 q1
 |false=>exact⟨H1,I1,q1⟩
theorem DS(ha:PT X a tA)(hb:PW X (.BoolOp .Or (b::rest) pos) tB'):PW X (.BoolOp .Or (a::b::rest) pos) (aE tA tB'):=by
 intro wh ad s σ H Q I h;refine isTrue_or (A8 (ha ad s σ H _ I h) λc s1 z9=>?_);obtain⟨H1,I1,q1⟩:=z9;cases c with
 |true=>exact⟨H1,I1,q1⟩
 |false=>exact hb wh ad s1 σ H1 Q I1 q1
theorem CI(ha:PT X a tA):PT X (.UnaryOp .Not a pos) (WM tA):=by intro ad s σ H Q I h;exact isTrue_not (ha ad s σ H (λc H1=>Q (!c) H1) I h)
def Sq(ta tb:TE):TE:=λσ H Q=>ta σ H λx H1=>∃c,x=.bl c/\if c=true then tb σ H1 Q else Q (.bl false) H1
def Sr(ta:TE):TE:=λσ H Q=>ta σ H λx H1=>∃c,x=.bl c/\Q (.bl (!c)) H1
theorem Le{op}{t:TE}(h:PE X a t):PE X (.BoolOp op [a] pos) t:=λad s σ H Q I hw=>BoolOp_one (h ad s σ H Q I hw)
theorem JR(ha:PE X a ta)(hb:PE X (.BoolOp .And (b::rest) pos) tb):PE X (.BoolOp .And (a::b::rest) pos) (Sq ta tb):=by
 intro ad s σ H Q I h;refine BoolOp_and (A8 (ha ad s σ H _ I h) λv s1 z9=>?_);obtain⟨x,H1,I1,r1,q1⟩:=z9;obtain⟨c,rfl,q1⟩:=q1;cases r1;refine wpAny_truthy_bool ?_;cases c with
 |true=>exact hb ad s1 σ H1 Q I1 q1
 |false=>exact⟨.bl false,H1,I1,rfl,q1⟩
theorem Tz(ha:PE X a ta):PE X (.UnaryOp .Not a pos) (Sr ta):=by intro ad s σ H Q I h;refine UnaryOp_ (A8 (ha ad s σ H _ I h) λv s1 z9=>?_);obtain⟨x,H1,I1,r1,q1⟩:=z9;obtain⟨c,rfl,q1⟩:=q1;cases r1;exact not_of (wpAny_truthy_bool ⟨.bl (!c),H1,I1,rfl,q1⟩)
def aG(t:TT)(ta tb:TE):TE:=λσ H Q=>t σ H λc H1=>if c=true then ta σ H1 Q else tb σ H1 Q
theorem O7{c:Expr}(hc:PT X c tA)(ha:PE X a ta)(hb:PE X b tb):PE X (.IfExp c a b pos) (aG tA ta tb):=by
 intro ad s σ H Q I h;refine wpAny_IfExp (A8 (hc ad s σ H _ I h) λd s1 z9=>?_);obtain⟨H1,I1,q1⟩:=z9;cases d with
 |true=>exact ha ad s1 σ H1 Q I1 q1
 |false=>exact hb ad s1 σ H1 Q I1 q1
end
def Ag(K:qQ)(H:Hp)(a:qM)(xs:List V):Prop:=
 Rd H a (.lst xs) \/
  ∃(o:Obj) (its:Array qL) (n:Nat),K.lookup a=some o/\o.cls=.type "list"/\o.dict=none/\o.data=.seq its n/\its.size<=sizeLine/\Au xs its.toList
def Ar(K:qQ)(H:Hp)(a:qM)(xs:List V):Prop:=
 Rd H a (.tup xs) \/
  ∃(o:Obj) (its:Array qL) (n:Nat),K.lookup a=some o/\o.cls=.type "tuple"/\o.data=.seq its n/\its.size<=sizeLine/\Au xs its.toList
noncomputable def G2:qL->Option V
 |.none=>some .non
 |.bool b=>some (.bl b)
 |.int i _=>some (.int i)
 |.str x _=>some (.str x)
 |.bytes b _=>some (.byt b)
 |.float b _=>some (.flt b)
 |.ref a=>some (.ref a)
 |.type n=>some (.ty n)
 |_=>none
theorem Av.abs{x:V}(r:Av x u):G2 u=some x:=by
 cases x with
 |non=>cases r;rfl
 |bl _=>cases r;rfl
 |int _=>obtain⟨t,rfl⟩:=r;rfl
 |str _=>obtain⟨t,rfl⟩:=r;rfl
 |byt _=>obtain⟨t,rfl⟩:=r;rfl
 |flt _=>obtain⟨t,rfl⟩:=r;rfl
 |ref _=>cases r;rfl
 |ty _=>cases r;rfl
variable{y:V}
theorem Av.inj{x:V}(r:Av x u)(q:Av y u):x=y:=Option.some.inj (r.abs.symm.trans q.abs)
theorem Au.inj:∀{xs ys:List V} {us:List qL},Au xs us->Au ys us->xs=ys:=by
 intro _ ys _ h
 induction h generalizing ys with
 |nil=>intro g;cases g;rfl
 |cons r _ ih =>
  intro g;cases g with
  |cons r' t'=>rw[r.inj r',ih t']
section
variable{ys:List V}
theorem Ag.of{K:qQ}(h:H a=some (.lst xs)):Ag K H a xs:=.inl (.inl h)
theorem Ar.of{K:qQ}(h:H a=some (.tup xs)):Ar K H a xs:=.inl (.inl h)
theorem AX.list(I:AX X ad σ H s)(h:Ag X.K H a xs):∃its:List qL,Au xs its/\PlainL s.heap a its.toArray/\xs.length<=sizeLine:=by
 rcases h with h|⟨o,its,n,hk,hc,hd,hs,hz,r⟩
 ·obtain⟨z,its,n,r,e⟩:=h.ok I.hok;exact⟨its,r,⟨_,n,e,rfl,rfl,rfl⟩,z⟩
 ·refine⟨its.toList,r,⟨o,n,I.kIn a o hk,hc,hd,by simpa using hs⟩,?_⟩;have e:=r.length;simp only[Array.length_toList]at e;lia
theorem AX.tuple(I:AX X ad σ H s)(h:Ar X.K H a xs):∃its:List qL,Au xs its/\IsTup s.heap a its.toArray/\xs.length<=sizeLine:=by
 rcases h with h|⟨o,its,n,hk,hc,hs,hz,r⟩
 ·obtain⟨z,its,r,p⟩:=h.ok I.hok;exact⟨its,r,p,z⟩
 ·refine⟨its.toList,r,⟨o,I.kIn a o hk,hc,n,by simpa using hs⟩,?_⟩;have e:=r.length;simp only[Array.length_toList]at e;lia
theorem AX.list_inj(I:AX X ad σ H s)(h:Ag X.K H a xs)(h':Ag X.K H a ys):xs=ys:=by
 obtain⟨its,r,⟨o,n,e,_,_,d⟩,_⟩:=I.list h;obtain⟨its',r',⟨o',n',e',_,_,d'⟩,_⟩:=I.list h';rw[e]at e';cases e';rw[d]at d'
 injection d' with d1 _
 have:its=its':=by simpa using qK Array.toList d1
 subst this;exact r.inj r'
theorem AX.tuple_inj(I:AX X ad σ H s)(h:Ar X.K H a xs)(h':Ar X.K H a ys):xs=ys:=by
 obtain⟨its,r,⟨o,e,_,n,d⟩,_⟩:=I.tuple h;obtain⟨its',r',⟨o',e',_,n',d'⟩,_⟩:=I.tuple h';rw[e]at e';cases e';rw[d]at d'
 injection d' with d1 _
 have:its=its':=by simpa using qK Array.toList d1
 subst this;exact r.inj r'
end
abbrev Cx.wish(X:Cx)(E:qL->qN->Prop):Cx:={X with xe:=E}
abbrev Cx.nox(X:Cx):Cx:=X.wish λ_ _=>False
theorem Cx.Ok.wish(ok:X.Ok)(E:qL->qN->Prop):(X.wish E).Ok:=
 ⟨ok.mod,ok.kind,ok.glob,ok.blt,ok.above,ok.inj,ok.has,ok.cab,ok.hd,ok.frames,ok.stk,ok.exf,ok.bs,ok.bsz,ok.noex,ok.exfs,ok.funs,ok.frf⟩
theorem Cx.Ok.unwish(ok:(X.wish E).Ok):X.Ok:=
 ⟨ok.mod,ok.kind,ok.glob,ok.blt,ok.above,ok.inj,ok.has,ok.cab,ok.hd,ok.frames,ok.stk,ok.exf,ok.bs,ok.bsz,ok.noex,ok.exfs,ok.funs,ok.frf⟩
variable{D:G1}
theorem AX.wish(I:AX X ad σ H s)(E:qL->qN->Prop):AX (X.wish E) ad σ H s:=⟨I.ok.wish E,I.os,I.bare,I.base,I.loc,I.cell,I.free,I.freeC,I.pin,I.hok,I.len⟩
theorem AX.unwish(I:AX (X.wish E) ad σ H s):AX X ad σ H s:=⟨I.ok.unwish,I.os,I.bare,I.base,I.loc,I.cell,I.free,I.freeC,I.pin,I.hok,I.len⟩
theorem SP.unwish{f:Flow}(h:SP (X.wish E) ad D f s'):SP X ad D f s':=by
 cases f with
 |next=>obtain⟨σ',H',I,q⟩:=h;exact⟨σ',H',I.unwish,q⟩
 |brk=>obtain⟨σ',H',I,q⟩:=h;exact⟨σ',H',I.unwish,q⟩
 |cont=>obtain⟨σ',H',I,q⟩:=h;exact⟨σ',H',I.unwish,q⟩
 |ret u=>obtain⟨v,σ',H',I,r,q⟩:=h;exact⟨v,σ',H',I.unwish,r,q⟩
theorem FD.nox{st:List Stmt}{t:TS}(h:FD X.nox st t):FD X st t:=λad s σ H D I hw =>
 qH (h ad s σ H D (I.wish _) hw) (λ_ _ q=>q.unwish) λ_ _ z=>False.elim z
section
variable{st:Stmt}{rest:List Stmt}{t u:TS}{e:Expr}{te:TE}{pos:Pos}
def Ss:TS:=λD σ H=>D.nx σ H
def Lf(t u:TS):TS:=λD σ H=>t {D with nx:=u D} σ H
theorem Af:FD X [] Ss:=λ_ _ σ H _ I h=>wpAny_execs_nil ⟨σ,H,I,h⟩
theorem AC(h1:PS X st t)(h2:FD X rest u):FD X (st::rest) (Lf t u):=by
 intro ad s σ H D I h;refine wpAny_execs_cons (A8 (h1 ad s σ H {D with nx:=u D} I h) λf s1 q=>?_);cases f with
 |next =>
  refine byG λGq hGq=>?_;obtain⟨σ',H',I',q⟩:=q;refine hGq ?_;clear hGq Gq;exact h2 ad s1 σ' H' D I' q
 |ret v=>exact q
 |brk=>exact q
 |cont=>exact q
theorem AH(h1:PS X st t):FD X [st] t:=by
 intro ad s σ H D I h;refine wpAny_execs_cons (A8 (h1 ad s σ H D I h) λf s1 q=>?_);cases f with
 |next=>exact wpAny_execs_nil q
 |ret v=>exact q
 |brk=>exact q
 |cont=>exact q
theorem AX.quiet(I:AX X ad σ H s):interactive X.env=false:=by simp[interactive,I.ok.kind]
def Su(te:TE):TS:=λD σ H=>te σ H λ_ H1=>D.nx σ H1
theorem A7(he:PE X e te)(hs:swapsWith e none pos.line X.env=pure false:=by rfl):PS X (.Expr e pos) (Su te):=by intro ad s σ H D I h;exact wpAny_Expr_any (A8 (he ad s σ H _ I h) λv s1 ⟨x,H1,I1,r1,q1⟩=>⟨σ,H1,I1,q1⟩) I.quiet hs
def T0(te:TE):TS:=λD σ H=>te σ H D.rt
theorem AW(he:PE X e te):PS X (.Return (some e) pos) (T0 te):=by intro ad s σ H D I h;exact wpAny_Return_some (A8 (he ad s σ H _ I h) λv s1 ⟨x,H1,I1,r1,q1⟩=>⟨x,σ,H1,I1,r1,q1⟩)
def WN(c:TT)(t u:TS):TS:=λD σ H=>c σ H λb H1=>if b=true then t D σ H1 else u D σ H1
theorem Aw{c:Expr}{a b:List Stmt}{tc:TT}(hc:PT X c tc)(ha:FD X a t)(hb:FD X b u):PS X (.If c a b pos) (WN tc t u):=by
 intro ad s σ H D I h;refine wpAny_If (A8 (hc ad s σ H _ I h) λd s1 z9=>?_);obtain⟨H1,I1,q1⟩:=z9;cases d with
 |true=>exact ha ad s1 σ H1 D I1 q1
 |false=>exact hb ad s1 σ H1 D I1 q1
end
abbrev TG:=V->St->Hp->(St->Hp->Prop)->Prop
abbrev T1:=List V->St->Hp->(St->Hp->Prop)->Prop
def PG(X:Cx)(target:Expr)(t:TG):Prop:=
 ∀(ad:List (qM×Obj)) (s:qN) (σ:St) (H:Hp) (v:V) (u:qL) (Q:St->Hp->Prop),AX X ad σ H s->Av v u->t v σ H Q ->
  wpAny (model X.prog X.w) X.A (assign target X.env u) (λ_ s'=>∃σ' H',AX X ad σ' H' s'/\Q σ' H') X.xe s
def ZI(X:Cx)(ts:List Expr)(t:T1):Prop:=
 ∀(ad:List (qM×Obj)) (s:qN) (σ:St) (H:Hp) (vs:List V) (us:List qL) (Q:St->Hp->Prop),AX X ad σ H s->Au vs us->t vs σ H Q ->
  wpAny (model X.prog X.w) X.A (assignInOrder ((assignEach ts X.env).map (·.2)) us) (λ_ s'=>∃σ' H',AX X ad σ' H' s'/\Q σ' H') X.xe s
variable{es:List Expr}{tg:Expr}{te:TE}
section
variable{pos:Pos}
def FE(i:Nat):TG:=λv σ H Q=>Q (σ.set i (some v)) H
theorem Gh(hN:X.N.Nodup)(hi:X.N[i]?=some x)(hx:So X.env.scope x)(hf:X.fn x=true\/X.env.scope.names.lookup x=some .local:=by first|exact .inl rfl|exact .inr rfl|assumption):PG X (.Name x pos) (FE i):=by intro ad s σ H v u Q I r h;exact wpAny_assign_Name (G0 I hN hi hx r (λs' I'=>⟨_,H,I',h⟩) hf)
def ZV:T1:=λvs σ H Q=>vs=[]/\Q σ H
def WO(t:TG)(u:T1):T1:=λvs σ H Q=>∃v r,vs=v::r/\t v σ H λσ' H'=>u r σ' H' Q
theorem FF:ZI X [] ZV:=by intro ad s σ H vs us Q I r h;obtain⟨e,h⟩:=h;subst e;cases r;exact assignInOrder_nil ⟨σ,H,I,h⟩
theorem Bs{e:Expr}{t:TG}{u:T1}(h1:PG X e t)(h2:ZI X es u)
  (hs:(assignEach (e::es) X.env).map (·.2)=assign e X.env::(assignEach es X.env).map (·.2):=by rfl):ZI X (e::es) (WO t u):=by
 intro ad s σ H vs us Q I r h;obtain⟨v,vr,e1,h⟩:=h;subst e1;cases r with
 |cons r rr =>
  rw[hs];refine assignInOrder_cons (A8 (h1 ad s σ H _ _ _ I r h) λ_ s1 z9=>?_);obtain⟨σ1,H1,I1,q1⟩:=z9;exact h2 ad s1 σ1 H1 _ _ Q I1 rr q1
def ZW(K:qQ)(n:Nat)(t:T1):TG:=λv σ H Q=>∃a xs,v=.ref a/\Ar K H a xs/\xs.length=n/\t xs σ H Q
theorem G3{k:Nat}{t:T1}{n:Nat}(hc:X.calm=true)(h:ZI X es t)
  (hn:(assignEach es X.env).length=n:=by rfl) (hst:(assignEach es X.env).findIdx? (·.1)=none:=by rfl):PG X (.Tuple es k pos) (ZW X.K n t):=by
 intro ad s σ H v u Q I r hw;refine byG λGq hGq=>?_;obtain⟨a,xs,e1,hq,hl,hw⟩:=hw;refine hGq ?_;clear hGq Gq;subst e1;cases r;refine byG λGq hGq=>?_;obtain⟨its,rv,ht,hz⟩:=I.tuple hq;refine hGq ?_;clear hGq Gq;refine assign_Tuple_tuple (I.ok.hd hc) ht (by simp[hn,<-hl,rv.length]) hst λh' hx=>?_;have I1:AX X ad σ H {s with heap:=h'}:=I.kept (t':=s.toks) λb o e=>hx b o (bA (ag e)) e
 exact h ad _ σ H xs _ Q I1 (by simpa using rv) hw
def Nw(te:TE)(g:TG):TS:=λD σ H=>te σ H λx H1=>g x σ H1 D.nx
theorem T3{e:Expr}{g:TG}(he:PE X e te)(hg:PG X tg g)(hs:swapsWithSole [tg] e pos.line X.env=pure false:=by rfl)(hw:swappedStores [tg] e X.env=pure none:=by rfl)
  (h1:(assignEach [tg] X.env).map (·.2)=[assign tg X.env]:=by rfl):PS X (.Assign [tg] e pos) (Nw te g):=by
 intro ad s σ H D I h;refine wpAny_Assign_stores (A8 (he ad s σ H _ I h) λv s1 z9=>?_) hs hw;obtain⟨x,H1,I1,r1,q1⟩:=z9;rw[h1];exact A8 (hg ad s1 σ H1 x v _ I1 r1 q1) λ_ s2 q=>q
theorem G4{e:Expr}{pos':Pos}(hN:X.N.Nodup)(hi:X.N[i]?=some x)(hx:So X.env.scope x)(he:PE X e te)(hs:swapsWith e (some (.Name x pos')) pos.line X.env=pure false:=by rfl)(hf:X.fn x=true\/X.env.scope.names.lookup x=some .local:=by first|exact .inl rfl|exact .inr rfl|assumption):
  PS X (.Assign [.Name x pos'] e pos) (Nw te (FE i)):=by
 intro ad s σ H D I h;refine wpAny_Assign_Name (A8 (he ad s σ H _ I h) λv s1 z9=>?_) hs;obtain⟨y,H1,I1,r1,q1⟩:=z9;exact G0 I1 hN hi hx r1 (λs2 I2=>⟨_,H1,I2,q1⟩) hf
end
variable{body:List Stmt}
section
variable{pos:Pos}
def O8(c:TT)(tb:TS):TS:=λD σ H=>∃W:Nat->St->Hp->Prop,(∃m,W m σ H)/\∀m σ H,W m σ H ->
 c σ H λb H1=>if b=true then ∃N:St->Hp->Prop,(∀σ' H',N σ' H'->∃m',m'<m/\W m' σ' H')/\tb {D with nx:=N,ct:=N,bk:=D.nx} σ H1 else D.nx σ H1
theorem FG{c:Expr}{tc:TT}{tb:TS}(hp:PassesOwn (model X.prog X.w) X.A X.env X.xe)(hc:PT X c tc)(hb:FD X body tb):PS X (.While c body [] pos) (O8 tc tb):=by
 intro ad s σ H D I h;refine byG λGq hGq=>?_;obtain⟨W,⟨m0,w0⟩,turn⟩:=h;refine hGq ?_;clear hGq Gq;refine wpAny_While (codeAny_whileLoop (λn s'=>∃σ' H',AX X ad σ' H' s'/\W n σ' H') ?_ m0 ⟨σ,H,I,w0⟩);intro n s1 hRq;refine byG λGq hGq=>?_;obtain⟨σ1,H1,I1,w1⟩:=hRq;refine hGq ?_;clear hGq Gq;refine wpAny_passesOwn hp (A8 (hc ad s1 σ1 H1 _ I1 (turn n σ1 H1 w1)) λb s2 z9=>?_);obtain⟨H2,I2,q2⟩:=z9;cases b with
 |true =>
  obtain⟨N,hN,q2⟩:=q2;rw[qD rfl];refine wpAny_passesOwn hp (A8 (hb ad s2 σ1 H2 _ I2 q2) λf s3 q3=>?_);cases f with
  |next =>
   refine byG λGq hGq=>?_;obtain⟨σ3,H3,I3,n3⟩:=q3;refine hGq ?_;clear hGq Gq;obtain⟨m',hm,w3⟩:=hN σ3 H3 n3;exact⟨m',hm,σ3,H3,I3,w3⟩
  |cont =>
   refine byG λGq hGq=>?_;obtain⟨σ3,H3,I3,n3⟩:=q3;refine hGq ?_;clear hGq Gq;obtain⟨m',hm,w3⟩:=hN σ3 H3 n3;exact⟨m',hm,σ3,H3,I3,w3⟩
  |brk=>exact q3
  |ret v=>exact q3
 |false =>
  rw[qC ap];exact wpAny_execs_nil ⟨σ1,H2,I2,q2⟩
end
structure It where
 go:Nat->Hp->Prop
 yld:Nat->Hp->V->Hp->Prop
 stop:Nat->Hp->Prop
def En(X:Cx)(ad:List (qM×Obj))(H:Hp)(b:qM):Prop:=
 H b=none/\b≠X.env.locals/\b∉X.fs/\(b∈X.ex\/X.s₀.heap.objs.size<=b)/\(∀x c,X.env.cells.lookup x=some c->c≠b)/\∀p∈X.pn++ad,p.1≠b
variable{H':Hp}
theorem AX.fpOk{b:qM}(I:AX X ad σ H s)(hb:s.heap.objs.size<=b)(hn:H' b=none):En X ad H' b:=by
 refine⟨hn,bo (am I.lt hb),I.nofs hb,.inr (bB I.sz hb),λx c e z=>?_,λp hp z=>?_⟩
 ·obtain⟨v,q⟩:=I.cell x c e;exact qE (am q.lt (by rw[z];exact hb)) (bM _)
 ·exact qE (am (ag (I.pin p hp).1) (by rw[z];exact hb)) (bM _)
structure IP(P:qO)(w:qP)(K:qQ)(tg:Expr)(J:It)(fp:List qM)(it:qM)(tn:Nat->Heap->Prop):Prop where
 mem:it∈fp
 obj:∀i h,tn i h->∀b∈fp,∃o,h.get? b=some o/\∀v,o.data≠.cell v
 keep:∀i h h',tn i h->(∀b∈fp,∀o,h.get? b=some o->h'.get? b=some o)->tn i h'
 item:∀(X:Cx),X.prog=P->X.w=w->X.K=K->X.calm=true->∀(i:Nat) (ad:List (qM×Obj)) (s:qN) (σ:St) (H:Hp) (E:qL->qN->Prop),AX X ad σ H s->(∀b∈fp,En X ad H b)->tn i s.heap->J.go i H ->
  wpAny (model P w) X.A (pyNext (.ref it)) (λr s1=>∃u,r=some u /\
   wpAny (model P w) X.A (letOwnedTupleGo tg (.ref it) u) (λ_ s2=>∃x H',AX X ad σ H' s2/\Av x u/\J.yld i H x H'/\tn (i+1) s2.heap/\∀b∈fp,H' b=none) E s1) E s
 done:∀(X:Cx),X.prog=P->X.w=w->X.K=K->X.calm=true->∀(i:Nat) (ad:List (qM×Obj)) (s:qN) (σ:St) (H:Hp) (E:qL->qN->Prop),AX X ad σ H s->(∀b∈fp,En X ad H b)->tn i s.heap->J.stop i H ->
  wpAny (model P w) X.A (pyNext (.ref it)) (λr s1=>r=none/\AX X ad σ H s1) E s
 self:∀(A:Around) (i:Nat) (s:qN) (Q:qL->qN->Prop) (E:qL->qN->Prop),tn i s.heap->Q (.ref it) s->wpAny (model P w) A (pyIter (.ref it)) Q E s
abbrev TI:=St->Hp->(It->Hp->Prop)->Prop
def aH(X:Cx)(ad:List (qM×Obj))(σ:St)(tg:Expr)(R:It->Hp->Prop)(itv:qL)(s2:qN):Prop:=
 ∃(it:qM) (fp:List qM) (tn:Nat->Heap->Prop) (J:It) (H':Hp),itv=.ref it/\AX X ad σ H' s2/\IP X.prog X.w X.K tg J fp it tn/\tn 0 s2.heap/\(∀b∈fp,En X ad H' b)/\R J H'
def PI(X:Cx)(tg iter:Expr)(wi:TI):Prop:=
 ∀(ad:List (qM×Obj)) (s:qN) (σ:St) (H:Hp) (R:It->Hp->Prop),AX X ad σ H s->wi σ H R ->
  wpAny (model X.prog X.w) X.A (eval iter X.env) (λv s1=>wpAny (model X.prog X.w) X.A (pyIter v) (aH X ad σ tg R) X.xe s1) X.xe s
theorem KW{M:Model}{A:Around}{o:Obj}{n:String}{vs:Array qL}{Q:Unit->qN->Prop}(ho:s.heap.get? it=some o)(hc:o.cls=.type n)(hd:o.data=.fields vs)
  (hn:["enumerate","zip","dict_itemiterator","dict_reverseitemiterator","odict_iterator","itertools.zip_longest","itertools.pairwise"].contains n=false) (hQ:Q () s):wpAny M A (letOwnedTupleGo tg (.ref it) u) Q E s:=by
 unfold letOwnedTupleGo
 cases tg<;>first
  |exact qB hQ
  | (cases u<;>first
    |exact qB hQ
    | (refine qA (wpAny_load ho ?_)
       rw[hc,hd];show wpAny M A (if (["enumerate","zip","dict_itemiterator","dict_reverseitemiterator","odict_iterator","itertools.zip_longest","itertools.pairwise"].contains n&&vs[0]?==some (rawInt _))=true then _ else _) Q E s;rw[qC (by intro h;rw[hn,Bool.false_and]at h;cases h)];exact qB hQ))
noncomputable def T4(K:qQ)(a:qM):It:=
 ⟨λi H=>∃xs x,Ag K H a xs/\xs[i]?=some x,λi H x H'=>H'=H/\∀xs,Ag K H a xs->xs[i]?=some x,λi H=>∃xs,Ag K H a xs/\xs.length<=i⟩
noncomputable def WE(K:qQ)(a:qM):It:=
 ⟨λi H=>∃xs x,Ar K H a xs/\xs[i]?=some x,λi H x H'=>H'=H/\∀xs,Ar K H a xs->xs[i]?=some x,λi H=>∃xs,Ar K H a xs/\xs.length<=i⟩
noncomputable def Sv(lo:Int)(n:Nat):It:=⟨λi _=>i<n,λi H x H'=>H'=H/\x=.int (lo+i),λi _=>n<=i⟩
theorem Nx{P:qO}{w:qP}{K:qQ}(a it:qM):IP P w K tg (T4 K a) [it] it (λi h=>h.IsListIter it a i) where
 mem:=by simp
 obj:=λi h st b hb=>by
  have e:b=it:=by simpa using hb
  subst e;refine byG λGq hGq=>?_;obtain⟨o,e,c,d⟩:=st;refine hGq ?_;clear hGq Gq;exact⟨o,e,λv z=>by rw[d]at z;cases z⟩
 keep:=λi h h' st k=>st.at λo e=>k it (by simp) o e
 item:=by intro X hP hw hK hc i ad s σ H E I hf st hg;subst hP hw hK;refine byG λGq hGq=>?_;obtain⟨xs,x,hq,hx⟩:=hg;refine hGq ?_;clear hGq Gq;refine byG λGq hGq=>?_;obtain⟨its,rv,p,hz⟩:=I.list hq;refine hGq ?_;clear hGq Gq;obtain⟨u,hu,ru⟩:=rv.get hx;refine byG λGq hGq=>?_;obtain⟨f0,f1,f2,f3,f4,f5⟩:=hf it (by simp);refine hGq ?_;clear hGq Gq;refine wpAny_pyNext_list_item st p.isList (x:=u) (by simpa using hu) λh' st' sb=>?_;have I1:AX X ad σ H {s with heap:=h'}:=I.turned (t':=s.toks) (λb o hb e=>(sb.2 b hb).trans e) f0 f1 f3 f4 f5;refine byG λGq hGq=>?_;obtain⟨o,e,c,d⟩:=id st';refine hGq ?_;clear hGq Gq;exact⟨u,rfl,KW (s:={s with heap:=h'}) e c d (by decide) ⟨x,H,I1,ru,⟨rfl,λys hy=>by rw[I.list_inj hy hq];exact hx⟩,st',λb hb=>(hf b hb).1⟩⟩
 done:=by intro X hP hw hK hc i ad s σ H E I hf st hg;subst hP hw hK;obtain⟨xs,hq,hx⟩:=hg;refine byG λGq hGq=>?_;obtain⟨its,rv,p,hz⟩:=I.list hq;refine hGq ?_;clear hGq Gq;refine byG λGq hGq=>?_;obtain⟨f0,f1,f2,f3,f4,f5⟩:=hf it (by simp);refine hGq ?_;clear hGq Gq;have hl:=rv.length;exact wpAny_pyNext_list_end (I.ok.hd hc) st p.isList (by simp;lia) λh' eb=>⟨rfl,I.turned (t':=s.toks) (λb o hb e=>eb b o hb e) f0 f1 f3 f4 f5⟩
 self:=λ_ _ _ _ _ st h=>wpAny_pyIter_listiter st h
theorem Lg{P:qO}{w:qP}{K:qQ}(a it:qM):IP P w K tg (WE K a) [it] it (λi h=>h.IsTupleIter it a i) where
 mem:=by simp
 obj:=λi h st b hb=>by
  have e:b=it:=by simpa using hb
  subst e;refine byG λGq hGq=>?_;obtain⟨o,e,c,d⟩:=st;refine hGq ?_;clear hGq Gq;exact⟨o,e,λv z=>by rw[d]at z;cases z⟩
 keep:=λi h h' st k=>st.at λo e=>k it (by simp) o e
 item:=by intro X hP hw hK hc i ad s σ H E I hf st hg;subst hP hw hK;refine byG λGq hGq=>?_;obtain⟨xs,x,hq,hx⟩:=hg;refine hGq ?_;clear hGq Gq;refine byG λGq hGq=>?_;obtain⟨its,rv,p,hz⟩:=I.tuple hq;refine hGq ?_;clear hGq Gq;obtain⟨u,hu,ru⟩:=rv.get hx;refine byG λGq hGq=>?_;obtain⟨f0,f1,f2,f3,f4,f5⟩:=hf it (by simp);refine hGq ?_;clear hGq Gq;refine wpAny_pyNext_tuple_item st (show s.heap.IsTuple a its.toArray from p) (x:=u) (by simpa using hu) λh' st' sb=>?_;have I1:AX X ad σ H {s with heap:=h'}:=I.turned (t':=s.toks) (λb o hb e=>(sb.2 b hb).trans e) f0 f1 f3 f4 f5;refine byG λGq hGq=>?_;obtain⟨o,e,c,d⟩:=id st';refine hGq ?_;clear hGq Gq;exact⟨u,rfl,KW (s:={s with heap:=h'}) e c d (by decide) ⟨x,H,I1,ru,⟨rfl,λys hy=>by rw[I.tuple_inj hy hq];exact hx⟩,st',λb hb=>(hf b hb).1⟩⟩
 done:=by intro X hP hw hK hc i ad s σ H E I hf st hg;subst hP hw hK;obtain⟨xs,hq,hx⟩:=hg;refine byG λGq hGq=>?_;obtain⟨its,rv,p,hz⟩:=I.tuple hq;refine hGq ?_;clear hGq Gq;refine byG λGq hGq=>?_;obtain⟨f0,f1,f2,f3,f4,f5⟩:=hf it (by simp);refine hGq ?_;clear hGq Gq;have hl:=rv.length;exact wpAny_pyNext_tuple_end (I.ok.hd hc) st (show s.heap.IsTuple a its.toArray from p) (by simp;lia) λh' eb=>⟨rfl,I.turned (t':=s.toks) (λb o hb e=>eb b o hb e) f0 f1 f3 f4 f5⟩
 self:=λ_ _ _ _ _ st h=>wpAny_pyIter_tupleiter st h
theorem Lh{P:qO}{w:qP}{K:qQ}(it:qM)(lo:Int)(n:Nat):IP P w K tg (Sv lo n) [it] it (λi h=>IsRangeIter h it (lo+(i:Nat)*1) ((n:Int)-(i:Nat)) 1) where
 mem:=by simp
 obj:=λi h st b hb=>by
  have e:b=it:=by simpa using hb
  subst e
  exact⟨_,st,λv z=>by have z':Data.fields _=Data.cell v:=z;cases z'⟩
 keep:=λi h h' st k=>k it (by simp) _ st
 item:=by intro X hP hw hK hc i ad s σ H E I hf st hg;subst hP hw hK;refine byG λGq hGq=>?_;obtain⟨f0,f1,f2,f3,f4,f5⟩:=hf it (by simp);refine hGq ?_;clear hGq Gq;have W:=Walks.range (prog:=X.prog) (w:=X.w) (I.ok.hd hc) it lo 1 n;refine W.item i s _ _ hg st λv h' tk hv st' kk=>?_;obtain⟨t,rfl⟩:=hv;have I1:AX X ad σ H {s with heap:=h',toks:=tk}:=I.turned (λb o hb e=>kk b o (by simpa using hb) e) f0 f1 f3 f4 f5;refine⟨_,rfl,KW (s:={s with heap:=h',toks:=tk}) (n:="range_iterator") st' rfl rfl (by decide) ⟨.int (lo+i),H,I1,⟨t,?_⟩,⟨rfl,rfl⟩,st',λb hb=>(hf b hb).1⟩⟩;rw[Int.mul_one]
 done:=by intro X hP hw hK hc i ad s σ H E I hf st hg;subst hP hw hK;refine byG λGq hGq=>?_;obtain⟨f0,f1,f2,f3,f4,f5⟩:=hf it (by simp);refine hGq ?_;clear hGq Gq;exact wpAny_pyNext_range_end (I.ok.hd hc) st (by have:n<=i:=hg;lia) λh' eb=>⟨rfl,I.turned (t':=s.toks) (λb o hb e=>eb b o hb e) f0 f1 f3 f4 f5⟩
 self:=λ_ _ _ _ _ st h=>wpAny_pyIter_rangeiter st h
variable{tl:TE}{lo:Int}{ta:TA}{fp:List qM}
def O9(K:qQ)(tl:TE):TI:=λσ H R=>tl σ H λx H1=>∃a,x=.ref a/\(∃xs,Ag K H1 a xs)/\R (T4 K a) H1
def ZX(K:qQ)(tl:TE):TI:=λσ H R=>tl σ H λx H1=>∃a,x=.ref a/\(∃xs,Ar K H1 a xs)/\R (WE K a) H1
theorem Mm{l:Expr}(hl:PE X l tl):PI X tg l (O9 X.K tl):=by
 intro ad s σ H R I h;refine A8 (hl ad s σ H _ I h) λv s1 z9=>?_;obtain⟨x,H1,I1,r1,q1⟩:=z9;obtain⟨a,e,⟨xs,hq⟩,q⟩:=q1;subst e;cases r1;obtain⟨its,rv,p,hz⟩:=I1.list hq;refine wpAny_pyIter_list p.isList ?_;refine⟨s1.heap.objs.size,[s1.heap.objs.size],_,_,H1,rfl,I1.kept (t':=s1.toks) λb o e=>aZ _ e,Nx a _,⟨_,aj _ rfl,rfl,rfl⟩,λb hb=>?_,q⟩;have e:b=s1.heap.objs.size:=by simpa using hb
 subst e;exact I1.fpOk (af _) (I1.hok.fresh (af _))
theorem PB{l:Expr}(hl:PE X l tl):PI X tg l (ZX X.K tl):=by
 intro ad s σ H R I h;refine A8 (hl ad s σ H _ I h) λv s1 z9=>?_;obtain⟨x,H1,I1,r1,q1⟩:=z9;obtain⟨a,e,⟨xs,hq⟩,q⟩:=q1;subst e;cases r1;obtain⟨its,rv,p,hz⟩:=I1.tuple hq;refine wpAny_pyIter_tuple (show s1.heap.IsTuple a its.toArray from p) ?_;refine⟨s1.heap.objs.size,[s1.heap.objs.size],_,_,H1,rfl,I1.kept (t':=s1.toks) λb o e=>aZ _ e,Lg a _,⟨_,aj _ rfl,rfl,rfl⟩,λb hb=>?_,q⟩;have e:b=s1.heap.objs.size:=by simpa using hb
 subst e;exact I1.fpOk (af _) (I1.hok.fresh (af _))
theorem KY{R:It->Hp->Prop}{hi:Int}{t u v:Tok}{tk:Nat}(I:AX X ad σ H s)(h1:-(2^62)<=lo)(h2:lo<2^62)(h3:-(2^62)<=hi)(h4:hi<2^62)
  (q:R (Sv lo (hi-lo).toNat) H):wpAny (model X.prog X.w) X.A (pyIter (.ref s.heap.objs.size)) (aH X ad σ tg R) E {s with heap:=s.heap.push {cls:=.type "range",data:=.fields #[.int lo t,.int hi u,.int 1 v]},toks:=tk}:=by
 refine wpAny_pyIter_range (IsRange.new ..) (small_one h1 h2 h3 h4) ?_;have I1:AX X ad σ H {s with heap:=s.heap.push {cls:=.type "range",data:=.fields #[.int lo t,.int hi u,.int 1 v]},toks:=tk}:=I.kept λb o e=>aZ _ e
 refine⟨(s.heap.push {cls:=.type "range",data:=.fields #[.int lo t,.int hi u,.int 1 v]}).objs.size,[(s.heap.push {cls:=.type "range",data:=.fields #[.int lo t,.int hi u,.int 1 v]}).objs.size],_,_,H,rfl,
  I1.kept (t':=tk) λb o e=>aZ _ e,Lh _ lo (hi-lo).toNat,?_,λb hb=>?_,q⟩
 ·have e1:lo+((0:Nat):Int)*1=lo:=by simp
  have e2:(((hi-lo).toNat:Nat):Int)-((0:Nat):Int)=Builtin.Range.rangeSize lo hi 1:=by rw[rangeSize_one];split<;>lia
  show IsRangeIter _ _ (lo+((0:Nat):Int)*1) ((((hi-lo).toNat:Nat):Int)-((0:Nat):Int)) 1;rw[e1,e2];exact aj _ rfl
 ·have e:b=(s.heap.push {cls:=.type "range",data:=.fields #[.int lo t,.int hi u,.int 1 v]}).objs.size:=by simpa using hb
  subst e;exact I1.fpOk (af _) (I1.hok.fresh (af _))
def WP(ta:TA):TI:=λσ H R=>ta σ H λvs H1=>∃j:Int,vs=[.int j]/\-(2^62)<=j/\j<2^62/\R (Sv 0 j.toNat) H1
def WQ(ta:TA):TI:=λσ H R=>ta σ H λvs H1=>∃i j:Int,vs=[.int i,.int j]/\(-(2^62)<=i/\i<2^62/\-(2^62)<=j/\j<2^62)/\R (Sv i (j-i).toNat) H1
theorem BN{a:Expr}{p pos:Pos}(hg:Gl X "range")(hm:X.mg "range"=none)(ha:PA X [a] ta)(hs:starEach [a] X.env=[(false,eval a X.env)]:=by rfl):PI X tg (.Call (.Name "range" p) [a] [] pos) (WP ta):=by
 intro ad s σ H R I h;refine Call_ (Cq I hg hm boot_range (bK (A8 (ha pos ad s σ H _ I h) λus s1 z9=>?_) hs rfl));obtain⟨vs,H1,I1,r1,q1⟩:=z9;refine byG λGq hGq=>?_;obtain⟨j,e,q1,q2,q⟩:=q1;refine hGq ?_;clear hGq Gq;subst e;cases r1 with
 |cons r rr =>
  cases rr;obtain⟨t,rfl⟩:=r;exact call_range_1 (KY I1 (by lia) (by lia) q1 q2 (by simpa using q))
theorem Ny{a b:Expr}{p pos:Pos}(hg:Gl X "range")(hm:X.mg "range"=none)(ha:PA X [a,b] ta)(hs:starEach [a,b] X.env=[(false,eval a X.env),(false,eval b X.env)]:=by rfl)(hs2:starEach [b] X.env=[(false,eval b X.env)]:=by rfl):
  PI X tg (.Call (.Name "range" p) [a,b] [] pos) (WQ ta):=by
 intro ad s σ H R I h;refine Call_ (Cq I hg hm boot_range (bK (A8 (ha pos ad s σ H _ I h) λus s1 ⟨vs,H1,I1,r1,q1⟩=>?_) (by rw[hs,hs2]) (by rw[hs2];rfl)));refine byG λGq hGq=>?_;obtain⟨i,j,e,⟨q1,q2,q3,q4⟩,q⟩:=q1;refine hGq ?_;clear hGq Gq;subst e;cases r1 with
 |cons r rr =>
  cases rr with
  |cons r' rr =>
   cases rr;obtain⟨t,rfl⟩:=r;obtain⟨t',rfl⟩:=r';exact call_range_2 (KY I1 q1 q2 q3 q4 q)
def ZY(wi:TI)(g:TG)(tb:TS):TS:=λD σ H=>wi σ H λJ H1=>∃W:Nat->Nat->St->Hp->Prop,(∃m,W 0 m σ H1)/\∀i m σ H,W i m σ H ->
 (J.stop i H/\D.nx σ H)\/(J.go i H/\∃N:St->Hp->Prop,(∀σ' H',N σ' H'->∃m',m'<m/\W (i+1) m' σ' H')/\∀x H',J.yld i H x H'->g x σ H' λσ2 H2=>tb {D with nx:=N,ct:=N,bk:=D.nx} σ2 H2)
noncomputable def Fy(fp:List qM)(h:Heap):List (qM×Obj):=fp.filterMap λb=>(h.get? b).map λo=>(b,o)
theorem CJ{b:qM}{o:Obj}(hb:b∈fp)(e:h.get? b=some o):(b,o)∈Fy fp h:=cE.mpr ⟨b,hb,by rw[e];rfl⟩
theorem Nz{p:qM×Obj}(hp:p∈Fy fp h):p.1∈fp/\h.get? p.1=some p.2:=by
 obtain⟨b,hb,e⟩:=cE.mp hp;cases q:h.get? b with
 |none=>rw[q]at e;cases e
 |some o =>
  rw[q]at e;have e':(b,o)=p:=Option.some.inj e;subst e';exact⟨hb,q⟩
theorem AX.pinned(I:AX X ad σ H s)(hf:∀b∈fp,En X ad H b)(ho:∀b∈fp,∃o,s.heap.get? b=some o/\∀v,o.data≠.cell v):AX X (ad++Fy fp s.heap) σ H s:=
 I.pins_of λp hp=>(ar.mp hp).elim (λz=>I.pin p (bE _ z)) λz=>by obtain⟨hb,e⟩:=Nz z;obtain⟨f0,f1,f2,_⟩:=hf p.1 hb;obtain⟨o,e',d⟩:=ho p.1 hb;rw[e]at e';cases e';exact⟨e,f0,f1,f2,d⟩
theorem AX.unpinned{pl:List (qM×Obj)}(I:AX X (ad++pl) σ H s):AX X ad σ H s:=I.pins_of λp hp=>I.pin p (bE _ (dM _ hp))
theorem BR{iter:Expr}{wi:TI}{g:TG}{tb:TS}{pos:Pos}(hp:PassesOwn (model X.prog X.w) X.A X.env X.xe)(hc:X.calm=true)(hi:PI X tg iter wi)(hg:PG X tg g)(hb:FD X body tb)
  (hs:∀x,foldedSetIterable iter X.env x=pure x:=by intro _;rfl):PS X (.For tg iter body [] pos) (ZY wi g tb):=by
 intro ad s σ H D I h;refine wpAny_For (A8 (hi ad s σ H _ I h) λv s1 h1=>A8 h1 λitv s2 h2=>?_) hs;refine byG λGq hGq=>?_;obtain⟨it,fp,tn,J,H2,e,I2,T,st2,f2,W,⟨m0,w0⟩,turn⟩:=h2;refine hGq ?_;clear hGq Gq;subst e;have stat:∀{H':Hp},(∀b∈fp,H' b=none)->∀b∈fp,En X ad H' b:=λhn b hb=>⟨hn b hb,(f2 b hb).2⟩
 refine codeAny_forLoop_any (λn s'=>∃i σ' H',AX X ad σ' H' s'/\tn i s'.heap/\(∀b∈fp,H' b=none)/\W i n σ' H') ?_ m0 ⟨0,σ,H2,I2,st2,λb hb=>(f2 b hb).1,w0⟩;intro n s3 hRq;refine byG λGq hGq=>?_;obtain⟨i,σ3,H3,I3,st3,fr3,w3⟩:=hRq;refine hGq ?_;clear hGq Gq;rcases turn i n σ3 H3 w3 with⟨stop,qn⟩|⟨go,N,hN,step⟩
 ·refine wpAny_passesOwn hp (A8 (T.done X rfl rfl rfl hc i ad s3 σ3 H3 X.xe I3 (stat fr3) st3 stop) λr s4 z9=>?_);obtain⟨hr,I4⟩:=z9;subst hr;exact wpAny_execs_nil ⟨σ3,H3,I4,qn⟩
 ·refine wpAny_passesOwn hp (A8 (T.item X rfl rfl rfl hc i ad s3 σ3 H3 X.xe I3 (stat fr3) st3 go) λr s4 z9=>?_);obtain⟨u,hr,h4⟩:=z9;subst hr;refine wpAny_passesOwn hp (A8 h4 λ_ s5 z9=>?_);obtain⟨x,H5,I5,r5,y5,st5,fr5⟩:=z9;have I5':=I5.pinned (stat fr5) (T.obj _ _ st5);refine wpAny_passesOwn hp (A8 (hg _ s5 σ3 H5 x u _ I5' r5 (step x H5 y5)) λ_ s6 z9=>?_);obtain⟨σ6,H6,I6,q6⟩:=z9;refine wpAny_passesOwn hp (A8 (hb _ s6 σ6 H6 _ I6 q6) λf s7 q7=>?_);have again:∀{σ7:St} {H7:Hp},AX X (ad++Fy fp s5.heap) σ7 H7 s7->N σ7 H7->∃m,m<n/\∃i σ' H',AX X ad σ' H' s7/\tn i s7.heap/\(∀b∈fp,H' b=none)/\W i m σ' H':=λ{σ7 H7} I7 n7=>by obtain⟨m',hm,w7⟩:=hN σ7 H7 n7;refine⟨m',hm,i+1,σ7,H7,I7.unpinned,T.keep _ _ _ st5 λb hb o e=>(I7.pin (b,o) (bE _ (bE _ (CJ hb e)))).1,λb hb=>?_,w7⟩;obtain⟨o,e,d⟩:=T.obj _ _ st5 b hb;exact (I7.pin (b,o) (bE _ (bE _ (CJ hb e)))).2.1
  cases f with
  |next=>obtain⟨σ7,H7,I7,n7⟩:=q7;exact again I7 n7
  |cont=>obtain⟨σ7,H7,I7,n7⟩:=q7;exact again I7 n7
  |brk=>obtain⟨σ7,H7,I7,q7⟩:=q7;exact⟨σ7,H7,I7.unpinned,q7⟩
  |ret v=>obtain⟨x7,σ7,H7,I7,r7,q7⟩:=q7;exact⟨x7,σ7,H7,I7.unpinned,r7,q7⟩
theorem CO{K:qQ}{g:TG}{tb:TS}(Pv:Nat->St->Hp->Prop)(h0:Pv 0 σ H)(hl:∀i σ H,i<=xs.length->Pv i σ H->Ag K H a xs)
  (hs:∀i x σ H,xs[i]?=some x->Pv i σ H->g x σ H λσ2 H2=>tb {D with nx:=Pv (i+1),ct:=Pv (i+1),bk:=D.nx} σ2 H2) (hd:∀σ H,Pv xs.length σ H->D.nx σ H):
  ∃W:Nat->Nat->St->Hp->Prop,(∃m,W 0 m σ H)/\∀i m σ H,W i m σ H ->
   ((T4 K a).stop i H/\D.nx σ H)\/((T4 K a).go i H/\∃N:St->Hp->Prop,(∀σ' H',N σ' H'->∃m',m'<m/\W (i+1) m' σ' H')/\∀x H',(T4 K a).yld i H x H'->g x σ H' λσ2 H2=>tb {D with nx:=N,ct:=N,bk:=D.nx} σ2 H2):=by
 refine⟨λi m σ H=>m=xs.length-i/\i<=xs.length/\Pv i σ H,⟨xs.length,by simp,Nat.zero_le _,h0⟩,?_⟩;rintro i m σ H ⟨rfl,hi,p⟩;have q:=hl i σ H hi p
 by_cases hlt:i<xs.length
 ·refine .inr ⟨⟨xs,xs[i],q,by simp[hlt]⟩,Pv (i+1),λσ' H' p'=>⟨xs.length-(i+1),by lia,rfl,hlt,p'⟩,λx H' y=>?_⟩;obtain⟨e,y⟩:=y;subst e;exact hs i x σ _ (y xs q) p
 ·have e:i=xs.length:=by lia
  subst e;exact .inl ⟨⟨xs,q,af _⟩,hd σ H p⟩
theorem RL{K:qQ}{g:TG}{tb:TS}(Pv:Nat->St->Hp->Prop)(h0:Pv 0 σ H)(hl:∀i σ H,i<=xs.length->Pv i σ H->Ar K H a xs)
  (hs:∀i x σ H,xs[i]?=some x->Pv i σ H->g x σ H λσ2 H2=>tb {D with nx:=Pv (i+1),ct:=Pv (i+1),bk:=D.nx} σ2 H2) (hd:∀σ H,Pv xs.length σ H->D.nx σ H):
  ∃W:Nat->Nat->St->Hp->Prop,(∃m,W 0 m σ H)/\∀i m σ H,W i m σ H ->
   ((WE K a).stop i H/\D.nx σ H)\/((WE K a).go i H/\∃N:St->Hp->Prop,(∀σ' H',N σ' H'->∃m',m'<m/\W (i+1) m' σ' H')/\∀x H',(WE K a).yld i H x H'->g x σ H' λσ2 H2=>tb {D with nx:=N,ct:=N,bk:=D.nx} σ2 H2):=by
 refine⟨λi m σ H=>m=xs.length-i/\i<=xs.length/\Pv i σ H,⟨xs.length,by simp,Nat.zero_le _,h0⟩,?_⟩;rintro i m σ H ⟨rfl,hi,p⟩;have q:=hl i σ H hi p
 by_cases hlt:i<xs.length
 ·refine .inr ⟨⟨xs,xs[i],q,by simp[hlt]⟩,Pv (i+1),λσ' H' p'=>⟨xs.length-(i+1),by lia,rfl,hlt,p'⟩,λx H' y=>?_⟩;obtain⟨e,y⟩:=y;subst e;exact hs i x σ _ (y xs q) p
 ·have e:i=xs.length:=by lia
  subst e;exact .inl ⟨⟨xs,q,af _⟩,hd σ H p⟩
theorem Bm{n:Nat}{g:TG}{tb:TS}(Pv:Nat->St->Hp->Prop)(h0:Pv 0 σ H)
  (hs:∀i σ H,i<n->Pv i σ H->g (.int (lo+i)) σ H λσ2 H2=>tb {D with nx:=Pv (i+1),ct:=Pv (i+1),bk:=D.nx} σ2 H2) (hd:∀σ H,Pv n σ H->D.nx σ H):
  ∃W:Nat->Nat->St->Hp->Prop,(∃m,W 0 m σ H)/\∀i m σ H,W i m σ H ->
   ((Sv lo n).stop i H/\D.nx σ H)\/((Sv lo n).go i H/\∃N:St->Hp->Prop,(∀σ' H',N σ' H'->∃m',m'<m/\W (i+1) m' σ' H')/\∀x H',(Sv lo n).yld i H x H'->g x σ H' λσ2 H2=>tb {D with nx:=N,ct:=N,bk:=D.nx} σ2 H2):=by
 refine⟨λi m σ H=>m=n-i/\i<=n/\Pv i σ H,⟨n,by simp,Nat.zero_le _,h0⟩,?_⟩;rintro i m σ H ⟨rfl,hi,p⟩
 by_cases hlt:i<n
 ·refine .inr ⟨hlt,Pv (i+1),λσ' H' p'=>⟨n-(i+1),by lia,rfl,hlt,p'⟩,λx H' y=>?_⟩;obtain⟨e,y⟩:=y;subst e y;exact hs i σ _ hlt p
 ·have e:i=n:=by lia
  subst e;exact .inl ⟨af _,hd σ H p⟩
theorem G5{c:TT}{tb:TS}(Pv:St->Hp->Prop)(μ:St->Hp->Nat)(h0:Pv σ H)
  (hs:∀σ H,Pv σ H->c σ H λb H1=>if b=true then tb {D with nx:=λσ' H'=>Pv σ' H'/\μ σ' H'<μ σ H,ct:=λσ' H'=>Pv σ' H'/\μ σ' H'<μ σ H,bk:=D.nx} σ H1 else D.nx σ H1)
  (mono:∀σ H Q Q',(∀b H1,Q b H1->Q' b H1)->c σ H Q->c σ H Q'):O8 c tb D σ H:=by
 refine⟨λm σ H=>m=μ σ H/\Pv σ H,⟨_,rfl,h0⟩,?_⟩;rintro m σ H ⟨rfl,p⟩;refine mono σ H _ _ (λb H1 q=>?_) (hs σ H p);cases b with
 |true=>exact⟨_,λσ' H' ⟨p',l⟩=>⟨_,l,rfl,p'⟩,q⟩
 |false=>exact q
abbrev R2:=V->V->Hp->VK->Prop
def GO(X:Cx)(f:qL->qL->Sem qL)(r:R2):Prop:=
 ∀(ad:List (qM×Obj)) (s:qN) (σ:St) (H:Hp) (x y:V) (v u:qL) (Q:VK),AX X ad σ H s->Av x v->Av y u->r x y H Q ->
  wpAny (model X.prog X.w) X.A (f v u) (EP X ad σ Q) X.xe s
def ZZ(X:Cx)(f:qL->Sem qL)(r:V->Hp->VK->Prop):Prop:=
 ∀(ad:List (qM×Obj)) (s:qN) (σ:St) (H:Hp) (x:V) (v:qL) (Q:VK),AX X ad σ H s->Av x v->r x H Q ->
  wpAny (model X.prog X.w) X.A (f v) (EP X ad σ Q) X.xe s
def CH(X:Cx)(f:qL)(r:List V->Hp->VK->Prop):Prop:=
 ∀(ad:List (qM×Obj)) (s:qN) (σ:St) (H:Hp) (xs:List V) (us:List qL) (Q:VK),AX X ad σ H s->Au xs us->r xs H Q ->
  wpAny (model X.prog X.w) X.A (call f us) (EP X ad σ Q) X.xe s
def WR(r:R2)(ta tb:TE):TE:=λσ H Q=>ta σ H λx H1=>tb σ H1 λy H2=>r x y H2 Q
def aI(r:V->Hp->VK->Prop)(ta:TE):TE:=λσ H Q=>ta σ H λx H1=>r x H1 Q
def rI(C:Int->Int->Prop)(g:Int->Int->V):R2:=λx y H Q=>∃i j,x=.int i/\y=.int j/\C i j/\Q (g i j) H
def RM(g:Int->Int->V):R2:=λx y H Q=>∃i j,x=.int i/\y=.int j/\Q (g i j) H
def rU(g:Int->V):V->Hp->VK->Prop:=λx H Q=>∃i,x=.int i/\Q (g i) H
section
variable{a b c:Expr}{ta tb tc:TE}{pos:Pos}
theorem T5(ha:PE X a ta)(hb:PE X b tb){R:V->V->Hp->Prop}(I:AX X ad σ H s)
  (h:ta σ H λx H1=>tb σ H1 λy H2=>R x y H2) {Q:qL->qN->Prop} {f:qL->qL->Sem qL}
  (hf:∀v u s2 x y H2,AX X ad σ H2 s2->Av x v->Av y u->R x y H2->wpAny (model X.prog X.w) X.A (f v u) Q X.xe s2):
  wpAny (model X.prog X.w) X.A (eval a X.env) (λv s₁=>wpAny (model X.prog X.w) X.A (eval b X.env) (λu s₂=>wpAny (model X.prog X.w) X.A (f v u) Q X.xe s₂) X.xe s₁) X.xe s:=by
 refine A8 (ha ad s σ H _ I h) λv s1 z9=>?_;obtain⟨x,H1,I1,r1,q1⟩:=z9;refine A8 (hb ad s1 σ H1 _ I1 q1) λu s2 z9=>?_;obtain⟨y,H2,I2,r2,q2⟩:=z9;exact hf v u s2 x y H2 I2 r1 r2 q2
theorem AL{op:Operator}{r:R2}(ho:GO X (binaryOp op) r)(ha:PE X a ta)(hb:PE X b tb):PE X (.BinOp a op b pos) (WR r ta tb):=by intro ad s σ H Q I h;exact wpAny_BinOp (T5 ha hb I h λv u s2 x y H2 I2 rx ry q=>ho ad s2 σ H2 x y v u Q I2 rx ry q)
theorem Sw{op:UnaryOp}{r:V->Hp->VK->Prop}(ho:ZZ X (unaryOp op) r)(ha:PE X a ta):PE X (.UnaryOp op a pos) (aI r ta):=by intro ad s σ H Q I h;exact UnaryOp_ (A8 (ha ad s σ H _ I h) λv s1 ⟨x,H1,I1,r1,q1⟩=>ho ad s1 σ H1 x v Q I1 r1 q1)
theorem ZJ{f:qL->qL->Sem qL}{C:Int->Int->Prop}{g:Int->Int->Int}
  (rule:∀(i j:Int) (t u:Tok) (s:qN) (Q:qL->qN->Prop) (E:qL->qN->Prop),C i j->Q (.int (g i j) s.toks) {s with toks:=s.toks+1}->wpAny (model X.prog X.w) X.A (f (.int i t) (.int j u)) Q E s):
  GO X f (rI C λi j=>.int (g i j)):=by
 intro ad s σ H x y v u Q I rx ry h;refine byG λGq hGq=>?_;obtain⟨i,j,rfl,rfl,hc,q⟩:=h;refine hGq ?_;clear hGq Gq;obtain⟨t,rfl⟩:=rx;obtain⟨t',rfl⟩:=ry;exact rule i j t t' s _ _ hc ⟨.int (g i j),H,I.tok _,⟨_,rfl⟩,q⟩
theorem WS{f:qL->qL->Sem qL}{g:Int->Int->Int}
  (rule:∀(i j:Int) (t u:Tok) (s:qN) (Q:qL->qN->Prop) (E:qL->qN->Prop),Q (.int (g i j) s.toks) {s with toks:=s.toks+1}->wpAny (model X.prog X.w) X.A (f (.int i t) (.int j u)) Q E s):
  GO X f (RM λi j=>.int (g i j)):=by
 intro ad s σ H x y v u Q I rx ry h;refine byG λGq hGq=>?_;obtain⟨i,j,rfl,rfl,q⟩:=h;refine hGq ?_;clear hGq Gq;obtain⟨t,rfl⟩:=rx;obtain⟨t',rfl⟩:=ry;exact rule i j t t' s _ _ ⟨.int (g i j),H,I.tok _,⟨_,rfl⟩,q⟩
theorem RN{f:qL->qL->Sem qL}{g:Int->Int->Bool}
  (rule:∀(i j:Int) (t u:Tok) (s:qN) (Q:qL->qN->Prop) (E:qL->qN->Prop),Q (.bool (g i j)) s->wpAny (model X.prog X.w) X.A (f (.int i t) (.int j u)) Q E s):
  GO X f (RM λi j=>.bl (g i j)):=by
 intro ad s σ H x y v u Q I rx ry h;obtain⟨i,j,rfl,rfl,q⟩:=h;obtain⟨t,rfl⟩:=rx;obtain⟨t',rfl⟩:=ry;exact rule i j t t' s _ _ ⟨.bl (g i j),H,I,rfl,q⟩
def T6(i j:Int):Prop:=0<j/\j<1073741824
def T7(i j:Int):Prop:=0<=j/\j<=1000000/\i.natAbs<2^64
def PD(i j:Int):Prop:=(-(2^64)<i/\i<2^64)\/(-(2^64)<j/\j<2^64)
theorem PD.ok{i j:Int}(h:PD i j):IntMulOk i j:=by
 rcases h with⟨h1,h2⟩|⟨h1,h2⟩
 ·exact .of_left (intBits_le_64 h1 h2)
 ·exact .of_right (intBits_le_64 h1 h2)
theorem Bf:GO X (binaryOp .Add) (RM λi j=>.int (i+j)):=WS λ_ _ _ _ _ _ _ q=>add_int q
theorem D5:GO X (binaryOp .Sub) (RM λi j=>.int (i-j)):=WS λ_ _ _ _ _ _ _ q=>sub_int q
theorem Eo:GO X (binaryOp .Mult) (rI PD λi j=>.int (i*j)):=ZJ λ_ _ _ _ _ _ _ hc q=>mul_int q hc.ok
theorem DG:GO X (binaryOp .FloorDiv) (rI T6 λi j=>.int (i/j)):=ZJ λi j _ _ _ _ _ hc q=>by have h1:(0:Int)<j:=hc.1;have h2:j<1073741824:=hc.2;exact floordiv_int (by lia) (by rw[Int.fdiv_eq_ediv_of_nonneg i (by lia)];exact q) (.inl (PyProof.noPylong_small (by lia)))
theorem Bz:GO X (binaryOp .Mod) (rI (λ_ j=>0<j) λi j=>.int (i%j)):=ZJ λi j _ _ _ _ _ hc q=>by have h1:(0:Int)<j:=hc;exact mod_int' (by lia) (by rw[Int.fmod_eq_emod_of_nonneg i (by lia)];exact q)
theorem T8:GO X (binaryOp .Pow) (rI T7 λi j=>.int (i^j.toNat)):=ZJ λ_ _ _ _ _ _ _ hc q=>pow_int_small hc.1 hc.2.1 hc.2.2 q
theorem aR{f:qL->Sem qL}{g:Int->Int}
  (rule:∀(i:Int) (t:Tok) (s:qN) (Q:qL->qN->Prop) (E:qL->qN->Prop),Q (.int (g i) s.toks) {s with toks:=s.toks+1}->wpAny (model X.prog X.w) X.A (f (.int i t)) Q E s):
  ZZ X f (rU λi=>.int (g i)):=by
 intro ad s σ H x v Q I rx h;obtain⟨i,rfl,q⟩:=h;obtain⟨t,rfl⟩:=rx;exact rule i t s _ _ ⟨.int (g i),H,I.tok _,⟨_,rfl⟩,q⟩
theorem PH:ZZ X (unaryOp .USub) (rU λi=>.int (-i)):=aR λ_ _ _ _ _ q=>neg_int q
end
noncomputable def N3:V->V->Bool
 |.non,.non=>true|.non,.int _=>true|.int _,.non=>true|.non,.bl _=>true|.bl _,.non=>true|.non,.str _=>true|.str _,.non=>true
 |.int _,.int _=>true|.bl _,.bl _=>true|.str _,.str _=>true|.byt _,.byt _=>true
 |.int _,.str _=>true|.str _,.int _=>true|.bl _,.str _=>true|.str _,.bl _=>true
 |_,_=>false
def aJ:R2:=λx y H Q=>N3 x y=true/\Q (.bl (decide (x=y))) H
def aK:R2:=λx y H Q=>N3 x y=true/\Q (.bl (!decide (x=y))) H
theorem Mn{i j:Int}:decide (V.int i=V.int j)=(i==j):=by rw[cV];simp
theorem PJ{i j:Bool}:decide (V.bl i=V.bl j)=(i==j):=by rw[cV];simp
theorem Mo{i j:Str}:decide (V.str i=V.str j)=(i==j):=by rw[cV];simp
theorem Mp{i j:Array UInt8}:decide (V.byt i=V.byt j)=(i.toList==j.toList):=by rw[cV];cases i;cases j;simp
section
variable{a b c:Expr}{ta tb tc:TE}{pos:Pos}
theorem Ax{Q:VK}{k k':Bool}(I:AX X ad σ H s)(q:Q (.bl k) H)(e:k=k'):EP X ad σ Q (.bool k') s:=by subst e;exact⟨.bl k,H,I,rfl,q⟩
theorem CP:GO X (compareOp .Eq) aJ:=by
 intro ad s σ H x y v u Q I rx ry h;obtain⟨hs,q⟩:=h;cases x with
 |non =>
  cases rx;cases y with
  |non=>cases ry;exact PySem.EqNone.eq_none_none (Ax I q (by simp))
  |bl j=>cases ry;exact PySem.EqNone.eq_none_bool (Ax I q (by simp))
  |int j=>obtain⟨t',rfl⟩:=ry;exact PySem.EqNone.eq_none_int (Ax I q (by simp))
  |str j=>obtain⟨t',rfl⟩:=ry;exact PySem.EqNone.eq_none_str (Ax I q (by simp))
  |_=>exact qE (show false=true from hs) ap
 |bl i =>
  cases rx;cases y with
  |non=>cases ry;exact PySem.EqNone.eq_bool_none (Ax I q (by simp))
  |bl j=>cases ry;exact eq_bool (Ax I q PJ)
  |str j=>obtain⟨t',rfl⟩:=ry;exact PySem.EqMixed.eq_bool_str (Ax I q (by simp))
  |_=>exact qE (show false=true from hs) ap
 |int i =>
  obtain⟨t,rfl⟩:=rx;cases y with
  |non=>cases ry;exact PySem.EqNone.eq_int_none (Ax I q (by simp))
  |int j=>obtain⟨t',rfl⟩:=ry;exact eq_int (Ax I q Mn)
  |str j=>obtain⟨t',rfl⟩:=ry;exact PySem.EqMixed.eq_int_str (Ax I q (by simp))
  |_=>exact qE (show false=true from hs) ap
 |str i =>
  obtain⟨t,rfl⟩:=rx;cases y with
  |non=>cases ry;exact PySem.EqNone.eq_str_none (Ax I q (by simp))
  |bl j=>cases ry;exact PySem.EqMixed.eq_str_bool (Ax I q (by simp))
  |int j=>obtain⟨t',rfl⟩:=ry;exact PySem.EqMixed.eq_str_int (Ax I q (by simp))
  |str j=>obtain⟨t',rfl⟩:=ry;exact eq_str (Ax I q Mo)
  |_=>exact qE (show false=true from hs) ap
 |byt i =>
  obtain⟨t,rfl⟩:=rx;cases y with
  |byt j=>obtain⟨t',rfl⟩:=ry;exact PySem.W.eq_bytes (Ax I q Mp)
  |_=>exact qE (show false=true from hs) ap
 |_=>cases y<;>exact qE (show false=true from hs) ap
theorem Dy:GO X (compareOp .NotEq) aK:=by
 intro ad s σ H x y v u Q I rx ry h;obtain⟨hs,q⟩:=h;cases x with
 |non =>
  cases rx;cases y with
  |non=>cases ry;exact PySem.EqNone.ne_none_none (Ax I q (by simp))
  |bl j=>cases ry;exact PySem.EqNone.ne_none_bool (Ax I q (by simp))
  |int j=>obtain⟨t',rfl⟩:=ry;exact PySem.EqNone.ne_none_int (Ax I q (by simp))
  |str j=>obtain⟨t',rfl⟩:=ry;exact PySem.EqNone.ne_none_str (Ax I q (by simp))
  |_=>exact qE (show false=true from hs) ap
 |bl i =>
  cases rx;cases y with
  |non=>cases ry;exact PySem.EqNone.ne_bool_none (Ax I q (by simp))
  |bl j=>cases ry;exact ne_bool (Ax I q (qK not PJ))
  |str j=>obtain⟨t',rfl⟩:=ry;exact PySem.EqMixed.ne_bool_str (Ax I q (by simp))
  |_=>exact qE (show false=true from hs) ap
 |int i =>
  obtain⟨t,rfl⟩:=rx;cases y with
  |non=>cases ry;exact PySem.EqNone.ne_int_none (Ax I q (by simp))
  |int j=>obtain⟨t',rfl⟩:=ry;exact ne_int (Ax I q (qK not Mn))
  |str j=>obtain⟨t',rfl⟩:=ry;exact PySem.EqMixed.ne_int_str (Ax I q (by simp))
  |_=>exact qE (show false=true from hs) ap
 |str i =>
  obtain⟨t,rfl⟩:=rx;cases y with
  |non=>cases ry;exact PySem.EqNone.ne_str_none (Ax I q (by simp))
  |bl j=>cases ry;exact PySem.EqMixed.ne_str_bool (Ax I q (by simp))
  |int j=>obtain⟨t',rfl⟩:=ry;exact PySem.EqMixed.ne_str_int (Ax I q (by simp))
  |str j=>obtain⟨t',rfl⟩:=ry;exact ne_str (Ax I q (qK not Mo))
  |_=>exact qE (show false=true from hs) ap
 |byt i =>
  obtain⟨t,rfl⟩:=rx;cases y with
  |byt j=>obtain⟨t',rfl⟩:=ry;exact PySem.W.ne_bytes (Ax I q (qK not Mp))
  |_=>exact qE (show false=true from hs) ap
 |_=>cases y<;>exact qE (show false=true from hs) ap
theorem D6:GO X (compareOp .Lt) (RM λi j=>.bl (decide (i<j))):=RN λ_ _ _ _ _ _ _ q=>lt_int q
theorem Sx:GO X (compareOp .LtE) (RM λi j=>.bl (decide (i<=j))):=RN λ_ _ _ _ _ _ _ q=>le_int q
theorem D7:GO X (compareOp .Gt) (RM λi j=>.bl (decide (j<i))):=RN λ_ _ _ _ _ _ _ q=>gt_int q
theorem WU:GO X (compareOp .GtE) (RM λi j=>.bl (decide (j<=i))):=RN λ_ _ _ _ _ _ _ q=>ge_int q
theorem Ih:GO X (compareOp .In) (λx y H Q=>∃i j,x=.str i/\y=.str j/\Q (.bl (!(Builtin.Str.occurrences j i 0 j.length 1).isEmpty)) H):=by intro ad s σ H x y v u Q I rx ry h;obtain⟨i,j,rfl,rfl,q⟩:=h;obtain⟨t,rfl⟩:=rx;obtain⟨t',rfl⟩:=ry;exact in_str (Ax I q rfl)
theorem PK:GO X (compareOp .Is) (λx y H Q=>y=.non/\Q (.bl (decide (x=.non))) H):=by
 intro ad s σ H x y v u Q I rx ry h;obtain⟨rfl,q⟩:=h;cases ry;refine is_none_gen (Ax I q ?_)
 cases x<;>first
  | (cases rx;rfl)
  | (obtain⟨t,rfl⟩:=rx;rfl)
theorem RO:GO X (compareOp .IsNot) (λx y H Q=>y=.non/\Q (.bl (!decide (x=.non))) H):=by
 intro ad s σ H x y v u Q I rx ry h;obtain⟨rfl,q⟩:=h;cases ry;refine isnot_none_gen (Ax I q ?_)
 cases x<;>first
  | (cases rx;rfl)
  | (obtain⟨t,rfl⟩:=rx;rfl)
theorem Ad(b:Expr)(h:op≠.In:=by decide)(h2:op≠.NotIn:=by decide):behindInMarks op b=false:=by
 have e:(op==.In||op==.NotIn)=false:=by rw[beq_eq_false_iff_ne.mpr h,beq_eq_false_iff_ne.mpr h2];rfl
 cases b with
 |Set elts k p=>show (k==0&&(op==.In||op==.NotIn)&&_)=false;rw[e,dC];rfl
 |_=>rfl
theorem CN{r:R2}(ho:GO X (compareOp op) r)(ha:PE X a ta)(hb:PE X b tb)(hm:behindInMarks op b=false):PE X (.Compare a [op] [b] pos) (WR r ta tb):=by intro ad s σ H Q I h;exact wpAny_Compare1 (T5 ha hb I h λv u s2 x y H2 I2 rx ry q=>ho ad s2 σ H2 x y v u Q I2 rx ry q) hm
def Sy(t:TE):TT:=λσ H Q=>t σ H λx H'=>∃k,x=.bl k/\Q k H'
theorem AZ{r:R2}(ho:GO X (compareOp op) r)(ha:PE X a ta)(hb:PE X b tb)(hm:behindInMarks op b=false):PT X (.Compare a [op] [b] pos) (Sy (WR r ta tb)):=by
 intro ad s σ H Q I h
 refine wpAny_isTrue_Compare1 (A8 (ha ad s σ H _ I h) λv s1 ⟨x,H1,I1,r1,q1⟩=>A8 (hb ad s1 σ H1 _ I1 q1) λu s2 ⟨y,H2,I2,r2,q2⟩ =>
  A8 (ho ad s2 σ H2 x y v u _ I2 r1 r2 q2) λc s3 ⟨z,H3,I3,r3,k,e,q3⟩=>?_) hm
 subst e;cases r3;exact wpAny_truthy_bool ⟨H3,I3,q3⟩
theorem D8:(sizeLine:Nat)<2^63:=by rw[sizeLine_eq];decide
theorem AD:GO X (binaryOp .Add) (λx y H Q=>∃i j,x=.str i/\y=.str j/\i.length+j.length<=sizeLine/\Q (.str (i++j)) H):=by intro ad s σ H x y v u Q I rx ry h;refine byG λGq hGq=>?_;obtain⟨i,j,rfl,rfl,hz,q⟩:=h;refine hGq ?_;clear hGq Gq;obtain⟨t,rfl⟩:=rx;obtain⟨t',rfl⟩:=ry;exact add_str (λt' tk=>⟨.str (i++j),H,I.tok _,⟨_,rfl⟩,q⟩) hz
theorem DT{x:V}(r:Au [x] us):∃u,us=[u]/\Av x u:=by
 cases r with
 |cons r1 r2=>cases r2;exact⟨_,rfl,r1⟩
theorem Mq{x:V}(r:Au [x,y] us):∃u w',us=[u,w']/\Av x u/\Av y w':=by
 cases r with
 |cons r1 r2 =>
  cases r2 with
  |cons r3 r4=>cases r4;exact⟨_,_,rfl,r1,r3⟩
theorem N4(hc:X.calm=true):CH X (.builtin "min") (λxs H Q=>∃i j,xs=[.int i,.int j]/\Q (.int (if j<i then j else i)) H):=by
 intro ad s σ H xs us Q I r h;obtain⟨i,j,rfl,q⟩:=h;obtain⟨u,w',rfl,⟨t,rfl⟩,⟨t',rfl⟩⟩:=Mq r;refine min_two_ints (I.ok.hd hc) λh' tk k=>⟨_,H,I.kept k,?_,q⟩
 by_cases hj:j<i
 ·rw[qD hj,qD hj];exact⟨_,rfl⟩
 ·rw[qC hj,qC hj];exact⟨_,rfl⟩
theorem BO:CH X (.type "str") (λxs H Q=>∃i,xs=[.int i]/\i.natAbs.log2<1920/\Q (.str (toString i)) H):=by intro ad s σ H xs us Q I r h;obtain⟨i,rfl,hz,q⟩:=h;obtain⟨u,rfl,t,rfl⟩:=DT r;exact PySem.P.str_of_int hz ⟨.str _,H,I.tok _,⟨_,rfl⟩,q⟩
end
structure Li(h:Heap)(x dx C:qM)(mA:Str->Option qL):Prop where
 obj:h.get? x=some (PySem.W.instObj C dx)
 ns:h.Ns1 dx mA
 ne:dx≠x
variable{dx:qM}
theorem N5{mA:Str->Option qL}(n:h.Ns1 dx mA):∃od,h.get? dx=some od/\∀name,PySem.W.lookIn name od=some (mA name):=by
 refine byG λGq hGq=>?_;obtain⟨o,es,ep,ho,hd,hk,_,hm⟩:=n;refine hGq ?_;clear hGq Gq;refine⟨o,ho,λname=>?_⟩;have e:=hm name;unfold nsFind findBy at e;rw[<-Array.find?_toList]at e;unfold PySem.W.lookIn;rw[hd];dsimp only;split
 ·rename_i y q
  rw[q]at e;exact qK some e
 ·rename_i q
  rw[q]at e
  have a:es.toList.any (·.refKey)=false:=by rw[List.any_eq_false];intro y hy;obtain⟨z,t,hkey⟩:=hk y (Array.mem_toList_iff.mp hy);simp[DictEntry.refKey,hkey]
  have a':¬es.toList.any (·.refKey)=true:=by rw[a];exact ap
  rw[qC a'];exact qK some e
variable{C:qM}
theorem Li.look{x:qM}{mA:Str->Option qL}(I:Li h x dx C mA):∃od,PySem.W.InstAt h x (PySem.W.instObj C dx) C (some od)/\∀name,PySem.W.lookIn name od=some (mA name):=
 let ⟨od,ho,hl⟩:=N5 I.ns
 ⟨od,⟨I.obj,rfl,rfl,ho⟩,hl⟩
variable{kw:List (Str×qL)}
section
variable{prog:qO}{w:qP}{A:Around}{K:qQ}{x f:qM}{mA:Str->Option qL}{name:Str}{v:qL}
theorem RP{expr:Bool}(X:K.In s.heap)(I:Li s.heap x dx C mA)(hg:PySem.W.plainGet K C name=true)(hh:PySem.W.hasDictIn K C=true)
  (ha:PySem.W.findIn K (.ref C) name=some none) (hv:mA name=some v) (hv':PySem.W.handedIn v=true) (h:Q v {s with toks:=s.toks+1}):
  wpAny (model prog w) A (getAttr (.ref x) name expr) Q E s:=by
 obtain⟨od,J,hl⟩:=I.look;exact PySem.W.get_value X J (PySem.W.plainGet_of hg).1 (PySem.W.findObj_own hh ha rfl (by rw[hl,hv])) hv' h
theorem PL{pl:Sem Bool}{Q:qL×List qL->qN->Prop}(X:K.In s.heap)(I:Li s.heap x dx C mA)(hg:PySem.W.plainGet K C name=true)
  (hf:PySem.W.findIn K (.ref C) name=some (some (.ref f))) (ht:PySem.W.isFn K (.ref f)=true) (hv:mA name=none) (h:Q (.ref f,[.ref x]) s):
  wpAny (model prog w) A (getMethod (.ref x) name pl) Q E s:=by
 obtain⟨od,J,hl⟩:=I.look;exact PySem.W.method_fn X J (PySem.W.plainGet_of hg).1 (PySem.W.plainGet_of hg).2 hf (beq_iff_eq.mp ht) (by show (PySem.W.lookIn name od).map (·.isSome)=some false;rw[hl,hv];rfl) h
theorem RQ{ns:List Str}{Q:Unit->qN->Prop}(X:K.In s.heap)(I:Li s.heap x dx C mA)
  (hs:PySem.W.findIn K (.ref C) "__setattr__"=some (some (.builtin "object.__setattr__"))) (hp:PySem.W.plainOver K C=true) (ht:PySem.W.takerIn K C name=some none) (hh:PySem.W.hasDictIn K C=true)
  (hw:PySem.Within mA ns) (hsz:ns.length<=sizeLine)
  (h:∀h',Li h' x dx C (λy=>if y=name then some v else mA y)->Heap.SameBut dx s.heap h'->Q () {s with heap:=h',toks:=s.toks+2}):
  wpAny (model prog w) A (setAttr (.ref x) name v) Q E s:=by
 obtain⟨od,J,hl⟩:=I.look;refine PySem.W.set_plain X J hs (PySem.W.osa_open (s:={s with toks:=s.toks+1}) (r:=none) X J hp ht λb=>?_);obtain⟨cd,hc,hd'⟩:=PySem.W.any_some hh;have hx:s.heap.get? x=some ⟨.ref C,some dx,.plain,#[]⟩:=I.obj;refine qA (qB (qA (qA (wpAny_loadPart hx (qA (PySem.W.Looks.here (s:={s with toks:=s.toks+1}) (PySem.W.looks_clsIn X hc) ?_))))));rw[hd'];refine qB (a:=some dx) (qA (qB (qA ?_)));refine wpAny_nsSet1 (s:={s with toks:=s.toks+1}) I.ns λh' hn2 hs2=>?_;refine byG λGq hGq=>?_;obtain⟨oD,esD,epD,hoD,hdD,hcD⟩:=hn2.count (PySem.Within.cons name v hw);refine hGq ?_;clear hGq Gq;refine qA (wpAny_lookBehind hoD (by rw[hdD];exact pastItsLine_dict (bB hcD (by rw[a9];lia))) ?_);exact qB (h _ ⟨(hs2.2 _ (Ne.symm I.ne)).trans I.obj,hn2,I.ne⟩ hs2)
theorem PM{R:Result->qN->Prop}{vs:List qL}(X:K.In s.heap)(hm:PySem.W.makesIn K C=true)
  (hi:PySem.W.findIn K (.ref C) "__init__"=some (some (.ref f))) (hf:PySem.W.typeIn K (.ref f)=some (.type "function"))
  (h:codeAny (model prog w) (A.under (.builtin "type.__call__" ⟨.ref C::vs,kw⟩)) (.call (.ref f) ⟨.ref (s.heap.objs.size+1)::vs,kw⟩) (PySem.W.InitBack (s.heap.objs.size+1) R)
   {s with heap:=(s.heap.push PySem.W.emptyDict).push (PySem.W.instObj C s.heap.objs.size)}):
  codeAny (model prog w) A (.call (.ref C) ⟨vs,kw⟩) R s:=by
 obtain⟨hh,g,d,t,os⟩:=s;exact PySem.W.make_core (PySem.W.makes_of X hm) (cJ X hi) (λself=>PySem.W.bind_fn X self hf) (.inl rfl) h
end
noncomputable def Ec(f:Str)(v:V):List (Str×V)->List (Str×V)
 |[]=>[(f,v)]
 | (g,x)::r=>if g=f then (g,v)::r else (g,x)::Ec f v r
theorem GP(f g:Str)(v:V):∀fs:List (Str×V),(Ec f v fs).lookup g=if g=f then some v else fs.lookup g
 |[]=>by
  show List.lookup g [(f,v)]=_
  by_cases h:g=f
  ·have hb:(g==f)=true:=beq_iff_eq.mpr h;simp only[List.lookup,hb,qD h]
  ·have hb:(g==f)=false:=beq_eq_false_iff_ne.mpr h;simp only[List.lookup,hb,qC h]
 | (k,x)::r=>by
  have ih:=GP f g v r;rw[show Ec f v ((k,x)::r)=(if k=f then (k,v)::r else (k,x)::Ec f v r) from rfl]
  by_cases hk:k=f
  ·rw[qD hk]
   by_cases h:g=k
   ·have hb:(g==k)=true:=beq_iff_eq.mpr h;simp only[List.lookup,hb,qD (h.trans hk)]
   ·have hb:(g==k)=false:=beq_eq_false_iff_ne.mpr h;simp only[List.lookup,hb,qC (λe:g=f=>h (e.trans hk.symm))]
  ·rw[qC hk]
   by_cases h:g=k
   ·have hb:(g==k)=true:=beq_iff_eq.mpr h;simp only[List.lookup,hb,qC (λe:g=f=>hk (h.symm.trans e))]
   ·have hb:(g==k)=false:=beq_eq_false_iff_ne.mpr h;simp only[List.lookup,hb];exact ih
theorem Fz(f:Str)(v:V):∀fs:List (Str×V),f∈(Ec f v fs).map (·.1)/\∀g,g∈fs.map (·.1)->g∈(Ec f v fs).map (·.1)
 |[]=>⟨by simp[Ec],λg h=>by simp at h⟩
 | (k,x)::r=>by
  obtain⟨i1,i2⟩:=Fz f v r;rw[show Ec f v ((k,x)::r)=(if k=f then (k,v)::r else (k,x)::Ec f v r) from rfl]
  by_cases hk:k=f
  ·rw[qD hk];subst hk;exact⟨by simp,λg h=>by simpa using h⟩
  ·rw[qC hk];refine⟨?_,λg h=>?_⟩
   ·rw[bF];exact aa _ i1
   ·rw[bF]at h⊢;rcases aw.mp h with e|e
    ·exact aw.mpr (.inl e)
    ·exact aa _ (i2 g e)
theorem GQ(f:Str)(v:V):∀fs:List (Str×V),(Ec f v fs).length<=fs.length+1
 |[]=>by simp[Ec]
 | (k,x)::r=>by
  have ih:=GQ f v r;rw[show Ec f v ((k,x)::r)=(if k=f then (k,v)::r else (k,x)::Ec f v r) from rfl]
  by_cases hk:k=f
  ·rw[qD hk,a9,a9];lia
  ·rw[qC hk,a9,a9];lia
theorem DP.some_of{v:V}{o:Option qL}(r:DP (some v) o):∃u,o=some u/\Av v u:=by
 cases o with
 |none=>exact (show False from r).elim
 |some u=>exact⟨u,rfl,r⟩
theorem DP.none_of{o:Option qL}(r:DP none o):o=none:=by
 cases o with
 |none=>rfl
 |some u=>exact (show False from r).elim
theorem N6{v:V}(r:Av v u):PySem.W.handedIn u=true:=by
 cases v with
 |non=>cases (show u=Value.none from r);rfl
 |bl b=>cases (show u=Value.bool b from r);rfl
 |int i=>obtain⟨t,e⟩:=(show ∃t,u=Value.int i t from r);cases e;rfl
 |str x=>obtain⟨t,e⟩:=(show ∃t,u=Value.str x t from r);cases e;rfl
 |byt b=>obtain⟨t,e⟩:=(show ∃t,u=Value.bytes b t from r);cases e;rfl
 |flt b=>obtain⟨t,e⟩:=(show ∃t,u=Value.float b t from r);cases e;rfl
 |ref a=>cases (show u=Value.ref a from r);rfl
 |ty n=>cases (show u=Value.type n from r);rfl
section
variable{P:qO}{w:qP}{h':Heap}{fs fs':List (Str×V)}
theorem FH(hok:D4 P w H h)(e:H a=some (.ins C dx fs)):∃mA,Li h a dx C mA/\(∀f,DP (fs.lookup f) (mA f))/\PySem.Within mA (fs.map (·.1))/\fs.length<=1000/\H dx=some (.own a):=by refine byG λGq hGq=>?_;obtain⟨d,z,ne,ob,mA,n,r,q⟩:=(show An P w H h a (.ins C dx fs) from hok a _ e);refine hGq ?_;clear hGq Gq;exact⟨mA,⟨ob,n,ne⟩,r,q,z,d⟩
end
structure RI(K:qQ)(C:qM):Prop where
 pg:PySem.W.plainGet K C Str.empty=true
 hd:PySem.W.hasDictIn K C=true
 po:PySem.W.plainOver K C=true
 sa:PySem.W.findIn K (.ref C) "__setattr__"=some (some (.builtin "object.__setattr__"))
theorem RI.get{K:qQ}(c:RI K C)(f:Str):PySem.W.plainGet K C f=true:=c.pg
def Ep(K:qQ)(C:qM)(f:Str):Prop:=PySem.W.findIn K (.ref C) f=some none
theorem Ep.taker{K:qQ}{f:Str}(n:Ep K C f):PySem.W.takerIn K C f=some none:=by unfold PySem.W.takerIn;rw[show PySem.W.findIn K (.ref C) f=some none from n];rfl
structure T9(K:qQ)(C:qM)(m:Str)(f:qM):Prop where
 at_:PySem.W.findIn K (.ref C) m=some (some (.ref f))
 fn:PySem.W.isFn K (.ref f)=true
 kp:PySem.W.keepIn K (.ref f)=true
variable{pos:Pos}
section
variable{fs:List (Str×V)}{f:Str}{v:V}{A:Around}
theorem Lj{b:Bool}(I:AX X ad σ H s)(e:H a=some (.ins C dx fs))(c:RI X.K C)(n:Ep X.K C f)(l:fs.lookup f=some v)
  (h:∀u s',AX X ad σ H s'->Av v u->Q u s'):wpAny (model X.prog X.w) A (getAttr (.ref a) f b) Q E s:=by
 refine byG λGq hGq=>?_;obtain⟨mA,O,r,_,_,_⟩:=FH I.hok e;refine hGq ?_;clear hGq Gq;obtain⟨u,hu,ru⟩:=DP.some_of (v:=v) (o:=mA f) (by rw[<-l];exact r f);exact RP I.kIn O (c.get f) c.hd n hu (N6 ru) (h u _ (I.tok _) ru)
theorem Lk{m:Str}{g:qM}{pl:Sem Bool}{Q:qL×List qL->qN->Prop}(I:AX X ad σ H s)(e:H a=some (.ins C dx fs))(c:RI X.K C)(k:T9 X.K C m g)(l:fs.lookup m=none)
  (h:Q (.ref g,[.ref a]) s):wpAny (model X.prog X.w) A (getMethod (.ref a) m pl) Q E s:=by
 refine byG λGq hGq=>?_;obtain⟨mA,O,r,_,_,_⟩:=FH I.hok e;refine hGq ?_;clear hGq Gq;have hn:mA m=none:=DP.none_of (by rw[<-l];exact r m);exact PL I.kIn O (c.get m) k.at_ k.fn hn h
theorem Ll{Q:Unit->qN->Prop}(I:AX X ad σ H s)(e:H a=some (.ins C dx fs))(c:RI X.K C)(n:Ep X.K C f)(hl:fs.length<1000)(ry:Av y u)
  (h:∀s',AX X ad σ (Ai H a (.ins C dx (Ec f y fs))) s'->Q () s'):wpAny (model X.prog X.w) A (setAttr (.ref a) f u) Q E s:=by
 refine byG λGq hGq=>?_;obtain⟨mA,O,r,wi,_,ho⟩:=FH I.hok e;refine hGq ?_;clear hGq Gq;have hz:(fs.map (·.1)).length<=sizeLine:=by rw[aW,sizeLine_eq];lia
 refine RQ I.kIn O c.sa c.po n.taker c.hd wi hz λh' O' sb=>h _ ?_
 have hd:∃o,h'.get? dx=some o:=let ⟨o,_,_,e',_⟩:=O'.ns;⟨o,e'⟩;refine I.write (x:=a) (e:=dx) (by rw[e];exact True.intro) (.inr ho) (λb q hb z=>(sb.2 b hb).trans z) hd ?_;refine⟨by rw[AR O.ne];exact ho,?_,O.ne,O'.obj,_,O'.ns,λg=>?_,λg hg=>?_⟩
 ·have:=GQ f y fs;lia
 ·show DP ((Ec f y fs).lookup g) (if g=f then some u else mA g);rw[GP]
  by_cases q:g=f
  ·rw[qD q,qD q];exact ry
  ·rw[qC q,qC q];exact r g
 ·by_cases q:g=f
  ·rw[q];exact (Fz f y fs).1
  ·refine (Fz f y fs).2 g (wi g λz=>hg ?_);show (if g=f then some u else mA g)=none;rw[qC q];exact z
theorem AX.made(I:AX X ad σ H s):AX X ad σ (Ai (Ai H s.heap.objs.size (.own (s.heap.objs.size+1))) (s.heap.objs.size+1) (.ins C s.heap.objs.size []))
  {s with heap:=(s.heap.push PySem.W.emptyDict).push (PySem.W.instObj C s.heap.objs.size)}:=by
 have e1:(s.heap.push PySem.W.emptyDict).get? s.heap.objs.size=some PySem.W.emptyDict:=aj s.heap rfl
 have e2:((s.heap.push PySem.W.emptyDict).push (PySem.W.instObj C s.heap.objs.size)).get? (s.heap.objs.size+1)=some (PySem.W.instObj C s.heap.objs.size):=by
  have:=aj (s.heap.push PySem.W.emptyDict) (o:=PySem.W.instObj C s.heap.objs.size) rfl
  rwa [bf]at this
 have e3:(s.heap.push PySem.W.emptyDict).Ns s.heap.objs.size (λ_=>none):=⟨PySem.W.emptyDict,#[],_,e1,rfl,(λe he=>qE he (by simp)),λ_=>rfl⟩;have I1:=I.laid (a:=s.heap.objs.size) (o:=.own (s.heap.objs.size+1)) (h':=s.heap.push PySem.W.emptyDict) (t':=s.toks) (λb u q=>aZ _ q) (af _) ⟨_,e1⟩;refine I1.laid (a:=s.heap.objs.size+1) (o:=.ins C s.heap.objs.size []) (t':=s.toks) (λb u q=>aZ _ q) (Nat.le_of_eq (bf _ _)) ?_;have ne:s.heap.objs.size≠s.heap.objs.size+1:=bA (dH _);refine⟨by rw[AR ne,AF],bj _,ne,e2,λ_=>none,(Heap.Ns1.of_empty e3).at λo q=>aZ _ q,λ_=>True.intro,λy hy=>qE rfl hy⟩
theorem RS{prog:qO}{w:qP}{env:Env}{e:Expr}{f:Str}(hb:attributeBase e f env (eval e env)=eval e env)
  (h:wpAny (model prog w) A (eval e env) (λo s₁=>wpAny (model prog w) A (getAttr o f true) Q E s₁) E s):wpAny (model prog w) A (eval (.Attribute e f pos) env) Q E s:=
 Attribute_any_ h (by rw[arm_eval_Attribute,hb])
end
def Za(K:qQ)(ta:TE)(f:Str):TE:=λσ H Q=>ta σ H λx H1=>∃a C dx fs v,x=.ref a/\H1 a=some (.ins C dx fs)/\RI K C/\Ep K C f/\fs.lookup f=some v/\Q v H1
def Zb(K:qQ)(ta tv:TE)(f:Str):TS:=λD σ H=>tv σ H λy H1=>ta σ H1 λx H2=>∃a C dx fs,x=.ref a/\H2 a=some (.ins C dx fs)/\RI K C/\Ep K C f/\fs.length<1000 /\
 D.nx σ (Ai H2 a (.ins C dx (Ec f y fs)))
section
variable{o e value:Expr}{f:Str}{pos' tpos:Pos}{ta tv:TE}
theorem UA(he:PE X e ta)(hb:attributeBase e f X.env (eval e X.env)=eval e X.env):PE X (.Attribute e f pos) (Za X.K ta f):=by intro ad s σ H Q I h;refine RS hb (A8 (he ad s σ H _ I h) λu s1 z9=>?_);obtain⟨x,H1,I1,rx,a,C,dx,fs,v,ex,ea,c,n,l,q⟩:=z9;subst ex;obtain rfl:u=Value.ref a:=rx;exact Lj I1 ea c n l λu' s2 I2 ru=>⟨v,H1,I2,ru,q⟩
theorem UB(ha:PE X o ta)(hv:PE X value tv)(hs:swapsWith value (some (.Attribute o f pos')) pos.line X.env=pure false):PS X (.Assign [.Attribute o f pos'] value pos) (Zb X.K ta tv f):=by intro ad s σ H D I h;refine plainObj_wpAny_Assign_Attribute (A8 (hv ad s σ H _ I h) λu s1 ⟨y,H1,I1,ry,q⟩=>A8 (ha ad s1 σ H1 _ I1 q) λov s2 z9=>?_) hs;obtain⟨x,H2,I2,rx,a,C,dx,fs,ex,ea,c,n,l,q2⟩:=z9;subst ex;obtain rfl:ov=Value.ref a:=rx;exact Ll I2 ea c n l ry λs3 I3=>⟨σ,_,I3,q2⟩
end
variable{t:qL}
section
variable{A:Around}{c:qL}{b:Bool}
inductive F0(K:qQ)(H:Hp):V->qL->Prop where
 |non:F0 K H .non (.type "NoneType")
 |bl (x:Bool):F0 K H (.bl x) (.type "bool")
 |int (i:Int):F0 K H (.int i) (.type "int")
 |str (x:Str):F0 K H (.str x) (.type "str")
 |flt (x:UInt64):F0 K H (.flt x) (.type "float")
 |lst {a:qM} {xs:List V} (e:H a=some (.lst xs)):F0 K H (.ref a) (.type "list")
 |frz {a:qM} {o:Obj} {xs:List V} (e:H a=some (.frz o (.lst xs))):F0 K H (.ref a) (.type "list")
 |tup {a:qM} {xs:List V} (e:H a=some (.tup xs)):F0 K H (.ref a) (.type "tuple")
 |dK {a:qM} {kvs:List (BQ×V)} (e:H a=some (.dK kvs)):F0 K H (.ref a) (.type "dict")
 |dT {a:qM} {kvs:List (List BQ×V)} (e:H a=some (.dT kvs)):F0 K H (.ref a) (.type "dict")
 |ins {a C dx:qM} {fs:List (Str×V)} (e:H a=some (.ins C dx fs)) (cl:RI K C) (ha:PySem.W.findIn K (.ref C) "__class__"=some (some (.builtin "object.__class__")))
   (hn:PySem.W.specialIn K (.builtin "object.__class__") "__get__"=some (some (.builtin "getset_descriptor.__get__"))) (htk:PySem.W.takesIn K (.builtin "object.__class__")=some true)
   (hm:PySem.W.mroIn K C (.type "object")=some true):F0 K H (.ref a) (.ref C)
theorem N7{x:V}(I:AX X ad σ H s)(rx:Av x u)(ty:F0 X.K H x t)(e:PySem.W.kitOne X.K t c=some b)(h:∀tk,Q (.bool b) {s with toks:=tk}):
  wpAny (model X.prog X.w) A (call (.builtin "isinstance") [u,c]) Q E s:=by
 cases ty with
 |non=>cases (show u=Value.none from rx);exact bW PySem.W.kitx_none I.kIn True.intro e (λz=>nomatch z) h
 |bl y=>cases (show u=Value.bool y from rx);exact bW PySem.W.kitx_bool I.kIn True.intro e (λz=>nomatch z) h
 |int i=>obtain⟨t,q⟩:=(show ∃t,u=Value.int i t from rx);cases q;exact bW PySem.W.kitx_int I.kIn True.intro e (λz=>nomatch z) h
 |str y=>obtain⟨t,q⟩:=(show ∃t,u=Value.str y t from rx);cases q;exact bW PySem.W.kitx_str I.kIn True.intro e (λz=>nomatch z) h
 |flt y=>obtain⟨t,q⟩:=(show ∃t,u=Value.float y t from rx);cases q;exact bW PySem.W.kitx_float I.kIn True.intro e (λz=>nomatch z) h
 | @lst a xs ea =>
  cases (show u=Value.ref a from rx);obtain⟨_,_,n,_,h1⟩:=(show An X.prog X.w H s.heap a (.lst xs) from I.hok a _ ea);exact bW c8 I.kIn ⟨_,h1,rfl⟩ e (λz=>nomatch z) h
 | @frz a ob xs ea =>
  cases (show u=Value.ref a from rx);obtain⟨_,_,_,n,_,h1⟩:=(show An X.prog X.w H s.heap a (.frz ob (.lst xs)) from I.hok a _ ea);exact bW c8 I.kIn ⟨_,h1,rfl⟩ e (λz=>nomatch z) h
 | @tup a xs ea =>
  cases (show u=Value.ref a from rx);obtain⟨_,_,_,p⟩:=(show An X.prog X.w H s.heap a (.tup xs) from I.hok a _ ea);obtain⟨o,h1,h2,_⟩:=p;exact bW PySem.W.kitx_tuple I.kIn ⟨o,h1,h2⟩ e (λz=>nomatch z) h
 | @dK a kvs ea =>
  cases (show u=Value.ref a from rx);obtain⟨_,_,vs,_,p⟩:=(show An X.prog X.w H s.heap a (.dK kvs) from I.hok a _ ea);obtain⟨o,es,ep,h1,h2,_⟩:=p;exact bW dA I.kIn ⟨o,h1,h2.1⟩ e (λz=>nomatch z) h
 | @dT a kvs ea =>
  cases (show u=Value.ref a from rx);obtain⟨_,_,xs,_,o,es,ep,h1,h2,_⟩:=(show An X.prog X.w H s.heap a (.dT kvs) from I.hok a _ ea);exact bW dA I.kIn ⟨o,h1,h2.1⟩ e (λz=>nomatch z) h
 | @ins a C dx fs ea cl ha hn htk hm =>
  cases (show u=Value.ref a from rx);obtain⟨mA,O,_⟩:=FH I.hok ea;obtain⟨od,J,_⟩:=O.look;exact bW (PySem.W.kitx_own (cl.get _) cl.hd ha hn htk hm) I.kIn J e (λz=>nomatch z) h
end
structure BL(k:Nat)(A:Around):Prop where
 hd:A.handled=none
 dp:A.depth+3*k+5<recursionLimit
 un:A.units+16*k+200<cLine
variable{k:Nat}
theorem BL.mono{A:Around}(r:BL k A)(h:j<=k):BL j A:=⟨r.hd,by have:=r.dp;lia,by have:=r.un;lia⟩
theorem BL.deeper{A:Around}(r:BL (k+1) A)(env:Env):BL k (A.deeper env):=
 ⟨r.hd,by have:=r.dp;show A.depth+1+3*k+5<_;lia,by have:=r.un;show A.units+3+16*k+200<_;lia⟩
theorem Lm{A:Around}:(A.under (.builtin "type.__call__" ⟨.ref C::us,kw⟩)).depth=A.depth+1:=by
 first|rfl|simp[Around.under,Code.weight,Code.isCreation,Code.isGuard,Code.isCaller,Code.frames,Code.isFrame,guardIds]
theorem Ln{A:Around}:(A.under (.builtin "type.__call__" ⟨.ref C::us,kw⟩)).units=A.units+1:=by
 first|rfl|simp[Around.under,Code.cUnits,Code.frames,Code.isFrame]
theorem BL.make{A:Around}(r:BL (k+1) A)(C:qM)(us:List qL)(kw:List (Str×qL)):BL k (A.under (.builtin "type.__call__" ⟨.ref C::us,kw⟩)):=
 ⟨r.hd,by have:=r.dp;rw[Lm];lia,by have:=r.un;rw[Ln];lia⟩
theorem BL.depth{A:Around}(r:BL k A):A.depth<recursionLimit:=by have:=r.dp;lia
theorem BL.units{A:Around}(r:BL k A):A.units+64<cLine:=by have:=r.un;lia
def G6:TA:=λ_ H Q=>Q [] H
def D9(ta:TE)(tr:TA):TA:=λσ H Q=>ta σ H λx H1=>tr σ H1 λxs H2=>Q (x::xs) H2
section
variable{e:Expr}{t:TA}
theorem AB:PA X [] G6:=λ_ _ _ _ H Q I h=>Calls.spliced_nil ⟨[],H,I,.nil,h⟩
theorem AA(ha:PE X e te)(hr:PA X es t)(hs:starEach (e::es) X.env=(false,eval e X.env)::starEach es X.env:=by rfl):PA X (e::es) (D9 te t):=by intro pos ad s σ H Q I h;rw[hs];show wpAny _ _ (spliced ((false,eval e X.env)::backTo pos (starEach es X.env))) _ _ s;refine Calls.spliced_cons (A8 (ha ad s σ H _ I h) λu s1 z9=>?_);obtain⟨x,H1,I1,r1,q1⟩:=z9;exact A8 (hr pos ad s1 σ H1 _ I1 q1) λus s2 ⟨xs,H2,I2,r2,q2⟩=>⟨x::xs,H2,I2,.cons r1 r2,q2⟩
def PN(t:TA):TE:=λσ H Q=>t σ H λxs H1=>xs.length<=sizeLine/\∀p,H1 p=none->Q (.ref p) (Ai H1 p (.tup xs))
def WV(t:TA):TE:=λσ H Q=>t σ H λxs H1=>xs.length<=sizeLine/\∀p,H1 p=none->Q (.ref p) (Ai H1 p (.lst xs))
theorem Dj{x1}(h:PA X es t):PE X (.Tuple es x1 pos) (PN t):=by intro ad s σ H Q I hq;refine wpAny_Tuple_spliced (A8 (h pos ad s σ H _ I hq) λus s1 ⟨xs,H1,I1,r,z,q⟩=>⟨by rw[<-r.length];exact z,?_⟩);have hf:H1 s1.heap.objs.size=none:=I1.hok.fresh (af _);refine⟨.ref s1.heap.objs.size,Ai H1 s1.heap.objs.size (.tup xs),I1.laid (t':=s1.toks) (λb u e=>aZ _ e) (af _) ?_,rfl,q _ hf⟩;exact⟨z,us,r,⟨_,aj _ rfl,rfl,_,rfl⟩⟩
theorem Aq(h:PA X es t):PE X (.List es pos) (WV t):=by intro ad s σ H Q I hq;refine wpAny_List_spliced (A8 (h pos ad s σ H _ I hq) λus s1 ⟨xs,H1,I1,r,z,q⟩=>⟨by rw[<-r.length];exact z,?_⟩);have hf:H1 s1.heap.objs.size=none:=I1.hok.fresh (af _);refine⟨.ref s1.heap.objs.size,Ai H1 s1.heap.objs.size (.lst xs),I1.laid (t':=s1.toks) (λb u e=>aZ _ e) (af _) ?_,rfl,q _ hf⟩;exact⟨z,us,0,r,aj _ rfl⟩
end
abbrev Sp:=List V->Hp->VK->XK->Prop
abbrev N8:=List Env->Hp->qN->XK->qL->qN->Prop
structure KZ(P:qO)(w:qP)(K:qQ)(mg:Str->Option qL)(base:Heap)(A:Around)(outer:List Env)(s:qN)(H:Hp):Prop where
 frames:A.frames=some outer
 mod:WK K mg base
 bs:∀b o,base.get? b=some o->s.heap.get? b=some o/\H b=none
 bsz:base.objs.size<=s.heap.objs.size
 funs:s.heap.FunFrames base outer
 frf:∀b∈CC outer,H b=none
 hok:D4 P w H s.heap
 bare:AllBare s.gens
def CE(outer:List Env)(P:qO)(w:qP)(H:Hp)(s:qN)(Q:VK)(u:qL)(s':qN):Prop:=
 ∃v H',s'.os=s.os/\AllBare s'.gens/\Un (CC outer) [] H H' s.heap s'.heap/\D4 P w H' s'.heap/\Av v u/\Q v H'
def CR(CX:N8)(outer:List Env)(P:qO)(w:qP)(H:Hp)(s:qN)(Q:VK)(E:XK)(r:Result)(s':qN):Prop:=
 match r with
 |.ok (.ret u)=>CE outer P w H s Q u s'
 |.ok _=>False
 |.error e=>CX outer H s E e s'
structure DB(P:qO)(w:qP)(K:qQ)(mg:Str->Option qL)(base:Heap)(CX:N8)(k:Nat)(f:qM)(fd:FuncData)(ps:List Str)(sp:Sp):Prop where
 len:∀vs H Q E,sp vs H Q E->vs.length=ps.length
 run:∀(A:Around) (outer:List Env) (s:qN) (H:Hp) (args:Args) (us:List qL) (vs:List V) (Q:VK) (E:XK),BL k A->KZ P w K mg base A outer s H->BindsTo s fd args (ps.zip us)->Au vs us->sp vs H Q E ->
  codeAny (model P w) A (.call (.ref f) args) (CR CX outer P w H s Q E) s
variable{CX:N8}{fd:FuncData}{ps:List Str}
theorem DB.mono{P:qO}{w:qP}{K:qQ}{mg:Str->Option qL}{base:Heap}{f:qM}{sp:Sp}(F:DB P w K mg base CX j f fd ps sp)(h:j<=k):
  DB P w K mg base CX k f fd ps sp:=⟨F.len,λA outer s H args us vs Q E hr=>F.run A outer s H args us vs Q E (hr.mono h)⟩
theorem KZ.make{P:qO}{w:qP}{K:qQ}{mg:Str->Option qL}{base:Heap}{A:Around}{outer:List Env}(e:KZ P w K mg base A outer s H)(C:qM)(us:List qL)(kw:List (Str×qL)):
  KZ P w K mg base (A.under (.builtin "type.__call__" ⟨.ref C::us,kw⟩)) outer s H:=⟨by first|exact e.frames|(simpa [Around.under,Code.envs,Code.isFrame,pushEnvs] using e.frames),e.mod,e.bs,e.bsz,e.funs,e.frf,e.hok,e.bare⟩
theorem AX.env0(I:AX X ad σ H s):KZ X.prog X.w X.K X.mg X.base X.A X.stack s H:=
 ⟨I.ok.frames,I.ok.mod,I.bs,bB I.ok.bsz I.sz,I.stack,I.stkFree,I.hok,I.bare⟩
theorem AX.after{Q:VK}(I:AX X ad σ H s)(h:CE X.stack X.prog X.w H s Q u s'):EP X ad σ Q u s':=by refine byG λGq hGq=>?_;obtain⟨v,H',os,bare,un,hok,r,q⟩:=h;refine hGq ?_;clear hGq Gq;refine byG λGq hGq=>?_;obtain⟨hh,g,d,t,os'⟩:=s';refine hGq ?_;clear hGq Gq;obtain rfl:os'=s.os:=os;exact⟨v,H',I.call (h':=hh) (g':=g) (d':=d) (t':=t) (ch:=[]) un hok bare (λb z=>qE z (by simp)),r,q⟩
def Sz(C:qM)(sp:Sp)(dvs:List V)(E:XK)(t:TA):TE:=λσ H Q=>t σ H λvs H1=>∀x dx,H1 x=none->H1 dx=none->dx≠x ->
 sp (.ref x::(vs++dvs)) (Ai (Ai H1 dx (.own x)) x (.ins C dx [])) (λv H2=>v=.non/\Q (.ref x) H2) E
def DH(K:qQ)(fd:FuncData)(ps:List Str)(ds:List qL):Prop:=
 ∀(s:qN) (us:List qL),K.In s.heap->(us++ds).length=ps.length->BindsTo s fd ⟨us,[]⟩ (ps.zip (us++ds))
theorem DH.all{K:qQ}(h:∀us:List qL,us.length=ps.length->bindArgs fd ⟨us,[]⟩=pure (ps.zip us)):DH K fd ps []:=λs us _ hl=>by rw[bO]at hl⊢;exact .of_eq (h us hl)
def Lo(CX:N8)(X:Cx)(E:XK):Prop:=∀(ad:List (qM×Obj)) (σ:St) (H:Hp) (s:qN) (e:qL) (s':qN),AX X ad σ H s->CX X.stack H s E e s'->X.xe e s'
section
variable{f:qM}{sp:Sp}{dvs:List V}{ds:List qL}{E:XK}{m:Str}{p apos:Pos}{e o:Expr}{ta:TE}{t:TA}
structure Mk(K:qQ)(C f:qM):Prop where
 makes:PySem.W.makesIn K C=true
 init:PySem.W.findIn K (.ref C) "__init__"=some (some (.ref f))
 fn:PySem.W.isFn K (.ref f)=true
 kp:PySem.W.keepIn K (.ref C)=true
theorem PP{Q:VK}{vs:List V}(M:Mk X.K C f)(F:DB X.prog X.w X.K X.mg X.base CX k f fd ps sp)(hr:BL (k+1) X.A)(hb:DH X.K fd ps ds)(hd:Au dvs ds)
  (hx:Lo CX X E) (I:AX X ad σ H s) (r:Au vs us)
  (h:∀x dx,H x=none->H dx=none->dx≠x->sp (.ref x::(vs++dvs)) (Ai (Ai H dx (.own x)) x (.ins C dx [])) (λv H2=>v=.non/\Q (.ref x) H2) E):
  wpAny (model X.prog X.w) X.A (call (.ref C) us) (EP X ad σ Q) X.xe s:=by
 have hq:=h (s.heap.objs.size+1) s.heap.objs.size (I.hok.fresh (b8 _)) (I.hok.fresh (af _)) (bA (dH _));have I2:=AX.made (C:=C) I;have r2:Au (V.ref (s.heap.objs.size+1)::(vs++dvs)) (Value.ref (s.heap.objs.size+1)::(us++ds)):=.cons rfl (r.append hd)
 have hl:(Value.ref (s.heap.objs.size+1)::us++ds).length=ps.length:=by have e:=r2.length;rw[F.len _ _ _ _ hq]at e;exact e.symm
 refine wpAny_call (PM (f:=f) I.kIn M.makes M.init (beq_iff_eq.mp M.fn) (codeAny_mono (F.run _ X.stack _ _ ⟨Value.ref (s.heap.objs.size+1)::us,[]⟩ (Value.ref (s.heap.objs.size+1)::(us++ds)) _ _ E (hr.make C us [])
  (I2.env0.make C us []) (hb _ (Value.ref (s.heap.objs.size+1)::us) I2.kIn hl) r2 hq) λr s' hq'=>?_))
 cases r with
 |error e=>exact hx ad σ _ _ e s' I2 hq'
 |ok fl =>
  cases fl with
  |ret u =>
   refine byG λGq hGq=>?_;obtain⟨v,H',I3,rv,ev,q3⟩:=I2.after hq';refine hGq ?_;clear hGq Gq;subst ev;exact⟨rv,⟨V.ref (s.heap.objs.size+1),H',I3,rfl,q3⟩⟩
  |next=>exact False.elim hq'
  |brk=>exact False.elim hq'
  |cont=>exact False.elim hq'
theorem PQ(M:Mk X.K C f)(F:DB X.prog X.w X.K X.mg X.base CX k f fd ps sp)(hr:BL (k+1) X.A)(hg:Gl X x)(hm:X.mg x=some (.ref C))(hb:DH X.K fd ps ds)(hd:Au dvs ds)(hx:Lo CX X E)
  (hdb:(x==("__debug__":Str))=false:=by decide):PE X (.Call (.Name x p) [] [] pos) (Sz C sp dvs E G6):=by
 intro ad s σ H Q I h;refine wpAny_Call_Name_kw (DF I hg hm ?_ hdb);exact PySem.W.callWith_K0 I.kIn M.kp (PP (us:=[]) M F hr hb hd hx I .nil h)
end
structure AM(N P:List Str)(sc:Scope):Prop where
 kind:sc.kind=.function
 co:sc.isCoroutine=false
 gen:sc.isGenerator=false
 nd:N.Nodup
 pre:N.take P.length=P
 par:∀x∈P,sc.names.lookup x=some .local\/sc.names.lookup x=some .cell
 nofree:∀y∈sc.names,y.2≠.free
variable{kindOf:Str->Option NameKind}
theorem Ii:∀{binds:List (Str×qL)} {m:Str->Option qL},(∀v,(x,v)∉binds)->bindL kindOf binds m x=m x
 |[],_,_=>rfl
 | (n,v)::r,m,h=>by
  unfold bindL;rw[Ii λw hw=>h w (aa _ hw)];split
  ·have:x≠n:=by rintro rfl;exact h v ah
   simp[this]
  ·rfl
theorem Ij:∀{binds:List (Str×qL)} {m:Str->Option qL},(∀v,(x,v)∉binds)->bindC kindOf binds m x=m x
 |[],_,_=>rfl
 | (n,v)::r,m,h=>by
  unfold bindC;rw[Ij λw hw=>h w (aa _ hw)];split
  ·rfl
  ·have:x≠n:=by rintro rfl;exact h v ah
   simp[this]
theorem Ik{v:qL}:∀{P:List Str} {vs:List qL} {i:Nat} {m:Str->Option qL},P.Nodup->P[i]?=some x->vs[i]?=some v->kindOf x=some .local ->
  bindL kindOf (P.zip vs) m x=some v
 |[],_,_,_,_,h,_,_=>by simp at h
 |_::_,[],_,_,_,_,h,_=>by simp at h
 |p::P,w::vs,0,m,nd,h1,h2,hk=>by simp at h1 h2;subst h1;subst h2;show bindL kindOf ((p,w)::P.zip vs) m p=_;unfold bindL;rw[Ii λv hv=>(b9.mp nd).1 (List.of_mem_zip hv).1,qD hk];simp
 |p::P,w::vs,i+1,m,nd,h1,h2,hk=>by show bindL kindOf ((p,w)::P.zip vs) m x=_;unfold bindL;exact Ik (i:=i) (List.nodup_cons.mp nd).2 (by simpa using h1) (by simpa using h2) hk
theorem Il{v:qL}:∀{P:List Str} {vs:List qL} {i:Nat} {m:Str->Option qL},P.Nodup->P[i]?=some x->vs[i]?=some v->kindOf x≠some .local ->
  bindC kindOf (P.zip vs) m x=some v
 |[],_,_,_,_,h,_,_=>by simp at h
 |_::_,[],_,_,_,_,h,_=>by simp at h
 |p::P,w::vs,0,m,nd,h1,h2,hk=>by simp at h1 h2;subst h1;subst h2;show bindC kindOf ((p,w)::P.zip vs) m p=_;unfold bindC;rw[Ij λv hv=>(b9.mp nd).1 (List.of_mem_zip hv).1,qC hk];simp
 |p::P,w::vs,i+1,m,nd,h1,h2,hk=>by show bindC kindOf ((p,w)::P.zip vs) m x=_;unfold bindC;exact Il (i:=i) (List.nodup_cons.mp nd).2 (by simpa using h1) (by simpa using h2) hk
noncomputable def B1(N:List Str)(vs:List V):St:=vs.map some++List.replicate (N.length-vs.length) none
noncomputable def Cg(CX:N8)(P:qO)(w:qP)(K:qQ)(mg:Str->Option qL)(base:Heap)(N:List Str)(qual:Str)(scope:Scope)(f:qM)(cd:qL)(A:Around)(outer:List Env)(s:qN)(H:Hp)(E:XK):Cx where
 prog:=P
 w:=w
 K:=K
 mg:=mg
 base:=base
 A:=A.deeper (envOfC qual scope s.heap.objs.size f cd)
 N:=N
 s₀:=s
 H₀:=H
 env:=envOfC qual scope s.heap.objs.size f cd
 outer:=outer
 stack:=envOfC qual scope s.heap.objs.size f cd::outer
 ex:=[]
 calm:=true
 fn:=λ_=>true
 pn:=[]
 xe:=λe s'=>wpAny (model P w) (A.deeper (envOfC qual scope s.heap.objs.size f cd)) (leaving (envOfC qual scope s.heap.objs.size f cd) e) (λ_ s''=>CX outer H s E e s'') (λe' s''=>CX outer H s E e' s'') s'
theorem Ka{sc:Scope}{n:Nat}(h:sc.names.lookup x=some .cell):∃c,(cellsFrom n sc.names []).lookup x=some c:=by have q:=PySem.W.cellsFrom_some sc.names n [] (.inl h);exact cK.mp q
variable{qual:Str}{scope:Scope}
theorem N9{P:qO}{w:qP}{K:qQ}{mg:Str->Option qL}{base:Heap}{N:List Str}{f:qM}{cd:qL}{A:Around}{outer:List Env}{s1:qN}{E:XK}{vs:List V}
  (S:AM N ps scope) (hd:A.handled=none) (e0:KZ P w K mg base A outer s H) (hl:vs.length=ps.length) (r:Au vs us)
  (x:InCallC s s.heap.objs.size (bindL (envOfC qual scope s.heap.objs.size f cd).kindOf (ps.zip us) λ_=>none) (cellsFrom (s.heap.objs.size+1) scope.names []) (bindC (envOfC qual scope s.heap.objs.size f cd).kindOf (ps.zip us) λ_=>none) s1):
  AX (Cg CX P w K mg base N qual scope f cd A outer s H E) [] (B1 N vs) H s1:=by
 have hpl:ps.length<=N.length:=by have:=qK List.length S.pre;rw[bJ]at this;lia
 obtain⟨h1,tk,rfl,hk⟩:=x.done;have noA:∀b:qM,b∉(Cg CX P w K mg base N qual scope f cd A outer s H E).ex:=λb z=>qE (show b∈([]:List qM) from z) (by simp)
 refine⟨⟨e0.mod,S.kind,rfl,rfl,af _,λy z c h1 h2=>?_,λy hy=>?_,λy c _ h=>?_,λ_=>hd,Around.frames_deeper e0.frames,.inr ⟨rfl,rfl⟩,λb z=>qE z (noA b),e0.bs,e0.bsz,λb _ _=>noA b,λb z=>qE z (noA b),e0.funs,e0.frf⟩,
  rfl,e0.bare,Un.kept hk,⟨_,x.toInCall.ns,λi y v h1 h2 h3=>?_⟩,λy c h=>⟨_,x.cell y c h⟩,e0.hok.fresh (Nat.le_refl _),λy c h=>?_,λp hp=>qE (show p∈([]:List (qM×Obj)) from hp) (by simp),e0.hok.kept hk,?_⟩
 ·exact name_of_addr x.apart (cN h1) (cN h2)
 ·have hy:scope.names.lookup y=some .cell\/scope.names.lookup y=some .free:=hy;rcases hy with hy|hy
  ·exact Ka hy
  ·exact qE rfl (S.nofree _ (cN hy))
 ·exact cM (x.above y c (cN h))
 ·have hi:i<vs.length:=by
   unfold B1 at h2
   by_cases hi:i<vs.length
   ·exact hi
   ·rw[List.getElem?_append_right (by simpa using hi)]at h2;rw[List.getElem?_replicate]at h2
    split at h2<;>cases h2
  have ha:vs[i]?=some v:=by
   unfold B1 at h2;rw[List.getElem?_append_left (by simpa using hi),List.getElem?_map]at h2;cases e:vs[i]? with
   |none=>rw[e]at h2;cases h2
   |some a=>rw[e]at h2;cases h2;rfl
  obtain⟨u,hu,rv⟩:=r.get ha
  have hp:ps[i]?=some y:=by rw[<-S.pre,List.getElem?_take_of_lt (by lia)];exact h1
  have ndP:ps.Nodup:=by rw[<-S.pre];exact S.nd.sublist (List.take_sublist _ _)
  refine⟨u,rv,?_⟩;rcases S.par y (a8 hp) with k|k
  ·exact .inl ⟨k,Ik ndP hp hu k⟩
  ·obtain⟨c,e⟩:=Ka (n:=s.heap.objs.size+1) k;refine .inr ⟨.inl k,c,e,?_⟩;have q:=x.cell y c e;rw[Il ndP hp hu (by show scope.names.lookup y≠_;rw[k];decide)]at q;exact q
 ·exact e0.hok.fresh (cM (x.above y c (cN h)))
 ·unfold B1;show _=N.length;rw[ac,aW,List.length_replicate];lia
variable{name:Str}{doc pm d9 oc:qL}{an od:Option qM}
theorem PR{P:qO}{w:qP}{K:qQ}{mg:Str->Option qL}{base:Heap}{f:qM}{params:Arguments}{dV kV ct:qL}
  {osl:Array (Option qL)} {N ps:List Str} {sp:Sp} (lk:K.lookup f=some ⟨oc,od,.func (PySem.W.fnOf name qual params body scope dV kV doc pm an d9 ct),osl⟩) (hcd:PySem.W.codeIn K d9 qual=true) (S:AM N ps scope)
  (len:∀vs H Q E,sp vs H Q E->vs.length=ps.length)
  (hbody:∀(A:Around) (outer:List Env) (s:qN) (H:Hp) (vs:List V) (Q:VK) (E:XK),BL k (A.deeper (envOfC qual scope s.heap.objs.size f d9))->sp vs H Q E ->
   ∃t,FD (Cg CX P w K mg base N qual scope f d9 A outer s H E) body t/\t {nx:=λ_ H'=>Q .non H',rt:=Q} (B1 N vs) H):
  DB P w K mg base CX (k+1) f (PySem.W.fnOf name qual params body scope dV kV doc pm an d9 ct) ps sp:=by
 refine⟨len,λA outer s H args us vs Q E hr e0 hb r hsp=>?_⟩;have hl:=len _ _ _ _ hsp;have KX:K.In s.heap:=e0.mod.kin.keeps λb o e=>(e0.bs b o e).1
 have lim:s.heap.NoLimit:=e0.mod.nolimit.keeps λb o e=>(e0.bs b o e).1
 have hkind:∀y∈ps.zip us,scope.names.lookup y.1=some .local\/(scope.names.lookup y.1=some .cell/\((cellsFrom (s.heap.objs.size+1) scope.names []).lookup y.1).isSome=true):=λ⟨n,v⟩ hy=>by
  rcases S.par n (List.of_mem_zip hy).1 with q|q
  ·exact .inl q
  ·exact .inr ⟨q,PySem.W.cellsFrom_some _ _ _ (.inl q)⟩
 refine codeAny_call_function hr.depth (KX _ _ lk) rfl S.co S.gen rfl (PySem.W.codeRec_of KX hcd) (hb _ _ _ _ ?_);refine wpAny_newFunctionEnv_cells S.kind hkind λenv he s1 x=>?_;subst he;refine⟨lim.keeps x.toInCall.keep,codeAny_func ?_⟩;obtain⟨t,ht,hq⟩:=hbody A outer s H vs Q E (hr.deeper _) hsp;have I:AX (Cg CX P w K mg base N qual scope f d9 A outer s H E) [] (B1 N vs) H s1:=N9 S hr.hd e0 hl r x;refine qH (ht [] s1 (B1 N vs) H _ I hq) (λfl s' hs=>?_) λe s' hs=>hs
 have fin:∀{σ':St} {H':Hp} {v:V} {u:qL},AX (Cg CX P w K mg base N qual scope f d9 A outer s H E) [] σ' H' s'->Av v u->Q v H'->CE outer P w H s Q u s':=
  λ{σ' H' v u} J rv q=>⟨v,H',J.os,J.bare,J.base,J.hok,rv,q⟩
 cases fl with
 |ret u =>
  obtain⟨v,σ',H',J,rv,q⟩:=hs;exact fin J rv q
 |next =>
  obtain⟨σ',H',J,q⟩:=hs;exact fin (v:=V.non) (u:=Value.none) J rfl q
 |brk =>
  obtain⟨_,_,_,q⟩:=hs;exact False.elim q
 |cont =>
  obtain⟨_,_,_,q⟩:=hs;exact False.elim q
section
variable{p:Pos}{e:Expr}{t:TA}{id T:String}{r:List V->Hp->VK->Prop}
def WW(r:List V->Hp->VK->Prop)(t:TA):TE:=λσ H Q=>t σ H λvs H1=>r vs H1 Q
theorem Aj(hc:CH X (.builtin id) r)(hg:Gl X x)(hm:X.mg x=none)(hv:bootBuiltins x=some (.builtin id))(ha:PA X (e::es) t)(hn:x≠"__name__":=by decide)(hdb:(x==("__debug__":Str))=false:=by decide)
  (he:starEach (e::es) X.env=(false,eval e X.env)::starEach es X.env:=by rfl) (hpl:(backTo pos (starEach es X.env)).any (·.1)=false:=by rfl):PE X (.Call (.Name x p) (e::es) [] pos) (WW r t):=by
 intro ad s σ H Q I h;refine wpAny_Call_Name_kw (Cq I hg hm hv ?_ hn hdb);exact PyProof.Rows.callWith_builtin1 (A8 (ha pos ad s σ H _ I h) λus s1 ⟨vs,H1,I1,r1,q1⟩=>hc ad s1 σ H1 vs us Q I1 r1 q1) he hpl
theorem BW(hc:CH X (.type T) r)(hg:Gl X x)(hm:X.mg x=none)(hv:bootBuiltins x=some (.type T))(ha:PA X (e::es) t)(hn:x≠"__name__":=by decide)(hdb:(x==("__debug__":Str))=false:=by decide)
  (he:starEach (e::es) X.env=(false,eval e X.env)::starEach es X.env:=by rfl) (hpl:(backTo pos (starEach es X.env)).any (·.1)=false:=by rfl):PE X (.Call (.Name x p) (e::es) [] pos) (WW r t):=by
 intro ad s σ H Q I h;refine wpAny_Call_Name_kw (Cq I hg hm hv ?_ hn hdb);exact bK (A8 (ha pos ad s σ H _ I h) λus s1 ⟨vs,H1,I1,r1,q1⟩=>hc ad s1 σ H1 vs us Q I1 r1 q1) he hpl
end
end L2
namespace HT
open PySem PyProof.Rows
section
variable{prog:qO}{w:qP}{A:Around}{E:qL->qN->Prop}{s:qN}
noncomputable def JS(n d:Nat):Option Int->Nat
 |none=>d
 |some v=>if v<0 then (v+(n:Int)).toNat else min v.toNat n
end
end HT
namespace L2
open PySem PySem.Spec PyProof.Rows
variable{H:Hp}{X:Cx}{es:List Expr}{j t':Nat}{name:Str}{ad:List (qM×Obj)}{pos:Pos}{s:qN}{te:TE}{u:qL}{us:List qL}{xs:List V}{y:V}{α:Type}{σ:St}
abbrev TO:=St->Hp->(Option Int->Hp->Prop)->Prop
def PO(X:Cx)(e:Option Expr)(t:TO):Prop:=
 ∀(ad:List (qM×Obj)) (s:qN) (σ:St) (H:Hp) (Q:Option Int->Hp->Prop),AX X ad σ H s->t σ H Q ->
  wpAny (model X.prog X.w) X.A (evalPart e X.env) (λu s'=>∃o H',AX X ad σ H' s'/\IsPart u o/\Q o H') X.xe s
def Mr:TO:=λ_ H Q=>Q none H
def S0(t:TE):TO:=λσ H Q=>t σ H λx H1=>∃i,x=.int i/\Q (some i) H1
section
variable{e:Expr}{lo hi:Option Expr}{tl th:TO}{p2:Pos}
theorem EO:PO X none Mr:=by intro ad s σ H Q I h;rw[evalPart_none];exact qB ⟨none,H,I,.none,h⟩
theorem DI(h:PE X e te):PO X (some e) (S0 te):=by intro ad s σ H Q I hw;rw[evalPart_some];refine A8 (h ad s σ H _ I hw) λu s1 z9=>?_;obtain⟨x,H1,I1,r1,q1⟩:=z9;obtain⟨i,rfl,q⟩:=q1;obtain⟨t,rfl⟩:=r1;exact⟨some i,H1,I1,.int i t,q⟩
def Zc(X:Cx)(r:V->Option Int->Option Int->Hp->VK->Prop):Prop:=
 ∀(ad:List (qM×Obj)) (s:qN) (σ:St) (H:Hp) (x:V) (v vl vu:qL) (lo hi:Option Int) (sl:qM) (Q:VK),AX X ad σ H s->Av x v->s.heap.IsSliceOf sl vl vu .none->IsPart vl lo->IsPart vu hi->r x lo hi H Q ->
  ∃T id,typeLookup (.type T) "__getitem__"=pure (some (.builtin id))/\s.TypeIs v T/\wpAny (model X.prog X.w) X.A (getItem v (.ref sl)) (EP X ad σ Q) X.xe s
def aL(r:V->Option Int->Option Int->Hp->VK->Prop)(te:TE)(tl th:TO):TE:=λσ H Q=>te σ H λx H1=>tl σ H1 λl H2=>th σ H2 λu H3=>r x l u H3 Q
theorem Cs{r:V->Option Int->Option Int->Hp->VK->Prop}(hr:Zc X r)(he:PE X e te)(hl:PO X lo tl)(hu:PO X hi th):PE X (.Subscript e (.Slice lo hi none p2) pos) (aL r te tl th):=by
 intro ad s σ H Q I h;refine Subscript_ (A8 (he ad s σ H _ I h) λv s1 z9=>?_);obtain⟨x,H1,I1,r1,q1⟩:=z9;refine wpAny_Slice (A8 (hl ad s1 σ H1 _ I1 q1) λvl s2 ⟨l,H2,I2,pl,q2⟩=>A8 (hu ad s2 σ H2 _ I2 q2) λvu s3 z9=>?_);obtain⟨u,H3,I3,pu,q3⟩:=z9;rw[evalPart_none];refine qB ?_;have I4:AX X ad σ H3 {s3 with heap:=s3.heap.push {cls:=.type "slice",data:=.fields #[vl,vu,.none]}}:=I3.kept (t':=s3.toks) λb ob q=>aZ _ q
 obtain⟨T,id,hT,ht,hg⟩:=hr ad {s3 with heap:=s3.heap.push {cls:=.type "slice",data:=.fields #[vl,vu,.none]}} σ H3 x v vl vu l u s3.heap.objs.size Q I4 r1 (Heap.IsSliceOf.new ..) pl pu q3;show wpAny (model X.prog X.w) X.A (subscriptTail e (.Slice lo hi none p2) v (.ref s3.heap.objs.size)) (EP X ad σ Q) X.xe {s3 with heap:=s3.heap.push {cls:=.type "slice",data:=.fields #[vl,vu,.none]}};exact tail_any (ops:=[.ref s3.heap.objs.size,v]) ht hT hg (by with_unfolding_all rfl)
noncomputable def JT(xs:List V)(lo hi:Option Int):List V:=(xs.drop (HT.JS xs.length 0 lo)).take (HT.JS xs.length xs.length hi-HT.JS xs.length 0 lo)
theorem GR(xs:List V)(lo hi:Option Int):(JT xs lo hi).length<=xs.length:=by unfold JT;rw[bJ,cm];lia
end
noncomputable def OA(n:Nat)(i:Int):Option Nat:=if 0<=i then (if i<n then some i.toNat else none) else if -(n:Int)<=i then some (i+n).toNat else none
noncomputable def Kb{α:Type}(xs:List α)(i:Int):Option α:=(OA xs.length i).bind λj=>xs[j]?
theorem Ms{n:Nat}{i:Int}(h:OA n i=some j):seqIndex? i n=some j/\j<n/\-(n:Int)<=i/\i<n:=by
 unfold OA at h
 by_cases h0:0<=i
 ·rw[qD h0]at h
  by_cases h1:i<n
  ·rw[qD h1]at h;have e:i.toNat=j:=Option.some.inj h;exact⟨by rw[seqIndex_of h0 h1,e],by lia,by lia,h1⟩
  ·rw[qC h1]at h;cases h
 ·rw[qC h0]at h
  by_cases h1:-(n:Int)<=i
  ·rw[qD h1]at h;have e:(i+n).toNat=j:=Option.some.inj h;exact⟨by rw[seqIndex_neg (by lia) h1,e],by lia,h1,by lia⟩
  ·rw[qC h1]at h;cases h
theorem JU{xs:List α}{i:Int}{v:α}(h:Kb xs i=some v):∃j,seqIndex? i xs.length=some j/\xs[j]?=some v/\j<xs.length/\-(xs.length:Int)<=i/\i<xs.length:=by
 unfold Kb at h;cases e:OA xs.length i with
 |none=>rw[e]at h;cases h
 |some j =>
  rw[e]at h;obtain⟨h1,h2,h3,h4⟩:=Ms e;exact⟨j,h1,h,h2,h3,h4⟩
theorem Bv{xs:List α}{v:α}(h:xs[j]?=some v):Kb xs (j:Int)=some v:=by
 have hj:j<xs.length:=(ae.mp h).1
 have e:OA xs.length (j:Int)=some j:=by unfold OA;rw[qD (by lia),qD (by lia)];simp
 unfold Kb;rw[e];exact h
def RT(b:Expr):Prop:=∀o i,subscripted b false o i=operate [o,i] (getItem o i)
def UC(X:Cx)(r:R2):Prop:=
 ∀(value slice:Expr) (ad:List (qM×Obj)) (s:qN) (σ:St) (H:Hp) (x y:V) (v u:qL) (Q:VK),AX X ad σ H s->Av x v->Av y u->r x y H Q ->
  subscripted slice false v u=operate [v,u] (getItem v u)->wpAny (model X.prog X.w) X.A (subscriptTail value slice v u) (EP X ad σ Q) X.xe s
def S1(X:Cx)(id:String)(r:V->List V->Hp->VK->Prop):Prop:=
 ∀(ad:List (qM×Obj)) (s:qN) (σ:St) (H:Hp) (x:V) (xs:List V) (v:qL) (us:List qL) (Q:VK),AX X ad σ H s->Av x v->Au xs us->r x xs H Q ->
  wpAny (model X.prog X.w) X.A (call (.builtin id) (v::us)) (EP X ad σ Q) X.xe s
variable{T:String}
section
variable{a b:Expr}{ta tb:TE}
theorem AN{r:R2}(hr:UC X r)(ha:PE X a ta)(hb:PE X b tb)(hs:RT b):PE X (.Subscript a b pos) (WR r ta tb):=by intro ad s σ H Q I h;exact Subscript_ (T5 ha hb I h λv u s2 x y H2 I2 rx ry q=>hr a b ad s2 σ H2 x y v u Q I2 rx ry q (hs _ _))
def RU(K:qQ):R2:=λx y H Q=>∃p xs i v,x=.ref p/\y=.int i/\Ag K H p xs/\Kb xs i=some v/\Q v H
def UD(K:qQ):R2:=λx y H Q=>∃p xs i v,x=.ref p/\y=.int i/\Ar K H p xs/\Kb xs i=some v/\Q v H
def Zd:R2:=λx y H Q=>∃z i c,x=.str z/\y=.int i/\z.length<=sizeLine/\Kb z.cps.toList i=some c/\Q (.str ⟨#[c]⟩) H
theorem Mt:UC X (RU X.K):=by
 intro value slice ad s σ H x y v u Q I rx ry h hs;refine byG λGq hGq=>?_;obtain⟨p,xs,i,z,rfl,rfl,hq,he,q⟩:=h;refine hGq ?_;clear hGq Gq;cases rx;obtain⟨t,rfl⟩:=ry;refine byG λGq hGq=>?_;obtain⟨its,r,pl,hz⟩:=I.list hq;refine hGq ?_;clear hGq Gq;refine byG λGq hGq=>?_;obtain⟨j,h1,h2,h3,h4,h5⟩:=JU he;refine hGq ?_;clear hGq Gq;obtain⟨w,ew,rw'⟩:=r.get h2;have hl:=r.length;have hn:=D8;have fin:EP X ad σ Q w s:=⟨z,H,I,rw',q⟩
 by_cases h0:0<=i
 ·have hj:i.toNat=j:=by
   rw[seqIndex_of h0 h5]at h1;exact Option.some.inj h1
  exact item_listR pl.isList h0 (by lia) (by rw[hj];simpa using ew) fin hs
 ·have hj:(i+(its.toArray.size:Int)).toNat=j:=by
   rw[seqIndex_neg (by lia) h4]at h1;rw[bS,<-hl];exact Option.some.inj h1
  exact subscriptTail_builtinR (x:=w) pl.isList.typeIs slot_list_getitem.lookup
   (wpAny_getItem_list_neg (Q:=λr s'=>r=w/\EP X ad σ Q r s') pl.isList (by lia) (by rw[List.size_toArray]<;>lia) (by lia) (by rw[hj];simpa using ew) ⟨rfl,fin⟩) hs
theorem UE:UC X (UD X.K):=by
 intro value slice ad s σ H x y v u Q I rx ry h hs;obtain⟨p,xs,i,z,rfl,rfl,hq,he,q⟩:=h;cases rx;obtain⟨t,rfl⟩:=ry;obtain⟨its,r,pl,hz⟩:=I.tuple hq;obtain⟨j,h1,h2,h3,h4,h5⟩:=JU he;obtain⟨w,ew,rw'⟩:=r.get h2;have hl:=r.length;have hn:=D8;have fin:EP X ad σ Q w s:=⟨z,H,I,rw',q⟩
 exact subscriptTail_builtinR (x:=w) pl.typeIs slot_tuple_getitem.lookup
  (getItem_tuple (j:=j) (Q:=λr s'=>r=w/\EP X ad σ Q r s') pl (by lia) (by lia) (by rw[List.size_toArray,<-hl];exact h1) (by simpa using ew) ⟨rfl,fin⟩) hs
theorem JV:UC X Zd:=by
 intro value slice ad s σ H x y v u Q I rx ry h hs;refine byG λGq hGq=>?_;obtain⟨z,i,c,rfl,rfl,hz,he,q⟩:=h;refine hGq ?_;clear hGq Gq;obtain⟨t,rfl⟩:=rx;obtain⟨t',rfl⟩:=ry;refine byG λGq hGq=>?_;obtain⟨j,h1,h2,h3,h4,h5⟩:=JU he;refine hGq ?_;clear hGq Gq;have hl:z.cps.toList.length=z.length:=by simp[Str.length]
 rw[hl]at h1 h4 h5;have hn:=D8
 exact tail_any (typeIs_str s z t) slot_str_getitem.lookup (getItem_str (c:=c) (by have e1:decide (i < -(2^63:Int))=false:=qG (by lia);have e2:decide (i≥2^63)=false:=qG (by lia);rw[e1,e2,Bool.or_false]) (by rw[h1];simpa using h2) ⟨.str ⟨#[c]⟩,H,I.tok _,⟨_,rfl⟩,q⟩) hs
theorem JW(lo hi:Option Int)(n:Nat):(sliceBounds lo hi none n).1=((HT.JS n 0 lo:Nat):Int)/\(sliceBounds lo hi none n).2.1=((HT.JS n n hi:Nat):Int)/\(sliceBounds lo hi none n).2.2=1:=by
 refine⟨?_,?_,rfl⟩
 ·cases lo with
  |none=>simp[sliceBounds,HT.JS]
  |some i =>
   simp only[sliceBounds,HT.JS,Option.getD_none,show (1:Int)>0 by decide,if_true]
   by_cases h:i<0
   ·simp only[h,if_true]<;>lia
   ·simp only[h,if_false]<;>lia
 ·cases hi with
  |none=>simp[sliceBounds,HT.JS]
  |some i =>
   simp only[sliceBounds,HT.JS,Option.getD_none,show (1:Int)>0 by decide,if_true]
   by_cases h:i<0
   ·simp only[h,if_true]<;>lia
   ·simp only[h,if_false]<;>lia
theorem IQ(its:List qL)(lo hi:Option Int):slicePick its.toArray lo hi none=((its.drop (HT.JS its.length 0 lo)).take (HT.JS its.length its.length hi-HT.JS its.length 0 lo)).toArray:=by obtain⟨h1,h2,h3⟩:=JW lo hi its.toArray.size;unfold slicePick;rw[h1,h2,h3];simp only[sliceRange_one,pick_run,List.size_toArray]<;>rfl
def WX(K:qQ):V->Option Int->Option Int->Hp->VK->Prop:=λx lo hi H Q=>∃a xs,x=.ref a/\Ag K H a xs/\∀p,H p=none->Q (.ref p) (Ai H p (.lst (JT xs lo hi)))
theorem JX:Zc X (WX X.K):=by intro ad s σ H x v vl vu lo hi sl Q I rx hs pl pu h;refine byG λGq hGq=>?_;obtain⟨a,xs,rfl,hx,q⟩:=h;refine hGq ?_;clear hGq Gq;cases rx;refine byG λGq hGq=>?_;obtain⟨its,r,ht,hz⟩:=I.list hx;refine hGq ?_;clear hGq Gq;have hlen:=r.length;refine⟨"list",_,slot_list_getitem.lookup,ht.isList.typeIs,?_⟩;refine wpAny_getItem_list_slice ht.isList hs pl pu .none (by simp) ?_ (by rw[List.size_toArray]<;>lia);rw[IQ,<-hlen];refine⟨.ref s.heap.objs.size,_,I.laid (t':=s.toks) (o:=.lst (JT xs lo hi)) (λb ob q=>aZ _ q) (af _) ?_,rfl,q _ (I.hok.fresh (af _))⟩;exact⟨bB (GR xs lo hi) hz,_,0,(r.drop (HT.JS xs.length 0 lo)).take (HT.JS xs.length xs.length hi-HT.JS xs.length 0 lo),aj _ rfl⟩
noncomputable def FI:V->Bool
 |.non=>true
 |.bl _=>true
 |.int _=>true
 |.str _=>true
 |_=>false
noncomputable def PU:V->V->Bool
 |.non,.non=>true
 |.bl a,.bl b=>a==b
 |.bl a,.int b=>(if a then 1 else 0)==b
 |.int a,.bl b=>a==(if b then 1 else 0)
 |.int a,.int b=>a==b
 |.str a,.str b=>a==b
 |_,_=>false
theorem UF{A:Around}{x:V}{v:qL}(ry:Av y u)(rx:Av x v)(fy:FI y=true)(fx:FI x=true):SeqAt.EqAt A s u v (PU y x):=by
 cases y with
 |non =>
  cases ry;cases x with
  |non=>cases rx;exact SeqAt.EqAt.same _
  |bl b=>cases rx;exact SeqAt.EqAt.none_bool b
  |int b=>obtain⟨t,rfl⟩:=rx;exact SeqAt.EqAt.none_int b t
  |str b=>obtain⟨t,rfl⟩:=rx;exact SeqAt.EqAt.none_str b t
  |_=>exact qE (show false=true from fx) ap
 |bl a =>
  cases ry;cases x with
  |non=>cases rx;exact SeqAt.EqAt.bool_none a
  |bl b=>cases rx;exact SeqAt.EqAt.bool_bool a b
  |int b=>obtain⟨t,rfl⟩:=rx;exact SeqAt.EqAt.bool_int a b t
  |str b=>obtain⟨t,rfl⟩:=rx;exact SeqAt.EqAt.bool_str a b t
  |_=>exact qE (show false=true from fx) ap
 |int a =>
  obtain⟨t',rfl⟩:=ry;cases x with
  |non=>cases rx;exact SeqAt.EqAt.int_none a t'
  |bl b=>cases rx;exact SeqAt.EqAt.int_bool a t' b
  |int b=>obtain⟨t,rfl⟩:=rx;exact SeqAt.EqAt.int_int a t' b t
  |str b=>obtain⟨t,rfl⟩:=rx;exact SeqAt.EqAt.int_str a t' b t
  |_=>exact qE (show false=true from fx) ap
 |str a =>
  obtain⟨t',rfl⟩:=ry;cases x with
  |non=>cases rx;exact SeqAt.EqAt.str_none a t'
  |bl b=>cases rx;exact SeqAt.EqAt.str_bool a t' b
  |int b=>obtain⟨t,rfl⟩:=rx;exact SeqAt.EqAt.str_int a t' b t
  |str b=>obtain⟨t,rfl⟩:=rx;exact SeqAt.EqAt.str_str a t' b t
  |_=>exact qE (show false=true from fx) ap
 |_=>exact qE (show false=true from fy) ap
noncomputable def RV(x:V)(u:qL):Bool:=match u with
 |.none=>PU .non x
 |.bool b=>PU (.bl b) x
 |.int i _=>PU (.int i) x
 |.str z _=>PU (.str z) x
 |_=>false
theorem PV{x:V}(r:Av y u)(f:FI y=true):RV x u=PU y x:=by
 cases y with
 |non=>cases r;rfl
 |bl b=>cases r;rfl
 |int i=>obtain⟨t,rfl⟩:=r;rfl
 |str z=>obtain⟨t,rfl⟩:=r;rfl
 |_=>exact qE (show false=true from f) ap
theorem JY{x:V}:∀{xs:List V} {us:List qL},Au xs us->xs.all FI=true->us.any (RV x)=xs.any λy=>PU y x
 |_,_,.nil,_=>rfl
 |y::xs,u::us,.cons r t,f=>by rw[List.all_cons,au]at f;rw[dR,dR,PV r f.1,JY t f.2]
theorem G7{A:Around}{x:V}{v:qL}(rx:Av x v)(fx:FI x=true):∀{xs:List V} {us:List qL},Au xs us->xs.all FI=true->∀u∈us,SeqAt.EqAt A s u v (RV x u)
 |_,_,.nil,_=>λu hu=>by cases hu
 |y::xs,u::us,.cons r t,f=>λu' hu=>by
  rw[List.all_cons,au]at f;rcases aw.mp hu with rfl|hu
  ·rw[PV r f.1];exact UF r rx f.1 fx
  ·exact G7 rx fx t f.2 u' hu
noncomputable def WF(x:V)(xs:List V):Bool:=xs.any λy=>PU y x
def aS(K:qQ)(neg:Bool):R2:=λx y H Q=>∃p xs,y=.ref p/\(Ag K H p xs\/Ar K H p xs)/\FI x=true/\xs.all FI=true/\Q (.bl (if neg then !WF x xs else WF x xs)) H
theorem OB:GO X (compareOp .In) (aS X.K false):=by
 intro ad s σ H x y v u Q I rx ry h;refine byG λGq hGq=>?_;obtain⟨p,xs,rfl,hq,fx,fs,q⟩:=h;refine hGq ?_;clear hGq Gq;cases ry;rcases hq with hq|hq
 ·refine byG λGq hGq=>?_;obtain⟨its,r,pl,hz⟩:=I.list hq;refine hGq ?_;clear hGq Gq;refine SeqAt.in_listAt (RV x) pl.isList (λw hw=>G7 rx fx r fs w (by simpa using hw)) ⟨.bl _,H,I,rfl,?_⟩;rw[show its.toArray.any (RV x)=its.any (RV x) by simp,JY r fs];exact q
 ·refine byG λGq hGq=>?_;obtain⟨its,r,pl,hz⟩:=I.tuple hq;refine hGq ?_;clear hGq Gq;refine SeqAt.in_tupleAt (RV x) pl (λw hw=>G7 rx fx r fs w (by simpa using hw)) ⟨.bl _,H,I,rfl,?_⟩;rw[show its.toArray.any (RV x)=its.any (RV x) by simp,JY r fs];exact q
theorem FJ:CH X (.builtin "len") (λxs H Q=>∃p ys,xs=[.ref p]/\(Ag X.K H p ys\/Ar X.K H p ys)/\Q (.int ys.length) H):=by
 intro ad s σ H xs us Q I r h;refine byG λGq hGq=>?_;obtain⟨p,ys,rfl,hq,q⟩:=h;refine hGq ?_;clear hGq Gq;obtain⟨u,rfl,rx⟩:=DT r;cases rx;have hn:=D8;rcases hq with hq|hq
 ·refine byG λGq hGq=>?_;obtain⟨its,r',pl,hz⟩:=I.list hq;refine hGq ?_;clear hGq Gq;have hlen:=r'.length;exact Calls.call_len_list pl.isList (by simp only[List.size_toArray]<;>lia) ⟨.int ys.length,H,I.tok _,⟨s.toks+1,by rw[List.size_toArray,hlen]⟩,q⟩
 ·refine byG λGq hGq=>?_;obtain⟨its,r',pl,hz⟩:=I.tuple hq;refine hGq ?_;clear hGq Gq;have hlen:=r'.length;exact len_tuple pl (by simp only[List.size_toArray]<;>lia) ⟨.int ys.length,H,I.tok _,⟨s.toks+1,by rw[List.size_toArray,hlen]⟩,q⟩
theorem B2:CH X (.builtin "len") (λxs H Q=>∃z,xs=[.str z]/\z.length<=sizeLine/\Q (.int z.length) H):=by intro ad s σ H xs us Q I r h;obtain⟨z,rfl,hz,q⟩:=h;obtain⟨u,rfl,t,rfl⟩:=DT r;have hn:=D8;exact len_str (by lia) ⟨.int z.length,H,I.tok _,⟨_,rfl⟩,q⟩
theorem IR:CH X (.type "tuple") (λxs H Q=>∃p ys,xs=[.ref p]/\((Ag X.K H p ys/\∀l,H l=none->Q (.ref l) (Ai H l (.tup ys)))\/(Ar X.K H p ys/\Q (.ref p) H))):=by
 intro ad s σ H xs us Q I r h;obtain⟨p,ys,rfl,h⟩:=h;obtain⟨u,rfl,rx⟩:=DT r;cases rx;rcases h with⟨hq,q⟩|⟨hq,q⟩
 ·obtain⟨its,r',pl,hz⟩:=I.list hq;have hlen:=r'.length;refine call_tuple_list pl.isList (λh' kp=>?_) (by simp only[List.size_toArray]<;>lia);have I1:AX X ad σ H {s with heap:=h'}:=I.kept (t':=s.toks) kp
  have I2:AX X ad σ (Ai H h'.objs.size (.tup ys)) {s with heap:=h'.push {cls:=.type "tuple",data:=.seq its.toArray}}:=
   I1.laid (t':=s.toks) (λb o e=>aZ _ e) (af _) (show An X.prog X.w _ _ _ (.tup ys) from⟨hz,its,r',IsTup.new _ _⟩)
  exact⟨.ref h'.objs.size,_,I2,rfl,q _ (I1.hok.fresh (af _))⟩
 ·obtain⟨its,r',pl,hz⟩:=I.tuple hq;exact call_tuple_same pl ⟨.ref p,H,I,rfl,q⟩
def Ze(K:qQ)(T:String)(x:V)(H:Hp):Prop:=match x with
 |.str _=>T="str"
 |.int _=>T="int"
 |.ref p=>(T="list"/\∃xs,Ag K H p xs)\/(T="tuple"/\∃o,K.lookup p=some o/\o.cls=.type "tuple"/\o.dict=none) \/
   (T="dict"/\((∃kvs,H p=some (.dK kvs))\/∃kvs,H p=some (.dT kvs)))\/(T="set"/\∃S n,H p=some (.set S n))
 |_=>False
theorem UG{x:V}{v:qL}(I:AX X ad σ H s)(r:Av x v)(ty:Ze X.K T x H):
  s.TypeIs v T/\∀a,v=.ref a->∃ob,s.heap.get? a=some ob/\ob.dict=none:=by
 cases x with
 |str z =>
  obtain⟨t,rfl⟩:=r;cases (show T="str" from ty);exact⟨typeIs_str s z t,λ_ e=>nomatch e⟩
 |int i =>
  obtain⟨t,rfl⟩:=r;cases (show T="int" from ty);exact⟨typeIs_int s i t,λ_ e=>nomatch e⟩
 |ref p =>
  cases r;rcases ty with⟨rfl,xs,hq⟩|⟨rfl,o,hk,hc,hd⟩|⟨rfl,hk⟩|⟨rfl,S,n,hk⟩
  ·refine byG λGq hGq=>?_;obtain⟨its,_,pl,_⟩:=I.list hq;refine hGq ?_;clear hGq Gq;refine⟨pl.isList.typeIs,λa e=>?_⟩;cases e;refine byG λGq hGq=>?_;obtain⟨o,n,e,c,hd,_⟩:=pl;refine hGq ?_;clear hGq Gq;exact⟨o,e,hd⟩
  ·refine⟨⟨o,I.kIn p o hk,hc⟩,λa e=>?_⟩;cases e;exact⟨o,I.kIn _ o hk,hd⟩
  ·have z:∃o,s.heap.get? p=some o/\o.ExactDict:=by
    rcases hk with⟨kvs,hk⟩|⟨kvs,hk⟩
    ·refine byG λGq hGq=>?_;obtain⟨_,_,_,_,o,_,_,e,ex,_⟩:=I.hok p _ hk;refine hGq ?_;clear hGq Gq;exact⟨o,e,ex⟩
    ·refine byG λGq hGq=>?_;obtain⟨_,_,_,_,o,_,_,e,ex,_⟩:=I.hok p _ hk;refine hGq ?_;clear hGq Gq;exact⟨o,e,ex⟩
   obtain⟨o,e,ex⟩:=z;refine⟨⟨o,e,ex.1⟩,λa e2=>?_⟩;cases e2;exact⟨o,e,ex.2.1⟩
  ·refine byG λGq hGq=>?_;obtain⟨o,_,_,_,e,ex,_⟩:=I.hok p _ hk;refine hGq ?_;clear hGq Gq;refine⟨⟨o,e,ex.1⟩,λa e2=>?_⟩;cases e2;exact⟨o,e,ex.2.1⟩
 |_=>exact False.elim ty
def Zf(K:qQ)(T:String)(r:V->List V->Hp->VK->Prop)(to:TE)(t:TA):TE:=λσ H Q=>to σ H λx H1=>Ze K T x H1/\t σ H1 λxs H2=>r x xs H2 Q
variable{o e:Expr}{to:TE}{t:TA}{apos cpos:Pos}{id:String}{r:V->List V->Hp->VK->Prop}
theorem DU(pa:PlainAttrs T)(slot:Slot T name id)(hty:typeOf (.builtin id)=pure (.type "method_descriptor"))(hm:S1 X id r)(ho:PE X o to)(ha:PA X (e::es) t)
  (hbase:attributeBase o name X.env (eval o X.env)=eval o X.env:=by rfl)
  (hfew:((backTo cpos (starEach (e::es) X.env)).all (λx=>!x.1)&&(backToKw cpos (keywordEach [] X.env)).all (λx=>x.1.isSome)
   && decide ((e::es).length+([]:List Keyword).length+(if ([]:List Keyword).isEmpty then 0 else 1)<30))=true:=by rfl)
  (hline:(apos.endLine==cpos.line)=true:=by rfl) (hs:starEach (e::es) X.env=(false,eval e X.env)::starEach es X.env:=by rfl) (hplain:(backTo cpos (starEach es X.env)).any (·.1)=false:=by rfl):
  PE X (.Call (.Attribute o name apos) (e::es) [] cpos) (Zf X.K T r to t):=by
 intro ad s σ H Q I h;refine wpAny_Call_method_late hbase hfew hline rfl (A8 (ho ad s σ H _ I h) λv s1 z9=>?_);obtain⟨x,H1,I1,r1,ty,q1⟩:=z9;obtain⟨h1,h2⟩:=UG I1 r1 ty;refine⟨T,id,pa,slot,hty,h1,h2,?_⟩;have hA:=ha cpos ad s1 σ H1 _ I1 q1;rw[hs]at hA⊢;refine Calls.callWith_builtin (by show (false||(backTo cpos (starEach es X.env)).any (·.1))=false;rw[hplain]<;>rfl) (Calls.evalArgs_plain ?_);exact A8 hA λus s2 ⟨vs,H2,I2,r2,q2⟩=>hm ad s2 σ H2 x vs v us Q I2 r1 r2 q2
end
def aM(X:Cx)(id:String)(r:V->List V->Hp->VK->Prop):Prop:=
 ∀(ad:List (qM×Obj)) (s:qN) (σ:St) (H:Hp) (x:V) (xs:List V) (v:qL) (us:List qL) (Q:VK),AX X ad σ H s->Av x v->Au xs us->r x xs H Q ->
  wpAny (model X.prog X.w) X.A (call (.builtin id) (v::us)) (EP X ad σ Q) X.xe s
theorem Au.one:∀{x:V} {us:List qL},Au [x] us->∃u,us=[u]/\Av x u:=by
 intro _ _ r;cases r with
 |cons r t=>cases t;exact⟨_,rfl,r⟩
theorem Au.reverse(h:Au xs us):Au xs.reverse us.reverse:=by
 induction h with
 |nil=>exact .nil
 |cons r t ih=>rw[List.reverse_cons,List.reverse_cons];exact Au.append ih (.cons r .nil)
variable{its:List qL}
section
variable{l b:qM}{ys zs:List V}
theorem AX.lset{its':List qL}{n:Nat}{f:Array qL->Array qL}{t':Nat}(I:AX X ad σ H s)(hH:H l=some (.lst xs))
  (e:s.heap.get? l=some {cls:=.type "list",data:=.seq its.toArray n}) (hf:f its.toArray=its'.toArray) (hv:Au ys its') (hz:ys.length<=sizeLine):
  AX X ad σ (Ai H l (.lst ys)) {s with heap:=s.heap.update l (Obj.mapSeq f),toks:=t'}:=by
 have q:=PySem.IsL.update e f;rw[hf]at q;refine I.write (x:=l) (e:=l) (by rw[hH];exact trivial) (.inl rfl) (λb' u hb hu=>(ba s.heap (Obj.mapSeq f) (Ne.symm hb)).trans hu) ⟨_,q⟩ ?_;exact⟨hz,its',_,hv,q⟩
theorem AX.lnew(I:AX X ad σ H s)(hv:Au ys its)(hz:ys.length<=sizeLine):
  AX X ad σ (Ai H s.heap.objs.size (.lst ys)) {s with heap:=s.heap.push {cls:=.type "list",data:=.seq its.toArray},toks:=t'}:=
 I.laid (λ_ _ q=>aZ _ q) (af _) ⟨hz,its,0,hv,aj _ rfl⟩
theorem AX.fresh(I:AX X ad σ H s):H s.heap.objs.size=none:=I.hok.fresh (af _)
theorem AX.lstM(I:AX X ad σ H s)(hH:H l=some (.lst xs)):xs.length<=sizeLine/\∃(its:List qL) (n:Nat),Au xs its/\xs.length=its.length/\s.heap.get? l=some {cls:=.type "list",data:=.seq its.toArray n}:=by refine byG λGq hGq=>?_;obtain⟨z,its,n,r,e⟩:=I.hok l _ hH;refine hGq ?_;clear hGq Gq;exact⟨z,its,n,r,r.length,e⟩
theorem Kc{n:Nat}(h:n<=sizeLine):Builtin.List.listTooLong n=false:=by unfold Builtin.List.listTooLong;exact qG (by lia)
end
def JZ:V->List V->Hp->VK->Prop:=λx vs H Q=>∃l xs y,x=.ref l/\vs=[y]/\H l=some (.lst xs)/\xs.length<sizeLine/\Q .non (Ai H l (.lst (xs++[y])))
theorem F1:aM X "list.append" JZ:=by intro ad s σ H x vs v us Q I rx rv h;refine byG λGq hGq=>?_;obtain⟨l,xs,y,rfl,rfl,hH,hz,q⟩:=h;refine hGq ?_;clear hGq Gq;cases rx;obtain⟨u,rfl,ru⟩:=rv.one;refine byG λGq hGq=>?_;obtain⟨z,its,n,r,hl,e⟩:=I.lstM hH;refine hGq ?_;clear hGq Gq;refine call_meets F.slot_list_append ⟨_,e,rfl⟩ F.entry_list_append (F.args_list_append_2 _ _) (PySem.list_append l its.toArray n u (by rw[bS];lia)) ⟨e,?_⟩;refine⟨.non,_,I.lset (its':=its++[u]) hH e (by simp) (r.append (.cons ru .nil)) ?_,rfl,q⟩;rw[ac,bi];lia
def RX:V->List V->Hp->VK->Prop:=λx vs H Q=>∃l b xs zs,x=.ref l/\vs=[.ref b]/\H l=some (.lst xs)/\H b=some (.lst zs)/\xs.length+zs.length<=sizeLine/\Q .non (Ai H l (.lst (xs++zs)))
theorem Im:aM X "list.extend" RX:=by
 intro ad s σ H x vs v us Q I rx rv h;refine byG λGq hGq=>?_;obtain⟨l,b,xs,zs,rfl,rfl,hH,hB,hz,q⟩:=h;refine hGq ?_;clear hGq Gq;cases rx;obtain⟨u,rfl,ru⟩:=rv.one;cases ru;refine byG λGq hGq=>?_;obtain⟨z,its,n,r,hl,e⟩:=I.lstM hH;refine hGq ?_;clear hGq Gq;refine byG λGq hGq=>?_;obtain⟨z2,its2,n2,r2,hl2,e2⟩:=I.lstM hB;refine hGq ?_;clear hGq Gq;have hsz:its.toArray.size+its2.toArray.size<=sizeLine:=by rw[bS,bS];lia
 have hlong:¬(!its.toArray.isEmpty&&Builtin.List.listTooLong (its.toArray.size+its2.toArray.size))=true:=by rw[Kc hsz,dC];exact ap
 refine call_meets F.slot_list_extend ⟨_,e,rfl⟩ F.entry_list_extend (F.args_list_extend_2 _ _)
  (AutoSeq1.list_extend_list_list_0 l its.toArray n b its2.toArray n2 hlong (by rw[bS];lia) (by lia)) ⟨e,e2,?_⟩
 refine⟨.non,_,I.lset (its':=its++its2) hH e (by simp) (r.append r2) ?_,rfl,q⟩;rw[ac];lia
def WY:R2:=λx y H Q=>∃l b xs zs,x=.ref l/\y=.ref b/\H l=some (.lst xs)/\H b=some (.lst zs)/\xs.length+zs.length<=sizeLine/\∀p,H p=none->Q (.ref p) (Ai H p (.lst (xs++zs)))
theorem Bj:GO X (binaryOp .Add) WY:=by
 intro ad s σ H x y v u Q I rx ry h;refine byG λGq hGq=>?_;obtain⟨l,b,xs,zs,rfl,rfl,hH,hB,hz,q⟩:=h;refine hGq ?_;clear hGq Gq;cases rx;cases ry;refine byG λGq hGq=>?_;obtain⟨z,its,n,r,hl,e⟩:=I.lstM hH;refine hGq ?_;clear hGq Gq;refine byG λGq hGq=>?_;obtain⟨z2,its2,n2,r2,hl2,e2⟩:=I.lstM hB;refine hGq ?_;clear hGq Gq;refine PySem.P.add_list e e2 ?_ (by rw[bS,bS];lia);have ea:its.toArray++its2.toArray=(its++its2).toArray:=by simp
 rw[ea];exact⟨.ref _,_,I.lnew (t':=s.toks) (r.append r2) (by rw[ac];lia),rfl,q _ I.fresh⟩
end L2
namespace Att
open PySem PySem.W PySem.Calls PyProof.Rows
theorem ints_of_wellAll{P:Params}{h:Heap}:∀(ns:qR) (vs:List qL),WellAll P h vs (ns.map WData.int)->IntsAre vs ns:=by
 intro ns
 induction ns with
 |nil =>
  intro vs w;rw[List.map_nil]at w;cases w;exact .nil
 |cons n ns ih =>
  intro vs w;rw[bF]at w;cases w with
  |cons a b =>
   cases a;exact .cons _ _ (ih _ b)
theorem script_of{l:OpenLaw}{n:Nat}(hn:l.most=some n){P:Params}{h:Heap}{args:List WData}{vals:List qL}
  (hpre:l.row.toRowW.claim.pre args=true) (hwl:WellAll P h vals args):
  ∃a vs ns,vals=[Value.ref a]/\args=[WData.list (ns.map WData.int)]/\h.get? a=some {cls:=.type "list",data:=.seq vs.toArray}/\IntsAre vs ns/\ns.length<=n:=by
 have hsh:WShape.hasAll [] args [.list .int]=true:=(pre_splitW hpre).1;have hc:l.pre.holds [] {args:=args}=true:=(pre_splitW hpre).2;obtain⟨d,r,rfl,h1,h2⟩:=hasAllW_cons hsh;obtain rfl:=hasAllW_nil h2;obtain⟨xs,rfl,h3⟩:=hasW_list h1;obtain⟨ns,rfl⟩:=items_int h3
 have hlen:ns.length<=n:=by
  unfold OpenLaw.pre at hc
  have h4:(WTm.not (.lt (.lit (.int (n:Int))) (.len (.arg 0)))).holds [] {args:=[.list (ns.map .int)]}=true:=by have h4:=(holds_andW hc).1;rw[hn]at h4;exact h4
  have h5:=condW_of h4 (w_not (w_lt w_lit (w_len_list (w_arg rfl))));rw[aW]at h5;refine Nat.le_of_not_lt λq=>?_;have q':(n:Int)<((ns.length:Nat):Int):=by lia
  first
   | (rw[qF q']at h5;exact qE h5 (by decide))
   | (simp at h5;lia)
 cases hwl with
 |cons w1 w2 =>
  cases w2;cases w1 with
  |list ho hall=>exact⟨_,_,ns,rfl,rfl,ho,ints_of_wellAll ns _ hall,hlen⟩
theorem post_true(l:OpenLaw)(args:List WData):l.row.toRowW.claim.post args (.bool true) args=true:=
 postW_of (r:=l.row.toRowW) (X:=(true==true))
  (show WShape.has [] (.bool true) .bool=true by first|rfl|decide|simp[WShape.has,WShape.arms,WShape.armsAll])
  (show (WTm.eq .res (.lit (.bool true))).value [] {args:=args,res:=some (.bool true),after:=args}=some (.bool (true==true)) from w_eq_bool (w_res rfl) w_lit) rfl
theorem attach_call{l:OpenLaw}{n:Nat}{q:qO}{loose:List Str}{XP:(Str->Option qL)->Heap->Prop}{YP:qP->Heap->Prop}{d:DefRec}
  (hn:l.most=some n) (hdf:d.params.defaults=[])
  (call:∀(w:qP) (s₀ s₁:qN) (mg mb:Str->Option qL) (fa:qM) (o:Obj) (pm cd doc:qL) (a:qM) (vs:List qL) (ns:qR),
   Ground q loose [] XP w s₀ mg mb s₁.heap->YP w s₁.heap ->
   s₁.heap.get? fa=some o->o.data=.func (docDef d.name d.params d.body d.scope pm cd doc)->s₁.heap.CodeRec cd d.name->mg d.name=some (.ref fa) ->
   s₁.heap.get? a=some {cls:=.type "list",data:=.seq vs.toArray}->IntsAre vs ns->ns.length<=n->s₁.gens=#[] ->
   codeAny (model l.prog w) callerA (.call (.ref fa) ⟨[.ref a],[]⟩) (λr s'=>r=.ok (.ret (.bool true))/\OldK s₁.heap s'.heap/\s'.os=s₁.os/\AllBare s'.gens) s₁):
  WalkO q loose XP YP l.row.toRowW d [] (λf vs=>PySem.call f vs):=by
 intro w s₀ s₁ mg mb G Y fa o pm cd doc dV kV ho hd hcd hD hmg hg args vals as hpre hlay hrd hwl hlo;obtain rfl:dV=.none:=Dflts.none hD hdf;obtain rfl:kV=.none:=Dflts.noKw hD;obtain⟨a,vs,ns,rfl,rfl,hobj,hints,hlen⟩:=script_of hn hpre hwl;refine enter_call (codeAny_mono (call w s₀ s₁ mg mb fa o pm cd doc a vs ns G Y ho (fd_plain hd) hcd hmg hobj hints hlen hg) λr s' hq=>?_);obtain⟨rfl,h2,h3,h4⟩:=hq;exact⟨.inl ⟨.bool true,.bool true,[],rfl,λ_=>rfl,.bool true,post_true l _,λ_=>⟨List.Pairwise.nil,λ_ hm=>(nomatch hm)⟩⟩,h2,h3,h4⟩
section
variable{prog:qO}{w:qP}{A:Around}{E:qL->qN->Prop}{s:qN}{K:Frag}
end
end Att
namespace L2
open PySem PySem.Spec PyProof.Rows
variable{H H':Hp}{X:Cx}{a:qM}{an od:Option qM}{d9 doc oc pm:qL}{fd:FuncData}{k:Nat}{ps:List Str}{qual x:Str}{xs:List V}
theorem Io:∀{vs:List qL} {ns:qR},IntsAre vs ns->Au (ns.map V.int) vs:=by
 intro _ _ h
 induction h with
 |nil=>exact .nil
 |cons n t _ ih=>exact .cons ⟨t,rfl⟩ ih
def UH(H:Hp):Prop:=∀b,H b=none\/∃o xs,H b=some (.frz o (.lst xs))
theorem PX{P:qO}{w:qP}{K:qQ}{mg mb:Str->Option qL}{CX:N8}{fa:qM}{fd:FuncData}{sp:Sp}{s₁:qN}{vs:List qL}{ns:qR}
  (KX:K.In s₁.heap) (hns:s₁.heap.Ns mainGlobals mg) (hb:s₁.heap.Ns builtinsNs mb) (hbb:∀x:Str,x≠"__name__"->mb x=bootBuiltins x) (hlim:s₁.heap.NoLimit) (hg:s₁.gens=#[])
  (ha:s₁.heap.get? a=some {cls:=.type "list",data:=.seq vs.toArray}) (hi:IntsAre vs ns) (hl:ns.length<=sizeLine) (hr:BL k callerA)
  (F:∀base:Heap,K.In base->base.Ns mainGlobals mg->DB P w K mg base CX k fa fd [x] sp) (hbind:∀(s:qN) (u:qL),BindsTo s fd ⟨[u],[]⟩ [(x,u)])
  (hsp:∀H:Hp,UH H->Ag K H a (ns.map V.int)->sp [.ref a] H (λv _=>v=.bl true) λ_ _ _=>False)
  (hCX:∀H e s',CX [] H s₁ (λ_ _ _=>False) e s'->False):
  codeAny (model P w) callerA (.call (.ref fa) ⟨[.ref a],[]⟩) (λr s'=>r=.ok (.ret (.bool true))/\OldK s₁.heap s'.heap/\s'.os=s₁.os/\AllBare s'.gens) s₁:=by
 have rv:=Io hi;have lenV:=hi.length
 have core:∀H:Hp,UH H->Ag K H a (ns.map V.int)->D4 P w H s₁.heap->(∀b,H b≠none->b=a)->(H a≠none->K.lookup a=none) ->
   codeAny (model P w) callerA (.call (.ref fa) ⟨[.ref a],[]⟩) (λr s'=>r=.ok (.ret (.bool true))/\OldK s₁.heap s'.heap/\s'.os=s₁.os/\AllBare s'.gens) s₁:=by
  intro H hO hS hok hA hK;have base_of:∀{b:qM} {o:Obj},s₁.heap.get? b=some o->H b=none->(Em s₁.heap H).get? b=some o:=λe n=>KU e n
  have noA:∀{b:qM} {o:Obj} {es:Array DictEntry} {ep:Nat},s₁.heap.get? b=some o->o.data=.dict es ep->H b=none:=λ{b o es ep} e d=>by
   cases q:H b with
   |none=>rfl
   |some u =>
    have e':b=a:=hA b (by rw[q];simp);subst e';rw[ha]at e;cases e;have d':Data.seq vs.toArray _=Data.dict es ep:=d;cases d'
  have nsK:∀{b:qM} {m:Str->Option qL},s₁.heap.Ns b m->(Em s₁.heap H).Ns b m:=λ{b m} ⟨o,es,ep,e,d,r⟩=>⟨o,es,ep,base_of e (noA e d),d,r⟩
  have hKb:K.In (Em s₁.heap H):=λb o e=>base_of (KX b o e) (by
   cases q:H b with
   |none=>rfl
   |some u =>
    have e':b=a:=hA b (by rw[q];simp);subst e';rw[hK (by rw[q];simp)]at e;cases e)
  have hM:WK K mg (Em s₁.heap H):=⟨hKb,nsK hns,⟨mb,nsK hb,hbb⟩,let ⟨mc,h1,h2⟩:=hlim;⟨mc,nsK h1,h2⟩⟩;have e0:KZ P w K mg (Em s₁.heap H) callerA [] s₁ H:=⟨rfl,hM,λb o e=>Ml e,Nat.le_of_eq (Ie _ _),trivial,λb hb=>qE (show b∈([]:List qM) from hb) (by simp),hok,.of_eq hg⟩;refine codeAny_mono ((F _ hKb (nsK hns)).run callerA [] s₁ H ⟨[.ref a],[]⟩ [.ref a] [.ref a] _ _ hr e0 (hbind s₁ (.ref a)) (.cons rfl .nil) (hsp H hO hS)) λr s' h=>?_;cases r with
  |error e=>exact (hCX H e s' h).elim
  |ok fl =>
   cases fl with
   |next=>exact False.elim h
   |brk=>exact False.elim h
   |cont=>exact False.elim h
   |ret u =>
    refine byG λGq hGq=>?_;obtain⟨v,H',os,bare,un,hok',r',q⟩:=h;refine hGq ?_;clear hGq Gq;have q':v=.bl true:=q;subst q';obtain rfl:u=Value.bool true:=r';refine⟨rfl,OldK.of_keep λb o e=>?_,os,bare⟩;cases q:H b with
    |none=>exact un.keep b o e q (by intro z;exact qE (show b∈([]:List qM) from z) (by simp)) (by simp)
    |some u =>
     rcases hO b with z|⟨ob,xs,z⟩
     ·rw[q]at z;cases z
     ·have z2:=un.frzs b ob _ z;obtain⟨e1,_⟩:=hok b _ z;obtain⟨e2,_⟩:=hok' b _ z2;rw[e]at e1;cases e1;exact e2
 cases hk:K.lookup a with
 |some o =>
  have e:=KX a o hk;rw[ha]at e;cases e;refine core (λ_=>none) (λ_=>.inl rfl) (.inr ⟨_,vs.toArray,_,hk,rfl,rfl,rfl,by rw[List.size_toArray,lenV];exact hl,by simpa using rv⟩) (λb u z=>by have z':(none:Option HO)=some u:=z;cases z') (λb z=>qE rfl z) λz=>qE rfl z
 |none =>
  refine core (λb=>if b=a then some (.frz {cls:=.type "list",data:=.seq vs.toArray} (.lst (ns.map V.int))) else none) (λb=>?_) (.inl (.inr ⟨{cls:=.type "list",data:=.seq vs.toArray},qD rfl⟩)) (λb u z=>?_) (λb z=>?_) λ_=>hk
  ·by_cases hb:b=a
   ·exact .inr ⟨_,_,qD hb⟩
   ·exact .inl (qC hb)
  ·by_cases hb:b=a
   ·have z':=(qD hb).symm.trans z;cases z';subst hb;exact⟨ha,by rw[aW];exact hl,vs,_,rv,ha⟩
   ·have z':=(qC hb).symm.trans z;cases z'
  ·by_cases hb:b=a
   ·exact hb
   ·exact qE (qC hb) z
theorem ZK{l:PySem.W.OpenLaw}{n:Nat}{q:qO}{loose:List Str}{XP:(Str->Option qL)->Heap->Prop}{YP:qP->Heap->Prop}{d:DefRec}{K:Params->qQ}{CX:qP->N8}{sp:qP->Sp}
  (hn:l.most=some n) (hn2:n<=sizeLine) (hdf:d.params.defaults=[]) (hr:BL k callerA)
  (hY:∀(w:qP) (h:Heap),YP w h->(K w.params).In h)
  (F:∀(w:qP) (mg:Str->Option qL) (fa:qM) (h:Heap),(K w.params).In h->h.Ns mainGlobals mg->mg d.name=some (.ref fa) ->
   ∃fd:FuncData,(∀(s:qN) (u:qL),BindsTo s fd ⟨[u],[]⟩ [(x,u)]) /\
    ∀base:Heap,(K w.params).In base->base.Ns mainGlobals mg->DB l.prog w (K w.params) mg base (CX w) k fa fd [x] (sp w))
  (hsp:∀(w:qP) (H:Hp) (a:qM) (ns:qR),ns.length<=n->UH H->Ag (K w.params) H a (ns.map V.int)->sp w [.ref a] H (λv _=>v=.bl true) λ_ _ _=>False)
  (hCX:∀(w:qP) (H:Hp) (s:qN) (e:qL) (s':qN),CX w [] H s (λ_ _ _=>False) e s'->False):
  PySem.W.WalkO q loose XP YP l.row.toRowW d [] (λf vs=>PySem.call f vs):=by
 refine Att.attach_call hn hdf λw s₀ s₁ mg mb fa o pm cd doc a vs ns G Y ho hd hcd hmg hobj hints hlen hg=>?_;have KX:=hY w _ Y;obtain⟨fd,hb,hF⟩:=F w mg fa _ KX G.T.g hmg;exact PX KX G.T.g G.T.b G.T.builtins G.T.nolimit hg hobj hints (bB hlen hn2) hr hF hb (λH hO hS=>hsp w H a ns hlen hO hS) λH e s'=>hCX w H s₁ e s'
def Ja(s:Stmt)(j:Nat):Stmt:=match s with
 |.ClassDef _ _ _ body _ _ _ _ _ _ _=>body.getD j (.Pass ⟨0,0,0,0⟩)
 |_=>.Pass ⟨0,0,0,0⟩
def B3(s:Stmt):Arguments:=match s with
 |.FunctionDef _ a _ _ _ _ _ _ _ _=>a
 |_=>{posonlyargs:=[],args:=[],vararg:=none,kwonlyargs:=[],kw_defaults:=[],kwarg:=none,defaults:=[]}
def BB(s:Stmt):List Stmt:=match s with
 |.FunctionDef _ _ b _ _ _ _ _ _ _=>b
 |_=>[]
def AG(s:Stmt):Scope:=match s with
 |.FunctionDef _ _ _ _ _ _ sc _ _ _=>sc
 |_=>{kind:=.function,names:=[],isGenerator:=false,isCoroutine:=false}
abbrev E0:XK:=λ_ _ _=>False
structure BC(K:qQ)(x qual:Str)(st:Stmt)(f:qM)(fd:FuncData):Prop where
 ex:∃(oc:qL) (od:Option qM) (kV doc pm:qL) (an:Option qM) (d9 ct:qL) (osl:Array (Option qL)),
  fd=PySem.W.fnOf x qual (B3 st) (BB st) (AG st) .none kV doc pm an d9 ct/\K.lookup f=some ⟨oc,od,.func fd,osl⟩/\PySem.W.codeIn K d9 qual=true
 kp:PySem.W.keepIn K (.ref f)=true
variable{st:Stmt}{osl:Array (Option qL)}
section
variable{P:qO}{w:qP}{K:qQ}{mg:Str->Option qL}{base:Heap}
theorem BC.binds{f:qM}(F:BC K x qual st f fd)
  (h:∀(kV doc pm:qL) (an:Option qM) (d9 ct:qL) (us:List qL),us.length=ps.length->bindArgs (PySem.W.fnOf x qual (B3 st) (BB st) (AG st) .none kV doc pm an d9 ct) ⟨us,[]⟩=pure (ps.zip us)):DH K fd ps []:=by
 refine byG λGq hGq=>?_;obtain⟨oc,od,kV,doc,pm,an,d9,ct,osl,rfl,lk,hcd⟩:=F.ex;refine hGq ?_;clear hGq Gq;exact .all (h kV doc pm an d9 ct)
theorem Jb{f:qM}{kV ct:qL}(l:K.lookup f=some ⟨oc,od,.func (PySem.W.fnOf x qual (B3 st) (BB st) (AG st) .none kV doc pm an d9 ct),osl⟩)
  (c:PySem.W.codeIn K d9 qual=true) (k:PySem.W.keepIn K (.ref f)=true):BC K x qual st f (PySem.W.fnOf x qual (B3 st) (BB st) (AG st) .none kV doc pm an d9 ct):=⟨⟨oc,od,kV,doc,pm,an,d9,ct,osl,rfl,l,c⟩,k⟩
end
theorem DV{A:Around}(hr:BL k A):A.units+1<cLine:=Nat.lt_of_le_of_lt (Nat.add_le_add_left (by decide:1<=64) _) hr.units
theorem Ap{n:Nat}(h:n<=1000):n<sizeLine:=Nat.lt_of_le_of_lt h (by decide)
theorem pv(i:Nat){pos:Pos}(hN:X.N[i]?=some x:=by rfl)(hv:ZT X.env.scope x:=by first|exact Or.inl rfl|exact Or.inr (Or.inl rfl)|exact Or.inr (Or.inr rfl))(hd:(x==("__debug__":Str))=false:=by decide)
  (hcd:(x==("__classdict__":Str))=false:=by decide):PE X (.Name x pos) (Nv i):=Tw hN hv hd hcd
theorem UI{A B:Prop}(h:B):if false=true then A else B:=by rw[qC ap];exact h
theorem Zg{A B:Prop}(h:A):if true=true then A else B:=by rw[qD rfl];exact h
def AJ(H H':Hp):Prop:=∀b o,H b=some o->H' b=some o
theorem AJ.refl(H:Hp):AJ H H:=λ_ _ h=>h
variable{H1:Hp}
theorem AJ.trans{H2:Hp}(a:AJ H H1)(b:AJ H1 H2):AJ H H2:=λc o h=>b c o (a c o h)
variable{l:qM}
theorem AJ.free(e:AJ H H')(h:H' l=Option.none):H l=Option.none:=by
 cases q:H l with
 |none=>rfl
 |some o =>
  rw[e l o q]at h;cases h
theorem AJ.seq{K:qQ}(e:AJ H H')(h:Ag K H a xs):Ag K H' a xs:=by
 rcases h with (h|⟨o,h⟩)|h
 ·exact .inl (.inl (e _ _ h))
 ·exact .inl (.inr ⟨o,e _ _ h⟩)
 ·exact .inr h
end L2
set_option maxHeartbeats 4000000
set_option compiler.extract_closed false
set_option genSizeOfSpec false
namespace L2
open PySem PySem.Spec PyProof.Rows
variable{C a dx l:qM}{CX:N8}{D:G1}{E Q:qL->qN->Prop}{H H':Hp}{X:Cx}{an od:Option qM}{d9 doc oc pm t u:qL}{ch:List qM}{es:List Expr}{fd:FuncData}{h:Heap}{i j k t':Nat}{name qual x:Str}{o:HO}{osl:Array (Option qL)}{ad:List (qM×Obj)}{pos:Pos}{ps:List Str}{s s':qN}{scope:Scope}{st:Stmt}{ta:TA}{tg:Expr}{us:List qL}{xs:List V}{y:V}{α β:Type}{σ:St}
noncomputable def DX(o:Obj):Option qL:=match o.data with
 |.fields vs=>vs[2]?
 |_=>none
def DK(h h':Heap):Prop:=h.objs.size<=h'.objs.size/\∀(b:Nat) (o o':Obj),h.objs[b]?=some o->h'.objs[b]?=some o'->o'.dict=o.dict/\DX o'=DX o
theorem DK.refl(h:Heap):DK h h:=⟨af _,λb o o' e e'=>by rw[e]at e';cases e';exact⟨rfl,rfl⟩⟩
variable{h1:Heap}
theorem DK.trans{h2 h3:Heap}(x:DK h1 h2)(y:DK h2 h3):DK h1 h3:=⟨bB x.1 y.1,λb o o' e e'=>by obtain⟨hb,_⟩:=cC.mp e;have q:h2.objs[b]?=some (h2.objs[b]'(am hb x.1)):=bt (am hb x.1);exact⟨(y.2 b _ o' q e').1.trans (x.2 b o _ e q).1,(y.2 b _ o' q e').2.trans (x.2 b o _ e q).2⟩⟩
theorem PY{o:Obj}(e:h.get? a=some o):h.objs[a]?=some o:=by
 unfold Heap.get? at e
 split at e
 ·cases e
 ·exact e
variable{h':Heap}
theorem DK.get{o o':Obj}(x:DK h h')(e:h.get? a=some o)(e':h'.get? a=some o'):o'.dict=o.dict/\DX o'=DX o:=x.2 a o o' (PY e) (PY e')
theorem DK.push(h:Heap)(o:Obj):DK h (h.push o):=by
 refine⟨?_,λb u u' e e'=>?_⟩
 ·rw[bf];exact b8 _
 ·have hb:=(cC.mp e).1;have q:(h.push o).objs[b]?=h.objs[b]?:=by show (h.objs.push o)[b]?=_;rw[Array.getElem?_push_lt hb,bt hb]
  rw[q,e]at e';cases e';exact⟨rfl,rfl⟩
theorem DK.update(h:Heap)(a:qM){f:Obj->Obj}(k:∀o,(f o).dict=o.dict/\DX (f o)=DX o):DK h (h.update a f):=by
 have q:(h.update a f).objs=h.objs.modify a f:=rfl;refine⟨by rw[q,Array.size_modify];exact af _,λb u u' e e'=>?_⟩;rw[q,Array.getElem?_modify]at e'
 split at e'
 ·rw[e]at e';cases e';exact k u
 ·rw[e]at e';cases e';exact⟨rfl,rfl⟩
noncomputable def KT{α:Type}:Sem α->Prop
 |.rule _ k=>∀u,KT (k u)
 |.at _ k=>∀u,KT (k u)
 |.load _ _ k=>∀u,KT (k u)
 |.update _ _ f k=>(∀o,(f o).dict=o.dict/\DX (f o)=DX o)/\∀u,KT (k u)
 |.loadIfAlive _ k=>∀u,KT (k u)
 |.point _ k=>∀u,KT (k u)
 |.alloc _ k=>∀u,KT (k u)
 |.fresh k=>∀u,KT (k u)
 |.ask k=>∀u,KT (k u)
 |.handled _ k=>∀u,KT (k u)
 |.stack k=>∀u,KT (k u)
 |.thread k=>∀u,KT (k u)
 |.pure _=>True
 |.raise _=>True
 |.unsupported _=>True
 |.finish _=>True
 |_=>False
theorem KT.keep{M:Model}{Γ:PySem.Ctx}:∀(t:Sem α),KT t->∀(Q:α->Pos->qN->Prop) (E:qL->Pos->qN->Prop) (p:Pos) (s:qN),Sem.wp M Γ t Q E p s ->
  Sem.wp M Γ t (λa p' s'=>Q a p' s'/\DK s.heap s'.heap) (λe p' s'=>E e p' s'/\DK s.heap s'.heap) p s:=by
 intro t
 induction t with
 |pure x=>exact λ_ Q E p s h=>⟨h,DK.refl _⟩
 |raise v=>exact λ_ Q E p s h=>⟨h,DK.refl _⟩
 |unsupported|finish=>exact λ_ Q E p s h=>h
 |yield|fork|await|register|choose|os|call|genState|newGen|resume=>exact λk=>k.elim
 |rule _ k ih|«at» _ k ih|point _ k ih|loadIfAlive _ k ih|fresh k ih|ask k ih|handled _ k ih|stack k ih|thread k ih=>exact λz Q E p s h=>ih _ (z _) Q E _ _ h
 |alloc o k ih=>exact λz Q E p s h=>Sem.wp_mono _ _ _ (λa p' s' q=>⟨q.1,(DK.push _ _).trans q.2⟩) (λa p' s' q=>⟨q.1,(DK.push _ _).trans q.2⟩) _ _ (ih _ (z _) Q E _ _ h)
 |load a _ k ih=>exact λz Q E p s ⟨o,ho,h⟩=>⟨o,ho,ih _ (z _) Q E _ _ h⟩
 |update a _ f k ih=>exact λz Q E p s ⟨ha,h⟩=>⟨ha,Sem.wp_mono _ _ _ (λa p' s' q=>⟨q.1,(DK.update _ _ z.1).trans q.2⟩) (λa p' s' q=>⟨q.1,(DK.update _ _ z.1).trans q.2⟩) _ _ (ih _ (z.2 _) Q E _ _ h)⟩
theorem KT.run{M:Model}{A:Around}{t:Sem α}{Q:α->qN->Prop}(k:KT t)(h:wpAny M A t Q E s):
  wpAny M A t (λa s'=>Q a s'/\DK s.heap s'.heap) (λe s'=>E e s'/\DK s.heap s'.heap) s:=λΓ p hΓ=>KT.keep t k _ _ p s (h Γ p hΓ)
theorem KT.bind{m:Sem α}{f:α->Sem β}(a:KT m)(b:∀x,KT (f x)):KT (m >>= f):=by
 show KT (m.bind f)
 induction m with
 |pure x=>exact b x
 |raise v=>exact a
 |unsupported|finish=>exact a
 |yield|fork|await|register|choose|os|call|genState|newGen|resume=>exact a.elim
 |rule _ k ih|«at» _ k ih|point _ k ih|loadIfAlive _ k ih|fresh k ih|ask k ih|handled _ k ih|stack k ih|thread k ih|alloc _ k ih|load _ _ k ih=>exact λu=>ih u (a u)
 |update _ _ f' k ih=>exact⟨a.1,λu=>ih u (a.2 u)⟩
theorem KT.pure(x:α):KT (Pure.pure x:Sem α):=trivial
theorem KT.ite{c:Prop}[Decidable c]{a b:Sem α}(x:KT a)(y:KT b):KT (if c then a else b):=by split<;>assumption
theorem Eh(x:String):KT (PySem.unsupported x:Sem α):=trivial
theorem Jc(a:qM):KT (PySem.load a):=λ_=>trivial
theorem Ke(v:qL):KT (fieldsOf v):=by
 unfold fieldsOf;split
 ·refine KT.bind (Jc _) λo=>?_;split
  ·exact KT.pure _
  ·exact Eh _
 ·exact Eh _
theorem FK(v:qL)(i:Nat):KT (field v i):=by
 unfold field;refine KT.bind (Ke v) λo=>?_;split
 ·exact KT.pure _
 ·exact Eh _
theorem EA(v x:qL)(i:Nat)(hi:i≠2):KT (setField v i x):=by
 unfold setField;split
 ·unfold updateField;refine KT.bind (Jc _) λo=>?_;split
  ·refine KT.ite ⟨λo=>?_,λ_=>trivial⟩ (Eh _);obtain⟨c,d,dt,sl⟩:=o;cases dt with
   |fields vs=>exact⟨rfl,Array.getElem?_setIfInBounds_ne hi⟩
   |_=>exact⟨rfl,rfl⟩
  ·exact Eh _
 ·exact Eh _
theorem B4(e:qL)(f:Option qM):KT (setFlight e f):=by unfold setFlight;refine KT.bind (FK _ _) λtb=>?_;exact KT.ite (EA _ _ _ (by decide)) (KT.pure _)
theorem G8:KT PySem.stack:=λ_=>trivial
theorem Kf:∀l:List Env,KT (readyFrames l)
 |[]=>trivial
 |env::outer=>by
  unfold readyFrames;split
  ·refine KT.bind (Jc _) λo=>KT.ite (KT.pure _) ?_
   refine KT.bind ?_ λi=>KT.bind ?_ λback=>KT.bind ⟨λo=>⟨rfl,rfl⟩,λ_=>trivial⟩ λ_=>Kf outer
   ·unfold behindIsImport;exact KT.ite (KT.pure _) (KT.ite (KT.pure _) (KT.bind (FK _ _) λ_=>KT.pure _))
   ·unfold keptBack;split
    ·refine KT.ite (KT.pure _) (KT.bind ?_ λ_=>KT.pure _);unfold underTheClaimsCaller;exact KT.bind G8 λ_=>KT.pure _
    ·exact KT.pure _
  ·exact Eh _
theorem Lp(env:Env):KT (PySem.frameOf env):=by
 unfold PySem.frameOf frameEnvs;refine KT.bind (KT.bind G8 λ_=>KT.pure _) λl=>KT.bind ?_ λr=>?_
 ·unfold frameObject;split
  ·exact KT.pure _
  ·exact KT.bind (Kf _) λ_=>KT.pure _
 ·split
  ·exact KT.pure _
  ·exact Eh _
theorem Jd(ty:String)(vs:List qL):KT (newFields ty vs):=by
 unfold newFields newObj;dsimp only;split
 ·exact Eh _
 ·exact λ_=>trivial
theorem PZ(f:qM)(b:Bool):KT (entryPlaceOf f b):=by
 unfold entryPlaceOf;refine KT.bind G8 λ_=>?_
 split<;>exact KT.pure _
theorem Je(e:qL)(env:Env):KT (noteFrame e env):=by
 have last:∀h:qL,∀f:qM,KT (do setField e 1 (<-EntryCells.newEntry h (<-PySem.frameOf env) .none (rawInt f) .none (<-entryPlaceOf f (h != .none)))):=λh f =>
  KT.bind (Lp env) λ_=>KT.bind (PZ _ _) λ_=>KT.bind (Jd _ _) λ_=>EA _ _ _ (by decide)
 unfold noteFrame;split
 ·refine KT.bind (FK _ _) λh=>?_;split
  ·refine KT.bind (FK _ _) λx=>KT.ite (KT.pure _) (KT.bind (EA _ _ _ (by decide)) λ_=>last h _)
  ·exact last h _
 ·exact Eh _
theorem Dk(e:qL)(env:Env):KT (leaving env e):=by unfold leaving;exact KT.bind (Je _ _) λ_=>B4 _ _
structure Pa(nc:Bool)(P:qO)(w:qP)(outer:List Env)(H:Hp)(s:qN)(a:qM)(cls a0:qL)(D:Option qM)(B:Heap)(H':Hp)(s':qN):Prop where
 os:s'.os=s.os
 bare:AllBare s'.gens
 un:Un (CC outer) [] H H' s.heap s'.heap
 hok:D4 P w H' s'.heap
 fly:Heap.FlyingW B outer a cls a0 s'.heap
 old:∀b o,s.heap.get? b=some o->b∉CC outer->∀o',s'.heap.get? b=some o'->B.get? b=some o'
 trk:∀b u,H' b=some u->∀o',s'.heap.get? b=some o'->B.get? b=some o'
 dct:∃oe,s'.heap.get? a=some oe/\oe.dict=D
 ctx:nc=true->∃oe,s'.heap.get? a=some oe/\DX oe=some .none
def IL(nc:Bool)(P:qO)(w:qP):N8:=λouter H s E e s'=>∃a cls a0 D B H',e=.ref a/\Pa nc P w outer H s a cls a0 D B H' s'/\E cls D H'
abbrev FC(P:qO)(w:qP):N8:=IL false P w
theorem An.somewhere{P:qO}{w:qP}(x:An P w H h a o):∃ob,h.get? a=some ob:=by
 cases o with
 |lst xs=>obtain⟨_,_,_,_,e⟩:=x;exact⟨_,e⟩
 |tup xs=>obtain⟨_,_,_,ob,e,_⟩:=x;exact⟨ob,e⟩
 |dK kvs=>obtain⟨_,_,_,_,ob,_,_,e,_⟩:=x;exact⟨ob,e⟩
 |dT kvs=>obtain⟨_,_,_,_,ob,_,_,e,_⟩:=x;exact⟨ob,e⟩
 |set S n=>obtain⟨ob,_,_,_,e,_⟩:=x;exact⟨ob,e⟩
 |ins C dx fs=>obtain⟨_,_,_,e,_⟩:=x;exact⟨_,e⟩
 |own y=>exact x
 |xd fs=>obtain⟨_,⟨ob,_,_,e,_⟩,_⟩:=x;exact⟨ob,e⟩
 |rng lo hi=>obtain⟨_,_,_,e⟩:=x;exact⟨_,e⟩
 |frz ob u=>obtain⟨e,_⟩:=x;exact⟨ob,e⟩
 |tbl ps=>exact⟨_,(show h.get? a=some _ from x)⟩
 |met f y=>exact⟨_,(show h.get? a=some _ from x)⟩
 |ext φ=>obtain⟨_,e,_⟩:=x;exact e
variable{nc:Bool}{cls a0:qL}
theorem AX.slotted(I:AX X ad σ H s)(k:∀b o,s.heap.get? b=some o->b∉CC X.stack->h'.get? b=some o)
  (f:∀b o,s.heap.get? b=some o->b∈CC X.stack->∃sl,h'.get? b=some {o with slots:=sl}):AX X ad σ H {s with heap:=h',toks:=t'}:=by
 have u:Un (CC X.stack) [] H H s.heap h':=⟨λb o e _ hb _=>k b o e hb,λb o e _ hb _=>f b o e hb,λ_ _ _ n _=>n,λb o e _=>by
  by_cases hb:b∈CC X.stack
  ·obtain⟨sl,q⟩:=f b o e hb;exact⟨_,q⟩
  ·exact⟨o,k b o e hb⟩,λ_ _ q=>q,λ_ _ _ q=>q,λb ps q=>⟨#[],by rw[q];simp⟩⟩
 have hok:D4 X.prog X.w H h':=λb u q=>(I.hok b u q).stay (λc v hc r=>k c v r λhm=>by
  have z:=I.stkFree c hm;rcases hc with e|e
  ·rw[e,q]at z;cases z
  ·rw[e]at z;cases z) (λ_ q=>q) λ_ _ q=>q
 exact I.call (g':=s.gens) (d':=s.drawn) (ch:=[]) u hok I.bare (λb z=>qE z (by simp))
theorem AX.frameData(I:AX X ad σ H s){b:qM}{o:Obj}(e:s.heap.get? b=some o)(hb:b∈CC X.stack):∀vs,o.data≠.fields vs:=by obtain⟨_,o',e',nf⟩:=I.stack.mem hb;rw[e]at e';cases e';exact nf
theorem Pa.fresh{D:Option qM}{B:Heap}(F:Pa nc X.prog X.w X.stack H s a cls a0 D B H' s'):H' a=none/\s.heap.get? a=none:=by
 have hB:=F.fly.2.1;obtain⟨oe,vs,he,_,hd,_⟩:=F.fly.first;refine⟨?_,?_⟩
 ·cases q:H' a with
  |none=>rfl
  |some u =>
   have z:=F.trk a u q oe he;rw[hB]at z;cases z
 ·cases q:s.heap.get? a with
  |none=>rfl
  |some o =>
   by_cases hm:a∈CC X.stack
   ·obtain⟨_,o',e',nf⟩:=F.fly.2.2.1.mem hm;rw[he]at e';cases e';exact qE hd (nf vs)
   ·have z:=F.old a o q hm oe he;rw[hB]at z;cases z
theorem Pa.unAt{D:Option qM}{B:Heap}(I:AX X ad σ H s)(F:Pa nc X.prog X.w X.stack H s a cls a0 D B H' s')(hB:B.StaysIn h')(sm:s'.heap.UpToSlots h'):
  Un (CC X.stack) [] H H' s.heap h'/\D4 X.prog X.w H' h':=by
 have up:∀b o,s.heap.get? b=some o->b∈CC X.stack->∃sl,h'.get? b=some {o with slots:=sl}:=λb o e hb=>by obtain⟨sl,e1⟩:=F.un.slot b o e (I.stkFree b hb) hb (by simp);obtain⟨sl',e2⟩:=sm b _ e1 (show ∀vs,o.data≠.fields vs from I.frameData e hb);exact⟨sl',e2⟩
 refine⟨⟨λb o e n hb hx=>hB b o (F.old b o e hb o (F.un.keep b o e n hb hx)),λb o e _ hb _=>up b o e hb,F.un.free,λb o e hx=>?_,F.un.tups,F.un.frzs,F.un.tbls⟩,λb u q=>?_⟩
 ·by_cases hb:b∈CC X.stack
  ·obtain⟨sl,q⟩:=up b o e hb;exact⟨_,q⟩
  ·obtain⟨o',e1⟩:=F.un.there b o e hx;exact⟨o',hB b o' (F.old b o e hb o' e1)⟩
 ·refine (F.hok b u q).stay (λc v hc r=>?_) (λ_ q=>q) λ_ _ q=>q
  rcases hc with e|e
  ·subst e;exact hB c v (F.trk c u q v r)
  ·exact hB c v (F.trk c _ e v r)
theorem Pa.land{D:Option qM}{B:Heap}(I:AX X ad σ H s)(F:Pa nc X.prog X.w X.stack H s a cls a0 D B H' s')(hB:B.StaysIn h')(sm:s'.heap.UpToSlots h'):AX X ad σ H' {s' with heap:=h',toks:=t'}:=by obtain⟨u,hok⟩:=F.unAt I hB sm;exact I.call' (s':={s' with heap:=h',toks:=t'}) (ch:=[]) F.os u hok F.bare (λb z=>qE z (by simp))
def EB(a:qM)(cls:qL)(D:Option qM)(n:Bool)(h:Heap):Prop:=∃o vs,h.get? a=some o/\o.cls=cls/\o.data=.fields vs/\o.dict=D/\(n=true->∃t:qM,vs=#[.ref t,.none,.none,.none,.bool false,.none])
noncomputable def IM(a:qM)(cls:qL)(D:Option qM)(n:Bool):HO:=.ext (EB a cls D n)
theorem Pa.land'{D:Option qM}{B:Heap}{l:List Env}(I:AX X ad σ H s)(F:Pa nc X.prog X.w X.stack H s a cls a0 D B H' s')(fl:Heap.FlyingW B l a cls a0 h')(sm:s'.heap.UpToSlots h')(dk:DK s'.heap h'):
  AX X ad σ (Ai H' a (IM a cls D false)) {s' with heap:=h',toks:=t'}:=by
 obtain⟨u,hok⟩:=F.unAt I fl.1 sm;obtain⟨n1,n2⟩:=F.fresh;refine byG λGq hGq=>?_;obtain⟨oe,vs,he,hc,hd,_⟩:=fl.first;refine hGq ?_;clear hGq Gq;have ne:∀b o,s.heap.get? b=some o->b≠a:=λb o e z=>by rw[z,n2]at e;cases e
 have ne2:∀b o,H' b=some o->b≠a:=λb o e z=>by rw[z,n1]at e;cases e
 refine I.call' (s':={s' with heap:=h',toks:=t'}) (ch:=[]) F.os ⟨u.keep,u.slot,λb o e n hx=>?_,u.there,λb xs q=>?_,λb o v q=>?_,λb ps q=>?_⟩ (λb v q=>?_) F.bare (λb z=>qE z (by simp))
 ·rw[AR (ne b o e)];exact u.free b o e n hx
 ·have q':=u.tups b xs q;rw[AR (ne2 b _ q')];exact q'
 ·have q':=u.frzs b o v q;rw[AR (ne2 b _ q')];exact q'
 ·obtain⟨more,q'⟩:=u.tbls b ps q;exact⟨more,by rw[AR (ne2 b _ q')];exact q'⟩
 ·by_cases hb:b=a
  ·subst hb;rw[AF]at q;cases q;obtain⟨ow,hw,hwd⟩:=F.dct;exact⟨⟨oe,vs,he,hc,hd,(dk.get hw he).1.trans hwd,λz=>by cases z⟩,⟨oe,he⟩,λh1 h2 ⟨o,ws,e,r⟩ k=>⟨o,ws,k o e,r⟩⟩
  ·rw[AR hb]at q;exact (hok b v q).stay (λc v' _ r=>r) (λc z=>by rw[AR (ne2 c _ z)];exact z) λc xs z=>by rw[AR (ne2 c _ z)];exact z
def Pb(X:Cx)(C:qL)(E:XK):Prop:=
 ∀(ad:List (qM×Obj)) (σ:St) (H:Hp) (s:qN) (h':Heap) (e:qM) (args:List qL),AX X ad σ H s->Heap.MadeExcOf s.heap h' e C args->E C none H->X.xe (.ref e) {s with heap:=h'}
def Bn(CX:N8)(X:Cx)(E:St->XK):Prop:=∀(ad:List (qM×Obj)) (σ:St) (H:Hp) (s:qN) (e:qL) (s':qN),AX X ad σ H s->CX X.stack H s (E σ) e s'->X.xe e s'
section
variable{P:qO}{w:qP}{K:qQ}{mg:Str->Option qL}{base:Heap}{N:List Str}{f:qM}{cd:qL}{A:Around}{outer:List Env}{E:XK}
theorem Ah{C:qL}:Pb (Cg (IL nc P w) P w K mg base N qual scope f cd A outer s H E) C E:=by
 intro ad σ H1 s1 h1 e args I hx hE;generalize hX:Cg (IL nc P w) P w K mg base N qual scope f cd A outer s H E=X at I⊢;have hst:X.stack=X.env::X.outer:=by rw[<-hX];rfl
 have hfr:X.env.frame=some X.env.locals:=by rw[<-hX];rfl
 have hxe:X.xe=λe s'=>wpAny (model P w) X.A (leaving X.env e) (λ_ s''=>IL nc P w X.outer X.H₀ X.s₀ E e s'') (λe' s''=>IL nc P w X.outer X.H₀ X.s₀ E e' s'') s':=by rw[<-hX];rfl
 have hex:X.ex=[]:=by rw[<-hX];rfl
 have hp:X.prog=P:=by rw[<-hX];rfl
 have hw:X.w=w:=by rw[<-hX];rfl
 subst hp hw;rw[hxe];have fr:=I.stack;have hin:∀env∈X.stack,∀b,env.frame=some b->b∈CC X.stack:=λenv he b hb=>cE.mpr ⟨env,he,hb⟩
 have fr':s1.heap.FunFrames (PySem.W.hideAll s1.heap (CC X.stack)) (X.env::X.outer):=by rw[<-hst];exact c5 fr hin
 refine qH (KT.run (Dk _ _) (wpAny_leaves_madeW (Q:=λ_ s2=>∃h2 t,s2={s1 with heap:=h2}/\Heap.FlyingW (PySem.W.hideAll s1.heap (CC X.stack)) X.outer e C (.ref t) h2/\h1.UpToSlots h2) (E:=λ_ _=>False) (base:=PySem.W.hideAll s1.heap (CC X.stack)) (h:=s1.heap) (L:=X.env.locals) (by rw[<-hst];exact I.ok.frames) hfr (λb o q=>cR _ q) fr' hx λh2 t x1 x2 x3 x4=>⟨h2,t,rfl,x1,x4⟩)) (λ_ s2 q=>?_) λ_ _ q=>q.1.elim
 obtain⟨⟨h2,t,rfl,x1,x4⟩,dk⟩:=q;have kept:∀b o,s1.heap.get? b=some o->b∉CC X.stack->h2.get? b=some o:=λb o q hb=>x1.1 b o (bU _ q hb)
 have J:AX X ad σ H1 {s1 with heap:=h2,toks:=s1.toks}:=I.slotted kept λb o q hb=>x4 b o (hx.keeps b o q) (I.frameData q hb)
 have un:Un (CC X.outer) [] X.H₀ H1 X.s₀.heap h2:=by have z:=J.base;rw[hex]at z;exact z
 have hdc:∃oe,h2.get? e=some oe/\oe.dict=none:=by obtain⟨ob,hob,_⟩:=x1.there;obtain⟨t',he,_,_⟩:=hx.there;exact⟨ob,hob,(dk.get he hob).1.trans rfl⟩
 have hcx:∃oe,h2.get? e=some oe/\DX oe=some .none:=by obtain⟨ob,hob,_⟩:=x1.there;obtain⟨t',he,_,_⟩:=hx.there;exact⟨ob,hob,(dk.get he hob).2.trans rfl⟩
 refine⟨e,C,.ref t,none,_,H1,rfl,⟨J.os,J.bare,un,J.hok,x1,λb o q hb o' q'=>?_,λb u q o' q'=>?_,hdc,λ_=>hcx⟩,hE⟩
 ·obtain⟨o1,q1⟩:=I.base.there b o q (by rw[hex];simp)
  have hn:b∉CC X.stack:=λz=>by
   rcases aw.mp (I.stkSub b z) with y|y
   ·exact qE (am (ag q) I.ok.above) (by rw[y];exact bM _)
   ·exact hb y
  have q2:=kept b o1 q1 hn;rw[q']at q2;cases q2;exact bU _ q1 hn
 ·have hn:b∉CC X.stack:=λz=>by
   have y:=I.stkFree b z;rw[q]at y;cases y
  obtain⟨o1,r⟩:=(I.hok b u q).somewhere;have q2:=kept b o1 r hn;rw[q']at q2;cases q2;exact bU _ r hn
theorem AK:Bn (IL nc P w) (Cg (IL nc P w) P w K mg base N qual scope f cd A outer s H E) (λ_=>E):=by
 intro ad σ H1 s1 e s2 I h;generalize hX:Cg (IL nc P w) P w K mg base N qual scope f cd A outer s H E=X at I h⊢;have hst:X.stack=X.env::X.outer:=by rw[<-hX];rfl
 have hfr:X.env.frame=some X.env.locals:=by rw[<-hX];rfl
 have hxe:X.xe=λe s'=>wpAny (model P w) X.A (leaving X.env e) (λ_ s''=>IL nc P w X.outer X.H₀ X.s₀ E e s'') (λe' s''=>IL nc P w X.outer X.H₀ X.s₀ E e' s'') s':=by rw[<-hX];rfl
 have hex:X.ex=[]:=by rw[<-hX];rfl
 have hp:X.prog=P:=by rw[<-hX];rfl
 have hw:X.w=w:=by rw[<-hX];rfl
 subst hp hw;rw[hxe];refine byG λGq hGq=>?_;obtain⟨a,cls,a0,D,B,H',rfl,F,hE⟩:=h;refine hGq ?_;clear hGq Gq;have fl:Heap.FlyingW B (X.env::X.outer) a cls a0 s2.heap:=by rw[<-hst];exact F.fly
 refine qH (KT.run (Dk _ _) (wpAny_leaves_onW (Q:=λ_ s3=>∃h3,s3={s2 with heap:=h3}/\Heap.FlyingW B X.outer a cls a0 h3/\s2.heap.UpToSlots h3) (E:=λ_ _=>False) (by rw[<-hst];exact I.ok.frames) hfr fl λh3 x1 x2=>⟨h3,rfl,x1,x2⟩)) (λ_ s3 q=>?_) λ_ _ q=>q.1.elim
 refine byG λGq hGq=>?_;obtain⟨⟨h3,rfl,x1,x2⟩,dk⟩:=q;refine hGq ?_;clear hGq Gq;have J:AX X ad σ H' {s2 with heap:=h3,toks:=s2.toks}:=F.land I x1.1 x2;have un:Un (CC X.outer) [] X.H₀ H' X.s₀.heap h3:=by have z:=J.base;rw[hex]at z;exact z
 have hdc:∃oe,h3.get? a=some oe/\oe.dict=D:=by obtain⟨ob,hob,_⟩:=x1.there;obtain⟨ow,hw,hwd⟩:=F.dct;exact⟨ob,hob,(dk.get hw hob).1.trans hwd⟩
 have hcx:nc=true->∃oe,h3.get? a=some oe/\DX oe=some .none:=λhnc=>by obtain⟨ob,hob,_⟩:=x1.there;obtain⟨ow,hw,hwd⟩:=F.ctx hnc;exact⟨ob,hob,(dk.get hw hob).2.trans hwd⟩
 refine⟨a,cls,a0,D,B,H',rfl,⟨J.os,J.bare,un,J.hok,x1,λb o q hb o' q'=>?_,λb u q o' q'=>?_,hdc,hcx⟩,hE⟩
 ·obtain⟨o1,q1⟩:=I.base.there b o q (by rw[hex];simp)
  have hn:b∉CC X.stack:=λz=>by
   rcases aw.mp (I.stkSub b z) with y|y
   ·exact qE (am (ag q) I.ok.above) (by rw[y];exact bM _)
   ·exact hb y
  obtain⟨o2,q2⟩:=F.un.there b o1 q1 (by simp);have q3:=F.old b o1 q1 hn o2 q2;have q4:=x1.1 b o2 q3;rw[q']at q4;cases q4;exact q3
 ·obtain⟨o2,q2⟩:=(F.hok b u q).somewhere;have q3:=F.trk b u q o2 q2;have q4:=x1.1 b o2 q3;rw[q']at q4;cases q4;exact q3
end
abbrev DC:List qL:=[.type "ValueError",.type "Exception",.type "BaseException",.type "object"]
theorem Pc{p:Prop}(h:false=true):p:=nomatch h
theorem RY{F:qM->List qL->Option qL->Option qL->Option qL->Option qL->String->Option qL->Bool}{G:Prop}:∀{m:List qL} {l:List (Option qL)},(∀C' bm k0 k1 k2 k3 n k5,m=.ref C'::bm->l=[k0,k1,k2,k3,some (.builtin n),k5]->F C' bm k0 k1 k2 k3 n k5=true->G)->PySem.W.excIn.match_1 (λ_ _=>Bool) m l F (λ_ _=>false)=true->G:=by
 intro m l hG q;rcases m with _|⟨v,bm⟩
 ·exact Pc q
 cases v
 case ref C2 =>
  rcases l with _|⟨k0,_|⟨k1,_|⟨k2,_|⟨k3,_|⟨k4,l⟩⟩⟩⟩⟩
  iterate 5 exact Pc q
  rcases k4 with _|k4
  ·exact Pc q
  cases k4
  case builtin n =>
   rcases l with _|⟨k5,_|_⟩
   ·exact Pc q
   ·exact hG _ _ _ _ _ _ _ _ rfl rfl q
   ·exact Pc q
  all_goals exact Pc q
 all_goals exact Pc q
theorem RZ{F:Option qM->ClassData->Array (Option qL)->Bool}{G:Prop}{o:Option Obj}(hG:∀dd cd sl,o=some ⟨.type "type",dd,.cls cd,sl⟩->F dd cd sl=true->G)(q:PySem.W.excIn.match_6 (λ_=>Bool) o F (λ_=>false)=true):G:=by
 rcases o with _|⟨cls,dd,data,sl⟩
 ·exact Pc q
 cases cls
 case type s =>
  by_cases hs:s="type"
  ·subst hs;cases data
   case cls cd=>exact hG _ _ _ rfl q
   all_goals exact Pc q
  ·delta PySem.W.excIn.match_6 PySem.W.nsOkIn._sparseCasesOn_4 PySem.W.excIn._sparseCasesOn_6 at q
   dsimp only at q;rw[dif_neg hs]at q;exact Pc q
 all_goals exact Pc q
theorem Mu{K:qQ}{newId:String}{bmB:List qL}(kin:K.In h)(q:PySem.W.excIn K C bmB newId=true):
  ∃tl N nm qn bs dy sn sub ab col dd k0 k1 k2 k3 k5 mN,h.get? C=some (excClassObj nm qn C N bs tl dy sn sub ab col dd k0 k1 k2 k3 k5 newId)/\h.Ns N mN/\mN "__init__"=none/\OwnTail h bmB tl:=by
 unfold PySem.W.excIn at q;refine RZ (λdd cd sl ho q=>?_) q;refine RY (λC2 tl k0 k1 k2 k3 n k5 hm hs q=>?_) q;refine byG λGq hGq=>?_;obtain⟨nm,bs,mro,N,qn,dy,sn,sub,ab,col,del⟩:=cd;refine hGq ?_;clear hGq Gq;obtain⟨l⟩:=sl;dsimp only at hm hs q;subst hm hs;simp only[Bool.and_eq_true,beq_iff_eq,Bool.not_eq_true']at q;refine byG λGq hGq=>?_;obtain⟨⟨⟨⟨⟨e1,e2⟩,e3⟩,e4⟩,e5⟩,e6⟩:=q;refine hGq ?_;clear hGq Gq;subst e1 e2 e3;exact⟨tl,N,nm,qn,bs,dy,sn,sub,ab,col,dd,k0,k1,k2,k3,k5,_,kin _ _ ho,.of_isNs (PySem.W.isNs_of_in kin e5),PySem.W.nsMap_none_of_in kin e5 e6,PySem.W.tail_of_in kin e4⟩
def Pd(C:qM)(E:XK)(t:TA):TS:=λ_ σ H=>t σ H λvs H1=>vs.length<=sizeLine/\E (.ref C) none H1
section
variable{E:XK}{e:Expr}{t:TA}{np cpos:Pos}
theorem As(hc:X.calm=true)(hC:PySem.W.excIn X.K C DC "ValueError.__new__"=true)(hg:Gl X x)(hm:X.mg x=some (.ref C))(hx:Pb X (.ref C) E)(ha:PA X (e::es) t)
  (hdb:(x==("__debug__":Str))=false:=by decide) (he:starEach (e::es) X.env=(false,eval e X.env)::starEach es X.env:=by rfl) (hpl:(backTo cpos (starEach es X.env)).any (·.1)=false:=by rfl):
  PS X (.Raise (some (.Call (.Name x np) (e::es) [] cpos)) none pos) (Pd C E t):=by
 intro ad s σ H D I h;refine byG λGq hGq=>?_;obtain⟨tl,N,nm,qn,bs,dy,sn,sub,ab,col,dd,k0,k1,k2,k3,k5,mN,hO,hN,hni,T⟩:=Mu I.mod.kin hC;refine hGq ?_;clear hGq Gq;have FB:=cD;have arg:=ha cpos ad s σ H _ I h;refine wpAny_Raise_call_subT (C:=C) (nm:=nm) (q:=qn) (N:=N) (bs:=bs) (bm:=tl) (hdct:=dy) (sn:=sn) (sub:=sub) (ab:=ab) (col:=col) (dd:=dd) (k0:=k0) (k1:=k1) (k2:=k2) (k3:=k3) (k5:=k5) FB (mN:=mN) (T.hasType FB.hasBase) (I.ok.hd hc) ?_ hni (DF I hg hm ⟨rfl,?_⟩ hdb)
 ·rw[he];show (false||(backTo cpos (starEach es X.env)).any (·.1))=false;rw[hpl];rfl
 ·rw[he]at arg⊢;refine Calls.evalArgs_plain (A8 arg λus s2 z9=>?_);obtain⟨vs,H2,I2,r,z,q⟩:=z9;exact⟨rfl,by rw[<-r.length];exact z,I2.bk _ _ hO,hN.keeps I2.bk,T.keeps I2.bk,λh2 a hq=>hx ad σ H2 s2 h2 a us I2 hq q⟩
end
def F2(sp:Sp)(dvs:List V)(E:St->XK)(t:TA):TE:=λσ H Q=>t σ H λvs H1=>sp (vs++dvs) H1 Q (E σ)
section
variable{f:qM}{sp:Sp}{dvs:List V}{ds:List qL}{E:St->XK}{p:Pos}{e:Expr}{t:TA}
theorem G9(F:DB X.prog X.w X.K X.mg X.base CX k f fd ps sp)(hr:BL k X.A)(hg:Gl X x)(hm:X.mg x=some (.ref f))(hk:PySem.W.keepIn X.K (.ref f)=true)(hb:DH X.K fd ps ds)(hd:Au dvs ds)(hx:Bn CX X E)
  (ha:PA X (e::es) t) (hdb:(x==("__debug__":Str))=false:=by decide) (he:starEach (e::es) X.env=(false,eval e X.env)::starEach es X.env:=by rfl) (hpl:(backTo pos (starEach es X.env)).any (·.1)=false:=by rfl):
  PE X (.Call (.Name x p) (e::es) [] pos) (F2 sp dvs E t):=by
 intro ad s σ H Q I h;refine wpAny_Call_Name_kw (DF I hg hm ?_ hdb);refine cw (h₀:=X.base) I.ok.mod.kin hk (A8 (ha pos ad s σ H _ I h) λus s1 ⟨vs,H1,I1,r,q⟩=>⟨I1.kIn,?_⟩) he hpl;have r2:Au (vs++dvs) (us++ds):=r.append hd;have hl:(us++ds).length=ps.length:=by rw[<-r2.length];exact F.len _ _ _ _ q
 refine wpAny_call (codeAny_mono (F.run X.A X.stack s1 H1 ⟨us,[]⟩ (us++ds) (vs++dvs) Q (E σ) hr I1.env0 (hb s1 us I1.kIn hl) r2 q) λrs s2 hq=>?_);rcases rs with er|fl
 ·exact hx ad σ H1 s1 er s2 I1 hq
 ·cases fl with
  |ret u=>exact I1.after hq
  |next=>exact False.elim hq
  |brk=>exact False.elim hq
  |cont=>exact False.elim hq
end
section
variable{P:qO}{w:qP}{K:qQ}{mg:Str->Option qL}{base:Heap}
theorem BC.okX{f:qM}{N:List Str}{sp:Sp}(F:BC K x qual st f fd)(S:AM N ps (AG st))(len:∀vs H Q E,sp vs H Q E->vs.length=ps.length)
  (hbody:∀(d9:qL) (A:Around) (outer:List Env) (s:qN) (H:Hp) (vs:List V) (Q:VK) (E:XK),BL k (A.deeper (envOfC qual (AG st) s.heap.objs.size f d9))->sp vs H Q E ->
   ∃t,FD (Cg (IL nc P w) P w K mg base N qual (AG st) f d9 A outer s H E) (BB st) t/\t {nx:=λ_ H'=>Q .non H',rt:=Q} (B1 N vs) H):DB P w K mg base (IL nc P w) (k+1) f fd ps sp:=by
 refine byG λGq hGq=>?_;obtain⟨oc,od,kV,doc,pm,an,d9,ct,osl,rfl,lk,hcd⟩:=F.ex;refine hGq ?_;clear hGq Gq;exact PR lk hcd S len λA outer s H vs Q E hr hsp=>hbody d9 A outer s H vs Q E hr hsp
end
theorem PS.nox{t:TS}(h:PS X.nox st t):PS X st t:=λad s σ H D I hw =>
 qH (h ad s σ H D (I.wish _) hw) (λ_ _ q=>q.unwish) λ_ _ q=>q.elim
abbrev Cx.but(X:Cx)(p:List (qM×Obj))(E:qL->qN->Prop):Cx:={X with pn:=p,xe:=E}
theorem Cx.Ok.but(ok:X.Ok)(p:List (qM×Obj))(E:qL->qN->Prop):(X.but p E).Ok:=
 ⟨ok.mod,ok.kind,ok.glob,ok.blt,ok.above,ok.inj,ok.has,ok.cab,ok.hd,ok.frames,ok.stk,ok.exf,ok.bs,ok.bsz,ok.noex,ok.exfs,ok.funs,ok.frf⟩
theorem Cx.Ok.unbut{p:List (qM×Obj)}(ok:(X.but p E).Ok):X.Ok:=
 ⟨ok.mod,ok.kind,ok.glob,ok.blt,ok.above,ok.inj,ok.has,ok.cab,ok.hd,ok.frames,ok.stk,ok.exf,ok.bs,ok.bsz,ok.noex,ok.exfs,ok.funs,ok.frf⟩
noncomputable def Cx.tr(X:Cx)(p:List (qM×Obj))(W:St->XK):Cx:=X.but p λe s'=>∃ad σ H s,AX (X.but p λ_ _=>False) ad σ H s/\FC X.prog X.w X.stack H s (W σ) e s'
noncomputable def Cx.hdl(X:Cx)(v:qL):Cx:={X with A:=X.A.mark (some v),calm:=false,xe:=λ_ _=>False}
variable{W:St->XK}
section
variable{pins' p:List (qM×Obj)}{E':qL->qN->Prop}
theorem AX.but(I:AX X ad σ H s)(E:qL->qN->Prop):AX (X.but (X.pn++ad) E) [] σ H s:=
 ⟨I.ok.but _ _,I.os,I.bare,I.base,I.loc,I.cell,I.free,I.freeC,λq hq=>I.pin q (by simpa using hq),I.hok,I.len⟩
theorem AX.unbut(I:AX (X.but (X.pn++ad) E) pins' σ H s):AX X ad σ H s:=
 ⟨I.ok.unbut,I.os,I.bare,I.base,I.loc,I.cell,I.free,I.freeC,λq hq=>I.pin q (dM _ hq),I.hok,I.len⟩
theorem AX.rebut(I:AX (X.but p E) ad σ H s):AX (X.but p E') ad σ H s:=
 ⟨I.ok.unbut.but _ _,I.os,I.bare,I.base,I.loc,I.cell,I.free,I.freeC,I.pin,I.hok,I.len⟩
theorem AX.hdl(I:AX X ad σ H s)(v:qL):AX (X.hdl v) ad σ H s:=
 ⟨⟨I.ok.mod,I.ok.kind,I.ok.glob,I.ok.blt,I.ok.above,I.ok.inj,I.ok.has,I.ok.cab,λz=>qE z (by show ¬(false=true);decide),I.ok.frames,I.ok.stk,I.ok.exf,I.ok.bs,I.ok.bsz,I.ok.noex,I.ok.exfs,I.ok.funs,I.ok.frf⟩,
  I.os,I.bare,I.base,I.loc,I.cell,I.free,I.freeC,I.pin,I.hok,I.len⟩
theorem AX.unhdl{v:qL}(hd:X.calm=true->X.A.handled=none)(I:AX (X.hdl v) ad σ H s):AX X ad σ H s:=
 ⟨⟨I.ok.mod,I.ok.kind,I.ok.glob,I.ok.blt,I.ok.above,I.ok.inj,I.ok.has,I.ok.cab,hd,I.ok.frames,I.ok.stk,I.ok.exf,I.ok.bs,I.ok.bsz,I.ok.noex,I.ok.exfs,I.ok.funs,I.ok.frf⟩,
  I.os,I.bare,I.base,I.loc,I.cell,I.free,I.freeC,I.pin,I.hok,I.len⟩
theorem Lq:Bn (FC X.prog X.w) (X.tr p W) W:=λad σ H s e s' I h=>⟨ad,σ,H,s,AX.rebut (X:=X) I,h⟩
theorem SP.unbut{f:Flow}(h:SP (X.but (X.pn++ad) E) pins' D f s'):SP X ad D f s':=by
 cases f with
 |next=>obtain⟨a,b,I,q⟩:=h;exact⟨a,b,I.unbut,q⟩
 |brk=>obtain⟨a,b,I,q⟩:=h;exact⟨a,b,I.unbut,q⟩
 |cont=>obtain⟨a,b,I,q⟩:=h;exact⟨a,b,I.unbut,q⟩
 |ret u=>obtain⟨v,a,b,I,q⟩:=h;exact⟨v,a,b,I.unbut,q⟩
theorem Gi{M:Model}{A:Around}{n:Str}{Q:Unit->qN->Prop}(I:AX X ad σ H s)(hN:X.N.Nodup)(hi:X.N[i]?=some n)(hl:X.env.scope.names.lookup n=some .local)
  (h:∀s',AX X ad (σ.set i none) H s'->Q () s'):wpAny M A (do bindName X.env n .none;unbindBehindTheSuite X.env n pos) Q E s:=by
 obtain⟨m,hn,lk⟩:=id I.loc;have hcls:(X.env.scope.kind==.class||(X.env.scope.kind==.module&&X.env.locals != X.env.globals))=false:=by rw[I.ok.kind];rfl
 refine wpAny_nameGoes_keeps (show X.env.kindOf n=some .local from hl) hn hcls λh' v hn' sb=>h _ ?_
 have away:∀b o,X.s₀.heap.get? b=some o->b≠X.env.locals:=λb o e=>bA (am (ag e) I.ok.above)
 have hiσ:i<σ.length:=by rw[I.len];exact (ae.mp hi).1
 refine⟨I.ok,I.os,I.bare,⟨λb o e nn hb hx=>(sb.2 b (away b o e)).trans (I.base.keep b o e nn hb hx),λb o e nn hb hx=>?_,I.base.free,λb o e hx=>?_,I.base.tups,I.base.frzs,I.base.tbls⟩,
  ⟨_,hn',λj y w e1 e2 e3=>?_⟩,λy c e=>?_,I.free,I.freeC,λq hq=>?_,λb u q=>?_,by simpa using I.len⟩
 ·obtain⟨sl,e1⟩:=I.base.slot b o e nn hb hx;exact⟨sl,(sb.2 b (away b o e)).trans e1⟩
 ·obtain⟨o',e1⟩:=I.base.there b o e hx;exact⟨o',(sb.2 b (away b o e)).trans e1⟩
 ·by_cases hj:j=i
  ·subst hj;rw[cz hiσ]at e2;cases e2
  ·rw[dN (Ne.symm hj)]at e2;obtain⟨u,r,z⟩:=lk j y w e1 e2 e3;refine⟨u,r,?_⟩;rcases z with⟨k,z⟩|⟨k,c,z,y'⟩
   ·have ny:y≠n:=λq=>hj (Gz hN e1 (q▸hi))
    exact .inl ⟨k,by simp[ny,z]⟩
   ·exact .inr ⟨k,c,z,y'.sameBut sb (I.cne y c z)⟩
 ·obtain⟨w,z⟩:=I.cell y c e;exact⟨w,z.sameBut sb (I.cne y c e)⟩
 ·obtain⟨e,nn,ne,nf,d⟩:=I.pin q hq;exact⟨(sb.2 q.1 ne).trans e,nn,ne,nf,d⟩
 ·refine (I.hok b u q).stay (λc w hc r=>(sb.2 c λz=>?_).trans r) (λ_ q=>q) λ_ _ q=>q
  have fz:=I.free;rcases hc with e|e
  ·rw[<-z,e,q]at fz;cases fz
  ·rw[<-z,e]at fz;cases fz
end
def WZ(K:qQ)(R:qL)(i:Nat)(W:St->XK)(tb th:TS):TS:=λD σ H=>tb D σ H/\∀σ' cls D' H',W σ' cls D' H'->PySem.W.exmOne K cls R=some true/\∀a,H' a=none ->
 th {nx:=λσ2 H2=>D.nx (σ2.set i none) H2,rt:=D.rt,bk:=λσ2 H2=>D.bk (σ2.set i none) H2,ct:=λσ2 H2=>D.ct (σ2.set i none) H2} (σ'.set i (some (.ref a))) (Ai H' a (IM a cls D' false))
section
variable{n:Str}{R:qM}{b:List Stmt}{c0:Stmt}{suite:List Stmt}{tb th:TS}{np hpos:Pos}
theorem UJ(hN:X.N.Nodup)(hi:X.N[i]?=some n)(hl:X.env.scope.names.lookup n=some .local)(hg:Gl X x)(hm:X.mg x=some (.ref R))(hst:X.stack=X.env::X.outer)(hfr:X.env.frame=some X.env.locals)
  (hb:∀p,FD (X.tr p W) b tb) (hs:∀v,FD (X.hdl v) (c0::suite) th) (hd:(x==("__debug__":Str))=false:=by decide):
  PS X (.Try b [.ExceptHandler (some (.Name x np)) (some n) (c0::suite) hpos] [] [] pos) (WZ X.K (.ref R) i W tb th):=by
 intro ad s σ H D I h;obtain⟨h1,h2⟩:=h;refine wpAny_Try_except (qH (hb (X.pn++ad) [] s σ H D (I.but _) h1) (λf s1 q=>?_) λe s1 q=>?_)
 ·have q':SP X ad D f s1:=SP.unbut (pins':=[]) q;cases f with
  |next=>exact wpAny_execs_nil q'
  |ret u=>exact q'
  |brk=>exact q'
  |cont=>exact q'
 ·obtain⟨pins0,σ0,H0,s0,I0,a,cls,a0,D',B,H',rfl,F,hW⟩:=q;have J0:AX X ad σ0 H0 s0:=I0.unbut;obtain⟨hx,hth⟩:=h2 σ0 cls D' H' hW;have fl:Heap.FlyingW B (X.env::X.outer) a cls a0 s1.heap:=by rw[<-hst];exact F.fly
  refine qH (KT.run (Je _ _) (wpAny_looks_onW (Q:=λ_ s4=>∃h4,s4={s1 with heap:=h4}/\Heap.HeldW B (X.env::X.outer) a cls a0 X.env.locals h4/\s1.heap.UpToSlots h4) (E:=λ_ _=>False) (by rw[<-hst];exact J0.ok.frames) hfr fl λh4 held4 sm4=>⟨h4,rfl,held4,sm4⟩)) (λ_ s4 q=>?_) λ_ _ q=>q.1.elim
  obtain⟨⟨h4,rfl,held4,sm4⟩,dk4⟩:=q;refine qH (KT.run (B4 _ _) (wpAny_landsW (Q:=λ_ s5=>∃h5,s5={s1 with heap:=h5}/\Heap.FlyingW B (X.env::X.outer) a cls a0 h5/\h4.UpToSlots h5) (E:=λ_ _=>False) (s:={s1 with heap:=h4}) held4 λh5 fl5 sm5=>⟨h5,rfl,fl5,sm5⟩)) (λ_ s5 q=>?_) λ_ _ q=>q.1.elim
  obtain⟨⟨h5,rfl,fl5,sm5⟩,dk5⟩:=q;have J5:AX X ad σ0 H' {s1 with heap:=h5,toks:=s1.toks}:=F.land J0 fl5.1 (sm4.trans sm5);have K5:=J5.hdl (.ref a);refine wpAny_handleBy_cons (codeAny_handlers_test (DF K5 hg hm ?_ hd)) (by intro q;cases q);obtain⟨ob,hob,hobc⟩:=fl5.there
  have LT:PySem.W.Looks (model X.prog X.w) h5 (typeOf (.ref a)) cls:=by subst hobc;exact (PySem.W.Looks.ld hob).andThen .now
  refine (PySem.W.exm_one J5.kIn LT hx).here ?_;show codeAny _ _ _ _ _;refine codeAny_handlers_suite_as ?_;refine qH (KT.run (B4 _ _) (lands_againW (Q:=λ_ s6=>∃h6,s6={s1 with heap:=h6}/\Heap.FlyingW B (X.env::X.outer) a cls a0 h6/\h5.UpToSlots h6) (E:=λ_ _=>False) (s:={s1 with heap:=h5}) fl5 λh6 fl6 sm6=>⟨h6,rfl,fl6,sm6⟩)) (λ_ s6 q=>?_) λ_ _ q=>q.1.elim
  obtain⟨⟨h6,rfl,fl6,sm6⟩,dk6⟩:=q;have J6:AX X ad σ0 (Ai H' a (IM a cls D' false)) {s1 with heap:=h6,toks:=s1.toks}:=F.land' J0 fl6 ((sm4.trans sm5).trans sm6) ((dk4.trans dk5).trans dk6);refine G0 J6 hN hi (.inl hl) (v:=.ref a) rfl (λs7 I7=>?_) (.inr hl);have run:=hs (.ref a) ad s7 _ _ _ (I7.hdl (.ref a)) (hth a F.fresh.1);refine qH run (λf s8 q8=>?_) λ_ _ z=>z.elim
  cases f with
  |next =>
   obtain⟨σ8,H8,I8,q8⟩:=q8;exact Gi (I8.unhdl J0.ok.hd) hN hi hl λs9 I9=>⟨_,_,I9,q8⟩
  |brk =>
   obtain⟨σ8,H8,I8,q8⟩:=q8;exact Gi (I8.unhdl J0.ok.hd) hN hi hl λs9 I9=>⟨_,_,I9,q8⟩
  |cont =>
   obtain⟨σ8,H8,I8,q8⟩:=q8;exact Gi (I8.unhdl J0.ok.hd) hN hi hl λs9 I9=>⟨_,_,I9,q8⟩
  |ret u =>
   obtain⟨v8,σ8,H8,I8,r8,q8⟩:=q8;exact Gi (I8.unhdl J0.ok.hd) hN hi hl λs9 I9=>⟨v8,_,_,I9,r8,q8⟩
end
structure Ed(K:qQ)(D:qM):Prop where
 ci:(PySem.W.clsIn K D).isSome=true
 ga:PySem.W.findIn K (.ref D) "__getattribute__"=some (some (.builtin "BaseException.__getattribute__"))
 gn:PySem.W.findIn K (.ref D) "__getattr__"=some none
 ca:PySem.W.findIn K (.ref D) "__class__"=some (some (.builtin "object.__class__"))
 sg:PySem.W.specialIn K (.builtin "object.__class__") "__get__"=some (some (.builtin "getset_descriptor.__get__"))
 tk:PySem.W.takesIn K (.builtin "object.__class__")=some true
 mo:PySem.W.mroIn K D (.type "object")=some true
 mb:PySem.W.mroIn K D (.type "BaseException")=some true
section
variable{K:qQ}{D:qM}{dy:Option qM}{n:Bool}
theorem Pe(h:(PySem.W.clsIn K D).isSome=true):∃c d cd sl,K.lookup D=some ⟨c,d,.cls cd,sl⟩:=by
 delta PySem.W.clsIn at h
 cases e:K.lookup D with
 |none=>rw[e]at h;exact qE h ap
 |some o =>
  rw[e]at h;obtain⟨c,d,dt,sl⟩:=o;cases dt with
  |cls cd=>exact⟨c,d,cd,sl,rfl⟩
  |_=>exact qE h ap
theorem Ed.isCls(c:Ed K D){M:Model}(kin:K.In h):PySem.W.Looks M h (isType (.ref D)) true:=by obtain⟨_,_,_,_,ho⟩:=Pe c.ci;intro A Q E s k q;unfold isType loadHead;exact qA (wpAny_loadPart (k _ _ (kin _ _ ho)) (qB q))
theorem EB.ty{M:Model}(x:EB a cls dy n h):PySem.W.Looks M h (typeOf (.ref a)) cls:=by refine byG λGq hGq=>?_;obtain⟨o,vs,e,c,_⟩:=x;refine hGq ?_;clear hGq Gq;subst c;exact (PySem.W.Looks.ld e).andThen .now
theorem Lr{M:Model}{x:qL}{g:qL}(kin:K.In h)(h1:PySem.W.findIn K (.ref D) name=some (some u))(h2:PySem.W.specialIn K u "__get__"=some (some g))(h3:PySem.W.takesIn K u=some true):
  PySem.W.Looks M h (Builtin.ObjectAttr.find x (.ref D) name) (.bind g u):=by
 have a1:=cJ (M:=M) kin h1;have a2:PySem.W.Looks M h (Builtin.ObjectAttr.getOf (some u)) (some g):=PySem.W.looks_specialIn kin h2;have a3:PySem.W.Looks M h (Builtin.ObjectAttr.dataDescriptor? (some u) (some g)) (some (g,u)):=(PySem.W.looks_takesIn (M:=M) kin h3).andThen .now;exact a1.andThen (a2.andThen (a3.andThen (PySem.W.Looks.tag .now)))
theorem Ra{prog:qO}{w:qP}{A:Around}{R:Result->qN->Prop}{tp:qL}(c:Ed K D)(kin:K.In s.heap)(x:EB a (.ref D) dy n s.heap)(q:R (.ok (.ret (.ref D))) s):
  codeAny (model prog w) A (.call (.builtin "getset_descriptor.__get__") ⟨[.builtin "object.__class__",.ref a,tp],[]⟩) R s:=by
 obtain⟨hp,g,d,t,os⟩:=s;have a1:=x.ty (M:=model prog w);have a2:=PySem.W.looks_mroIn (M:=model prog w) kin c.mo;refine codeAny_call_builtin PySem.W.KF.slot_gs.plain PySem.W.KF.entry_gs (PySem.W.KF.slot_gs.check _ _ _ _ _ _ _ _ PySem.W.KF.type_class (PySem.W.KF.args_gs _ _ _) ?_)
 (unfold Builtin.«getset_descriptor.__get__» Builtin.Getset_descriptor.descrGet;rw[PySem.W.dga_obj];refine qA (qB ?_))
 (unfold Builtin.Getset_descriptor.descrGetter Builtin.Getset_descriptor.descrCheckInstance Builtin.Getset_descriptor.descrNameAndClass isInstance;simp only[PySem.W.KF.owner_class])
 repeat lk
 refine⟨Code.quiet_builtin _ (by decide +kernel),codeAny_builtin PySem.W.KF.entry_class ?_⟩
 (unfold Builtin.«object.__class__» shownTypeOf;repeat lk)
 exact q
theorem OC{prog:qO}{w:qP}{A:Around}{Q:Option qL->qN->Prop}(c:Ed K D)(kin:K.In s.heap)(x:EB a (.ref D) dy n s.heap)
  (q:Q (some (.ref D)) {s with toks:=s.toks+1}):wpAny (model prog w) A (getAttr? (.ref a) "__class__") Q E s:=by
 refine byG λGq hGq=>?_;obtain⟨hp,g,d,t,os⟩:=s;refine hGq ?_;clear hGq Gq;have LT:=x.ty (M:=model prog w);have L1:=cJ (M:=model prog w) kin c.ga;have L2:=cJ (M:=model prog w) kin c.gn;have L3:=Lr (M:=model prog w) (x:=.ref a) kin c.ca c.sg c.tk;have L4:PySem.W.Looks (model prog w) hp (isInstance (.ref a) (.type "BaseException")) true:=LT.andThen (PySem.W.looks_mroIn kin c.mb);have FA:=PySem.F.excAttr_ValueError;unfold getAttr? getAttrBy? getAttrBy;refine qA (wpAny_mkText (qA (wpAny_attempt (qJ (qA (LT.at (qA (L1.at ?_))))))));show wpAny _ _ (getAttrByItsOwn _ _ _ _ _ _) _ _ _;unfold getAttrByItsOwn;refine qA (show wpAny _ _ (typeLookup (.ref D) "__getattr__") _ _ _ from L2.at ?_);refine qA (wpAny_attempt (qJ ?_));show wpAny _ _ (boundAndCalled _ _ _) _ _ _;unfold boundAndCalled;refine qA (wpAny_of_eq (FA.ga.bind _) ?_);refine wpAny_call (codeAny_call_builtin FA.ga.plain PySem.F.entry_bexc_ga ?_);have hk:builtinKind "BaseException.__getattribute__"=some .slot:=by decide +kernel
 have hsp:splitId "BaseException.__getattribute__"=some ("BaseException","__getattribute__"):=by decide +kernel
 have ha:=PySem.F.args_bexc_ga (.ref a) (.str "__class__" t);show wpAny _ _ (checkBuiltinCall "BaseException.__getattribute__" ⟨[.ref a,.str "__class__" t],[]⟩) _ _ _;simp only[checkBuiltinCall,hk,hsp];refine qA (L4.at ?_)
 repeat (any_goals (first|assumption|wp_step))
 refine byG λGq hGq=>?_;obtain⟨o,vs,eo,co,vo⟩:=id x;refine hGq ?_;clear hGq Gq;refine wpAny_loadPart eo ?_;refine qB ?_;rw[co];refine qA (L3.at ?_);show wpAny _ _ (call (.builtin "getset_descriptor.__get__") [.builtin "object.__class__",.ref a,.ref D] >>= λv=>ret v) _ _ _;refine qA (wpAny_call (Ra c kin ⟨o,vs,eo,co,vo⟩ ?_));refine qB ?_;show wpAny _ _ (handedOut (.ref D)) _ _ _;exact qB (qB q)
theorem Kg(c:Ed K D):PySem.W.KitX K (.ref a) (.ref D) (EB a (.ref D) dy n) where
 ty:=λ_ _ _ x=>x.ty
 it:=λ_ _ kin _=>c.isCls kin
 ne:=λh tp dd its n sl kin htp=>by refine Bool.eq_false_iff.mpr λq=>?_;have e:D=tp:=Value.ref.inj (beq_iff_eq.mp q);subst e;obtain⟨_,_,_,_,ho⟩:=Pe c.ci;have y:=(kin _ _ ho).symm.trans htp;cases y
 ca:=λkin x q=>OC c kin x q
end
inductive WG(K:qQ)(H:Hp):V->qL->Prop where
 |of {x:V} {t:qL} (h:F0 K H x t):WG K H x t
 |exc {a D:qM} {dy:Option qM} {n:Bool} (e:H a=some (IM a (.ref D) dy n)) (c:Ed K D):WG K H (.ref a) (.ref D)
noncomputable def Pf:V->Option qL
 |.ty n=>some (.type n)
 |.ref a=>some (.ref a)
 |_=>none
noncomputable def UK(K:qQ):List V->Hp->VK->Prop
 |[x,c],H,Q=>∃t u b,WG K H x t/\Pf c=some u/\PySem.W.kitOne K t u=some b/\Q (.bl b) H
 |_,_,_=>False
theorem Pg:CH X (.builtin "isinstance") (UK X.K):=by
 intro ad s σ H xs us Q I rv h;rcases xs with _|⟨x,_|⟨c,_|⟨_,_⟩⟩⟩
 ·exact h.elim
 ·exact h.elim
 rotate_left
 ·exact h.elim
 refine byG λGq hGq=>?_;obtain⟨t,u,b,ty,rc,k,q⟩:=h;refine hGq ?_;clear hGq Gq;refine byG λGq hGq=>?_;obtain⟨v1,v2,rfl,r1,r2⟩:=Mq rv;refine hGq ?_;clear hGq Gq
 have e:v2=u:=by
  cases c with
  |ty n=>cases rc;exact r2
  |ref a=>cases rc;exact r2
  |_=>cases rc
 subst e;cases ty with
 |of ty=>exact N7 I r1 ty k λtk=>⟨.bl b,H,I.tok tk,rfl,q⟩
 | @exc a D dy n e ck =>
  cases (show v1=Value.ref a from r1);obtain⟨x,_,_⟩:=(show An X.prog X.w H s.heap a (.ext (EB a (.ref D) _ _)) from I.hok a _ e);exact bW (Kg ck) I.kIn x k (λz=>nomatch z) λtk=>⟨.bl b,H,I.tok tk,rfl,q⟩
variable{I:qM}{items:Array qL}
section
variable{prog:qO}{w:qP}{A:Around}
theorem OD:typeLookup (.type "list_reverseiterator") "__len__"=pure none:=by rw[typeLookup_type,builtinLookup_eq_fast];kernel_rfl
theorem Ph:typeLookup (.type "list_reverseiterator") "__length_hint__"=pure (some (.builtin "list_reverseiterator.__length_hint__")):=by rw[typeLookup_type,builtinLookup_eq_fast];kernel_rfl
theorem Pi{Q:Bool->qN->Prop}(hT:s.TypeIs (.ref I) "list_reverseiterator")(q:Q false s):wpAny (model prog w) A (Builtin.List.listLengthHint (.ref I)) Q E s:=by
 unfold Builtin.List.listLengthHint;refine qA (wpAny_specialOf hT OD ?_);show wpAny _ A (specialOf (Value.ref I) (Str.ofString "__length_hint__") >>= _) _ _ _;refine qA (wpAny_specialOf hT Ph ?_);generalize hz:("list_reverseiterator.__length_hint__":String)=zz
 wp_delta
 rw[show splitId zz=some ("list_reverseiterator","__length_hint__") from by subst hz;decide +kernel];subst hz;refine qA (wpAny_isInstance (b:=true) hT (by rw[isSubtype_type];kernel_rfl) ?_);exact qB q
theorem Kh{Q:qL->qN->Prop}(hh:A.handled=none)(hIl:l≠I)(hit:s.heap.IsRevIter I l ((items.size:Int)-1))(hl:s.heap.IsList l items)(hz:items.size<=sizeLine)
  (hQ:∀h' tk c' d8,(∀b o,b≠I->s.heap.get? b=some o->h'.get? b=some o)->h'.get? s.heap.objs.size=some {cls:=.type "list",dict:=none,data:=.seq d8 c',slots:=#[]} ->
   d8.toList=items.toList.reverse->Q (.ref s.heap.objs.size) {s with heap:=h',toks:=tk}):wpAny (model prog w) A (call (.type "list") [.ref I]) Q E s:=by
 have W:=(Walks.listRev (prog:=prog) (w:=w) (A:=A.in1.in1) hh I l hIl items).toS;have hIlt:I<s.heap.objs.size:=by obtain⟨o,e,_⟩:=hit;exact ag e
 have hllt:l<s.heap.objs.size:=by obtain⟨o,e,_⟩:=hl;exact ag e
 refine callType_codes (Q₁:=λobj s₁=>obj=.ref s.heap.objs.size/\s₁={s with heap:=s.heap.push {cls:=.type "list",data:=.seq #[]}}) PySem.F.called_list (PySem.F.typeCall_list_1 _) PySem.F.entry_list_init
  (code_list_new _ ⟨rfl,rfl⟩) λobj s₁ h₁=>?_
 obtain⟨rfl,rfl⟩:=h₁;have hS:(s.heap.push {cls:=.type "list",data:=.seq #[]}).get? s.heap.objs.size=some {cls:=.type "list",data:=.seq #[]}:=aj _ rfl;refine⟨⟨_,hS,rfl⟩,PySem.F.args_list_init_2 _ _,?_⟩;show wpAny _ _ (do let old <-Builtin.List.listItems (.ref s.heap.objs.size);Builtin.List.listUpdate (.ref s.heap.objs.size) (λ_=>#[]);letGo old.toList.reverse;Builtin.List.listExtendWith (.ref s.heap.objs.size) (.ref I) .none) _ _ _;refine qA ?_;unfold Builtin.List.listItems;refine qA (wpAny_seqItems hS rfl (qB ?_));show wpAny _ _ (updateSeq s.heap.objs.size (λ_=>#[]) >>= λ_=>letGo (#[]:Array qL).toList.reverse >>= λ_=>Builtin.List.listExtendWith (.ref s.heap.objs.size) (.ref I) .none) _ _ _;refine qA (wpAny_updateSeq hS rfl ?_);have hS2:=bG (Obj.mapSeq (λ_=>(#[]:Array qL))) hS rfl
 have kp:∀b o,s.heap.get? b=some o->((s.heap.push {cls:=.type "list",data:=.seq #[]}).update s.heap.objs.size (Obj.mapSeq (λ_=>(#[]:Array qL)))).get? b=some o:=
  λb o e=>(ba _ _ (bo (ag e))).trans (aZ _ e)
 refine qA (wpAny_letGo ?_);have hit2:=hit.at λo e=>kp I o e
 have hl2:=hl.at λo e=>kp l o e
 unfold Builtin.List.listExtendWith;refine qA (wpAny_typeOf (T:="list_reverseiterator") hit2.typeIs ?_);have h1:Builtin.List.listSameRef (.ref s.heap.objs.size) (.ref I)=false:=by simp[Builtin.List.listSameRef,Nat.ne_of_gt hIlt]
 rw[qC (by rw[h1];decide)];refine qA (wpAny_pyIter_revIter hit2 ?_);refine qA (qJ (Pi hit2.typeIs ?_));rw[qC (by decide)]
 have nf:s.heap.objs.size∉[I,l]:=by simp only[List.mem_cons,List.not_mem_nil,or_false,not_or];exact⟨bo hIlt,bo hllt⟩
 refine qB ⟨plainId_quiet PySem.F.plain_extend_loop _,codeAny_extend_loopS W hz _ nf _ items.size 0 _ _ _ rfl (Nat.zero_le _) ⟨Nat.zero_le _,by simpa using hit2,hl2⟩ hS2 (ItemsOf.nil _) λs' d8 c' hm hS' hacc=>?_⟩;refine⟨rfl,?_⟩;rw[Moved.eq_with hm];refine hQ s'.heap s'.toks c' d8 (λb o hb e=>hm.heap b o (λz=>?_) (kp b o e)) hS' ?_
 ·rcases aw.mp z with z|z
  ·exact qE (ag e) (by rw[z];exact bM _)
  ·exact hb (ak.mp z)
 ·apply List.ext_getElem?;intro i
  by_cases hi:i<items.size
  ·have hi2:i<d8.size:=by rw[hacc.1];exact hi
   have p:=hacc.2 i d8[i] (bt hi2);rw[List.getElem?_reverse (by simpa using hi),Array.getElem?_toList,Array.getElem?_eq_getElem hi2,Array.getElem?_toList,Array.length_toList];exact p.symm
  ·rw[cF (by rw[ai,hacc.1];lia),cF (by rw[cr,ai];lia)]
end
def S2(K:qQ)(ta:TA):TE:=λσ H Q=>ta σ H λvs H1=>∃a xs,vs=[.ref a]/\Ag K H1 a xs/\∀p,H1 p=none->Q (.ref p) (Ai H1 p (.lst xs.reverse))
theorem Mv{l:Expr}{p1 p2 pos1 pos2:Pos}(hc:X.calm=true)(hg:Gl X "reversed")(hm:X.mg "reversed"=none)(hg2:Gl X "list")(hm2:X.mg "list"=none)(ha:PA X [l] ta)(hs:starEach [l] X.env=[(false,eval l X.env)]:=by rfl)
  (hs2:starEach [.Call (.Name "reversed" p1) [l] [] pos1] X.env=[(false,eval (.Call (.Name "reversed" p1) [l] [] pos1) X.env)]:=by rfl):
  PE X (.Call (.Name "list" p2) [.Call (.Name "reversed" p1) [l] [] pos1] [] pos2) (S2 X.K ta):=by
 intro ad s σ H Q I h;refine Call_ (Cq I hg2 hm2 PyProof.Rows.boot_list (bK (T:="list") ?_ hs2 rfl));rw[hs2];show wpAny _ _ (spliced ((false,eval (.Call (.Name "reversed" p1) [l] [] pos1) X.env)::[])) _ _ s;refine Calls.spliced_cons (Call_ (Cq I hg hm boot_reversed (bK (A8 (ha pos1 ad s σ H _ I h) λus s1 z9=>?_) hs rfl)));obtain⟨vs,H1,I1,r1,q1⟩:=z9;refine byG λGq hGq=>?_;obtain⟨a,xs,e,hq,q⟩:=q1;refine hGq ?_;clear hGq Gq;subst e;cases r1 with
 |cons r rr =>
  cases rr;cases r;refine byG λGq hGq=>?_;obtain⟨its,rv,pl,hz⟩:=I1.list hq;refine hGq ?_;clear hGq Gq;have hlen:=rv.length;refine call_reversed_list pl.isList ?_;refine Calls.spliced_nil ?_;have ne:a≠s1.heap.objs.size:=by obtain⟨o,e,_⟩:=pl.isList;exact bA (ag e)
  have hL:(s1.heap.push (revObj a ((its.toArray.size:Int)-1))).IsList a its.toArray:=pl.isList.at λo e=>aZ _ e
  refine Kh (s:={s1 with heap:=s1.heap.push (revObj a ((its.toArray.size:Int)-1))}) (I.ok.hd hc) ne ⟨_,aj _ rfl,rfl,rfl⟩ hL (by rw[bS,<-hlen];exact hz) λh' tk c' d8 kp hD hacc=>?_;have kp2:∀b o,s1.heap.get? b=some o->h'.get? b=some o:=λb o e=>kp b o (bA (ag e)) (aZ _ e)
  have hf:H1 (s1.heap.push (revObj a ((its.toArray.size:Int)-1))).objs.size=none:=I1.hok.fresh (by rw[bf];lia);have rv2:Au xs.reverse d8.toList:=by rw[hacc];simpa using rv.reverse
  refine⟨.ref _,_,I1.laid (t':=tk) kp2 (by rw[bf];lia) ?_,rfl,q _ hf⟩;exact⟨by rw[List.length_reverse];exact hz,d8.toList,c',rv2,by simpa using hD⟩
theorem Pj{P:qO}{w:qP}{K:qQ}{mg:Str->Option qL}{base:Heap}{N:List Str}{f:qM}{cd:qL}{A:Around}{outer:List Env}{E:XK}:(Cg CX P w K mg base N qual scope f cd A outer s H E).K=K:=rfl
theorem Zh{p:List (qM×Obj)}:(X.tr p W).K=X.K:=rfl
theorem S3{v:qL}:(X.hdl v).K=X.K:=rfl
theorem HB{P:qO}{w:qP}:Bn (FC P w) X (λ_=>E0):=λ_ _ _ _ _ _ _ h=>by obtain⟨_,_,_,_,_,_,_,_,h⟩:=h;exact h.elim
theorem AJ.new{p:qM}(h:H p=none)(o:HO):AJ H (Ai H p o):=λb u q=>by rw[AR (A3 q h)];exact q
theorem CQ{p q:qM}(h:Ai H p o q=none):q≠p/\H q=none:=by
 have ne:q≠p:=λz=>by rw[z,AF]at h;cases h
 rw[AR ne]at h;exact⟨ne,h⟩
theorem Wa{n:Nat}(h:n<=1000):n<=sizeLine:=cM (Ap h)
section
variable{p:Pos}{a c:Expr}{ta tc:TE}
theorem HC{n:String}(hg:Gl X x)(hm:X.mg x=none)(hv:bootBuiltins x=some (.type n))(hn:x≠"__name__":=by decide)(hd:(x==("__debug__":Str))=false:=by decide):PE X (.Name x pos) (tC (.ty n)):=
 RK (v:=.ty n) hg hm hv rfl hn hd
theorem Ct(hg:Gl X x)(hm:X.mg x=some (.ref C))(hd:(x==("__debug__":Str))=false:=by decide):PE X (.Name x pos) (tC (.ref C)):=JP (v:=.ref C) hg hm rfl hd
theorem Pk{i:Int}{t:Tok}(hg:Gl X x)(hm:X.mg x=some (.int i t))(hd:(x==("__debug__":Str))=false:=by decide):PE X (.Name x pos) (tC (.int i)):=JP (v:=.int i) hg hm ⟨t,rfl⟩ hd
theorem Cb(hg:Gl X "isinstance")(hm:X.mg "isinstance"=none)(ha:PE X a ta)(hc:PE X c tc)(h1:starEach [a,c] X.env=(false,eval a X.env)::starEach [c] X.env:=by rfl)(h2:starEach [c] X.env=(false,eval c X.env)::starEach [] X.env:=by rfl)
  (h3:(backTo pos (starEach [c] X.env)).any (·.1)=false:=by rfl):PE X (.Call (.Name "isinstance" p) [a,c] [] pos) (WW (UK X.K) (D9 ta (D9 tc G6))):=
 Aj Pg hg hm PyProof.Rows.boot_isinstance (AA ha (AA hc AB h2) h1) (by decide) (by decide) h1 h3
end
theorem aN{t u:TS}(Z:St->Hp->Prop)(h1:∀N:St->Hp->Prop,(∀σ' H',Z σ' H'->N σ' H')->t {D with nx:=N} σ H)(h2:∀σ' H',Z σ' H'->u D σ' H'):Lf t u D σ H:=h1 (u D) h2
noncomputable def UL(ns:qR)(lo hi:Option Int):qR:=(ns.drop (HT.JS ns.length 0 lo)).take (HT.JS ns.length ns.length hi-HT.JS ns.length 0 lo)
theorem Ki(ns:qR)(lo hi:Option Int):JT (ns.map V.int) lo hi=(UL ns lo hi).map V.int:=by unfold JT UL;rw[aW,List.map_take,List.map_drop]
def AU(K:qQ)(x:Str)(st:Stmt)(f:qM):Prop:=(∃fd,BC K x x st f fd)/\PySem.W.nsIn K mainGlobals x=some (some (.ref f))
theorem AV{K:qQ}{f:qM}{kV ct:qL}(a:PySem.W.nsIn K mainGlobals x=some (some (.ref f)))
  (l:K.lookup f=some ⟨oc,od,.func (PySem.W.fnOf x x (B3 st) (BB st) (AG st) .none kV doc pm an d9 ct),osl⟩) (c:PySem.W.codeIn K d9 x=true) (k:PySem.W.keepIn K (.ref f)=true):AU K x st f:=
 ⟨⟨_,Jb l c k⟩,a⟩
section
variable{prog:qO}{w:qP}{A:Around}{K:qQ}{hp:Heap}{gs:Array GenState}{dr:Drawn}{tk:Nat}{oz:OsState}
variable{nm qn:Str}{c N:qM}{bs tl bmB:List qL}{dy:Bool}{sn:List Str}{sub:List qL}{ab:Bool}{col:Option Bool}{dd:Option qM}{k0 k1 k2 k3 k5:Option qL}{B nid iid:String}
theorem Rb(F:ExcBaseFacts B nid iid bmB)(T:OwnTail hp bmB tl){mN:Str->Option qL}{f:qM}{Q:Fin->qN->Prop}(kin:K.In hp)
  (hC:hp.get? c=some (excClassObj nm qn c N bs tl dy sn sub ab col dd k0 k1 k2 k3 k5 nid)) (hN:hp.Ns N mN) (hi:mN "__init__"=some (.ref f)) (hf:PySem.W.typeIn K (.ref f)=some (.type "function"))
  (k:∀hp' e,hp.objs.size<=e->Heap.MadeExcOf hp hp' e (.ref c) us->wpAny (model prog w) A (call (.ref f) (.ref e::us)) (λr s'=>r=.none/\Q (.done (.ret (.ref e))) s') E ⟨hp',gs,dr,tk,oz⟩) (hl:us.length<=sizeLine):
  wpAny (model prog w) A (Builtin.«type.__call__» ⟨.ref c::us,[]⟩) Q E ⟨hp,gs,dr,tk,oz⟩:=by
 repeat (first|with_reducible refine wpAny_madeBy_exc hC ?_|with_reducible refine wpAny_loadPart_at hC ?_|wp_step)
 refine codeAny_call_builtin_code (Code.quiet_builtin _ F.quiet) (wpAny_check_new_subU F F.hasB T hC (codeAny_exc_new_subU F F.hasB F T hC ?_ hl));show wpAny _ _ _ _ _ _;generalize e1:hp.push {cls:=.type "tuple",data:=.seq us.toArray}=hp1;have s1:hp1.objs.size=hp.objs.size+1:=by rw[<-e1,bf]
 have u1:∀b o,hp.get? b=some o->hp1.get? b=some o:=λb o z=>by rw[<-e1];exact aZ _ z
 have t1:hp1.get? hp.objs.size=some {cls:=.type "tuple",data:=.seq us.toArray}:=by rw[<-e1];exact aj hp rfl
 generalize e2:hp1.push {cls:=.ref c,data:=.fields #[.ref hp.objs.size,.none,.none,.none,.bool false,.none]}=hp2;have u2:∀b o,hp1.get? b=some o->hp2.get? b=some o:=λb o z=>by rw[<-e2];exact aZ _ z
 have x2:hp2.get? (hp.objs.size+1)=some {cls:=.ref c,data:=.fields #[.ref hp.objs.size,.none,.none,.none,.bool false,.none]}:=by rw[<-e2,<-s1];exact aj hp1 rfl
 have u3:∀b o,hp.get? b=some o->hp2.get? b=some o:=λb o z=>u2 b o (u1 b o z)
 have C2:=u3 _ _ hC;have N2:hp2.Ns N mN:=hN.keeps u3;have T2:=T.keeps u3;have kin2:K.In hp2:=λb o z=>u3 b o (kin b o z)
 have cc:(Value.ref c::tl).contains (.ref c)=true:=by simp
 unfold isInstance
 repeat (first|with_reducible refine wpAny_loadPart_at x2 ?_|(with_reducible refine wpAny_isSubtype_exc C2 ?_;rw[cc])|wp_step)
 show wpAny _ _ (typeLookup (.ref c) _) _ _ _;refine wpAny_typeLookup_tail C2 N2 T2 F.mroIs F.init.lookup ?_;rw[hi];refine qJ (qA ((PySem.W.bind_fn kin2 _ hf).at ?_));have made:Heap.MadeExcOf hp hp2 (hp.objs.size+1) (.ref c) us:=⟨u3,ce (b8 _),hp.objs.size,x2,ce (af _),u2 _ _ t1⟩;refine qA (qH (k hp2 _ (b8 _) made) (λr s' hr=>?_) λ_ _ z=>z);obtain⟨er,hQ⟩:=hr;subst er
 wp_walk
 exact hQ
theorem Rc(F:ExcBaseFacts B nid iid bmB)(T:OwnTail hp bmB tl){mN:Str->Option qL}{f:qM}(kin:K.In hp)
  (hC:hp.get? c=some (excClassObj nm qn c N bs tl dy sn sub ab col dd k0 k1 k2 k3 k5 nid)) (hN:hp.Ns N mN) (hi:mN "__init__"=some (.ref f)) (hf:PySem.W.typeIn K (.ref f)=some (.type "function"))
  (k:∀hp' e,hp.objs.size<=e->Heap.MadeExcOf hp hp' e (.ref c) us->wpAny (model prog w) (A.under (.builtin "type.__call__" ⟨.ref c::us,[]⟩)) (call (.ref f) (.ref e::us)) (λr s'=>r=.none/\Q (.ref e) s') E ⟨hp',gs,dr,tk,oz⟩) (hl:us.length<=sizeLine):
  wpAny (model prog w) A (call (.ref c) us) Q E ⟨hp,gs,dr,tk,oz⟩:=by
 have z1:=tc_lookup;have z2:=tc_bind (.ref c);have z3:(⟨hp,gs,dr,tk,oz⟩:qN).TypeIs (.ref c) "type":=⟨_,hC,rfl⟩;refine wpAny_call (codeAny_of_tree ?_);show wpAny _ _ (callAny (.ref c) _) _ _ _
 repeat (any_goals (first|assumption|with_reducible refine wpAny_loadPart_at hC ?_|wp_step))
 refine⟨rfl,codeAny_call_builtin_at (Code.quiet_builtin _ (by decide +kernel)) entry_typeCall (wpAny_check_type_call_sub hC (Rb F T kin hC hN hi hf (λhp' e z m=>?_) hl))⟩;exact k hp' e z m
end
noncomputable def Wb(K:qQ)(C R:qM):Bool:=(PySem.W.clsIn K C).any λcd=>cd.mro==Value.ref C::Value.ref R::DC
structure XA(K:qQ)(C R:qM)(f:Str):Prop where
 sa:PySem.W.findIn K (.ref C) "__setattr__"=some (some (.builtin "object.__setattr__"))
 hd:PySem.W.hasDictIn K C=true
 mr:Wb K C R=true
 no:PySem.W.findIn K (.ref C) f=some none
 ek:Ed K C
section
variable{prog:qO}{w:qP}{A:Around}{K:qQ}{x R:qM}{ox:Obj}{vs:Array qL}{f:Str}{v:qL}
theorem OE{Q:Unit->qN->Prop}(kin:K.In s.heap)(c:XA K C R f)(hx:s.heap.get? x=some ox)(hc:ox.cls=.ref C)(hd:ox.data=.fields vs)(hn:ox.dict=none)
  (k:∀h' dx,s.heap.get? dx=none->dx≠x->h'.get? x=some {ox with dict:=some dx}->h'.Ns1 dx (λy=>if y=f then some v else none)->(∀b o,b≠x->s.heap.get? b=some o->h'.get? b=some o)->Q () {s with heap:=h',toks:=s.toks+2}):
  wpAny (model prog w) A (setAttr (.ref x) f v) Q E s:=by
 refine byG λGq hGq=>?_;obtain⟨oc,od,dt,sl⟩:=ox;refine hGq ?_;clear hGq Gq;dsimp only at hc hd hn;subst hc hd hn;have SF:=PySem.F.store_object;have SV:=PySem.F.store_ValueError;have I:PySem.W.InstAt s.heap x ⟨.ref C,none,.fields vs,sl⟩ C none:=⟨hx,rfl,rfl,trivial⟩;refine PySem.W.set_plain kin I c.sa ?_;obtain⟨cd,hcd,hm0⟩:=PySem.W.any_some c.mr;have hm1:cd.mro=Value.ref C::Value.ref R::DC:=beq_iff_eq.mp hm0;obtain⟨cd',hcd',hdd⟩:=PySem.W.any_some c.hd;have ecd:cd'=cd:=Option.some.inj (hcd'.symm.trans hcd);subst ecd;generalize es:({s with toks:=s.toks+1}:qN)=s1;have hp1:s1.heap=s.heap:=by rw[<-es]
 have ty:PySem.W.Looks (model prog w) s1.heap (typeOf (.ref x)) (.ref C):=by rw[hp1];exact I.type
 have mo:PySem.W.Looks (model prog w) s1.heap (isInstance (.ref x) (.type "object")) true:=ty.andThen (by rw[hp1];exact PySem.W.looks_mroIn kin c.ek.mo);have ml:PySem.W.Looks (model prog w) s1.heap (mroOf (.ref C)) cd'.mro:=by rw[hp1];exact (PySem.W.looks_clsIn kin hcd).andThen .now
 have lf:PySem.W.Looks (model prog w) s1.heap (typeLookup (.ref C) f) none:=by rw[hp1];exact cJ kin c.no
 refine codeAny_call_builtin SF.slot.plain SF.entry (@PySem.W.check_slot (model prog w) _ _ s1 "object.__setattr__" "object" "__setattr__" (.ref x) [.str f s.toks,v] [] _ SF.kind SF.split mo (SF.args (.ref x) (.str f s.toks) v) ?_);rw[PySem.W.osa_eq,refuse_eq];refine qA (qA (ty.here (qA (ml.here ?_))));rw[hm1,refuseLoop_ref,refuseLoop_ref,SV.passes];refine qB (qA (ty.here (qA (lf.here (qA ?_)))));refine qB (a:=(none:Option qL)) ?_;have hx1:s1.heap.get? x=some ⟨.ref C,none,.fields vs,sl⟩:=by rw[hp1];exact hx
 have lc:PySem.W.Looks (model prog w) s1.heap (classData C) cd':=by rw[hp1];exact PySem.W.looks_clsIn kin hcd
 refine qA (qB (qA (qA (wpAny_loadPart hx1 (qA (lc.here ?_))))));rw[hdd];have nx:x≠s1.heap.objs.size:=bA (ag hx1);have hx2:(s1.heap.push {cls:=.type "dict",data:=.dict #[]}).get? x=some ⟨.ref C,none,.fields vs,sl⟩:=aZ _ hx1;refine qA (wpAny_alloc' (qA (wpAny_update' hx2 (qB ?_))));generalize e3:(s1.heap.push {cls:=.type "dict",data:=.dict #[]}).update x (λo=>{cls:=o.cls,dict:=some s1.heap.objs.size,data:=o.data,slots:=o.slots})=h3;have d3:h3.get? s1.heap.objs.size=some {cls:=.type "dict",data:=.dict #[]}:=by rw[<-e3];exact (cu _ _ _ _ nx.symm).trans (aj s1.heap rfl)
 have x3:h3.get? x=some ⟨.ref C,some s1.heap.objs.size,.fields vs,sl⟩:=by rw[<-e3];exact bG _ hx2 rfl
 have o3:∀b o,b≠x->s1.heap.get? b=some o->h3.get? b=some o:=λb o nb z=>by rw[<-e3];exact (cu _ _ _ _ nb).trans (aZ _ z)
 have n3:h3.Ns s1.heap.objs.size (λ_=>none):=⟨_,#[],_,d3,rfl,λe he=>qE he (by simp),λ_=>rfl⟩;show wpAny _ _ (Builtin.ObjectAttr.storeInDict s1.heap.objs.size (.str f s.toks) f v) _ _ _;unfold Builtin.ObjectAttr.storeInDict Builtin.ObjectAttr.newKeyGuard;refine qA (qB (qA (wpAny_nsSet1 (Heap.Ns1.of_empty n3) λh4 n4 sb=>?_)));refine byG λGq hGq=>?_;obtain⟨oD,esD,epD,hoD,hdD,hcD⟩:=n4.count (PySem.Within.cons f v PySem.Within.nil);refine hGq ?_;clear hGq Gq;refine qA (wpAny_lookBehind hoD (by rw[hdD];exact pastItsLine_dict (bB hcD (by rw[a9,List.length_nil,sizeLine_eq];lia))) ?_);subst es;exact qB (k h4 _ (ce (af _)) nx.symm ((sb.2 x nx).trans x3) n4 λb o nb z=>(sb.2 b (bA (ag z))).trans (o3 b o nb z))
end
noncomputable def FM(H:Hp)(a:qM):Hp:=λb=>if b=a then none else H b
theorem OF:FM H a a=none:=by unfold FM;rw[qD rfl]
theorem B5{b:qM}(h:b≠a):FM H a b=H b:=by unfold FM;rw[qC h]
theorem Ip{b:qM}(h:FM H a b=some o):b≠a/\H b=some o:=by
 have ne:b≠a:=λz=>by rw[z,OF]at h;cases h
 rw[B5 ne]at h;exact⟨ne,h⟩
section
variable{A:Around}{R:qM}{f:Str}{n:Bool}
theorem Re{Q:Unit->qN->Prop}(I:AX X ad σ H s)(e:H a=some (IM a (.ref C) none n))(c:XA X.K C R f)(ry:Av y u)
  (h:∀dx s',H dx=none->AX X ad σ (Ai (Ai H a (IM a (.ref C) (some dx) n)) dx (.xd [(f,y)])) s'->Q () s'):wpAny (model X.prog X.w) A (setAttr (.ref a) f u) Q E s:=by
 refine byG λGq hGq=>?_;obtain⟨⟨ox,vs,hx,hc,hd,hn,hfr⟩,_,_⟩:=(show An X.prog X.w H s.heap a (.ext (EB a (.ref C) none n)) from I.hok a _ e);refine hGq ?_;clear hGq Gq;refine OE I.kIn c hx hc hd hn λh' dx nd ne x1 n1 k1=>?_
 have hdx:H dx=none:=by
  cases q:H dx with
  |none=>rfl
  |some o =>
   obtain⟨ob,z⟩:=(I.hok dx o q).somewhere;rw[nd]at z;cases z
 have na:∀b,H b=none->b≠a:=λb z w=>by rw[w,e]at z;cases z
 have nb:∀b o,s.heap.get? b=some o->b≠dx:=λb o z w=>by rw[w,nd]at z;cases z
 have nh:∀b o,H b=some o->b≠dx:=λb o z=>A3 z hdx
 have at2:∀b,b≠a->b≠dx->Ai (Ai H a (IM a (.ref C) (some dx) n)) dx (.xd [(f,y)]) b=H b:=λb z1 z2=>by rw[AR z2,AR z1]
 refine h dx _ hdx (I.un (h':=h') (t':=s.toks+2) ⟨λb o q z _ _=>k1 b o (na b z) q,λb o q z _ _=>⟨o.slots,k1 b o (na b z) q⟩,λb o q z _=>by rw[at2 b (na b z) (nb b o q)];exact z,λb o q _=>?_,λb xs q=>?_,λb o v q=>?_,λb ps q=>?_⟩ λb v q=>?_)
 ·by_cases w:b=a
  ·rw[w];exact⟨_,x1⟩
  ·exact⟨o,k1 b o w q⟩
 ·rw[at2 b (λw=>by rw[w,e]at q;cases q) (nh b _ q)];exact q
 ·rw[at2 b (λw=>by rw[w,e]at q;cases q) (nh b _ q)];exact q
 ·exact⟨#[],by rw[at2 b (λw=>by rw[w,e]at q;cases q) (nh b _ q),q];simp⟩
 ·by_cases w:b=dx
  ·rw[w,AF]at q;cases q;rw[w];refine⟨_,n1,λg=>?_⟩
   by_cases z:g=f
   ·rw[z,qD rfl,List.lookup_cons_self];exact ry
   ·rw[qC z,bZ,beq_false_of_ne z];exact True.intro
  ·rw[AR w]at q
   by_cases z:b=a
   ·rw[z,AF]at q;cases q;rw[z];exact⟨⟨_,vs,x1,hc,hd,rfl,hfr⟩,⟨_,x1⟩,λh1 h2 ⟨o,ws,e,r⟩ k=>⟨o,ws,k o e,r⟩⟩
   ·rw[AR z]at q;refine (I.hok b v q).stay (λc2 o hc2 r=>k1 c2 o ?_ r) (λc2 r=>by rw[at2 c2 (λw2=>by rw[w2,e]at r;cases r) (nh c2 _ r)];exact r) λc2 xs r=>by rw[at2 c2 (λw2=>by rw[w2,e]at r;cases r) (nh c2 _ r)];exact r
    rcases hc2 with w2|w2
    ·rw[w2];exact z
    ·intro w3;rw[w3,e]at w2;cases w2
end
noncomputable def ZL(K:qQ)(C f:qM):Bool:=(K.lookup C).any λo=>match o with
 | ⟨.type t,_,.cls d,sl⟩=>t=="type"&&(match d.mro with
  |.ref c::tl=>c==C&&PySem.W.tailIn K DC tl
  |_=>false)&&(match sl.toList with
  |[_,_,_,_,some (.builtin m),_]=>m=="ValueError.__new__"
  |_=>false)&&!d.hasDel&&PySem.W.nsOkIn K d.ns&&PySem.W.nsIn K d.ns "__init__"==some (some (.ref f))
 |_=>false
theorem Rf{K:qQ}{N:qM}{m:Str->Option qL}{v:qL}(kin:K.In h)(g:h.Ns N m)(e:PySem.W.nsIn K N x=some (some v)):m x=some v:=by
 obtain⟨o,es,ep,ho,hd,_,hf⟩:=g;unfold PySem.W.nsIn at e
 split at e
 ·rename_i es' n' sl q
  have z:=kin _ _ q;rw[ho]at z;cases z;cases hd
  split at e
  ·rename_i en he
   cases e;rw[<-hf];unfold nsFind findBy;rw[<-Array.find?_toList,he];rfl
  ·split at e<;>cases e
 ·cases e
theorem Mw{K:qQ}{f:qM}(kin:K.In h)(q:ZL K C f=true):
  ∃tl N nm qn bs dy sn sub ab col dd k0 k1 k2 k3 k5 mN,h.get? C=some (excClassObj nm qn C N bs tl dy sn sub ab col dd k0 k1 k2 k3 k5 "ValueError.__new__")/\h.Ns N mN/\mN "__init__"=some (.ref f)/\OwnTail h DC tl:=by
 unfold ZL at q;cases ho:K.lookup C with
 |none=>rw[ho]at q;cases q
 |some o =>
  rw[ho]at q;simp only[Option.any_some]at q
  split at q
  next t dd d sl =>
   simp only[Bool.and_eq_true,beq_iff_eq,Bool.not_eq_true']at q;refine byG λGq hGq=>?_;obtain⟨⟨⟨⟨⟨e1,e2⟩,e3⟩,e4⟩,e5⟩,e6⟩:=q;refine hGq ?_;clear hGq Gq;subst e1
   split at e2
   next c tl hm =>
    simp only[Bool.and_eq_true,beq_iff_eq]at e2;obtain⟨e7,e8⟩:=e2;subst e7
    split at e3
    next k0 k1 k2 k3 m k5 hs =>
     simp only[beq_iff_eq]at e3;subst e3;refine byG λGq hGq=>?_;obtain⟨nm,bs,mro,N,qn,dy,sn,sub,ab,col,del⟩:=d;refine hGq ?_;clear hGq Gq;dsimp only at hm e4 e5 e6;subst hm e4
     have e9:sl=#[k0,k1,k2,k3,some (.builtin "ValueError.__new__"),k5]:=by obtain⟨l⟩:=sl;simp only at hs;rw[hs]
     subst e9;have g:h.Ns N (h.nsMap N):=.of_isNs (PySem.W.isNs_of_in kin e5);exact⟨tl,N,nm,qn,bs,dy,sn,sub,ab,col,dd,k0,k1,k2,k3,k5,_,kin _ _ ho,g,Rf kin g e6,PySem.W.tail_of_in kin e8⟩
    next=>cases e3
   next=>cases e2
  next=>cases q
structure ZM(K:qQ)(C f:qM):Prop where
 ci:ZL K C f=true
 fn:PySem.W.typeIn K (.ref f)=some (.type "function")
 kp:PySem.W.keepIn K (.ref C)=true
section
variable{f:qM}{sp:Sp}{vs:List V}
theorem Pl{Q:VK}(M:ZM X.K C f)(F:DB X.prog X.w X.K X.mg X.base (FC X.prog X.w) k f fd ps sp)(hr:BL (k+1) X.A)(hb:DH X.K fd ps [])(I:AX X ad σ H s)(r:Au vs us)(hz:vs.length<=sizeLine)
  (h:∀a,H a=none->sp (.ref a::vs) (Ai H a (IM a (.ref C) none true)) (λv H2=>v=.non/\Q (.ref a) H2) E0):
  wpAny (model X.prog X.w) X.A (call (.ref C) us) (λv s'=>∃a H',v=.ref a/\s.heap.get? a=none/\AX X ad σ H' s'/\Q (.ref a) H') X.xe s:=by
 refine byG λGq hGq=>?_;obtain⟨tl,N,nm,qn,bs,dy,sn,sub,ab,col,dd,k0,k1,k2,k3,k5,mN,hO,hN,hi,T⟩:=Mw I.kIn M.ci;refine hGq ?_;clear hGq Gq;refine byG λGq hGq=>?_;obtain⟨hp,g,d,t,os⟩:=s;refine hGq ?_;clear hGq Gq;refine Rc cD T I.kIn hO hN hi M.fn (λhp' e hsz m=>?_) (by rw[<-r.length];exact hz);refine byG λGq hGq=>?_;obtain⟨t',he,ht,_⟩:=m.there;refine hGq ?_;clear hGq Gq
 have I2:AX X ad σ (Ai H e (IM e (.ref C) none true)) ⟨hp',g,d,t,os⟩:=I.laid (t':=t) m.keeps hsz
  ⟨⟨_,_,he,rfl,rfl,rfl,λ_=>⟨t',rfl⟩⟩,⟨_,he⟩,λh1 h2 ⟨o,ws,e,r⟩ k=>⟨o,ws,k o e,r⟩⟩
 have hq:=h e (I.hok.fresh hsz);have r2:Au (V.ref e::vs) (Value.ref e::us):=.cons rfl r
 have hl:(Value.ref e::us++[]).length=ps.length:=by rw[bO,<-r2.length];exact F.len _ _ _ _ hq
 have bb:=hb ⟨hp',g,d,t,os⟩ (Value.ref e::us) I2.kIn hl;rw[bO]at bb;refine wpAny_call (codeAny_mono (F.run _ X.stack _ _ ⟨Value.ref e::us,[]⟩ (Value.ref e::us) _ _ E0 (hr.make C us []) (I2.env0.make C us []) bb r2 hq) λrs s2 hq2=>?_);rcases rs with er|fl
 ·refine byG λGq hGq=>?_;obtain⟨_,_,_,_,_,_,_,_,z⟩:=hq2;refine hGq ?_;clear hGq Gq;exact z.elim
 ·cases fl with
  |ret u =>
   refine byG λGq hGq=>?_;obtain⟨v,H',I3,rv,ev,q3⟩:=I2.after hq2;refine hGq ?_;clear hGq Gq;subst ev;exact⟨rv,e,H',rfl,m.new,I3,q3⟩
  |next=>exact False.elim hq2
  |brk=>exact False.elim hq2
  |cont=>exact False.elim hq2
end
def S4(C:qM)(sp:Sp)(t:TA):TE:=λσ H Q=>t σ H λvs H1=>vs.length<=sizeLine/\∀a,H1 a=none->sp (.ref a::vs) (Ai H1 a (IM a (.ref C) none true)) (λv H2=>v=.non/\Q (.ref a) H2) E0
def Jf(C:qM)(sp:Sp)(E:XK)(t:TA):TS:=λ_ σ H=>S4 C sp t σ H λv H2=>∃a D,v=.ref a/\H2 a=some (IM a (.ref C) D true)/\E (.ref C) D (FM H2 a)
def UM(K:qQ)(ta tv:TE)(f:Str):TS:=λD σ H=>tv σ H λy H1=>ta σ H1 λx H2=>∃a C R n,x=.ref a/\H2 a=some (IM a (.ref C) none n)/\XA K C R f/\∀dx,H2 dx=none->D.nx σ (Ai (Ai H2 a (IM a (.ref C) (some dx) n)) dx (.xd [(f,y)]))
def Jg(X:Cx)(C:qL)(E:XK):Prop:=∀(ad:List (qM×Obj)) (σ:St) (H:Hp) (s:qN) (a:qM) (D:Option qM),AX X ad σ H s->X.s₀.heap.get? a=none->H a=some (IM a C D true)->E C D (FM H a)->X.xe (.ref a) s
section
variable{P:qO}{w:qP}{K:qQ}{mg:Str->Option qL}{base:Heap}{N:List Str}{f:qM}{cd:qL}{A:Around}{outer:List Env}{E:XK}
theorem Dl{C:qL}:Jg (Cg (IL nc P w) P w K mg base N qual scope f cd A outer s H E) C E:=by
 intro ad σ H1 s1 a D I ha0 ea hE;generalize hX:Cg (IL nc P w) P w K mg base N qual scope f cd A outer s H E=X at I ha0⊢;have hst:X.stack=X.env::X.outer:=by rw[<-hX];rfl
 have hfr:X.env.frame=some X.env.locals:=by rw[<-hX];rfl
 have hxe:X.xe=λe s'=>wpAny (model P w) X.A (leaving X.env e) (λ_ s''=>IL nc P w X.outer X.H₀ X.s₀ E e s'') (λe' s''=>IL nc P w X.outer X.H₀ X.s₀ E e' s'') s':=by rw[<-hX];rfl
 have hex:X.ex=[]:=by rw[<-hX];rfl
 have hp:X.prog=P:=by rw[<-hX];rfl
 have hw:X.w=w:=by rw[<-hX];rfl
 subst hp hw;rw[hxe];refine byG λGq hGq=>?_;obtain⟨⟨oe,vs,he,hcl,hd,hdt,hfs⟩,_,_⟩:=(show An X.prog X.w H1 s1.heap a (.ext (EB a C D true)) from I.hok a _ ea);refine hGq ?_;clear hGq Gq;obtain⟨t,hv⟩:=hfs rfl;subst hv hcl;have fr:=I.stack;have hin:∀env∈X.stack,∀b,env.frame=some b->b∈a::CC X.stack:=λenv he b hb=>aa _ (cE.mpr ⟨env,he,hb⟩)
 have fr':s1.heap.FunFrames (PySem.W.hideAll s1.heap (a::CC X.stack)) (X.env::X.outer):=by rw[<-hst];exact c5 fr hin
 have hen:(PySem.W.hideAll s1.heap (a::CC X.stack)).get? a=none:=PySem.W.hideAll_none _ (ah ..);refine qH (KT.run (Dk _ _) (wpAny_leaving_firstW (Q:=λ_ s2=>∃h2,s2={s1 with heap:=h2}/\Heap.LeftW (PySem.W.hideAll s1.heap (a::CC X.stack)) (X.env::X.outer) a oe.cls (.ref t) s1.heap h2) (E:=λ_ _=>False) (a0:=.ref t) (by rw[<-hst];exact I.ok.frames) fr' hfr he (λb o q=>cR _ q) hen hd rfl rfl λh2 z=>⟨h2,rfl,z⟩)) (λ_ s2 q=>?_) λ_ _ q=>q.1.elim
 refine byG λGq hGq=>?_;obtain⟨⟨h2,rfl,k1,⟨k0,kk,k2⟩,k3,k4⟩,dk⟩:=q;refine hGq ?_;clear hGq Gq;have fl:Heap.FlyingW (PySem.W.hideAll s1.heap (a::CC X.stack)) X.outer a oe.cls (.ref t) h2:=⟨k1,hen,k2,k3⟩
 have naf:a∉CC X.stack:=λz=>by have y:=I.stkFree a z;rw[ea]at y;cases y
 have nin:∀b,b∉CC X.stack->b≠a->b∉a::CC X.stack:=λb z1 z2 z=>(aw.mp z).elim z2 z1
 have kept:∀b o,s1.heap.get? b=some o->b∉CC X.stack->b≠a->h2.get? b=some o:=λb o q hb hn=>k1 b o (bU _ q (nin b hb hn))
 have nea:∀b,H1 b=none->b≠a:=λb z w=>by rw[w,ea]at z;cases z
 have slt:∀b o,s1.heap.get? b=some o->b∈CC X.stack->∃sl,h2.get? b=some {o with slots:=sl}:=λb o q hb=>k4 b o q (I.frameData q hb)
 obtain⟨ob,hob,_⟩:=fl.there
 have un1:Un (CC X.stack) [] H1 (FM H1 a) s1.heap h2:=⟨λb o q z hb _=>kept b o q hb (nea b z),λb o q _ hb _=>slt b o q hb,λb o q z _=>by rw[B5 (nea b z)];exact z,λb o q _=>by
  by_cases hb:b∈CC X.stack
  ·obtain⟨sl,z⟩:=slt b o q hb;exact⟨_,z⟩
  ·by_cases hn:b=a
   ·rw[hn];exact⟨ob,hob⟩
   ·exact⟨o,kept b o q hb hn⟩,λb xs q=>by rw[B5 λz=>by rw[z,ea]at q;cases q];exact q,λb o u q=>by rw[B5 λz=>by rw[z,ea]at q;cases q];exact q,λb ps q=>⟨#[],by rw[B5 (λz=>by rw[z,ea]at q;cases q),q];simp⟩⟩
 have hok1:D4 X.prog X.w (FM H1 a) h2:=λb u q=>by
  obtain⟨hn,q'⟩:=Ip q;refine (I.hok b u q').stay (λc v hc r=>?_) (λc z=>by rw[B5 λz2=>by rw[z2,ea]at z;cases z];exact z) λc xs z=>by rw[B5 λz2=>by rw[z2,ea]at z;cases z];exact z
  rcases hc with z|z
  ·refine kept c v r (λy=>?_) (by rw[z];exact hn);have y':=I.stkFree c y;rw[z,q']at y';cases y'
  ·refine kept c v r (λy=>?_) λy=>?_
   ·have y':=I.stkFree c y;rw[z]at y';cases y'
   ·rw[y,ea]at z;cases z
 have J:AX X ad σ (FM H1 a) {s1 with heap:=h2,toks:=s1.toks}:=I.call (g':=s1.gens) (d':=s1.drawn) (ch:=[]) un1 hok1 I.bare λb z=>qE z (by simp)
 have un:Un (CC X.outer) [] X.H₀ (FM H1 a) X.s₀.heap h2:=by have z:=J.base;rw[hex]at z;exact z
 refine⟨a,oe.cls,.ref t,D,_,FM H1 a,rfl,⟨J.os,J.bare,un,J.hok,fl,λb o q hb o' q'=>?_,λb u q o' q'=>?_,⟨ob,hob,(dk.get he hob).1.trans hdt⟩,λ_=>⟨ob,hob,(dk.get he hob).2.trans (by unfold DX;rw[hd];rfl)⟩⟩,hE⟩
 ·obtain⟨o1,q1⟩:=I.base.there b o q (by rw[hex];simp)
  have hn:b∉CC X.stack:=λz=>by
   rcases aw.mp (I.stkSub b z) with y|y
   ·exact qE (am (ag q) I.ok.above) (by rw[y];exact bM _)
   ·exact hb y
  have hne:b≠a:=λz=>by rw[z,ha0]at q;cases q
  have q2:=kept b o1 q1 hn hne;rw[q']at q2;cases q2;exact bU _ q1 (nin b hn hne)
 ·obtain⟨hne,qq⟩:=Ip q;have hn:b∉CC X.stack:=λz=>by have y:=I.stkFree b z;rw[qq]at y;cases y
  obtain⟨o1,r⟩:=(I.hok b u qq).somewhere;have q2:=kept b o1 r hn hne;rw[q']at q2;cases q2;exact bU _ r (nin b hn hne)
end
section
variable{M:Model}{A:Around}{env:Env}{nm qn:Str}{N:qM}{bs tl:List qL}{dy:Bool}{sn:List Str}{sub:List qL}{ab:Bool}{col:Option Bool}{dd:Option qM}{k0 k1 k2 k3 k5:Option qL}{nid:String}
theorem Ls{x:Sem qL}{Q:Flow->qN->Prop}(hb:tl.contains (.type "BaseException")=true)(hh:A.handled=none)
  (h:wpAny M A x (λv s1=>∃(a t:qM) (D:Option qM) (sl:Array (Option qL)),v=.ref a/\s1.heap.get? C=some (excClassObj nm qn C N bs tl dy sn sub ab col dd k0 k1 k2 k3 k5 nid) /\
   s1.heap.get? a=some ⟨.ref C,D,.fields #[.ref t,.none,.none,.none,.bool false,.none],sl⟩/\E (.ref a) s1) E s):wpAny M A (raiseStmt env (some x) none) Q E s:=by
 have hcB:(Value.ref C::tl).contains (.type "BaseException")=true:=by rw[List.contains_cons,hb,Bool.or_true]
 unfold raiseStmt;refine qA (qH h (λv s1 h1=>?_) λ_ _ x=>x);refine byG λGq hGq=>?_;obtain⟨a,t,D,sl,rfl,hC,he,hE⟩:=h1;refine hGq ?_;clear hGq Gq;refine byG λGq hGq=>?_;obtain⟨hp,g,d,tk,os⟩:=s1;refine hGq ?_;clear hGq Gq
 repeat (first|with_reducible refine wpAny_loadPart_at hC ?_|with_reducible refine wpAny_loadPart_at he ?_|(with_reducible refine wpAny_isSubtype_exc hC ?_;rw[hcB])|wp_step)
 exact wpAny_raiseNew_none hh hE
end
section
variable{f:qM}{sp:Sp}{fld:Str}{E:XK}{e o value:Expr}{t:TA}{ta tv:TE}{np cpos pos':Pos}
theorem OG(hc:X.calm=true)(M:ZM X.K C f)(F:DB X.prog X.w X.K X.mg X.base (FC X.prog X.w) k f fd ps sp)(hr:BL (k+1) X.A)(hb:DH X.K fd ps [])(hg:Gl X x)(hm:X.mg x=some (.ref C))(hx:Jg X (.ref C) E)(ha:PA X (e::es) t)(hex:X.ex=[]:=by rfl)
  (hdb:(x==("__debug__":Str))=false:=by decide) (he:starEach (e::es) X.env=(false,eval e X.env)::starEach es X.env:=by rfl) (hpl:(backTo cpos (starEach es X.env)).any (·.1)=false:=by rfl):
  PS X (.Raise (some (.Call (.Name x np) (e::es) [] cpos)) none pos) (Jf C sp E t):=by
 intro ad s σ H D I h;refine byG λGq hGq=>?_;obtain⟨tl,N,nm,qn,bs,dy,sn,sub,ab,col,dd,k0,k1,k2,k3,k5,mN,hO,hN,hni,T⟩:=Mw I.mod.kin M.ci;refine hGq ?_;clear hGq Gq;have FB:=cD;rw[arm_exec_Raise]
 have call:wpAny (model X.prog X.w) X.A (eval (.Call (.Name x np) (e::es) [] cpos) X.env) (λv s2=>∃(a t:qM) (D:Option qM) (sl:Array (Option qL)),v=.ref a/\s2.heap.get? C=some (excClassObj nm qn C N bs tl dy sn sub ab col dd k0 k1 k2 k3 k5 "ValueError.__new__") /\
   s2.heap.get? a=some ⟨.ref C,D,.fields #[.ref t,.none,.none,.none,.bool false,.none],sl⟩/\X.xe (.ref a) s2) X.xe s:=by
  refine wpAny_Call_Name_kw (DF I hg hm ?_ hdb);refine cw (h₀:=X.base) I.ok.mod.kin M.kp (A8 (ha cpos ad s σ H _ I h) λus s1 ⟨vs,H1,I1,r,hz,q⟩=>⟨I1.kIn,?_⟩) he hpl;refine A8 (Pl (Q:=λv H2=>∃a D,v=.ref a/\H2 a=some (IM a (.ref C) D true)/\E (.ref C) D (FM H2 a)) M F hr hb I1 r hz q) λv s2 z=>?_;refine byG λGq hGq=>?_;obtain⟨a,H2,ev,hn,I2,a',D',ea',h2,hE⟩:=z;refine hGq ?_;clear hGq Gq;cases ea';refine byG λGq hGq=>?_;obtain⟨⟨oe,vs',he',hcl,hd,hdt,hfs⟩,_,_⟩:=(show An X.prog X.w H2 s2.heap a (.ext (EB a (.ref C) D' true)) from I2.hok a _ h2);refine hGq ?_;clear hGq Gq;obtain⟨t',hv⟩:=hfs rfl;subst hv;refine byG λGq hGq=>?_;obtain⟨c1,c2,c3,c4⟩:=oe;refine hGq ?_;clear hGq Gq;dsimp only at hcl hd hdt;subst hcl hd hdt;refine⟨a,t',_,_,ev,I2.bk _ _ hO,he',hx ad σ H2 s2 a _ I2 ?_ h2 hE⟩;cases q0:X.s₀.heap.get? a with
  |none=>rfl
  |some o0 =>
   obtain⟨o1,q1⟩:=I1.base.there a o0 q0 (by rw[hex];simp);rw[hn]at q1;cases q1
 exact qA (wpAny_standAt (Ls (C:=C) (nm:=nm) (qn:=qn) (N:=N) (bs:=bs) (tl:=tl) (dy:=dy) (sn:=sn) (sub:=sub) (ab:=ab) (col:=col) (dd:=dd) (k0:=k0) (k1:=k1) (k2:=k2) (k3:=k3) (k5:=k5) (nid:="ValueError.__new__") (T.hasType FB.hasBase) (I.ok.hd hc)
  (qA (qH call (λv s3 h3=>qA (wpAny_standAt (qB h3))) λ_ _ z=>z))))
theorem UN(ha:PE X o ta)(hv:PE X value tv)(hs:swapsWith value (some (.Attribute o fld pos')) pos.line X.env=pure false:=by rfl):PS X (.Assign [.Attribute o fld pos'] value pos) (UM X.K ta tv fld):=by intro ad s σ H D I h;refine plainObj_wpAny_Assign_Attribute (A8 (hv ad s σ H _ I h) λu s1 ⟨y,H1,I1,ry,q⟩=>A8 (ha ad s1 σ H1 _ I1 q) λov s2 z9=>?_) hs;obtain⟨x,H2,I2,rx,a,C,R,n,ex,ea,c,q2⟩:=z9;subst ex;obtain rfl:ov=Value.ref a:=rx;exact Re I2 ea c ry λdx s3 hdx I3=>⟨σ,_,I3,q2 dx hdx⟩
end
theorem AX.turnedNew{p:qM}(I:AX X ad σ H s)(hf:∀b∈ch,En X ad H b)(k:∀b u,b∉ch->s.heap.get? b=some u->h'.get? b=some u)(hp:s.heap.objs.size<=p)
  (new:An X.prog X.w (Ai H p o) h' p o):AX X ad σ (Ai H p o) {s with heap:=h',toks:=t'}:=by
 have hpn:H p=none:=I.hok.fresh hp;have nit:∀b u,H b=some u->b∉ch:=λb u e z=>by rw[(hf b z).1]at e;cases e
 have np:∀b u,s.heap.get? b=some u->b≠p:=λb u e=>bA (am (ag e) hp)
 refine I.step (g':=s.gens) (d':=s.drawn) (ch:=ch) (λb hb=>⟨(hf b hb).2.2.2.1,(hf b hb).2.1,(hf b hb).2.2.2.2.1,(hf b hb).2.2.2.2.2⟩) (λb u _ _ hc e _=>k b u hc e) (λb u _ _ hc e _=>⟨u.slots,k b u hc e⟩)
  (λb u _ e n=>by rw[AR (np b u e)];exact n) (λb u hc e=>⟨u,k b u hc e⟩) (λb xs e=>by rw[AR (A3 e hpn)];exact e) (λb u v e=>by rw[AR (A3 e hpn)];exact e)
  (λb ps e=>⟨#[],by rw[AR (A3 e hpn),e];simp⟩) (λm hm=>?_) (λb u e=>?_) I.bare
 ·obtain⟨o,es,ep,ho,r⟩:=hm;exact⟨o,es,ep,k _ o (λz=>(hf _ z).2.1 rfl) ho,r⟩
 ·by_cases z:b=p
  ·subst z;rw[AF]at e;cases e;exact new
  ·rw[AR z]at e;refine (I.hok b u e).stay (λc v hc q=>k c v ?_ q) (λc q=>by rw[AR (A3 q hpn)];exact q) λc xs q=>by rw[AR (A3 q hpn)];exact q
   rcases hc with y|y
   ·rw[y];exact nit b u e
   ·exact nit c _ y
noncomputable def Wc(K:qQ)(a:qM):It:=
 ⟨λi H=>∃xs x,Ag K H a xs/\xs[i]?=some x,λi H v H'=>∃p x,v=.ref p/\H p=none/\H'=Ai H p (.tup [.int i,x])/\∀xs,Ag K H a xs->xs[i]?=some x,λi H=>∃xs,Ag K H a xs/\xs.length<=i⟩
theorem OH{P:qO}{w:qP}{K:qQ}{elts:List Expr}{ctx}{tpos:Pos}(a e it:qM)(hne:e≠it):
  IP P w K (.Tuple elts ctx tpos) (Wc K a) [e,it] e (λi h=>(∃old,IsEnum h e it ((i:Nat):Int) old)/\h.IsListIter it a i) where
 mem:=by simp
 obj:=λi h st b hb=>by
  refine byG λGq hGq=>?_;obtain⟨⟨old,q⟩,o,e1,c,d⟩:=st;refine hGq ?_;clear hGq Gq;rcases aw.mp hb with z|z
  ·rw[z];exact⟨_,q,λv y=>by cases y⟩
  ·rw[ak.mp z];exact⟨o,e1,λv y=>by rw[d]at y;cases y⟩
 keep:=λi h h' st k=>by obtain⟨⟨old,q⟩,li⟩:=st;exact⟨⟨old,k e (by simp) _ q⟩,li.at λo z=>k it (by simp) o z⟩
 item:=by
  intro X hP hw hK hc i ad s σ H E I hf st hg;subst hP hw hK;refine byG λGq hGq=>?_;obtain⟨xs,x,hq,hx⟩:=hg;refine hGq ?_;clear hGq Gq;refine byG λGq hGq=>?_;obtain⟨its,rv,p,hz⟩:=I.list hq;refine hGq ?_;clear hGq Gq;obtain⟨u,hu,ru⟩:=rv.get hx;obtain⟨⟨old,he⟩,li⟩:=st;refine wpAny_pyNext_enum_item he li p.isList (x:=u) (by simpa using hu) hne λh1 out li1 ht hsz k1=>?_;refine⟨_,rfl,wpAny_letOwnedTupleGo_enum out λh2 he2 sb=>?_⟩
  have k2:∀b o,b∉[e,it]->s.heap.get? b=some o->h2.get? b=some o:=λb o hb z=>by
   have hb1:b≠e:=λy=>hb (by simp[y])
   have hb2:b≠it:=λy=>hb (by simp[y])
   exact (sb.2 b hb1).trans (k1 b o hb1 hb2 z)
  have hpe:s.heap.objs.size≠e:=bo (ag he);have ht2:h2.get? s.heap.objs.size=some {cls:=.type "tuple",data:=.seq #[.int ((i:Nat):Int) s.toks,u]}:=(sb.2 _ hpe).trans ht;have hn:H s.heap.objs.size=none:=I.hok.fresh (af _);refine⟨.ref s.heap.objs.size,Ai H s.heap.objs.size (.tup [.int ((i:Nat):Int),x]),I.turnedNew (h':=h2) (t':=s.toks+1) hf k2 (af _) ?_,rfl,⟨_,x,rfl,hn,rfl,λys hy=>by rw[I.list_inj hy hq];exact hx⟩,⟨⟨u,?_⟩,?_⟩,λb hb=>?_⟩
  ·exact⟨by show 2<=sizeLine;decide,[.int ((i:Nat):Int) s.toks,u],.cons ⟨_,rfl⟩ (.cons ru .nil),⟨_,ht2,rfl,_,rfl⟩⟩
  ·have ec:(((i+1:Nat)):Int)=((i:Nat):Int)+1:=by push_cast;rfl
   rw[ec];exact he2
  ·exact li1.at λo z=>(sb.2 it (Ne.symm hne)).trans z
  ·have b0:=(hf b hb).1;rw[AR λz=>?_]
   ·exact b0
   ·obtain⟨o,z1,_⟩:=id li;rcases aw.mp hb with y|y
    ·exact hpe (z.symm.trans y)
    ·exact qE (ag z1) (by rw[<-ak.mp y,z];exact bM _)
 done:=by intro X hP hw hK hc i ad s σ H E I hf st hg;subst hP hw hK;obtain⟨xs,hq,hx⟩:=hg;refine byG λGq hGq=>?_;obtain⟨its,rv,p,hz⟩:=I.list hq;refine hGq ?_;clear hGq Gq;obtain⟨⟨old,he⟩,li⟩:=st;refine byG λGq hGq=>?_;obtain⟨f0,f1,f2,f3,f4,f5⟩:=hf it (by simp);refine hGq ?_;clear hGq Gq;have hl:=rv.length;exact wpAny_pyNext_enum_end (I.ok.hd hc) he li p.isList (by simp;lia) λh' eb=>⟨rfl,I.turned (t':=s.toks) (λb o hb e=>eb b o hb e) f0 f1 f3 f4 f5⟩
 self:=λ_ _ _ _ _ st h=>by obtain⟨⟨old,he⟩,_⟩:=st;exact wpAny_pyIter_enum he h
section
variable{elts:List Expr}{ctx}{tpos:Pos}
def Wd(K:qQ)(ta:TA):TI:=λσ H R=>ta σ H λvs H1=>∃a xs,vs=[.ref a]/\Ag K H1 a xs/\R (Wc K a) H1
theorem Rg{l:Expr}{p pos:Pos}(hg:Gl X "enumerate")(hm:X.mg "enumerate"=none)(ha:PA X [l] ta)(hs:starEach [l] X.env=[(false,eval l X.env)]:=by rfl):PI X (.Tuple elts ctx tpos) (.Call (.Name "enumerate" p) [l] [] pos) (Wd X.K ta):=by
 intro ad s σ H R I h;refine Call_ (Cq I hg hm boot_enumerate (bK (A8 (ha pos ad s σ H _ I h) λus s1 z9=>?_) hs rfl));obtain⟨vs,H1,I1,r1,q1⟩:=z9;obtain⟨a,xs,e,hq,q⟩:=q1;subst e;cases r1 with
 |cons r rr =>
  cases rr;cases r;obtain⟨its,rv,pl,hz⟩:=I1.list hq;refine call_enumerate_list pl.isList λh1 he li hsz k1=>?_;refine wpAny_pyIter_enum he ?_;have n1:H1 (s1.heap.objs.size+1)=none:=I1.hok.fresh (b8 _);have n0:H1 s1.heap.objs.size=none:=I1.hok.fresh (af _);refine⟨s1.heap.objs.size+1,[s1.heap.objs.size+1,s1.heap.objs.size],_,_,H1,rfl,I1.kept (t':=s1.toks) k1,OH a _ _ (Nat.succ_ne_self _),⟨⟨_,he⟩,li⟩,λb hb=>?_,q⟩;rcases aw.mp hb with z|z
  ·rw[z];exact I1.fpOk (b8 _) n1
  ·rw[ak.mp z];exact I1.fpOk (af _) n0
theorem Pm{K:qQ}{g:TG}{tb:TS}(Pv:Nat->St->Hp->Prop)(h0:Pv 0 σ H)(hl:∀i σ H,i<=xs.length->Pv i σ H->Ag K H a xs)
  (hs:∀i x p σ H,xs[i]?=some x->Pv i σ H->H p=none->g (.ref p) σ (Ai H p (.tup [.int ((i:Nat):Int),x])) λσ2 H2=>tb {D with nx:=Pv (i+1),ct:=Pv (i+1),bk:=D.nx} σ2 H2) (hd:∀σ H,Pv xs.length σ H->D.nx σ H):
  ∃W:Nat->Nat->St->Hp->Prop,(∃m,W 0 m σ H)/\∀i m σ H,W i m σ H ->
   ((Wc K a).stop i H/\D.nx σ H)\/((Wc K a).go i H/\∃N:St->Hp->Prop,(∀σ' H',N σ' H'->∃m',m'<m/\W (i+1) m' σ' H')/\∀x H',(Wc K a).yld i H x H'->g x σ H' λσ2 H2=>tb {D with nx:=N,ct:=N,bk:=D.nx} σ2 H2):=by
 refine⟨λi m σ H=>m=xs.length-i/\i<=xs.length/\Pv i σ H,⟨xs.length,by simp,Nat.zero_le _,h0⟩,?_⟩;rintro i m σ H ⟨rfl,hi,p⟩;have q:=hl i σ H hi p
 by_cases hlt:i<xs.length
 ·refine .inr ⟨⟨xs,xs[i],q,by simp[hlt]⟩,Pv (i+1),λσ' H' p'=>⟨xs.length-(i+1),by lia,rfl,hlt,p'⟩,λv H' y=>?_⟩;refine byG λGq hGq=>?_;obtain⟨p2,x,e1,e2,e3,y⟩:=y;refine hGq ?_;clear hGq Gq;subst e1 e3;exact hs i x p2 σ H (y xs q) p e2
 ·have e:i=xs.length:=by lia
  subst e;exact .inl ⟨⟨xs,q,af _⟩,hd σ H p⟩
end
theorem Mx:∀{xs:List V} {us:List qL},xs.length=us.length->(∀(i:Nat) (x:V) (u:qL),xs[i]?=some x->us[i]?=some u->Av x u)->Au xs us
 |[],[],_,_=>.nil
 |x::xs,u::us,hl,h=>.cons (h 0 x u rfl rfl) (Mx (by simpa using hl) λi y v e1 e2=>h (i+1) y v (by simpa using e1) (by simpa using e2))
 |[],_::_,hl,_=>by simp at hl
 |_::_,[],hl,_=>by simp at hl
section
variable{a:Expr}{cs:List Expr}{ta:TE}{tc:TA}{p tpos:Pos}{ctx}
noncomputable def Pn(K:qQ):List V->Hp->VK->Prop
 |[x,c],H,Q=>∃t tp vs us b,WG K H x t/\c=.ref tp/\H tp=some (.tup vs)/\vs.map Pf=us.map some/\PySem.W.kitAny K t us=some b/\Q (.bl b) H
 |_,_,_=>False
theorem Kj:∀{vs:List V} {its us:List qL},Au vs its->vs.map Pf=us.map some->its=us
 |_,_,[],.nil,_=>rfl
 |_,_,_::_,.nil,e=>by simp at e
 |_,_,[],.cons _ _,e=>by simp at e
 |x::xs,_,u::us,.cons r rr,e=>by
  simp only[List.map_cons,List.cons.injEq]at e;obtain⟨e1,e2⟩:=e;rw[Kj rr e2]
  congr 1
  cases x with
  |ty n=>cases e1;exact r
  |ref a=>cases e1;exact r
  |_=>cases e1
theorem UO{x:V}{v:qL}(I:AX X ad σ H s)(rx:Av x v)(ty:WG X.K H x t):(∃φ,PySem.W.KitX X.K v t φ/\φ s.heap)/\v≠.builtin "__main__.__loader__#opaque":=by
 cases ty with
 |of ty =>
  cases ty with
  |non=>cases (show v=Value.none from rx);exact⟨⟨_,PySem.W.kitx_none,True.intro⟩,λz=>nomatch z⟩
  |bl y=>cases (show v=Value.bool y from rx);exact⟨⟨_,PySem.W.kitx_bool,True.intro⟩,λz=>nomatch z⟩
  |int i=>obtain⟨t,q⟩:=(show ∃t,v=Value.int i t from rx);cases q;exact⟨⟨_,PySem.W.kitx_int,True.intro⟩,λz=>nomatch z⟩
  |str y=>obtain⟨t,q⟩:=(show ∃t,v=Value.str y t from rx);cases q;exact⟨⟨_,PySem.W.kitx_str,True.intro⟩,λz=>nomatch z⟩
  |flt y=>obtain⟨t,q⟩:=(show ∃t,v=Value.float y t from rx);cases q;exact⟨⟨_,PySem.W.kitx_float,True.intro⟩,λz=>nomatch z⟩
  | @lst a xs ea =>
   cases (show v=Value.ref a from rx);obtain⟨_,_,n,_,h1⟩:=(show An X.prog X.w H s.heap a (.lst xs) from I.hok a _ ea);exact⟨⟨_,c8,⟨_,h1,rfl⟩⟩,λz=>nomatch z⟩
  | @frz a ob xs ea =>
   cases (show v=Value.ref a from rx);obtain⟨_,_,_,n,_,h1⟩:=(show An X.prog X.w H s.heap a (.frz ob (.lst xs)) from I.hok a _ ea);exact⟨⟨_,c8,⟨_,h1,rfl⟩⟩,λz=>nomatch z⟩
  | @tup a xs ea =>
   cases (show v=Value.ref a from rx);obtain⟨_,_,_,p⟩:=(show An X.prog X.w H s.heap a (.tup xs) from I.hok a _ ea);obtain⟨o,h1,h2,_⟩:=p;exact⟨⟨_,PySem.W.kitx_tuple,⟨o,h1,h2⟩⟩,λz=>nomatch z⟩
  | @dK a kvs ea =>
   cases (show v=Value.ref a from rx);obtain⟨_,_,vs,_,p⟩:=(show An X.prog X.w H s.heap a (.dK kvs) from I.hok a _ ea);obtain⟨o,es,ep,h1,h2,_⟩:=p;exact⟨⟨_,dA,⟨o,h1,h2.1⟩⟩,λz=>nomatch z⟩
  | @dT a kvs ea =>
   cases (show v=Value.ref a from rx);obtain⟨_,_,xs,_,o,es,ep,h1,h2,_⟩:=(show An X.prog X.w H s.heap a (.dT kvs) from I.hok a _ ea);exact⟨⟨_,dA,⟨o,h1,h2.1⟩⟩,λz=>nomatch z⟩
  | @ins a C dx fs ea cl ha hn htk hm =>
   cases (show v=Value.ref a from rx);obtain⟨mA,O,_⟩:=FH I.hok ea;obtain⟨od,J,_⟩:=O.look;exact⟨⟨_,PySem.W.kitx_own (cl.get _) cl.hd ha hn htk hm,J⟩,λz=>nomatch z⟩
 | @exc a D dy n e ck =>
  cases (show v=Value.ref a from rx);obtain⟨x,_,_⟩:=(show An X.prog X.w H s.heap a (.ext (EB a (.ref D) _ _)) from I.hok a _ e);exact⟨⟨_,Kg ck,x⟩,λz=>nomatch z⟩
theorem OI:CH X (.builtin "isinstance") (Pn X.K):=by
 intro ad s σ H xs us Q I rv h;rcases xs with _|⟨x,_|⟨c,_|⟨_,_⟩⟩⟩
 ·exact h.elim
 ·exact h.elim
 rotate_left
 ·exact h.elim
 refine byG λGq hGq=>?_;obtain⟨t,tp,vs,ucs,b,ty,rfl,ht,hcs,k,q⟩:=h;refine hGq ?_;clear hGq Gq;refine byG λGq hGq=>?_;obtain⟨v1,v2,rfl,r1,r2⟩:=Mq rv;refine hGq ?_;clear hGq Gq;cases (show v2=Value.ref tp from r2);refine byG λGq hGq=>?_;obtain⟨_,its,rits,o,ho,hcl,n,hd⟩:=(show An X.prog X.w H s.heap tp (.tup vs) from I.hok tp _ ht);refine hGq ?_;clear hGq Gq;refine byG λGq hGq=>?_;obtain⟨c1,c2,c3,c4⟩:=o;refine hGq ?_;clear hGq Gq;dsimp only at hcl hd;subst hcl hd;have e:=Kj rits hcs;subst e;refine byG λGq hGq=>?_;obtain⟨⟨φ,Z,hφ⟩,hx⟩:=UO I r1 ty;refine hGq ?_;clear hGq Gq;exact PySem.W.kia_tup Z I.kIn hφ ho k hx λtk=>⟨.bl b,H,I.tok tk,rfl,q⟩
theorem Rh(hg:Gl X "isinstance")(hm:X.mg "isinstance"=none)(ha:PE X a ta)(hc:PA X cs tc)(h1:starEach [a,.Tuple cs ctx tpos] X.env=(false,eval a X.env)::starEach [.Tuple cs ctx tpos] X.env:=by rfl)
  (h2:starEach [.Tuple cs ctx tpos] X.env=(false,eval (.Tuple cs ctx tpos) X.env)::starEach [] X.env:=by rfl)
  (h3:(backTo pos (starEach [.Tuple cs ctx tpos] X.env)).any (·.1)=false:=by rfl):PE X (.Call (.Name "isinstance" p) [a,.Tuple cs ctx tpos] [] pos) (WW (Pn X.K) (D9 ta (D9 (PN tc) G6))):=
 Aj OI hg hm PyProof.Rows.boot_isinstance (AA ha (AA (Dj hc) AB h2) h1) (by decide) (by decide) h1 h3
end
section
variable{K:qQ}
theorem We:PySem.W.kitOne K (.type "int") (.type "int")=some true:=by kernel_rfl
theorem Wf:PySem.W.kitOne K (.type "int") (.type "bool")=some false:=by kernel_rfl
theorem Wg:PySem.W.kitOne K (.type "bool") (.type "int")=some true:=by kernel_rfl
theorem Wh:PySem.W.kitOne K (.type "bool") (.type "bool")=some true:=by kernel_rfl
theorem Wi:PySem.W.kitOne K (.type "NoneType") (.type "int")=some false:=by kernel_rfl
theorem Wj:PySem.W.kitOne K (.type "str") (.type "int")=some false:=by kernel_rfl
theorem Wk:PySem.W.kitOne K (.type "list") (.type "int")=some false:=by kernel_rfl
theorem Wl:PySem.W.kitOne K (.type "list") (.type "list")=some true:=by kernel_rfl
theorem Wm:PySem.W.kitOne K (.type "tuple") (.type "tuple")=some true:=by kernel_rfl
theorem Wn:PySem.W.kitOne K (.type "tuple") (.type "list")=some false:=by kernel_rfl
theorem Wo:PySem.W.kitOne K (.type "tuple") (.type "int")=some false:=by kernel_rfl
end
structure Aa(P:qO)(w:qP)(K:qQ)(mg:Str->Option qL)(base:Heap)(k:Nat)(f:qM)(ps:List Str)(sp:Sp):Prop where
 ex:∃fd,DB P w K mg base (FC P w) k f fd ps sp/\DH K fd ps []
 kp:PySem.W.keepIn K (.ref f)=true
section
variable{P:qO}{w:qP}{K:qQ}{mg:Str->Option qL}{base:Heap}{f:qM}{N:List Str}{sp:Sp}
theorem BC.ok0(F:BC K x qual st f fd)(S:AM N ps (AG st))(len:∀vs H Q E,sp vs H Q E->vs.length=ps.length)
  (hbody:∀(d9:qL) (A:Around) (outer:List Env) (s:qN) (H:Hp) (vs:List V) (Q:VK) (E:XK),BL k (A.deeper (envOfC qual (AG st) s.heap.objs.size f d9))->sp vs H Q E ->
   ∃t,FD (Cg (FC P w) P w K mg base N qual (AG st) f d9 A outer s H E).nox (BB st) t/\t {nx:=λ_ H'=>Q .non H',rt:=Q} (B1 N vs) H):DB P w K mg base (FC P w) (k+1) f fd ps sp:=
 F.okX S len λd9 A outer s H vs Q E hr hsp=>by obtain⟨t,h,q⟩:=hbody d9 A outer s H vs Q E hr hsp;exact⟨t,h.nox,q⟩
abbrev DY(x qual:Str)(st:Stmt)(ps:List Str):Prop:=∀(kV doc pm:qL) (an:Option qM) (d9 ct:qL) (us:List qL),us.length=ps.length->bindArgs (PySem.W.fnOf x qual (B3 st) (BB st) (AG st) .none kV doc pm an d9 ct) ⟨us,[]⟩=pure (ps.zip us)
theorem Ri(D:∃fd,BC K x qual st f fd)(S:AM N ps (AG st))(bd:DY x qual st ps)(len:∀vs H Q E,sp vs H Q E->vs.length=ps.length)
  (hbody:∀(d9:qL) (A:Around) (outer:List Env) (s:qN) (H:Hp) (vs:List V) (Q:VK) (E:XK),BL k (A.deeper (envOfC qual (AG st) s.heap.objs.size f d9))->sp vs H Q E ->
   ∃t,FD (Cg (FC P w) P w K mg base N qual (AG st) f d9 A outer s H E).nox (BB st) t/\t {nx:=λ_ H'=>Q .non H',rt:=Q} (B1 N vs) H):Aa P w K mg base (k+1) f ps sp:=by
 obtain⟨fd,F⟩:=D;exact⟨⟨fd,F.ok0 S len hbody,F.binds bd⟩,F.kp⟩
theorem Rj(D:∃fd,BC K x qual st f fd)(S:AM N ps (AG st))(bd:DY x qual st ps)(len:∀vs H Q E,sp vs H Q E->vs.length=ps.length)
  (hbody:∀(d9:qL) (A:Around) (outer:List Env) (s:qN) (H:Hp) (vs:List V) (Q:VK) (E:XK),BL k (A.deeper (envOfC qual (AG st) s.heap.objs.size f d9))->sp vs H Q E ->
   ∃t,FD (Cg (FC P w) P w K mg base N qual (AG st) f d9 A outer s H E) (BB st) t/\t {nx:=λ_ H'=>Q .non H',rt:=Q} (B1 N vs) H):Aa P w K mg base (k+1) f ps sp:=by
 obtain⟨fd,F⟩:=D;exact⟨⟨fd,F.okX S len hbody,F.binds bd⟩,F.kp⟩
theorem Aa.mono(G:Aa P w K mg base j f ps sp)(h:j<=k):Aa P w K mg base k f ps sp:=by refine byG λGq hGq=>?_;obtain⟨⟨fd,F,b⟩,kp⟩:=G;refine hGq ?_;clear hGq Gq;exact⟨⟨fd,F.mono h,b⟩,kp⟩
end
section
variable{f:qM}{sp:Sp}{E:St->XK}{EX:XK}{np p cpos:Pos}{e:Expr}{t:TA}
theorem AT(G:Aa X.prog X.w X.K X.mg X.base k f ps sp)(hr:BL k X.A)(hg:Gl X x)(hm:X.mg x=some (.ref f))(hx:Bn (FC X.prog X.w) X E)
  (ha:PA X (e::es) t) (hdb:(x==("__debug__":Str))=false:=by decide) (he:starEach (e::es) X.env=(false,eval e X.env)::starEach es X.env:=by rfl) (hpl:(backTo pos (starEach es X.env)).any (·.1)=false:=by rfl):
  PE X (.Call (.Name x p) (e::es) [] pos) (F2 sp [] E t):=by
 refine byG λGq hGq=>?_;obtain⟨⟨fd,F,b⟩,kp⟩:=G;refine hGq ?_;clear hGq Gq;exact G9 F hr hg hm kp b .nil hx ha hdb he hpl
theorem F3(hc:X.calm=true)(M:ZM X.K C f)(G:Aa X.prog X.w X.K X.mg X.base k f ps sp)(hr:BL (k+1) X.A)(hg:Gl X x)(hm:X.mg x=some (.ref C))(hx:Jg X (.ref C) EX)(ha:PA X (e::es) t)(hex:X.ex=[]:=by rfl)
  (hdb:(x==("__debug__":Str))=false:=by decide) (he:starEach (e::es) X.env=(false,eval e X.env)::starEach es X.env:=by rfl) (hpl:(backTo cpos (starEach es X.env)).any (·.1)=false:=by rfl):
  PS X (.Raise (some (.Call (.Name x np) (e::es) [] cpos)) none pos) (Jf C sp EX t):=by
 refine byG λGq hGq=>?_;obtain⟨⟨fd,F,b⟩,kp⟩:=G;refine hGq ?_;clear hGq Gq;exact OG hc M F hr b hg hm hx ha hex hdb he hpl
theorem CK{i:Int}(hg:Gl X x)(hm:∃t,X.mg x=some (.int i t))(hd:(x==("__debug__":Str))=false:=by decide):PE X (.Name x pos) (tC (.int i)):=by obtain⟨t,hm⟩:=hm;exact Pk hg hm hd
end
inductive Lu(K:qQ)(vs:List V)(H:Hp)(Q:VK)(z3_:XK):Prop
 |m (a:qM) (ns:qR) (k:Nat):vs=[.ref a,.int k]->Ag K H a (ns.map V.int)->ns.length<=63->Q (.int (ns.getD k 0)) H->Lu K vs H Q z3_
noncomputable def Kd(H:Hp):V->Prop
 |.int _=>True
 |.bl _=>True
 |.non=>True
 |.str _=>True
 |.ref a=>∃xs,H a=some (.lst xs)\/H a=some (.tup xs)
 |_=>False
theorem Kd.same(e:AJ H H'):∀{x:V},Kd H x->Kd H' x
 |.int _,_=>True.intro
 |.bl _,_=>True.intro
 |.non,_=>True.intro
 |.str _,_=>True.intro
 |.ref a,h=>by obtain⟨xs,h⟩:=h;exact⟨xs,h.elim (λq=>.inl (e _ _ q)) λq=>.inr (e _ _ q)⟩
noncomputable def My:V->Bool
 |.int _=>true
 |_=>false
inductive Gj(vs:List V)(H:Hp)(Q:VK)(z3_:XK):Prop
 |m (x:V):vs=[x]->Kd H x->Q (.bl (My x)) H->Gj vs H Q z3_
noncomputable def Po(g:Int):V->Bool
 |.int i=>decide (0<=i)&&decide (i<g)
 |_=>false
inductive Jh(vs:List V)(H:Hp)(Q:VK)(z3_:XK):Prop
 |m (x:V) (g:Int):vs=[x,.int g]->Kd H x->Q (.bl (Po g x)) H->Jh vs H Q z3_
inductive HD(K:qQ)(C R:qM)(vs:List V)(H:Hp)(Q:VK)(z3_:XK):Prop
 |m (a:qM) (n:Bool) (y:V):vs=[.ref a,y]->H a=some (IM a (.ref C) none n)->(∀dx,H dx=none->Q .non (Ai (Ai H a (IM a (.ref C) (some dx) n)) dx (.xd [("at",y)])))->HD K C R vs H Q z3_
def Rk(C:qM)(i:Nat)(H:Hp)(E:XK):Prop:=∀H' dx,AJ H H'->H' dx=some (.xd [("at",.int ((i:Nat):Int))])->E (.ref C) (some dx) H'
noncomputable def Bb(g:Int)(xs:List V):Option Nat:=xs.findIdx? λx=>!Po g x
inductive Dm(K:qQ)(C:qM)(vs:List V)(H:Hp)(Q:VK)(E:XK):Prop
 |m (a:qM) (xs:List V) (g:Int):vs=[.ref a,.int g]->Ag K H a xs->(∀x∈xs,Kd H x)->(match Bb g xs with|none=>∀H',AJ H H'->Q .non H'|some i=>Rk C i H E)->Dm K C vs H Q E
noncomputable def Lv(g n:Int)(ns:qR):Int:=ns.foldl (λm x=>m*g+x) n
noncomputable def CD(g:Int)(ns:qR):Int:=Lv g 0 ns
inductive FN(K:qQ)(C:qM)(vs:List V)(H:Hp)(Q:VK)(E:XK):Prop
 |m (a:qM) (xs:List V) (g:Int):vs=[.ref a,.int g]->2<=g->g<=9->Ag K H a xs->(∀x∈xs,Kd H x)->(match Bb g xs with|none=>∀ns:qR,xs=ns.map V.int->∀H',AJ H H'->Q (.int (CD g ns)) H'|some i=>Rk C i H E)->FN K C vs H Q E
variable{g:Int}
theorem Er(h:Bb g xs=none):∃ns:qR,xs=ns.map V.int/\∀n∈ns,0<=n/\n<g:=by
 unfold Bb at h;rw[cf]at h
 induction xs with
 |nil=>exact⟨[],rfl,λn z=>qE z (by simp)⟩
 |cons x xs ih =>
  obtain⟨ns,e,b⟩:=ih λy hy=>h y (aa _ hy)
  have hx:=h x ah;cases x with
  |int i =>
   simp only[Po,Bool.not_eq_false',Bool.and_eq_true,decide_eq_true_eq]at hx;exact⟨i::ns,by rw[e];rfl,λn z=>(aw.mp z).elim (λq=>q▸hx) (b n)⟩
  |_=>simp[Po]at hx
theorem Cu{ns:qR}(h:∀n∈ns,0<=n/\n<g):Bb g (ns.map V.int)=none:=by unfold Bb;rw[cf];intro x hx;obtain⟨n,hn,e⟩:=bL.mp hx;subst e;have q:=h n hn;simp[Po,q.1,q.2]
theorem Ch{ns:qR}:∀x∈ns.map V.int,Kd H x:=λx hx=>by obtain⟨n,_,e⟩:=bL.mp hx;subst e;exact True.intro
end L2
namespace L2
open PySem
variable{D:G1}{H H' H1:Hp}{dx:qM}{g:Int}{i:Nat}{o:HO}{xs:List V}{σ:St}
theorem B6{t:TS}(Z:Hp->Prop)(hz:Z H')(h:∀H2,Z H2->t D σ H2):t D σ H':=h H' hz
theorem DZ{ns ms:qR}(h:ns.map V.int=ms.map V.int):ns=ms:=(List.map_inj_right (f:=V.int) λ_ _ e=>V.int.inj e).mp h
theorem Es{ea:qM}{o2 o3:HO}(e:AJ H H1)(hea:H1 ea=none)(hdx:Ai H1 ea o dx=none):AJ H (FM (Ai (Ai (Ai H1 ea o) ea o2) dx o3) ea):=λb u q=>by have q1:=e b u q;have n1:=A3 q1 hea;have n2:=A3 q1 (CQ hdx).2;rw[B5 n1,AR n2,AR n1,AR n1];exact q1
theorem Et{x:V}(hb:Bb g (xs.take i)=none)(hx:xs[i]?=some x)(hs:Po g x=true):Bb g (xs.take (i+1))=none:=by
 unfold Bb at *;rw[cf]at hb⊢;intro y hy;rw[cQ,hx]at hy;rcases ar.mp hy with z|z
 ·exact hb y z
 ·have e:y=x:=by simpa using z
  rw[e,hs];rfl
theorem Eu{x:V}(hb:Bb g (xs.take i)=none)(hx:xs[i]?=some x)(hs:Po g x=false):Bb g xs=some i:=by
 obtain⟨hi,ex⟩:=ae.mp hx
 have e:xs=xs.take i++x::xs.drop (i+1):=by rw[<-ex,<-List.drop_eq_getElem_cons hi,List.take_append_drop]
 unfold Bb at *;rw[e,List.findIdx?_append,hb];simp[List.findIdx?_cons,hs,List.length_take];lia
theorem Ev{ns:qR}{x:V}(h:(ns.map V.int)[i]?=some x):∃n,ns[i]?=some n/\x=.int n:=by rw[ay]at h;obtain⟨n,e1,e2⟩:=bH.mp h;exact⟨n,e1,e2.symm⟩
theorem Pp{n:Int}{ns:qR}(h:ns[i]?=some n):CD g (ns.take (i+1))=CD g (ns.take i)*g+n:=by unfold CD Lv;rw[cQ,h,List.foldl_append];rfl
noncomputable def low(g:Int):qR->Int
 |[]=>0
 |x::r=>x+g*low g r
theorem Kk(g x:Int):∀l:qR,low g (l++[x])=low g l+x*g^l.length
 |[]=>by simp[low]
 |y::l=>by
  rw[cn,low,low,Kk g x l,a9,bX,Int.mul_add,Int.add_assoc]
  congr 2
  rw[cv g,Int.mul_assoc]
theorem Kl(g x:Int)(l:qR):CD g (l++[x])=CD g l*g+x:=by unfold CD Lv;rw[List.foldl_append];rfl
theorem Gk(g:Int):∀l:qR,CD g l.reverse=low g l
 |[]=>rfl
 |x::l=>by rw[List.reverse_cons,Kl,Gk g l,low,cv,Int.add_comm]
theorem Mz(g:Int)(ns:qR):CD g ns=low g ns.reverse:=by rw[<-Gk,dO]
end L2
namespace L2
open PySem PySem.Spec PyProof.Rows
variable{C I a it l:qM}{D:G1}{E Q:qL->qN->Prop}{H H':Hp}{T:String}{W:St->XK}{X:Cx}{a0 d9 cls doc oc pm t u:qL}{an od:Option qM}{es:List Expr}{fd:FuncData}{fp:List qM}{h h' h1:Heap}{i k t':Nat}{items:Array qL}{its:List qL}{lo:Int}{osl:Array (Option qL)}{ad:List (qM×Obj)}{pos:Pos}{ps:List Str}{qual x:Str}{s s':qN}{scope:Scope}{st:Stmt}{ta:TA}{te:TE}{tg:Expr}{xs:List V}{α:Type}{σ:St}
mutual
inductive F4(K:qQ)(H:Hp):V->PyData->Prop
 |non:F4 K H .non .none
 |bl (b:Bool):F4 K H (.bl b) (.bool b)
 |int (i:Int):F4 K H (.int i) (.int i)
 |str (x:Str):F4 K H (.str x) (.str x)
 |lst {a:qM} {xs:List V} {ds:List PyData}:Ag K H a xs->HE K H xs ds->F4 K H (.ref a) (.list ds)
 |tup {a:qM} {xs:List V} {ds:List PyData}:Ar K H a xs->HE K H xs ds->F4 K H (.ref a) (.tuple ds)
inductive HE(K:qQ)(H:Hp):List V->List PyData->Prop
 |nil:HE K H [] []
 |cons {x:V} {xs:List V} {d:PyData} {ds:List PyData}:F4 K H x d->HE K H xs ds->HE K H (x::xs) (d::ds)
end
theorem F4.reads(I:AX X ad σ H s){x:V}{d:PyData}(h:F4 X.K H x d)(r:Av x u):∃as,Reads s.heap u d as:=by
 revert u
 refine F4.rec (motive_1:=λx d _=>∀{u:qL},Av x u->∃as,Reads s.heap u d as) (motive_2:=λxs ds _=>∀{us:List qL},Au xs us->∃as,ReadsAll s.heap us ds as) ?_ ?_ ?_ ?_ ?_ ?_ ?_ ?_ h
 ·intro _ r;cases r;exact⟨_,.none⟩
 ·intro b _ r;cases r;exact⟨_,.bool b⟩
 ·intro i _ r;obtain⟨t,e⟩:=r;subst e;exact⟨_,.int i t⟩
 ·intro x _ r;obtain⟨t,e⟩:=r;subst e;exact⟨_,.str x t⟩
 ·intro _ _ _ hq _ ih _ r;cases r;obtain⟨its,rv,⟨o,n,e,c,_,d⟩,_⟩:=I.list hq;obtain⟨as,q⟩:=ih rv;exact⟨_,.list e c d (by simpa using q)⟩
 ·intro _ _ _ hq _ ih _ r;cases r;obtain⟨its,rv,⟨o,e,c,n,d⟩,_⟩:=I.tuple hq;obtain⟨as,q⟩:=ih rv;exact⟨_,.tuple e c d (by simpa using q)⟩
 ·intro _ r;cases r;exact⟨_,.nil⟩
 ·intro _ _ _ _ _ _ ih1 ih2 _ r;cases r with
  |cons r rr =>
   obtain⟨as,q⟩:=ih1 r;obtain⟨bs,q2⟩:=ih2 rr;exact⟨_,.cons q q2⟩
def Zi(K:qQ):R2:=λx y H Q=>∃d e,F4 K H x d/\F4 K H y e/\d.canLay0=true/\e.canLay0=true/\d.depth<=60/\Q (.bl (PyData.eqv d e)) H
theorem UP(hu:X.A.units+64<cLine):GO X (compareOp .Eq) (Zi X.K):=by intro ad s σ H x y v u Q I rx ry h;obtain⟨d,e,hd,he,c1,c2,dd,q⟩:=h;obtain⟨as,r1⟩:=hd.reads I rx;obtain⟨bs,r2⟩:=he.reads I ry;have z:=SeqAt.rcAt_reads (A:=X.A) r1 r2 c1 c2 (by have:=Nat.min_le_left d.depth e.depth;lia);exact z X.prog X.w X.xe _ ⟨.bl _,H,I,rfl,q⟩
theorem Wp{it:Expr}{w1 w2:TI}(h1:PI X tg it w1)(h2:PI X tg it w2):PI X tg it (λσ H R=>w1 σ H R\/w2 σ H R):=λad s σ H R I h=>h.elim (λq=>h1 ad s σ H R I q) λq=>h2 ad s σ H R I q
theorem aO{K:qQ}(h:PySem.W.kitOne K t (.type T)=some true)(r:List qL):PySem.W.kitAny K t (.type T::r)=some true:=by unfold PySem.W.kitAny;rw[h]
theorem Rm{K:qQ}{r:List qL}{b:Bool}(h:PySem.W.kitOne K t (.type T)=some false)(h2:PySem.W.kitAny K t r=some b):PySem.W.kitAny K t (.type T::r)=some b:=by unfold PySem.W.kitAny;rw[h];exact h2
section
variable{K:qQ}
theorem Wq:PySem.W.kitOne K (.type "NoneType") (.type "list")=some false:=by kernel_rfl
theorem Wr:PySem.W.kitOne K (.type "NoneType") (.type "tuple")=some false:=by kernel_rfl
theorem Ws:PySem.W.kitOne K (.type "str") (.type "list")=some false:=by kernel_rfl
theorem Wt:PySem.W.kitOne K (.type "str") (.type "tuple")=some false:=by kernel_rfl
theorem Wu:PySem.W.kitOne K (.type "int") (.type "list")=some false:=by kernel_rfl
theorem Wv:PySem.W.kitOne K (.type "int") (.type "tuple")=some false:=by kernel_rfl
theorem Ww:PySem.W.kitOne K (.type "bool") (.type "list")=some false:=by kernel_rfl
theorem Wx:PySem.W.kitOne K (.type "bool") (.type "tuple")=some false:=by kernel_rfl
end
theorem Km{K:qQ}(h:X.K=K):UC X (RU K):=h▸Mt
theorem HI:Manifest.owners.lookup (String.ofList ['d','e','s','r','e','v','e','r'].reverse)=some Manifest.sig_reversed:=by kernel_rfl
theorem B7:Slot "reversed" "__next__" "reversed.__next__":=.of (owner:="reversed") (n:="__next__") (by rw[typeLookup_type,builtinLookup_eq_fast];kernel_rfl) (by decide +kernel) (by decide +kernel) (by decide +kernel) (by first|exact .inl (by decide +kernel)|exact .inr (by decide +kernel)) (by rw[isSubtype_type];kernel_rfl)
theorem Ei:entryFor table "reversed.__next__"=some Builtin.«reversed.__next__»:=entryFor_of_tree (by kernel_rfl)
theorem FO(a:qL):argsOk "reversed.__next__" ⟨[a],[]⟩:=by unfold argsOk;rw[signature?_of (id:="reversed.__next__") (n:=['_','_','t','x','e','n','_','_']) (o:=['d','e','s','r','e','v','e','r']) (by kernel_rfl) HI];kernel_rfl
theorem FP:Slot "reversed" "__iter__" "reversed.__iter__":=.of (owner:="reversed") (n:="__iter__") (by rw[typeLookup_type,builtinLookup_eq_fast];kernel_rfl) (by decide +kernel) (by decide +kernel) (by decide +kernel) (by first|exact .inl (by decide +kernel)|exact .inr (by decide +kernel)) (by rw[isSubtype_type];kernel_rfl)
theorem Ji(a:qL):argsOk "reversed.__iter__" ⟨[a],[]⟩:=by unfold argsOk;rw[signature?_of (id:="reversed.__iter__") (n:=['_','_','r','e','t','i','_','_']) (o:=['d','e','s','r','e','v','e','r']) (by kernel_rfl) HI];kernel_rfl
theorem IS:entryFor table "reversed.__iter__"=some Builtin.«dict_keyiterator.__iter__»:=entryFor_alias (id':="dict_keyiterator.__iter__") (by kernel_rfl) (by first|rfl|decide +kernel|(unfold String.splitOn;simp +decide [String.splitOnAux])) (by decide +kernel) (by kernel_rfl)
theorem OJ:typeLookup (.type "tuple") "__reversed__"=pure none:=by rw[typeLookup_type,builtinLookup_eq_fast];kernel_rfl
theorem OK:typeLookup (.type "reversed") "__len__"=pure none:=by rw[typeLookup_type,builtinLookup_eq_fast];kernel_rfl
theorem Pq:typeLookup (.type "reversed") "__length_hint__"=pure (some (.builtin "reversed.__length_hint__")):=by rw[typeLookup_type,builtinLookup_eq_fast];kernel_rfl
theorem Jj:isSubtype (.type "tuple") (.type "dict")=pure false:=by rw[isSubtype_type];kernel_rfl
noncomputable def Kn(l:qM)(i:Int):Obj:={cls:=.type "reversed",data:=.fields #[.ref l,rawInt i]}
def Da(h:Heap)(a l:qM)(i:Int):Prop:=∃o,h.get? a=some o/\o.cls=.type "reversed"/\o.data=.fields #[.ref l,rawInt i]
theorem Da.ty{i:Int}(x:Da s.heap a l i):s.TypeIs (.ref a) "reversed":=by obtain⟨o,ho,hc,_⟩:=x;exact⟨o,ho,hc⟩
theorem Da.at{i:Int}(x:Da h a l i)(e:∀o,h.get? a=some o->h'.get? a=some o):Da h' a l i:=by obtain⟨o,ho,r⟩:=x;exact⟨o,e _ ho,r⟩
section
variable{prog:qO}{w:qP}{A:Around}
theorem Jk:Slot "reversed" "__init__" "object.__init__":=.of (owner:="object") (n:="__init__") (by rw[typeLookup_type,builtinLookup_eq_fast];kernel_rfl) (by decide +kernel) (by decide +kernel) (by decide +kernel) (by first|exact .inl (by decide +kernel)|exact .inr (by decide +kernel)) (by rw[isSubtype_type];kernel_rfl)
theorem OL:TypeCalled "reversed" "reversed.__new__" "object.__init__":=⟨by decide +kernel,by decide +kernel,⟨_,_,F.mro_reversed⟩,F.made_reversed,by decide +kernel,by rw[isSubtype_type];kernel_rfl,Jk⟩
theorem OM(l:qM)(items:Array qL)(hz:(items.size:Int)<2^63):Meets (Builtin.«reversed.__new__» ⟨[.type "reversed",.ref l],[]⟩) (λ_ R s=>IsTup s.heap l items /\
  ∀tk,R (.ok (.ret (.ref s.heap.objs.size))) {s with heap:=s.heap.push (Kn l ((items.size:Int)-1)),toks:=tk}):=.of_wp λprog w A R s h=>by
 obtain⟨hl,h⟩:=h;have nc:Builtin.SmallTypes.newClass "reversed" ⟨[.type "reversed",.ref l],[]⟩=pure (.type "reversed",[.ref l]):=newClass_reversed _;unfold Builtin.«reversed.__new__»;refine qA (wpAny_of_eq nc ?_)
 try dsimp only
 refine qA (wpAny_of_eq (a:=()) (by first|rfl|kernel_rfl) ?_);refine qA (wpAny_of_eq (a:=()) (by first|rfl|kernel_rfl) ?_)
 try dsimp only
 refine qA (wpAny_specialOf hl.typeIs OJ ?_)
 try dsimp only
 refine qA ?_;show wpAny _ _ (isInstance (Value.ref l) (.type "dict") >>= _) _ _ _;refine qA (wpAny_isInstance (T:="tuple") (b:=false) hl.typeIs Jj ?_);show wpAny _ _ (specialOf (Value.ref l) "__getitem__" >>= _) _ _ _;refine qA (wpAny_specialOf hl.typeIs slot_tuple_getitem.lookup ?_);refine qB (a:=true) ?_;show wpAny _ _ (call (Value.builtin "len") [Value.ref l] >>= _) _ _ _;refine qA (len_tuple hl hz ?_);refine qA (wpAny_of_eq (a:=some (items.size:Int)) rfl ?_);show wpAny _ _ (newObj (.type "reversed") (.fields #[Value.ref l,rawInt ((items.size:Int)-1)]) >>= _) _ _ _;refine qA (wpAny_newObj_type ?_ (by size_fits));exact qB ⟨_,rfl,h _⟩
theorem Pr(hl:IsTup s.heap l items)(hz:(items.size:Int)<2^63)(h:∀tk,Q (.ref s.heap.objs.size) {s with heap:=s.heap.push (Kn l ((items.size:Int)-1)),toks:=tk}):
  wpAny (model prog w) A (call (.type "reversed") [.ref l]) Q E s:=
 callType_new OL (by decide) (F.typeCall_reversed_1 _) (F.newCall_reversed_1 _) (λobj=>F.args_object_init_2 obj _) F.entry_reversed_new (OM l items hz) ⟨hl,λtk=>⟨⟨_,aj _ rfl,rfl⟩,h tk⟩⟩
theorem Ps{x:qL}{Q:Option qL->qN->Prop}(hit:Da s.heap it l (i:Int))(hl:IsTup s.heap l items)(hz:(items.size:Int)<2^63)(hx:items[i]?=some x)
  (hQ:∀h' tk,Da h' it l ((i:Int)-1)->Heap.SameBut it s.heap h'->Q (some x) {s with heap:=h',toks:=tk}):wpAny (model prog w) A (pyNext (.ref it)) Q E s:=by
 obtain⟨o,ho,hc,hd⟩:=id hit;have hi:i<items.size:=(cC.mp hx).1;unfold pyNext;refine qA (wpAny_attempt (wpAny_callSpecial?_slot (name:=Str.ofString "__next__") hit.ty B7 (wpAny_call_entry B7 hit.ty Ei ?_ (FO _))));unfold Builtin.«reversed.__next__»;refine qA (wpAny_of_eq (a:=(Value.ref it,[])) rfl ?_)
 try dsimp only
 refine qA (wpAny_field ho hd (x:=.ref l) rfl ?_);refine qA (wpAny_field ho hd (x:=rawInt (i:Int)) rfl ?_);show wpAny _ _ (if (i:Int)<0 then _ else _) _ _ _;rw[qC (by lia)];refine qA (wpAny_specialOf hl.typeIs slot_tuple_getitem.lookup ?_);show wpAny _ _ (mkInt (i:Int) >>= _) _ _ _;refine qA (wpAny_mkInt ?_);refine qA (wpAny_attempt (getItem_tuple (j:=i) (s:={s with toks:=s.toks+1}) hl (by lia) (by lia) (Ms (show OA items.size ((i:Nat):Int)=some i by unfold OA;rw[qD (by lia),qD (by lia),Int.toNat_natCast])).1 hx ?_));show wpAny _ _ (field (Value.ref it) 1 >>= _) _ _ _;refine qA (wpAny_field (s:={s with toks:=s.toks+1}) ho hd (x:=rawInt (i:Int)) rfl ?_);show wpAny _ _ (setField (Value.ref it) 1 (rawInt ((i:Int)-1)) >>= _) _ _ _;refine qA (wpAny_setField (s:={s with toks:=s.toks+1}) ho hd (by simp) ?_);refine qB ⟨x,rfl,qB (hQ _ _ ⟨_,bG _ ho (Obj.isFreed_of_fields (Obj.data_mapFields hd _)),(Obj.cls_mapFields ..).trans hc,?_⟩ (Heap.SameBut.update ..))⟩;rw[Obj.data_mapFields hd];simp
theorem Rn{Q:Option qL->qN->Prop}(hh:A.handled=none)(hit:Da s.heap it l (-1))(hQ:∀h' tk,(∀b o,b≠it->s.heap.get? b=some o->h'.get? b=some o)->Q none {s with heap:=h',toks:=tk}):wpAny (model prog w) A (pyNext (.ref it)) Q E s:=by
 obtain⟨o,ho,hc,hd⟩:=id hit;unfold pyNext;refine qA (wpAny_attempt (wpAny_callSpecial?_slot (name:=Str.ofString "__next__") hit.ty B7 (wpAny_call_entry B7 hit.ty Ei ?_ (FO _))));unfold Builtin.«reversed.__next__»;refine qA (wpAny_of_eq (a:=(Value.ref it,[])) rfl ?_)
 try dsimp only
 refine qA (wpAny_field ho hd (x:=.ref l) rfl ?_);refine qA (wpAny_field ho hd (x:=rawInt (-1)) rfl ?_);show wpAny _ _ (if (-1:Int)<0 then _ else _) _ _ _;rw[qD (by decide)];refine qA (wpAny_rule ?_);refine qA ?_;show wpAny _ _ (setField (Value.ref it) 1 (rawInt (-1)) >>= λ_=>setField (Value.ref it) 0 Value.none) _ _ _;refine qA (wpAny_setField ho hd (by simp) ?_);have ho2:=bG (Obj.mapFields (·.setIfInBounds 1 (rawInt (-1)))) ho (Obj.isFreed_of_fields (Obj.data_mapFields hd _));refine wpAny_setField ho2 (Obj.data_mapFields hd _) (by simp) ?_;show wpAny _ _ ((newExc (.type "StopIteration") [] >>= λe=>raiseNew e) >>= _) _ _ _;refine qA (qA ?_);simp only[newExc,newTuple];refine qA (wpAny_newObj_type ?_ (by size_fits));refine qA (m:=firstArgMember _ _) (wpAny_of_eq (a:=Value.none) (by first|rfl|(simp only[firstArgMember];rfl)) ?_);refine wpAny_newObj_type ?_ (by size_fits);unfold raiseNew;refine qA (wpAny_handled ?_);rw[show A.in1.handled=none from hh];refine qA (qB (wpAny_throw ?_));refine qA (wpAny_isInstance (T:="StopIteration") (b:=true) ⟨_,aj _ rfl,rfl⟩ isSubtype_stop ?_);refine qB (hQ _ _ λb u hb z=>?_);exact aZ _ (aZ _ ((cu _ _ _ _ hb).trans ((cu _ _ _ _ hb).trans z)))
theorem Ko{i:Int}(hit:Da s.heap it l i)(h:Q (.ref it) s):wpAny (model prog w) A (pyIter (.ref it)) Q E s:=by refine wpAny_pyIter_slot hit.ty FP (wpAny_call_entry FP hit.ty IS ?_ (Ji _));show wpAny _ _ (ret (.ref it)) _ _ s;exact qB ⟨_,rfl,"reversed",_,hit.ty,B7.lookup,h⟩
theorem ON(hh:A.handled=none)(it l:qM)(hne:l≠it)(items:Array qL)(hz:(items.size:Int)<2^63):
  Walks prog w A it [it,l] [it] items.size (λi v=>items[items.size-1-i]?=some v) (λi h=>i<=items.size/\Da h it l ((items.size:Int)-1-(i:Int))/\IsTup h l items) where
 sub:=λb hb=>by simp at hb;simp[hb]
 frame:=λ_ _ _ x hk=>⟨x.1,x.2.1.at λo e=>hk it (by simp) o e,by obtain⟨o,ho,r⟩:=x.2.2;exact⟨o,hk l (by simp) o ho,r⟩⟩
 item:=λi s Q E hi x hQ=>by
  have e:(items.size:Int)-1-(i:Int)=((items.size-1-i:Nat):Int):=by lia
  have hit:=x.2.1;rw[e]at hit;have hx:items[items.size-1-i]?=some (items[items.size-1-i]'(by lia)):=bt (by lia);refine Ps hit x.2.2 hz hx λh' tk hit' hs'=>?_;have e2:((items.size-1-i:Nat):Int)-1=(items.size:Int)-1-((i+1:Nat):Int):=by lia
  rw[e2]at hit';refine hQ _ h' tk hx ⟨hi,hit',?_⟩ λb o hb eo=>hs'.extBut b o (λh=>hb (by simp[h])) eo
  obtain⟨o,ho,r⟩:=x.2.2;exact⟨o,(hs'.2 l hne).trans ho,r⟩
 done:=λs Q E x hQ=>by
  have e:(items.size:Int)-1-(items.size:Int)=-1:=by lia
  have hit:=x.2.1;rw[e]at hit;exact Rn hh hit λh' tk k=>hQ h' tk λb o hb eo=>k b o (λh=>hb (by simp[h])) eo
 self:=λ_ _ _ _ x hQ=>Ko x.2.1 hQ
theorem FQ:Slot "reversed" "__length_hint__" "reversed.__length_hint__":=.of (owner:="reversed") (n:="__length_hint__") (by rw[typeLookup_type,builtinLookup_eq_fast];kernel_rfl) (by decide +kernel) (by decide +kernel) (by decide +kernel) (by first|exact .inl (by decide +kernel)|exact .inr (by decide +kernel)) (by rw[isSubtype_type];kernel_rfl)
theorem IT:entryFor table "reversed.__length_hint__"=some Builtin.«reversed.__length_hint__»:=entryFor_of_tree (by kernel_rfl)
theorem Jl(a:qL):argsOk "reversed.__length_hint__" ⟨[a],[]⟩:=by unfold argsOk;rw[signature?_of (id:="reversed.__length_hint__") (n:=['_','_','t','n','i','h','_','h','t','g','n','e','l','_','_']) (o:=['d','e','s','r','e','v','e','r']) (by kernel_rfl) HI];kernel_rfl
theorem Pu{Q:Bool->qN->Prop}(hit:Da s.heap I l ((items.size:Int)-1))(hl:IsTup s.heap l items)(hz:items.size<=sizeLine)(q:∀b tk,Q b {s with toks:=tk}):wpAny (model prog w) A (Builtin.List.listLengthHint (.ref I)) Q E s:=by
 have hT:=hit.ty;have hz2:(items.size:Int)<2^63:=by have:=D8;lia
 refine byG λGq hGq=>?_;obtain⟨o,ho,hc,hd⟩:=id hit;refine hGq ?_;clear hGq Gq;unfold Builtin.List.listLengthHint;refine qA (wpAny_specialOf hT OK ?_);show wpAny _ A (specialOf (Value.ref I) (Str.ofString "__length_hint__") >>= _) _ _ _;refine qA (wpAny_specialOf hT Pq ?_);generalize hz:("reversed.__length_hint__":String)=zz
 wp_delta
 rw[show splitId zz=some ("reversed","__length_hint__") from by subst hz;decide +kernel];subst hz;refine qA (wpAny_isInstance (b:=true) hT (by rw[isSubtype_type];kernel_rfl) ?_);simp only[Bool.not_true,Bool.false_eq_true,if_false];split
 ·rename_i hsil
  exact qE hsil (by decide +kernel)
 refine qA (wpAny_rule ?_);refine qA (wpAny_of_eq (FQ.bind _) ?_)
 try dsimp only
 refine qA (wpAny_attempt (wpAny_call_entry FQ hT IT ?_ (Jl _)));unfold Builtin.«reversed.__length_hint__»;refine qA (wpAny_of_eq (a:=Value.ref I) rfl ?_);refine qA (wpAny_field ho hd (x:=.ref l) rfl ?_);rw[qC (by simp)];refine qA (len_tuple hl hz2 ?_);refine qA (wpAny_of_eq (a:=some (items.size:Int)) rfl ?_);show wpAny _ _ (field (Value.ref I) 1 >>= _) _ _ _;refine qA (wpAny_field (s:={s with toks:=s.toks+1+1}) ho hd (x:=rawInt ((items.size:Int)-1)) rfl ?_);show wpAny _ _ (if (items.size:Int)<((items.size:Int)-1)+1 then _ else retInt (((items.size:Int)-1)+1)) _ _ _;rw[qC (by lia)];show wpAny _ _ (mkInt (((items.size:Int)-1)+1) >>= _) _ _ _;refine qA (wpAny_mkInt (qB ⟨_,rfl,?_⟩));show wpAny _ _ (asInt? (Value.int (((items.size:Int)-1)+1) _) >>= _) _ _ _;refine qA (wpAny_of_eq (a:=some (((items.size:Int)-1)+1)) rfl ?_);have en:((items.size:Int)-1)+1=(items.size:Int):=by lia
 rw[en]
 have f1:Builtin.List.listFitsIndex (items.size:Int)=true:=by unfold Builtin.List.listFitsIndex;simp;lia
 have f2:Builtin.List.listTooLong (items.size:Int).toNat=false:=by rw[bI];exact Kc hz
 show wpAny _ _ (if (!Builtin.List.listFitsIndex (items.size:Int))=true then _ else (if (items.size:Int)<0 then _ else (if Builtin.List.listTooLong (items.size:Int).toNat=true then _ else pure ((items.size:Int) != 0)))) _ _ _;rw[qC (by rw[f1];decide),qC (by lia),qC (by rw[f2];decide)];exact qB (q _ _)
theorem Kp{Q:qL->qN->Prop}(hh:A.handled=none)(hIl:l≠I)(hit:Da s.heap I l ((items.size:Int)-1))(hl:IsTup s.heap l items)(hz:items.size<=sizeLine)
  (hQ:∀h' tk c' d8,(∀b o,b≠I->s.heap.get? b=some o->h'.get? b=some o)->h'.get? s.heap.objs.size=some {cls:=.type "list",dict:=none,data:=.seq d8 c',slots:=#[]} ->
   d8.toList=items.toList.reverse->Q (.ref s.heap.objs.size) {s with heap:=h',toks:=tk}):wpAny (model prog w) A (call (.type "list") [.ref I]) Q E s:=by
 have hz2:(items.size:Int)<2^63:=by have:=D8;lia
 have W:=(ON (prog:=prog) (w:=w) (A:=A.in1.in1) hh I l hIl items hz2).toS;have hIlt:I<s.heap.objs.size:=by obtain⟨o,e,_⟩:=hit;exact ag e
 have hllt:l<s.heap.objs.size:=by obtain⟨o,e,_⟩:=hl;exact ag e
 refine callType_codes (Q₁:=λobj s₁=>obj=.ref s.heap.objs.size/\s₁={s with heap:=s.heap.push {cls:=.type "list",data:=.seq #[]}}) PySem.F.called_list (PySem.F.typeCall_list_1 _) PySem.F.entry_list_init
  (code_list_new _ ⟨rfl,rfl⟩) λobj s₁ h₁=>?_
 obtain⟨rfl,rfl⟩:=h₁;have hS:(s.heap.push {cls:=.type "list",data:=.seq #[]}).get? s.heap.objs.size=some {cls:=.type "list",data:=.seq #[]}:=aj _ rfl;refine⟨⟨_,hS,rfl⟩,PySem.F.args_list_init_2 _ _,?_⟩;show wpAny _ _ (do let old <-Builtin.List.listItems (.ref s.heap.objs.size);Builtin.List.listUpdate (.ref s.heap.objs.size) (λ_=>#[]);letGo old.toList.reverse;Builtin.List.listExtendWith (.ref s.heap.objs.size) (.ref I) .none) _ _ _;refine qA ?_;unfold Builtin.List.listItems;refine qA (wpAny_seqItems hS rfl (qB ?_));show wpAny _ _ (updateSeq s.heap.objs.size (λ_=>#[]) >>= λ_=>letGo (#[]:Array qL).toList.reverse >>= λ_=>Builtin.List.listExtendWith (.ref s.heap.objs.size) (.ref I) .none) _ _ _;refine qA (wpAny_updateSeq hS rfl ?_);have hS2:=bG (Obj.mapSeq (λ_=>(#[]:Array qL))) hS rfl
 have kp:∀b o,s.heap.get? b=some o->((s.heap.push {cls:=.type "list",data:=.seq #[]}).update s.heap.objs.size (Obj.mapSeq (λ_=>(#[]:Array qL)))).get? b=some o:=
  λb o e=>(ba _ _ (bo (ag e))).trans (aZ _ e)
 refine qA (wpAny_letGo ?_);have hit2:=hit.at λo e=>kp I o e
 have hl2:IsTup ((s.heap.push {cls:=.type "list",data:=.seq #[]}).update s.heap.objs.size (Obj.mapSeq (λ_=>(#[]:Array qL)))) l items:=by obtain⟨o,ho,r⟩:=hl;exact⟨o,kp l o ho,r⟩
 unfold Builtin.List.listExtendWith;refine qA (wpAny_typeOf (T:="reversed") (Da.ty (s:={s with heap:=(s.heap.push {cls:=.type "list",data:=.seq #[]}).update s.heap.objs.size (Obj.mapSeq (λ_=>(#[]:Array qL)))}) hit2) ?_);have h1:Builtin.List.listSameRef (.ref s.heap.objs.size) (.ref I)=false:=by simp[Builtin.List.listSameRef,Nat.ne_of_gt hIlt]
 rw[qC (by rw[h1];decide)];refine qA (Ko (s:={s with heap:=(s.heap.push {cls:=.type "list",data:=.seq #[]}).update s.heap.objs.size (Obj.mapSeq (λ_=>(#[]:Array qL)))}) hit2 ?_);refine qA (qJ (Pu (s:={s with heap:=(s.heap.push {cls:=.type "list",data:=.seq #[]}).update s.heap.objs.size (Obj.mapSeq (λ_=>(#[]:Array qL)))}) hit2 hl2 hz λroom tk1=>?_))
 have nf:s.heap.objs.size∉[I,l]:=by simp only[List.mem_cons,List.not_mem_nil,or_false,not_or];exact⟨bo hIlt,bo hllt⟩
 have fin:∀(h3:Heap) (c3:Nat),(∀b o,s.heap.get? b=some o->h3.get? b=some o)->h3.get? s.heap.objs.size=some {cls:=.type "list",dict:=none,data:=.seq #[] c3,slots:=#[]} ->
   wpAny (model prog w) A.in1.in1 (again (.builtin "list.extend.loop" ⟨[.ref s.heap.objs.size,.ref I,.none],[]⟩)) (λfin s'=>match fin with
    |Fin.done f=>wants (λr s₂=>r=Value.none/\Q (Value.ref s.heap.objs.size) s₂) E (Except.ok f) s'
    |Fin.again c'=>c'.quiet=true/\codeAny (model prog w) A.in1 c' (wants (λr s₂=>r=Value.none/\Q (Value.ref s.heap.objs.size) s₂) E) s') (λe s'=>wants (λr s₂=>r=Value.none/\Q (Value.ref s.heap.objs.size) s₂) E (Except.error e) s') {s with heap:=h3,toks:=tk1}:=by
  intro h3 c3 k3 g3;have hit3:=hit.at λo e=>k3 I o e
  have hl3:IsTup h3 l items:=by obtain⟨o,ho,r⟩:=hl;exact⟨o,k3 l o ho,r⟩
  refine qB ⟨plainId_quiet PySem.F.plain_extend_loop _,codeAny_extend_loopS W hz _ nf _ items.size 0 _ _ _ rfl (Nat.zero_le _) ⟨Nat.zero_le _,by simpa using hit3,hl3⟩ g3 (ItemsOf.nil _) λs' d8 c' hm hS' hacc=>?_⟩;refine⟨rfl,?_⟩;rw[Moved.eq_with hm];refine hQ s'.heap s'.toks c' d8 (λb o hb e=>hm.heap b o (λz=>?_) (k3 b o e)) hS' ?_
  ·rcases aw.mp z with z|z
   ·exact qE (ag e) (by rw[z];exact bM _)
   ·exact hb (ak.mp z)
  ·apply List.ext_getElem?;intro i
   by_cases hi:i<items.size
   ·have hi2:i<d8.size:=by rw[hacc.1];exact hi
    have p:=hacc.2 i d8[i] (bt hi2);rw[List.getElem?_reverse (by simpa using hi),Array.getElem?_toList,Array.getElem?_eq_getElem hi2,Array.getElem?_toList,Array.length_toList];exact p.symm
   ·rw[cF (by rw[ai,hacc.1];lia),cF (by rw[cr,ai];lia)]
 cases room with
 |false =>
  dsimp only;split
  ·rename_i hx
   exact qE hx (by decide +kernel)
  ·exact fin _ _ kp hS2
 |true =>
  dsimp only;split
  ·refine qA (wpAny_rule (qA ?_));show wpAny _ _ (updateSeq s.heap.objs.size (·.push .none) >>= λ_=>updateSeq s.heap.objs.size (·.pop)) _ _ _;refine qA (wpAny_updateSeq hS2 rfl ?_);have hS3:=bG (Obj.mapSeq (·.push Value.none)) hS2 rfl;refine wpAny_updateSeq hS3 rfl ?_;have hS4:=bG (Obj.mapSeq (·.pop)) hS3 rfl;refine fin _ _ (λb o e=>?_) hS4;have nb:s.heap.objs.size≠b:=bo (ag e);exact (ba _ _ nb).trans ((ba _ _ nb).trans (kp b o e))
  ·rename_i hx
   exact qE rfl hx
end
def Pw(K:qQ)(ta:TA):TE:=λσ H Q=>ta σ H λvs H1=>∃a xs,vs=[.ref a]/\Ar K H1 a xs/\∀p,H1 p=none->Q (.ref p) (Ai H1 p (.lst xs.reverse))
theorem Px{l:Expr}{p1 p2 pos1 pos2:Pos}(hc:X.calm=true)(hg:Gl X "reversed")(hm:X.mg "reversed"=none)(hg2:Gl X "list")(hm2:X.mg "list"=none)(ha:PA X [l] ta)(hs:starEach [l] X.env=[(false,eval l X.env)]:=by rfl)
  (hs2:starEach [.Call (.Name "reversed" p1) [l] [] pos1] X.env=[(false,eval (.Call (.Name "reversed" p1) [l] [] pos1) X.env)]:=by rfl):
  PE X (.Call (.Name "list" p2) [.Call (.Name "reversed" p1) [l] [] pos1] [] pos2) (Pw X.K ta):=by
 intro ad s σ H Q I h;refine Call_ (Cq I hg2 hm2 PyProof.Rows.boot_list (bK (T:="list") ?_ hs2 rfl));rw[hs2];show wpAny _ _ (spliced ((false,eval (.Call (.Name "reversed" p1) [l] [] pos1) X.env)::[])) _ _ s;refine Calls.spliced_cons (Call_ (Cq I hg hm boot_reversed (bK (A8 (ha pos1 ad s σ H _ I h) λus s1 z9=>?_) hs rfl)));obtain⟨vs,H1,I1,r1,q1⟩:=z9;refine byG λGq hGq=>?_;obtain⟨a,xs,e,hq,q⟩:=q1;refine hGq ?_;clear hGq Gq;subst e;cases r1 with
 |cons r rr =>
  cases rr;cases r;refine byG λGq hGq=>?_;obtain⟨its,rv,pl,hz⟩:=I1.tuple hq;refine hGq ?_;clear hGq Gq;have hlen:=rv.length;have hz2:((its.toArray.size:Nat):Int)<2^63:=by have:=D8;rw[bS];lia
  refine Pr pl hz2 λtk0=>?_;refine Calls.spliced_nil ?_;have ne:a≠s1.heap.objs.size:=by obtain⟨o,e,_⟩:=pl;exact bA (ag e)
  have hL:IsTup (s1.heap.push (Kn a ((its.toArray.size:Int)-1))) a its.toArray:=by obtain⟨o,ho,r⟩:=pl;exact⟨o,aZ _ ho,r⟩
  refine Kp (s:={s1 with heap:=s1.heap.push (Kn a ((its.toArray.size:Int)-1)),toks:=tk0}) (I.ok.hd hc) ne ⟨_,aj _ rfl,rfl,rfl⟩ hL (by rw[bS,<-hlen];exact hz) λh' tk c' d8 kp hD hacc=>?_;have kp2:∀b o,s1.heap.get? b=some o->h'.get? b=some o:=λb o e=>kp b o (bA (ag e)) (aZ _ e)
  have hf:H1 (s1.heap.push (Kn a ((its.toArray.size:Int)-1))).objs.size=none:=I1.hok.fresh (by rw[bf];lia);have rv2:Au xs.reverse d8.toList:=by rw[hacc];simpa using rv.reverse
  refine⟨.ref _,_,I1.laid (t':=tk) kp2 (by rw[bf];lia) ?_,rfl,q _ hf⟩;exact⟨by rw[List.length_reverse];exact hz,d8.toList,c',rv2,by simpa using hD⟩
structure FR(P:qO)(w:qP)(K:qQ)(mg:Str->Option qL)(base:Heap)(k:Nat)(f:qM)(ps:List Str)(sp:Sp):Prop where
 ex:∃fd,DB P w K mg base (IL true P w) k f fd ps sp/\DH K fd ps []
 kp:PySem.W.keepIn K (.ref f)=true
section
variable{P:qO}{w:qP}{K:qQ}{mg:Str->Option qL}{base:Heap}{f:qM}{N:List Str}{sp:Sp}
theorem Gm(D:∃fd,BC K x qual st f fd)(S:AM N ps (AG st))(bd:DY x qual st ps)(len:∀vs H Q E,sp vs H Q E->vs.length=ps.length)
  (hbody:∀(d9:qL) (A:Around) (outer:List Env) (s:qN) (H:Hp) (vs:List V) (Q:VK) (E:XK),BL k (A.deeper (envOfC qual (AG st) s.heap.objs.size f d9))->sp vs H Q E ->
   ∃t,FD (Cg (IL true P w) P w K mg base N qual (AG st) f d9 A outer s H E) (BB st) t/\t {nx:=λ_ H'=>Q .non H',rt:=Q} (B1 N vs) H):FR P w K mg base (k+1) f ps sp:=by
 obtain⟨fd,F⟩:=D;exact⟨⟨fd,F.okX S len hbody,F.binds bd⟩,F.kp⟩
end
section
variable{f:qM}{sp:Sp}{E:St->XK}{p:Pos}{e:Expr}{t:TA}
theorem Cv(G:FR X.prog X.w X.K X.mg X.base k f ps sp)(hr:BL k X.A)(hg:Gl X x)(hm:X.mg x=some (.ref f))(hx:Bn (IL true X.prog X.w) X E)
  (ha:PA X (e::es) t) (hdb:(x==("__debug__":Str))=false:=by decide) (he:starEach (e::es) X.env=(false,eval e X.env)::starEach es X.env:=by rfl) (hpl:(backTo pos (starEach es X.env)).any (·.1)=false:=by rfl):
  PE X (.Call (.Name x p) (e::es) [] pos) (F2 sp [] E t):=by
 refine byG λGq hGq=>?_;obtain⟨⟨fd,F,b⟩,kp⟩:=G;refine hGq ?_;clear hGq Gq;exact G9 F hr hg hm kp b .nil hx ha hdb he hpl
end
noncomputable def Cx.trN(X:Cx)(p:List (qM×Obj))(W:St->XK):Cx:=X.but p λe s'=>∃ad σ H s,AX (X.but p λ_ _=>False) ad σ H s/\IL true X.prog X.w X.stack H s (W σ) e s'
section
variable{p:List (qM×Obj)}
theorem Wy:(X.trN p W).K=X.K:=rfl
theorem Kq:Bn (IL true X.prog X.w) (X.trN p W) W:=λad σ H s e s' I h=>⟨ad,σ,H,s,AX.rebut (X:=X) I,h⟩
end
noncomputable def Lw(a:qM):HO:=.ext (λh=>∃o vs,h.get? a=some o/\o.data=.fields vs/\vs[2]?=some .none)
theorem Pa.landN{D:Option qM}{B:Heap}{l:List Env}(I:AX X ad σ H s)(F:Pa true X.prog X.w X.stack H s a cls a0 D B H' s')(fl:Heap.FlyingW B l a cls a0 h')(sm:s'.heap.UpToSlots h')(dk:DK s'.heap h'):
  AX X ad σ (Ai H' a (Lw a)) {s' with heap:=h',toks:=t'}:=by
 obtain⟨u,hok⟩:=F.unAt I fl.1 sm;obtain⟨n1,n2⟩:=F.fresh;refine byG λGq hGq=>?_;obtain⟨oe,vs,he,hc,hd,_⟩:=fl.first;refine hGq ?_;clear hGq Gq;have ne:∀b o,s.heap.get? b=some o->b≠a:=λb o e z=>by rw[z,n2]at e;cases e
 have ne2:∀b o,H' b=some o->b≠a:=λb o e z=>by rw[z,n1]at e;cases e
 refine I.call' (s':={s' with heap:=h',toks:=t'}) (ch:=[]) F.os ⟨u.keep,u.slot,λb o e n hx=>?_,u.there,λb xs q=>?_,λb o v q=>?_,λb ps q=>?_⟩ (λb v q=>?_) F.bare (λb z=>qE z (by simp))
 ·rw[AR (ne b o e)];exact u.free b o e n hx
 ·have q':=u.tups b xs q;rw[AR (ne2 b _ q')];exact q'
 ·have q':=u.frzs b o v q;rw[AR (ne2 b _ q')];exact q'
 ·obtain⟨more,q'⟩:=u.tbls b ps q;exact⟨more,by rw[AR (ne2 b _ q')];exact q'⟩
 ·by_cases hb:b=a
  ·subst hb;rw[AF]at q;cases q;obtain⟨ow,hw,hwd⟩:=F.ctx rfl;refine⟨⟨oe,vs,he,hd,?_⟩,⟨oe,he⟩,λh1 h2 ⟨o,ws,e,r⟩ k=>⟨o,ws,k o e,r⟩⟩;have z:=(dk.get hw he).2.trans hwd;unfold DX at z;rw[hd]at z;exact z
  ·rw[AR hb]at q;exact (hok b v q).stay (λc v' _ r=>r) (λc z=>by rw[AR (ne2 c _ z)];exact z) λc xs z=>by rw[AR (ne2 c _ z)];exact z
def S5(X:Cx)(C:qL)(E:XK):Prop:=
 ∀(ad:List (qM×Obj)) (σ:St) (H:Hp) (s:qN) (h':Heap) (e:qM) (a0:qL) (vs:Array qL) (sl:Array (Option qL)),AX X ad σ H s->(∀b o,s.heap.get? b=some o->h'.get? b=some o)->s.heap.get? e=none ->
  h'.get? e=some ⟨C,none,.fields vs,sl⟩->vs[0]?=some a0->vs[1]?=some .none->E C none H->X.xe (.ref e) {s with heap:=h'}
section
variable{P:qO}{w:qP}{K:qQ}{mg:Str->Option qL}{base:Heap}{N:List Str}{f:qM}{cd:qL}{A:Around}{outer:List Env}{E:XK}
theorem Lx{C:qL}:S5 (Cg (FC P w) P w K mg base N qual scope f cd A outer s H E) C E:=by
 intro ad σ H1 s1 h1 e a0 vs sl I kp hen he v0 v1 hE;generalize hX:Cg (FC P w) P w K mg base N qual scope f cd A outer s H E=X at I⊢;have hst:X.stack=X.env::X.outer:=by rw[<-hX];rfl
 have hfr:X.env.frame=some X.env.locals:=by rw[<-hX];rfl
 have hxe:X.xe=λe s'=>wpAny (model P w) X.A (leaving X.env e) (λ_ s''=>FC P w X.outer X.H₀ X.s₀ E e s'') (λe' s''=>FC P w X.outer X.H₀ X.s₀ E e' s'') s':=by rw[<-hX];rfl
 have hex:X.ex=[]:=by rw[<-hX];rfl
 have hp:X.prog=P:=by rw[<-hX];rfl
 have hw:X.w=w:=by rw[<-hX];rfl
 subst hp hw;rw[hxe];have fr:=I.stack;have hin:∀env∈X.stack,∀b,env.frame=some b->b∈CC X.stack:=λenv he b hb=>cE.mpr ⟨env,he,hb⟩
 have fr0:s1.heap.FunFrames (PySem.W.hideAll s1.heap (CC X.stack)) (X.env::X.outer):=by rw[<-hst];exact c5 fr hin
 have fr':h1.FunFrames (PySem.W.hideAll s1.heap (CC X.stack)) (X.env::X.outer):=Heap.FunFrames.of_keeps (λb o e _=>⟨o,kp b o e,rfl⟩) fr0
 have hbe:(PySem.W.hideAll s1.heap (CC X.stack)).get? e=none:=by
  cases q:(PySem.W.hideAll s1.heap (CC X.stack)).get? e with
  |none=>rfl
  |some o=>have z:=cR _ q;rw[hen]at z;cases z
 refine qH (KT.run (Dk _ _) (wpAny_leaving_firstW (Q:=λ_ s2=>∃h2,s2={s1 with heap:=h2}/\Heap.LeftW (PySem.W.hideAll s1.heap (CC X.stack)) (X.env::X.outer) e C a0 h1 h2) (E:=λ_ _=>False) (s:={s1 with heap:=h1}) (a0:=a0) (by rw[<-hst];exact I.ok.frames) fr' hfr he (λb o q=>kp b o (cR _ q)) hbe rfl v1 v0 λh2 z=>⟨h2,rfl,z⟩)) (λ_ s2 q=>?_) λ_ _ q=>q.1.elim
 refine byG λGq hGq=>?_;obtain⟨⟨h2,rfl,k1,⟨k0,kk,k2⟩,k3,k4⟩,dk⟩:=q;refine hGq ?_;clear hGq Gq;have fl:Heap.FlyingW (PySem.W.hideAll s1.heap (CC X.stack)) X.outer e C a0 h2:=⟨k1,hbe,k2,k3⟩;have kept:∀b o,s1.heap.get? b=some o->b∉CC X.stack->h2.get? b=some o:=λb o q hb=>k1 b o (bU _ q hb)
 have J:AX X ad σ H1 {s1 with heap:=h2,toks:=s1.toks}:=I.slotted kept λb o q hb=>k4 b o (kp b o q) (I.frameData q hb)
 have un:Un (CC X.outer) [] X.H₀ H1 X.s₀.heap h2:=by have z:=J.base;rw[hex]at z;exact z
 have hdc:∃oe,h2.get? e=some oe/\oe.dict=none:=by obtain⟨ob,hob,_⟩:=fl.there;exact⟨ob,hob,(dk.get he hob).1.trans rfl⟩
 refine⟨e,C,a0,none,_,H1,rfl,⟨J.os,J.bare,un,J.hok,fl,λb o q hb o' q'=>?_,λb u q o' q'=>?_,hdc,λz=>by cases z⟩,hE⟩
 ·obtain⟨o1,q1⟩:=I.base.there b o q (by rw[hex];simp)
  have hn:b∉CC X.stack:=λz=>by
   rcases aw.mp (I.stkSub b z) with y|y
   ·exact qE (am (ag q) I.ok.above) (by rw[y];exact bM _)
   ·exact hb y
  have q2:=kept b o1 q1 hn;rw[q']at q2;cases q2;exact bU _ q1 hn
 ·have hn:b∉CC X.stack:=λz=>by
   have y:=I.stkFree b z;rw[q]at y;cases y
  obtain⟨o1,r⟩:=(I.hok b u q).somewhere;have q2:=kept b o1 r hn;rw[q']at q2;cases q2;exact bU _ r hn
end
theorem IU:entryFor table "proto.unchain"=some Builtin.«proto.unchain»:=entryFor_of_tree (by kernel_rfl)
section
variable{prog:qO}{w:qP}{A:Around}{env:Env}{nm qn:Str}{N h:qM}{bs tl:List qL}{dy:Bool}{sn:List Str}{sub:List qL}{ab:Bool}{col:Option Bool}{dd:Option qM}{k0 k1 k2 k3 k5:Option qL}{nid:String}
theorem Ly{x c:Sem qL}{Q:Flow->qN->Prop}(hb:tl.contains (.type "BaseException")=true)(hh:A.handled=some (.ref h))(hc:∀(Q:qL->qN->Prop) (s:qN),Q .none s->wpAny (model prog w) A c Q E s)
  (hx:wpAny (model prog w) A x (λv s1=>∃(a t:qM),v=.ref a/\s1.heap.get? C=some (excClassObj nm qn C N bs tl dy sn sub ab col dd k0 k1 k2 k3 k5 nid) /\
   s1.heap.get? a=some ⟨.ref C,none,.fields #[.ref t,.none,.none,.none,.bool false,.none],#[]⟩/\a≠h/\(∃o vs,s1.heap.get? h=some o/\o.data=.fields vs/\vs[2]?=some .none) /\
   ∀h',Heap.SameBut a s1.heap h'->h'.get? a=some ⟨.ref C,none,.fields #[.ref t,.none,.ref h,.none,.bool true,.none],#[]⟩->E (.ref a) {s1 with heap:=h'}) E s):wpAny (model prog w) A (raiseStmt env (some x) (some c)) Q E s:=by
 have hcB:(Value.ref C::tl).contains (.type "BaseException")=true:=by rw[List.contains_cons,hb,Bool.or_true]
 unfold raiseStmt;refine qA (qH hx (λv s1 h1=>?_) λ_ _ x=>x);refine byG λGq hGq=>?_;obtain⟨a,t,rfl,hC,he,nah,⟨oh,vh,hoh,hdh,hvh⟩,hE⟩:=h1;refine hGq ?_;clear hGq Gq;refine qA (qJ (hc _ _ (qA (qB ?_))));refine byG λGq hGq=>?_;obtain⟨hp,g,d,tk,os⟩:=s1;refine hGq ?_;clear hGq Gq
 repeat (first|with_reducible refine wpAny_loadPart_at hC ?_|with_reducible refine wpAny_loadPart_at he ?_|(with_reducible refine wpAny_isSubtype_exc hC ?_;rw[hcB])|wp_step)
 have nac:C≠a:=λz=>by have hC':=hC;rw[z,he]at hC';cases hC'
 generalize e2:(hp.update a (Obj.mapFields λx=>x.setIfInBounds 3 Value.none)).update a (Obj.mapFields λx=>x.setIfInBounds 4 (Value.bool true))=h2;have sb2:Heap.SameBut a hp h2:=by rw[<-e2];exact (Heap.SameBut.update ..).trans (Heap.SameBut.update ..)
 have he2:h2.get? a=some ⟨.ref C,none,.fields #[.ref t,.none,.none,.none,.bool true,.none],#[]⟩:=by rw[<-e2];exact bG _ (bG _ he rfl) rfl
 have hC2:h2.get? C=some (excClassObj nm qn C N bs tl dy sn sub ab col dd k0 k1 k2 k3 k5 nid):=(sb2.2 C nac).trans hC;have hoh2:h2.get? h=some oh:=(sb2.2 h (Ne.symm nah)).trans hoh;clear e2;refine wpAny_loadPart_at hC2 (qB (qB ?_));unfold setFlight;refine qA (qA (wpAny_field he2 rfl rfl (qB ?_)));unfold raiseNew;refine qA (wpAny_handled ?_);rw[hh];have nb:(Value.ref h != Value.ref a)=true:=bne_iff_ne.mpr λz=>nah (Value.ref.inj z).symm
 dsimp only;rw[qD nb];refine qA (qJ (runValue_entry IU ?_));unfold Builtin.«proto.unchain»;refine qA (wpAny_field hoh2 hdh hvh ?_);rw[qD (show (Value.none==Value.none)=true from rfl)];refine qB ⟨_,rfl,qA ?_⟩;refine (show wpAny (model prog w) A (setField (.ref a) 2 (.ref h)) _ _ _ from wpAny_setField he2 rfl (by simp) (wpAny_throw ?_));exact hE _ (sb2.trans (Heap.SameBut.update ..)) (bG _ he2 rfl)
end
def S6(K:qQ)(R:qL)(C:qM)(W:St->XK)(E:XK)(tb:TS)(t:TA):TS:=λD σ H=>tb D σ H/\∀σ' cls D' H',W σ' cls D' H'->PySem.W.exmOne K cls R=some true/\∀a,H' a=none ->
 t σ' (Ai H' a (Lw a)) λvs H1=>vs.length<=sizeLine/\H1 a=some (Lw a)/\E (.ref C) none H1
section
variable{n:Str}{R:qM}{E:XK}{b:List Stmt}{tb:TS}{t:TA}{e:Expr}{nj}{np xp cpos rpos hpos npos:Pos}
theorem Ro(hC:PySem.W.excIn X.K C DC "ValueError.__new__"=true)(hgn:Gl X n)(hmn:X.mg n=some (.ref C))(hfl:S5 X (.ref C) E)(hpo:∀v,PassesOwnAt (model X.prog X.w) (X.A.mark (some v)) X.A X.env X.xe)
  (hg:Gl X x) (hm:X.mg x=some (.ref R)) (hst:X.stack=X.env::X.outer) (hfr:X.env.frame=some X.env.locals)
  (hb:∀p,FD (X.trN p W) b tb) (ha:∀v,PA (X.hdl v) (e::es) t) (hd:(x==("__debug__":Str))=false:=by decide) (hdn:(n==("__debug__":Str))=false:=by decide)
  (he:starEach (e::es) X.env=(false,eval e X.env)::starEach es X.env:=by rfl) (hpl:(backTo cpos (starEach es X.env)).any (·.1)=false:=by rfl):
  PS X (.Try b [.ExceptHandler (some (.Name x xp)) none [.Raise (some (.Call (.Name n np) (e::es) [] cpos)) (some (.Constant .none nj npos)) rpos] hpos] [] [] pos) (S6 X.K (.ref R) C W E tb t):=by
 intro ad s σ H D I h;obtain⟨h1,h2⟩:=h;refine wpAny_Try_except (qH (hb (X.pn++ad) [] s σ H D (I.but _) h1) (λf s1 q=>?_) λe s1 q=>?_)
 ·have q':SP X ad D f s1:=SP.unbut (pins':=[]) q;cases f with
  |next=>exact wpAny_execs_nil q'
  |ret u=>exact q'
  |brk=>exact q'
  |cont=>exact q'
 ·refine byG λGq hGq=>?_;obtain⟨pins0,σ0,H0,s0,I0,a,cls,a0,D',B,H',rfl,F,hW⟩:=q;refine hGq ?_;clear hGq Gq;have J0:AX X ad σ0 H0 s0:=I0.unbut;obtain⟨hx,hth⟩:=h2 σ0 cls D' H' hW;have fl:Heap.FlyingW B (X.env::X.outer) a cls a0 s1.heap:=by rw[<-hst];exact F.fly
  refine qH (KT.run (Je _ _) (wpAny_looks_onW (Q:=λ_ s4=>∃h4,s4={s1 with heap:=h4}/\Heap.HeldW B (X.env::X.outer) a cls a0 X.env.locals h4/\s1.heap.UpToSlots h4) (E:=λ_ _=>False) (by rw[<-hst];exact J0.ok.frames) hfr fl λh4 held4 sm4=>⟨h4,rfl,held4,sm4⟩)) (λ_ s4 q=>?_) λ_ _ q=>q.1.elim
  refine byG λGq hGq=>?_;obtain⟨⟨h4,rfl,held4,sm4⟩,dk4⟩:=q;refine hGq ?_;clear hGq Gq;refine qH (KT.run (B4 _ _) (wpAny_landsW (Q:=λ_ s5=>∃h5,s5={s1 with heap:=h5}/\Heap.FlyingW B (X.env::X.outer) a cls a0 h5/\h4.UpToSlots h5) (E:=λ_ _=>False) (s:={s1 with heap:=h4}) held4 λh5 fl5 sm5=>⟨h5,rfl,fl5,sm5⟩)) (λ_ s5 q=>?_) λ_ _ q=>q.1.elim
  refine byG λGq hGq=>?_;obtain⟨⟨h5,rfl,fl5,sm5⟩,dk5⟩:=q;refine hGq ?_;clear hGq Gq;have J5:AX X ad σ0 H' {s1 with heap:=h5,toks:=s1.toks}:=F.land J0 fl5.1 (sm4.trans sm5);have K5:=J5.hdl (.ref a);refine wpAny_handleBy_cons (codeAny_handlers_test (DF K5 hg hm ?_ hd)) (by intro q;cases q);obtain⟨ob,hob,hobc⟩:=fl5.there
  have LT:PySem.W.Looks (model X.prog X.w) h5 (typeOf (.ref a)) cls:=by subst hobc;exact (PySem.W.Looks.ld hob).andThen .now
  refine (PySem.W.exm_one J5.kIn LT hx).here ?_;show codeAny _ _ _ _ _;refine codeAny_handlers_suite ?_;refine qH (KT.run (B4 _ _) (lands_againW (Q:=λ_ s6=>∃h6,s6={s1 with heap:=h6}/\Heap.FlyingW B (X.env::X.outer) a cls a0 h6/\h5.UpToSlots h6) (E:=λ_ _=>False) (s:={s1 with heap:=h5}) fl5 λh6 fl6 sm6=>⟨h6,rfl,fl6,sm6⟩)) (λ_ s6 q=>?_) λ_ _ q=>q.1.elim
  refine byG λGq hGq=>?_;obtain⟨⟨h6,rfl,fl6,sm6⟩,dk6⟩:=q;refine hGq ?_;clear hGq Gq;have J6:AX X ad σ0 (Ai H' a (Lw a)) {s1 with heap:=h6,toks:=s1.toks}:=F.landN J0 fl6 ((sm4.trans sm5).trans sm6) ((dk4.trans dk5).trans dk6);have I7:=J6.hdl (.ref a);refine wpAny_execs_cons ?_;refine byG λGq hGq=>?_;obtain⟨tl,N,nm,qn,bs,dy,sn,sub,ab,col,dd,k0,k1,k2,k3,k5,mN,hO,hN,hni,T⟩:=Mu J6.mod.kin hC;refine hGq ?_;clear hGq Gq;have FB:=cD;rw[arm_exec_Raise];have arg:=ha (.ref a) cpos ad _ _ _ _ I7 (hth a F.fresh.1)
  refine qA (wpAny_standAt (Ly (h:=a) (C:=C) (nm:=nm) (qn:=qn) (N:=N) (bs:=bs) (tl:=tl) (dy:=dy) (sn:=sn) (sub:=sub) (ab:=ab) (col:=col) (dd:=dd) (k0:=k0) (k1:=k1) (k2:=k2) (k3:=k3) (k5:=k5) (nid:="ValueError.__new__") (T.hasType FB.hasBase) rfl
   (λQ s q=>qA (Constant_none (qA (wpAny_standAt (qB q))))) (qA (qH (wpAny_Call_ofName (DF I7 hgn hmn ?_ hdn)) (λv s3 h3=>qA (wpAny_standAt (qB h3))) λ_ _ z=>z))))
  unfold callWith;have arg':wpAny (model X.prog X.w) (X.A.mark (some (.ref a))) (spliced (backTo cpos (starEach (e::es) X.env))) (AP (X.hdl (.ref a)) ad σ0 λvs H1=>vs.length<=sizeLine/\H1 a=some (Lw a)/\E (Value.ref C) none H1) (λ_ _=>False) {heap:=h6,gens:=s1.gens,drawn:=s1.drawn,toks:=s1.toks,os:=s1.os}:=arg;clear arg
  have hplain:(backTo cpos (starEach (e::es) X.env)).any (·.1)=false:=by rw[he];show (false||(backTo cpos (starEach es X.env)).any (·.1))=false;rw[hpl];rfl
  refine qA (qJ (qH (Q:=λa' s2=>∃us,a'=⟨us,[]⟩/\AP (X.hdl (.ref a)) ad σ0 (λvs H1=>vs.length<=sizeLine/\H1 a=some (Lw a)/\E (Value.ref C) none H1) us s2) (E:=λ_ _=>False) ?_ (λa' s2 h2=>qA (wpAny_standAt ?_)) λ_ _ x=>x.elim))
  ·rw[he]at arg'⊢;exact Calls.evalArgs_plain (A8 arg' λus s2 q=>⟨us,rfl,q⟩)
  refine byG λGq hGq=>?_;obtain⟨us,rfl,vs,H2,I2,r,z,hH2,hE⟩:=h2;refine hGq ?_;clear hGq Gq;have J2:AX X ad σ0 H2 s2:=I2.unhdl J0.ok.hd;have hC2:=J2.bk _ _ hO;have hN2:=hN.keeps J2.bk;have T2:=T.keeps J2.bk;refine byG λGq hGq=>?_;obtain⟨⟨oh,vh,hoh,hdh,hvh⟩,_,_⟩:=(show An X.prog X.w H2 s2.heap a (Lw a) from J2.hok a _ hH2);refine hGq ?_;clear hGq Gq;refine byG λGq hGq=>?_;obtain⟨hp,g,d,tk,os⟩:=s2;refine hGq ?_;clear hGq Gq;simp only[hplain];refine qA (wpAny_keeperOf_exc hC2 ?_);refine qA (wpAny_call_exc_subT (hrest:=by show us.length<=sizeLine;rw[<-r.length];exact z) FB T2 hC2 hN2 hni λh' e' hm=>qA (qJ (wpAny_point (qB ?_))));refine byG λGq hGq=>?_;obtain⟨t',ht,_,_⟩:=hm.there;refine hGq ?_;clear hGq Gq
  have nea:e'≠a:=λq=>by have y:=hm.new;rw[q]at y;exact qE (y.symm.trans hoh) (by simp)
  refine⟨e',t',rfl,hm.keeps _ _ hC2,ht,nea,⟨oh,vh,hm.keeps _ _ hoh,hdh,hvh⟩,λh'' sb he'=>?_⟩;refine hpo (.ref a) _ _ (hfl ad σ0 H2 ⟨hp,g,d,tk,os⟩ h'' e' (.ref t') _ _ J2 (λb o q=>(sb.2 b λy=>?_).trans (hm.keeps b o q)) hm.new he' rfl rfl hE);rw[y]at q;exact qE (hm.new.symm.trans q) (by simp)
end
noncomputable def Dz(X:Cx)(s2:qN)(H2:Hp)(env:Env)(fp:List qM)(N:List Str):Cx:={X with N:=N,s₀:=s2,H₀:=H2,env:=env,outer:=X.stack,ex:=fp,fn:=λ_=>false,pn:=[],xe:=λ_ _=>False}
theorem S7{s2:qN}{H2:Hp}{env:Env}{N:List Str}:(Dz X s2 H2 env fp N).K=X.K:=rfl
noncomputable def Gc(env:Env):List (Str×qM)->Prop
 |[]=>True
 | (y,c)::r=>env.cells.lookup y=some c/\Gc env r
theorem Gc.at'{env:Env}:∀{cl:List (Str×qM)},Gc env cl->∀{y:Str} {c:qM},cl.lookup y=some c->env.cells.lookup y=some c
 |[],_,_,_,h=>by cases h
 | (z,d)::r,⟨h1,h2⟩,y,c,h=>by
  rw[bZ]at h;cases e:y==z with
  |true =>
   rw[e]at h;cases h;rw[eq_of_beq e];exact h1
  |false =>
   rw[e]at h;exact h2.at' h
noncomputable def ZN:Option NameKind->Bool
 |some .cell=>true
 |some .free=>true
 |_=>false
theorem Py{k:Option NameKind}(h:ZN k=true):k=some .cell\/k=some .free:=by
 unfold ZN at h
 split at h
 ·exact .inl rfl
 ·exact .inr rfl
 ·cases h
noncomputable def HJ(X:Cx)(scope:Scope)(cl:List (Str×qM)):List (Nat×Str)->Prop
 |[]=>True
 | (j,y)::r=>(X.N[j]?=some y/\ZN (X.env.scope.names.lookup y)=true/\(relabel scope X.env).names.lookup y=X.env.scope.names.lookup y/\(cl.lookup y).isSome=true)/\HJ X scope cl r
theorem HJ.at'{cl:List (Str×qM)}:∀{fv:List (Nat×Str)},HJ X scope cl fv->∀q∈fv,X.N[q.1]?=some q.2/\ZN (X.env.scope.names.lookup q.2)=true/\(relabel scope X.env).names.lookup q.2=X.env.scope.names.lookup q.2/\(cl.lookup q.2).isSome=true
 |[],_,q,h=>by cases h
 | (j,y)::r,⟨h1,h2⟩,q,h=>(aw.mp h).elim (λe=>by rw[e];exact h1) λz=>h2.at' q z
noncomputable def IN(σ:St)(fv:List (Nat×Str)):List (Option V):=fv.map λq=>(σ[q.1]?).join
def PF(X:Cx)(ifs:List Expr)(t:TT):Prop:=∀(ad:List (qM×Obj)) (s:qN) (σ:St) (H:Hp) (Q:Bool->Hp->Prop),AX X ad σ H s->t σ H Q ->
 wpAny (model X.prog X.w) X.A (forIn ifs true λc r=>if r=true then do let ok <-isTrue c X.env (eval c X.env);pure (ForInStep.yield ok) else pure (ForInStep.yield r)) (TP X ad σ Q) X.xe s
def Pz:TT:=λ_ H Q=>Q true H
theorem B8:PF X [] Pz:=λad s σ H Q I h=>qB ⟨H,I,h⟩
theorem Jm{c:Expr}{t:TT}(h:PT X c t):PF X [c] t:=λad s σ H Q I q=>by simp only[List.forIn_cons,List.forIn_nil,if_true];exact qA (qA (A8 (h ad s σ H Q I q) λb s1 z=>qB (qB z)))
def CS(J:It)(tt:TT)(te:TE)(σf:List (Option V))(D:qM)(Q:VK)(H:Hp):Prop:=∃W:Nat->Nat->List V->Hp->Prop,(∃n,W n 0 [] (Ai H D (.lst [])))/\∀n i d8 H2,W n i d8 H2 ->
 (J.stop i H2/\Q (.ref D) H2)\/(J.go i H2/\∃N:List V->Hp->Prop,(∀l H',N l H'->∃n',n'<n/\W n' (i+1) l H')/\∀v H3,J.yld i H2 v H3->tt (some v::σf) H3 λb H4 =>
  if b=true then te (some v::σf) H4 λy H5=>H5 D=some (.lst d8)/\d8.length<sizeLine/\N (d8++[y]) (Ai H5 D (.lst (d8++[y]))) else N d8 H4)
def P0(wi:TI)(fv:List (Nat×Str))(tt:TT)(te:TE):TE:=λσ H Q=>wi σ H λJ H1=>∀D,H1 D=none->CS J tt te (IN σ fv) D Q H1
section
variable{X:Cx}{x:Str}{px pos:Pos}{elt iter:Expr}{ifs:List Expr}{scope:Scope}{cl:List (Str×qM)}{fv:List (Nat×Str)}{wi:TI}{tt:TT}{te:TE}
 {ad:List (qM×Obj)} {σ:St} {H2:Hp} {s2:qN} {fp:List qM} {it:qM} {tn:Nat->Heap->Prop} {J:It}
theorem P1{N:List Str}(I2:AX X ad σ H2 s2)(f2:∀b∈fp,En X ad H2 b)(o2:∀b∈fp,∃o,s2.heap.get? b=some o/\∀v,o.data≠.cell v)(hC:s2.heap.objs.size<=C)(hk:scope.kind=.function)(hcl:Gc X.env cl)
  (hhas:((relabel scope X.env).names.all λz=>!(z.2==.cell||z.2==.free)||(cl.lookup z.1).isSome)=true):(Dz X s2 H2 (compEnvC scope cl C X.env) fp N).Ok where
 mod:=I2.ok.mod
 kind:=hk
 glob:=I2.ok.glob
 blt:=I2.ok.blt
 above:=hC
 inj:=λx y c h1 h2=>I2.ok.inj x y c (hcl.at' h1) (hcl.at' h2)
 has:=λy h=>by
  have key:∀k:NameKind,(relabel scope X.env).names.lookup y=some k->(k==.cell||k==.free)=true->∃c,cl.lookup y=some c:=λk hl hk=>by
   have mem:(y,k)∈(relabel scope X.env).names:=by
    generalize (relabel scope X.env).names=l at hl
    induction l with
    |nil=>cases hl
    |cons q r ih =>
     rw[bZ]at hl;cases e:y==q.1 with
     |true =>
      rw[e]at hl;cases hl;rw[eq_of_beq e];exact ah
     |false =>
      rw[e]at hl;exact aa _ (ih hl)
   have z:=bD.mp hhas _ mem;simp only[hk,Bool.not_true,Bool.false_or]at z;exact cK.mp z
  rcases h with h|h
  ·exact key _ h rfl
  ·exact key _ h rfl
 cab:=λ_ _ h=>nomatch h
 hd:=I2.ok.hd
 frames:=I2.ok.frames
 stk:=.inl rfl
 exf:=λb hb=>by obtain⟨o,e,_⟩:=o2 b hb;exact⟨bA (am (ag e) hC),λy c h=>(f2 b hb).2.2.2.2.1 y c (hcl.at' h)⟩
 bs:=λb o e=>I2.bs b o e
 bsz:=bB I2.ok.bsz I2.sz
 noex:=λb o e hb=>by
  obtain⟨_,_,_,h,_⟩:=f2 b hb;rcases h with h|h
  ·exact I2.ok.noex b o e h
  ·exact qE (am (ag e) (bB I2.ok.bsz h)) (bM _)
 exfs:=λb hb z=>(aw.mp (I2.stkSub b z)).elim (f2 b hb).2.1 (f2 b hb).2.2.1
 funs:=I2.stack
 frf:=I2.stkFree
theorem HK{env:Env}{N:List Str}{σ':St}{pl:List (qM×Obj)}(I2:AX X ad σ H2 s2)(f2:∀b∈fp,En X ad H2 b)(Ib:AX (Dz X s2 H2 env fp N) pl σ' H' s'):AX X ad σ H' s':=
 I2.call' (ch:=fp) Ib.os Ib.base Ib.hok Ib.bare λb hb=>⟨(f2 b hb).2.2.2.1,(f2 b hb).2.1,(f2 b hb).2.2.2.2.1,(f2 b hb).2.2.2.2.2⟩
theorem UQ{D:qM}{t1:Nat}(I2:AX X ad σ H2 s2)(f2:∀b∈fp,En X ad H2 b)(o2:∀b∈fp,∃o,s2.heap.get? b=some o/\∀v,o.data≠.cell v)(hD:s2.heap.objs.size<=D)(hC:s2.heap.objs.size<=C)(hDC:D≠C)
  (old:∀b o,s2.heap.get? b=some o->h1.get? b=some o) (hl:h1.PlainList D #[]) (hn:h1.Ns C (λ_=>none)) (hk:scope.kind=.function) (hcl:Gc X.env cl)
  (hhas:((relabel scope X.env).names.all λz=>!(z.2==.cell||z.2==.free)||(cl.lookup z.1).isSome)=true) (hfv:HJ X scope cl fv):
  AX (Dz X s2 H2 (compEnvC scope cl C X.env) fp (x::fv.map (·.2))) [] (none::IN σ fv) (Ai H2 D (.lst [])) {s2 with heap:=h1,toks:=t1} where
 ok:=P1 I2 f2 o2 hC hk hcl hhas
 os:=rfl
 bare:=I2.bare
 base:=Un.laid old hD (I2.hok.fresh hD)
 loc:=by
  refine⟨_,hn,λi y v h1' h2' _=>?_⟩;cases i with
  |zero=>cases h2'
  |succ i =>
   have h1':(fv.map (·.2))[i]?=some y:=h1';have h2':(IN σ fv)[i]?=some (some v):=h2'
   obtain⟨q,hq,e1⟩:∃q,fv[i]?=some q/\q.2=y:=by rw[ay]at h1';exact bH.mp h1'
   subst e1;refine byG λGq hGq=>?_;obtain⟨g1,g2,g3,g4⟩:=hfv.at' q (a8 hq);refine hGq ?_;clear hGq Gq;unfold IN at h2';rw[ay,hq]at h2';have e2:(σ[q.1]?).join=some v:=Option.some.inj h2'
   have e3:σ[q.1]?=some (some v):=by
    cases z:σ[q.1]? with
    |none=>rw[z]at e2;cases e2
    |some w=>rw[z]at e2;exact qK some e2
   obtain⟨m,_,lk⟩:=I2.loc;have g2:=Py g2;obtain⟨u,ru,lu⟩:=lk q.1 q.2 v g1 e3 (.inr g2);refine⟨u,ru,.inr ⟨g2.imp (λz=>g3.trans z) (λz=>g3.trans z),?_⟩⟩;obtain⟨c,hc⟩:=cK.mp g4;refine⟨c,hc,?_⟩;rcases lu with⟨kk,_⟩|⟨_,c',e',⟨o,eo,d⟩⟩
   ·rcases g2 with z|z<;>(rw[show X.env.kindOf q.2=_ from z]at kk;cases kk)
   ·have e4:=hcl.at' hc;rw[e']at e4;cases e4;exact⟨o,old c o eo,d⟩
 cell:=λy c h=>by refine byG λGq hGq=>?_;obtain⟨v,o,eo,d⟩:=I2.cell y c (hcl.at' h);refine hGq ?_;clear hGq Gq;exact⟨v,o,old c o eo,d⟩
 free:=by show Ai H2 D _ C=none;rw[AR (Ne.symm hDC)];exact I2.hok.fresh hC
 freeC:=λy c h=>by refine byG λGq hGq=>?_;obtain⟨v,o,eo,d⟩:=I2.cell y c (hcl.at' h);refine hGq ?_;clear hGq Gq;rw[AR (bA (am (ag eo) hD))];exact I2.freeC y c (hcl.at' h)
 pin:=λp hp=>nomatch hp
 hok:=I2.hok.laid old hD (by obtain⟨n,e⟩:=hl;exact⟨Nat.zero_le _,[],n,.nil,by simpa using e⟩)
 len:=by simp[IN,Dz]
theorem M3{RR:qL->qM->Result->qN->Prop}{Q:VK}(hc:X.calm=true)(I2:AX X ad σ H2 s2)(T:IP X.prog X.w X.K (.Name x px) J fp it tn)(st2:tn 0 s2.heap)(f2:∀b∈fp,En X ad H2 b)
  (hcell:∀y∈scope.names,y.2≠.cell) (hk:scope.kind=.function) (hx:scope.names.lookup x=some .local) (hcl:Gc X.env cl) (hhas:((relabel scope X.env).names.all λz=>!(z.2==.cell||z.2==.free)||(cl.lookup z.1).isSome)=true) (hfv:HJ X scope cl fv) (hnd:(x::fv.map (·.2)).Nodup)
  (hf:∀s H C fp,PF (Dz X s H (compEnvC scope cl C X.env) fp (x::fv.map (·.2))) ifs tt) (he:∀s H C fp,PE (Dz X s H (compEnvC scope cl C X.env) fp (x::fv.map (·.2))) elt te)
  (hw:∀D,H2 D=none->CS J tt te (IN σ fv) D Q H2)
  (hRR:∀D C σ' H' s',s2.heap.objs.size<=C->AX (Dz X s2 H2 (compEnvC scope cl C X.env) fp (x::fv.map (·.2))) [] σ' H' s'->Q (.ref D) H'->RR (.ref D) C (.ok .next) s'):
  wpAny (model X.prog X.w) X.A (newList []) (λd8 s3=>wpAny (model X.prog X.w) X.A (newFunctionEnv scope X.env.globals cl [] X.env.qual none .none (some X.env)) (λcenv s4 =>
   codeAny (model X.prog X.w) X.A (.compStart (.ListComp elt [⟨.Name x px,iter,ifs,0⟩] scope pos) 0 (.ref it) d8 {cenv with scope:=relabel scope X.env}) (RR d8 cenv.locals) s4) E s3) E s2:=by
 refine wpAny_newObj_type (wpAny_newFunctionEnv hcell (by intro y hy;simp at hy) (λh1 hns hsb=>?_) hk);dsimp only at hns hsb⊢;generalize hH:s2.heap.push {cls:=.type "list",dict:=none,data:=.seq ([]:List qL).toArray}=HH at hns hsb⊢;have eC:HH.objs.size=s2.heap.objs.size+1:=by rw[<-hH,bf]
 have hDC:s2.heap.objs.size≠HH.objs.size:=by rw[eC];exact bA (dH _)
 have hC:s2.heap.objs.size<=HH.objs.size:=by rw[eC];exact b8 _
 have old:∀b o,s2.heap.get? b=some o->h1.get? b=some o:=λb o e=>hsb.extBut b o (by rw[eC];exact bA (dB (ag e))) (aZ _ (hH▸aZ _ e))
 have hacc:h1.PlainList s2.heap.objs.size #[]:=⟨_,hsb.extBut _ _ hDC (aZ _ (hH▸aj _ rfl))⟩;have o2:=T.obj _ _ st2;refine byG λGq hGq=>?_;obtain⟨W,⟨n0,w0⟩,turn⟩:=hw s2.heap.objs.size (I2.hok.fresh (af _));refine hGq ?_;clear hGq Gq;generalize eD:s2.heap.objs.size=D at *;generalize eCC:HH.objs.size=C at *;have Ib:=UQ (x:=x) (t1:=s2.toks+([]:List (Str×qL)).length) I2 f2 o2 (by rw[eD];exact af _) (by rw[eD];exact hC) hDC old hacc hns hk hcl hhas hfv;have st1:tn 0 h1:=T.keep _ _ _ st2 λb _ o e=>old b o e
 have nD:∀b∈fp,b≠D:=λb hb=>by obtain⟨o,e,_⟩:=o2 b hb;rw[<-eD];exact bA (ag e)
 have fr1:∀b∈fp,Ai H2 D (.lst []) b=none:=λb hb=>by rw[AR (nD b hb)];exact (f2 b hb).1
 have hxl:(relabel scope X.env).names.lookup x=some .local:=lookup_relabel_local hx
 have stat:∀{H':Hp},(∀b∈fp,H' b=none)->∀b∈fp,En (Dz X s2 H2 (compEnvC scope cl C X.env) fp (x::fv.map (·.2))) [] H' b:=λhn b hb=>by obtain⟨o,e,_⟩:=o2 b hb;exact⟨hn b hb,λz=>qE (ag e) (by rw[z,eD];exact Nat.not_lt.mpr hC),λz=>(aw.mp (I2.stkSub b z)).elim (f2 b hb).2.1 (f2 b hb).2.2.1,.inl hb,λy c h=>(f2 b hb).2.2.2.2.1 y c (hcl.at' h),λq hq=>nomatch hq⟩
 have loop:codeAny (model X.prog X.w) X.A (.compLoop (.ListComp elt [⟨.Name x px,iter,ifs,0⟩] scope pos) 0 (.ref it) (.ref D) (compEnvC scope cl C X.env)) (RR (.ref D) C) {s2 with heap:=h1,toks:=s2.toks+([]:List (Str×qL)).length}:=by
  refine codeAny_compLoop_tests (λn s'=>∃i d8 σb H',AX (Dz X s2 H2 (compEnvC scope cl C X.env) fp (x::fv.map (·.2))) [] σb H' s'/\σb.tail=IN σ fv/\tn i s'.heap/\(∀b∈fp,H' b=none)/\W n i d8 H') ?_ n0 ⟨0,[],_,_,Ib,rfl,st1,fr1,w0⟩;intro n s3 hRq;refine byG λGq hGq=>?_;obtain⟨i,d8,σ3,H3,I3,t3,st3,fr3,w3⟩:=hRq;refine hGq ?_;clear hGq Gq;rcases turn n i d8 H3 w3 with⟨stop,qn⟩|⟨go,NN,hNN,step⟩
  ·refine A8 (T.done (Dz X s2 H2 (compEnvC scope cl C X.env) fp (x::fv.map (·.2))) rfl rfl rfl hc i [] s3 σ3 H3 _ I3 (stat fr3) st3 stop) λr s4 q4=>?_;obtain⟨hr,I4⟩:=q4;subst hr;exact hRR D C σ3 H3 s4 hC I4 qn
  ·refine A8 (T.item (Dz X s2 H2 (compEnvC scope cl C X.env) fp (x::fv.map (·.2))) rfl rfl rfl hc i [] s3 σ3 H3 _ I3 (stat fr3) st3 go) λr s4 q4=>?_;obtain⟨u,hr,h4⟩:=q4;subst hr;refine (show wpAny _ _ (letOwnedTupleGo (.Name x px) (.ref it) u >>= λ_=>assign (.Name x px) (compEnvC scope cl C X.env) u) _ _ _ from qA (A8 h4 λ_ s5 q5=>?_));refine byG λGq hGq=>?_;obtain⟨v,H5,I5,r5,y5,st5,fr5⟩:=q5;refine hGq ?_;clear hGq Gq;have I5':=I5.pinned (stat fr5) (T.obj _ _ st5);have again:∀{σ7:St} {H7:Hp} {s7:qN},AX (Dz X s2 H2 (compEnvC scope cl C X.env) fp (x::fv.map (·.2))) ([]++Fy fp s5.heap) σ7 H7 s7->tn (i+1) s7.heap/\∀b∈fp,H7 b=none:=λ{σ7 H7 s7} I7=>by refine⟨T.keep _ _ _ st5 λb hb o e=>(I7.pin (b,o) (bE _ (bE _ (CJ hb e)))).1,λb hb=>?_⟩;obtain⟨o,e,d⟩:=T.obj _ _ st5 b hb;exact (I7.pin (b,o) (bE _ (bE _ (CJ hb e)))).2.1
   have sσ:σ3.set 0 (some v)=some v::IN σ fv:=by
    cases σ3 with
    |nil =>
     have z:=I3.len;simp[Dz]at z
    |cons a b =>
     have z:b=IN σ fv:=t3;rw[z];rfl
   have g:=Gh (X:=Dz X s2 H2 (compEnvC scope cl C X.env) fp (x::fv.map (λq:Nat×Str=>q.2))) (pos:=px) (i:=0) (x:=x) hnd rfl (.inl hxl) (.inr hxl);refine wpAny_noRaise (A8 (g _ s5 σ3 H5 v u (λσ' H'=>σ'=some v::IN σ fv/\H'=H5) I5' r5 ⟨sσ,rfl⟩) λ_ s6 q6=>?_);refine byG λGq hGq=>?_;obtain⟨σ6,H6,I6,rfl,rfl⟩:=q6;refine hGq ?_;clear hGq Gq;refine wpAny_noRaise (A8 (hf _ _ _ _ _ s6 _ _ _ I6 (step v _ y5)) λb s7 q7=>?_);obtain⟨H7,I7,q7⟩:=q7;cases b with
   |false =>
    rw[qC (by decide)]at q7⊢;obtain⟨n',hn',w7⟩:=hNN _ _ q7;exact⟨n',hn',i+1,d8,_,H7,I7.unpinned,rfl,(again I7).1,(again I7).2,w7⟩
   |true =>
    rw[qD rfl]at q7⊢;refine wpAny_noRaise (A8 (he _ _ _ _ _ s7 _ _ _ I7 q7) λyv s8 q8=>?_);refine byG λGq hGq=>?_;obtain⟨y,H8,I8,r8,e8,l8,q8⟩:=q8;refine hGq ?_;clear hGq Gq;obtain⟨n',hn',w8⟩:=hNN _ _ q8;refine wpAny_noRaise (A8 (F1 (X:=Dz X s2 H2 (compEnvC scope cl C X.env) fp (x::fv.map (·.2))) _ s8 _ H8 (.ref D) [y] (.ref D) [yv] (λ_ H'=>H'=Ai H8 D (.lst (d8++[y]))) I8 rfl (.cons r8 .nil) ⟨D,d8,y,rfl,rfl,e8,l8,rfl⟩) λ_ s9 q9=>?_);refine byG λGq hGq=>?_;obtain⟨_,H9,I9,_,rfl⟩:=q9;refine hGq ?_;clear hGq Gq;exact⟨n',hn',i+1,d8++[y],_,_,I9.unpinned,rfl,(again I9).1,(again I9).2,w8⟩
 exact codeAny_compStart_list loop (T.self X.A 0 _ _ _ st1 loop)
theorem AX.letGo(I2:AX X ad σ H2 s2){σ':St}(J:AX X ad σ' H' s')(hC:s2.heap.objs.size<=C)(hn:H' C=none)(sb:Heap.SameBut C s'.heap h'):AX X ad σ' H' {s' with heap:=h',toks:=s'.toks}:=
 J.turned (it:=C) (λb o hb e=>(sb.2 b hb).trans e) hn (bo (am I2.lt hC)) (.inr (bB I2.sz hC)) (λy c e z=>by obtain⟨v,o,eo,d⟩:=I2.cell y c e;exact qE (am (ag eo) (by rw[z];exact hC)) (bM _)) λp hp z=>qE (am (ag (I2.pin p hp).1) (by rw[z];exact hC)) (bM _)
theorem Rp(hc:X.calm=true)(hi:PI X (.Name x px) iter wi)(hclos:closureFor scope X.env=pure cl)(hcell:∀y∈scope.names,y.2≠.cell)(hk:scope.kind=.function)(hnames:∀z∈scope.names,z.2=.local->scope.names.lookup z.1=some .local)
  (hx:scope.names.lookup x=some .local) (hcl:Gc X.env cl) (hhas:((relabel scope X.env).names.all λz=>!(z.2==.cell||z.2==.free)||(cl.lookup z.1).isSome)=true) (hfv:HJ X scope cl fv) (hnd:(x::fv.map (·.2)).Nodup)
  (hf:∀s H C fp,PF (Dz X s H (compEnvC scope cl C X.env) fp (x::fv.map (·.2))) ifs tt) (he:∀s H C fp,PE (Dz X s H (compEnvC scope cl C X.env) fp (x::fv.map (·.2))) elt te)
  (hs:∀x,foldedSetIterable iter X.env x=pure x:=by intro _;rfl):PE X (.ListComp elt [⟨.Name x px,iter,ifs,0⟩] scope pos) (P0 wi fv tt te):=by
 intro ad s σ H Q I h;rw[eval_ListComp];refine wpAny_comprehension_free (use:=none) rfl hs hclos hk hnames (A8 (hi ad s σ H _ I h) λv s1 h1=>A8 h1 λitv s2 h2=>?_);refine byG λGq hGq=>?_;obtain⟨it,fp,tn,J,H2,e,I2,T,st2,f2,hw⟩:=h2;refine hGq ?_;clear hGq Gq;subst e;refine M3 (RR:=λd8 C=>compPost (model X.prog X.w) X.A X.xe none (EP X ad σ Q) d8 C) hc I2 T st2 f2 hcell hk hx hcl hhas hfv hnd hf he hw λD C σ' H' s' hC Ib q=>?_;obtain⟨m,hn,_⟩:=Ib.loc;exact⟨m,hn,λh' sb=>⟨.ref D,H',AX.letGo I2 (HK I2 f2 Ib) hC Ib.free sb,rfl,q⟩⟩
theorem M4{y:Str}{iy:Nat}{py spos:Pos}(hc:X.calm=true)(hN:X.N.Nodup)(hy:X.N[iy]?=some y)(hyl:So X.env.scope y)(hi:PI X (.Name x px) iter wi)(hsw:swapsWith (.ListComp elt [⟨.Name x px,iter,ifs,0⟩] scope pos) (some (.Name y py)) spos.line X.env=pure true)
  (hclos:closureFor scope X.env=pure cl) (hcell:∀y∈scope.names,y.2≠.cell) (hk:scope.kind=.function) (hnames:∀z∈scope.names,z.2=.local->scope.names.lookup z.1=some .local)
  (hx:scope.names.lookup x=some .local) (hcl:Gc X.env cl) (hhas:((relabel scope X.env).names.all λz=>!(z.2==.cell||z.2==.free)||(cl.lookup z.1).isSome)=true) (hfv:HJ X scope cl fv) (hnd:(x::fv.map (·.2)).Nodup)
  (hf:∀s H C fp,PF (Dz X s H (compEnvC scope cl C X.env) fp (x::fv.map (·.2))) ifs tt) (he:∀s H C fp,PE (Dz X s H (compEnvC scope cl C X.env) fp (x::fv.map (·.2))) elt te)
  (hyf:X.fn y=true\/X.env.scope.names.lookup y=some .local:=by first|exact .inl rfl|exact .inr rfl) (hs:∀x,foldedSetIterable iter X.env x=pure x:=by intro _;rfl):
  PS X (.Assign [.Name y py] (.ListComp elt [⟨.Name x px,iter,ifs,0⟩] scope pos) spos) (Nw (P0 wi fv tt te) (FE iy)):=by
 intro ad s σ H D h' h;have I:=h';rw[exec_Assign_Name_used _ _ _ _ hsw];refine qA (wpAny_standAt (qA ?_));show wpAny _ X.A (do let _ <-comprehension (.ListComp elt [⟨.Name x px,iter,ifs,0⟩] scope pos) scope X.env _ (newList []) false (eval iter X.env) (some (assign (.Name y py) X.env))) _ _ s;refine qA (qH (wpAny_comprehension_free (use:=some (assign (.Name y py) X.env)) (Q:=λ_ s'=>SP X ad D .next s') rfl hs hclos hk hnames (A8 (hi ad s σ H _ I h) λv s1 h1=>A8 h1 λitv s2 h2=>?_)) (λ_ s' hq=>qB (qB hq)) λ_ _ e=>e);obtain⟨it,fp,tn,J,H2,e,I2,T,st2,f2,hw⟩:=h2;subst e;refine M3 (Q:=λv H1=>FE iy v σ H1 D.nx) (RR:=λd8 C=>compPost (model X.prog X.w) X.A X.xe (some (assign (.Name y py) X.env)) (λ_ s'=>SP X ad D .next s') d8 C) hc I2 T st2 f2 hcell hk hx hcl hhas hfv hnd hf he hw λD' C σ' H' s' hC Ib q=>?_;obtain⟨m,hn,_⟩:=Ib.loc;show wpAny _ X.A (assign (.Name y py) X.env (.ref D')) _ _ _;refine wpAny_assign_Name (Ig (HK I2 f2 Ib) hN hy hyl (v:=.ref D') rfl (λs3 I3 hsb=>?_) hyf);obtain⟨a,sb3,ha⟩:=hsb
 have nC:C≠a:=λz=>by
  rcases ha with e|e
  ·exact qE (am I2.lt hC) (by rw[z,e];exact bM _)
  ·obtain⟨v,o,eo,d⟩:=I2.cell y a e;exact qE (am (ag eo) (by rw[<-z];exact hC)) (bM _)
 exact⟨m,hn.sameBut sb3 nC,λh'' sb=>⟨_,H',AX.letGo I2 I3 hC Ib.free sb,q⟩⟩
end
variable{tt:TT}{σf:List (Option V)}
theorem Dn{n:Nat}{D:qM}{Q:VK}(Pv:Nat->List V->Hp->Prop)(h0:Pv 0 [] (Ai H D (.lst [])))
  (hs:∀i d8 H2,i<n->Pv i d8 H2->tt (some (.int (lo+i))::σf) H2 λb H4=>if b=true then te (some (.int (lo+i))::σf) H4 λy H5=>H5 D=some (.lst d8)/\d8.length<sizeLine/\Pv (i+1) (d8++[y]) (Ai H5 D (.lst (d8++[y]))) else Pv (i+1) d8 H4)
  (hd:∀d8 H2,Pv n d8 H2->Q (.ref D) H2):CS (Sv lo n) tt te σf D Q H:=by
 refine⟨λk i d8 H=>k=n-i/\i<=n/\Pv i d8 H,⟨n,by simp,Nat.zero_le _,h0⟩,?_⟩;rintro k i d8 H2 ⟨rfl,hi,p⟩
 by_cases hlt:i<n
 ·refine .inr ⟨hlt,Pv (i+1),λl H' p'=>⟨n-(i+1),by lia,rfl,hlt,p'⟩,λx H' y=>?_⟩;obtain⟨e,y⟩:=y;subst e y;exact hs i d8 _ hlt p
 ·have e:i=n:=by lia
  subst e;exact .inl ⟨af _,hd d8 H2 p⟩
theorem F5{K:qQ}{D:qM}{Q:VK}(Pv:Nat->List V->Hp->Prop)(h0:Pv 0 [] (Ai H D (.lst [])))(hl:∀i d8 H,i<=xs.length->Pv i d8 H->Ag K H a xs)
  (hs:∀i x d8 H2,xs[i]?=some x->Pv i d8 H2->tt (some x::σf) H2 λb H4=>if b=true then te (some x::σf) H4 λy H5=>H5 D=some (.lst d8)/\d8.length<sizeLine/\Pv (i+1) (d8++[y]) (Ai H5 D (.lst (d8++[y]))) else Pv (i+1) d8 H4)
  (hd:∀d8 H2,Pv xs.length d8 H2->Q (.ref D) H2):CS (T4 K a) tt te σf D Q H:=by
 refine⟨λk i d8 H=>k=xs.length-i/\i<=xs.length/\Pv i d8 H,⟨xs.length,by simp,Nat.zero_le _,h0⟩,?_⟩;rintro k i d8 H2 ⟨rfl,hi,p⟩;have q:=hl i d8 H2 hi p
 by_cases hlt:i<xs.length
 ·refine .inr ⟨⟨xs,xs[i],q,by simp[hlt]⟩,Pv (i+1),λl H' p'=>⟨xs.length-(i+1),by lia,rfl,hlt,p'⟩,λx H' y=>?_⟩;obtain⟨e,y⟩:=y;subst e;exact hs i x d8 _ (y xs q) p
 ·have e:i=xs.length:=by lia
  subst e;exact .inl ⟨⟨xs,q,af _⟩,hd d8 H2 p⟩
theorem P2{K:qQ}{D:qM}{Q:VK}(Pv:Nat->List V->Hp->Prop)(h0:Pv 0 [] (Ai H D (.lst [])))(hl:∀i d8 H,i<=xs.length->Pv i d8 H->Ar K H a xs)
  (hs:∀i x d8 H2,xs[i]?=some x->Pv i d8 H2->tt (some x::σf) H2 λb H4=>if b=true then te (some x::σf) H4 λy H5=>H5 D=some (.lst d8)/\d8.length<sizeLine/\Pv (i+1) (d8++[y]) (Ai H5 D (.lst (d8++[y]))) else Pv (i+1) d8 H4)
  (hd:∀d8 H2,Pv xs.length d8 H2->Q (.ref D) H2):CS (WE K a) tt te σf D Q H:=by
 refine⟨λk i d8 H=>k=xs.length-i/\i<=xs.length/\Pv i d8 H,⟨xs.length,by simp,Nat.zero_le _,h0⟩,?_⟩;rintro k i d8 H2 ⟨rfl,hi,p⟩;have q:=hl i d8 H2 hi p
 by_cases hlt:i<xs.length
 ·refine .inr ⟨⟨xs,xs[i],q,by simp[hlt]⟩,Pv (i+1),λl H' p'=>⟨xs.length-(i+1),by lia,rfl,hlt,p'⟩,λx H' y=>?_⟩;obtain⟨e,y⟩:=y;subst e;exact hs i x d8 _ (y xs q) p
 ·have e:i=xs.length:=by lia
  subst e;exact .inl ⟨⟨xs,q,af _⟩,hd d8 H2 p⟩
structure P3(K:qQ)(x qual:Str)(st:Stmt)(f:qM)(fd:FuncData)(dT:qM)(its:List qL):Prop where
 ex:∃(oc:qL) (od:Option qM) (kV doc pm:qL) (an:Option qM) (d9 ct:qL) (osl:Array (Option qL)),
  fd=PySem.W.fnOf x qual (B3 st) (BB st) (AG st) (.ref dT) kV doc pm an d9 ct/\K.lookup f=some ⟨oc,od,.func fd,osl⟩/\PySem.W.codeIn K d9 qual=true
 df:∃(oc:qL) (od:Option qM) (n:Nat) (osl:Array (Option qL)),K.lookup dT=some ⟨oc,od,.seq its.toArray n,osl⟩
 kp:PySem.W.keepIn K (.ref f)=true
structure Rq(P:qO)(w:qP)(K:qQ)(mg:Str->Option qL)(base:Heap)(k:Nat)(f:qM)(ps:List Str)(sp:Sp)(dvs:List V):Prop where
 ex:∃fd,DB P w K mg base (FC P w) k f fd ps sp/\DH K fd ps []/\∃ds,Au dvs ds/\DH K fd ps ds
 kp:PySem.W.keepIn K (.ref f)=true
section
variable{P:qO}{w:qP}{K:qQ}{mg:Str->Option qL}{base:Heap}{f:qM}{N:List Str}{sp:Sp}{dvs:List V}
abbrev Lz(x qual:Str)(st:Stmt)(ps:List Str)(dT:qM)(its ds:List qL)(n:Nat):Prop:=∀(kV doc pm:qL) (an:Option qM) (d9 ct:qL) (us:List qL),us.length=n ->
 ∃c:Option (Array qL)->Sem (List (Str×qL)),bindArgs (PySem.W.fnOf x qual (B3 st) (BB st) (AG st) (.ref dT) kV doc pm an d9 ct) ⟨us,[]⟩=seqItems? (.ref dT) >>= c/\c (some its.toArray)=pure (ps.zip (us++ds))
theorem P3.binds{dT:qM}{ds:List qL}{n:Nat}(F:P3 K x qual st f fd dT its)(h:Lz x qual st ps dT its ds n)(hn:n+ds.length=ps.length):DH K fd ps ds:=by refine byG λGq hGq=>?_;obtain⟨⟨oc,od,kV,doc,pm,an,d9,ct,osl,rfl,lk,hcd⟩,⟨oc2,od2,n2,osl2,l2⟩,_⟩:=F;refine hGq ?_;clear hGq Gq;intro s us X hl;obtain⟨c,h1,h2⟩:=h kV doc pm an d9 ct us (by rw[ac]at hl;lia);exact BindsTo.of_defaults (T:=dT) rfl (X _ _ l2) rfl h1 h2
theorem Rr{n:Nat}(D:∃fd dT,P3 K x qual st f fd dT its)(hv:Au dvs its)(S:AM N ps (AG st))(bd:∀dT,Lz x qual st ps dT its [] ps.length)(hn:n+its.length=ps.length)(bd2:∀dT,Lz x qual st ps dT its its n)(len:∀vs H Q E,sp vs H Q E->vs.length=ps.length)
  (hbody:∀(d9:qL) (A:Around) (outer:List Env) (s:qN) (H:Hp) (vs:List V) (Q:VK) (E:XK),BL k (A.deeper (envOfC qual (AG st) s.heap.objs.size f d9))->sp vs H Q E ->
   ∃t,FD (Cg (FC P w) P w K mg base N qual (AG st) f d9 A outer s H E) (BB st) t/\t {nx:=λ_ H'=>Q .non H',rt:=Q} (B1 N vs) H):Rq P w K mg base (k+1) f ps sp dvs:=by
 obtain⟨fd,dT,F⟩:=D;have b1:=F.binds (bd dT) rfl;have b2:=F.binds (bd2 dT) hn;refine byG λGq hGq=>?_;obtain⟨⟨oc,od,kV,doc,pm,an,d9,ct,osl,rfl,lk,hcd⟩,_,kp⟩:=F;refine hGq ?_;clear hGq Gq;exact⟨⟨_,PR lk hcd S len λA outer s H vs Q E hr hsp=>hbody d9 A outer s H vs Q E hr hsp,b1,its,hv,b2⟩,kp⟩
end
section
variable{f:qM}{sp:Sp}{dvs:List V}{E:St->XK}{p:Pos}{e:Expr}{t:TA}
theorem P4(G:Rq X.prog X.w X.K X.mg X.base k f ps sp dvs)(hr:BL k X.A)(hg:Gl X x)(hm:X.mg x=some (.ref f))(hx:Bn (FC X.prog X.w) X E)
  (ha:PA X (e::es) t) (hdb:(x==("__debug__":Str))=false:=by decide) (he:starEach (e::es) X.env=(false,eval e X.env)::starEach es X.env:=by rfl) (hpl:(backTo pos (starEach es X.env)).any (·.1)=false:=by rfl):
  PE X (.Call (.Name x p) (e::es) [] pos) (F2 sp dvs E t):=by
 refine byG λGq hGq=>?_;obtain⟨⟨fd,F,_,ds,hv,b⟩,kp⟩:=G;refine hGq ?_;clear hGq Gq;exact G9 F hr hg hm kp b hv hx ha hdb he hpl
end
def M5(K:qQ)(x:Str)(st:Stmt)(f:qM)(i:Int):Prop:=(∃tk fd dT,P3 K x x st f fd dT [.int i tk])/\PySem.W.nsIn K mainGlobals x=some (some (.ref f))
theorem Rt{K:qQ}{f dT:qM}{i:Int}{tk:Tok}{oc2:qL}{od2:Option qM}{osl2:Array (Option qL)}{kV ct:qL}{n2:Nat}(a:PySem.W.nsIn K mainGlobals x=some (some (.ref f)))
  (l:K.lookup f=some ⟨oc,od,.func (PySem.W.fnOf x x (B3 st) (BB st) (AG st) (.ref dT) kV doc pm an d9 ct),osl⟩) (e:PySem.W.codeIn K d9 x=true) (k:PySem.W.keepIn K (.ref f)=true) (d:K.lookup dT=some ⟨oc2,od2,.seq #[.int i tk] n2,osl2⟩):M5 K x st f i:=
 ⟨⟨tk,_,dT,⟨⟨oc,od,kV,doc,pm,an,d9,ct,osl,rfl,l,e⟩,⟨oc2,od2,n2,osl2,d⟩,k⟩⟩,a⟩
section
variable{prog:qO}{w:qP}{A:Around}
theorem Gd{t:qM}{items}{x:qL}(hit:s.heap.IsTupleIter it t i)(ht:s.heap.IsTuple t items)(hx:items[i]?=some x)
  (hQ:∀h',h'.IsTupleIter it t (i+1)->Heap.SameBut it s.heap h'->Q x {s with heap:=h'}):wpAny (model prog w) A (Builtin.SmallTypes.nextOf (.ref it)) Q E s:=by
 refine byG λGq hGq=>?_;obtain⟨o,ho,hc,hd⟩:=id hit;refine hGq ?_;clear hGq Gq;refine byG λGq hGq=>?_;obtain⟨ol,hol,_,nl,hdl⟩:=ht;refine hGq ?_;clear hGq Gq;unfold Builtin.SmallTypes.nextOf;refine qA (wpAny_callSpecial?_slot (name:=Str.ofString "__next__") hit.typeIs F.slot_tuple_iterator_next (wpAny_call_entry F.slot_tuple_iterator_next hit.typeIs F.entry_tuple_iterator_next ?_ (F.args_tuple_iterator_next_1 _)))
 (show wpAny _ _ (field (.ref it) 0 >>= _) _ _ s);refine qA (wpAny_field ho hd (x:=.ref t) rfl ?_)
 (show wpAny _ _ (if (Value.ref t==Value.none)=true then _ else _) _ _ s);rw[qC (show ¬((Value.ref t==Value.none)=true) from ap)]
 (show wpAny _ _ (field (.ref it) 1 >>= _) _ _ s);refine qA (wpAny_field ho hd (x:=.int i 0) rfl ?_)
 (show wpAny _ _ (seqItems? (.ref t) >>= _) _ _ s);refine qA (wpAny_seqItems hol hdl ?_)
 simp only[Int.toNat_natCast,hx];refine qA (wpAny_setField ho hd (by simp) (qB ⟨x,rfl,qB (hQ _ ⟨_,Heap.get?_update_self _ ho (Obj.isFreed_of_fields (Obj.data_mapFields hd _)),(Obj.cls_mapFields ..).trans hc,by rw[Obj.data_mapFields hd];simp[rawInt]⟩ (Heap.SameBut.update ..))⟩))
theorem EC{t:qM}{items}(hh:A.handled=none)(hit:s.heap.IsTupleIter it t i)(ht:s.heap.IsTuple t items)(hx:items[i]?=none)
  (hE:∀h' e,Heap.ExtBut it s.heap h'->(∃o,h'.get? e=some o/\o.cls=.type "StopIteration")->E (.ref e) {s with heap:=h'}):wpAny (model prog w) A (Builtin.SmallTypes.nextOf (.ref it)) Q E s:=by
 refine byG λGq hGq=>?_;obtain⟨o,ho,hc,hd⟩:=id hit;refine hGq ?_;clear hGq Gq;refine byG λGq hGq=>?_;obtain⟨ol,hol,_,nl,hdl⟩:=ht;refine hGq ?_;clear hGq Gq;unfold Builtin.SmallTypes.nextOf;refine qA (wpAny_callSpecial?_slot (name:=Str.ofString "__next__") hit.typeIs F.slot_tuple_iterator_next (wpAny_call_entry F.slot_tuple_iterator_next hit.typeIs F.entry_tuple_iterator_next ?_ (F.args_tuple_iterator_next_1 _)))
 (show wpAny _ _ (field (.ref it) 0 >>= _) _ _ s);refine qA (wpAny_field ho hd (x:=.ref t) rfl ?_)
 (show wpAny _ _ (if (Value.ref t==Value.none)=true then _ else _) _ _ s);rw[qC (show ¬((Value.ref t==Value.none)=true) from ap)]
 (show wpAny _ _ (field (.ref it) 1 >>= _) _ _ s);refine qA (wpAny_field ho hd (x:=.int i 0) rfl ?_)
 (show wpAny _ _ (seqItems? (.ref t) >>= _) _ _ s);refine qA (wpAny_seqItems hol hdl ?_)
 simp only[Int.toNat_natCast,hx];refine qA (wpAny_rule (qA (wpAny_setField ho hd (by simp) ?_)));show wpAny _ _ (newExc (.type "StopIteration") [] >>= _) _ _ _;refine qA ?_;simp only[newExc,newTuple];refine qA (wpAny_newObj_type ?_ (by size_fits));refine qA (m:=firstArgMember _ _) (wpAny_of_eq (a:=Value.none) (by first|rfl|(simp only[firstArgMember];rfl)) ?_);refine wpAny_newObj_type ?_ (by size_fits);unfold raiseNew;refine qA (wpAny_handled ?_);(first|rw[show A.in1.handled=none from hh]|rw[hh]);refine qA (qB (wpAny_throw ?_));exact (hE _ _ (((Heap.SameBut.update ..).extBut.push _).push _) ⟨_,aj _ rfl,rfl⟩)
theorem OO(hh:A.handled=none)(it t:qM)(hne:t≠it)(items:Array qL):Draws prog w A it [it,t] items.size (λi v=>items[i]?=some v) (λi h=>h.IsTupleIter it t i/\h.IsTuple t items) where
 live:=λ_ _ ⟨⟨o,ho,_⟩,_⟩=>⟨o,ho⟩
 frame:=λ_ _ _ ⟨st,o,ho,r⟩ hk=>⟨st.at λo e=>hk it (by simp) o e,o,hk t (by simp) o ho,r⟩
 item:=λi s Q E hi st hQ=>Gd st.1 st.2 (x:=items[i]) (by simp[hi]) λh' hit' hs'=>hQ _ h' s.toks (by simp[hi]) ⟨hit',st.2.extBut hs'.extBut hne⟩ hs'
 done:=λs Q E st hE=>EC hh st.1 st.2 (by simp) hE
theorem P5{a:α}{Q:α->qN->Prop}(h:∀b,Q b s):wpAny (model prog w) A (pure a) Q E s:=qB (h a)
open AutoSeq1 (wpAny_loadPart') in
theorem Kr(l:qM)(items:Array qL)(n:Nat)(dct:Option qM)(sl:Array (Option qL)):
  Meets (Builtin.«enumerate.__new__» ⟨[.type "enumerate",.ref l],[]⟩) (λ_ R s=>s.heap.get? l=some {cls:=.type "tuple",dict:=dct,data:=.seq items n,slots:=sl} /\
   R (.ok (.ret (.ref (s.heap.push {cls:=.type "tuple_iterator",data:=.fields #[.ref l,.int 0 0]}).objs.size)))
    {s with heap:=(s.heap.push {cls:=.type "tuple_iterator",data:=.fields #[.ref l,.int 0 0]}).push {cls:=.type "enumerate",data:=.fields #[.none,.bool false,.ref s.heap.objs.size,rawInt 0,.none,.none]}}):=
 .of_wp λprog w A R s h=>by
  obtain⟨hp,g,d,tk,os⟩:=s;obtain⟨hl,h⟩:=h;have hsub:=sub_enumerate;have hL:Heap.IsTuple (Shared.heap ⟨hp,g,d,tk,os⟩) l items:=⟨_,hl,rfl,n,rfl⟩
  wp_walk using wpAny_loadPart' hl
  refine wpAny_stack_any λst=>P5 λb=>?_
  cases b<;>(wp_walk using wpAny_loadPart' hl,wpAny_pyIter_tuple hL)<;>exact⟨_,rfl,h⟩
theorem L0(hL:s.heap.IsTuple l items)
  (h:∀h',IsEnum h' (s.heap.objs.size+1) s.heap.objs.size 0 .none->h'.IsTupleIter s.heap.objs.size l 0->h'.objs.size=s.heap.objs.size+2->(∀b o,s.heap.get? b=some o->h'.get? b=some o)->Q (.ref (s.heap.objs.size+1)) {s with heap:=h'}):
  wpAny (model prog w) A (call (.type "enumerate") [.ref l]) Q E s:=by
 refine byG λGq hGq=>?_;obtain⟨⟨c,dct,dt,sl⟩,hl,hc,n,hd⟩:=hL;refine hGq ?_;clear hGq Gq;replace hc:c=.type "tuple":=hc;replace hd:dt=.seq items n:=hd;subst hc hd;refine callType_new F.called_enumerate (by decide) (F.typeCall_enumerate_1 _) (F.newCall_enumerate_1 _) (λobj=>F.args_object_init_2 obj _) F.entry_enumerate_new (Kr l items n dct sl) ⟨hl,?_⟩;have hz:(s.heap.push {cls:=.type "tuple_iterator",data:=.fields #[.ref l,.int 0 0]}).objs.size=s.heap.objs.size+1:=bf ..;show _/\_;rw[hz]
 have he:IsEnum ((s.heap.push {cls:=.type "tuple_iterator",data:=.fields #[.ref l,.int 0 0]}).push {cls:=.type "enumerate",data:=.fields #[.none,.bool false,.ref s.heap.objs.size,rawInt 0,.none,.none]}) (s.heap.objs.size+1) s.heap.objs.size 0 .none:=by have:=aj (s.heap.push {cls:=.type "tuple_iterator",data:=.fields #[.ref l,.int 0 0]}) (o:={cls:=.type "enumerate",data:=.fields #[.none,.bool false,.ref s.heap.objs.size,rawInt 0,.none,.none]}) rfl;rw[hz]at this;exact this
 exact⟨⟨_,he,rfl⟩,h _ he ⟨_,aZ _ (aj _ rfl),rfl,rfl⟩ (by rw[bf,hz]) λb o x=>aZ _ (aZ _ x)⟩
theorem F6{e t:qM}{old:qL}{Q:Option qL->qN->Prop}(hh:A.handled=none)(he:IsEnum s.heap e it i old)(hit:s.heap.IsTupleIter it t i)(ht:s.heap.IsTuple t items)(hx:items[i]?=none)
  (hQ:∀h',Heap.ExtBut it s.heap h'->Q none {s with heap:=h'}):wpAny (model prog w) A (pyNext (.ref e)) Q E s:=by
 have hT:s.TypeIs (.ref e) "enumerate":=⟨_,he,rfl⟩;unfold pyNext;refine qA (wpAny_attempt (wpAny_callSpecial?_slot (name:=Str.ofString "__next__") hT F.slot_enumerate_next (wpAny_call_entry F.slot_enumerate_next hT F.entry_enumerate_next ?_ (F.args_enumerate_next_1 _))))
 (show wpAny _ _ (field (.ref e) 2 >>= _) _ _ _);refine qA (wpAny_field he rfl (x:=.ref it) rfl ?_)
 refine qA (EC hh hit ht hx λh' x he' hx'=>?_);obtain⟨o,ho,hc⟩:=hx';exact qA (wpAny_isInstance (T:="StopIteration") (b:=true) ⟨o,ho,hc⟩ isSubtype_stop (qB (hQ _ he')))
end
noncomputable def OP(K:qQ)(a:qM):It:=
 ⟨λi H=>∃xs x,Ar K H a xs/\xs[i]?=some x,λi H v H'=>∃p x,v=.ref p/\H p=none/\H'=Ai H p (.tup [.int i,x])/\∀xs,Ar K H a xs->xs[i]?=some x,λi H=>∃xs,Ar K H a xs/\xs.length<=i⟩
theorem L5{P:qO}{w:qP}{K:qQ}{elts:List Expr}{ctx}{tpos:Pos}(a e it:qM)(hne:e≠it)(hna:a≠it)(hea:e≠a):
  IP P w K (.Tuple elts ctx tpos) (OP K a) [e,it] e (λi h=>(∃old,IsEnum h e it ((i:Nat):Int) old)/\h.IsTupleIter it a i) where
 mem:=by simp
 obj:=λi h st b hb=>by
  refine byG λGq hGq=>?_;obtain⟨⟨old,q⟩,o,e1,c,d⟩:=st;refine hGq ?_;clear hGq Gq;rcases aw.mp hb with z|z
  ·rw[z];exact⟨_,q,λv y=>by cases y⟩
  ·rw[ak.mp z];exact⟨o,e1,λv y=>by rw[d]at y;cases y⟩
 keep:=λi h h' st k=>by obtain⟨⟨old,q⟩,li⟩:=st;exact⟨⟨old,k e (by simp) _ q⟩,li.at λo z=>k it (by simp) o z⟩
 item:=by
  intro X hP hw hK hc i ad s σ H E I hf st hg;subst hP hw hK;refine byG λGq hGq=>?_;obtain⟨xs,x,hq,hx⟩:=hg;refine hGq ?_;clear hGq Gq;refine byG λGq hGq=>?_;obtain⟨its,rv,p,hz⟩:=I.tuple hq;refine hGq ?_;clear hGq Gq;obtain⟨u,hu,ru⟩:=rv.get hx;obtain⟨⟨old,he⟩,li⟩:=st
  have hil:i<its.toArray.size:=by have:=(ae.mp hu).1;simpa using this
  refine wpAny_pyNext_enum_itemD (OO (A:=X.A.in1) (show X.A.in1.handled=none from I.ok.hd hc) it a hna its.toArray) he ⟨li,show s.heap.IsTuple a its.toArray from p⟩ hil hne (by simp[hne,hea]) λy h1 tk hy out li1 ht hsz k1=>?_
  have ey:y=u:=by
   have e1:its.toArray[i]?=some u:=by simpa using hu
   rw[e1]at hy;exact (Option.some.inj hy).symm
  subst ey;refine⟨_,rfl,wpAny_letOwnedTupleGo_enum out λh2 he2 sb=>?_⟩;have k2:∀b o,b∉[e,it]->s.heap.get? b=some o->h2.get? b=some o:=λb o hb z=>(sb.2 b λy=>hb (by simp[y])).trans (k1 b o (λy=>hb (by simp[y])) (λy=>hb (by simp[y])) z)
  have hpe:s.heap.objs.size≠e:=bo (ag he);have ht2:h2.get? s.heap.objs.size=some {cls:=.type "tuple",data:=.seq #[.int ((i:Nat):Int) tk,y]}:=(sb.2 _ hpe).trans ht;have hn:H s.heap.objs.size=none:=I.hok.fresh (af _);refine⟨.ref s.heap.objs.size,Ai H s.heap.objs.size (.tup [.int ((i:Nat):Int),x]),I.turnedNew (h':=h2) (t':=tk+1) hf k2 (af _) ⟨by show 2<=sizeLine;decide,[.int ((i:Nat):Int) tk,y],.cons ⟨_,rfl⟩ (.cons ru .nil),⟨_,ht2,rfl,_,rfl⟩⟩,rfl,⟨_,x,rfl,hn,rfl,λys hy=>by rw[I.tuple_inj hy hq];exact hx⟩,⟨⟨y,?_⟩,?_⟩,λb hb=>?_⟩
  ·have ec:(((i+1:Nat)):Int)=((i:Nat):Int)+1:=by push_cast;rfl
   rw[ec];exact he2
  ·exact li1.1.at λo z=>(sb.2 it (Ne.symm hne)).trans z
  ·have b0:=(hf b hb).1;rw[AR λz=>?_]
   ·exact b0
   ·obtain⟨o,z1,_⟩:=id li;rcases aw.mp hb with y|y
    ·exact hpe (z.symm.trans y)
    ·exact qE (ag z1) (by rw[<-ak.mp y,z];exact bM _)
 done:=by intro X hP hw hK hc i ad s σ H E I hf st hg;subst hP hw hK;obtain⟨xs,hq,hx⟩:=hg;refine byG λGq hGq=>?_;obtain⟨its,rv,p,hz⟩:=I.tuple hq;refine hGq ?_;clear hGq Gq;obtain⟨⟨old,he⟩,li⟩:=st;refine byG λGq hGq=>?_;obtain⟨f0,f1,f2,f3,f4,f5⟩:=hf it (by simp);refine hGq ?_;clear hGq Gq;have hl:=rv.length;exact F6 (I.ok.hd hc) he li p (by simp;lia) λh' eb=>⟨rfl,I.turned (t':=s.toks) (λb o hb e=>eb b o hb e) f0 f1 f3 f4 f5⟩
 self:=λ_ _ _ _ _ st h=>by obtain⟨⟨old,he⟩,_⟩:=st;exact wpAny_pyIter_enum he h
section
variable{elts:List Expr}{ctx}{tpos:Pos}
def UR(K:qQ)(ta:TA):TI:=λσ H R=>ta σ H λvs H1=>∃a xs,vs=[.ref a]/\Ar K H1 a xs/\R (OP K a) H1
theorem HL{l:Expr}{p pos:Pos}(hg:Gl X "enumerate")(hm:X.mg "enumerate"=none)(ha:PA X [l] ta)(hs:starEach [l] X.env=[(false,eval l X.env)]:=by rfl):PI X (.Tuple elts ctx tpos) (.Call (.Name "enumerate" p) [l] [] pos) (UR X.K ta):=by
 intro ad s σ H R I h;refine Call_ (Cq I hg hm boot_enumerate (bK (A8 (ha pos ad s σ H _ I h) λus s1 z9=>?_) hs rfl));obtain⟨vs,H1,I1,r1,q1⟩:=z9;refine byG λGq hGq=>?_;obtain⟨a,xs,e,hq,q⟩:=q1;refine hGq ?_;clear hGq Gq;subst e;cases r1 with
 |cons r rr =>
  cases rr;cases r;refine byG λGq hGq=>?_;obtain⟨its,rv,pl,hz⟩:=I1.tuple hq;refine hGq ?_;clear hGq Gq;have hal:a<s1.heap.objs.size:=by obtain⟨o,ho,_⟩:=id pl;exact ag ho
  refine L0 pl λh1 he li hsz k1=>?_;refine wpAny_pyIter_enum he ?_;have n1:H1 (s1.heap.objs.size+1)=none:=I1.hok.fresh (b8 _);have n0:H1 s1.heap.objs.size=none:=I1.hok.fresh (af _);refine⟨s1.heap.objs.size+1,[s1.heap.objs.size+1,s1.heap.objs.size],_,_,H1,rfl,I1.kept (t':=s1.toks) k1,L5 a _ _ (Nat.succ_ne_self _) (bA hal) (bo (dB hal)),⟨⟨_,he⟩,li⟩,λb hb=>?_,q⟩;rcases aw.mp hb with z|z
  ·rw[z];exact I1.fpOk (b8 _) n1
  ·rw[ak.mp z];exact I1.fpOk (af _) n0
theorem Iq{K:qQ}{g:TG}{tb:TS}(Pv:Nat->St->Hp->Prop)(h0:Pv 0 σ H)(hl:∀i σ H,i<=xs.length->Pv i σ H->Ar K H a xs)
  (hs:∀i x p σ H,xs[i]?=some x->Pv i σ H->H p=none->g (.ref p) σ (Ai H p (.tup [.int ((i:Nat):Int),x])) λσ2 H2=>tb {D with nx:=Pv (i+1),ct:=Pv (i+1),bk:=D.nx} σ2 H2) (hd:∀σ H,Pv xs.length σ H->D.nx σ H):
  ∃W:Nat->Nat->St->Hp->Prop,(∃m,W 0 m σ H)/\∀i m σ H,W i m σ H ->
   ((OP K a).stop i H/\D.nx σ H)\/((OP K a).go i H/\∃N:St->Hp->Prop,(∀σ' H',N σ' H'->∃m',m'<m/\W (i+1) m' σ' H')/\∀x H',(OP K a).yld i H x H'->g x σ H' λσ2 H2=>tb {D with nx:=N,ct:=N,bk:=D.nx} σ2 H2):=by
 refine⟨λi m σ H=>m=xs.length-i/\i<=xs.length/\Pv i σ H,⟨xs.length,by simp,Nat.zero_le _,h0⟩,?_⟩;rintro i m σ H ⟨rfl,hi,p⟩;have q:=hl i σ H hi p
 by_cases hlt:i<xs.length
 ·refine .inr ⟨⟨xs,xs[i],q,by simp[hlt]⟩,Pv (i+1),λσ' H' p'=>⟨xs.length-(i+1),by lia,rfl,hlt,p'⟩,λv H' y=>?_⟩;refine byG λGq hGq=>?_;obtain⟨p2,x,e1,e2,e3,y⟩:=y;refine hGq ?_;clear hGq Gq;subst e1 e3;exact hs i x p2 σ H (y xs q) p e2
 ·have e:i=xs.length:=by lia
  subst e;exact .inl ⟨⟨xs,q,af _⟩,hd σ H p⟩
end
end L2
namespace RW
noncomputable def dr(g n:Int):Nat->Int
 |0=>n
 |i+1=>dr g n i/g
noncomputable def Ci(g n:Int):Nat->qR
 |0=>[]
 |i+1=>Ci g n i++[dr g n i%g]
theorem CU(g n:Int):∀i,(Ci g n i).length=i
 |0=>rfl
 |i+1=>by rw[Ci,ac,CU g n i];rfl
theorem BF{g:Int}(hg:2<=g):∀m:Nat,0<g^m
 |0=>by rw[cG];decide
 |m+1=>by rw[bX];exact Int.mul_pos (BF hg m) (by lia)
theorem P6{g:Int}(hg:2<=g)(n:Int):∀i:Nat,dr g n i=n/g^i
 |0=>by rw[dr,cG,Int.ediv_one]
 |i+1=>by rw[dr,P6 hg n i,bX,Int.ediv_ediv_of_nonneg (cH (BF hg i))]
theorem M6{g n:Int}(hg:2<=g)(hn:0<=n){m:Nat}(h:n<g^m):dr g n m=0:=by rw[P6 hg];exact c7 hn h
theorem US{g n:Int}(hg:2<=g){m:Nat}(h:g^m<=n):0<dr g n m:=by
 rw[P6 hg];have h1:1*g^m<=n:=by rw[Int.one_mul];exact h
 have h2:=(Int.le_ediv_iff_mul_le (BF hg m)).mpr h1;lia
end RW
namespace L2
open PySem
variable{C a l:qM}{H H' H1:Hp}{g lo:Int}{i k:Nat}{o:HO}{xs:List V}{y:V}{α:Type}
theorem Db(hg:2<=g){m n:Nat}(h:m<=n):g^m<=g^n:=by obtain⟨k,rfl⟩:=Nat.exists_eq_add_of_le h;rw[Int.pow_add];have h1:=RW.BF hg m;have h2:=RW.BF hg k;have h3:=bz (show 1<=g^k by lia) (cH h1);lia
theorem P7(hg:2<=g){m n:Nat}(h:m<n):g^m<g^n:=by have h1:=Db hg (show m+1<=n from h);rw[bX]at h1;have h2:=RW.BF hg m;have h3:=bz hg (cH h2);lia
theorem FS(hg:2<=g){m n:Nat}(h:g^m=g^n):m=n:=by
 rcases Nat.lt_trichotomy m n with z|z|z
 ·have:=P7 hg z;lia
 ·exact z
 ·have:=P7 hg z;lia
theorem Ir(hg:2<=g):∀{rs:qR},(∀n∈rs,0<=n/\n<g)->0<=low g rs/\low g rs<g^rs.length
 |[],_=>⟨Int.le_refl _,by show (0:Int)<g^0;rw[cG];decide⟩
 |x::r,h=>by
  obtain⟨h1,h2⟩:=Ir hg (rs:=r) λn hn=>h n (aa _ hn)
  obtain⟨h3,h4⟩:=h x ah;have h5:=Int.mul_nonneg (show 0<=g by lia) h1;have h6:=bz (show low g r+1<=g^r.length by lia) (show 0<=g by lia);rw[Int.mul_add,Int.mul_one]at h6;refine⟨by show 0<=x+g*low g r;lia,?_⟩;show x+g*low g r<g^(r.length+1);rw[bX,cv (g^r.length)];lia
theorem HM(hg:2<=g){ns:qR}(h:∀n∈ns,0<=n/\n<g):0<=CD g ns/\CD g ns<g^ns.length:=by rw[Mz,<-cr];exact Ir hg λn hn=>h n (dI.mp hn)
theorem BP{b:qM}{zs:List V}{Q:VK}(h1:H l=some (.lst xs))(h2:H b=some (.lst zs))(hz:xs.length+zs.length<=1000)(q:∀p H',AJ H H'->H p=none->H' p=some (.lst (xs++zs))->Q (.ref p) H'):WY (.ref l) (.ref b) H Q:=
 ⟨l,b,xs,zs,rfl,rfl,h1,h2,Wa hz,λp hp=>q p _ (AJ.new hp _) hp AF⟩
theorem L6{K:qQ}{lo hi:Option Int}{Q:VK}(h:Ag K H a xs)(q:∀p H',AJ H H'->H p=none->H' p=some (.lst (JT xs lo hi))->Q (.ref p) H'):WX K (.ref a) lo hi H Q:=
 ⟨a,xs,rfl,h,λp hp=>q p _ (AJ.new hp _) hp AF⟩
theorem Ru:JT xs none (some ((k:Nat):Int))=xs.take k:=by
 have e:HT.JS xs.length xs.length (some ((k:Nat):Int))=min k xs.length:=by show (if ((k:Nat):Int)<0 then (((k:Nat):Int)+(xs.length:Int)).toNat else min ((k:Nat):Int).toNat xs.length)=_;rw[qC (by lia),bI]
 unfold JT;rw[e];show (xs.drop 0).take (min k xs.length-0)=_;rw[List.drop_zero,Nat.sub_zero]
 by_cases z:k<=xs.length
 ·rw[Nat.min_eq_left z]
 ·rw[Nat.min_eq_right (by lia),bN,be (by lia)]
theorem Rk.same{E:XK}(e:AJ H H1)(h:Rk C i H E):Rk C i H1 E:=λH' dx e1 hd=>h H' dx (e.trans e1) hd
theorem P8{ns:qR}(h:k<ns.length):Kb (ns.map V.int) ((k:Nat):Int)=some (.int (ns.getD k 0)):=by refine Bv ?_;rw[ay,ao h,aq,ao h];rfl
def BJ(H:Hp)(r:qM)(g lo:Int)(d4:qR):Prop:=∃tb,H r=some (.tup [.int g,.int lo,.ref tb])/\H tb=some (.tup (d4.map V.int))
variable{d4:qR}
theorem BJ.same{r:qM}(e:AJ H H')(h:BJ H r g lo d4):BJ H' r g lo d4:=by obtain⟨tb,h1,h2⟩:=h;exact⟨tb,e _ _ h1,e _ _ h2⟩
inductive DJ(vs:List V)(H:Hp)(Q:VK)(z3_:XK):Prop
 |m (g n:Int):vs=[.int g,.int n]->2<=g->g<=9->(∀m:Nat,n=g^m->Q (.int ((m:Nat):Int)) H)->((∀m:Nat,n≠g^m)->Q (.int 0) H)->DJ vs H Q z3_
inductive CV(vs:List V)(H:Hp)(Q:VK)(z3_:XK):Prop
 |m (r:qM) (g lo:Int) (d4:qR) (m:Nat):vs=[.ref r]->2<=g->g<=9->BJ H r g lo d4->(d4.length:Int)=g^m->Q (.int ((m:Nat):Int)) H->CV vs H Q z3_
noncomputable def ED(g:Int)(m:Nat)(xs:List V):Option Nat:=match Bb g (xs.take m) with
 |some i=>some i
 |none=>if xs.length=m then none else some (min xs.length m)
inductive Ew(K:qQ)(C:qM)(vs:List V)(H:Hp)(Q:VK)(E:XK):Prop
 |m (a:qM) (xs:List V) (g:Int) (m:Nat):vs=[.ref a,.int g,.int ((m:Nat):Int)]->Ag K H a xs->(∀x∈xs,Kd H x)->(match ED g m xs with|none=>∀H',AJ H H'->Q .non H'|some i=>Rk C i H E)->Ew K C vs H Q E
inductive Jn(K:qQ)(C:qM)(vs:List V)(H:Hp)(Q:VK)(E:XK):Prop
 |m (r a:qM) (g lo:Int) (d4:qR) (m:Nat) (xs:List V):vs=[.ref r,.ref a]->2<=g->g<=9->BJ H r g lo d4->(d4.length:Int)=g^m->Ag K H a xs->(∀x∈xs,Kd H x)->(match ED g m xs with|none=>∀ns:qR,xs=ns.map V.int->∀H',AJ H H'->Q (.int (d4.getD (CD g ns).toNat 0)) H'|some i=>Rk C i H E)->Jn K C vs H Q E
theorem Ks{m:Nat}(h:ED g m xs=none):xs.length=m/\Bb g xs=none:=by
 unfold ED at h;cases e:Bb g (xs.take m) with
 |some i=>rw[e]at h;cases h
 |none =>
  rw[e]at h
  by_cases z:xs.length=m
  ·refine⟨z,?_⟩;rw[<-z,bN]at e;exact e
  ·rw[qC z]at h;cases h
theorem GS{ns:qR}(h:∀n∈ns,0<=n/\n<g):ED g ns.length (ns.map V.int)=none:=by unfold ED;have e:(ns.map V.int).take ns.length=ns.map V.int:=be (by rw[aW];exact af _);rw[e,Cu h,aW];exact qD rfl
inductive HN(vs:List V)(H:Hp)(Q:VK)(z3_:XK):Prop
 |m (c m:Int):vs=[.int c,.int m]->0<=m->m<=300->(∀(r:qM) (H':Hp) (l:qR),l.length=m.toNat->AJ H H'->H r=none->H' r=some (.lst (l.map V.int))->Q (.ref r) H')->HN vs H Q z3_
noncomputable def Cw(x y:V):Bool:=(match x with
 |.int g=>decide (2<=g)&&decide (g<=9)
 |_=>false)&&My y
theorem Jo{x:V}(h:Cw x y=true):∃g lo:Int,x=.int g/\y=.int lo/\2<=g/\g<=9:=by
 unfold Cw at h;cases x with
 |int g =>
  cases y with
  |int lo =>
   simp only[My,Bool.and_true,Bool.and_eq_true,decide_eq_true_eq]at h;exact⟨g,lo,rfl,rfl,h.1,h.2⟩
  |_=>simp[My]at h
 |_=>simp at h
theorem Ej(g2:2<=g)(g9:g<=9):Cw (.int g) (.int lo)=true:=by show ((decide (2<=g)&&decide (g<=9))&&true)=true;rw[qF g2,qF g9];rfl
inductive L7(C:qM)(vs:List V)(H:Hp)(Q:VK)(E:XK):Prop
 |m (x y:V):vs=[x,y]->Kd H x->Kd H y->(Cw x y=true->Q .non H)->(Cw x y=false->E (.ref C) none H)->L7 C vs H Q E
def Ge(H:Hp)(a:qM)(xs:List V):Prop:=H a=some (.lst xs)\/H a=some (.tup xs)
theorem Ge.same(e:AJ H H')(h:Ge H a xs):Ge H' a xs:=h.elim (λq=>.inl (e _ _ q)) λq=>.inr (e _ _ q)
variable{ys:List V}
theorem Ge.inj(h:Ge H a xs)(h':Ge H a ys):xs=ys:=by
 rcases h with h|h
 ·rcases h' with h'|h'
  ·rw[h]at h';cases h';rfl
  ·rw[h]at h';cases h'
 ·rcases h' with h'|h'
  ·rw[h]at h';cases h'
  ·rw[h]at h';cases h';rfl
theorem Ge.sq{K:qQ}(h:Ge H a xs):Ag K H a xs\/Ar K H a xs:=h.elim (λq=>.inl (Ag.of q)) λq=>.inr (Ar.of q)
noncomputable def S8(H:Hp):V->Prop
 |.ref a=>∃xs,Ge H a xs/\∀x∈xs,Kd H x
 |.non=>True
 |.str _=>True
 |.int _=>True
 |.bl _=>True
 |_=>False
def EE(g:Int)(xs:List V):Prop:=xs.length<=256/\(∃m:Nat,1<=m/\(xs.length:Int)=g^m)/\Bb g xs=none
def Gn(H:Hp)(g:Int)(z:V):Prop:=∃a xs,z=.ref a/\Ge H a xs/\EE g xs
inductive Jp(C:qM)(vs:List V)(H:Hp)(Q:VK)(E:XK):Prop
 |m (g:Int) (z:V):vs=[.int g,z]->2<=g->g<=9->S8 H z->(Gn H g z->∀H',AJ H H'->Q .non H')->(¬Gn H g z->∀H',AJ H H'->E (.ref C) none H')->Jp C vs H Q E
def P9(H:Hp)(x y z:V):Prop:=Cw x y=true/\∃g,x=.int g/\Gn H g z
inductive Ex(C:qM)(vs:List V)(H:Hp)(Q:VK)(E:XK):Prop
 |m (x y z:V):vs=[x,y,z]->Kd H x->Kd H y->S8 H z->(∀(g lo:Int) (d4:qR) (a:qM),x=.int g->y=.int lo->z=.ref a->Ge H a (d4.map V.int)->2<=g->g<=9->EE g (d4.map V.int)->(∀n∈d4,0<=n/\n<g)->∀r H',AJ H H'->BJ H' r g lo d4->Q (.ref r) H')->(¬P9 H x y z->∀H',AJ H H'->E (.ref C) none H')->Ex C vs H Q E
theorem Rv{n:Nat}(h:i<n):OA n ((i:Nat):Int)=some i:=by unfold OA;rw[qD (by lia),qD (by lia),bI]
def Rw(H H':Hp)(r:qM)(ns:qR):Prop:=AJ H H'/\H r=none/\H' r=some (.lst (ns.map V.int))
inductive Jq(NS:qM)(vs:List V)(H:Hp)(Q:VK)(E:XK):Prop
 |m (n g m:Int):vs=[.int n,.int g,.int m]->2<=g->g<=9->0<=m->m<=300->((n<0\/g^m.toNat<=n)->∀H',AJ H H'->E (.ref NS) none H')->(0<=n->n<g^m.toNat->∀r H',Rw H H' r (RW.Ci g n m.toNat).reverse->Q (.ref r) H')->Jq NS vs H Q E
inductive HP(vs:List V)(H:Hp)(Q:VK)(z3_:XK):Prop
 |m (g m:Int):vs=[.int g,.int m]->2<=g->g<=9->1<=m->(g^m.toNat<=256->Q (.int (g^m.toNat)) H)->(256<g^m.toNat->∀r:Int,256<r->Q (.int r) H)->HP vs H Q z3_
inductive Ey(vs:List V)(H:Hp)(Q:VK)(z3_:XK):Prop
 |m (r:qM) (g lo:Int) (d4:qR):vs=[.ref r]->2<=g->g<=9->BJ H r g lo d4->(∀n∈d4,0<=n/\n<g)->(∀H',AJ H H'->Q (.int (low g d4)) H')->Ey vs H Q z3_
theorem M7(g n:Int):∀i:Nat,RW.dr g n (i+1)=RW.dr g (n/g) i
 |0=>rfl
 |i+1=>by rw[RW.dr,M7 g n i];rfl
theorem Iu(g n:Int):∀i:Nat,RW.Ci g n (i+1)=n%g::RW.Ci g (n/g) i
 |0=>rfl
 |i+1=>by rw[RW.Ci,Iu g n i,M7];rfl
theorem Kt(hg:2<=g):∀{l:qR},(∀n∈l,0<=n/\n<g)->RW.Ci g (low g l) l.length=l
 |[],_=>rfl
 |x::r,h=>by obtain⟨h0,h1⟩:=h x ah;rw[a9,Iu,low,Int.add_mul_emod_self_left,Int.emod_eq_of_lt h0 h1,Int.add_mul_ediv_left _ _ (show g≠0 by lia),c7 h0 h1,bu,Kt hg λn hn=>h n (aa _ hn)]
theorem Jr(hg:2<=g)(n:Int):∀i:Nat,∀x∈RW.Ci g n i,0<=x/\x<g
 |0,x,h=>qE h (by simp[RW.Ci])
 |i+1,x,h=>by
  rw[RW.Ci]at h;rcases ar.mp h with z|z
  ·exact Jr hg n i x z
  ·rw[ak.mp z];exact⟨cx _ (by lia),cS _ (by lia)⟩
theorem GU(g n:Int):∀i:Nat,low g (RW.Ci g n i)+g^i*RW.dr g n i=n
 |0=>by rw[RW.Ci,low,RW.dr,cG];lia
 |i+1=>by have h:=GU g n i;have e:=Int.emod_add_mul_ediv (RW.dr g n i) g;rw[RW.Ci,Kk,RW.CU,RW.dr,bX,Int.mul_assoc,cv (RW.dr g n i%g),Int.add_assoc,<-Int.mul_add,e];exact h
theorem QA{n:Int}(hg:2<=g)(hn:0<=n)(h:n<g^i):low g (RW.Ci g n i)=n:=by have e:=GU g n i;rw[RW.M6 hg hn h,Int.mul_zero,Int.add_zero]at e;exact e
theorem AJ.into{p:qM}(e:AJ H H1)(hp:H p=none):AJ H (Ai H1 p o):=λb u q=>by rw[AR (A3 q hp)];exact e b u q
theorem Js(g:Int):∀(n:Int) (l:qR),Lv g n l=n*g^l.length+CD g l
 |n,[]=>by show n=n*g^0+0;rw[cG];lia
 |n,x::r=>by show Lv g (n*g+x) r=n*g^(r.length+1)+Lv g (0*g+x) r;rw[Js g (n*g+x) r,Js g (0*g+x) r,Int.zero_mul,bu,Int.add_mul,bX,Int.mul_assoc,cv g,Int.add_assoc]
theorem L8(g:Int)(a b:qR):CD g (a++b)=CD g a*g^b.length+CD g b:=by show (a++b).foldl (λm x=>m*g+x) 0=_;rw[List.foldl_append];exact Js g (Lv g 0 a) b
theorem FT(hg:2<=g)(hb:∀n∈d4,0<=n/\n<g)(k:Nat):0<=d4.getD k 0/\d4.getD k 0<g:=by
 rw[aq];cases e:d4[k]? with
 |none=>exact⟨Int.le_refl _,by show (0:Int)<g;lia⟩
 |some v=>exact hb v (a8 e)
theorem Cy(f:Nat->α)(i:Nat):(List.range (i+1)).map f=(List.range i).map f++[f i]:=by rw[bg,az];rfl
variable{z:Int}
theorem Jt{ns:qR}(h0:0<=z)(h:z.toNat<ns.length):Kb (ns.map V.int) z=some (.int (ns.getD z.toNat 0)):=by have e:=P8 (ns:=ns) h;rw[show ((z.toNat:Nat):Int)=z by lia]at e;exact e
noncomputable def Bt(g:Int)(m:Nat)(xs:List V):Option Nat:=match Bb g xs with
 |some i=>some i
 |none=>if xs.length<m then some xs.length else none
inductive Do(K:qQ)(C:qM)(vs:List V)(H:Hp)(Q:VK)(E:XK):Prop
 |m (a:qM) (xs:List V) (g:Int) (m:Nat):vs=[.ref a,.int g,.int ((m:Nat):Int)]->Ag K H a xs->(∀x∈xs,Kd H x)->(match Bt g m xs with|none=>∀H',AJ H H'->Q .non H'|some i=>Rk C i H E)->Do K C vs H Q E
theorem Ku{m:Nat}(h:Bb g xs=some i):Bt g m xs=some i:=by unfold Bt;rw[h]
noncomputable def DL(g n:Int)(m:Nat):qR:=(RW.Ci g n m).reverse
theorem OQ(g n:Int)(m:Nat):(DL g n m).length=m:=by unfold DL;rw[List.length_reverse,RW.CU]
theorem Kv(hg:2<=g)(n:Int)(m:Nat):∀x∈DL g n m,0<=x/\x<g:=λx hx=>Jr hg n m x (dI.mp hx)
theorem OR{n:Int}(hg:2<=g)(h0:0<=n){m:Nat}(h:n<g^m):CD g (DL g n m)=n:=by unfold DL;rw[Gk,QA hg h0 h]
theorem OS(hg:2<=g){ws:qR}(hb:∀x∈ws,0<=x/\x<g):DL g (CD g ws) ws.length=ws:=by
 unfold DL;have e:=Kt hg (l:=ws.reverse) λn hn=>hb n (dI.mp hn)
 rw[cr]at e;rw[Mz,e,dO]
noncomputable def Dc(g:Int)(d4:qR)(m:Nat):qR:=(List.range d4.length).map λk:Nat=>d4.getD (CD g (RW.Ci g (k:Int) m)).toNat 0
theorem Iv(g:Int)(d4:qR)(m:Nat):(Dc g d4 m).length=d4.length:=by unfold Dc;rw[List.length_map,List.length_range]
theorem Kw(hg:2<=g)(hb:∀n∈d4,0<=n/\n<g)(m:Nat):∀n∈Dc g d4 m,0<=n/\n<g:=λn hn=>by unfold Dc at hn;obtain⟨k,_,rfl⟩:=bL.mp hn;exact FT hg hb _
theorem B9{f:Nat->Int}{n:Nat}(h:k<n):((List.range n).map f).getD k 0=f k:=by rw[aq,ay,List.getElem?_range h];rfl
theorem Bd{a b:qR}(hl:a.length=b.length)(h:∀k,k<a.length->a.getD k 0=b.getD k 0):a=b:=by apply List.ext_getElem hl;intro i h1 h2;have:=h i h1;rw[aq,aq,ao h1,ao h2]at this;exact this
noncomputable def Br(g:Int)(d4:qR)(w:Int):Bool:=(List.range d4.length).any λk:Nat=>!decide (d4.getD k 0=d4.getD ((k:Int)-(k:Int)/w%g*w).toNat 0)
noncomputable def BX(g lo:Int)(d4:qR)(m:Nat):qR:=((List.range m).filter λj=>Br g d4 (g^(m-1-j))).map λj:Nat=>lo+(j:Int)
inductive HR(vs:List V)(H:Hp)(Q:VK)(z3_:XK):Prop
 |m (r:qM) (g lo:Int) (d4:qR) (w:Int):vs=[.ref r,.int w]->2<=g->g<=9->BJ H r g lo d4->0<w->w<=1000->d4.length<=256->(∀H',AJ H H'->Q (.bl (Br g d4 w)) H')->HR vs H Q z3_
inductive Dp(vs:List V)(H:Hp)(Q:VK)(z3_:XK):Prop
 |m (r:qM) (g lo:Int) (d4:qR) (m:Nat):vs=[.ref r]->2<=g->g<=9->BJ H r g lo d4->(d4.length:Int)=g^m->1<=m->m<=8->g^m<=256->(∀p H',Rw H H' p (BX g lo d4 m)->Q (.ref p) H')->Dp vs H Q z3_
theorem UT{k w:Int}(hk:0<=k)(hw:0<w)(hg:2<=g):0<=k-k/w%g*w/\k-k/w%g*w<=k:=by
 have h1:=cx (k/w) (show g≠0 by lia);have h2:=Int.ediv_nonneg hk (cH hw)
 have h3:k/w%g<=k/w:=by
  by_cases z:k/w<g
  ·rw[Int.emod_eq_of_lt h2 z];lia
  ·have:=cS (k/w) (show 0<g by lia);lia
 have h4:=Int.mul_le_mul_of_nonneg_right h3 (cH hw);have h5:=Int.mul_nonneg h1 (cH hw);have h6:=Int.ediv_mul_le k (show w≠0 by lia);exact⟨by lia,by lia⟩
end L2
namespace L2
variable{g lo z:Int}{i j k:Nat}{d4:qR}
theorem F7(g:Int)(a:qR)(x:Int)(b:qR):CD g (a++x::b)=(CD g a*g+x)*g^b.length+CD g b:=by rw[show a++x::b=(a++[x])++b by rw[cX];rfl,L8,Kl]
theorem OT(hg:2<=g){a b:qR}{x:Int}(hb:∀n∈b,0<=n/\n<g)(hx:0<=x/\x<g):CD g (a++x::b)/g^b.length%g=x:=by have b1:=HM hg hb;have gp:=RW.BF hg b.length;rw[F7,Int.add_comm,cv,Int.add_mul_ediv_left _ _ (by lia),c7 b1.1 b1.2,bu,Int.add_comm,cv,Int.add_mul_emod_self_left,Int.emod_eq_of_lt hx.1 hx.2]
theorem Kx{w:qR}(h:j<w.length):w=w.take j++w.getD j 0::w.drop (j+1):=by rw[aq,ao h];show w=w.take j++w[j]::w.drop (j+1);rw[<-List.drop_eq_getElem_cons h,List.take_append_drop]
theorem OU{w:qR}(h:j<w.length)(v:Int):w.set j v=w.take j++v::w.drop (j+1):=List.set_eq_take_append_cons_drop▸qD h
theorem Ju(hg:2<=g){w:qR}(hb:∀n∈w,0<=n/\n<g)(h:j<w.length):CD g w/g^(w.length-1-j)%g=w.getD j 0:=by
 have hl:(w.drop (j+1)).length=w.length-1-j:=by rw[cm];lia
 have e:=OT hg (a:=w.take j) (b:=w.drop (j+1)) (x:=w.getD j 0) (λn hn=>hb n (List.mem_of_mem_drop hn)) (FT hg hb j);rw[<-Kx h,hl]at e;exact e
theorem HS(hg:2<=g){w:qR}(hb:∀n∈w,0<=n/\n<g)(h:j<w.length):CD g w-CD g w/g^(w.length-1-j)%g*g^(w.length-1-j)=CD g (w.set j 0):=by
 rw[Ju hg hb h,OU h];have hl:(w.drop (j+1)).length=w.length-1-j:=by rw[cm];lia
 have e:=F7 g (w.take j) (w.getD j 0) (w.drop (j+1));rw[<-Kx h]at e;rw[e,F7,hl,Int.add_mul,Int.add_zero];lia
theorem L9{w:Int}(h:Br g d4 w=false)(hk:k<d4.length):d4.getD k 0=d4.getD ((k:Int)-(k:Int)/w%g*w).toNat 0:=by unfold Br at h;rw[List.any_eq_false]at h;have:=h k (bQ.mpr hk);simpa using this
theorem MA(hg:2<=g){m:Nat}(hl:(d4.length:Int)=g^m){w:qR}(hb:∀n∈w,0<=n/\n<g)(hw:w.length=m)(hj:j<m)(hc:Br g d4 (g^(m-1-j))=false):d4.getD (CD g w).toNat 0=d4.getD (CD g (w.set j 0)).toNat 0:=by have b:=HM hg hb;rw[hw]at b;have e:=L9 hc (k:=(CD g w).toNat) (by lia);have n0:=HS hg hb (j:=j) (by lia);rw[hw]at n0;rw[show (((CD g w).toNat:Nat):Int)=CD g w by lia,n0]at e;exact e
noncomputable def zk(keep:Nat->Bool)(w:qR)(k:Nat):qR:=(List.range w.length).map λj=>if j<k/\keep j=false then 0 else w.getD j 0
theorem CL(keep:Nat->Bool)(w:qR)(k:Nat):(zk keep w k).length=w.length:=by unfold zk;rw[List.length_map,List.length_range]
theorem Ez(keep:Nat->Bool)(w:qR)(k:Nat)(h:j<w.length):(zk keep w k).getD j 0=if j<k/\keep j=false then 0 else w.getD j 0:=by unfold zk;exact B9 h
theorem Rx(keep:Nat->Bool)(w:qR):zk keep w 0=w:=by refine Bd (CL keep w 0) λj hj=>?_;rw[CL]at hj;rw[Ez keep w 0 hj,qC (by lia)]
theorem Wz(hg:2<=g){keep:Nat->Bool}{w:qR}(hb:∀n∈w,0<=n/\n<g)(k:Nat):∀n∈zk keep w k,0<=n/\n<g:=λn hn=>by
 unfold zk at hn;obtain⟨j,_,e⟩:=bL.mp hn;subst e;split
 ·exact⟨Int.le_refl _,by lia⟩
 ·exact FT hg hb _
theorem Ky{w:qR}{v:Int}(h:i<w.length):(w.set i v).getD j 0=if i=j then v else w.getD j 0:=by
 rw[aq,List.getElem?_set]
 by_cases e:i=j
 ·rw[qD e,qD e];subst e;rw[qD h];rfl
 ·rw[qC e,qC e,aq]
theorem Ry(keep:Nat->Bool)(w:qR)(hk:k<w.length):zk keep w (k+1)=if keep k=false then (zk keep w k).set k 0 else zk keep w k:=by
 by_cases e:keep k=false
 ·rw[qD e];refine Bd (by rw[List.length_set,CL,CL]) λj hj=>?_;rw[CL]at hj;rw[Ez keep w _ hj,Ky (by rw[CL];exact hk),Ez keep w _ hj]
  by_cases z:k=j
  ·subst z;rw[qD ⟨by lia,e⟩,qD rfl]
  ·rw[qC z]
   by_cases y:j<k/\keep j=false
   ·rw[qD y,qD ⟨by lia,y.2⟩]
   ·rw[qC y,qC (λx=>y ⟨by lia,x.2⟩)]
 ·rw[qC e];refine Bd (by rw[CL,CL]) λj hj=>?_;rw[CL]at hj;rw[Ez keep w _ hj,Ez keep w _ hj]
  by_cases y:j<k/\keep j=false
  ·rw[qD y,qD ⟨by lia,y.2⟩]
  ·rw[qC y,qC (λx=>y ⟨Nat.lt_of_le_of_ne (by lia) (λz=>e (z▸x.2)),x.2⟩)]
theorem Go(hg:2<=g){m:Nat}(hl:(d4.length:Int)=g^m){keep:Nat->Bool}(hc:∀j,j<m->keep j=false->Br g d4 (g^(m-1-j))=false){w:qR}(hb:∀n∈w,0<=n/\n<g)(hw:w.length=m):∀k,k<=m->d4.getD (CD g (zk keep w k)).toNat 0=d4.getD (CD g w).toNat 0
 |0,_=>by rw[Rx]
 |k+1,h=>by
  rw[Ry keep w (by lia)]
  by_cases e:keep k=false
  ·rw[qD e,<-MA hg hl (Wz hg hb k) (by rw[CL,hw]) (by lia) (hc k (by lia) e)];exact Go hg hl hc hb hw k (by lia)
  ·rw[qC e];exact Go hg hl hc hb hw k (by lia)
theorem MB(hg:2<=g){m:Nat}(hl:(d4.length:Int)=g^m){v w:qR}(hv:∀n∈v,0<=n/\n<g)(hw:∀n∈w,0<=n/\n<g)(lv:v.length=m)(lw:w.length=m)
  (h:∀j,j<m->Br g d4 (g^(m-1-j))=true->v.getD j 0=w.getD j 0):d4.getD (CD g v).toNat 0=d4.getD (CD g w).toNat 0:=by
 have key:∀j,j<m->(λj=>Br g d4 (g^(m-1-j))) j=false->Br g d4 (g^(m-1-j))=false:=λj _ e=>e
 rw[<-Go hg hl key hv lv m (af _),<-Go hg hl key hw lw m (af _)]
 congr 3
 refine Bd (by rw[CL,CL,lv,lw]) λj hj=>?_;rw[CL,lv]at hj;rw[Ez _ _ _ (by lia),Ez _ _ _ (by lia)]
 by_cases e:j<m/\Br g d4 (g^(m-1-j))=false
 ·rw[qD e,qD e]
 ·rw[qC e,qC e];refine h j hj ?_;cases z:Br g d4 (g^(m-1-j)) with
  |true=>rfl
  |false=>exact qE ⟨hj,z⟩ e
noncomputable def sn(v:qR)(z:Int):Int:=if z<0\/(v.length:Int)<=z then 0 else v.getD z.toNat 0
theorem S9(hg:2<=g){v:qR}(hb:∀n∈v,0<=n/\n<g)(z:Int):0<=sn v z/\sn v z<g:=by
 unfold sn;split
 ·exact⟨Int.le_refl _,by lia⟩
 ·exact FT hg hb _
theorem QB{v:qR}(h:j<v.length):sn v ((j:Nat):Int)=v.getD j 0:=by unfold sn;rw[qC (by lia),bI]
noncomputable def M9(v:qR)(d:Int)(m:Nat):qR:=(List.range m).map λj:Nat=>sn v (d+(j:Int))
theorem Gp(v:qR)(d:Int)(m:Nat):(M9 v d m).length=m:=by unfold M9;rw[List.length_map,List.length_range]
theorem QC(hg:2<=g){v:qR}(hb:∀n∈v,0<=n/\n<g)(d:Int)(m:Nat):∀n∈M9 v d m,0<=n/\n<g:=λn hn=>by unfold M9 at hn;obtain⟨j,_,e⟩:=bL.mp hn;subst e;exact S9 hg hb _
theorem NA(v:qR)(d:Int){m:Nat}(h:j<m):(M9 v d m).getD j 0=sn v (d+(j:Int)):=by unfold M9;exact B9 h
theorem Kz(v:qR):M9 v 0 v.length=v:=by refine Bd (Gp _ _ _) λj hj=>?_;rw[Gp]at hj;rw[NA v 0 hj,bu,QB hj]
noncomputable def HU(g lo:Int)(d4:qR)(m:Nat)(low:Int)(M:Nat):qR:=(List.range (g^M).toNat).map λn:Nat=>d4.getD (CD g (M9 (DL g (n:Int) M) (lo-low) m)).toNat 0
theorem Bi(hg:2<=g)(lo:Int)(d4:qR)(m:Nat)(low:Int)(M:Nat):((HU g lo d4 m low M).length:Int)=g^M:=by unfold HU;rw[aW,bq,bh (cH (RW.BF hg M))]
theorem QD(hg:2<=g)(lo:Int)(hb:∀n∈d4,0<=n/\n<g)(m:Nat)(low:Int)(M:Nat):∀n∈HU g lo d4 m low M,0<=n/\n<g:=λn hn=>by unfold HU at hn;obtain⟨j,_,e⟩:=bL.mp hn;subst e;exact FT hg hb _
theorem K0(hg:2<=g)(lo:Int)(d4:qR)(m:Nat)(low:Int){v:qR}(hb:∀n∈v,0<=n/\n<g):(HU g lo d4 m low v.length).getD (CD g v).toNat 0=d4.getD (CD g (M9 v (lo-low) m)).toNat 0:=by have b:=HM hg hb;unfold HU;rw[B9 (by lia),show (((CD g v).toNat:Nat):Int)=CD g v by lia,OS hg hb]
theorem NB(hg:2<=g){m:Nat}(h:(k:Int)<g^m):∃w:qR,w.length=m/\(∀n∈w,0<=n/\n<g)/\CD g w=(k:Int):=⟨DL g (k:Int) m,OQ _ _ _,Kv hg _ _,OR hg (by lia) h⟩
theorem QE(hg:2<=g){a b:qR}{m:Nat}(la:(a.length:Int)=g^m)(lb:(b.length:Int)=g^m)(h:∀w:qR,w.length=m->(∀n∈w,0<=n/\n<g)->a.getD (CD g w).toNat 0=b.getD (CD g w).toNat 0):a=b:=by refine Bd (by lia) λk hk=>?_;obtain⟨w,h1,h2,h3⟩:=NB hg (m:=m) (k:=k) (by lia);have:=h w h1 h2;rw[h3,bI]at this;exact this
theorem HV(hg:2<=g)(lo:Int){m:Nat}(hl:(d4.length:Int)=g^m):HU g lo d4 m lo m=d4:=by refine QE hg (Bi hg _ _ _ _ _) hl λw hw hb=>?_;subst hw;rw[K0 hg lo d4 _ lo hb,Int.sub_self,Kz]
theorem MC{m:Nat}:z∈BX g lo d4 m↔∃j:Nat,j<m/\Br g d4 (g^(m-1-j))=true/\z=lo+(j:Int):=by
 unfold BX;constructor
 ·intro h;obtain⟨j,hj,e⟩:=bL.mp h;obtain⟨h1,h2⟩:=bR.mp hj;exact⟨j,bQ.mp h1,h2,e.symm⟩
 ·rintro⟨j,hj,hc,rfl⟩;exact bL.mpr ⟨j,bR.mpr ⟨bQ.mpr hj,hc⟩,rfl⟩
theorem F8{w:Int}:Br g d4 w=true↔∃k:Nat,k<d4.length/\d4.getD k 0≠d4.getD ((k:Int)-(k:Int)/w%g*w).toNat 0:=by
 unfold Br;rw[dJ];constructor
 ·rintro⟨k,hk,h⟩;exact⟨k,List.mem_range.mp hk,by simpa using h⟩
 ·rintro⟨k,hk,h⟩;exact⟨k,List.mem_range.mpr hk,by simpa using h⟩
theorem MD(hg:2<=g){m:Nat}(hl:(d4.length:Int)=g^m)(hj:j<m):Br g d4 (g^(m-1-j))=true↔∃w:qR,w.length=m/\(∀n∈w,0<=n/\n<g)/\d4.getD (CD g w).toNat 0≠d4.getD (CD g (w.set j 0)).toNat 0:=by
 rw[F8];constructor
 ·rintro⟨k,hk,h⟩;refine byG λGq hGq=>?_;obtain⟨w,h1,h2,h3⟩:=NB hg (m:=m) (k:=k) (by lia);refine hGq ?_;clear hGq Gq;refine⟨w,h1,h2,?_⟩;have n0:=HS hg h2 (j:=j) (by lia);rw[h1,h3]at n0;rw[<-n0,h3,bI];exact h
 ·intro hRq;refine byG λGq hGq=>?_;obtain⟨w,h1,h2,h⟩:=hRq;refine hGq ?_;clear hGq Gq;have b:=HM hg h2;rw[h1]at b;refine⟨(CD g w).toNat,by lia,?_⟩;have n0:=HS hg h2 (j:=j) (by lia);rw[h1]at n0;rw[show (((CD g w).toNat:Nat):Int)=CD g w by lia,n0];exact h
structure Cj(g lo:Int)(d4:qR)(m:Nat)(low:Int)(M:Nat):Prop where
 one:1<=M
 all:∀j,j<m->Br g d4 (g^(m-1-j))=true->low<=lo+(j:Int)/\lo+(j:Int)<low+(M:Int)
 ends:((∀j,j<m->Br g d4 (g^(m-1-j))=false)/\low=0/\M=1)\/∃j0 j1:Nat,j0<=j1/\j1<m/\low=lo+(j0:Int)/\M=j1-j0+1/\Br g d4 (g^(m-1-j0))=true/\Br g d4 (g^(m-1-j1))=true
theorem IV(p:Nat->Bool)(n:Nat):((List.range n).filter p).Pairwise (·<·):=List.Pairwise.filter p List.pairwise_lt_range
theorem ME:∀{l:List Nat},l.Pairwise (·<·)->∀x∈l,l.getD 0 0<=x
 |[],_,x,h=>qE h (by simp)
 |a::r,hp,x,h=>by
  rcases aw.mp h with z|z
  ·rw[z];exact af _
  ·exact cM ((cT.mp hp).1 x z)
theorem F9:∀{l:List Nat},l.Pairwise (·<·)->∀x∈l,x<=l.getD (l.length-1) 0
 |[],_,x,h=>qE h (by simp)
 |[a],_,x,h=>by rw[ak.mp h];exact af _
 |a::b::r,hp,x,h=>by
  have ih:=F9 (l:=b::r) (cT.mp hp).2;have e:(a::b::r).getD ((a::b::r).length-1) 0=(b::r).getD ((b::r).length-1) 0:=rfl;rw[e];rcases aw.mp h with z|z
  ·rw[z];exact bB (cM ((cT.mp hp).1 b ah)) (ih b ah)
  ·exact ih x z
theorem Ha:∀{l:List Nat} {k:Nat},k<l.length->l.getD k 0∈l:=λ{l k} h=>by rw[aq,ao h];exact cp h
theorem GV{f:Nat->Int}{l:List Nat}(h:k<l.length):(l.map f).getD k 0=f (l.getD k 0):=by rw[aq,ay,ao h,aq,ao h];rfl
theorem K1{m:Nat}(h:BX g lo d4 m=[]):Cj g lo d4 m 0 1:=by
 have f:∀j,j<m->Br g d4 (g^(m-1-j))=false:=λj hj=>by
  cases z:Br g d4 (g^(m-1-j)) with
  |false=>rfl
  |true=>exact qE (MC.mpr ⟨j,hj,z,rfl⟩) (by rw[h];simp)
 exact⟨af _,λj hj hc=>qE hc (by rw[f j hj];decide),.inl ⟨f,rfl,rfl⟩⟩
theorem Iw{m:Nat}(h:BX g lo d4 m≠[]):∃M:Nat,(M:Int)=(BX g lo d4 m).getD ((BX g lo d4 m).length-1) 0-(BX g lo d4 m).getD 0 0+1/\M<=m/\Cj g lo d4 m ((BX g lo d4 m).getD 0 0) M:=by
 unfold BX at h⊢;generalize hl:((List.range m).filter λj=>Br g d4 (g^(m-1-j)))=l at h⊢
 have hne:0<l.length:=by
  cases l with
  |nil=>exact qE rfl h
  |cons a r=>simp
 have hm:∀j,j∈l↔j<m/\Br g d4 (g^(m-1-j))=true:=λj=>by rw[<-hl,bR,bQ]
 have hp:l.Pairwise (·<·):=by rw[<-hl];exact IV _ _
 rw[aW,GV (show l.length-1<l.length by lia),GV hne];have m0:=(hm _).mp (Ha hne);have m1:=(hm _).mp (Ha (show l.length-1<l.length by lia));have le:=F9 hp _ (Ha hne);refine⟨l.getD (l.length-1) 0-l.getD 0 0+1,by lia,by lia,⟨by lia,λj hj hc=>?_,.inr ⟨l.getD 0 0,l.getD (l.length-1) 0,le,m1.1,rfl,rfl,m0.2,m1.2⟩⟩⟩;have a1:=ME hp j ((hm j).mpr ⟨hj,hc⟩);have a2:=F9 hp j ((hm j).mpr ⟨hj,hc⟩);lia
end L2
namespace L2
variable{g:Int}{d4:qR}
theorem Dd(hg:2<=g){m:Nat}(hl:(d4.length:Int)=g^m)(hm:1<=m):((d4.length/g.toNat:Nat):Int)=g^(m-1)/\d4.length=d4.length/g.toNat*g.toNat:=by
 obtain⟨k,rfl⟩:∃k,m=k+1:=⟨m-1,by lia⟩
 have e:d4.length=(g^k).toNat*g.toNat:=by have p:=RW.BF hg k;rw[bX]at hl;apply Int.ofNat.inj;show (d4.length:Int)=(((g^k).toNat*g.toNat:Nat):Int);rw[hl,Int.natCast_mul,bh (cH p),bh (by lia)]
 have q:d4.length/g.toNat=(g^k).toNat:=by rw[e];exact Nat.mul_div_cancel _ (by lia)
 rw[q,Nat.add_sub_cancel];exact⟨bh (cH (RW.BF hg k)),e⟩
end L2
namespace L2
open PySem
variable{C a:qM}{H H':Hp}{X:Cx}{g lo:Int}{d4:qR}
structure A4(H:Hp)(r:qM)(g lo:Int)(d4:qR)(m:Nat):Prop where
 v:BJ H r g lo d4
 g2:2<=g
 g9:g<=9
 m1:1<=m
 m8:m<=8
 len:(d4.length:Int)=g^m
 sz:g^m<=256
 tb:∀n∈d4,0<=n/\n<g
theorem A4.same{r:qM}{m:Nat}(e:AJ H H')(h:A4 H r g lo d4 m):A4 H' r g lo d4 m:=⟨h.v.same e,h.g2,h.g9,h.m1,h.m8,h.len,h.sz,h.tb⟩
inductive FU(vs:List V)(H:Hp)(Q:VK)(z3_:XK):Prop
 |m (r:qM) (g lo:Int) (d4:qR) (m:Nat):vs=[.ref r]->A4 H r g lo d4 m->Q (.int ((d4.length/g.toNat:Nat):Int)) H->FU vs H Q z3_
theorem Jv{P:qO}{w:qP}:Bn (IL true P w) X (λ_=>E0):=λ_ _ _ _ _ _ _ ⟨_,_,_,_,_,_,_,_,h⟩=>h.elim
theorem MF{K:qQ}(h:X.K=K):CH X (.builtin "len") (λxs H Q=>∃p ys,xs=[V.ref p]/\(Ag K H p ys\/Ar K H p ys)/\Q (.int ((ys.length:Nat):Int)) H):=h▸FJ
inductive Hb(vs:List V)(H:Hp)(Q:VK)(z3_:XK):Prop
 |m (r:qM) (g lo:Int) (d4:qR) (m:Nat):vs=[.ref r]->A4 H r g lo d4 m->(∀r' H',AJ H H'->A4 H' r' g (1-lo-(m:Int)) (Dc g d4 m) m->Q (.ref r') H')->Hb vs H Q z3_
variable{lo':Int}
theorem A4.turn{r r':qM}{m:Nat}(h:A4 H r g lo d4 m)(hv:BJ H' r' g lo' (Dc g d4 m)):A4 H' r' g lo' (Dc g d4 m) m:=⟨hv,h.g2,h.g9,h.m1,h.m8,by rw[Iv];exact h.len,h.sz,Kw h.g2 h.tb m⟩
theorem A4.tabOk{r:qM}{m:Nat}(h:A4 H r g lo d4 m):EE g (d4.map V.int):=by have l:=h.len;have z:=h.sz;exact⟨by rw[aW];lia,⟨m,h.m1,by rw[aW];exact l⟩,Cu h.tb⟩
theorem Ix{m:Nat}{Q:VK}{E:XK}(g2:2<=g)(g9:g<=9)(m1:1<=m)(len:(d4.length:Int)=g^m)(sz:g^m<=256)(tb:∀n∈d4,0<=n/\n<g)(hs:Ge H a (d4.map V.int))
  (q:∀r' H',AJ H H'->BJ H' r' g lo d4->Q (.ref r') H'):Ex C [.int g,.int lo,.ref a] H Q E:=by
 have tok:EE g (d4.map V.int):=⟨by rw[aW];lia,⟨m,m1,by rw[aW];exact len⟩,Cu tb⟩;refine⟨_,_,_,rfl,True.intro,True.intro,⟨_,hs,Ch⟩,λg' lo' tab' a' e1 e2 e3 hs' _ _ _ _ r' H' e' hR'=>?_,λnok=>qE ⟨Ej g2 g9,g,rfl,a,_,rfl,hs,tok⟩ nok⟩;cases e1;cases e2;cases e3;have:=DZ (hs.inj hs');subst this;exact q r' H' e' hR'
inductive Hc(K:qQ)(vs:List V)(H:Hp)(Q:VK)(z3_:XK):Prop
 |m (a:qM) (v:qR) (z:Int):vs=[.ref a,.int z]->Ag K H a (v.map V.int)->Q (.int (sn v z)) H->Hc K vs H Q z3_
theorem FV(hg:2<=g){M:Nat}(h:g^M<=256):M<=8:=by
 apply Nat.le_of_not_lt;intro z;have h1:=Db hg (show 9<=M by lia)
 have h2:(512:Int)<=g^9:=by
  have h2:2*2<=g*g:=dD hg hg (by decide) (by lia);have h4:4*4<=(g*g)*(g*g):=dD (by lia) (by lia) (by decide) (by lia);have h8:16*16<=((g*g)*(g*g))*((g*g)*(g*g)):=dD (by lia) (by lia) (by decide) (by lia);have h9:256*2<=(((g*g)*(g*g))*((g*g)*(g*g)))*g:=dD (by lia) hg (by decide) (by lia);have e:g^9=(((g*g)*(g*g))*((g*g)*(g*g)))*g:=by simp only[Int.pow_succ,Int.pow_zero,Int.one_mul,Int.mul_assoc]
  rw[e];lia
 lia
theorem A4.bw{r r':qM}{m:Nat}(h:A4 H r g lo d4 m){low:Int}{M:Nat}(hM:1<=M)(hz:g^M<=256)(hv:BJ H' r' g low (HU g lo d4 m low M)):A4 H' r' g low (HU g lo d4 m low M) M:=
 ⟨hv,h.g2,h.g9,hM,FV h.g2 hz,Bi h.g2 _ _ _ _ _,hz,QD h.g2 _ h.tb _ _ _⟩
inductive Gr(vs:List V)(H:Hp)(Q:VK)(z3_:XK):Prop
 |m (r:qM) (g lo:Int) (d4:qR) (m:Nat) (low:Int) (M:Nat):vs=[.ref r,.int low,.int ((M:Nat):Int)]->A4 H r g lo d4 m->1<=M->g^M<=256->(∀r' H',AJ H H'->A4 H' r' g low (HU g lo d4 m low M) M->Q (.ref r') H')->Gr vs H Q z3_
inductive De(vs:List V)(H:Hp)(Q:VK)(z3_:XK):Prop
 |m (r:qM) (g lo:Int) (d4:qR) (m:Nat):vs=[.ref r]->A4 H r g lo d4 m->(∀(low:Int) (M:Nat),Cj g lo d4 m low M->∀r' H',AJ H H'->A4 H' r' g low (HU g lo d4 m low M) M->Q (.ref r') H')->De vs H Q z3_
def Rz(g lo:Int)(d4:qR)(m:Nat)(low high:Int):Prop:=high<low\/∃z∈BX g lo d4 m,z<low\/high<z
inductive GA(CW CT:qM)(vs:List V)(H:Hp)(Q:VK)(E:XK):Prop
 |m (r:qM) (g lo:Int) (d4:qR) (m:Nat) (low high:Int):vs=[.ref r,.int low,.int high]->A4 H r g lo d4 m->(Rz g lo d4 m low high->∀H',AJ H H'->E (.ref CW) none H')->(¬Rz g lo d4 m low high->256<g^(high-low+1).toNat->∀H',AJ H H'->E (.ref CT) none H')->(¬Rz g lo d4 m low high->g^(high-low+1).toNat<=256->∀r' H',AJ H H'->A4 H' r' g low (HU g lo d4 m low (high-low+1).toNat) (high-low+1).toNat->Q (.ref r') H')->GA CW CT vs H Q E
theorem OV{ns:qR}(h:0<ns.length):Kb (ns.map V.int) (-1)=some (.int (ns.getD (ns.length-1) 0)):=by
 have e:=P8 (ns:=ns) (k:=ns.length-1) (by lia)
 have z:OA (ns.map V.int).length (-1)=some (ns.length-1):=by
  unfold OA;rw[aW];rw[qC (by decide),qD (by lia)]
  congr 1
  lia
 have y:OA (ns.map V.int).length (((ns.length-1:Nat)):Int)=some (ns.length-1):=by rw[aW];exact Rv (by lia)
 unfold Kb at e⊢;rw[z];rw[y]at e;exact e
end L2
namespace L2
open PySem PySem.Spec PyProof.Rows
variable{X:Cx}{es:List Expr}{i:Nat}{pos:Pos}{st:Stmt}{te:TE}{x:Str}
section
variable{t:TA}
theorem A9{i:Int}{j}(hr:PA X es t):PA X (.Constant (.int i) j pos::es) (D9 (tC (.int i)) t):=AA AE hr (by rfl)
end
@[irreducible] def R0 (X:Cx) (st:Stmt) (t:TS):Prop:=PS X st t
@[irreducible] def IW (X:Cx) (ss:List Stmt) (t:TS):Prop:=FD X ss t
section
variable{rest ss:List Stmt}{t u:TS}
theorem R0.of(h:PS X st t):R0 X st t:=by unfold R0;exact h
theorem R0.out(h:R0 X st t):PS X st t:=by unfold R0 at h;exact h
theorem IW.of(h:FD X ss t):IW X ss t:=by unfold IW;exact h
theorem IW.out(h:IW X ss t):FD X ss t:=by unfold IW at h;exact h
theorem Hd(h1:R0 X st t)(h2:IW X rest u):IW X (st::rest) (Lf t u):=.of (AC h1.out h2.out)
theorem R1(h1:R0 X st t):IW X [st] t:=.of (AH h1.out)
end
@[irreducible] def UU (X:Cx) (e:Expr) (te:TE):Prop:=PE X e te
@[irreducible] def aV (X:Cx) (es:List Expr) (t:TA):Prop:=PA X es t
section
variable{e a b:Expr}{ta tb:TE}{t:TA}
theorem UU.of(h:PE X e te):UU X e te:=by unfold UU;exact h
theorem UU.out(h:UU X e te):PE X e te:=by unfold UU at h;exact h
theorem Jw{pos':Pos}(hN:X.N.Nodup)(hi:X.N[i]?=some x)(hx:So X.env.scope x)(he:UU X e te)(hs:swapsWith e (some (.Name x pos')) pos.line X.env=pure false)(hf:X.fn x=true\/X.env.scope.names.lookup x=some .local):
  R0 X (.Assign [.Name x pos'] e pos) (Nw te (FE i)):=.of (G4 hN hi hx he.out hs hf)
end
end L2
namespace L2
open PySem
variable{D:G1}{H:Hp}{X:Cx}{g lo lo' z:Int}{j:Nat}{d4:qR}{te tl:TE}{tg:Expr}{tt:TT}{x:Str}{σ:St}{σf:List (Option V)}
noncomputable def FW(x:Int->Int)(lo:Int)(m:Nat):qR:=(List.range m).map λj:Nat=>x (lo+(j:Int))
theorem CY(x:Int->Int)(lo:Int)(m:Nat):(FW x lo m).length=m:=by unfold FW;rw[List.length_map,List.length_range]
theorem FX(x:Int->Int)(lo:Int){m:Nat}(h:j<m):(FW x lo m).getD j 0=x (lo+(j:Int)):=by unfold FW;exact B9 h
def O4(g:Int)(x:Int->Int):Prop:=∀z,0<=x z/\x z<g
theorem Gs{x:Int->Int}(hx:O4 g x)(lo:Int)(m:Nat):∀n∈FW x lo m,0<=n/\n<g:=λn hn=>by unfold FW at hn;obtain⟨j,_,rfl⟩:=bL.mp hn;exact hx _
noncomputable def Lb(g lo:Int)(d4:qR)(m:Nat)(x:Int->Int):Int:=d4.getD (CD g (FW x lo m)).toNat 0
noncomputable def Iy(w:qR)(lo:Int):Int->Int:=λz=>sn w (z-lo)
theorem Iz(hg:2<=g){w:qR}(hb:∀n∈w,0<=n/\n<g)(lo:Int):O4 g (Iy w lo):=λz=>S9 hg hb _
theorem R3(w:qR)(low lo:Int)(m:Nat):FW (Iy w low) lo m=M9 w (lo-low) m:=by unfold FW M9 Iy;exact cB λj _=>by rw[show lo+(j:Int)-low=lo-low+(j:Int) by lia]
theorem GW(w:qR)(lo:Int):FW (Iy w lo) lo w.length=w:=by rw[R3,Int.sub_self,Kz]
theorem EQ(hg:2<=g){low:Int}{m M:Nat}(hl:(d4.length:Int)=g^m)(hc:∀j,j<m->Br g d4 (g^(m-1-j))=true->low<=lo+(j:Int)/\lo+(j:Int)<low+(M:Int)){x:Int->Int}(hx:O4 g x):Lb g low (HU g lo d4 m low M) M x=Lb g lo d4 m x:=by
 unfold Lb;have z:=K0 hg lo d4 m low (v:=FW x low M) (Gs hx low M);rw[CY]at z;rw[z];refine MB hg hl (QC hg (Gs hx low M) _ _) (Gs hx lo m) (Gp ..) (CY ..) λj hj hcj=>?_;obtain⟨a,b⟩:=hc j hj hcj;rw[NA _ _ hj,FX _ _ hj,show lo-low+(j:Int)=(((lo+(j:Int)-low).toNat:Nat):Int) by lia,QB (by rw[CY];lia),FX _ _ (by lia)]
 congr 1
 lia
def TB(g:Int)(f:(Int->Int)->Int)(z:Int):Prop:=∃x,O4 g x/\f x≠f λy=>if y=z then 0 else x y
theorem Zj(hg:2<=g){x:Int->Int}(hx:O4 g x)(z:Int):O4 g λy=>if y=z then 0 else x y:=λy=>by
 show 0<=(if y=z then 0 else x y)/\(if y=z then 0 else x y)<g;split
 ·lia
 ·exact hx y
theorem K2(x:Int->Int)(lo:Int){m:Nat}(hj:j<m):FW (λy=>if y=lo+(j:Int) then 0 else x y) lo m=(FW x lo m).set j 0:=by
 refine Bd (by rw[List.length_set,CY,CY]) λk hk=>?_;rw[CY]at hk;rw[FX _ _ hk,Ky (by rw[CY];exact hj),FX _ _ hk]
 by_cases e:j=k
 ·subst e;rw[qD rfl,qD rfl]
 ·rw[qC e,qC (by lia)]
theorem Gu(hg:2<=g){m:Nat}(hl:(d4.length:Int)=g^m)(hj:j<m):Br g d4 (g^(m-1-j))=true↔TB g (Lb g lo d4 m) (lo+(j:Int)):=by
 rw[MD hg hl hj];constructor
 ·rintro⟨w,wl,wb,ne⟩;subst wl;refine⟨Iy w lo,Iz hg wb lo,?_⟩;unfold Lb;rw[K2 _ _ hj,GW];exact ne
 ·rintro⟨x,hx,ne⟩;unfold Lb at ne;rw[K2 _ _ hj]at ne;exact⟨_,CY ..,Gs hx lo m,ne⟩
theorem QF{m:Nat}(h:TB g (Lb g lo d4 m) z):∃j:Nat,j<m/\z=lo+(j:Int):=by
 obtain⟨x,hx,ne⟩:=h
 by_cases e:lo<=z/\z<lo+(m:Int)
 ·exact⟨(z-lo).toNat,by lia,by lia⟩
 ·exfalso;apply ne;unfold Lb
  congr 3
  unfold FW;refine cB λj hj=>?_;have:=bQ.mp hj;show x (lo+(j:Int))=if lo+(j:Int)=z then 0 else x (lo+(j:Int));rw[qC (by lia)]
structure MG(g:Int)(f:(Int->Int)->Int)(low:Int)(M:Nat):Prop where
 one:1<=M
 all:∀z,TB g f z->low<=z/\z<low+(M:Int)
 ends:((∀z,¬TB g f z)/\low=0/\M=1)\/(TB g f low/\TB g f (low+(M:Int)-1))
theorem Cj.toF(hg:2<=g){m:Nat}(hl:(d4.length:Int)=g^m){low:Int}{M:Nat}(h:Cj g lo d4 m low M):MG g (Lb g lo d4 m) low M:=by
 refine⟨h.one,λz hz=>?_,?_⟩
 ·obtain⟨j,hj,rfl⟩:=QF hz;exact h.all j hj ((Gu hg hl hj).mpr hz)
 ·rcases h.ends with⟨f,a,b⟩|⟨j0,j1,le,lt,a,b,c0,c1⟩
  ·refine .inl ⟨λz hz=>?_,a,b⟩;obtain⟨j,hj,rfl⟩:=QF hz;rw[<-Gu hg hl hj,f j hj]at hz;cases hz
  ·have d0:=(Gu (lo:=lo) hg hl (show j0<m by lia)).mp c0;have d1:=(Gu (lo:=lo) hg hl lt).mp c1;refine .inr ⟨a▸d0,?_⟩;rw[show low+(M:Int)-1=lo+(j1:Int) by lia];exact d1
variable{low':Int}{M':Nat}
theorem MG.uniq{f:(Int->Int)->Int}{low:Int}{M:Nat}(h:MG g f low M)(h':MG g f low' M'):low=low'/\M=M':=by
 have o:=h.one;have o':=h'.one;rcases h.ends with⟨n,a,b⟩|⟨d0,d1⟩
 ·rcases h'.ends with⟨_,a',b'⟩|⟨d0',_⟩
  ·lia
  ·exact qE d0' (n _)
 ·rcases h'.ends with⟨n',_,_⟩|⟨d0',d1'⟩
  ·exact qE d0 (n' _)
  ·have:=h.all _ d0';have:=h.all _ d1';have:=h'.all _ d0;have:=h'.all _ d1;lia
theorem ER(hg:2<=g){f f':(Int->Int)->Int}(h:∀x,O4 g x->f x=f' x)(d:TB g f z):TB g f' z:=by obtain⟨x,hx,ne⟩:=d;refine⟨x,hx,?_⟩;rw[<-h x hx,<-h _ (Zj hg hx z)];exact ne
theorem MG.congr(hg:2<=g){f f':(Int->Int)->Int}(h:∀x,O4 g x->f x=f' x){low:Int}{M:Nat}(n:MG g f low M):MG g f' low M:=by
 have h2:∀x,O4 g x->f' x=f x:=λx hx=>(h x hx).symm
 refine⟨n.one,λz d=>n.all z (ER hg h2 d),?_⟩;rcases n.ends with⟨a,b,c⟩|⟨a,b⟩
 ·exact .inl ⟨λz d=>a z (ER hg h2 d),b,c⟩
 ·exact .inr ⟨ER hg h a,ER hg h b⟩
def He(g lo:Int)(d4:qR)(m:Nat)(lo':Int)(tab':qR)(m':Nat):Prop:=∀x,O4 g x->Lb g lo d4 m x=Lb g lo' tab' m' x
theorem UV(hg:2<=g){a b:qR}{m:Nat}(la:(a.length:Int)=g^m)(lb:(b.length:Int)=g^m)(h:∀x,O4 g x->Lb g lo a m x=Lb g lo b m x):a=b:=by refine QE hg la lb λw wl wb=>?_;subst wl;have z:=h (Iy w lo) (Iz hg wb lo);unfold Lb at z;rw[GW]at z;exact z
variable{tab':qR}
theorem FY(hg:2<=g){m m':Nat}(hl:(d4.length:Int)=g^m)(hl':(tab'.length:Int)=g^m'){low:Int}{M:Nat}(n:Cj g lo d4 m low M)(n':Cj g lo' tab' m' low' M'):
  He g lo d4 m lo' tab' m'↔low=low'/\HU g lo d4 m low M=HU g lo' tab' m' low' M':=by
 constructor
 ·intro h;obtain⟨e1,e2⟩:=((n.toF hg hl).congr hg h).uniq (n'.toF hg hl');subst e1 e2;refine⟨rfl,UV hg (lo:=low) (Bi hg ..) (Bi hg ..) λx hx=>?_⟩;rw[EQ hg hl n.all hx,EQ hg hl' n'.all hx];exact h x hx
 ·rintro⟨rfl,e⟩ x hx;have hM:M=M':=by have a:=Bi hg lo d4 m low M;have b:=Bi hg lo' tab' m' low M';rw[e,b]at a;exact FS hg a.symm
  subst hM;rw[<-EQ hg hl n.all hx,<-EQ hg hl' n'.all hx,e]
theorem QG(hg:2<=g){low:Int}{m M:Nat}(hl:(d4.length:Int)=g^m)(h1:low<=lo)(h2:lo+(m:Int)<=low+(M:Int)){x:Int->Int}(hx:O4 g x):Lb g low (HU g lo d4 m low M) M x=Lb g lo d4 m x:=
 EQ hg hl (λj hj _=>by lia) hx
theorem BI{t u:TS}(h:∀N:St->Hp->Prop,(∀σ' H',u D σ' H'->N σ' H')->t {D with nx:=N} σ H):Lf t u D σ H:=h (u D) λ_ _ z=>z
noncomputable def ZO(x:Str):It:=⟨λi _=>∃c,x.cps[i]?=some c,λi H v H'=>H'=H/\∃c,x.cps[i]?=some c/\v=.str ⟨#[c]⟩,λi _=>x.cps[i]?=none⟩
def IX(x:Str):Prop:=x.cps.all (·<128)=true
theorem QH{P:qO}{w:qP}{K:qQ}(x:Str)(t:Tok)(it:qM):IP P w K tg (ZO x) [it] it (λi h=>h.IsStrIter it "str_ascii_iterator" x t i) where
 mem:=by simp
 obj:=λi h st b hb=>by
  have e:b=it:=by simpa using hb
  subst e;refine byG λGq hGq=>?_;obtain⟨o,e,c,d⟩:=st;refine hGq ?_;clear hGq Gq;exact⟨o,e,λv z=>by rw[d]at z;cases z⟩
 keep:=λi h h' st k=>by obtain⟨o,e,r⟩:=st;exact⟨o,k it (by simp) o e,r⟩
 item:=by intro X hP hw hK hc i ad s σ H E I hf st hg;subst hP hw hK;obtain⟨c,hx⟩:=hg;refine byG λGq hGq=>?_;obtain⟨f0,f1,f2,f3,f4,f5⟩:=hf it (by simp);refine hGq ?_;clear hGq Gq;refine wpAny_pyNext_ascii_item st hx λh' st' sb=>?_;have I1:AX X ad σ H {s with heap:=h',toks:=s.toks+1}:=I.turned (t':=s.toks+1) (λb o hb e=>(sb.2 b hb).trans e) f0 f1 f3 f4 f5;refine byG λGq hGq=>?_;obtain⟨o,e,cc,d⟩:=id st';refine hGq ?_;clear hGq Gq;exact⟨_,rfl,KW (s:={s with heap:=h',toks:=s.toks+1}) e cc d (by decide) ⟨.str ⟨#[c]⟩,H,I1,⟨_,rfl⟩,⟨rfl,c,hx,rfl⟩,st',λb hb=>(hf b hb).1⟩⟩
 done:=by intro X hP hw hK hc i ad s σ H E I hf st hg;subst hP hw hK;refine byG λGq hGq=>?_;obtain⟨f0,f1,f2,f3,f4,f5⟩:=hf it (by simp);refine hGq ?_;clear hGq Gq;exact wpAny_pyNext_ascii_end (I.ok.hd hc) st hg λh' eb=>⟨rfl,I.turned (t':=s.toks) (λb o hb e=>eb b o hb e) f0 f1 f3 f4 f5⟩
 self:=λ_ _ _ _ _ st h=>wpAny_pyIter_striter_ascii st h
def Zk(tl:TE):TI:=λσ H R=>tl σ H λv H1=>∃x,v=.str x/\IX x/\R (ZO x) H1
theorem MH{l:Expr}(hl:PE X l tl):PI X tg l (Zk tl):=by
 intro ad s σ H R I h;refine A8 (hl ad s σ H _ I h) λv s1 z9=>?_;obtain⟨x,H1,I1,r1,q1⟩:=z9;refine byG λGq hGq=>?_;obtain⟨z,e,ha,q⟩:=q1;refine hGq ?_;clear hGq Gq;subst e;obtain⟨t,rfl⟩:=r1;refine wpAny_pyIter_ascii ha ?_;refine⟨s1.heap.objs.size,[s1.heap.objs.size],_,_,H1,rfl,I1.kept (t':=s1.toks) λb o e=>aZ _ e,QH z t _,⟨_,aj _ rfl,rfl,rfl⟩,λb hb=>?_,q⟩;have e:b=s1.heap.objs.size:=by simpa using hb
 subst e;exact I1.fpOk (af _) (I1.hok.fresh (af _))
theorem Hf{D:qM}{Q:VK}(Pv:Nat->List V->Hp->Prop)(h0:Pv 0 [] (Ai H D (.lst [])))
  (hs:∀i c d8 H2,x.cps[i]?=some c->Pv i d8 H2->tt (some (.str ⟨#[c]⟩)::σf) H2 λb H4=>if b=true then te (some (.str ⟨#[c]⟩)::σf) H4 λy H5=>H5 D=some (.lst d8)/\d8.length<sizeLine/\Pv (i+1) (d8++[y]) (Ai H5 D (.lst (d8++[y]))) else Pv (i+1) d8 H4)
  (hd:∀d8 H2,Pv x.cps.size d8 H2->Q (.ref D) H2):CS (ZO x) tt te σf D Q H:=by
 refine⟨λk i d8 H=>k=x.cps.size-i/\i<=x.cps.size/\Pv i d8 H,⟨x.cps.size,by simp,Nat.zero_le _,h0⟩,?_⟩;rintro k i d8 H2 ⟨rfl,hi,p⟩
 by_cases hlt:i<x.cps.size
 ·refine .inr ⟨⟨x.cps[i],by simp[hlt]⟩,Pv (i+1),λl H' p'=>⟨x.cps.size-(i+1),by lia,rfl,hlt,p'⟩,λv H' y=>?_⟩;refine byG λGq hGq=>?_;obtain⟨e,c,hc,e2⟩:=y;refine hGq ?_;clear hGq Gq;subst e e2;exact hs i c d8 _ hc p
 ·have e:i=x.cps.size:=by lia
  subst e;exact .inl ⟨by simp[ZO],hd d8 H2 p⟩
end L2
namespace L2
open PySem PySem.Spec PyProof.Rows
variable{H H':Hp}{X:Cx}{g lo lo':Int}{i k:Nat}{pos:Pos}{d4 tab':qR}{x:Str}
theorem FZ:CH X (.type "int") (λxs H Q=>∃(x:Str) (n:Int),xs=[.str x]/\x.length<=640/\PySem.intText? x=some n/\Q (.int n) H):=by intro ad s σ H xs us Q I r h;obtain⟨x,n,rfl,hl,hn,q⟩:=h;obtain⟨u,rfl,t,rfl⟩:=DT r;exact PySem.W.KIN.call_text hn hl ⟨.int n,H,I.tok _,⟨_,rfl⟩,q⟩
theorem Gv:∀{ys:List Str} {us:List qL},Au (ys.map V.str) us->StrsAre us ys
 |[],_,.nil=>.nil
 |y::ys,_,.cons r rs=>by obtain⟨t,rfl⟩:=r;exact .cons y t (Gv rs)
theorem ES:S1 X "str.join" (λx xs H Q=>∃(sep:Str) (D:qM) (ys:List Str),x=.str sep/\xs=[.ref D]/\Ag X.K H D (ys.map V.str)/\(ys.map (·.length)).sum+ys.length*sep.length<=16777216/\Q (.str (Txt.join sep ys)) H):=by intro ad s σ H x xs v us Q I rx rs h;refine byG λGq hGq=>?_;obtain⟨sep,D,ys,rfl,rfl,hq,hz,q⟩:=h;refine hGq ?_;clear hGq Gq;obtain⟨t,rfl⟩:=rx;obtain⟨u,rfl,ru⟩:=DT rs;cases ru;refine byG λGq hGq=>?_;obtain⟨its,rv,pl,hz2⟩:=I.list hq;refine hGq ?_;clear hGq Gq;exact join_list pl.isList (Gv rv) hz λt' k=>⟨.str _,H,I.tok _,⟨_,rfl⟩,q⟩
theorem NC{v:qL}{o:Option Int}(p:IsPart v o):∃l:Option (Int×Tok),v=partValue l/\l.map (·.1)=o:=by
 cases p with
 |none=>exact⟨none,rfl,rfl⟩
 |int i t=>exact⟨some (i,t),rfl,rfl⟩
theorem Jx:Zc X (λx lo hi H Q=>∃z:Str,x=.str z/\z.length<=sizeLine/\Q (.str (Txt.slice z lo hi)) H):=by intro ad s σ H x v vl vu lo hi sl Q I rx hs pl pu h;refine byG λGq hGq=>?_;obtain⟨z,rfl,hz,q⟩:=h;refine hGq ?_;clear hGq Gq;obtain⟨t,rfl⟩:=rx;obtain⟨l,rfl,rfl⟩:=NC pl;obtain⟨u,rfl,rfl⟩:=NC pu;refine⟨"str",_,F.slot_str_getitem.lookup,typeIs_str s z t,wpAny_getItem_str_slice (l:=l) (u:=u) (st:=none) hs rfl ?_⟩;exact post_val_or_str ⟨bB (Txt.slice_le z _ _) hz,λt' k=>⟨.str _,H,I.tok _,⟨_,rfl⟩,q⟩⟩
theorem OW(bs:List Bool):(List.range bs.length).all (λi=>bs.getD i false)=bs.all id:=by
 rw[cV,bD,bD];constructor
 ·intro h b hb;obtain⟨i,hi,e⟩:=List.getElem_of_mem hb;have z:=h i (bQ.mpr hi);rw[aq,ao hi,e]at z;exact z
 ·intro h i hi;have hi':=bQ.mp hi;rw[aq,ao hi'];exact h _ (cp hi')
theorem EF(hc:X.calm=true):CH X (.builtin "all") (λxs H Q=>∃(p:qM) (bs:List Bool),xs=[.ref p]/\Ag X.K H p (bs.map V.bl)/\Q (.bl (bs.all id)) H):=by
 intro ad s σ H xs us Q I r h;refine byG λGq hGq=>?_;obtain⟨p,bs,rfl,hq,q⟩:=h;refine hGq ?_;clear hGq Gq;obtain⟨u,rfl,rx⟩:=DT r;cases rx;refine byG λGq hGq=>?_;obtain⟨its,rits,pl,hz⟩:=I.list hq;refine hGq ?_;clear hGq Gq;have hlen:=rits.length;rw[aW]at hlen;have alt:p<s.heap.objs.size:=by obtain⟨o,e,_⟩:=pl.isList;exact ag e
 refine call_all_walk (wpAny_pyIter_list pl.isList ?_);have up:∀b o,s.heap.get? b=some o->(s.heap.push {cls:=.type "list_iterator",data:=.fields #[.ref p,.int 0 0]}).get? b=some o:=λb o e=>aZ _ e
 refine⟨s.heap.objs.size,[s.heap.objs.size,p],[s.heap.objs.size],its.toArray.size,_,_,λi=>bs.getD i false,rfl,Walks.list (A:=X.A.in1) (I.ok.hd hc) _ p (bA alt) its.toArray,⟨⟨_,aj _ rfl,rfl,rfl⟩,pl.isList.at λo e=>up p o e⟩,λi v Q' E' s' hv hq'=>?_,λh' tk kk=>?_⟩
 ·have hv':its[i]?=some v:=by simpa using hv
  have hi:=(ae.mp hv').1;obtain⟨u2,hu2,ru2⟩:=rits.get (x:=.bl (bs.getD i false)) (i:=i) (by rw[ay,ao (by lia),aq,ao (by lia)];rfl);rw[hv']at hu2;cases hu2;cases ru2;exact wpAny_truthy_bool hq'
 ·refine⟨.bl (bs.all id),H,I.kept (t':=tk) λb o e=>kk b o (λz=>?_) (up b o e),?_,q⟩
  ·rw[ak.mp z]at e;exact qE (ag e) (bM _)
  ·rw[bS,<-hlen,OW];rfl
theorem JA{i:Str}(hg:Gl X x)(hm:∃t,X.mg x=some (.str i t))(hd:(x==("__debug__":Str))=false:=by decide):PE X (.Name x pos) (tC (.str i)):=by obtain⟨t,hm⟩:=hm;exact JP (v:=.str i) hg hm ⟨t,rfl⟩ hd
theorem R4:∀c,c<128->(!(Builtin.Str.occurrences (Str.ofString "0123456789") ⟨#[c]⟩ 0 (Str.ofString "0123456789").length 1).isEmpty)=(decide (48<=c)&&decide (c<=57)):=by decide +kernel
theorem R5:∀c,c<58->48<=c->PySem.intText? ⟨#[c]⟩=some ((c:Int)-48):=by decide +kernel
theorem K3:∀n,n<9->Str.ofString (toString ((n:Nat):Int))=⟨#[48+n]⟩:=by decide +kernel
section
variable{K:qQ}
theorem TC:PySem.W.kitOne K (.type "str") (.type "str")=some true:=by kernel_rfl
theorem TD:PySem.W.kitOne K (.type "int") (.type "str")=some false:=by kernel_rfl
theorem TF:PySem.W.kitOne K (.type "bool") (.type "str")=some false:=by kernel_rfl
theorem TH:PySem.W.kitOne K (.type "NoneType") (.type "str")=some false:=by kernel_rfl
theorem TJ:PySem.W.kitOne K (.type "list") (.type "str")=some false:=by kernel_rfl
theorem TK:PySem.W.kitOne K (.type "tuple") (.type "str")=some false:=by kernel_rfl
end
theorem K4:∀n,n<9->(Int.natAbs ((n:Nat):Int)).log2<1920:=by decide +kernel
theorem Hg(f:Int->Nat):∀ns:qR,Str.join (Str.ofString "") (ns.map λn=>(⟨#[f n]⟩:Str))=⟨(ns.map f).toArray⟩
 |[]=>rfl
 |[_]=>rfl
 |n::m::r=>by
  have z:=Hg f (m::r);rw[bF]at z⊢;rw[bF]at z⊢;show (⟨#[f n]⟩:Str)++Str.ofString ""++Str.join (Str.ofString "") ((⟨#[f m]⟩:Str)::r.map λn=>(⟨#[f n]⟩:Str))=_;rw[z];show (⟨(#[f n]++#[])++(f m::r.map f).toArray⟩:Str)=_
  congr 1
  simp
theorem EG(f:Int->Nat)(ns:qR):Txt.join (Str.ofString "") (ns.map λn=>(⟨#[f n]⟩:Str))=⟨(ns.map f).toArray⟩:=by show Builtin.Str.glued (Str.ofString "") _=_;rw[PySem.StrLaws.glued_eq_join];exact Hg f ns
theorem QI(f:Int->Nat)(ns:qR):((ns.map λn=>(⟨#[f n]⟩:Str)).map (·.length)).sum=ns.length:=by
 induction ns with
 |nil=>rfl
 |cons n r ih =>
  rw[bF,bF,List.sum_cons,ih,a9];show 1+r.length=r.length+1;lia
theorem OX:S1 X "str.startswith" (λx xs H Q=>∃a b:Str,x=.str a/\xs=[.str b]/\Q (.bl (Txt.startswith a b)) H):=by intro ad s σ H x xs v us Q I rx rs h;obtain⟨a,b,rfl,rfl,q⟩:=h;obtain⟨t,rfl⟩:=rx;obtain⟨u,rfl,t2,rfl⟩:=DT rs;exact SC.startswith ⟨.bl _,H,I,rfl,q⟩
theorem JB:∀(ys:List Str) (k:Nat),Au (ys.map V.str) (strsFrom k ys)
 |[],_=>.nil
 |_::r,k=>.cons ⟨k,rfl⟩ (JB r (k+1))
theorem K6:S1 X "str.split" (λx xs H Q=>∃a b:Str,x=.str a/\xs=[.str b]/\(b.length==0)=false/\a.length<=sizeLine/\(Txt.split a b).length<=sizeLine/\∀l,H l=none->Q (.ref l) (Ai H l (.lst ((Txt.split a b).map V.str)))):=by
 intro ad s σ H x xs v us Q I rx rs h;obtain⟨a,b,rfl,rfl,hb,ha,hp,q⟩:=h;obtain⟨t,rfl⟩:=rx;obtain⟨u,rfl,t2,rfl⟩:=DT rs;have fresh:=I.hok.fresh (af s.heap.objs.size)
 have one:∀(e:Txt.split a b=[a]),EP X ad σ Q (.ref s.heap.objs.size) {s with heap:=s.heap.push {cls:=.type "list",data:=.seq [Value.str a t].toArray}}:=λe=>by refine⟨.ref s.heap.objs.size,_,I.laid (t':=s.toks) (o:=.lst ((Txt.split a b).map V.str)) (λc o z=>aZ _ z) (af _) ?_,rfl,q _ fresh⟩;exact⟨by rw[aW];exact hp,[Value.str a t],0,by rw[e];exact .cons ⟨t,rfl⟩ .nil,aj _ rfl⟩
 cases h1:(decide (a.length<b.length)||decide (Builtin.Str.strKind a<Builtin.Str.strKind b)) with
 |true=>exact call_meets F.slot_str_split (typeIs_str _ _ _) F.entry_str_split (F.args_str_split_2 _ _) (meets_str_split_cannot_occur a b t t2 h1) (one (qD h1))
 |false =>
  cases hf:(Builtin.Str.occurrences a b 0 a.length (a.length+1)).isEmpty with
  |true=>exact call_meets F.slot_str_split (typeIs_str _ _ _) F.entry_str_split (F.args_str_split_2 _ _) (meets_str_split_not_found a b t t2 h1 hb hf) (one ((qC (ne_true_of_eq_false h1)).trans (qD hf)))
  |false =>
   have e:Txt.split a b=Builtin.Str.partsBetween a (Builtin.Str.occurrences a b 0 a.length (a.length+1)) b.length:=(qC (ne_true_of_eq_false h1)).trans (qC (ne_true_of_eq_false hf));rw[e]at hp;refine call_meets F.slot_str_split (typeIs_str _ _ _) F.entry_str_split (F.args_str_split_2 _ _) (meets_str_split_sep a b t t2 h1 hb hf ha hp) ?_;refine⟨.ref s.heap.objs.size,_,I.laid (o:=.lst ((Txt.split a b).map V.str)) (λc o z=>aZ _ z) (af _) ?_,rfl,q _ fresh⟩;exact⟨by rw[aW,e];exact hp,strsFrom s.toks (Builtin.Str.partsBetween a (Builtin.Str.occurrences a b 0 a.length (a.length+1)) b.length),0,by rw[e];exact JB _ _,aj _ rfl⟩
def Ee(x:Str):Prop:=IX x/\x.cps.size<=600
noncomputable def OY(H:Hp):V->Prop
 |.str x=>Ee x
 |.int _=>True
 |.bl _=>True
 |.non=>True
 |.ref a=>∃xs,H a=some (.lst xs)\/H a=some (.tup xs)
 |_=>False
theorem OY.same(e:AJ H H'):∀{v:V},OY H v->OY H' v
 |.str _,h=>h
 |.int _,_=>True.intro
 |.bl _,_=>True.intro
 |.non,_=>True.intro
 |.ref a,h=>by obtain⟨xs,h⟩:=h;exact⟨xs,h.elim (λq=>.inl (e _ _ q)) λq=>.inr (e _ _ q)⟩
noncomputable def DD(x:Str):qR:=x.cps.toList.map λc:Nat=>(c:Int)-48
noncomputable def Be(hi:Nat)(x:Str):Bool:=x.cps.toList.all λc:Nat=>decide (48<=c)&&decide (c<=hi)
noncomputable def Jy(x:Str):Option (qR):=if x=Str.ofString "-" then some [] else if x.cps.size=0 then none else if Be 56 x then some (DD x) else none
noncomputable def R6:V->Option (qR)
 |.str x=>Jy x
 |_=>none
variable{c:Nat}
theorem Jz(h:IX x)(hc:x.cps[i]?=some c):c<128:=by unfold IX at h;rw[Array.all_eq_true]at h;obtain⟨hi,e⟩:=cC.mp hc;have:=h i hi;rw[e]at this;exact qI this
noncomputable def E1(ws:qR):Str:=⟨(ws.map λn=>(48+n).toNat).toArray⟩
inductive Fa(C:qM)(vs:List V)(H:Hp)(Q:VK)(E:XK):Prop
 |m (v:V):vs=[v]->OY H v->((∃x,v=.str x)->Q .non H)->((∀x,v≠.str x)->∀H',AJ H H'->E (.ref C) none H')->Fa C vs H Q E
inductive Fb(C:qM)(vs:List V)(H:Hp)(Q:VK)(E:XK):Prop
 |m (x:Str):vs=[.str x]->Ee x->(x.cps.size≠0->Be 57 x=true->∀p H',Rw H H' p (DD x)->Q (.ref p) H')->((x.cps.size=0\/Be 57 x=false)->∀H',AJ H H'->E (.ref C) none H')->Fb C vs H Q E
inductive Fc(C:qM)(vs:List V)(H:Hp)(Q:VK)(E:XK):Prop
 |m (v:V):vs=[v]->OY H v->(∀ws,R6 v=some ws->∀p H',Rw H H' p ws->Q (.ref p) H')->(R6 v=none->∀H',AJ H H'->E (.ref C) none H')->Fc C vs H Q E
theorem OZ{hi:Nat}:((x.cps.toList.take x.cps.size).map λc:Nat=>decide (48<=c)&&decide (c<=hi)).all id=Be hi x:=by rw[be (by rw[ai];exact af _),List.all_map];rfl
theorem QJ{hi:Nat}(h:Be hi x=true)(hc:x.cps[i]?=some c):48<=c/\c<=hi:=by
 have hm:c∈x.cps.toList:=by rw[<-Array.getElem?_toList]at hc;exact a8 hc
 have z:=bD.mp h c hm;rw[au,decide_eq_true_iff,decide_eq_true_iff]at z;exact z
theorem Oa(h:Be 57 x=false):Be 56 x=false:=by
 cases e:Be 56 x with
 |false=>rfl
 |true =>
  have y:Be 57 x=true:=by unfold Be at e⊢;rw[bD]at e⊢;intro c hc;have z:=e c hc;rw[au,decide_eq_true_iff,decide_eq_true_iff]at z⊢;lia
  rw[h]at y;cases y
theorem E2(hc:x.cps[i]?=some c):x.cps.toList[i]?=some c:=by rw[Array.getElem?_toList];exact hc
theorem R7(h:Be 57 x=true):WF (V.int 9) ((DD x).map V.int)=!Be 56 x:=by
 unfold WF DD Be;unfold Be at h;rw[List.any_map,List.any_map,List.all_eq_not_any_not,Bool.not_not]
 have e:∀c∈x.cps.toList,PU (V.int ((c:Int)-48)) (V.int 9)=!(decide (48<=c)&&decide (c<=56)):=by
  intro c hc;have z:=bD.mp h c hc;rw[au,decide_eq_true_iff,decide_eq_true_iff]at z;show ((c:Int)-48==9)=_
  by_cases y:c<=56
  ·rw[qF z.1,qF y];show ((c:Int)-48==9)=false;rw[beq_eq_false_iff_ne];lia
  ·rw[qF z.1,qG y];show ((c:Int)-48==9)=true;rw[beq_iff_eq];lia
 rw[cV,dJ,dJ];constructor
 ·rintro⟨c,hc,z⟩;have y:PU (V.int ((c:Int)-48)) (V.int 9)=true:=z;rw[e c hc]at y;exact⟨c,hc,y⟩
 ·rintro⟨c,hc,z⟩;exact⟨c,hc,show PU (V.int ((c:Int)-48)) (V.int 9)=true by rw[e c hc];exact z⟩
theorem Ob(ns:qR):(ns.map V.int).all FI=true:=by rw[List.all_map,bD];intro n _;rfl
theorem Cz(h:x.cps.size<=600):x.length<=sizeLine:=bB h (by decide)
theorem Oc(h:IX x)(l u:Option Int):IX (Txt.slice x l u):=by
 unfold Txt.slice;split
 ·exact h
 ·unfold IX;dsimp only;rw[List.all_toArray,bD];intro c hc;obtain⟨i,_,e⟩:=cE.mp hc;exact qF (Jz h e)
theorem ET{m:Nat}(h:¬m<10):Nat.toDigits 10 m=Nat.toDigits 10 (m/10)++[Nat.digitChar (m%10)]:=by have hm:m%10<10:=Nat.mod_lt m (by decide);have t:Nat.toDigits 10 (m/10)++Nat.toDigits 10 (m%10)=Nat.toDigits 10 (10*(m/10)+m%10):=Nat.toDigits_append_toDigits (by decide) (by lia) hm;rw[Nat.div_add_mod]at t;rw[<-t,cO hm]
theorem J1:∀(k m:Nat),m<10^(k+1)->(Nat.toDigits 10 m).length<=k+1
 |0,m,h=>by rw[Nat.toDigits_of_lt_base (by simpa using h)];exact af _
 |k+1,m,h=>by
  by_cases z:m<10
  ·rw[cO z];show 1<=_;lia
  ·rw[ET z,ac];have:=J1 k (m/10) (by rw[Nat.div_lt_iff_lt_mul (by decide)];rw[Nat.pow_succ]at h;exact h);show _+1<=_;lia
theorem J3:∀(k m:Nat),10^k<=m->k+1<=(Nat.toDigits 10 m).length
 |0,m,_=>by
  by_cases z:m<10
  ·rw[cO z];exact af _
  ·rw[ET z,ac];show 1<=_+1;lia
 |k+1,m,h=>by
  have z:¬m<10:=λz=>by have:10^1<=10^(k+1):=Nat.pow_le_pow_right (by decide) (by lia);lia
  rw[ET z,ac];have:=J3 k (m/10) (by rw[Nat.le_div_iff_mul_le (by decide)];rw[Nat.pow_succ]at h;exact h);show _<=_+1;lia
noncomputable def Bw(n:Int):Str:=Str.ofString (toString n)
theorem CZ(m:Nat):(Bw (m:Int)).cps.toList=(Nat.toDigits 10 m).map Char.toNat:=PySem.W.KIN.signs_num m
theorem EH(m:Nat):(Bw (Int.negSucc m)).cps.toList=45::(Nat.toDigits 10 (m+1)).map Char.toNat:=by unfold Bw;rw[signs_ofString];show ("-"++Nat.repr (m+1)).toList.map Char.toNat=_;rw[String.toList_append,az,Nat.toList_repr];rfl
theorem Df(m:Nat):PySem.NumText.AllDigits ((Nat.toDigits 10 m).map Char.toNat):=by intro c hc;obtain⟨ch,hch,e⟩:=bL.mp hc;have r:=digit_range (Nat.isDigit_of_mem_toDigits (by decide) (by decide) hch);rw[<-e];exact r
theorem Fd(m:Nat):(Nat.toDigits 10 m).map Char.toNat≠[]:=λe=>by
 have h:=J3 0 m
 by_cases z:m=0
 ·subst z;exact qE e (by decide)
 ·have:=h (by lia);rw[List.map_eq_nil_iff.mp e]at this;exact qE this (by decide)
theorem Hh{n:Int}(h:(Bw n).cps.size<=640):PySem.intText? (Bw n)=some n:=by
 have h2:(Bw n).length<=4300:=bB h (by decide);cases n with
 |ofNat m =>
  have e:=PySem.intText_digits (x:=Bw (m:Int)) (by rw[CZ];exact Df m) (by rw[CZ];exact Fd m) h2;rw[CZ,PySem.W.KIN.val_back]at e;exact e
 |negSucc m =>
  have e:=PySem.intText_neg (EH m) (Df (m+1)) (Fd (m+1)) h2;rw[PySem.W.KIN.val_back]at e;exact e
noncomputable def Bu(c:Nat):List Nat->List (List Nat)
 |[]=>[[]]
 |a::r=>if a=c then[]::Bu c r else match Bu c r with
  |p::ps=>(a::p)::ps
  |[]=>[[a]]
theorem EU:∀p:List Nat,c∉p->Bu c p=[p]
 |[],_=>rfl
 |a::r,h=>by rw[Bu,qC (λz=>h (by rw[z];exact ah)),EU r λz=>h (aa _ z)]
theorem Fe(r:List Nat):∀p:List Nat,c∉p->Bu c (p++c::r)=p::Bu c r
 |[],_=>by rw[List.nil_append,Bu,qD rfl]
 |a::p,h=>by rw[cn,Bu,qC (λz=>h (by rw[z];exact ah)),Fe r p λz=>h (aa _ z)]
theorem JC:∀ps:List Str,ps≠[]->(∀p∈ps,c∉p.cps.toList)->Bu c (Str.join ⟨#[c]⟩ ps).cps.toList=ps.map (·.cps.toList)
 |[],h,_=>qE rfl h
 |[x],_,h=>EU _ (h x ah)
 |x::y::r,_,h=>by
  have z:=JC (y::r) (by simp) λp hp=>h p (List.mem_cons_of_mem _ hp)
  show Bu c ((x.cps++#[c])++(Str.join ⟨#[c]⟩ (y::r)).cps).toList=_;rw[br,br,cX];show Bu c (x.cps.toList++c::(Str.join ⟨#[c]⟩ (y::r)).cps.toList)=_;rw[Fe _ _ (h x ah),z];rfl
theorem QK(x y:Str):Txt.split x y≠[]:=by
 unfold Txt.split;split
 ·simp
 ·split
  ·simp
  ·rw[StrLaws.partsBetween_eq];obtain⟨p,r,e⟩:=StrLaws.partsFrom_ne x y.length 0 (Builtin.Str.occurrences x y 0 x.length (x.length+1));rw[e];simp
theorem Hi(x:Str)(c:Nat):(Txt.split x ⟨#[c]⟩).map (·.cps.toList)=Bu c x.cps.toList:=by have z:=JC (Txt.split x ⟨#[c]⟩) (QK _ _) (StrLaws.split_free x c);rw[StrLaws.join_split]at z;exact z.symm
theorem Hj(c:Nat):∀l:List Nat,(Bu c l).length<=l.length+1/\∀p∈Bu c l,p.length<=l.length/\∀a∈p,a∈l
 |[]=>⟨af _,λp hp=>by rw[ak.mp hp];exact⟨af _,λ_ z=>z⟩⟩
 |a::r=>by
  obtain⟨h1,h2⟩:=Hj c r;rw[Bu];split
  ·refine⟨by rw[a9,a9];lia,λp hp=>?_⟩;rcases aw.mp hp with z|z
   ·rw[z];exact⟨Nat.zero_le _,λ_ y=>qE y (by simp)⟩
   ·obtain⟨h3,h4⟩:=h2 p z;exact⟨by rw[a9];lia,λb hb=>aa _ (h4 b hb)⟩
  ·split
   ·rename_i q qs e
    rw[e]at h1 h2;refine⟨by rw[a9]at h1⊢;rw[a9];lia,λp hp=>?_⟩;rcases aw.mp hp with z|z
    ·obtain⟨h3,h4⟩:=h2 q ah;rw[z];refine⟨by rw[a9,a9];lia,λb hb=>?_⟩;rcases aw.mp hb with y|y
     ·rw[y];exact ah
     ·exact aa _ (h4 b y)
    ·obtain⟨h3,h4⟩:=h2 p (aa _ z);exact⟨by rw[a9];lia,λb hb=>aa _ (h4 b hb)⟩
   ·refine⟨by rw[a9];exact Nat.le_add_left _ _,λp hp=>?_⟩;rw[ak.mp hp];refine⟨by rw[a9,a9];exact Nat.succ_le_succ (bj _),λb hb=>?_⟩;rw[ak.mp hb];exact ah
noncomputable def BV(x:Str):List Str:=Txt.split x (Str.ofString ":")
theorem TL:Str.ofString ":"=⟨#[58]⟩:=by decide +kernel
theorem GB(x:Str):(BV x).map (·.cps.toList)=Bu 58 x.cps.toList:=by unfold BV;rw[TL];exact Hi x 58
theorem K7(h:Ee x):(BV x).length<=601/\∀p∈BV x,Ee p:=by have e:=GB x;obtain⟨h1,h2⟩:=Hj 58 x.cps.toList;have hs:=h.2;have hl:x.cps.toList.length=x.cps.size:=ai;rw[<-e,aW]at h1;refine⟨by lia,λp hp=>?_⟩;obtain⟨h3,h4⟩:=h2 p.cps.toList (by rw[<-e];exact List.mem_map_of_mem hp);rw[ai,ai]at h3;refine⟨?_,by lia⟩;have ha:=h.1;unfold IX at ha⊢;rw[<-Array.all_toList,bD]at ha⊢;exact λc hc=>ha c (h4 c hc)
theorem Ck{y:Str}(h:x.cps.toList=y.cps.toList):x=y:=by
 cases x;cases y
 congr 1
 exact Array.toList_inj.mp h
theorem CA{a b:List Str}(h:a.map (·.cps.toList)=b.map (·.cps.toList)):a=b:=by refine List.map_inj_right (f:=λx:Str=>x.cps.toList) (λx y e=>Ck e) |>.mp h
theorem K8{a b c:Str}(ha:58∉a.cps.toList)(hb:58∉b.cps.toList)(hc:58∉c.cps.toList):BV (a++Str.ofString ":"++b++Str.ofString ":"++c)=[a,b,c]:=by refine CA ?_;rw[GB];show Bu 58 ((((a.cps++(Str.ofString ":").cps)++b.cps)++(Str.ofString ":").cps)++c.cps).toList=_;rw[TL];simp only[Array.toList_append,List.append_assoc];show Bu 58 (a.cps.toList++58::(b.cps.toList++58::c.cps.toList))=_;rw[Fe _ _ ha,Fe _ _ hb,EU _ hc];rfl
theorem W0:Str.ofString "-"=⟨#[45]⟩:=by decide +kernel
theorem Cm(x:Str):Txt.startswith x (Str.ofString "-")=true↔∃r,x.cps.toList=45::r:=by
 rw[W0];unfold Txt.startswith;rw[au,decide_eq_true_iff];rw[StrLaws.subAt_one x 45 0];cases x.cps.toList with
 |nil=>exact⟨λz=>by simp at z,λ⟨_,z⟩=>by cases z⟩
 |cons a r =>
  constructor
  ·intro z;have:a=45:=by simpa using z
   exact⟨r,by rw[this]⟩
  ·rintro⟨r',z⟩;cases z;rfl
noncomputable def Al(x:Str):Str:=if Txt.startswith x (Str.ofString "-")=true then Txt.slice x (some 1) none else x
theorem EI{r:List Nat}(h:x.cps.toList=45::r):(Al x).cps.toList=r:=by
 unfold Al;rw[qD ((Cm x).mpr ⟨r,h⟩)]
 have hl:x.length=r.length+1:=by show x.cps.size=_;rw[<-ai,h,a9]
 rw[slice_from_eq (x:=x) (i:=1) (b:=(x.length:Int)) (by decide) (by lia) rfl];show ((x.cps.toList.drop (Int.toNat 1)).take (((x.length:Int)-1).toNat))=r;rw[h];show r.take _=r;rw[be (by lia)]
theorem DM(h:Txt.startswith x (Str.ofString "-")≠true):Al x=x:=qC h
theorem MI(h:Ee x):Ee (Al x):=by
 unfold Al;split
 ·exact⟨Oc h.1 _ _,bB (Txt.slice_le x _ _) h.2⟩
 ·exact h
theorem ND:∀(cs:List Nat) (a:Nat),PySem.NumText.AllDigits cs->cs.foldl (λd8 c=>d8*10+(c-48)) a<(a+1)*10^cs.length
 |[],a,_=>by show a<(a+1)*1;lia
 |c::r,a,h=>by have h1:=ND r (a*10+(c-48)) h.tail;have h2:=h.head;have h3:(a*10+(c-48)+1)*10^r.length<=((a+1)*10)*10^r.length:=Nat.mul_le_mul_right _ (by lia);show r.foldl _ (a*10+(c-48))<(a+1)*10^(r.length+1);rw[Nat.pow_succ,dS (10^r.length),<-Nat.mul_assoc];exact am h1 h3
theorem J4(cs:List Nat)(h:PySem.NumText.AllDigits cs):PySem.NumText.digitsVal cs<10^cs.length:=by have z:=ND cs 0 h;rw[Nat.zero_add,Nat.one_mul]at z;exact z
theorem GX(h:Be 57 x=true):PySem.NumText.AllDigits x.cps.toList:=by intro c hc;have z:=bD.mp h c hc;rw[au,decide_eq_true_iff,decide_eq_true_iff]at z;exact z
theorem EV{n:Int}(h:n.natAbs<10^k)(hk:k<=200):n.natAbs.log2<1920:=by
 by_cases z:n.natAbs=0
 ·rw[z]
  decide
 ·rw[Nat.log2_lt z];have h1:10^k<=10^200:=Nat.pow_le_pow_right (by decide) hk;have h2:10^200<2^1920:=by decide +kernel
  exact am h (bB h1 (cM h2))
theorem Od(hx:x.cps.size<=600)(h0:(Al x).cps.size≠0)(hf:Be 57 (Al x)=true)(h6:(Al x).cps.size<=60):∃n:Int,PySem.intText? x=some n/\n.natAbs.log2<1920:=by
 have hd:=GX hf;have hv:=J4 _ hd;rw[ai]at hv;have hne:(Al x).cps.toList≠[]:=λz=>h0 (by rw[<-ai,z];rfl)
 have h2:x.length<=4300:=bB hx (by decide)
 by_cases hs:Txt.startswith x (Str.ofString "-")=true
 ·obtain⟨r,hr⟩:=(Cm x).mp hs;have e:=EI hr;rw[e]at hd hne hv;refine⟨_,PySem.intText_neg hr hd hne h2,EV (k:=(Al x).cps.size) ?_ (by lia)⟩;rw[Int.natAbs_neg,Int.natAbs_natCast];exact hv
 ·rw[DM hs]at hd hne hv;refine⟨_,PySem.intText_digits hd hne h2,EV (k:=x.cps.size) ?_ ?_⟩
  ·rw[Int.natAbs_natCast];exact hv
  ·rw[DM hs]at h6;lia
structure Hk(x:Str)(n:Int):Prop where
 n0:(Al x).cps.size≠0
 fg:Be 57 (Al x)=true
 le:(Al x).cps.size<=60
 eq:Bw n=x
theorem GC{m:Nat}(h:x.cps.toList=(Nat.toDigits 10 m).map Char.toNat):Be 57 x=true/\x.cps.size=(Nat.toDigits 10 m).length:=by
 constructor
 ·unfold Be;rw[h,bD];intro c hc;have z:=Df m c hc;rw[au,decide_eq_true_iff,decide_eq_true_iff];exact z
 ·rw[<-ai,h,aW]
theorem GD(n:Int):(Al (Bw n)).cps.toList=(Nat.toDigits 10 n.natAbs).map Char.toNat:=by
 cases n with
 |ofNat m =>
  have e:=CZ m
  have hs:Txt.startswith (Bw (m:Int)) (Str.ofString "-")≠true:=λz=>by obtain⟨r,hr⟩:=(Cm _).mp z;rw[e]at hr;have:=Df m 45 (by rw[hr];exact ah);lia
  show (Al (Bw (m:Int))).cps.toList=_;rw[DM hs];exact e
 |negSucc m=>exact EI (EH m)
theorem NE{n:Int}(h:n.natAbs<10^60):Hk (Bw n) n:=by have e:=GD n;obtain⟨h1,h2⟩:=GC e;have h3:=J1 59 n.natAbs h;have h4:=J3 0 n.natAbs;refine⟨λz=>Fd n.natAbs (by rw[<-e,<-List.length_eq_zero_iff,ai];exact z),h1,by lia,rfl⟩
theorem JD{n:Int}(h:n.natAbs<10^(k+1)):(Bw n).cps.size<=k+2:=by
 have h3:=J1 k n.natAbs h;cases n with
 |ofNat m =>
  have h2:=(GC (x:=Bw (m:Int)) (CZ m)).2;have h3':(Nat.toDigits 10 m).length<=k+1:=h3;show (Bw (m:Int)).cps.size<=_;lia
 |negSucc m =>
  have h3':(Nat.toDigits 10 (m+1)).length<=k+1:=h3;rw[<-ai,EH,a9,aW];lia
theorem QL(n:Int):∀c∈(Bw n).cps.toList,c=45\/(48<=c/\c<=57):=by
 cases n with
 |ofNat m =>
  intro c hc;have hc':c∈(Bw (m:Int)).cps.toList:=hc;rw[CZ]at hc';exact .inr (Df m c hc')
 |negSucc m =>
  intro c hc;rw[EH]at hc;rcases aw.mp hc with z|z
  ·exact .inl z
  ·exact .inr (Df (m+1) c z)
theorem JE(hx:x.cps.size<=600){n m:Int}(h:PySem.intText? x=some m)(z:Hk x n):n=m:=by have e:=Hh (n:=n) (by rw[z.eq];lia);rw[z.eq,h]at e;exact (Option.some.inj e).symm
noncomputable def Bg(g lo:Int)(d4:qR):Str:=⟨#[(48+g).toNat]⟩++Str.ofString ":"++Bw lo++Str.ofString ":"++E1 d4
structure Hl(x:Str)(g lo:Int)(d4:qR):Prop where
 pt:∃a b c,BV x=[a,b,c]/\a.cps.size=1/\Be 57 a=true/\DD a=[g]/\Hk b lo/\c.cps.size≠0/\Be 57 c=true/\DD c=d4
 g2:2<=g
 g9:g<=9
 ok:EE g (d4.map V.int)
noncomputable def Dq:V->Int->Int->qR->Prop
 |.str x,g,lo,d4=>Hl x g lo d4
 |_,_,_,_=>False
inductive Gw(C:qM)(vs:List V)(H:Hp)(Q:VK)(E:XK):Prop
 |m (x:Str):vs=[.str x]->Ee x->(∀n,Hk x n->∀H',AJ H H'->Q (.int n) H')->((∀n,¬Hk x n)->∀H',AJ H H'->E (.ref C) none H')->Gw C vs H Q E
inductive J7(C:qM)(vs:List V)(H:Hp)(Q:VK)(E:XK):Prop
 |m (v:V):vs=[v]->OY H v->(∀g lo d4,Dq v g lo d4->(∀n∈d4,0<=n/\n<g)->∀r H',AJ H H'->BJ H' r g lo d4->Q (.ref r) H')->((∀g lo d4,¬Dq v g lo d4)->∀H',AJ H H'->E (.ref C) none H')->J7 C vs H Q E
inductive Ff(vs:List V)(H:Hp)(Q:VK)(z3_:XK):Prop
 |m (a:qM) (ws:qR):vs=[.ref a]->H a=some (.tup (ws.map V.int))->(∀n∈ws,0<=n/\n<9)->ws.length<=300->(∀H',AJ H H'->Q (.str (E1 ws)) H')->Ff vs H Q z3_
structure W1(H:Hp)(r:qM)(g lo:Int)(d4:qR):Prop where
 rv:BJ H r g lo d4
 g2:2<=g
 g9:g<=9
 ok:EE g (d4.map V.int)
 tb:∀n∈d4,0<=n/\n<g
 far:lo.natAbs<10^130
inductive MJ(vs:List V)(H:Hp)(Q:VK)(z3_:XK):Prop
 |m (r:qM) (g lo:Int) (d4:qR):vs=[.ref r]->W1 H r g lo d4->(∀H',AJ H H'->Q (.str (Bg g lo d4)) H')->MJ vs H Q z3_
theorem R8:∀n,n<10->Str.ofString (toString ((n:Nat):Int))=⟨#[48+n]⟩:=by decide +kernel
theorem K9(hb:∀n∈d4,0<=n/\n<9):∀c∈(E1 d4).cps.toList,48<=c/\c<=56:=by intro c hc;obtain⟨n,hn,rfl⟩:=bL.mp (show c∈d4.map λn=>(48+n).toNat from hc);have:=hb n hn;lia
theorem JF(d4:qR):(E1 d4).cps.size=d4.length:=by show ((d4.map λn=>(48+n).toNat).toArray).size=_;rw[bS,aW]
theorem Oe(hb:∀n∈d4,0<=n/\n<9):DD (E1 d4)=d4:=by unfold DD E1;dsimp only;rw[dU];refine (cB λn hn=>?_).trans (List.map_id d4);have:=hb n hn;show (((48+n).toNat:Nat):Int)-48=n;lia
theorem MK(g2:2<=g)(g9:g<=9)(hb:∀n∈d4,0<=n/\n<9):BV (Bg g lo d4)=[⟨#[(48+g).toNat]⟩,Bw lo,E1 d4]:=by
 refine K8 (λz=>?_) (λz=>?_) λz=>?_
 ·have:58=(48+g).toNat:=by simpa using z
  lia
 ·have:=QL lo _ z;lia
 ·have:=K9 hb _ z;lia
theorem Of(g2:2<=g)(g9:g<=9)(hb:∀n∈d4,0<=n/\n<9)(ok:EE g (d4.map V.int))(hl:lo.natAbs<10^60):Hl (Bg g lo d4) g lo d4:=by
 have fg:∀x:Str,(∀c∈x.cps.toList,48<=c/\c<=57)->Be 57 x=true:=λx h=>by unfold Be;rw[bD];intro c hc;rw[au,decide_eq_true_iff,decide_eq_true_iff];exact h c hc
 refine⟨⟨_,_,_,MK g2 g9 hb,rfl,fg _ (λc hc=>?_),?_,NE hl,?_,fg _ (λc hc=>?_),Oe hb⟩,g2,g9,ok⟩
 ·have:c=(48+g).toNat:=by simpa using hc
  lia
 ·show[(((48+g).toNat:Nat):Int)-48]=[g]
  congr 1
  lia
 ·obtain⟨_,⟨m,m1,e⟩,_⟩:=ok;rw[JF];rw[aW]at e;have:=RW.BF g2 m;lia
 ·have:=K9 hb c hc;lia
theorem ML(tx:Ee x){g':Int}(h:Hl x g lo d4)(h':Hl x g' lo' tab'):g=g'/\lo=lo'/\d4=tab':=by refine byG λGq hGq=>?_;obtain⟨⟨a,b,c,e,a1,a2,a3,a4,a5,a6,a7⟩,_,_,_⟩:=h;refine hGq ?_;clear hGq Gq;refine byG λGq hGq=>?_;obtain⟨⟨a',b',c',e',b1,b2,b3,b4,b5,b6,b7⟩,_,_,_⟩:=h';refine hGq ?_;clear hGq Gq;have kb:=(K7 tx).2 b (by rw[e];simp);rw[e]at e';cases e';rw[a3]at b3;refine⟨(List.cons.inj b3).1,?_,a7.symm.trans b7⟩;have r:=Hh (n:=lo') (by rw[b4.eq];have:=kb.2;lia);rw[b4.eq]at r;exact JE kb.2 r a4
theorem R9(c:Nat):∀l:List Nat,Bu c l≠[]
 |[]=>by simp[Bu]
 |a::l=>by
  rw[Bu];split
  ·simp
  ·split<;>simp
theorem JG:∀(k m:Nat),m<=k->∀r,(Nat.toDigits 10 m).map Char.toNat=48::r->m=0
 |0,m,h,_,_=>by lia
 |k+1,m,h,r,e=>by
  by_cases z:m<10
  ·rw[cO z]at e;have:∀j<10,(Nat.digitChar j).toNat=48->j=0:=by decide
   exact this m z (List.cons.inj e).1
  ·rw[ET z,az]at e;have hne:=Fd (m/10);cases e2:(Nat.toDigits 10 (m/10)).map Char.toNat with
   |nil=>exact qE e2 hne
   |cons c r2 =>
    rw[e2]at e;have hc:c=48:=(List.cons.inj e).1;subst hc;have:=JG k (m/10) (by lia) r2 e2;lia
theorem SA(hx:x.cps.size<=600)(h0:(Al x).cps.size≠0)(hf:Be 57 (Al x)=true)(h6:(Al x).cps.size<=60):(∃n,Hk x n)↔((Al x).cps.toList.head?≠some 48\/x=Str.ofString "0"):=by
 have hd:=GX hf;constructor
 ·rintro⟨n,z⟩
  by_cases h:(Al x).cps.toList.head?=some 48
  ·refine .inr ?_;have e:=GD n;rw[z.eq]at e;rw[e]at h;cases e2:(Nat.toDigits 10 n.natAbs).map Char.toNat with
   |nil=>exact qE e2 (Fd _)
   |cons c r =>
    rw[e2]at h;have hc:c=48:=Option.some.inj h;subst hc;have n0:=JG _ _ (af _) r e2;have:n=0:=by lia
    rw[<-z.eq,this]
    decide +kernel
  ·exact .inl h
 ·intro h;have put:∀n,Bw n=x->∃n,Hk x n:=λn e=>⟨n,h0,hf,h6,e⟩
  rcases h with h|h
  ·cases ef:(Al x).cps.toList with
   |nil=>exact qE (by rw[<-ai,ef];rfl) h0
   |cons c r =>
    rw[ef]at h hd
    have c9:49<=c:=by
     have:=hd.head;have:c≠48:=λz=>h (by rw[z];rfl)
     lia
    have td:=PySem.NumText.toDigits_digitsVal r.length (c::r) rfl hd (.inr ⟨c,r,rfl,c9⟩)
    have back:((c::r).map Char.ofNat).map Char.toNat=c::r:=by
     rw[dU];refine (cB λa ha=>?_).trans (List.map_id _);have:=hd a ha;have:∀a,a<58->(Char.ofNat a).toNat=a:=by decide
     exact this a (by lia)
    by_cases hs:Txt.startswith x (Str.ofString "-")=true
    ·obtain⟨r',hr⟩:=(Cm x).mp hs;have e:=EI hr;rw[ef]at e;have vp:=PySem.NumText.digitsVal_pos (cs:=r) c9;refine put (Int.negSucc (PySem.NumText.digitsVal (c::r)-1)) (Ck ?_);rw[EH,Nat.sub_add_cancel vp,td,back,hr,e]
    ·have e:=DM hs;refine put ((PySem.NumText.digitsVal (c::r):Nat):Int) (Ck ?_);rw[CZ,td,back,<-ef,e]
  ·refine put 0 ?_;rw[h]
   decide +kernel
theorem MM{a:Nat}(h2:a<=x.length):(Txt.slice x (some ((a:Nat):Int)) none).cps.toList=x.cps.toList.drop a:=by rw[slice_from_eq (x:=x) (i:=((a:Nat):Int)) (b:=(x.length:Int)) (by lia) (by lia) rfl];show (x.cps.toList.drop ((a:Nat):Int).toNat).take ((x.length:Int)-((a:Nat):Int)).toNat=_;rw[bI,be];rw[cm,ai];show x.cps.size-a<=((x.cps.size:Int)-(a:Int)).toNat;lia
end L2
namespace L2
theorem NF{i j:Int}:N3 (.int i) (.int j)=true:=rfl
theorem NG{i j:Bool}:N3 (.bl i) (.bl j)=true:=rfl
theorem NH:N3 .non .non=true:=rfl
theorem NI{i:Int}:N3 (.int i) .non=true:=rfl
end L2
namespace L2
open PySem PySem.Spec PyProof.Rows
variable{E Q:qL->qN->Prop}{H H':Hp}{T:String}{X:Cx}{a:qM}{h h':Heap}{ad:List (qM×Obj)}{pos:Pos}{s:qN}{t':Nat}{u:qL}{y:V}{σ:St}
section
variable{κ:Type}[DecidableEq κ]
noncomputable def BY(kvs:List (κ×V))(k:κ):Option V:=(kvs.find? λkv=>decide (kv.1=k)).map (·.2)
noncomputable def CF(kvs:List (κ×V))(k:κ)(v:V):List (κ×V):=
 if (kvs.any λkv=>decide (kv.1=k))=true then kvs.map (λkv=>if kv.1=k then (kv.1,v) else kv) else kvs++[(k,v)]
theorem C0{p:κ×V}{r:List (κ×V)}{k:κ}(e:p.1=k):BY (p::r) k=some p.2:=by simp[BY,List.find?_cons,e]
theorem C1{p:κ×V}{r:List (κ×V)}{k:κ}(e:¬p.1=k):BY (p::r) k=BY r k:=by simp[BY,List.find?_cons,e]
theorem Fg(k:κ):∀kvs:List (κ×V),(kvs.any λkv=>decide (kv.1=k))=(BY kvs k).isSome
 |[]=>rfl
 |p::r=>by
  rw[dR]
  by_cases e:p.1=k
  ·simp only[C0 e,qF e,Bool.true_or,Option.isSome_some]
  ·rw[C1 e,qG e,Bool.false_or];exact Fg k r
theorem EJ(kvs:List (κ×V))(k:κ)(v:V):(CF kvs k v).length<=kvs.length+1:=by
 unfold CF;split
 ·rw[aW];lia
 ·rw[ac,a9,List.length_nil];lia
theorem QM{kvs:List (κ×V)}{k:κ}(v:V)(h:BY kvs k=none):CF kvs k v=kvs++[(k,v)]:=by unfold CF;rw[Fg,h];exact qC (by decide)
theorem DP.isSome_eq{o:Option V}{u:Option qL}(r:DP o u):o.isSome=u.isSome:=by
 cases o with
 |none=>cases u with
  |none=>rfl
  |some _=>exact (show False from r).elim
 |some _=>cases u with
  |none=>exact (show False from r).elim
  |some _=>rfl
theorem KV.val{kvs:List (κ×V)}{vs:List (κ×qL)}(r:KV kvs vs)(k:κ):DP (BY kvs k) (valueAt vs k):=by
 unfold KV at r
 induction r with
 |nil=>exact True.intro
 | @cons p q ps qs h t ih =>
  obtain⟨h1,h2⟩:=h
  by_cases e:p.1=k
  ·have e':q.1=k:=h1.symm.trans e;have b:valueAt (q::qs) k=some q.2:=by simp[valueAt,List.find?_cons,e']
   rw[C0 e,b];exact h2
  ·have e':¬q.1=k:=λz=>e (h1.trans z)
   have b:valueAt (q::qs) k=valueAt qs k:=by simp[valueAt,List.find?_cons,e']
   rw[C1 e,b];exact ih
theorem KV.any{kvs:List (κ×V)}{vs:List (κ×qL)}(r:KV kvs vs)(k:κ):(kvs.any λkv=>decide (kv.1=k))=vs.any λkv=>decide (kv.1=k):=by
 unfold KV at r
 induction r with
 |nil=>rfl
 |cons h t ih=>rw[dR,dR,ih,h.1]
theorem KV.repl{kvs:List (κ×V)}{vs:List (κ×qL)}(r:KV kvs vs)(k:κ)(ry:Av y u):
  KV (kvs.map λkv=>if kv.1=k then (kv.1,y) else kv) (vs.map λkv=>if kv.1=k then (kv.1,u) else kv):=by
 unfold KV at r⊢
 induction r with
 |nil=>exact .nil
 | @cons p q ps qs h t ih =>
  rw[bF,bF];refine .cons ?_ ih;obtain⟨h1,h2⟩:=h
  by_cases e:p.1=k
  ·rw[qD e,qD (h1.symm.trans e)];exact⟨h1,ry⟩
  ·rw[qC e,qC (λz=>e (h1.trans z))];exact⟨h1,h2⟩
theorem KV.put{kvs:List (κ×V)}{vs:List (κ×qL)}(r:KV kvs vs)(k:κ)(ry:Av y u):KV (CF kvs k y) (stored vs k u):=by
 unfold CF stored;rw[r.any k]
 by_cases e:(vs.any λkv=>decide (kv.1=k))=true
 ·rw[qD e,qD e];exact r.repl k ry
 ·rw[qC e,qC e];exact Paired.snoc r ⟨rfl,ry⟩
theorem KV.length{kvs:List (κ×V)}{vs:List (κ×qL)}(r:KV kvs vs):kvs.length=vs.length:=Paired.length r
end
theorem NJ{P:qO}{w:qP}{k:BQ}(r:Av (kV k) u):(A6 P w).is k u=true:=by
 cases k with
 |inl i=>obtain⟨t,e⟩:=(show ∃t,u=Value.int i t from r);subst e;exact KR P w i t
 |inr x=>obtain⟨t,e⟩:=(show ∃t,u=Value.str x t from r);subst e;exact KS P w x t
theorem GF{P:qO}{w:qP}:∀{ks:List BQ} {us:List qL},Au (ks.map kV) us->ItemsAre (A6 P w) ks us
 |[],_,r=>by rw[List.map_nil]at r;cases r;exact .nil
 |k::ks,_,r=>by
  rw[bF]at r;cases r with
  |cons h t=>exact .cons (NJ h) (GF t)
abbrev NK(H:Hp):List (List BQ×V)->List (List BQ×qM×qL)->Prop:=Paired λp q=>p.1=q.1/\H q.2.1=some (.tup (p.1.map kV))/\Av p.2 q.2.2
variable{kvs:List (List BQ×V)}
theorem NK.val{xs:List (List BQ×qM×qL)}(r:NK H kvs xs)(k:List BQ):DP (BY kvs k) ((atKey xs k).map (·.2)):=by
 induction r with
 |nil=>exact True.intro
 | @cons p q ps qs h t ih =>
  obtain⟨h1,_,h2⟩:=h
  by_cases e:p.1=k
  ·have e':q.1=k:=h1.symm.trans e;have b:atKey (q::qs) k=some q.2:=by simp[atKey,List.find?_cons,e']
   rw[C0 e,b];exact h2
  ·have e':¬q.1=k:=λz=>e (h1.trans z)
   have b:atKey (q::qs) k=atKey qs k:=by simp[atKey,List.find?_cons,e']
   rw[C1 e,b];exact ih
theorem NK.repl{xs:List (List BQ×qM×qL)}(r:NK H kvs xs)(k:List BQ)(ry:Av y u):
  NK H (kvs.map λkv=>if kv.1=k then (kv.1,y) else kv) (xs.map (putAt k u)):=by
 induction r with
 |nil=>exact .nil
 | @cons p q ps qs h t ih =>
  rw[bF,bF];refine .cons ?_ ih;obtain⟨h1,h2,h3⟩:=h;unfold putAt
  by_cases e:p.1=k
  ·rw[qD e,qD (h1.symm.trans e)];exact⟨h1,h2,ry⟩
  ·rw[qC e,qC (λz=>e (h1.trans z))];exact⟨h1,h2,h3⟩
theorem NK.put{xs:List (List BQ×qM×qL)}(r:NK H kvs xs)(k:List BQ){b:qM}(hb:H b=some (.tup (k.map kV)))(ry:Av y u):
  NK H (CF kvs k y) (storedH xs k b u):=by
 have e:(kvs.any λkv=>decide (kv.1=k))=(atKey xs k).isSome:=by rw[Fg,(r.val k).isSome_eq,cZ]
 unfold CF storedH;rw[e]
 by_cases q:(atKey xs k).isSome=true
 ·rw[qD q,qD q];exact r.repl k ry
 ·rw[qC q,qC q];exact Paired.snoc r ⟨rfl,hb,ry⟩
theorem NK.keeps{xs:List (List BQ×qM×qL)}(r:NK H kvs xs)(ht:∀b ys,H b=some (.tup ys)->H' b=some (.tup ys)):NK H' kvs xs:=
 Paired.mapP r λ_ _ z=>⟨z.1,ht _ _ z.2.1,z.2.2⟩
section
variable{P:qO}{w:qP}
theorem TM{u:HO}(ok:D4 P w H h)(e:Rd H a u):An P w H h a u:=e.ok ok
theorem LA{kvs:List (BQ×V)}(ok:D4 P w H h)(e:Rd H a (.dK kvs)):kvs.length<=sizeLine/\(a==sysModules)=false/\∃vs,KV kvs vs/\h.DictOf (A6 P w) a vs:=
 show An P w H h a (.dK kvs) from TM ok e
theorem W3{kvs:List (BQ×V)}(ok:D4 P w H h)(e:H a=some (.dK kvs)):kvs.length<=sizeLine/\(a==sysModules)=false/\∃vs,KV kvs vs/\h.DictOf (A6 P w) a vs:=LA ok (.inl e)
theorem J8{ks:List BQ}(ok:D4 P w H h)(e:H a=some (.tup (ks.map kV))):(tupleKind (A6 P w)).is h ks a:=by refine byG λGq hGq=>?_;obtain⟨_,its,r,o,h1,h2,n,h3⟩:=(show An P w H h a (.tup (ks.map kV)) from ok a _ e);refine hGq ?_;clear hGq Gq;exact⟨o,its.toArray,n,h1,h2,h3,by simpa using GF r⟩
theorem NL(ok:D4 P w H h)(e:Rd H a (.dT kvs)):kvs.length<=sizeLine/\(a==sysModules)=false /\
  ∃xs,NK H kvs xs/\h.DictOfH (tupleKind (A6 P w)) a xs:=by
 refine byG λGq hGq=>?_;obtain⟨z,y,xs,r,o,es,ep,h1,h2,h3,h4,h5⟩:=(show An P w H h a (.dT kvs) from TM ok e);refine hGq ?_;clear hGq Gq;refine⟨z,y,xs,r,o,es,ep,h1,h2,h3,h4,λx hx=>?_,h5⟩
 have all:∀{l:List (List BQ×V)} {m:List (List BQ×qM×qL)},NK H l m->∀x∈m,(tupleKind (A6 P w)).is h x.1 x.2.1:=by
  intro l m q
  induction q with
  |nil=>intro x hx;exact nomatch hx
  | @cons p q ps qs hq t ih =>
   intro x hx;rcases aw.mp hx with e|hx
   ·subst e;exact J8 ok (by rw[<-hq.1];exact hq.2.1)
   ·exact ih x hx
 exact all r x hx
theorem W4(ok:D4 P w H h)(e:H a=some (.dT kvs)):kvs.length<=sizeLine/\(a==sysModules)=false /\
  ∃xs,NK H kvs xs/\h.DictOfH (tupleKind (A6 P w)) a xs:=NL ok (.inl e)
end
def MN(H:Hp)(a:qM)(y:V)(r:Option V):Prop:=
 (∃kvs k,Rd H a (.dK kvs)/\y=kV k/\r=BY kvs k)\/∃kvs k b,Rd H a (.dT kvs)/\y=.ref b/\H b=some (.tup (k.map kV))/\r=BY kvs k
def W5(H:Hp)(a:qM)(y v:V)(H':Hp):Prop:=
 (∃kvs k,H a=some (.dK kvs)/\y=kV k/\kvs.length<sizeLine/\H'=Ai H a (.dK (CF kvs k v))) \/
 ∃kvs k b,H a=some (.dT kvs)/\y=.ref b/\H b=some (.tup (k.map kV))/\kvs.length<sizeLine/\H'=Ai H a (.dT (CF kvs k v))
section
variable{v:V}{r:qL}{o:Option V}{A:Around}
theorem AX.big(I:AX X ad σ H s):sysModules<s.heap.objs.size:=by have h:mainGlobals<s.heap.objs.size:=(I.mod.glob.keeps I.bk).lt;exact Nat.lt_trans (by decide) h
theorem Og(hu:A.units+1<cLine)(I:AX X ad σ H s)(g:MN H a y (some v))(ry:Av y u)(h:∀w' s',AX X ad σ H s'->Av v w'->Q w' s'):
  wpAny (model X.prog X.w) A (getItem (.ref a) u) Q E s:=by
 rcases g with⟨kvs,k,e,ey,l⟩|⟨kvs,k,b,e,ey,eb,l⟩
 ·subst ey;refine byG λGq hGq=>?_;obtain⟨z,hd,vs,rel,dd⟩:=LA I.hok e;refine hGq ?_;clear hGq Gq;obtain⟨w',hw,rw'⟩:=DP.some_of (v:=v) (o:=valueAt vs k) (by rw[l];exact rel.val k);exact wpAny_getItem_of (NJ ry) dd.mapOf hw (h w' _ (I.tok _) rw')
 ·subst ey;cases (show u=Value.ref b from ry);refine byG λGq hGq=>?_;obtain⟨z,hd,xs,rel,dd⟩:=NL I.hok e;refine hGq ?_;clear hGq Gq;obtain⟨w',hw,rw'⟩:=DP.some_of (v:=v) (o:=(atKey xs k).map (·.2)) (by rw[l];exact rel.val k);obtain⟨p,hp,hp2⟩:=bH.mp hw;refine wpAny_getItem_heap (tupleKind_room_in1 hu) (J8 I.hok eb) dd hp ?_;rw[hp2];exact h w' _ (I.tok _) rw'
theorem SD(hu:A.units+1<cLine)(I:AX X ad σ H s)(g:MN H a y o)(ry:Av y u)(h:∀s',AX X ad σ H s'->Q (.bool (!o.isSome)) s'):
  wpAny (model X.prog X.w) A (compareOp .NotIn u (.ref a)) Q E s:=by
 rcases g with⟨kvs,k,e,ey,l⟩|⟨kvs,k,b,e,ey,eb,l⟩
 ·subst ey;refine byG λGq hGq=>?_;obtain⟨z,hd,vs,rel,dd⟩:=LA I.hok e;refine hGq ?_;clear hGq Gq;refine wpAny_notIn_of (NJ ry) hd dd.mapOf ?_;rw[<-(rel.val k).isSome_eq,<-l];exact h _ (I.tok _)
 ·subst ey;cases (show u=Value.ref b from ry);refine byG λGq hGq=>?_;obtain⟨z,hd,xs,rel,dd⟩:=NL I.hok e;refine hGq ?_;clear hGq Gq;refine wpAny_notIn_heap (tupleKind_room_in1 hu) (J8 I.hok eb) hd dd ?_;have q:=(rel.val k).isSome_eq;rw[cZ]at q;rw[<-q,<-l];exact h _ (I.tok _)
theorem J9{ob:HO}(I:AX X ad σ H s)(mu:WJ (H a))(hs:Heap.SameBut a s.heap h')(he:∃q,h'.get? a=some q)(new:An X.prog X.w (Ai H a ob) h' a ob):
  AX X ad σ (Ai H a ob) {s with heap:=h',toks:=t'}:=
 I.write (x:=a) (e:=a) mu (.inl rfl) (λb q hb z=>(hs.2 b hb).trans z) he new
theorem UW{P:qO}{w:qP}{kvs:List (BQ×V)}{vs:List (BQ×qL)}(z:kvs.length<=sizeLine)(hd:(a==sysModules)=false)(rel:KV kvs vs)(dd:h'.DictOf (A6 P w) a vs):
  An P w H' h' a (.dK kvs):=⟨z,hd,vs,rel,dd⟩
theorem Oh{Q:Unit->qN->Prop}(hu:A.units+1<cLine)(I:AX X ad σ H s)(g:W5 H a y v H')(ry:Av y u)(rv:Av v r)(h:∀s',AX X ad σ H' s'->Q () s'):
  wpAny (model X.prog X.w) A (setItem (.ref a) u r) Q E s:=by
 rcases g with⟨kvs,k,e,ey,l,eH⟩|⟨kvs,k,b,e,ey,eb,l,eH⟩
 ·subst ey eH;refine byG λGq hGq=>?_;obtain⟨z,hd,vs,rel,dd⟩:=W3 I.hok e;refine hGq ?_;clear hGq Gq;have hz:vs.length<=sizeLine:=by rw[<-rel.length];exact z
  have hl:(CF kvs k v).length<=sizeLine:=by have:=EJ kvs k v;lia
  refine wpAny_setItem_pairs (hsz:=hz) (NJ ry) dd λh' dd' hs=>h _ ?_
  have he:∃q,h'.get? a=some q:=let ⟨q,_,_,hq,_⟩:=dd';⟨q,hq⟩;exact J9 I (by rw[e];exact True.intro) hs he (UW hl hd (rel.put k rv) dd')
 ·subst ey eH;cases (show u=Value.ref b from ry);refine byG λGq hGq=>?_;obtain⟨z,hd,xs,rel,dd⟩:=W4 I.hok e;refine hGq ?_;clear hGq Gq;have hz:xs.length<=sizeLine:=by rw[<-Paired.length rel];exact z
  have hl:(CF kvs k v).length<=sizeLine:=by have:=EJ kvs k v;lia
  refine wpAny_setItem_heap (hsz:=hz) (tupleKind_room_in1 hu) (J8 I.hok eb) dd λh' dd' hs=>h _ ?_
  refine byG λGq hGq=>?_;obtain⟨q,es,ep,hq,h2,h3,h4,_,h5⟩:=dd';refine hGq ?_;clear hGq Gq;refine J9 I (by rw[e];exact True.intro) hs ⟨q,hq⟩ ⟨hl,hd,_,(rel.put k eb rv).keeps λc ys ec=>?_,q,es,ep,hq,h2,h3,h4,h5⟩;rw[AR (Eg ec e (λz=>nomatch z))];exact ec
end
def QN(i:Expr):Prop:=∀ov iv,subscripted i false ov iv=operate [ov,iv] (getItem ov iv)
theorem KA{prog:qO}{w:qP}{A:Around}{env:Env}{value slice:Expr}{id:String}
  (hl:typeLookup (.type T) "__getitem__"=pure (some (.builtin id))) (hs:QN slice)
  (h:wpAny (model prog w) A (eval value env) (λo s₁=>wpAny (model prog w) A (eval slice env) (λi s₂=>s₂.TypeIs o T/\wpAny (model prog w) A (getItem o i) Q E s₂) E s₁) E s):
  wpAny (model prog w) A (eval (.Subscript value slice pos) env) Q E s:=by
 refine Subscript_ (qH h (λo s₁ h₁=>qH h₁ (λi s₂ h₂=>?_) λ_ _ x=>x) λ_ _ x=>x);obtain⟨hT,h₂⟩:=h₂;unfold subscriptTail;refine qA ?_;rw[getitemInPython_of_ne hT.not_modules];refine qA (wpAny_specialOf hT hl ?_)
 have fin:wpAny (model prog w) A (subscripted slice false o i) (λr s₃=>wpAny (model prog w) A (letTemporaryGo value o r >>= λ_=>pure r) Q E s₃) E s₂:=by rw[hs o i];exact wpAny_operating (qH h₂ (λr s₃ h₃=>qA (wpAny_letTemporaryGo (qB h₃))) λ_ _ x=>x)
 first
  |exact qB (qA fin)
  |exact qA (qB (qA fin))
  |exact qA fin
theorem LB{o:Option V}(I:AX X ad σ H s)(g:MN H a y o):s.TypeIs (.ref a) "dict":=by
 rcases g with⟨kvs,k,e,_,_⟩|⟨kvs,k,b,e,_,_,_⟩
 ·obtain⟨_,_,vs,_,dd⟩:=LA I.hok e;exact dd.typeIs
 ·obtain⟨_,_,xs,_,dd⟩:=NL I.hok e;exact dd.typeIs
def W6(td ty:TE):TE:=λσ H Q=>td σ H λx H1=>ty σ H1 λy H2=>∃a v,x=.ref a/\MN H2 a y (some v)/\Q v H2
def SE(ty td:TE):TE:=λσ H Q=>ty σ H λy H1=>td σ H1 λx H2=>∃a o,x=.ref a/\MN H2 a y o/\Q (.bl (!o.isSome)) H2
def W7(td ty tv:TE):TS:=λD σ H=>tv σ H λv H1=>td σ H1 λx H2=>ty σ H2 λy H3=>∃a H4,x=.ref a/\W5 H3 a y v H4/\D.nx σ H4
section
variable{o i e value:Expr}{pos' tpos:Pos}{td ty tv:TE}
theorem SG(hu:X.A.units+1<cLine)(ho:PE X o td)(hi:PE X i ty)(hs:QN i):PE X (.Subscript o i pos) (W6 td ty):=by intro ad s σ H Q I h;refine KA cg.lookup hs (A8 (ho ad s σ H _ I h) λu s1 ⟨x,H1,I1,rx,q1⟩=>A8 (hi ad s1 σ H1 _ I1 q1) λiv s2 z9=>?_);obtain⟨y,H2,I2,ry,a,v,ex,g,q2⟩:=z9;subst ex;obtain rfl:u=Value.ref a:=rx;exact⟨LB I2 g,Og hu I2 g ry λw' s3 I3 rw'=>⟨v,H2,I3,rw',q2⟩⟩
theorem Oi(hu:X.A.units+1<cLine)(hi:PE X i ty)(ho:PE X o td):PC X .NotIn i o (SE ty td):=by
 intro ad s σ H Q I h;refine A8 (hi ad s σ H _ I h) λiv s1 ⟨y,H1,I1,ry,q1⟩=>A8 (ho ad s1 σ H1 _ I1 q1) λu s2 z9=>?_
 obtain⟨x,H2,I2,rx,a,ov,ex,g,q2⟩:=z9;subst ex;obtain rfl:u=Value.ref a:=rx;exact SD hu I2 g ry λs3 I3=>⟨.bl (!ov.isSome),H2,I3,rfl,q2⟩
theorem SH(hu:X.A.units+1<cLine)(ho:PE X o td)(hi:PE X i ty)(hv:PE X value tv)(hs:swapsWith value (some (.Subscript o i pos')) pos.line X.env=pure false):
  PS X (.Assign [.Subscript o i pos'] value pos) (W7 td ty tv):=by
 intro ad s σ H D I h;refine wpAny_Assign_Subscript (A8 (hv ad s σ H _ I h) λr s1 ⟨v,H1,I1,rv,q1⟩=>A8 (ho ad s1 σ H1 _ I1 q1) λu s2 ⟨x,H2,I2,rx,q2⟩=>A8 (hi ad s2 σ H2 _ I2 q2) λiv s3 z9=>?_) hs;obtain⟨y,H3,I3,ry,a,H4,ex,g,q3⟩:=z9;subst ex;obtain rfl:u=Value.ref a:=rx;exact Oh hu I3 g ry rv λs4 I4=>⟨σ,H4,I4,q3⟩
end
theorem QO{P:qO}{w:qP}(h:Heap)(hb:sysModules<h.objs.size):An P w H (h.push {cls:=.type "dict",data:=.dict #[]}) h.objs.size (.dK []):=
 ⟨bj _,beq_eq_false_iff_ne.mpr (Ne.symm (bA hb)),[],.nil,Heap.DictOf.new h⟩
def UX:TE:=λ_ H Q=>∀p,H p=none->Q (.ref p) (Ai H p (.dK []))
theorem QP:PE X (.Dict [] [] pos) UX:=λad s σ H Q I h =>
 wpAny_Dict_empty ⟨.ref s.heap.objs.size,_,I.laid (a:=s.heap.objs.size) (o:=.dK []) (t':=s.toks) (λ_ _ q=>aZ _ q) (af _) (QO s.heap I.big),rfl,h _ (I.hok.fresh (af _))⟩
end L2
namespace PySem
section
variable{prog:qO}{w:qP}{K:Type}[DecidableEq K]{knd:HeapKind prog w K}{A:Around}{E:qL->qN->Prop}{s:qN}
theorem setDef_heap{dd b:qM}{ents:List (K×qM×qL)}{key:K}{dv:qL}{Q:qL->qN->Prop}(room:knd.room A)(isk:knd.is s.heap key b)(dof:s.heap.DictOfH knd dd ents)(few:ents.length<=sizeLine)
  (old:∀p,atKey ents key=some p->Q p.2 {s with toks:=s.toks+knd.draws key})
  (new:atKey ents key=none->∀hp,hp.DictOfH knd dd (storedH ents key b dv)->Heap.SameBut dd s.heap hp->Q dv {s with heap:=hp,toks:=s.toks+knd.draws key}):
  wpAny (model prog w) A (dictSetDefault dd (.ref b) dv) Q E s:=by
 refine byG λGq hGq=>?_;obtain⟨ob,rows,ep,got,cls,dat,rowsE,each,once⟩:=dof;refine hGq ?_;clear hGq Gq;unfold dictSetDefault
 try with_reducible refine qJ ?_
 refine qA (knd.pyHash room isk (qA (wpAny_dictFind_heap (s:={s with toks:=s.toks+knd.draws key}) room isk got dat rowsE each once (λnowhere=>?_) (λj p there=>?_))))
 ·have none':=atKey_none_of_get nowhere;have newE:=storedH_new (a:=b) (v:=dv) none';have rz:=size_of_entries rowsE;refine qA (wpAny_rule (qA (wpAny_updateDictKeys (hz:=by lia) (s:={s with toks:=s.toks+knd.draws key}) got dat (qB ?_))));refine new none' _ ⟨_,_,ep+1,bG _ got (Obj.isFreed_of_dict (Obj.data_mapDictKeys dat _)),cls.mapDictKeys _,Obj.data_mapDictKeys dat _,?_,?_,?_⟩ (Heap.SameBut.update ..)
  ·rw[newE];simp[rowsE,entryOfKey]
  ·rw[newE];intro x hx;rcases ar.mp hx with z|z
   ·exact knd.keeps (each x z) got dat (Heap.SameBut.update ..)
   ·rw[ak.mp z];exact knd.keeps isk got dat (Heap.SameBut.update ..)
  ·rw[newE,az,cL];refine⟨once,by simp,λx hx y hy e=>?_⟩;have:y=key:=by simpa using hy
   exact not_mem_keys_of_get nowhere (by rw[<-this,<-e];exact hx)
 ·refine qA (wpAny_dictEntries (s:={s with toks:=s.toks+knd.draws key}) got dat ?_);rw[entry_at rowsE j,there];exact qA (wpAny_rule (qB (old p (atKey_of_get once there))))
end
section
variable{prog:qO}{w:qP}{K:Type}[DecidableEq K](knd:HeapKind prog w K)(dd b:qM)
theorem meetsH_setDef(hm:(dd==sysModules)=false)(dv:qL):
  MeetsIn prog w (Builtin.«dict.setdefault» ⟨[.ref dd,.ref b,dv],[]⟩) (λA R s=>knd.room A.in1/\∃key ents,knd.is s.heap key b/\s.heap.DictOfH knd dd ents/\ents.length<=sizeLine /\
   (∀p,atKey ents key=some p->R (.ok (.ret p.2)) {s with toks:=s.toks+knd.draws key}) /\
   (atKey ents key=none->∀hp,hp.DictOfH knd dd (storedH ents key b dv)->Heap.SameBut dd s.heap hp->R (.ok (.ret dv)) {s with heap:=hp,toks:=s.toks+knd.draws key})):=
 .of_wp λA R s h=>by obtain⟨room,key,ents,isk,dof,few,old,new⟩:=h;unfold Builtin.«dict.setdefault»;refine qA ?_;unfold Builtin.Dict.keyAndDefault;refine qA (wpAny_notOrdered_dict dof.typeIs ?_);show wpAny _ _ (pure (dd,Value.ref b,some dv)) _ _ s;refine qB ?_;show wpAny _ _ (if (dd==sysModules)=true then _ else (dictSetDefault dd (.ref b) dv >>= _)) _ _ s;rw[qC (by rw[hm];decide)];exact qA (setDef_heap room isk dof few (λp z=>qB ⟨_,rfl,old p z⟩) λz hp d2 sb=>qB ⟨_,rfl,new z hp d2 sb⟩)
end
end PySem
namespace L2
open PySem PySem.Spec PyProof.Rows
variable{X:Cx}{es:List Expr}{fd:FuncData}{i k:Nat}{pos:Pos}{ps:List Str}{qual x:Str}{scope:Scope}{st:Stmt}{te:TE}{tt:TT}
section
variable{p:List qL->Prop}
theorem b0(h:p []):∀us:List qL,us.length=0->p us:=λus e=>by cases us with
 |nil=>exact h
 |cons a r=>cases e
theorem b1(h:∀a,p [a]):∀us:List qL,us.length=1->p us:=λus e=>by cases us with
 |nil=>cases e
 |cons a r=>exact b0 (p:=λl=>p (a::l)) (h a) r (Nat.succ.inj e)
theorem b2(h:∀a b,p [a,b]):∀us:List qL,us.length=2->p us:=λus e=>by cases us with
 |nil=>cases e
 |cons a r=>exact b1 (p:=λl=>p (a::l)) (h a) r (Nat.succ.inj e)
theorem b3(h:∀a b c,p [a,b,c]):∀us:List qL,us.length=3->p us:=λus e=>by cases us with
 |nil=>cases e
 |cons a r=>exact b2 (p:=λl=>p (a::l)) (h a) r (Nat.succ.inj e)
end
noncomputable def aP(N P:List Str)(sc:Scope):Bool:=decide (sc.kind=.function)&&!sc.isCoroutine&&!sc.isGenerator&&decide N.Nodup&&decide (N.take P.length=P) &&
 P.all (λx=>decide (sc.names.lookup x=some .local\/sc.names.lookup x=some .cell))&&sc.names.all λy=>decide (y.2≠.free)
theorem BM{N P:List Str}{sc:Scope}(h:aP N P sc=true:=by decide +kernel):AM N P sc:=by unfold aP at h;simp only[Bool.and_eq_true,decide_eq_true_eq,Bool.not_eq_true',List.all_eq_true]at h;obtain⟨⟨⟨⟨⟨⟨a,b⟩,c⟩,d⟩,e⟩,f⟩,g⟩:=h;exact⟨a,b,c,d,e,f,g⟩
section
variable{P:qO}{w:qP}{K:qQ}{mg:Str->Option qL}{base:Heap}{f:qM}{N:List Str}{sp:Sp}
theorem BC.okY(F:BC K x qual st f fd)(S:AM N ps (AG st)) (h:∀vs H Q E,sp vs H Q E->vs.length=ps.length /\
  ∀(d9:qL) (A:Around) (outer:List Env) (s:qN),BL k (A.deeper (envOfC qual (AG st) s.heap.objs.size f d9)) ->
   ∃t,FD (Cg (FC P w) P w K mg base N qual (AG st) f d9 A outer s H E).nox (BB st) t/\t {nx:=λ_ H'=>Q .non H',rt:=Q} (B1 N vs) H):DB P w K mg base (FC P w) (k+1) f fd ps sp:=
 F.ok0 S (λvs H Q E q=>(h vs H Q E q).1) λd9 A outer s H vs Q E hr q=>(h vs H Q E q).2 d9 A outer s hr
theorem Az(D:∃fd,BC K x qual st f fd)(S:AM N ps (AG st)) (h:∀vs H Q E,sp vs H Q E->vs.length=ps.length /\
  ∀(d9:qL) (A:Around) (outer:List Env) (s:qN),BL k (A.deeper (envOfC qual (AG st) s.heap.objs.size f d9)) ->
   ∃t,FD (Cg (FC P w) P w K mg base N qual (AG st) f d9 A outer s H E).nox (BB st) t/\t {nx:=λ_ H'=>Q .non H',rt:=Q} (B1 N vs) H) (bd:DY x qual st ps:=by first|exact λ_ _ _ _ _ _=>b1 λ_=>rfl|exact λ_ _ _ _ _ _=>b2 λ_ _=>rfl|exact λ_ _ _ _ _ _=>b3 λ_ _ _=>rfl|exact λ_ _ _ _ _ _=>b4 λ_ _ _ _=>rfl):Aa P w K mg base (k+1) f ps sp:=
 Ri D S bd (λvs H Q E q=>(h vs H Q E q).1) λd9 A outer s H vs Q E hr q=>(h vs H Q E q).2 d9 A outer s hr
theorem A5(D:∃fd,BC K x qual st f fd)(S:AM N ps (AG st)) (h:∀vs H Q E,sp vs H Q E->vs.length=ps.length /\
  ∀(d9:qL) (A:Around) (outer:List Env) (s:qN),BL k (A.deeper (envOfC qual (AG st) s.heap.objs.size f d9)) ->
   ∃t,FD (Cg (FC P w) P w K mg base N qual (AG st) f d9 A outer s H E) (BB st) t/\t {nx:=λ_ H'=>Q .non H',rt:=Q} (B1 N vs) H) (bd:DY x qual st ps:=by first|exact λ_ _ _ _ _ _=>b1 λ_=>rfl|exact λ_ _ _ _ _ _=>b2 λ_ _=>rfl|exact λ_ _ _ _ _ _=>b3 λ_ _ _=>rfl|exact λ_ _ _ _ _ _=>b4 λ_ _ _ _=>rfl):Aa P w K mg base (k+1) f ps sp:=
 Rj D S bd (λvs H Q E q=>(h vs H Q E q).1) λd9 A outer s H vs Q E hr q=>(h vs H Q E q).2 d9 A outer s hr
end
section
variable{e elt iter:Expr}{t:TA}{pos' p px:Pos}{N:List Str}{sc:Scope}{k':Nat}{f:qM}{sp:Sp}{cl:List (Str×qM)}{fv:List (Nat×Str)}{ifs:List Expr}{wi:TI}
theorem Ae(hr:BL k' X.A)(G:Aa X.prog X.w X.K X.mg X.base k f ps sp)(hm:X.mg x=some (.ref f))(ha:PA X (e::es) t)(hk:k<=k':=by decide)(hg:Gl X x:=by rfl)
  (hdb:(x==("__debug__":Str))=false:=by decide) (he:starEach (e::es) X.env=(false,eval e X.env)::starEach es X.env:=by rfl) (hpl:(backTo pos (starEach es X.env)).any (·.1)=false:=by rfl):
  PE X (.Call (.Name x p) (e::es) [] pos) (F2 sp [] (λ_=>E0) t):=AT G (hr.mono hk) hg hm HB ha hdb he hpl
theorem AY(i:Nat)(S:AM X.N ps sc)(he:PE X e te)(hi:X.N[i]?=some x:=by rfl)(hx:So X.env.scope x:=by first|exact Or.inl rfl|exact Or.inr rfl)(hs:swapsWith e (some (.Name x pos')) pos.line X.env=pure false:=by rfl)
  (hf:X.fn x=true\/X.env.scope.names.lookup x=some .local:=by first|exact .inl rfl|exact .inr rfl|assumption):PS X (.Assign [.Name x pos'] e pos) (Nw te (FE i)):=G4 S.nd hi hx he hs hf
theorem Bc(i:Nat)(S:AM X.N ps sc)(hi:X.N[i]?=some x:=by rfl)(hx:So X.env.scope x:=by first|exact Or.inl rfl|exact Or.inr rfl)
  (hf:X.fn x=true\/X.env.scope.names.lookup x=some .local:=by first|exact .inl rfl|exact .inr rfl|assumption):PG X (.Name x pos) (FE i):=Gh S.nd hi hx hf
theorem C3(fv:List (Nat×Str))(cl:List (Str×qM))(hi:PI X (.Name x px) iter wi)(hf:∀s H C fp,PF (Dz X s H (compEnvC scope cl C X.env) fp (x::fv.map (·.2))) ifs tt)(he:∀s H C fp,PE (Dz X s H (compEnvC scope cl C X.env) fp (x::fv.map (·.2))) elt te)
  (hclos:closureFor scope X.env=pure cl:=by with_unfolding_all rfl) (hcell:∀y∈scope.names,y.2≠.cell:=by decide +kernel) (hk:scope.kind=.function:=by rfl) (hnames:∀z∈scope.names,z.2=.local->scope.names.lookup z.1=some .local:=by decide +kernel)
  (hx:scope.names.lookup x=some .local:=by rfl) (hcl:Gc X.env cl:=by repeat' first|exact trivial|with_unfolding_all rfl|constructor) (hhas:((relabel scope X.env).names.all λz=>!(z.2==.cell||z.2==.free)||(cl.lookup z.1).isSome)=true:=by with_unfolding_all rfl)
  (hfv:HJ X scope cl fv:=by repeat' first|exact trivial|with_unfolding_all rfl|constructor) (hnd:(x::fv.map (·.2)).Nodup:=by decide) (hc:X.calm=true:=by rfl) (hs:∀x,foldedSetIterable iter X.env x=pure x:=by intro _;rfl):
  PE X (.ListComp elt [⟨.Name x px,iter,ifs,0⟩] scope pos) (P0 wi fv tt te):=Rp hc hi hclos hcell hk hnames hx hcl hhas hfv hnd hf he hs
end
end L2
namespace PySem
open Sem (wp)
end PySem
namespace L2
open PySem PySem.Spec PyProof.Rows RW
end L2
namespace L2
open PySem PySem.Spec PyProof.Rows
end L2
namespace L2
open PySem PySem.Spec PyProof.Rows RW
variable{M':Nat}{g lo low':Int}{d4:qR}
theorem Fh{m:Nat}(hm:1<=m)(c0:Br g d4 (g^(m-1))=true)(c1:Br g d4 1=true):Cj g lo d4 m lo m:=
 ⟨hm,λj hj _=>by lia,.inr ⟨0,m-1,by lia,by lia,by lia,by lia,by rw[Nat.sub_zero];exact c0,by rw[Nat.sub_self,cG];exact c1⟩⟩
def C4(g lo:Int)(d4:qR)(m:Nat)(lf:Int)(tf:qR)(mf:Nat):Prop:=∃(low:Int) (M:Nat),Cj g lo d4 m low M/\lf=low/\((M=1/\mf=2/\tf=HU g low (HU g lo d4 m low 1) 1 low 2)\/(2<=M/\mf=M/\tf=HU g lo d4 m low M))
theorem Fi(hg:2<=g){m:Nat}(hl:(d4.length:Int)=g^m){low:Int}{M:Nat}(n:Cj g lo d4 m low M)(n':Cj g lo d4 m low' M'):low=low'/\M=M':=by
 obtain⟨e1,e2⟩:=(FY hg hl hl n n').mp λ_ _=>rfl
 refine⟨e1,?_⟩;have a:=Bi hg lo d4 m low M;rw[e2,Bi hg]at a;exact (FS hg a).symm
theorem UY(g lo:Int)(d4:qR)(m:Nat):∃low M,Cj g lo d4 m low M:=by
 by_cases hc:BX g lo d4 m=[]
 ·exact⟨0,1,K1 hc⟩
 ·obtain⟨M,_,_,hW⟩:=Iw hc;exact⟨_,M,hW⟩
inductive EW(CT:qM)(vs:List V)(H:Hp)(Q:VK)(E:XK):Prop
 |m (r:qM) (g lo:Int) (d4:qR) (m:Nat) (lf:Int) (tf:qR) (mf:Nat):vs=[.ref r]->A4 H r g lo d4 m->C4 g lo d4 m lf tf mf->(g^(mf-1)<=9->∀r' H',AJ H H'->A4 H' r' g lf tf mf->Q (.ref r') H')->(9<g^(mf-1)->∀H',AJ H H'->E (.ref CT) none H')->EW CT vs H Q E
end L2
namespace L2
end L2
namespace L2
open PySem PySem.Spec PyProof.Rows RW
variable{M':Nat}{g lo lo' low':Int}{d4 tab':qR}
theorem LC(hg:2<=g){m:Nat}(hl:(d4.length:Int)=g^m){m':Nat}(hl':(tab'.length:Int)=g^m')(al:He g lo d4 m lo' tab' m'){low:Int}{M:Nat}(n:Cj g lo d4 m low M)(n':Cj g lo' tab' m' low' M'):low=low'/\M=M'/\HU g lo d4 m low M=HU g lo' tab' m' low' M':=by obtain⟨e1,e2⟩:=(FY hg hl hl' n n').mp al;have a:=Bi hg lo d4 m low M;rw[e2,Bi hg]at a;exact⟨e1,(FS hg a).symm,e2⟩
theorem LD(hg:2<=g){m:Nat}(hl:(d4.length:Int)=g^m){low:Int}{M:Nat}(n:Cj g lo d4 m low M):He g low (HU g lo d4 m low M) M lo d4 m:=λx hx=>EQ hg hl n.all hx
variable{lf:Int}{tf:qR}{mf:Nat}
theorem C4.alike(hg:2<=g){m:Nat}(hl:(d4.length:Int)=g^m)(fw:C4 g lo d4 m lf tf mf):He g lf tf mf lo d4 m/\(tf.length:Int)=g^mf:=by
 obtain⟨low,M,n,rfl,⟨rfl,rfl,rfl⟩|⟨h2,rfl,rfl⟩⟩:=fw
 ·refine⟨λx hx=>?_,Bi hg ..⟩;rw[QG hg (Bi hg ..) (Int.le_refl _) (by lia) hx];exact LD hg hl n x hx
 ·exact⟨LD hg hl n,Bi hg ..⟩
theorem MO(hg:2<=g){m:Nat}(hl:(d4.length:Int)=g^m){lo0:Int}{tab0:qR}{m0:Nat}(hl0:(tab0.length:Int)=g^m0)(al:He g lo d4 m lo0 tab0 m0)(fw:C4 g lo0 tab0 m0 lf tf mf):C4 g lo d4 m lf tf mf:=by
 refine byG λGq hGq=>?_;obtain⟨low0,M0,n0,rfl,z⟩:=fw;refine hGq ?_;clear hGq Gq;obtain⟨low,M,n⟩:=UY g lo d4 m;obtain⟨rfl,rfl,e⟩:=LC hg hl hl0 al n n0;refine⟨_,_,n,rfl,?_⟩;rcases z with⟨rfl,rfl,rfl⟩|⟨h2,rfl,rfl⟩
 ·exact .inl ⟨rfl,rfl,by rw[e]⟩
 ·exact .inr ⟨h2,rfl,e.symm⟩
theorem LF(hg:2<=g){m:Nat}(hl:(d4.length:Int)=g^m)(fw:C4 g lo d4 m lf tf mf):C4 g lf tf mf lf tf mf:=by obtain⟨al,tfl⟩:=fw.alike hg hl;exact MO hg tfl hl al fw
end L2
namespace L2
open PySem PySem.Spec PyProof.Rows
def GG(K:qQ)(J:It)(tt:TT)(te:TE)(σf:List (Option V))(D:qM)(Q:VK)(H:Hp):Prop:=∃W:Nat->Nat->List V->Hp->Prop,(∃n,W n 0 [] (Ai H D (.lst [])))/\∀n i d8 H2,W n i d8 H2 ->
 (J.stop i H2/\Q (.ref D) H2)\/(J.go i H2/\∃N:List V->Hp->Prop,(∀l H',N l H'->∃n',n'<n/\W n' (i+1) l H')/\∀v H3,J.yld i H2 v H3->∃(a:qM) (v1 v2:V),v=.ref a/\Ar K H3 a [v1,v2]/\tt (some v1::some v2::σf) H3 λb H4 =>
  if b=true then te (some v1::some v2::σf) H4 λy H5=>H5 D=some (.lst d8)/\d8.length<sizeLine/\N (d8++[y]) (Ai H5 D (.lst (d8++[y]))) else N d8 H4)
def UZ(K:qQ)(wi:TI)(fv:List (Nat×Str))(tt:TT)(te:TE):TE:=λσ H Q=>wi σ H λJ H1=>∀D,H1 D=none->GG K J tt te (IN σ fv) D Q H1
end L2
namespace PySem
section
variable{prog:qO}{w:qP}{A:Around}{s:qN}{R:Result->qN->Prop}
theorem compLoop_own{elt tg iter:Expr}{ifs:List Expr}{scope:Scope}{pos:Pos}{it d8:qL}{env:Env}(I:Nat->qN->Prop)
  (turn:∀n s,I n s->wpAny (model prog w) A (pyNext it) (λr s1=>match r with
   |none=>R (.ok .next) s1
   |some v=>wpAny (model prog w) A (letOwnedTupleGo tg it v) (λ_ s1b=>wpAny (model prog w) A (assign tg env v) (λ_ s2 =>
     wpAny (model prog w) A (forIn ifs true λc r=>if r=true then do let ok <-isTrue c env (eval c env);pure (ForInStep.yield ok) else pure (ForInStep.yield r)) (λok s3 =>
      if ok=true then wpAny (model prog w) A (eval elt env) (λx s4 =>
       wpAny (model prog w) A (call (.builtin "list.append") [d8,x]) (λ_ s5=>∃m,m<n/\I m s5) (notedBy (model prog w) A env λe s'=>R (.error e) s') s4) (notedBy (model prog w) A env λe s'=>R (.error e) s') s3
      else ∃m,m<n/\I m s3) (notedBy (model prog w) A env λe s'=>R (.error e) s') s2) (notedBy (model prog w) A env λe s'=>R (.error e) s') s1b) (notedBy (model prog w) A env λe s'=>R (.error e) s') s1) (notedBy (model prog w) A env λe s'=>R (.error e) s') s)
  (n:Nat) (h:I n s):codeAny (model prog w) A (.compLoop (.ListComp elt [⟨tg,iter,ifs,0⟩] scope pos) 0 it d8 env) R s:=by
 refine codeAny_loop rfl I (λn s hI=>?_) n h;show wpAny _ A ((compTurn (.ListComp elt [⟨tg,iter,ifs,0⟩] scope pos) 0 it d8 env).onRaise (λx=>do noteFrame x env;theTreesLotGoes x)) _ _ s;refine wpAny_noted ?_;rw[compTurn_list];refine qA (wpAny_standAt (qA (qH (turn n s hI) (λr s1 h1=>?_) λ_ _ h'=>h')));cases r with
 |none=>exact qB h1
 |some v =>
  refine qA (qH h1 (λ_ s1b h1b=>?_) λ_ _ h'=>h');refine qA (qH h1b (λ_ s2 h2=>qA (qH h2 (λok s3 h3=>?_) λ_ _ h'=>h')) λ_ _ h'=>h');cases ok with
  |false=>exact qB ⟨rfl,h3⟩
  |true =>
   exact qA (qA (qH h3 (λx s4 h4=>qA (qH h4 (λ_ s5 h5=>qB (qB ⟨rfl,h5⟩)) λ_ _ h'=>h')) λ_ _ h'=>h'))
end
end PySem
namespace L2
open PySem PySem.Spec PyProof.Rows
variable{C:qM}{E:qL->qN->Prop}{h1:Heap}
section
variable{X:Cx}{x x2:Str}{px px2 pt pos:Pos}{kt:Nat}{elt iter:Expr}{ifs:List Expr}{scope:Scope}{cl:List (Str×qM)}{fv:List (Nat×Str)}{wi:TI}{tt:TT}{te:TE}
 {ad:List (qM×Obj)} {σ:St} {H2:Hp} {s2:qN} {fp:List qM} {it:qM} {tn:Nat->Heap->Prop} {J:It}
theorem SI{D:qM}{t1:Nat}(I2:AX X ad σ H2 s2)(f2:∀b∈fp,En X ad H2 b)(o2:∀b∈fp,∃o,s2.heap.get? b=some o/\∀v,o.data≠.cell v)(hD:s2.heap.objs.size<=D)(hC:s2.heap.objs.size<=C)(hDC:D≠C)
  (old:∀b o,s2.heap.get? b=some o->h1.get? b=some o) (hl:h1.PlainList D #[]) (hn:h1.Ns C (λ_=>none)) (hk:scope.kind=.function) (hcl:Gc X.env cl)
  (hhas:((relabel scope X.env).names.all λz=>!(z.2==.cell||z.2==.free)||(cl.lookup z.1).isSome)=true) (hfv:HJ X scope cl fv):
  AX (Dz X s2 H2 (compEnvC scope cl C X.env) fp (x::x2::fv.map (·.2))) [] (none::none::IN σ fv) (Ai H2 D (.lst [])) {s2 with heap:=h1,toks:=t1} where
 ok:=P1 I2 f2 o2 hC hk hcl hhas
 os:=rfl
 bare:=I2.bare
 base:=Un.laid old hD (I2.hok.fresh hD)
 loc:=by
  refine⟨_,hn,λi y v h1' h2' _=>?_⟩;cases i with
  |zero=>cases h2'
  |succ i =>
   cases i with
   |zero=>cases h2'
   |succ i =>
   have h1':(fv.map (·.2))[i]?=some y:=h1';have h2':(IN σ fv)[i]?=some (some v):=h2'
   obtain⟨q,hq,e1⟩:∃q,fv[i]?=some q/\q.2=y:=by rw[ay]at h1';exact bH.mp h1'
   subst e1;refine byG λGq hGq=>?_;obtain⟨g1,g2,g3,g4⟩:=hfv.at' q (a8 hq);refine hGq ?_;clear hGq Gq;unfold IN at h2';rw[ay,hq]at h2';have e2:(σ[q.1]?).join=some v:=Option.some.inj h2'
   have e3:σ[q.1]?=some (some v):=by
    cases z:σ[q.1]? with
    |none=>rw[z]at e2;cases e2
    |some w=>rw[z]at e2;exact qK some e2
   obtain⟨m,_,lk⟩:=I2.loc;have g2:=Py g2;obtain⟨u,ru,lu⟩:=lk q.1 q.2 v g1 e3 (.inr g2);refine⟨u,ru,.inr ⟨g2.imp (λz=>g3.trans z) (λz=>g3.trans z),?_⟩⟩;obtain⟨c,hc⟩:=cK.mp g4;refine⟨c,hc,?_⟩;rcases lu with⟨kk,_⟩|⟨_,c',e',⟨o,eo,d⟩⟩
   ·rcases g2 with z|z<;>(rw[show X.env.kindOf q.2=_ from z]at kk;cases kk)
   ·have e4:=hcl.at' hc;rw[e']at e4;cases e4;exact⟨o,old c o eo,d⟩
 cell:=λy c h=>by refine byG λGq hGq=>?_;obtain⟨v,o,eo,d⟩:=I2.cell y c (hcl.at' h);refine hGq ?_;clear hGq Gq;exact⟨v,o,old c o eo,d⟩
 free:=by show Ai H2 D _ C=none;rw[AR (Ne.symm hDC)];exact I2.hok.fresh hC
 freeC:=λy c h=>by refine byG λGq hGq=>?_;obtain⟨v,o,eo,d⟩:=I2.cell y c (hcl.at' h);refine hGq ?_;clear hGq Gq;rw[AR (bA (am (ag eo) hD))];exact I2.freeC y c (hcl.at' h)
 pin:=λp hp=>nomatch hp
 hok:=I2.hok.laid old hD (by obtain⟨n,e⟩:=hl;exact⟨Nat.zero_le _,[],n,.nil,by simpa using e⟩)
 len:=by simp[IN,Dz]
theorem QQ{RR:qL->qM->Result->qN->Prop}{Q:VK}(hc:X.calm=true)(I2:AX X ad σ H2 s2)(T:IP X.prog X.w X.K (.Tuple [.Name x px,.Name x2 px2] kt pt) J fp it tn)(st2:tn 0 s2.heap)(f2:∀b∈fp,En X ad H2 b)
  (hcell:∀y∈scope.names,y.2≠.cell) (hk:scope.kind=.function) (hx:scope.names.lookup x=some .local) (hx2:scope.names.lookup x2=some .local) (hcl:Gc X.env cl) (hhas:((relabel scope X.env).names.all λz=>!(z.2==.cell||z.2==.free)||(cl.lookup z.1).isSome)=true) (hfv:HJ X scope cl fv) (hnd:(x::x2::fv.map (·.2)).Nodup)
  (hf:∀s H C fp,PF (Dz X s H (compEnvC scope cl C X.env) fp (x::x2::fv.map (·.2))) ifs tt) (he:∀s H C fp,PE (Dz X s H (compEnvC scope cl C X.env) fp (x::x2::fv.map (·.2))) elt te)
  (hw:∀D,H2 D=none->GG X.K J tt te (IN σ fv) D Q H2)
  (hRR:∀D C σ' H' s',s2.heap.objs.size<=C->AX (Dz X s2 H2 (compEnvC scope cl C X.env) fp (x::x2::fv.map (·.2))) [] σ' H' s'->Q (.ref D) H'->RR (.ref D) C (.ok .next) s'):
  wpAny (model X.prog X.w) X.A (newList []) (λd8 s3=>wpAny (model X.prog X.w) X.A (newFunctionEnv scope X.env.globals cl [] X.env.qual none .none (some X.env)) (λcenv s4 =>
   codeAny (model X.prog X.w) X.A (.compStart (.ListComp elt [⟨.Tuple [.Name x px,.Name x2 px2] kt pt,iter,ifs,0⟩] scope pos) 0 (.ref it) d8 {cenv with scope:=relabel scope X.env}) (RR d8 cenv.locals) s4) E s3) E s2:=by
 refine wpAny_newObj_type (wpAny_newFunctionEnv hcell (by intro y hy;simp at hy) (λh1 hns hsb=>?_) hk);dsimp only at hns hsb⊢;generalize hH:s2.heap.push {cls:=.type "list",dict:=none,data:=.seq ([]:List qL).toArray}=HH at hns hsb⊢;have eC:HH.objs.size=s2.heap.objs.size+1:=by rw[<-hH,bf]
 have hDC:s2.heap.objs.size≠HH.objs.size:=by rw[eC];exact bA (dH _)
 have hC:s2.heap.objs.size<=HH.objs.size:=by rw[eC];exact b8 _
 have old:∀b o,s2.heap.get? b=some o->h1.get? b=some o:=λb o e=>hsb.extBut b o (by rw[eC];exact bA (dB (ag e))) (aZ _ (hH▸aZ _ e))
 have hacc:h1.PlainList s2.heap.objs.size #[]:=⟨_,hsb.extBut _ _ hDC (aZ _ (hH▸aj _ rfl))⟩;have o2:=T.obj _ _ st2;refine byG λGq hGq=>?_;obtain⟨W,⟨n0,w0⟩,turn⟩:=hw s2.heap.objs.size (I2.hok.fresh (af _));refine hGq ?_;clear hGq Gq;generalize eD:s2.heap.objs.size=D at *;generalize eCC:HH.objs.size=C at *;have Ib:=SI (x:=x) (x2:=x2) (t1:=s2.toks+([]:List (Str×qL)).length) I2 f2 o2 (by rw[eD];exact af _) (by rw[eD];exact hC) hDC old hacc hns hk hcl hhas hfv;have st1:tn 0 h1:=T.keep _ _ _ st2 λb _ o e=>old b o e
 have nD:∀b∈fp,b≠D:=λb hb=>by obtain⟨o,e,_⟩:=o2 b hb;rw[<-eD];exact bA (ag e)
 have fr1:∀b∈fp,Ai H2 D (.lst []) b=none:=λb hb=>by rw[AR (nD b hb)];exact (f2 b hb).1
 have hxl:(relabel scope X.env).names.lookup x=some .local:=lookup_relabel_local hx;have hxl2:(relabel scope X.env).names.lookup x2=some .local:=lookup_relabel_local hx2
 have stat:∀{H':Hp},(∀b∈fp,H' b=none)->∀b∈fp,En (Dz X s2 H2 (compEnvC scope cl C X.env) fp (x::x2::fv.map (·.2))) [] H' b:=λhn b hb=>by obtain⟨o,e,_⟩:=o2 b hb;exact⟨hn b hb,λz=>qE (ag e) (by rw[z,eD];exact Nat.not_lt.mpr hC),λz=>(aw.mp (I2.stkSub b z)).elim (f2 b hb).2.1 (f2 b hb).2.2.1,.inl hb,λy c h=>(f2 b hb).2.2.2.2.1 y c (hcl.at' h),λq hq=>nomatch hq⟩
 have loop:codeAny (model X.prog X.w) X.A (.compLoop (.ListComp elt [⟨.Tuple [.Name x px,.Name x2 px2] kt pt,iter,ifs,0⟩] scope pos) 0 (.ref it) (.ref D) (compEnvC scope cl C X.env)) (RR (.ref D) C) {s2 with heap:=h1,toks:=s2.toks+([]:List (Str×qL)).length}:=by
  refine compLoop_own (λn s'=>∃i d8 σb H',AX (Dz X s2 H2 (compEnvC scope cl C X.env) fp (x::x2::fv.map (·.2))) [] σb H' s'/\σb.tail.tail=IN σ fv/\tn i s'.heap/\(∀b∈fp,H' b=none)/\W n i d8 H') ?_ n0 ⟨0,[],_,_,Ib,rfl,st1,fr1,w0⟩;intro n s3 hRq;refine byG λGq hGq=>?_;obtain⟨i,d8,σ3,H3,I3,t3,st3,fr3,w3⟩:=hRq;refine hGq ?_;clear hGq Gq;rcases turn n i d8 H3 w3 with⟨stop,qn⟩|⟨go,NN,hNN,step⟩
  ·refine A8 (T.done (Dz X s2 H2 (compEnvC scope cl C X.env) fp (x::x2::fv.map (·.2))) rfl rfl rfl hc i [] s3 σ3 H3 _ I3 (stat fr3) st3 stop) λr s4 q4=>?_;obtain⟨hr,I4⟩:=q4;subst hr;exact hRR D C σ3 H3 s4 hC I4 qn
  ·refine A8 (T.item (Dz X s2 H2 (compEnvC scope cl C X.env) fp (x::x2::fv.map (·.2))) rfl rfl rfl hc i [] s3 σ3 H3 _ I3 (stat fr3) st3 go) λr s4 q4=>?_;obtain⟨u,hr,h4⟩:=q4;subst hr;refine A8 h4 λ_ s5 q5=>?_;refine byG λGq hGq=>?_;obtain⟨v,H5,I5,r5,y5,st5,fr5⟩:=q5;refine hGq ?_;clear hGq Gq;have I5':=I5.pinned (stat fr5) (T.obj _ _ st5);have again:∀{σ7:St} {H7:Hp} {s7:qN},AX (Dz X s2 H2 (compEnvC scope cl C X.env) fp (x::x2::fv.map (·.2))) ([]++Fy fp s5.heap) σ7 H7 s7->tn (i+1) s7.heap/\∀b∈fp,H7 b=none:=λ{σ7 H7 s7} I7=>by refine⟨T.keep _ _ _ st5 λb hb o e=>(I7.pin (b,o) (bE _ (bE _ (CJ hb e)))).1,λb hb=>?_⟩;obtain⟨o,e,d⟩:=T.obj _ _ st5 b hb;exact (I7.pin (b,o) (bE _ (bE _ (CJ hb e)))).2.1
   refine byG λGq hGq=>?_;obtain⟨a5,v1,v2,rfl,hq5,step5⟩:=step v _ y5;refine hGq ?_;clear hGq Gq
   have sσ:(σ3.set 0 (some v1)).set 1 (some v2)=some v1::some v2::IN σ fv:=by
    have l3:=I3.len;rcases σ3 with _|⟨a,_|⟨b,r⟩⟩
    ·cases l3
    ·cases l3
    ·have z:r=IN σ fv:=t3;rw[z];rfl
   have hnd2:=b9.mp hnd;have g1:=Gh (X:=Dz X s2 H2 (compEnvC scope cl C X.env) fp (x::x2::fv.map (λq:Nat×Str=>q.2))) (pos:=px) (i:=0) (x:=x) hnd rfl (.inl hxl) (.inr hxl);have g2:=Gh (X:=Dz X s2 H2 (compEnvC scope cl C X.env) fp (x::x2::fv.map (λq:Nat×Str=>q.2))) (pos:=px2) (i:=1) (x:=x2) hnd rfl (.inl hxl2) (.inr hxl2);have g:=G3 (X:=Dz X s2 H2 (compEnvC scope cl C X.env) fp (x::x2::fv.map (λq:Nat×Str=>q.2))) (pos:=pt) (k:=kt) hc (Bs g1 (Bs g2 FF));refine wpAny_noRaise (A8 (g _ s5 σ3 H5 (.ref a5) u (λσ' H'=>σ'=some v1::some v2::IN σ fv/\H'=H5) I5' r5 ⟨a5,[v1,v2],rfl,hq5,rfl,v1,[v2],rfl,v2,[],rfl,rfl,sσ,rfl⟩) λ_ s6 q6=>?_);refine byG λGq hGq=>?_;obtain⟨σ6,H6,I6,rfl,rfl⟩:=q6;refine hGq ?_;clear hGq Gq;refine wpAny_noRaise (A8 (hf _ _ _ _ _ s6 _ _ _ I6 step5) λb s7 q7=>?_);obtain⟨H7,I7,q7⟩:=q7;cases b with
   |false =>
    rw[qC (by decide)]at q7⊢;obtain⟨n',hn',w7⟩:=hNN _ _ q7;exact⟨n',hn',i+1,d8,_,H7,I7.unpinned,rfl,(again I7).1,(again I7).2,w7⟩
   |true =>
    rw[qD rfl]at q7⊢;refine wpAny_noRaise (A8 (he _ _ _ _ _ s7 _ _ _ I7 q7) λyv s8 q8=>?_);refine byG λGq hGq=>?_;obtain⟨y,H8,I8,r8,e8,l8,q8⟩:=q8;refine hGq ?_;clear hGq Gq;obtain⟨n',hn',w8⟩:=hNN _ _ q8;refine wpAny_noRaise (A8 (F1 (X:=Dz X s2 H2 (compEnvC scope cl C X.env) fp (x::x2::fv.map (·.2))) _ s8 _ H8 (.ref D) [y] (.ref D) [yv] (λ_ H'=>H'=Ai H8 D (.lst (d8++[y]))) I8 rfl (.cons r8 .nil) ⟨D,d8,y,rfl,rfl,e8,l8,rfl⟩) λ_ s9 q9=>?_);refine byG λGq hGq=>?_;obtain⟨_,H9,I9,_,rfl⟩:=q9;refine hGq ?_;clear hGq Gq;exact⟨n',hn',i+1,d8++[y],_,_,I9.unpinned,rfl,(again I9).1,(again I9).2,w8⟩
 exact codeAny_compStart_list loop (T.self X.A 0 _ _ _ st1 loop)
theorem QR(hc:X.calm=true)(hi:PI X (.Tuple [.Name x px,.Name x2 px2] kt pt) iter wi)(hclos:closureFor scope X.env=pure cl)(hcell:∀y∈scope.names,y.2≠.cell)(hk:scope.kind=.function)(hnames:∀z∈scope.names,z.2=.local->scope.names.lookup z.1=some .local)
  (hx:scope.names.lookup x=some .local) (hx2:scope.names.lookup x2=some .local) (hcl:Gc X.env cl) (hhas:((relabel scope X.env).names.all λz=>!(z.2==.cell||z.2==.free)||(cl.lookup z.1).isSome)=true) (hfv:HJ X scope cl fv) (hnd:(x::x2::fv.map (·.2)).Nodup)
  (hf:∀s H C fp,PF (Dz X s H (compEnvC scope cl C X.env) fp (x::x2::fv.map (·.2))) ifs tt) (he:∀s H C fp,PE (Dz X s H (compEnvC scope cl C X.env) fp (x::x2::fv.map (·.2))) elt te)
  (hs:∀x,foldedSetIterable iter X.env x=pure x:=by intro _;rfl):PE X (.ListComp elt [⟨.Tuple [.Name x px,.Name x2 px2] kt pt,iter,ifs,0⟩] scope pos) (UZ X.K wi fv tt te):=by
 intro ad s σ H Q I h;rw[eval_ListComp];refine wpAny_comprehension_free (use:=none) rfl hs hclos hk hnames (A8 (hi ad s σ H _ I h) λv s1 h1=>A8 h1 λitv s2 h2=>?_);refine byG λGq hGq=>?_;obtain⟨it,fp,tn,J,H2,e,I2,T,st2,f2,hw⟩:=h2;refine hGq ?_;clear hGq Gq;subst e;refine QQ (RR:=λd8 C=>compPost (model X.prog X.w) X.A X.xe none (EP X ad σ Q) d8 C) hc I2 T st2 f2 hcell hk hx hx2 hcl hhas hfv hnd hf he hw λD C σ' H' s' hC Ib q=>?_;obtain⟨m,hn,_⟩:=Ib.loc;exact⟨m,hn,λh' sb=>⟨.ref D,H',AX.letGo I2 (HK I2 f2 Ib) hC Ib.free sb,rfl,q⟩⟩
end
end L2
namespace PySem
section
variable{prog:qO}{w:qP}{A:Around}{E:qL->qN->Prop}{s:qN}{it d:qM}{i ep:Nat}{od:Obj}{es:Array DictEntry}
theorem keys_item{Q:Option qL->qN->Prop}(hit:s.heap.IsKeyIter it d i es.size ep)(hod:s.heap.get? d=some od)(hdd:od.data=.dict es ep)(hlt:i<es.size)
  (hQ:∀h',h'.IsKeyIter it d (i+1) es.size ep->Heap.SameBut it s.heap h'->Q (some es[i].key) {s with heap:=h'}):wpAny (model prog w) A (pyNext (.ref it)) Q E s:=by
 obtain⟨o,ho,hc,hd⟩:=id hit;have T:=hit.typeIs;unfold pyNext;refine qA (wpAny_attempt (wpAny_callSpecial?_slot (name:=Str.ofString "__next__") T F.slot_dict_keyiterator_next (wpAny_call_entry F.slot_dict_keyiterator_next T F.entry_dict_keyiterator_next ?_ (F.args_dict_keyiterator_next_1 _))));refine qA (qB (qA (qA ?_)));refine qA (wpAny_typeNameOfWhole_keyiter T (qB (qA (wpAny_fieldsOf ho hd ?_))));rw[show (if Builtin.Dict_items.ownsTuple "dict_keyiterator"=true then 2 else 0)=0 from qC (by decide)];show wpAny _ _ (if (Value.ref d==.none)=true then _ else _) _ _ s;rw[qC (show ¬((Value.ref d==.none)=true) from ap)];refine qA (qB (qA (wpAny_dictEntries hod hdd ?_)));rw[qC (by simp)];refine qA (qB (qA (wpAny_dictEpoch hod hdd ?_)));rw[qC (by simp)];refine qB ?_;simp only[show ¬((i:Int)<0) by lia,if_false,Int.toNat_natCast,Array.getElem?_eq_getElem hlt];refine qA (qA (wpAny_typeNameOfWhole_keyiter T (qB (qA (wpAny_isOneOf_keyiter T ?_)))));show wpAny _ _ (setField (.ref it) 1 (rawInt ((i:Int)+1)) >>= _) _ _ s;have hit':(s.heap.update it (Obj.mapFields (·.setIfInBounds 1 (rawInt ((i:Int)+1))))).IsKeyIter it d (i+1) es.size ep:=⟨_,Heap.get?_update_self _ ho (Obj.isFreed_of_fields (Obj.data_mapFields hd _)),(Obj.cls_mapFields ..).trans hc,by rw[Obj.data_mapFields hd];simp[rawInt]⟩;refine qA (wpAny_setField ho hd (by simp) (qA (qJ (qA (wpAny_isOneOf_keyiter (s:={s with heap:=s.heap.update it (Obj.mapFields (·.setIfInBounds 1 (rawInt ((i:Int)+1))))}) hit'.typeIs ?_)))));show wpAny _ _ (pure es[i].key) _ _ _;exact qB (qB ⟨_,rfl,qB (hQ _ hit' (Heap.SameBut.update ..))⟩)
theorem keys_end{Q:Option qL->qN->Prop}(hh:A.handled=none)(hit:s.heap.IsKeyIter it d i es.size ep)(hod:s.heap.get? d=some od)(hdd:od.data=.dict es ep)(hge:es.size<=i)
  (hQ:∀h',Heap.ExtBut it s.heap h'->Q none {s with heap:=h'}):wpAny (model prog w) A (pyNext (.ref it)) Q E s:=by
 obtain⟨o,ho,hc,hd⟩:=id hit;have T:=hit.typeIs;unfold pyNext;refine qA (wpAny_attempt (wpAny_callSpecial?_slot (name:=Str.ofString "__next__") T F.slot_dict_keyiterator_next (wpAny_call_entry F.slot_dict_keyiterator_next T F.entry_dict_keyiterator_next ?_ (F.args_dict_keyiterator_next_1 _))));refine qA (qB (qA (qA ?_)));refine qA (wpAny_typeNameOfWhole_keyiter T (qB (qA (wpAny_fieldsOf ho hd ?_))));rw[show (if Builtin.Dict_items.ownsTuple "dict_keyiterator"=true then 2 else 0)=0 from qC (by decide)];show wpAny _ _ (if (Value.ref d==.none)=true then _ else _) _ _ s;rw[qC (show ¬((Value.ref d==.none)=true) from ap)];refine qA (qB (qA (wpAny_dictEntries hod hdd ?_)));rw[qC (by simp)];refine qA (qB (qA (wpAny_dictEpoch hod hdd ?_)));rw[qC (by simp)];refine qB ?_;simp only[show ¬((i:Int)<0) by lia,if_false,Int.toNat_natCast,Array.getElem?_eq_none hge];refine qA (qA (wpAny_typeNameOfWhole_keyiter T (qB ?_)));show wpAny _ _ (setField (.ref it) 0 .none >>= _) _ _ s;refine qA (wpAny_setField ho hd (by simp) ?_);show wpAny _ _ (newExc (.type "StopIteration") [] >>= _) _ _ _;refine qA ?_;simp only[newExc,newTuple];refine qA (wpAny_newObj_type (qA (m:=firstArgMember _ _) (wpAny_of_eq (a:=Value.none) (by first|rfl|(simp only[firstArgMember];rfl)) (wpAny_newObj_type ?_ (by size_fits)))) (by size_fits));unfold raiseNew;refine qA (wpAny_handled ?_);rw[show A.in1.handled=none from hh];refine qA (qB (wpAny_throw ?_));exact qA (wpAny_isInstance (T:="StopIteration") (b:=true) ⟨_,aj _ rfl,rfl⟩ isSubtype_stop (qB (hQ _ (((Heap.SameBut.update ..).extBut.push _).push _))))
theorem keys_iter{Q:qL->qN->Prop}(hm:(d==sysModules)=false)(hT:s.TypeIs (.ref d) "dict")(hod:s.heap.get? d=some od)(hdd:od.data=.dict es ep)
  (hQ:Q (.ref s.heap.objs.size) {s with heap:=s.heap.push {cls:=.type "dict_keyiterator",data:=.fields #[.ref d,.int 0 0,.int es.size 0,.int ep 0]}}):wpAny (model prog w) A (pyIter (.ref d)) Q E s:=by
 refine wpAny_pyIter_slot hT F.slot_dict_iter (wpAny_call_entry F.slot_dict_iter hT F.entry_dict_iter ?_ (F.args_dict_iter_1 _));unfold Builtin.«dict.__iter__»;refine qA ?_;unfold Builtin.Dict.dictSlotNone;refine qA (wpAny_notOrdered_dict hT ?_);show wpAny _ _ (pure (Value.ref d)) _ _ s;refine qB ?_;show wpAny _ _ (Builtin.Dict.showsAll d >>= _) _ _ s;unfold Builtin.Dict.showsAll;rw[qC (by rw[hm];exact ap)];refine qA (qB (qA (wpAny_dictEntries hod hdd (qA (wpAny_dictEpoch hod hdd ?_)))));exact qA (wpAny_newObj_type (qB ⟨_,rfl,"dict_keyiterator",_,⟨_,Heap.get?_push_size _ rfl,rfl⟩,F.slot_dict_keyiterator_next.lookup,by simpa [rawInt] using hQ⟩))
end
end PySem
namespace L2
open PySem PySem.Spec PyProof.Rows
variable{E Q:qL->qN->Prop}{H H':Hp}{X:Cx}{a:qM}{h h' h1:Heap}{kvs:List (List BQ×V)}{ad:List (qM×Obj)}{s:qN}{t':Nat}{tg:Expr}{u:qL}{xs:List V}{y:V}{α β:Type}{σ:St}
theorem BS{F:α->β->Prop}:∀{l₁:List α} {l₂:List β} {i:Nat} {x:α},Paired F l₁ l₂->l₁[i]?=some x->∃y,l₂[i]?=some y/\F x y
 |_,_,_,_,.nil,e=>by simp at e
 |_,_,0,_,.cons r _,e=>by simp at e;subst e;exact⟨_,rfl,r⟩
 |_,_,i+1,x,.cons _ t,e=>by obtain⟨u,h1,h2⟩:=BS (i:=i) (x:=x) t (by simpa using e);exact⟨u,by simpa using h1,h2⟩
variable{d:qM}
theorem AX.freeze{u:HO}(I:AX X ad σ H s)(e:H d=some u)(nt:∀ys,u≠.tup ys)(nf:∀o v,u≠.frz o v)(nb:∀ps,u≠.tbl ps)(no:∀x,u≠.own x){o:Obj}(ho:s.heap.get? d=some o):AX X ad σ (Ai H d (.frz o u)) s:=
 have up:∀{b:qM} {v:HO},H b=some v->v≠u->Ai H d (.frz o u) b=some v:=λ{b v} z n=>by rw[AR λy=>n (by rw[y,e]at z;exact (Option.some.inj z).symm)];exact z
 have un:∀{b:qM},H b=none->Ai H d (.frz o u) b=none:=λ{b} z=>by rw[AR λy=>by rw[y,e]at z;cases z];exact z
 {I with
  base:=⟨I.base.keep,I.base.slot,λb ob q n hx=>un (I.base.free b ob q n hx),I.base.there,λb xs q=>up (I.base.tups b xs q) λz=>nt _ z.symm,λb ob v q=>up (I.base.frzs b ob v q) λz=>nf _ _ z.symm,λb ps q=>by obtain⟨m,z⟩:=I.base.tbls b ps q;exact⟨m,up z λy=>nb _ y.symm⟩⟩
  free:=un I.free
  freeC:=λx c q=>un (I.freeC x c q)
  pin:=λp hp=>⟨(I.pin p hp).1,un (I.pin p hp).2.1,(I.pin p hp).2.2⟩
  hok:=λb v q=>by
   have st:∀{b:qM} {v:HO},H b=some v->An X.prog X.w (Ai H d (.frz o u)) s.heap b v:=λ{b v} q=>(I.hok b v q).stay (λ_ _ _ z=>z) (λc z=>up z λy=>no _ y.symm) λc xs z=>up z λy=>nt _ y.symm
   by_cases hb:b=d
   ·subst hb;rw[AF]at q;cases q;exact⟨ho,st e⟩
   ·rw[AR hb]at q;exact st q}
theorem Ua{u:HO}(e:H d=some u):Ai H d u=H:=funext λb=>by
 by_cases z:b=d
 ·subst z;rw[AF,e]
 ·rw[AR z]
theorem W8{P:qO}{w:qP}{k:BQ}(h:(A6 P w).is k u=true):Av (kV k) u:=by
 rcases BG h with⟨i,t,e1,e2⟩|⟨x,t,e1,e2⟩
 ·subst e1 e2;exact⟨_,rfl⟩
 ·subst e1 e2;exact⟨_,rfl⟩
abbrev NM:=List BQ×qM×V
noncomputable def Hm(p:NM):List BQ×V:=(p.1,p.2.2)
def E3(p:NM)(q:List BQ×qM×qL):Prop:=p.1=q.1/\p.2.1=q.2.1/\Av p.2.2 q.2.2
def SJ(P:qO)(w:qP)(d:qM)(bs:List NM)(h:Heap):Prop:=bs.length<=sizeLine/\(d==sysModules)=false/\∃xs:List (List BQ×qM×qL),Paired E3 bs xs /\
 ∃o es ep,h.get? d=some o/\o.ExactDict/\o.data=.dict es ep/\es.toList=xs.map (entryOfKey (tupleKind (A6 P w)))/\(xs.map (·.1)).Nodup
noncomputable def RJ(P:qO)(w:qP)(d:qM)(bs:List NM):HO:=.ext (SJ P w d bs)
def QS(K:qQ)(H:Hp)(bs:List NM):Prop:=∀p∈bs,Ar K H p.2.1 (p.1.map kV)
def DW(P:qO)(w:qP)(K:qQ)(H:Hp)(d:qM)(kvs:List (List BQ×V)):Prop:=∃bs,H d=some (RJ P w d bs)/\bs.map Hm=kvs/\QS K H bs
def DR(P:qO)(w:qP)(K:qQ)(H:Hp)(d:qM)(u:HO)(kvs:List (List BQ×V)):Prop:=∃bs,H d=some u/\(u=RJ P w d bs\/∃o,u=.frz o (RJ P w d bs))/\bs.map Hm=kvs/\QS K H bs
section
variable{P:qO}{w:qP}{K:qQ}{u:HO}
theorem Ar.same'(e:AJ H H')(q:Ar K H a xs):Ar K H' a xs:=q.imp (λz=>z.imp (e _ _) λ⟨o,z⟩=>⟨o,e _ _ z⟩) id
theorem DR.same(e:AJ H H')(r:DR P w K H d u kvs):DR P w K H' d u kvs:=by obtain⟨bs,h1,h2,h3,h4⟩:=r;exact⟨bs,e _ _ h1,h2,h3,λp hp=>(h4 p hp).same' e⟩
theorem DW.same(e:AJ H H')(r:DW P w K H d kvs):DW P w K H' d kvs:=by obtain⟨bs,h1,h3,h4⟩:=r;exact⟨bs,e _ _ h1,h3,λp hp=>(h4 p hp).same' e⟩
theorem DW.r(r:DW P w K H d kvs):∃u,DR P w K H d u kvs:=by obtain⟨bs,h1,h3,h4⟩:=r;exact⟨_,bs,h1,.inl rfl,h3,h4⟩
theorem E3.val{bs:List NM}{xs:List (List BQ×qM×qL)}(r:Paired E3 bs xs)(k:List BQ):DP (BY (bs.map Hm) k) ((atKey xs k).map (·.2)):=by
 induction r with
 |nil=>exact True.intro
 | @cons p q ps qs hh t ih =>
  obtain⟨h1,_,h2⟩:=hh
  by_cases e:p.1=k
  ·have e':q.1=k:=h1.symm.trans e;have b:atKey (q::qs) k=some q.2:=by simp[atKey,List.find?_cons,e']
   rw[bF,C0 (show (Hm p).1=k from e),b];exact h2
  ·have e':¬q.1=k:=λz=>e (h1.trans z)
   have b:atKey (q::qs) k=atKey qs k:=by simp[atKey,List.find?_cons,e']
   rw[bF,C1 (show ¬(Hm p).1=k from e),b];exact ih
end
section
variable{b:qM}{u:HO}{k:List BQ}
theorem Dr(I:AX X ad σ H s)(q:Ar X.K H b (k.map kV)):(tupleKind (A6 X.prog X.w)).is s.heap k b:=by obtain⟨its,rv,p,hz⟩:=I.tuple q;obtain⟨o,h1,h2,n,h3⟩:=p;exact⟨o,its.toArray,n,h1,h2,h3,by simpa using GF rv⟩
theorem DR.at(I:AX X ad σ H s)(r:DR X.prog X.w X.K H d u kvs):∃bs xs,bs.map Hm=kvs/\QS X.K H bs/\Paired E3 bs xs/\bs.length<=sizeLine/\(d==sysModules)=false/\s.heap.DictOfH (tupleKind (A6 X.prog X.w)) d xs:=by
 refine byG λGq hGq=>?_;obtain⟨bs,h1,h2,h3,h4⟩:=r;refine hGq ?_;clear hGq Gq
 have ok:SJ X.prog X.w d bs s.heap:=by
  rcases h2 with e|⟨o,e⟩
  ·subst e;exact (show An X.prog X.w H s.heap d (.ext _) from I.hok d _ h1).1
  ·subst e;exact (show An X.prog X.w H s.heap d (.ext _) from (show An X.prog X.w H s.heap d (.frz o _) from I.hok d _ h1).2).1
 refine byG λGq hGq=>?_;obtain⟨z,hd,xs,rel,o,es,ep,e1,e2,e3,e4,e5⟩:=ok;refine hGq ?_;clear hGq Gq;refine⟨bs,xs,h3,h4,rel,z,hd,o,es,ep,e1,e2,e3,e4,λx hx=>?_,e5⟩;obtain⟨i,hi⟩:=bT.mp hx;have hl:=Paired.length rel;have hi':=(ae.mp hi).1;refine byG λGq hGq=>?_;obtain⟨y,hy,r1,r2,_⟩:=BS rel (i:=i) (x:=bs[i]) (by simp[show i<bs.length by lia]);refine hGq ?_;clear hGq Gq;rw[hi]at hy;cases hy;rw[<-r1,<-r2];exact Dr I (h4 _ (cp _))
variable{A:Around}{v:V}
theorem Oj(hu:A.units+1<cLine)(I:AX X ad σ H s)(r:DR X.prog X.w X.K H d u kvs)(q:Ar X.K H b (k.map kV))(l:BY kvs k=some v)(h:∀w' s',AX X ad σ H s'->Av v w'->Q w' s'):
  wpAny (model X.prog X.w) A (getItem (.ref d) (.ref b)) Q E s:=by
 obtain⟨bs,xs,h3,h4,rel,z,hd,dd⟩:=r.at I;obtain⟨w',hw,rw'⟩:=DP.some_of (v:=v) (o:=(atKey xs k).map (·.2)) (by rw[<-l,<-h3];exact E3.val rel k);obtain⟨p,hp,hp2⟩:=bH.mp hw;refine wpAny_getItem_heap (tupleKind_room_in1 hu) (Dr I q) dd hp ?_;rw[hp2];exact h w' _ (I.tok _) rw'
theorem Zl(hu:A.units+1<cLine)(I:AX X ad σ H s)(r:DR X.prog X.w X.K H d u kvs)(q:Ar X.K H b (k.map kV))(h:∀s',AX X ad σ H s'->Q (.bool (BY kvs k).isSome) s'):
  wpAny (model X.prog X.w) A (compareOp .In (.ref b) (.ref d)) Q E s:=by
 refine byG λGq hGq=>?_;obtain⟨bs,xs,h3,h4,rel,z,hd,dd⟩:=r.at I;refine hGq ?_;clear hGq Gq;refine wpAny_in_heap (tupleKind_room_in1 hu) (Dr I q) hd dd ?_;have q:=(E3.val rel k).isSome_eq;rw[cZ,h3]at q;rw[<-q];exact h _ (I.tok _)
theorem SK(hu:A.units+1<cLine)(I:AX X ad σ H s)(r:DR X.prog X.w X.K H d u kvs)(q:Ar X.K H b (k.map kV))(h:∀s',AX X ad σ H s'->Q (.bool (!(BY kvs k).isSome)) s'):
  wpAny (model X.prog X.w) A (compareOp .NotIn (.ref b) (.ref d)) Q E s:=by
 obtain⟨bs,xs,h3,h4,rel,z,hd,dd⟩:=r.at I;refine wpAny_notIn_heap (tupleKind_room_in1 hu) (Dr I q) hd dd ?_;have q:=(E3.val rel k).isSome_eq;rw[cZ,h3]at q;rw[<-q];exact h _ (I.tok _)
end
noncomputable def LG(bs:List NM)(k:List BQ)(b:qM)(v:V):List NM:=if (bs.any λp=>decide (p.1=k))=true then bs.map (λp=>if p.1=k then (p.1,p.2.1,v) else p) else bs++[(k,b,v)]
theorem NO(bs:List NM)(k:List BQ)(b:qM)(v:V):(LG bs k b v).map Hm=CF (bs.map Hm) k v:=by
 unfold LG CF;have e:((bs.map Hm).any λkv=>decide (kv.1=k))=bs.any λp=>decide (p.1=k):=by rw[List.any_map];rfl
 rw[e]
 by_cases z:(bs.any λp=>decide (p.1=k))=true
 ·rw[qD z,qD z,dU,dU];refine cB λp _=>?_;show Hm (if p.1=k then (p.1,p.2.1,v) else p)=if (Hm p).1=k then ((Hm p).1,v) else Hm p
  by_cases y:p.1=k
  ·rw[qD y,qD (show (Hm p).1=k from y)];rfl
  ·rw[qC y,qC (show ¬(Hm p).1=k from y)]
 ·rw[qC z,qC z,az];rfl
theorem E3.put{bs:List NM}{xs:List (List BQ×qM×qL)}(r:Paired E3 bs xs)(k:List BQ)(b:qM)(ry:Av y u):Paired E3 (LG bs k b y) (storedH xs k b u):=by
 have e:(bs.any λp=>decide (p.1=k))=(atKey xs k).isSome:=by have q:=(E3.val r k).isSome_eq;rw[cZ]at q;rw[<-q,<-Fg,List.any_map];rfl
 unfold LG storedH;rw[e]
 by_cases q:(atKey xs k).isSome=true
 ·rw[qD q,qD q];clear e q
  induction r with
  |nil=>exact .nil
  | @cons p q ps qs hh t ih =>
   rw[bF,bF];refine .cons ?_ ih;obtain⟨h1,h2,h3⟩:=hh;unfold putAt
   by_cases e:p.1=k
   ·rw[qD e,qD (h1.symm.trans e)];exact⟨h1,h2,ry⟩
   ·rw[qC e,qC (λz=>e (h1.trans z))];exact⟨h1,h2,h3⟩
 ·rw[qC q,qC q];exact Paired.snoc r ⟨rfl,rfl,ry⟩
theorem QT{bs:List NM}{k:List BQ}{b:qM}{v:V}{p:NM}(h:p∈LG bs k b v):(∃q∈bs,p.1=q.1/\p.2.1=q.2.1)\/(p.1=k/\p.2.1=b):=by
 unfold LG at h
 split at h
 ·obtain⟨q,hq,e⟩:=bL.mp h;refine .inl ⟨q,hq,?_⟩
  by_cases z:q.1=k
  ·rw[qD z]at e;subst e;exact⟨rfl,rfl⟩
  ·rw[qC z]at e;subst e;exact⟨rfl,rfl⟩
 ·rcases ar.mp h with z|z
  ·exact .inl ⟨p,z,rfl,rfl⟩
  ·rw[ak.mp z];exact .inr ⟨rfl,rfl⟩
theorem SJ.stay{P:qO}{w:qP}{bs:List NM}{h2:Heap}(x:SJ P w d bs h1)(k:∀o,h1.get? d=some o->h2.get? d=some o):SJ P w d bs h2:=by refine byG λGq hGq=>?_;obtain⟨z,hd,xs,rel,o,es,ep,e1,e2⟩:=x;refine hGq ?_;clear hGq Gq;exact⟨z,hd,xs,rel,o,es,ep,k _ e1,e2⟩
theorem Ar.upd'{K:qQ}{φ:Heap->Prop}{u:HO}(hd:H d=some (.ext φ))(q:Ar K H a xs):Ar K (Ai H d u) a xs:=by
 rcases q with (z|⟨o,z⟩)|z
 ·exact .inl (.inl (by rw[AR (Eg z hd λy=>nomatch y)];exact z))
 ·exact .inl (.inr ⟨o,by rw[AR (Eg z hd λy=>nomatch y)];exact z⟩)
 ·exact .inr z
section
variable{b:qM}{k:List BQ}{A:Around}{v:V}{r:qL}
theorem DW.put(I:AX X ad σ H s){bs:List NM}{xs:List (List BQ×qM×qL)}(h1:H d=some (RJ X.prog X.w d bs))(h4:QS X.K H bs)(rel:Paired E3 bs xs)(hd:(d==sysModules)=false)(q:Ar X.K H b (k.map kV))(hz:(bs.map Hm).length<sizeLine)(rv:Av v r)
  (dd':h'.DictOfH (tupleKind (A6 X.prog X.w)) d (storedH xs k b r)) (sb:Heap.SameBut d s.heap h'):∃u',DW X.prog X.w X.K (Ai H d u') d (CF (bs.map Hm) k v)/\AX X ad σ (Ai H d u') {s with heap:=h',toks:=t'}:=by
 have hl:(LG bs k b v).length<=sizeLine:=by have a:=EJ (bs.map Hm) k v;rw[<-NO bs k b v,aW]at a;lia
 refine byG λGq hGq=>?_;obtain⟨o,es,ep,g1,g2,g3,g4,_,g5⟩:=dd';refine hGq ?_;clear hGq Gq;refine⟨RJ X.prog X.w d (LG bs k b v),⟨_,AF,NO ..,λp hp=>?_⟩,J9 I (by rw[h1];exact True.intro) sb ⟨o,g1⟩ ⟨⟨hl,hd,_,E3.put rel k b rv,o,es,ep,g1,g2,g3,g4,g5⟩,⟨o,g1⟩,λh1 h2 x k=>SJ.stay x k⟩⟩;rcases QT hp with⟨p',hp',e1,e2⟩|⟨e1,e2⟩
 ·rw[e1,e2];exact (h4 p' hp').upd' h1
 ·rw[e1,e2];exact q.upd' h1
theorem DW.at(I:AX X ad σ H s)(w:DW X.prog X.w X.K H d kvs):∃bs xs,H d=some (RJ X.prog X.w d bs)/\bs.map Hm=kvs/\QS X.K H bs/\Paired E3 bs xs/\xs.length<=sizeLine/\(d==sysModules)=false/\s.heap.DictOfH (tupleKind (A6 X.prog X.w)) d xs:=by refine byG λGq hGq=>?_;obtain⟨bs,h1,h3,h4⟩:=w;refine hGq ?_;clear hGq Gq;refine byG λGq hGq=>?_;obtain⟨z,hd,xs,rel,o,es,ep,e1,e2,e3,e4,e5⟩:=(show An X.prog X.w H s.heap d (.ext _) from I.hok d _ h1).1;refine hGq ?_;clear hGq Gq;refine⟨bs,xs,h1,h3,h4,rel,by rw[<-Paired.length rel];exact z,hd,o,es,ep,e1,e2,e3,e4,λx hx=>?_,e5⟩;obtain⟨i,hi⟩:=bT.mp hx;have hl:=Paired.length rel;have hi':=(ae.mp hi).1;refine byG λGq hGq=>?_;obtain⟨y,hy,r1,r2,_⟩:=BS rel (i:=i) (x:=bs[i]) (by simp[show i<bs.length by lia]);refine hGq ?_;clear hGq Gq;rw[hi]at hy;cases hy;rw[<-r1,<-r2];exact Dr I (h4 _ (cp _))
theorem Ol{Q:Unit->qN->Prop}(hu:A.units+1<cLine)(I:AX X ad σ H s)(w:DW X.prog X.w X.K H d kvs)(q:Ar X.K H b (k.map kV))(hz:kvs.length<sizeLine)(rv:Av v r)(h:∀u' s',DW X.prog X.w X.K (Ai H d u') d (CF kvs k v)->AX X ad σ (Ai H d u') s'->Q () s'):
  wpAny (model X.prog X.w) A (setItem (.ref d) (.ref b) r) Q E s:=by
 refine byG λGq hGq=>?_;obtain⟨bs,xs,h1,h3,h4,rel,hl,hd,dd⟩:=w.at I;refine hGq ?_;clear hGq Gq;subst h3;refine wpAny_setItem_heap (hsz:=hl) (tupleKind_room_in1 hu) (Dr I q) dd λh' dd' sb=>?_;obtain⟨u',w',I'⟩:=DW.put (t':=s.toks+(tupleKind (A6 X.prog X.w)).draws k) I h1 h4 rel hd q hz rv dd' sb;exact h u' _ w' I'
end
end L2
namespace PySem
section
variable{prog:qO}{w:qP}{A:Around}{E:qL->qN->Prop}{s:qN}{d:qM}{o:Obj}{es:Array DictEntry}{ep:Nat}
theorem meets_lenR(hd:(d==sysModules)=false):MeetsIn prog w (Builtin.«dict.__len__» ⟨[.ref d],[]⟩) (λ_ R s=>∃o es ep,s.heap.get? d=some o/\o.data=.dict es ep/\R (.ok (.ret (.int es.size s.toks))) {s with toks:=s.toks+1}):=
 .of_wp λA R s ⟨o,es,ep,ho,hdat,h⟩=>by show wpAny _ _ (dictSize d >>= _) _ _ s;unfold dictSize;refine qA (qA (wpAny_dictEntries ho hdat (qB ?_)));show wpAny _ _ (Builtin.Dict.pendingCount d >>= _) _ _ s;refine qA (wpAny_pendingCount_other hd (wpAny_ret_mkInt ?_));rw[Nat.add_zero];exact h
theorem len_dictR{Q:qL->qN->Prop}(hd:(d==sysModules)=false)(hT:s.TypeIs (.ref d) "dict")(ho:s.heap.get? d=some o)(hdat:o.data=.dict es ep)(hfit:(es.size:Int)<2^63)
  (h:Q (.int es.size (s.toks+1)) {s with toks:=s.toks+1+1}):wpAny (model prog w) A (call (.builtin "len") [.ref d]) Q E s:=by
 refine Calls.call_function_entry kind_len plain_len entry_len (args_len1 _) ?_;unfold Builtin.«len»
 refine qA (m:=oneArg "len" _) (qB (qA (m:=callSpecial? (.ref d) (Str.ofString "__len__")) (wpAny_callSpecial?_slot (name:=Str.ofString "__len__") hT F.slot_dict_len
  (call_meetsIn F.slot_dict_len hT F.entry_dict_len (F.args_dict_len_1 _) (meets_lenR hd) ⟨o,es,ep,ho,hdat,?_⟩))))
 show wpAny _ _ _ _ _ {s with toks:=s.toks+1};refine qA (qJ (qB (qA (wpAny_letGo ?_))));show wpAny _ _ (if ((es.size:Nat):Int)<0 then _ else _) _ _ _;rw[qC (by lia)];show wpAny _ _ (if ((es.size:Nat):Int)≥2^63 then _ else _) _ _ _;rw[qC (by lia)];exact qA (wpAny_mkInt (qB ⟨_,rfl,h⟩))
end
end PySem
namespace L2
open PySem PySem.Spec PyProof.Rows
variable{D:G1}{H:Hp}{X:Cx}{a d it:qM}{es:List Expr}{kvs:List (List BQ×V)}{name:Str}{pos:Pos}{te tl:TE}{tg:Expr}{tt:TT}{σ:St}{σf:List (Option V)}
section
variable(P:qO)(w:qP)(K:qQ)
def TN(td ty:TE):TE:=λσ H Q=>td σ H λx H1=>ty σ H1 λy H2=>∃(d b:qM) (u:HO) (kvs:List (List BQ×V)) (k:List BQ) (v:V),x=.ref d/\y=.ref b/\DR P w K H2 d u kvs/\Ar K H2 b (k.map kV)/\BY kvs k=some v/\Q v H2
def W9(ty td:TE):TE:=λσ H Q=>ty σ H λy H1=>td σ H1 λx H2=>∃(d b:qM) (u:HO) (kvs:List (List BQ×V)) (k:List BQ),x=.ref d/\y=.ref b/\DR P w K H2 d u kvs/\Ar K H2 b (k.map kV)/\Q (.bl (BY kvs k).isSome) H2
def NP(ty td:TE):TE:=λσ H Q=>ty σ H λy H1=>td σ H1 λx H2=>∃(d b:qM) (u:HO) (kvs:List (List BQ×V)) (k:List BQ),x=.ref d/\y=.ref b/\DR P w K H2 d u kvs/\Ar K H2 b (k.map kV)/\Q (.bl (!(BY kvs k).isSome)) H2
def TQ(td ty tv:TE):TS:=λD σ H=>tv σ H λv H1=>td σ H1 λx H2=>ty σ H2 λy H3=>∃(d b:qM) (kvs:List (List BQ×V)) (k:List BQ),x=.ref d/\y=.ref b/\DW P w K H3 d kvs/\Ar K H3 b (k.map kV)/\kvs.length<sizeLine/\∀u',DW P w K (Ai H3 d u') d (CF kvs k v)->D.nx σ (Ai H3 d u')
def TR:TE:=λ_ H Q=>∀p u',H p=none->DW P w K (Ai H p u') p []->Q (.ref p) (Ai H p u')
noncomputable def WH(d:qM)(u:HO)(kvs:List (List BQ×V)):It:=
 ⟨λi H=>DR P w K H d u kvs/\i<kvs.length,λi H x H'=>H'=H/\∃(b:qM) (k:List BQ) (v:V),x=.ref b/\kvs[i]?=some (k,v)/\Ar K H b (k.map kV),λi H=>DR P w K H d u kvs/\kvs.length<=i⟩
def QU(tl:TE):TI:=λσ H R=>tl σ H λx H1=>∃(d:qM) (u:HO) (kvs:List (List BQ×V)),x=.ref d/\DR P w K H1 d u kvs/\∀u',DR P w K (Ai H1 d u') d u' kvs->R (WH P w K d u' kvs) (Ai H1 d u')
end
section
variable{o i value:Expr}{pos':Pos}{td ty tv:TE}
theorem SL(hu:X.A.units+1<cLine)(ho:PE X o td)(hi:PE X i ty)(hs:QN i):PE X (.Subscript o i pos) (TN X.prog X.w X.K td ty):=by intro ad s σ H Q I h;refine KA cg.lookup hs (A8 (ho ad s σ H _ I h) λu s1 z=>?_);refine byG λGq hGq=>?_;obtain⟨x,H1,I1,rx,q1⟩:=z;refine hGq ?_;clear hGq Gq;refine A8 (hi ad s1 σ H1 _ I1 q1) λiv s2 z=>?_;refine byG λGq hGq=>?_;obtain⟨y,H2,I2,ry,d,b,uu,kvs,k,v,ex,ey,r,q,l,q2⟩:=z;refine hGq ?_;clear hGq Gq;subst ex ey;cases rx;cases ry;refine byG λGq hGq=>?_;obtain⟨bs,xs,_,_,_,_,_,dd⟩:=r.at I2;refine hGq ?_;clear hGq Gq;exact⟨dd.typeIs,Oj hu I2 r q l λw' s3 I3 rw'=>⟨v,H2,I3,rw',q2⟩⟩
theorem Ub(hu:X.A.units+1<cLine)(hi:PE X i ty)(ho:PE X o td):PC X .In i o (W9 X.prog X.w X.K ty td):=by intro ad s σ H Q I h;refine A8 (hi ad s σ H _ I h) λiv s1 z=>?_;obtain⟨y,H1,I1,ry,q1⟩:=z;refine A8 (ho ad s1 σ H1 _ I1 q1) λu s2 z=>?_;obtain⟨x,H2,I2,rx,d,b,uu,kvs,k,ex,ey,r,q,q2⟩:=z;subst ex ey;cases rx;cases ry;exact Zl hu I2 r q λs3 I3=>⟨.bl (BY kvs k).isSome,H2,I3,rfl,q2⟩
theorem Om(hu:X.A.units+1<cLine)(hi:PE X i ty)(ho:PE X o td):PC X .NotIn i o (NP X.prog X.w X.K ty td):=by intro ad s σ H Q I h;refine A8 (hi ad s σ H _ I h) λiv s1 z=>?_;obtain⟨y,H1,I1,ry,q1⟩:=z;refine A8 (ho ad s1 σ H1 _ I1 q1) λu s2 z=>?_;obtain⟨x,H2,I2,rx,d,b,uu,kvs,k,ex,ey,r,q,q2⟩:=z;subst ex ey;cases rx;cases ry;exact SK hu I2 r q λs3 I3=>⟨.bl (!(BY kvs k).isSome),H2,I3,rfl,q2⟩
theorem SM(hu:X.A.units+1<cLine)(ho:PE X o td)(hi:PE X i ty)(hv:PE X value tv)(hs:swapsWith value (some (.Subscript o i pos')) pos.line X.env=pure false):
  PS X (.Assign [.Subscript o i pos'] value pos) (TQ X.prog X.w X.K td ty tv):=by
 intro ad s σ H D I h;refine wpAny_Assign_Subscript (A8 (hv ad s σ H _ I h) λr s1 z=>?_) hs;obtain⟨v,H1,I1,rv,q1⟩:=z;refine A8 (ho ad s1 σ H1 _ I1 q1) λu s2 z=>?_;obtain⟨x,H2,I2,rx,q2⟩:=z;refine A8 (hi ad s2 σ H2 _ I2 q2) λiv s3 z=>?_;obtain⟨y,H3,I3,ry,d,b,kvs,k,ex,ey,g,q,l,q3⟩:=z;subst ex ey;cases rx;cases ry;exact Ol hu I3 g q l rv λu' s4 w4 I4=>⟨σ,_,I4,q3 u' w4⟩
theorem SN:PE X (.Dict [] [] pos) (TR X.prog X.w X.K):=λad s σ H Q I h =>
 wpAny_Dict_empty ⟨.ref s.heap.objs.size,_,I.laid (a:=s.heap.objs.size) (o:=RJ X.prog X.w s.heap.objs.size []) (t':=s.toks) (λ_ _ q=>aZ _ q) (af _)
  ⟨⟨bj _,beq_eq_false_iff_ne.mpr (Ne.symm (bA I.big)),[],.nil,_,#[],0,aj _ rfl,⟨rfl,rfl,rfl⟩,rfl,rfl,dE⟩,⟨_,aj _ rfl⟩,λh1 h2 x k=>SJ.stay x k⟩,rfl,
  h _ _ (I.hok.fresh (af _)) ⟨[],AF,rfl,λp hp=>nomatch hp⟩⟩
theorem On:CH X (.builtin "len") (λxs H Q=>∃(d:qM) (u:HO) (kvs:List (List BQ×V)),xs=[V.ref d]/\DR X.prog X.w X.K H d u kvs/\Q (.int kvs.length) H):=by
 intro ad s σ H xs us Q I r h;refine byG λGq hGq=>?_;obtain⟨d,u,kvs,rfl,ha,q⟩:=h;refine hGq ?_;clear hGq Gq;obtain⟨uu,rfl,ru⟩:=DT r;cases ru;refine byG λGq hGq=>?_;obtain⟨bs,ys,h3,_,rel,z,hd,dd⟩:=ha.at I;refine hGq ?_;clear hGq Gq;have hT:s.TypeIs (.ref d) "dict":=dd.typeIs;refine byG λGq hGq=>?_;obtain⟨ob,es,ep,g1,g2,g3,g4,_⟩:=dd;refine hGq ?_;clear hGq Gq
 have hz:es.size=kvs.length:=by have a:=qK List.length g4;have b:=Paired.length rel;rw[<-h3];simp at a;simp;lia
 have l1:bs.length=kvs.length:=by rw[<-h3,aW]
 refine len_dictR hd hT g1 g3 (by rw[sizeLine_eq]at z;lia) ⟨.int kvs.length,H,I.tok _,⟨_,by rw[hz]⟩,q⟩
theorem MP(hu:X.A.units+1<cLine):S1 X "dict.setdefault" (λx xs H Q=>∃(d b:qM) (kvs:List (List BQ×V)) (k:List BQ) (y:V),x=.ref d/\xs=[.ref b,y]/\DW X.prog X.w X.K H d kvs/\Ar X.K H b (k.map kV)/\kvs.length<sizeLine /\
  (∀z,BY kvs k=some z->Q z H)/\(BY kvs k=none->∀u',DW X.prog X.w X.K (Ai H d u') d (CF kvs k y)->Q y (Ai H d u'))):=by
 intro ad s σ H x xs v us Q I rx rs h;refine byG λGq hGq=>?_;obtain⟨d,b,kvs,k,y,rfl,rfl,e,eb,hz,h1,h2⟩:=h;refine hGq ?_;clear hGq Gq;refine byG λGq hGq=>?_;obtain⟨u1,u2,rfl,r1,r2⟩:=Mq rs;refine hGq ?_;clear hGq Gq;cases rx;cases r1;refine byG λGq hGq=>?_;obtain⟨bs,es,g1,g3,g4,rel,hl,hd,dd⟩:=e.at I;refine hGq ?_;clear hGq Gq;subst g3;have rk:=E3.val rel k;refine call_meetsIn cU dd.typeIs PySem.F.entry_dict_setdefault (PySem.F.args_dict_setdefault_3 _ _ _) (meetsH_setDef (tupleKind (A6 X.prog X.w)) d b hd u2) ⟨tupleKind_room_in1 hu,k,es,Dr I eb,dd,hl,λp hp=>?_,λhn hp dd' sb=>?_⟩
 ·rw[hp]at rk;cases hv:BY (bs.map Hm) k with
  |none=>rw[hv]at rk;exact (show False from rk).elim
  |some t =>
   rw[hv]at rk;exact⟨t,H,I.tok _,rk,h1 t hv⟩
 ·have hv:BY (bs.map Hm) k=none:=by
   cases hv:BY (bs.map Hm) k with
   |none=>rfl
   |some t=>rw[hv,hn]at rk;exact (show False from rk).elim
  obtain⟨u',w',I'⟩:=DW.put (t':=s.toks+(tupleKind (A6 X.prog X.w)).draws k) I g1 g4 rel hd eb hz r2 dd' sb;exact⟨y,_,I',r2,h2 hv u' w'⟩
theorem MQ{P:qO}{w:qP}{K:qQ}{ob:Obj}{φ:Heap->Prop}{es:Array DictEntry}{ep:Nat}(ho:ob.data=.dict es ep)(hl:es.size=kvs.length):IP P w K tg (WH P w K d (.frz ob (.ext φ)) kvs) [it] it (λi h=>h.IsKeyIter it d i es.size ep) where
 mem:=by simp
 obj:=λi h st b hb=>by
  have e:b=it:=by simpa using hb
  subst e;refine byG λGq hGq=>?_;obtain⟨o,e,c,d⟩:=st;refine hGq ?_;clear hGq Gq;exact⟨o,e,λv z=>by rw[d]at z;cases z⟩
 keep:=λi h h' st k=>st.at λo e=>k it (by simp) o e
 item:=by
  rintro X hP hw hK hc i ad s σ H E I hf st ⟨hg,hi⟩;subst hP hw hK;refine byG λGq hGq=>?_;obtain⟨f0,f1,f2,f3,f4,f5⟩:=hf it (by simp);refine hGq ?_;clear hGq Gq;refine byG λGq hGq=>?_;obtain⟨bs,h1,h2,h3,h4⟩:=hg;refine hGq ?_;clear hGq Gq;obtain⟨g0,g1,_⟩:=(show An X.prog X.w H s.heap d (.frz ob (.ext φ)) from I.hok d _ h1)
  have dx:SJ X.prog X.w d bs s.heap:=by
   rcases h2 with e|⟨o',e⟩
   ·cases e
   ·cases e;exact g1
  refine byG λGq hGq=>?_;obtain⟨_,_,xs,rel,o2,es2,ep2,e2,_,d2,rows,_⟩:=dx;refine hGq ?_;clear hGq Gq;rw[g0]at e2;cases e2;rw[ho]at d2;cases d2;have hie:i<es.size:=by lia
  have hib:i<bs.length:=by rw[<-h3,aW]at hi;exact hi
  refine byG λGq hGq=>?_;obtain⟨q,hq,r1,r2,r3⟩:=BS rel (i:=i) (x:=bs[i]) (by simp[hib]);refine hGq ?_;clear hGq Gq
  have he:es[i].key=.ref bs[i].2.1:=by
   have z:es.toList[i]?=some es[i]:=by simp[hie]
   rw[rows,ay,hq]at z;rw[r2];exact (qK DictEntry.key (Option.some.inj z)).symm
  refine keys_item st g0 ho hie λh' st' sb=>?_;have I1:AX X ad σ H {s with heap:=h'}:=I.turned (t':=s.toks) (λb o hb e=>(sb.2 b hb).trans e) f0 f1 f3 f4 f5;refine byG λGq hGq=>?_;obtain⟨oo,e,c,dd⟩:=id st';refine hGq ?_;clear hGq Gq;exact⟨_,rfl,KW (s:={s with heap:=h'}) e c dd (by decide) ⟨.ref bs[i].2.1,H,I1,by rw[he];rfl,⟨rfl,bs[i].2.1,bs[i].1,bs[i].2.2,rfl,by rw[<-h3,List.getElem?_map];simp[hib,Hm],h4 _ (List.getElem_mem _)⟩,st',λb hb=>(hf b hb).1⟩⟩
 done:=by rintro X hP hw hK hc i ad s σ H E I hf st ⟨hg,hi⟩;subst hP hw hK;refine byG λGq hGq=>?_;obtain⟨f0,f1,f2,f3,f4,f5⟩:=hf it (by simp);refine hGq ?_;clear hGq Gq;obtain⟨bs,h1,_⟩:=hg;obtain⟨g0,g1⟩:=(show An X.prog X.w H s.heap d (.frz ob (.ext φ)) from I.hok d _ h1);exact keys_end (I.ok.hd hc) st g0 ho (by lia) λh' eb=>⟨rfl,I.turned (t':=s.toks) (λb o hb e=>eb b o hb e) f0 f1 f3 f4 f5⟩
 self:=λ_ _ _ _ _ st h=>wpAny_pyIter_keyiter st h
theorem QV{l:Expr}(hl:PE X l tl):PI X tg l (QU X.prog X.w X.K tl):=by
 intro ad s σ H R I h;refine A8 (hl ad s σ H _ I h) λv s1 z9=>?_;obtain⟨x,H1,I1,r1,q1⟩:=z9;refine byG λGq hGq=>?_;obtain⟨d,u,kvs,e,hq,q⟩:=q1;refine hGq ?_;clear hGq Gq;subst e;cases r1;refine byG λGq hGq=>?_;obtain⟨bs,h1,h2,h3,h4⟩:=hq;refine hGq ?_;clear hGq Gq
 have dx:SJ X.prog X.w d bs s1.heap:=by
  rcases h2 with e|⟨o,e⟩
  ·subst e;exact (show An X.prog X.w H1 s1.heap d (.ext _) from I1.hok d _ h1).1
  ·subst e;exact (show An X.prog X.w H1 s1.heap d (.ext _) from (show An X.prog X.w H1 s1.heap d (.frz o _) from I1.hok d _ h1).2).1
 refine byG λGq hGq=>?_;obtain⟨z,hm,xs,rel,o,es,ep,ho,hx,hd,rows,nd⟩:=dx;refine hGq ?_;clear hGq Gq
 have I2:AX X ad σ (Ai H1 d (.frz o (RJ X.prog X.w d bs))) s1:=by
  rcases h2 with e|⟨o',e⟩
  ·subst e;exact I1.freeze h1 (λ_ z=>nomatch z) (λ_ _ z=>nomatch z) (λ_ z=>nomatch z) (λ_ z=>nomatch z) ho
  ·subst e;obtain⟨g0,_⟩:=(show An X.prog X.w H1 s1.heap d (.frz o' _) from I1.hok d _ h1);rw[ho]at g0;cases g0;rw[Ua h1];exact I1
 have hsz:es.size=kvs.length:=by have a:=qK List.length rows;have b:=Paired.length rel;rw[<-h3];simp at a;simp;lia
 have dr:DR X.prog X.w X.K (Ai H1 d (.frz o (RJ X.prog X.w d bs))) d (.frz o (RJ X.prog X.w d bs)) kvs:=⟨bs,AF,.inr ⟨o,rfl⟩,h3,λp hp=>by
  have k:=h4 p hp;rcases h2 with e|⟨o',e⟩
  ·subst e;exact k.upd' h1
  ·subst e;rcases k with (z|⟨o2,z⟩)|z
   ·exact .inl (.inl (by rw[AR (Eg z h1 λy=>nomatch y)];exact z))
   ·exact .inl (.inr ⟨o2,by rw[AR (Eg z h1 λy=>by cases y)];exact z⟩)
   ·exact .inr z⟩
 refine keys_iter hm ⟨o,ho,hx.1⟩ ho hd ⟨s1.heap.objs.size,[s1.heap.objs.size],_,_,_,rfl,I2.kept (t':=s1.toks) λb o e=>aZ _ e,MQ hd hsz,⟨_,aj _ rfl,rfl,rfl⟩,λb hb=>?_,q _ dr⟩;have e:b=s1.heap.objs.size:=by simpa using hb
 subst e;exact I2.fpOk (af _) (I2.hok.fresh (af _))
theorem Oo{P:qO}{w:qP}{K:qQ}{u:HO}{g:TG}{tb:TS}(Pv:Nat->St->Hp->Prop)(h0:Pv 0 σ H)(hl:∀i σ H,i<=kvs.length->Pv i σ H->DR P w K H d u kvs)
  (hs:∀i b k v σ H,kvs[i]?=some (k,v)->Ar K H b (k.map kV)->Pv i σ H->g (.ref b) σ H λσ2 H2=>tb {D with nx:=Pv (i+1),ct:=Pv (i+1),bk:=D.nx} σ2 H2) (hd:∀σ H,Pv kvs.length σ H->D.nx σ H):
  ∃W:Nat->Nat->St->Hp->Prop,(∃m,W 0 m σ H)/\∀i m σ H,W i m σ H ->
   ((WH P w K d u kvs).stop i H/\D.nx σ H)\/((WH P w K d u kvs).go i H/\∃N:St->Hp->Prop,(∀σ' H',N σ' H'->∃m',m'<m/\W (i+1) m' σ' H')/\∀x H',(WH P w K d u kvs).yld i H x H'->g x σ H' λσ2 H2=>tb {D with nx:=N,ct:=N,bk:=D.nx} σ2 H2):=by
 refine⟨λi m σ H=>m=kvs.length-i/\i<=kvs.length/\Pv i σ H,⟨kvs.length,by simp,Nat.zero_le _,h0⟩,?_⟩;rintro i m σ H ⟨rfl,hi,p⟩;have q:=hl i σ H hi p
 by_cases hlt:i<kvs.length
 ·refine .inr ⟨⟨q,hlt⟩,Pv (i+1),λσ' H' p'=>⟨kvs.length-(i+1),by lia,rfl,hlt,p'⟩,λx H' y=>?_⟩;refine byG λGq hGq=>?_;obtain⟨e,b,k,v,ex,hk,hb⟩:=y;refine hGq ?_;clear hGq Gq;subst e ex;exact hs i b k v σ _ hk hb p
 ·have e:i=kvs.length:=by lia
  subst e;exact .inl ⟨⟨q,af _⟩,hd σ H p⟩
theorem Ho{P:qO}{w:qP}{K:qQ}{u:HO}{D:qM}{Q:VK}(Pv:Nat->List V->Hp->Prop)(h0:Pv 0 [] (Ai H D (.lst [])))(hl:∀i d8 H,i<=kvs.length->Pv i d8 H->DR P w K H d u kvs)
  (hs:∀i b k v d8 H2,kvs[i]?=some (k,v)->Ar K H2 b (k.map kV)->Pv i d8 H2->tt (some (.ref b)::σf) H2 λt H4=>if t=true then te (some (.ref b)::σf) H4 λy H5=>H5 D=some (.lst d8)/\d8.length<sizeLine/\Pv (i+1) (d8++[y]) (Ai H5 D (.lst (d8++[y]))) else Pv (i+1) d8 H4)
  (hd:∀d8 H2,Pv kvs.length d8 H2->Q (.ref D) H2):CS (WH P w K d u kvs) tt te σf D Q H:=by
 refine⟨λk i d8 H=>k=kvs.length-i/\i<=kvs.length/\Pv i d8 H,⟨kvs.length,by simp,Nat.zero_le _,h0⟩,?_⟩;rintro k i d8 H2 ⟨rfl,hi,p⟩;have q:=hl i d8 H2 hi p
 by_cases hlt:i<kvs.length
 ·refine .inr ⟨⟨q,hlt⟩,Pv (i+1),λl H' p'=>⟨kvs.length-(i+1),by lia,rfl,hlt,p'⟩,λx H' y=>?_⟩;refine byG λGq hGq=>?_;obtain⟨e,b,k,v,ex,hk,hb⟩:=y;refine hGq ?_;clear hGq Gq;subst e ex;exact hs i b k v d8 _ hk hb p
 ·have e:i=kvs.length:=by lia
  subst e;exact .inl ⟨⟨q,af _⟩,hd d8 H2 p⟩
section
variable{P:qO}{w:qP}{K:qQ}
theorem Fj(hP:X.prog=P)(hw:X.w=w)(hK:X.K=K)(hu:X.A.units+1<cLine)(ho:PE X o td)(hi:PE X i ty)(hs:QN i):PE X (.Subscript o i pos) (TN P w K td ty):=by subst hP hw hK;exact SL hu ho hi hs
theorem SO(hP:X.prog=P)(hw:X.w=w)(hK:X.K=K)(hu:X.A.units+1<cLine)(hi:PE X i ty)(ho:PE X o td):PC X .In i o (W9 P w K ty td):=by subst hP hw hK;exact Ub hu hi ho
theorem MR(hP:X.prog=P)(hw:X.w=w)(hK:X.K=K)(hu:X.A.units+1<cLine)(hi:PE X i ty)(ho:PE X o td):PC X .NotIn i o (NP P w K ty td):=by subst hP hw hK;exact Om hu hi ho
theorem LH(hP:X.prog=P)(hw:X.w=w)(hK:X.K=K)(hu:X.A.units+1<cLine)(ho:PE X o td)(hi:PE X i ty)(hv:PE X value tv)(hs:swapsWith value (some (.Subscript o i pos')) pos.line X.env=pure false):PS X (.Assign [.Subscript o i pos'] value pos) (TQ P w K td ty tv):=by subst hP hw hK;exact SM hu ho hi hv hs
theorem Hq(hP:X.prog=P)(hw:X.w=w)(hK:X.K=K):PE X (.Dict [] [] pos) (TR P w K):=by subst hP hw hK;exact SN
theorem MS(hP:X.prog=P)(hw:X.w=w)(hK:X.K=K):CH X (.builtin "len") (λxs H Q=>∃(d:qM) (u:HO) (kvs:List (List BQ×V)),xs=[V.ref d]/\DR P w K H d u kvs/\Q (.int kvs.length) H):=by subst hP hw hK;exact On
theorem GY(hP:X.prog=P)(hw:X.w=w)(hK:X.K=K)(hu:X.A.units+1<cLine):S1 X "dict.setdefault" (λx xs H Q=>∃(d b:qM) (kvs:List (List BQ×V)) (k:List BQ) (y:V),x=.ref d/\xs=[.ref b,y]/\DW P w K H d kvs/\Ar K H b (k.map kV)/\kvs.length<sizeLine /\
  (∀z,BY kvs k=some z->Q z H)/\(BY kvs k=none->∀u',DW P w K (Ai H d u') d (CF kvs k y)->Q y (Ai H d u'))):=by subst hP hw hK;exact MP hu
theorem GH(hP:X.prog=P)(hw:X.w=w)(hK:X.K=K){l:Expr}(hl:PE X l tl):PI X tg l (QU P w K tl):=by subst hP hw hK;exact QV hl
noncomputable def NQ(K:qQ)(a:qM)(ns:qR):Bool:=match K.lookup a with
 |some o=>o.cls==.type "tuple"&&(match o.data with|.seq its _=>decide (its.size<=1000)&&decide (its.toList.map G2=ns.map λn=>some (V.int n))|_=>false)
 |none=>false
end
end
theorem QW:∀{ns:qR} {us:List qL},us.map G2=ns.map (λn=>some (V.int n))->Au (ns.map V.int) us:=by
 intro ns
 induction ns with
 |nil=>intro us h;cases us with|nil=>exact .nil|cons u us=>cases h
 |cons n ns ih =>
  intro us h;cases us with
  |nil=>cases h
  |cons u us =>
   rw[bF,bF]at h
   injection h with h1 h2
   refine .cons ?_ (ih h2);cases u with
   |int i t=>cases h1;exact⟨_,rfl⟩
   |_=>cases h1
theorem NR{K:qQ}{ns:qR}(h:NQ K a ns=true)(H:Hp):Ar K H a (ns.map V.int):=by
 delta NQ at h
 cases e:K.lookup a with
 |none=>rw[e]at h;cases h
 |some o =>
  rw[e]at h;obtain⟨h1,h2⟩:=(au ..).mp h;cases ed:o.data with
  |seq its n =>
   rw[ed]at h2;have h2:=(au ..).mp h2;have s:=qI h2.1;exact .inr ⟨o,its,n,e,eq_of_beq h1,ed,by rw[sizeLine_eq];lia,QW (qI h2.2)⟩
  |_=>rw[ed]at h2;cases h2
def Zm(P:qO)(w:qP)(K:qQ)(r:V->List V->Hp->VK->Prop)(to:TE)(t:TA):TE:=λσ H Q=>to σ H λx H1=>(∃(d:qM) (u:HO) (kvs:List (List BQ×V)),x=.ref d/\DR P w K H1 d u kvs)/\t σ H1 λxs H2=>r x xs H2 Q
theorem QX{P:qO}{w:qP}{K:qQ}{o e:Expr}{to:TE}{t:TA}{apos cpos:Pos}{id:String}{r:V->List V->Hp->VK->Prop}(hP:X.prog=P)(hw:X.w=w)(hK:X.K=K)(slot:Slot "dict" name id)(hty:typeOf (.builtin id)=pure (.type "method_descriptor"))(hm:S1 X id r)(ho:PE X o to)(ha:PA X (e::es) t)(hbase:attributeBase o name X.env (eval o X.env)=eval o X.env:=by rfl)(hfew:((backTo cpos (starEach (e::es) X.env)).all (λx=>!x.1)&&(backToKw cpos (keywordEach [] X.env)).all (λx=>x.1.isSome)&&decide ((e::es).length+([]:List Keyword).length+(if ([]:List Keyword).isEmpty then 0 else 1)<30))=true:=by rfl)(hline:(apos.endLine==cpos.line)=true:=by rfl)
  (hs:starEach (e::es) X.env=(false,eval e X.env)::starEach es X.env:=by rfl) (hplain:(backTo cpos (starEach es X.env)).any (·.1)=false:=by rfl):PE X (.Call (.Attribute o name apos) (e::es) [] cpos) (Zm P w K r to t):=by
 subst hP hw hK;intro ad s σ H Q I h;refine wpAny_Call_method_late hbase hfew hline rfl (A8 (ho ad s σ H _ I h) λv s1 z9=>?_);obtain⟨x,H1,I1,r1,⟨d,u,kvs,ex,dr⟩,q1⟩:=z9;subst ex;cases r1;refine byG λGq hGq=>?_;obtain⟨bs,xs,_,_,_,_,_,dd⟩:=dr.at I1;refine hGq ?_;clear hGq Gq;have h1:s1.TypeIs (.ref d) "dict":=dd.typeIs
 refine⟨"dict",id,PySem.F.plainAttrs_dict,slot,hty,h1,λb q=>by cases q;refine byG λGq hGq=>?_;obtain⟨ob,_,_,g1,g2,_⟩:=dd;refine hGq ?_;clear hGq Gq;exact⟨ob,g1,g2.2.1⟩,?_⟩
 have hA:=ha cpos ad s1 σ H1 _ I1 q1;rw[hs]at hA⊢;refine Calls.callWith_builtin (by show (false||(backTo cpos (starEach es X.env)).any (·.1))=false;rw[hplain]<;>rfl) (Calls.evalArgs_plain (A8 hA λus s2 ⟨vs,H2,I2,r2,q2⟩=>hm ad s2 σ H2 (.ref d) vs (.ref d) us Q I2 rfl r2 q2))
end L2
namespace PySem
open Sem (wp)
section
variable{prog:qO}{w:qP}{K:Type}[DecidableEq K]{knd:KeyKind prog w K}{A:Around}{E:qL->qN->Prop}{s:qN}
theorem hint_dict{d:qM}{Q:Bool->qN->Prop}(hT:s.TypeIs (.ref d) "dict")(h:Q false s):wpAny (model prog w) A (Builtin.List.listLengthHint (.ref d)) Q E s:=by
 unfold Builtin.List.listLengthHint;refine qA (wpAny_specialOf hT F.slot_dict_len.lookup ?_);generalize hid:("dict.__len__":String)=id0
 wp_delta
 rw[show splitId id0=some ("dict","__len__") from by subst hid;decide +kernel];subst hid;refine qA (wpAny_isInstance (T:="dict") (b:=true) hT (by rw[isSubtype_type];kernel_rfl) ?_);refine wpAny_ite_split (λhab=>qE hab (by decide)) (λ_=>?_);refine wpAny_ite_split (λ_=>?_) (λhab=>qE (by decide +kernel) hab);refine qA (wpAny_typeOf hT ?_);exact qB h
theorem extend_dict{R:Result->qN->Prop}{d:qM}{kvs:List (K×qL)}{ep:Nat}(hh:A.handled=none)(hm:(d==sysModules)=false)(hr:s.heap.DictAt knd d kvs ep)(hlen:kvs.length<=sizeLine)(S:qM)(res:qL)(c₀:Nat)(hS:s.heap.get? S=some {cls:=.type "list",data:=.seq #[] c₀})
  (hR:∀h' tk acc' c',(∀b o,b≠S->s.heap.get? b=some o->h'.get? b=some o)->h'.get? S=some {cls:=.type "list",dict:=none,data:=.seq acc' c',slots:=#[]} ->
   ItemsOf (λi v=>∃k x,kvs[i]?=some (k,x)/\knd.is k v=true) acc' kvs.length->R (.ok (.ret res)) {s with heap:=h',toks:=tk}):
  wpAny (model prog w) A.in1 (Builtin.List.listExtendWith (.ref S) (.ref d) res)
   (λfin s'=>match fin with|.done f=>R (.ok f) s'|.again c'=>c'.quiet=true/\codeAny (model prog w) A c' R s') (λe s'=>R (.error e) s') s:=by
 refine byG λGq hGq=>?_;obtain⟨o,es,ho,hc,hdat,hk,hp,hn⟩:=id hr;refine hGq ?_;clear hGq Gq;have hT:s.TypeIs (.ref d) "dict":=⟨o,ho,hc.1⟩
 have hSr:S≠d:=λe=>by rw[e,ho]at hS;cases hS;cases hdat
 have hSlt:S<s.heap.objs.size:=ag hS;have hSI:S≠s.heap.objs.size:=bA hSlt;have hdI:d≠s.heap.objs.size:=bA (ag ho)
 have hSf:S∉[s.heap.objs.size,d]:=λhm=>by
  rcases aw.mp hm with z|z
  ·exact hSI z
  ·exact hSr (ak.mp z)
 have W:=(Walks.dictKeys (prog:=prog) (w:=w) (A:=A.in1) (knd:=knd) hh s.heap.objs.size d hdI kvs ep).toS
 have key:∀(h:Heap) (c₁ tk:Nat),h.IsKeyIter s.heap.objs.size d 0 kvs.length ep->h.DictAt knd d kvs ep->(∀b o,b≠S->s.heap.get? b=some o->h.get? b=some o) ->
   h.get? S=some {cls:=.type "list",data:=.seq #[] c₁}->codeAny (model prog w) A (.builtin "list.extend.loop" ⟨[.ref S,.ref s.heap.objs.size,res],[]⟩) R {s with heap:=h,toks:=tk}:=by
  intro h c₁ tk hit hda hk hS₁;refine codeAny_extend_loopS W hlen S hSf res kvs.length 0 _ #[] c₁ rfl (bj _) ⟨hit,hda⟩ hS₁ (ItemsOf.nil _) λs' acc' c' hm hS' hacc=>?_;rw[Moved.eq_with hm];refine hR s'.heap s'.toks acc' c' (λb o hb e=>hm.heap b o (λhmem=>?_) (hk b o hb e)) hS' hacc;rcases aw.mp hmem with e'|hmem
  ·exact hb e'
  ·exact qE (ag e) (by rw[ak.mp hmem];exact bM _)
 unfold Builtin.List.listExtendWith;refine qA (wpAny_typeOf (T:="dict") hT ?_);have h1:Builtin.List.listSameRef (.ref S) (.ref d)=false:=by simp[Builtin.List.listSameRef,hSr]
 have h2:(Value.type "dict"==Value.type "list")=false:=by decide
 have h3:(Value.type "dict"==Value.type "tuple")=false:=by decide
 simp only[h1,h2,h3,Bool.or_false,Bool.false_eq_true,if_false];refine qA (wpAny_pyIter_dict hm hr ?_);obtain⟨itO,hIt⟩:∃itO:Obj,itO={cls:=.type "dict_keyiterator",data:=.fields #[.ref d,.int 0 0,.int kvs.length 0,.int ep 0]}:=⟨_,rfl⟩;rw[<-hIt];have kp:∀b o,s.heap.get? b=some o->(s.heap.push itO).get? b=some o:=λb o e=>aZ _ e
 refine qA (qJ (hint_dict ⟨o,kp _ _ ho,hc.1⟩ ?_));have hit₁:(s.heap.push itO).IsKeyIter s.heap.objs.size d 0 kvs.length ep:=⟨_,aj _ (by rw[hIt];rfl),by rw[hIt],by rw[hIt];rfl⟩;have hd₁:(s.heap.push itO).DictAt knd d kvs ep:=hr.at' λo e=>kp d o e
 have hS₁:=kp _ _ hS;refine wpAny_ite_split (λ_=>?_) (λhab=>qE (by decide +kernel) hab);refine qA (wpAny_rule ?_);refine qA ?_;show wpAny _ _ (updateSeq S (·.push .none) >>= λ_=>updateSeq S (·.pop)) _ _ _;refine qA (wpAny_updateSeq hS₁ rfl ?_);have hS₂:=bG (Obj.mapSeq (·.push Value.none)) hS₁ rfl;refine wpAny_updateSeq (hz:=by seq_fits) hS₂ rfl ?_;have hS₃:=bG (Obj.mapSeq (·.pop)) hS₂ rfl;have up:∀b o,b≠S->(s.heap.push itO).get? b=some o->(((s.heap.push itO).update S (Obj.mapSeq (·.push Value.none))).update S (Obj.mapSeq (·.pop))).get? b=some o:=λb o hb e=>(ba _ _ (Ne.symm hb)).trans ((ba _ _ (Ne.symm hb)).trans e)
 refine qB ⟨plainId_quiet F.plain_extend_loop _,key _ _ _ (hit₁.at λo e=>up _ o (Ne.symm hSI) e) (hd₁.at' λo e=>up _ o (Ne.symm hSr) e) (λb o hb e=>up b o hb (kp b o e)) hS₃⟩
end
end PySem
namespace L2
open PySem PySem.Spec PyProof.Rows
end L2
namespace L2
open PySem PySem.Spec PyProof.Rows RW
variable{H H':Hp}{X:Cx}{a d l:qM}{i j:Nat}{kvs:List (List BQ×V)}{d4:qR}{te tl:TE}{tg:Expr}{tt:TT}{xs ys:List V}{α β:Type}{σf:List (Option V)}
noncomputable def LI(p:qS):qS:=if p.1=p.2 then (0,0) else p
theorem QY(u:Nat):LI (u,u)=(0,0):=qD rfl
def WI(G h:Nat)(d4:qR)(p q:qS):Prop:=∃a b,a<h*G/\b<h*G/\a≠b/\d4.getD a 0=d4.getD b 0/\p=LI (a/G,b/G)/\q=LI (a%h,b%h)
def Zn(G h:Nat)(d4:qR)(rk:qS->Nat):Prop:=∀p q,WI G h d4 p q->rk p<rk q
def QZ(p:qS):List V:=[.int (p.1:Int),.int (p.2:Int)]
abbrev Ca(K:qQ)(H:Hp):List qM->List (qS)->Prop:=Paired λp x=>Ar K H p (QZ x)
variable{L:List (qS)}
theorem Ca.same{K:qQ}{ps:List qM}(e:AJ H H')(h:Ca K H ps L):Ca K H' ps L:=Paired.mapP h λ_ _ z=>z.same' e
theorem Paired.app{F:α->β->Prop}{a:List α}{b:List β}{c:List α}{d:List β}(p:Paired F a b)(h:Paired F c d):Paired F (a++c) (b++d):=by
 induction p with
 |nil=>exact h
 |cons r _ ih=>exact .cons r ih
theorem Ar.updL{K:qQ}{u:HO}(hd:H d=some (.lst ys))(q:Ar K H a xs):Ar K (Ai H d u) a xs:=by
 rcases q with (z|⟨o,z⟩)|z
 ·exact .inl (.inl (by rw[AR (Eg z hd λy=>nomatch y)];exact z))
 ·exact .inl (.inr ⟨o,by rw[AR (Eg z hd λy=>nomatch y)];exact z⟩)
 ·exact .inr z
theorem Ca.upd{K:qQ}{ps:List qM}{u:HO}(hd:H d=some (.lst ys))(h:Ca K H ps L):Ca K (Ai H d u) ps L:=Paired.mapP h λ_ _ z=>z.updL hd
inductive Fk(K:qQ)(vs:List V)(H:Hp)(Q:VK)(z3_:XK):Prop
 |m (a b:Nat):vs=[.int (a:Int),.int (b:Int)]->(∀p H',AJ H H'->Ar K H' p (QZ (LI (a,b)))->Q (.ref p) H')->Fk K vs H Q z3_
inductive KB(K:qQ)(vs:List V)(H:Hp)(Q:VK)(z3_:XK):Prop
 |m (r q:qM) (g lo:Int) (d4:qR) (m a b:Nat):vs=[.ref r,.ref q]->A4 H r g lo d4 m->Ar K H q (QZ (a,b))->(∀p H',AJ H H'->Ar K H' p (QZ (LI (a/g.toNat,b/g.toNat)))->Q (.ref p) H')->KB K vs H Q z3_
inductive Qa(K:qQ)(vs:List V)(H:Hp)(Q:VK)(z3_:XK):Prop
 |m (r q:qM) (g lo:Int) (d4:qR) (m a b:Nat):vs=[.ref r,.ref q]->A4 H r g lo d4 m->Ar K H q (QZ (a,b))->(∀p H',AJ H H'->Ar K H' p (QZ (LI (a%(d4.length/g.toNat),b%(d4.length/g.toNat))))->Q (.ref p) H')->Qa K vs H Q z3_
noncomputable def MT(h n:Nat):List (qS):=((List.range h).filter λo=>decide (o≠n)).map λo=>(n,o)
theorem SQ(h n:Nat):(MT h n).length<=h:=by unfold MT;rw[aW];exact bB (cW ..) (by rw[bq];exact af _)
theorem Fl(h:Nat):∀i:Nat,((List.range i).flatMap (MT h)).length<=i*h
 |0=>bj _
 |i+1=>by rw[bg,cP,ac,Nat.add_mul,cb,cq,bO];have:=Fl h i;have:=SQ h i;lia
noncomputable def Bo(h:Nat):List (qS):=(0,0)::(List.range h).flatMap (MT h)
noncomputable def Qb(d4:qR)(a:Nat):List (qS):=((List.range d4.length).filter λb=>decide (d4.getD b 0=d4.getD a 0)&&decide (b≠a)).map λb=>(a,b)
noncomputable def Ef(d4:qR):List (qS):=(List.range d4.length).flatMap (Qb d4)
inductive KC(K:qQ)(vs:List V)(H:Hp)(Q:VK)(z3_:XK):Prop
 |m (r:qM) (g lo:Int) (d4:qR) (m:Nat):vs=[.ref r]->A4 H r g lo d4 m->g^(m-1)<=9->(∀D H' ps,AJ H H'->H D=none->H' D=some (.lst (ps.map V.ref))->Ca K H' ps (Bo (d4.length/g.toNat))->Q (.ref D) H')->KC K vs H Q z3_
inductive MU(K:qQ)(vs:List V)(H:Hp)(Q:VK)(z3_:XK):Prop
 |m (r:qM) (g lo:Int) (d4:qR) (m:Nat):vs=[.ref r]->A4 H r g lo d4 m->g^(m-1)<=9->(∀D H' ps,AJ H H'->H D=none->H' D=some (.lst (ps.map V.ref))->Ca K H' ps (Ef d4)->Q (.ref D) H')->MU K vs H Q z3_
theorem LJ{K:qQ}{D:qM}{Q:VK}(Pv:Nat->List V->Hp->Prop)(h0:Pv 0 [] (Ai H D (.lst [])))(hl:∀i d8 H,i<=xs.length->Pv i d8 H->Ar K H a xs)
  (hs:∀i x p d8 H2,xs[i]?=some x->Pv i d8 H2->H2 p=none->tt (some (.int ((i:Nat):Int))::some x::σf) (Ai H2 p (.tup [.int ((i:Nat):Int),x])) λb H4=>if b=true then te (some (.int ((i:Nat):Int))::some x::σf) H4 λy H5=>H5 D=some (.lst d8)/\d8.length<sizeLine/\Pv (i+1) (d8++[y]) (Ai H5 D (.lst (d8++[y]))) else Pv (i+1) d8 H4)
  (hd:∀d8 H2,Pv xs.length d8 H2->Q (.ref D) H2):GG K (OP K a) tt te σf D Q H:=by
 refine⟨λk i d8 H=>k=xs.length-i/\i<=xs.length/\Pv i d8 H,⟨xs.length,by simp,Nat.zero_le _,h0⟩,?_⟩;rintro k i d8 H2 ⟨rfl,hi,p⟩;have q:=hl i d8 H2 hi p
 by_cases hlt:i<xs.length
 ·refine .inr ⟨⟨xs,xs[i],q,by simp[hlt]⟩,Pv (i+1),λl H' p'=>⟨xs.length-(i+1),by lia,rfl,hlt,p'⟩,λv H' y=>?_⟩;refine byG λGq hGq=>?_;obtain⟨p2,x,e1,e2,e3,y⟩:=y;refine hGq ?_;clear hGq Gq;subst e1 e3;exact⟨p2,_,_,rfl,Ar.of AF,hs i x p2 d8 H2 (y xs q) p e2⟩
 ·have e:i=xs.length:=by lia
  subst e;exact .inl ⟨⟨xs,q,af _⟩,hd d8 H2 p⟩
theorem SR(d4:qR)(a:Nat):(Qb d4 a).length<=d4.length:=by unfold Qb;rw[aW];exact bB (cW ..) (by rw[bq];exact af _)
theorem Fm(d4:qR):∀i:Nat,((List.range i).flatMap (Qb d4)).length<=i*d4.length
 |0=>bj _
 |i+1=>by rw[bg,cP,ac,Nat.add_mul,cb,cq,bO];have:=Fm d4 i;have:=SR d4 i;lia
theorem Qc{p:α->Bool}{j:α}(h:p j=true):[j].filter p=[j]:=by rw[List.filter_cons_of_pos h];rfl
theorem NT{p:α->Bool}{j:α}(h:p j=false):[j].filter p=[]:=by rw[List.filter_cons_of_neg (by rw[h];decide)];rfl
noncomputable def BZ(p:qS):List BQ:=[Sum.inl (p.1:Int),Sum.inl (p.2:Int)]
variable{p q:qS}
theorem Hr(h:BZ p=BZ q):p=q:=by
 unfold BZ at h
 injection h with h1 h2
 injection h2 with h2 _
 have a:=Sum.inl.inj h1;have b:=Sum.inl.inj h2;exact Prod.ext (by lia) (by lia)
noncomputable def Ao(A:List (qS))(vs:List V):List (List BQ×V):=List.zipWith (λa v=>(BZ a,v)) A vs
theorem Bx{A:List (qS)}{vs:List V}(h:vs.length=A.length):(Ao A vs).length=A.length:=by unfold Ao;rw[List.length_zipWith,h,Nat.min_self]
theorem Dg:∀{A:List (qS)} {vs:List V} {a:qS},a∉A->BY (Ao A vs) (BZ a)=none
 |[],_,_,_=>rfl
 |_::_,[],_,_=>rfl
 |b::A,v::vs,a,h=>by
  have n1:¬BZ b=BZ a:=λe=>h (by rw[Hr e];exact ah)
  show BY ((BZ b,v)::Ao A vs) (BZ a)=none;rw[C1 (show ¬(BZ b,v).1=BZ a from n1)];exact Dg λe=>h (aa _ e)
theorem By:∀{A:List (qS)} {vs:List V} {i:Nat} {a:qS} {v:V},A.Nodup->A[i]?=some a->vs[i]?=some v->BY (Ao A vs) (BZ a)=some v
 |[],_,_,_,_,_,h,_=>by simp at h
 |_::_,[],_,_,_,_,_,h=>by simp at h
 |b::A,v::vs,0,a,w,nd,h1,h2=>by simp at h1 h2;subst h1 h2;exact C0 rfl
 |b::A,v::vs,i+1,a,w,nd,h1,h2=>by
  simp at h1 h2;have nd':=b9.mp nd;have n1:¬BZ b=BZ a:=λe=>nd'.1 (by rw[Hr e];exact a8 h1)
  show BY ((BZ b,v)::Ao A vs) (BZ a)=some w;rw[C1 (show ¬(BZ b,v).1=BZ a from n1)];exact By nd'.2 h1 h2
theorem Hs{A:List (qS)}{vs:List V}{a:qS}{v:V}(hl:vs.length=A.length)(h:a∉A):CF (Ao A vs) (BZ a) v=Ao (A++[a]) (vs++[v]):=by rw[QM _ (Dg h)];unfold Ao;rw[List.zipWith_append hl.symm];rfl
theorem Qd{h:Nat}:p∈Bo h↔p=(0,0)\/(p.1<h/\p.2<h/\p.1≠p.2):=by unfold Bo;rw[aw,dL];refine or_congr Iff.rfl ⟨λz9=>?_,λ⟨h1,h2,h3⟩=>⟨p.1,bQ.mpr h1,bL.mpr ⟨p.2,bR.mpr ⟨bQ.mpr h2,qF (Ne.symm h3)⟩,rfl⟩⟩⟩;obtain⟨n,hn,hp⟩:=z9;obtain⟨o,ho,rfl⟩:=bL.mp hp;obtain⟨h1,h2⟩:=bR.mp ho;exact⟨bQ.mp hn,bQ.mp h1,Ne.symm (qI h2)⟩
theorem KD{h a b:Nat}(ha:a<h)(hb:b<h):LI (a,b)∈Bo h:=by
 rw[Qd];unfold LI;split
 ·exact .inl rfl
 ·rename_i e
  exact .inr ⟨ha,hb,e⟩
theorem Ht(h:Nat):∀n:Nat,((List.range n).flatMap (MT h)).Nodup
 |0=>dE
 |n+1=>by
  rw[bg,cP,cb,cq,bO,cL];refine⟨Ht h n,?_,λx hx y hy e=>?_⟩
  ·unfold MT;exact List.Pairwise.map _ (λa b e z=>e (Prod.mk.inj z).2) (List.nodup_range.filter _)
  ·obtain⟨k,hk,hx⟩:=dL.mp hx;obtain⟨_,_,e1⟩:=bL.mp hx;obtain⟨_,_,e2⟩:=bL.mp hy;have:=bQ.mp hk;have a:=qK Prod.fst e1;have b:=qK Prod.fst e2;rw[e]at a;have a:k=y.1:=a;have b:n=y.1:=b;lia
theorem E4(h:Nat):(Bo h).Nodup:=by unfold Bo;refine b9.mpr ⟨λe=>?_,Ht h h⟩;obtain⟨n,_,hp⟩:=dL.mp e;obtain⟨o,ho,e1⟩:=bL.mp hp;have h2:=qI (bR.mp ho).2;have a:=qK Prod.fst e1;have b:=qK Prod.snd e1;have a:n=0:=a;have b:o=0:=b;lia
theorem Hu{a b:Nat}:(a,b)∈Ef d4↔a<d4.length/\b<d4.length/\a≠b/\d4.getD a 0=d4.getD b 0:=by
 unfold Ef;rw[dL];constructor
 ·rintro⟨n,hn,hp⟩;obtain⟨o,ho,e⟩:=bL.mp hp;obtain⟨h1,h2⟩:=bR.mp ho;rw[au]at h2;cases e;exact⟨bQ.mp hn,bQ.mp h1,Ne.symm (qI h2.2),(qI h2.1).symm⟩
 ·rintro⟨h1,h2,h3,h4⟩;exact⟨a,bQ.mpr h1,bL.mpr ⟨b,bR.mpr ⟨bQ.mpr h2,by rw[au];exact⟨qF h4.symm,qF (Ne.symm h3)⟩⟩,rfl⟩⟩
structure Di(K:qQ)(H:Hp)(ls:List qM)(A:List (qS))(F:qS->List (qS)):Prop where
 n:ls.length=A.length
 nd:ls.Nodup
 e:∀(i:Nat) (a:qS) (l:qM),A[i]?=some a->ls[i]?=some l->∃ps:List qM,H l=some (.lst (ps.map V.ref))/\Ca K H ps (F a)
variable{ls:List qM}{F:qS->List (qS)}
theorem Di.same{K:qQ}{A:List (qS)}(e:AJ H H')(g:Di K H ls A F):Di K H' ls A F:=
 ⟨g.n,g.nd,λi a l h1 h2=>by obtain⟨ps,h3,h4⟩:=g.e i a l h1 h2;exact⟨ps,e _ _ h3,Ca.same e h4⟩⟩
theorem Di.snoc{K:qQ}{A:List (qS)}(g:Di K H ls A F){a:qS}(hl:l∉ls)(h:H l=some (.lst []))(hF:F a=[]):Di K H (ls++[l]) (A++[a]) F:=by
 refine⟨by rw[ac,ac,g.n];rfl,cL.mpr ⟨g.nd,b9.mpr ⟨ax,dE⟩,λx hx y hy e=>hl (by rw[<-ak.mp hy,<-e];exact hx)⟩,λi b k h1 h2=>?_⟩
 by_cases z:i<A.length
 ·rw[List.getElem?_append_left z]at h1;rw[List.getElem?_append_left (by rw[g.n];exact z)]at h2;exact g.e i b k h1 h2
 ·rw[bp (by lia)]at h1;rw[bp (by rw[g.n];lia),g.n]at h2;have z0:i-A.length=0:=by have:=(ae.mp h1).1;simp at this;lia
  rw[z0]at h1 h2;cases h1;cases h2;exact⟨[],h,by rw[hF];exact .nil⟩
noncomputable def Gf(G h:Nat)(W:List (qS))(p:qS):List (qS):=(W.filter λx=>decide (LI (x.1/G,x.2/G)=p)).map λx=>LI (x.1%h,x.2%h)
inductive KE(P:qO)(w:qP)(K:qQ)(vs:List V)(H:Hp)(Q:VK)(z3_:XK):Prop
 |m (r:qM) (g lo:Int) (d4:qR) (m:Nat):vs=[.ref r]->A4 H r g lo d4 m->g^(m-1)<=9->(∀d H' ls,AJ H H'->H d=none->(∀l∈ls,H l=none)->DW P w K H' d (Ao (Bo (d4.length/g.toNat)) (ls.map V.ref))->Di K H' ls (Bo (d4.length/g.toNat)) (Gf g.toNat (d4.length/g.toNat) (Ef d4))->Q (.ref d) H')->KE P w K vs H Q z3_
section
variable{P:qO}{w:qP}{K:qQ}
theorem DW.lst(z:DW P w K H d kvs){b:qM}(h:H b=some (.lst xs))(u:HO):Ai H d u b=some (.lst xs):=by obtain⟨bs,h1,_⟩:=z;rw[AR (Eg h h1 λy=>nomatch y)];exact h
theorem DW.prv(z:DW P w K H d kvs){ps:List qM}(h:Ca K H ps L)(u:HO):Ca K (Ai H d u) ps L:=by obtain⟨bs,h1,_⟩:=z;exact Paired.mapP h λ_ _ y=>y.upd' h1
theorem DW.grl(z:DW P w K H d kvs){A:List (qS)}(g:Di K H ls A F)(u:HO):Di K (Ai H d u) ls A F:=
 ⟨g.n,g.nd,λi a l h1 h2=>by obtain⟨ps,h3,h4⟩:=g.e i a l h1 h2;exact⟨ps,z.lst h3 u,z.prv h4 u⟩⟩
theorem Di.out{A:List (qS)}(g:Di K H ls A F)(h:H l=none):l∉ls:=λz=>by
 obtain⟨i,hi⟩:=bT.mp z;have hlt:=(ae.mp hi).1;have hA:i<A.length:=by rw[<-g.n];exact hlt
 obtain⟨ps,h3,_⟩:=g.e i A[i] l (ao hA) hi;rw[h]at h3;cases h3
end
theorem Fn{A:List (qS)}(nd:A.Nodup){a:qS}(h:A[i]?=some a):a∉A.take i:=λz=>by
 obtain⟨j,hj⟩:=bT.mp z;rw[List.getElem?_take]at hj
 split at hj
 ·rename_i lt
  have a1:=ae.mp h;have a2:=ae.mp hj;have:=(dG (h₀:=a2.1) (h₁:=a1.1) nd).mp (by rw[a2.2,a1.2]);lia
 ·cases hj
section
variable{P:qO}{w:qP}{K:qQ}
theorem DW.updL(z:DW P w K H d kvs)(hl:H l=some (.lst xs))(u:HO):DW P w K (Ai H l u) d kvs:=by obtain⟨bs,h1,h3,h4⟩:=z;exact⟨bs,by rw[AR (Eg h1 hl λy=>nomatch y)];exact h1,h3,λp hp=>Ar.updL hl (h4 p hp)⟩
theorem Di.push{A:List (qS)}{F':qS->List (qS)}(g:Di K H ls A F)(nd:A.Nodup){a:qS}{ps:List qM}{q:qM}{x:qS}(hj:A[j]?=some a)(hl:ls[j]?=some l)(h:H l=some (.lst (ps.map V.ref)))(hp:Ca K H ps (F a))(hq:Ar K H q (QZ x))
  (hF:∀b,F' b=if a=b then F b++[x] else F b):Di K (Ai H l (.lst ((ps++[q]).map V.ref))) ls A F':=by
 refine⟨g.n,g.nd,λi b k h1 h2=>?_⟩
 by_cases e:i=j
 ·subst e;rw[hj]at h1;rw[hl]at h2;cases h1;cases h2;refine⟨_,AF,?_⟩;rw[hF,qD rfl];exact Paired.app (Ca.upd h hp) (.cons (Ar.updL h hq) .nil)
 ·have nk:k≠l:=λz=>by
   have a1:=ae.mp h2;have a2:=ae.mp hl;exact e ((dG (h₀:=a1.1) (h₁:=a2.1) g.nd).mp (by rw[a1.2,a2.2,z]))
  have nb:¬a=b:=λz=>by have a1:=ae.mp h1;have a2:=ae.mp hj;exact e ((dG (h₀:=a1.1) (h₁:=a2.1) nd).mp (by rw[a1.2,a2.2,z]))
  obtain⟨ps',h3,h4⟩:=g.e i b k h1 h2;refine⟨ps',by rw[AR nk];exact h3,?_⟩;rw[hF,qC nb];exact Ca.upd h h4
end
variable{G:Nat}
theorem Qe{h:Nat}{W:List (qS)}{x:qS}(hx:W[i]?=some x)(b:qS):Gf G h (W.take (i+1)) b=if LI (x.1/G,x.2/G)=b then Gf G h (W.take i) b++[LI (x.1%h,x.2%h)] else Gf G h (W.take i) b:=by
 unfold Gf;rw[bV,hx,cI,az]
 by_cases e:LI (x.1/G,x.2/G)=b
 ·rw[qD e,show (some x).toList=[x] from rfl,Qc (p:=λx:Nat×Nat=>decide (LI (x.1/G,x.2/G)=b)) (qF e)];rfl
 ·rw[qC e,show (some x).toList=[x] from rfl,NT (p:=λx:Nat×Nat=>decide (LI (x.1/G,x.2/G)=b)) (qG e)];exact bO _
theorem NU(G h:Nat)(W:List (qS))(p:qS):(Gf G h W p).length<=W.length:=by unfold Gf;rw[aW];exact cW ..
structure NV(A:List (qS))(F:qS->List (qS))(A2:List (qS))(B:qS->List (qS)):Prop where
 nd:A2.Nodup
 all:∀p,p∈A2↔p∈A
 on:∀p q,q∈B p↔q∈A/\p∈F q
 len:∀p,(B p).length<=7000000
inductive KG(P:qO)(w:qP)(K:qQ)(vs:List V)(H:Hp)(Q:VK)(z3_:XK):Prop
 |m (d:qM) (u:HO) (ls:List qM) (A:List (qS)) (F:qS->List (qS)):vs=[.ref d]->DR P w K H d u (Ao A (ls.map V.ref))->Di K H ls A F->A.Nodup->(∀a∈A,∀p∈F a,p∈A)->A.length<=100->(∀a∈A,(F a).length<=70000)->(∀u' H' d2 ls2 A2 B,AJ (Ai H d u') H'->DR P w K H' d u' (Ao A (ls.map V.ref))->H d2=none->(∀l∈ls2,H l=none)->DW P w K H' d2 (Ao A2 (ls2.map V.ref))->Di K H' ls2 A2 B->NV A F A2 B->Q (.ref d2) H')->KG P w K vs H Q z3_
variable{d2:qM}
section
variable{P:qO}{w:qP}{K:qQ}{u:HO}
theorem DR.updL(z:DR P w K H d u kvs)(hl:H l=some (.lst xs))(v:HO):DR P w K (Ai H l v) d u kvs:=by
 refine byG λGq hGq=>?_;obtain⟨bs,h1,h2,h3,h4⟩:=z;refine hGq ?_;clear hGq Gq
 have ne:d≠l:=by
  refine Eg h1 hl λy=>?_;rcases h2 with e|⟨o,e⟩
  ·rw[e]at y;cases y
  ·rw[e]at y;cases y
 exact⟨bs,by rw[AR ne];exact h1,h2,h3,λp hp=>Ar.updL hl (h4 p hp)⟩
theorem DR.updX(z:DR P w K H d u kvs){kvs2:List (List BQ×V)}(x:DW P w K H d2 kvs2)(ne:d≠d2)(v:HO):DR P w K (Ai H d2 v) d u kvs:=by refine byG λGq hGq=>?_;obtain⟨bs,h1,h2,h3,h4⟩:=z;refine hGq ?_;clear hGq Gq;obtain⟨bs2,g1,_⟩:=x;exact⟨bs,by rw[AR ne];exact h1,h2,h3,λp hp=>(h4 p hp).upd' g1⟩
end
def TU(P:qO)(w:qP)(K:qQ)(H HX:Hp)(d2:qM)(A2:List (qS))(B:qS->List (qS)):Prop:=∃ls2:List qM,(∀l∈ls2,H l=none)/\DW P w K HX d2 (Ao A2 (ls2.map V.ref))/\Di K HX ls2 A2 B
variable{B:qS->List (qS)}{A2:List (qS)}
theorem Qf{P:qO}{w:qP}{K:qQ}{HX:Hp}{ls2:List qM}{k:qS}{u:HO}(ln:∀l∈ls2,H l=none)(w0:DW P w K HX d2 (Ao A2 (ls2.map V.ref)))(g:Di K HX ls2 A2 B)(hl:HX l=some (.lst []))(nl:l∉ls2)(h0:H l=none)(hk:k∉A2)(hB:B k=[])
  (w1:DW P w K (Ai HX d2 u) d2 (CF (Ao A2 (ls2.map V.ref)) (BZ k) (.ref l))):(∀x∈ls2++[l],H x=none)/\DW P w K (Ai HX d2 u) d2 (Ao (A2++[k]) ((ls2++[l]).map V.ref))/\Di K (Ai HX d2 u) (ls2++[l]) (A2++[k]) B:=by
 rw[Hs (by rw[aW];exact g.n) hk]at w1;refine⟨λx hx=>?_,by rw[az];exact w1,(w0.grl g u).snoc nl (w0.lst hl u) hB⟩;rcases ar.mp hx with z|z
 ·exact ln x z
 ·rw[ak.mp z];exact h0
theorem TU.put{P:qO}{w:qP}{K:qQ}{HX:Hp}{ls2:List qM}{k:qS}{u:HO}(ln:∀l∈ls2,H l=none)(w0:DW P w K HX d2 (Ao A2 (ls2.map V.ref)))(g:Di K HX ls2 A2 B)(hl:HX l=some (.lst []))(nl:l∉ls2)(h0:H l=none)(hk:k∉A2)(hB:B k=[])
  (w1:DW P w K (Ai HX d2 u) d2 (CF (Ao A2 (ls2.map V.ref)) (BZ k) (.ref l))):TU P w K H (Ai HX d2 u) d2 (A2++[k]) B:=⟨_,Qf ln w0 g hl nl h0 hk hB w1⟩
structure O5(A:List (qS))(F:qS->List (qS))(i:Nat)(D:(qS)->(qS)->Prop)(n:Nat)(A2:List (qS))(B:qS->List (qS)):Prop where
 nd:A2.Nodup
 sub:∀p∈A2,p∈A
 got:∀p∈A.take i,p∈A2
 no:∀p,p∉A2->B p=[]
 on:∀p q,q∈B p↔(q∈A.take i/\p∈F q)\/D p q
 len:∀p,(B p).length<=n
theorem O5.key{A:List (qS)}{n:Nat}{D:(qS)->(qS)->Prop}(t:O5 A F i D n A2 B){k:qS}(hk:k∉A2)(hA:k∈A):O5 A F i D n (A2++[k]) B where
 nd:=cL.mpr ⟨t.nd,b9.mpr ⟨ax,dE⟩,λx hx y hy e=>hk (by rw[<-ak.mp hy,<-e];exact hx)⟩
 sub:=λp hp=>(ar.mp hp).elim (t.sub p) λz=>by rw[ak.mp z];exact hA
 got:=λp hp=>ar.mpr (.inl (t.got p hp))
 no:=λp hp=>t.no p λz=>hp (ar.mpr (.inl z))
 on:=t.on
 len:=t.len
section
variable{P:qO}{w:qP}{K:qQ}{u:HO}
theorem DR.isX(z:DR P w K H d u kvs):∃φ,H d=some u/\(u=.ext φ\/∃o,u=.frz o (.ext φ)):=by refine byG λGq hGq=>?_;obtain⟨bs,h1,h2,_⟩:=z;refine hGq ?_;clear hGq Gq;exact⟨_,h1,h2⟩
theorem DR.sqt(z:DR P w K H d u kvs)(q:Ar K H a xs)(v:HO):Ar K (Ai H d v) a xs:=by
 obtain⟨φ,h1,h2⟩:=z.isX;have ne:∀{b:qM} {y:HO},H b=some y->y≠u->b≠d:=λ{b y} hb n e=>n (by rw[e,h1]at hb;exact (Option.some.inj hb).symm)
 rcases q with (y|⟨o,y⟩)|y
 ·exact .inl (.inl (by rw[AR (ne y (by rcases h2 with e|⟨o',e⟩<;>rw[e]<;>exact λt=>nomatch t))];exact y))
 ·exact .inl (.inr ⟨o,by rw[AR (ne y (by rcases h2 with e|⟨o',e⟩<;>rw[e]<;>intro t<;>cases t))];exact y⟩)
 ·exact .inr y
theorem DR.lst(z:DR P w K H d u kvs){b:qM}(h:H b=some (.lst xs))(v:HO):Ai H d v b=some (.lst xs):=by
 obtain⟨φ,h1,h2⟩:=z.isX
 have ne:b≠d:=λe=>by rw[e,h1]at h;have h:=Option.some.inj h;rcases h2 with t|⟨o,t⟩<;>rw[t]at h<;>cases h
 rw[AR ne];exact h
theorem DR.grl(z:DR P w K H d u kvs){A:List (qS)}(g:Di K H ls A F)(v:HO):Di K (Ai H d v) ls A F:=
 ⟨g.n,g.nd,λi a l h1 h2=>by obtain⟨ps,h3,h4⟩:=g.e i a l h1 h2;exact⟨ps,z.lst h3 v,Paired.mapP h4 λ_ _ y=>z.sqt y v⟩⟩
theorem Di.keep{A:List (qS)}(g:Di K H ls A F)(hl:H l=some (.lst xs))(nl:l∉ls)(v:HO):Di K (Ai H l v) ls A F:=
 ⟨g.n,g.nd,λi a k h1 h2=>by obtain⟨ps,h3,h4⟩:=g.e i a k h1 h2;exact⟨ps,by rw[AR λe=>nl (by rw[<-e];exact a8 h2)];exact h3,Ca.upd hl h4⟩⟩
theorem AJ.both{H0:Hp}(e:AJ H H0)(d:qM)(v:HO):AJ (Ai H d v) (Ai H0 d v):=λb y h=>by
 by_cases z:b=d
 ·subst z;rw[AF]at h⊢;exact h
 ·rw[AR z]at h⊢;exact e b y h
end
theorem KH{A:List (qS)}{k:List BQ}{v:V}(h:(Ao A (ls.map V.ref))[i]?=some (k,v)):∃a l,A[i]?=some a/\ls[i]?=some l/\k=BZ a/\v=.ref l:=by
 unfold Ao at h;rw[List.getElem?_zipWith,ay]at h;cases ha:A[i]? with
 |none=>rw[ha]at h;simp at h
 |some a =>
  cases hl:ls[i]? with
  |none=>rw[ha,hl]at h;simp at h
  |some l =>
   rw[ha,hl]at h;simp at h;exact⟨a,l,rfl,rfl,h.1.symm,h.2.symm⟩
theorem O5.push{A:List (qS)}{n:Nat}{a p0:qS}(t:O5 A F i (λp q=>q=a/\p∈L.take j) n A2 B)(hp:L[j]?=some p0)(m:p0∈A2):O5 A F i (λp q=>q=a/\p∈L.take (j+1)) (n+1) A2 (λp=>if p0=p then B p++[a] else B p) where
 nd:=t.nd
 sub:=t.sub
 got:=t.got
 no:=λp h=>by rw[qC λe=>h (by rw[<-e];exact m)];exact t.no p h
 on:=λp q=>by
  rw[bV,hp,show (some p0).toList=[p0] from rfl,ar,ak]
  by_cases e:p0=p
  ·rw[qD e,ar,ak,t.on];constructor
   ·rintro ((h|⟨h1,h2⟩)|h)
    ·exact .inl h
    ·exact .inr ⟨h1,.inl h2⟩
    ·exact .inr ⟨h,.inr e.symm⟩
   ·rintro (h|⟨h1,_⟩)
    ·exact .inl (.inl h)
    ·exact .inr h1
  ·rw[qC e,t.on];constructor
   ·rintro (h|⟨h1,h2⟩)
    ·exact .inl h
    ·exact .inr ⟨h1,.inl h2⟩
   ·rintro (h|⟨h1,h2|h2⟩)
    ·exact .inl h
    ·exact .inr ⟨h1,h2⟩
    ·exact qE h2.symm e
 len:=λp=>by
  have:=t.len p
  by_cases e:p0=p
  ·rw[qD e,ac,bi];lia
  ·rw[qC e];lia
structure NW(A:List (qS))(B:qS->List (qS))(M:List (qS))(f:qS->Nat):Prop where
 nd:M.Nodup
 sub:∀p∈M,p∈A
 low:∀p∈M,∀q∈B p,q∈M/\f q<f p
 top:∀p∈M,f p=0\/∃q∈B p,q∈M/\f p=f q+1
 rest:∀p∈A,p∉M->∃q∈B p,q∉M
 few:∀p∈M,f p<=A.length
inductive MV(P:qO)(w:qP)(K:qQ)(vs:List V)(H:Hp)(Q:VK)(z3_:XK):Prop
 |m (d:qM) (u:HO) (ls:List qM) (A:List (qS)) (B:qS->List (qS)):vs=[.ref d]->DR P w K H d u (Ao A (ls.map V.ref))->Di K H ls A B->A.Nodup->(∀a∈A,∀p∈B a,p∈A)->A.length<=100->(∀a∈A,(B a).length<=7000000)->(∀u' H' d2 M f,AJ (Ai H d u') H'->DR P w K H' d u' (Ao A (ls.map V.ref))->H d2=none->DW P w K H' d2 (Ao M (M.map λp=>V.int (f p:Int)))->NW A B M f->Q (.ref d2) H')->MV P w K vs H Q z3_
theorem MW{K:qQ}(h:X.K=K)(hc:X.calm=true):CH X (.builtin "all") (λxs H Q=>∃(p:qM) (bs:List Bool),xs=[.ref p]/\Ag K H p (bs.map V.bl)/\Q (.bl (bs.all id)) H):=h▸EF hc
theorem Qg{K:qQ}{l:Expr}(h:X.K=K)(hl:PE X l tl):PI X tg l (O9 K tl):=h▸Mm hl
structure Qh(A:List (qS))(B:qS->List (qS))(M:List (qS))(f:qS->Nat)(FL:List (qS))(n:Nat):Prop where
 nd:M.Nodup
 sub:∀p∈M,p∈A
 ndF:FL.Nodup
 on:∀p,p∈FL↔p∈A/\p∉M/\∀q∈B p,q∈M
 lt:∀p∈M,f p<n
 low:∀p∈M,∀q∈B p,q∈M/\f q<f p
 top:∀p∈M,f p=0\/∃q∈B p,q∈M/\f p=f q+1
 due:∀p∈FL,n=0\/∃q∈B p,q∈M/\n=f q+1
 le:n<=M.length
theorem Qi{A:List (qS)}(nd:A.Nodup)(f:qS->Nat):Qh A B [] f (A.filter λp=>decide (B p=[])) 0 where
 nd:=dE
 sub:=λp hp=>qE hp ax
 ndF:=nd.filter _
 on:=λp=>by
  rw[bR,decide_eq_true_eq];refine and_congr Iff.rfl ⟨λe=>⟨ax,λq hq=>?_⟩,λ⟨_,e⟩=>?_⟩
  ·rw[e]at hq;exact hq
  ·exact List.eq_nil_iff_forall_not_mem.mpr λq hq=>qE (e q hq) ax
 lt:=λp hp=>qE hp ax
 low:=λp hp=>qE hp ax
 top:=λp hp=>qE hp ax
 due:=λ_ _=>.inl rfl
 le:=af _
noncomputable def Uc(M:List (qS))(f:qS->Nat)(n:Nat):qS->Nat:=λp=>if p∈M then f p else n
variable{M:List (qS)}{f:qS->Nat}
theorem Ds{n:Nat}(h:p∈M):Uc M f n p=f p:=qD h
theorem Fo{n:Nat}(h:p∉M):Uc M f n p=n:=qC h
theorem Qh.step{A:List (qS)}{FL:List (qS)}{n:Nat}(m:Qh A B M f FL n)(ndA:A.Nodup)(h:FL≠[]):
  Qh A B (M++FL) (Uc M f n) (A.filter λp=>decide (p∉M++FL)&&decide (∀q∈B p,q∈M++FL)) (n+1):=by
 have out:∀p∈FL,p∉M:=λp hp=>((m.on p).mp hp).2.1
 refine⟨cL.mpr ⟨m.nd,m.ndF,λx hx y hy e=>out y hy (by rw[<-e];exact hx)⟩,λp hp=>?_,ndA.filter _,λp=>?_,λp hp=>?_,λp hp q hq=>?_,λp hp=>?_,λp hp=>?_,?_⟩
 ·rcases ar.mp hp with z|z
  ·exact m.sub p z
  ·exact ((m.on p).mp z).1
 ·rw[bR,au,decide_eq_true_eq,decide_eq_true_eq]
 ·rcases ar.mp hp with z|z
  ·rw[Ds z];have:=m.lt p z;lia
  ·rw[Fo (out p z)];lia
 ·rcases ar.mp hp with z|z
  ·obtain⟨h1,h2⟩:=m.low p z q hq;rw[Ds z,Ds h1];exact⟨ar.mpr (.inl h1),h2⟩
  ·have h1:=((m.on p).mp z).2.2 q hq;rw[Fo (out p z),Ds h1];exact⟨ar.mpr (.inl h1),m.lt q h1⟩
 ·rcases ar.mp hp with z|z
  ·rcases m.top p z with e|⟨q,hq,h1,e⟩
   ·rw[Ds z];exact .inl e
   ·exact .inr ⟨q,hq,ar.mpr (.inl h1),by rw[Ds z,Ds h1];exact e⟩
  ·rw[Fo (out p z)];rcases m.due p z with e|⟨q,hq,h1,e⟩
   ·exact .inl e
   ·exact .inr ⟨q,hq,ar.mpr (.inl h1),by rw[Ds h1];exact e⟩
 ·rw[bR,au,decide_eq_true_eq,decide_eq_true_eq]at hp;obtain⟨pA,pn,pq⟩:=hp;refine .inr ?_
  by_cases all:∀q∈B p,q∈M
  ·exact qE (ar.mpr (.inr ((m.on p).mpr ⟨pA,λz=>pn (ar.mpr (.inl z)),all⟩))) pn
  ·obtain⟨q,hq⟩:=Classical.not_forall.mp all;obtain⟨hq,nq⟩:=Classical.not_imp.mp hq;exact⟨q,hq,pq q hq,by rw[Fo nq]⟩
 ·have:0<FL.length:=List.length_pos_iff.mpr h;have:=m.le;rw[ac];lia
theorem Qh.few{A:List (qS)}{FL:List (qS)}{n:Nat}(m:Qh A B M f FL n):M.length+FL.length<=A.length:=by
 rw[<-ac];refine (cL.mpr ⟨m.nd,m.ndF,λx hx y hy e=>((m.on y).mp hy).2.1 (by rw[<-e];exact hx)⟩).length_le_of_subset λp hp=>?_;rcases ar.mp hp with z|z
 ·exact m.sub p z
 ·exact ((m.on p).mp z).1
theorem Qh.done{A:List (qS)}{n:Nat}(m:Qh A B M f [] n):NW A B M f where
 nd:=m.nd
 sub:=m.sub
 low:=m.low
 top:=m.top
 rest:=λp hp np=>by
  by_cases all:∀q∈B p,q∈M
  ·exact qE ((m.on p).mpr ⟨hp,np,all⟩) ax
  ·obtain⟨q,hq⟩:=Classical.not_forall.mp all;obtain⟨hq,nq⟩:=Classical.not_imp.mp hq;exact⟨q,hq,nq⟩
 few:=λp hp=>by have:=m.lt p hp;have:=m.le;have:=m.few;lia
def ZP(P:qO)(w:qP)(K:qQ)(H:Hp)(d d2:qM)(ls:List qM)(A:List (qS))(B:qS->List (qS))(D:qM)(M:List (qS))(f:qS->Nat)(FL:List (qS))(HX:Hp):Prop:=
 ∃u' ps,AJ (Ai H d u') HX/\DR P w K HX d u' (Ao A (ls.map V.ref))/\Di K HX ls A B/\H D=none/\HX D=some (.lst (ps.map V.ref))/\Ca K HX ps FL/\DW P w K HX d2 (Ao M (M.map λp=>V.int (f p:Int)))
theorem Hv:(BY (Ao M (M.map λp=>V.int (f p:Int))) (BZ p)).isSome=decide (p∈M):=by
 by_cases h:p∈M
 ·obtain⟨i,hi⟩:=bT.mp h;rw[qF h]
  suffices ∀(M:List (qS)),p∈M->(BY (Ao M (M.map λp=>V.int (f p:Int))) (BZ p)).isSome=true from this M h
  intro M
  induction M with
  |nil=>intro z;exact qE z ax
  |cons a M ih =>
   intro z;show (BY ((BZ a,V.int (f a:Int))::Ao M (M.map λp=>V.int (f p:Int))) (BZ p)).isSome=true
   by_cases e:a=p
   ·rw[C0 (show (BZ a,V.int (f a:Int)).1=BZ p by rw[e])];rfl
   ·rw[C1 (show ¬(BZ a,V.int (f a:Int)).1=BZ p from λy=>e (Hr y))];exact ih ((aw.mp z).resolve_left λy=>e y.symm)
 ·rw[Dg h,qG h];rfl
theorem JH{L:List α}{a:α}{p:α->Bool}(h:L[i]?=some a):(L.take (i+1)).filter p=(L.take i).filter p++(if p a=true then[a] else[]):=by
 rw[bV,h,show (some a).toList=[a] from rfl,cI]
 by_cases e:p a=true
 ·rw[qD e,Qc e]
 ·rw[qC e,NT (by cases z:p a;rfl;exact qE z e)]
end L2
namespace L2
open PySem PySem.Spec PyProof.Rows
end L2
namespace PySem
open Sem (wp)
open PyProof.Rows
section
variable{prog:qO}{w:qP}{K:Type}[DecidableEq K]{knd:KeyKind prog w K}{A:Around}{E:qL->qN->Prop}{s:qN}
theorem collect_dS{R:List qL->qN->Prop}{d:qM}{kvs:List (K×qL)}{ep:Nat}(hh:A.handled=none)(hm:(d==sysModules)=false)(hr:s.heap.DictAt knd d kvs ep)(hlen:kvs.length<=sizeLine)
  (q:∀h' tk d8,s.heap.objs.size<h'.objs.size->(∀b o,s.heap.get? b=some o->h'.get? b=some o)->ItemsOf (λi v=>∃k x,kvs[i]?=some (k,x)/\knd.is k v=true) d8 kvs.length->R d8.toList {s with heap:=h',toks:=tk}):wpAny (model prog w) A (collect (.ref d)) R E s:=by
 unfold collect;apply qA;apply wpAny_runValue;refine codeAny_builtin F.entry_proto_collect ?_;rw[A.under_plainId F.plain_proto_collect];show wpAny _ A.in1 (newList [] >>= λz=>again (.builtin "list.__iadd__" ⟨[z,.ref d],[]⟩)) _ _ s;apply qA;refine wpAny_newObj_type ?_;apply qB;refine⟨plainId_quiet F.plain_list_iadd _,?_⟩;refine codeAny_builtin F.entry_list_iadd ?_;rw[A.under_plainId F.plain_list_iadd];generalize hS:s.heap.objs.size=S;generalize hG:s.heap.push {cls:=.type "list",data:=.seq ([]:List qL).toArray}=G;have gS:G.get? S=some {cls:=.type "list",data:=.seq #[] 0}:=by rw[<-hG,<-hS];exact aj _ rfl
 have gk:∀b o,s.heap.get? b=some o->G.get? b=some o:=λb o e=>by rw[<-hG];exact aZ _ e
 show wpAny _ A.in1 (Builtin.List.listExtendWith (.ref S) (.ref d) (.ref S)) _ _ _;refine qH (extend_dict (A:=A) (s:={s with heap:=G}) (knd:=knd) (R:=λx s'=>x=.ok (.ret (.ref S))/\∃(h':Heap) (tk:Nat) (d8:Array qL) (c':Nat),s'={s with heap:=h',toks:=tk}/\(∀b o,s.heap.get? b=some o->h'.get? b=some o)/\h'.get? S=some {cls:=.type "list",dict:=none,data:=.seq d8 c',slots:=#[]}/\ItemsOf (λi v=>∃k x,kvs[i]?=some (k,x)/\knd.is k v=true) d8 kvs.length) hh hm (hr.at' λo e=>gk d o e) hlen S (.ref S) 0 gS λh' tk d8 c' hk hS' hacc=>⟨rfl,h',tk,d8,c',rfl,λb o e=>hk b o (λz=>?_) (gk b o e),hS',hacc⟩) (λfin s' h=>?_) (λe s' h=>?_)
 ·have:=ag e;rw[z,hS]at this;exact bM _ this
 ·have last:∀(x:Result) (s':qN),(x=.ok (.ret (.ref S))/\∃(h':Heap) (tk:Nat) (d8:Array qL) (c':Nat),s'={s with heap:=h',toks:=tk}/\(∀b o,s.heap.get? b=some o->h'.get? b=some o)/\h'.get? S=some {cls:=.type "list",dict:=none,data:=.seq d8 c',slots:=#[]}/\ItemsOf (λi v=>∃k x,kvs[i]?=some (k,x)/\knd.is k v=true) d8 kvs.length)->wpAny (model prog w) A (match Value.ref S with
    |Value.ref a=>do
     match (<-load a).data with
      |Data.seq xs _=>pure xs.toList
      |_=>unsupported "internal:collect"
    |_=>unsupported "internal:collect") R E s':=by
   rintro x s' ⟨rfl,h',tk,d8,c',rfl,hk,hS',hacc⟩;show wpAny _ A (load S >>= _) _ _ _;apply qA;refine wpAny_load hS' ?_;exact qB (q h' tk d8 (by rw[hS];exact ag hS') hk hacc)
  cases fin with
  |done f =>
   have e:=h.1;cases e;exact last _ _ h
  |again c'=>exact⟨h.1,codeAny_mono h.2 λx s2 hx=>by have e:=hx.1;subst e;exact last _ _ hx⟩
 ·exact nomatch h.1
end
end PySem
namespace L2
open PySem PySem.Spec PyProof.Rows
variable{E Q:qL->qN->Prop}{X:Cx}{d:qM}{s:qN}
section
variable{prog:qO}{w:qP}{A:Around}
theorem MX{w:qP}{P:qO}{kvs:List (BQ×qL)}{A:List Str}{d8:Array qL}(hA:kvs.map (·.1)=A.map Sum.inr)(h:ItemsOf (λi v=>∃k x,kvs[i]?=some (k,x)/\(A6 P w).is k v=true) d8 kvs.length):StrsAre d8.toList A:=by
 have ln:A.length=kvs.length:=by have z:=qK List.length hA;simpa using z.symm
 have vl:Au (A.map V.str) d8.toList:=by refine Mx (by have z:=h.1;rw[List.length_map,ln];simp only[Array.length_toList];lia) λi x u e1 e2=>?_;obtain⟨k,x',hk,is⟩:=h.2 i u (by simpa using e2);rw[ay]at e1;obtain⟨a,ha,rfl⟩:=bH.mp e1;have z:=qK (λl=>l[i]?) hA;simp only[List.getElem?_map,hk,ha,Option.map_some]at z;rw[show k=Sum.inr a from Option.some.inj z]at is;exact W8 is
 exact Gv vl
theorem Fp{vs:List qL}{ns:List Str}(h:StrsAre vs ns):Au (ns.map V.str) vs:=by
 induction h with
 |nil=>exact .nil
 |cons n t _ ih=>exact .cons ⟨t,rfl⟩ ih
theorem MY{kvs:List (BQ×qL)}{ep:Nat}{A':List Str}(hh:A.handled=none)(hm:(d==sysModules)=false)(hr:s.heap.DictAt (A6 prog w) d kvs ep)(hA:kvs.map (·.1)=A'.map Sum.inr)(hlen:kvs.length<64)
  (h:∀(D:qM) (h':Heap) (tk:Nat) (out:Array qL) (ss:List Str) (e:Nat),s.heap.objs.size<=D->(∀b o,s.heap.get? b=some o->h'.get? b=some o)->h'.get? D=some (seqObj "list" out e)->StrsAre out.toList ss->ss.Perm A'->sortedS ss=true->Q (.ref D) {s with heap:=h',toks:=tk}):
  wpAny (model prog w) A (call (.builtin "sorted") [.ref d]) Q E s:=by
 refine Calls.call_function_entry kind_sorted plain_sorted entry_sorted (args_sorted1 _) ?_;unfold Builtin.«sorted»;refine qA (m:=checkCount "sorted" 1 1 _) (qB (qA (collect_dS (A:=A.in1) hh hm hr (by rw[sizeLine_eq];lia) λh' tk d8 sl kp hacc=>?_)));have hS:=MX hA hacc;have zl:d8.toList.length<64:=by rw[ai,hacc.1];exact hlen
 refine qA (wpAny_newList ?_);have gL:(h'.push (seqObj "list" d8.toList.toArray 0)).get? h'.objs.size=some (seqObj "list" d8.toList.toArray 0):=aj _ rfl;show wpAny _ _ _ _ _ {s with heap:=h'.push (seqObj "list" d8.toList.toArray 0),toks:=tk};refine qA (qJ (wpAny_call_entry slot_list_sort ⟨_,gL,rfl⟩ entry_list_sort (list_sort_treeK strKind_oneLt gL hS.keysOf (λv₁ v₂ rest e=>keyKind_strs (by rw[<-e];exact hS)) zl λst' a1 a2=>⟨_,rfl,?_⟩) (args_list_sort _)));obtain⟨ss',b1,b2,b3⟩:=sorted_out_str hS a1 a2;obtain⟨e,he⟩:=sortedHeap_at (out:=(arrOf st').map (·.2)) gL;refine qB ⟨_,rfl,h _ _ _ _ ss' e ?_ (λc o z=>?_) he b1 b2 b3⟩
 ·exact cM sl
 ·have lt:=ag (kp c o z);rw[sortedHeap_old (bA lt) (by rw[size_push'];exact dB lt)];exact aZ _ (kp c o z)
end
theorem MZ{K:qQ}(hK:X.K=K):CH X (.builtin "sorted") (λxs H Q=>∃(a:qM) (ys:List Str),xs=[.ref a]/\Ag K H a (ys.map V.str)/\ys.length<64/\∀D zs,H D=none->zs.Perm ys->sortedS zs=true->Q (.ref D) (Ai H D (.lst (zs.map V.str)))):=by subst hK;intro ad s σ H xs us Q I r h;obtain⟨a,ys,rfl,ha,l64,q⟩:=h;obtain⟨u,rfl,ru⟩:=DT r;cases ru;obtain⟨its,rv,pl,hz⟩:=I.list ha;have ln:=rv.length;rw[aW]at ln hz;refine sorted_strs (vs:=its) pl.isList (Gv rv) (by lia) λout zs hs hp ho=>?_;obtain⟨e,he⟩:=sortedAll_at s.heap its out;exact⟨.ref (s.heap.objs.size+1),_,I.laid (a:=s.heap.objs.size+1) (o:=.lst (zs.map V.str)) (t':=s.toks) (λb o g=>sortedAll_old g) (b8 _) ⟨by rw[aW,hp.length_eq];exact hz,out.toList,e,Fp hs,by rw[Array.toArray_toList];exact he⟩,rfl,q _ _ (I.hok.fresh (b8 _)) hp ho⟩
theorem LK(hc:X.calm=true):CH X (.builtin "sorted") (λxs H Q=>∃(d:qM) (kvs:List (BQ×V)) (A:List Str),xs=[.ref d]/\Rd H d (.dK kvs)/\kvs.map (·.1)=A.map Sum.inr/\kvs.length<64/\∀l zs,H l=none->zs.Perm A->sortedS zs=true->Q (.ref l) (Ai H l (.lst (zs.map V.str)))):=by
 intro ad s σ H xs us Q I r h;obtain⟨d,kvs,A,rfl,hd,hA,l64,q⟩:=h;obtain⟨u,rfl,ru⟩:=DT r;cases ru;obtain⟨z,hd,vs,rel,dd⟩:=LA I.hok hd;obtain⟨ep,da⟩:=dd.dictAt;have hl:=rel.length;refine MY (A':=A) (I.ok.hd hc) hd da ?_ (by lia) λD h' tk out zs e hD kp he hI hp ho=>?_
 ·rw[<-hA];apply List.ext_getElem?;intro i;rw[ay,ay];rcases e1:kvs[i]? with _|⟨k,v'⟩
  ·have:vs[i]?=none:=by rw[List.getElem?_eq_none_iff]at e1⊢;lia
   rw[this];rfl
  ·obtain⟨y,hy,ry⟩:=BS rel e1;rw[hy,Option.map_some,Option.map_some,show k=y.1 from ry.1]
 ·refine⟨.ref D,_,I.laid (t':=tk) kp hD (show An X.prog X.w _ h' _ (.lst (zs.map V.str)) from⟨?_,out.toList,e,Fp hI,by rw[Array.toArray_toList];exact he⟩),rfl,q D zs (I.hok.fresh hD) hp ho⟩;have y:=qK List.length hA;rw[aW,aW]at y;rw[aW,hp.length_eq,<-y];exact z
abbrev ZQ(a b:Str):Prop:=a.cps.toList<=b.cps.toList
theorem Op:∀{l:List Str} {p:Str},risingS p l=true->(p::l).Pairwise ZQ:=by
 intro l
 induction l with
 |nil=>intro p _;exact List.pairwise_singleton ..
 |cons x l ih =>
  intro p h;obtain⟨h1,h2⟩:=(au ..).mp (show (!ltCps x.cps.toList p.cps.toList&&risingS x l)=true from h)
  have px:ZQ p x:=by rw[ltCps_eq]at h1;exact of_decide_eq_false (Bool.not_eq_true' _ |>.mp h1)
  have r:=ih h2;refine cT.mpr ⟨λy hy=>?_,r⟩;rcases aw.mp hy with e|hy
  ·rw[e];exact px
  ·exact List.le_trans px ((cT.mp r).1 y hy)
theorem JI{l:List Str}(h:sortedS l=true):l.Pairwise ZQ:=by
 cases l with
 |nil=>exact .nil
 |cons x l=>exact Op h
theorem LL{l l':List Str}(h:sortedS l=true)(h':sortedS l'=true)(p:l.Perm l'):l=l':=by refine List.Perm.eq_of_pairwise (le:=ZQ) (λa b _ _ x y=>?_) (JI h) (JI h') p;have e:=List.le_antisymm x y;obtain⟨⟨a⟩⟩:=a;obtain⟨⟨b⟩⟩:=b;exact qK (λl=>Str.mk ⟨l⟩) e
end L2
namespace L2
open PySem PySem.Spec PyProof.Rows RW
variable{B:qS->List (qS)}{G:Nat}{M:List (qS)}{f:qS->Nat}{g:Int}{p q:qS}{d4:qR}{α:Type}
theorem Oq(hg:2<=g){m:Nat}(hl:(d4.length:Int)=g^m)(m1:1<=m):d4.length=d4.length/g.toNat*g.toNat:=by
 have z:d4.length%g.toNat=0:=by
  have e:g^m=g^(m-1)*g:=by rw[<-bX];congr 1;lia
  have:((d4.length%g.toNat:Nat):Int)=0:=by rw[Int.natCast_emod,hl,e,bh (by lia)];exact Int.mul_emod_left ..
  lia
 have:=Nat.div_add_mod d4.length g.toNat;rw[z,Nat.add_zero,dS]at this;exact this.symm
structure aQ(h:Nat)(S:qS->qS->Prop)(M:List (qS))(f:qS->Nat):Prop where
 nd:M.Nodup
 sub:∀p∈M,p∈Bo h
 low:∀p∈M,∀q,S q p->q∈M/\f q<f p
 top:∀p∈M,f p=0\/∃q,S q p/\q∈M/\f p=f q+1
 rest:∀p∈Bo h,p∉M->∃q,S q p/\q∈Bo h/\q∉M
 few:∀p∈M,f p<=100
theorem Hw{h:Nat}(h9:h<=9):(Bo h).length<=100:=by have a:=Fl h h;have b:=cj h9 h9;unfold Bo;rw[a9];lia
theorem NW.rk{h:Nat}(h9:h<=9){S:qS->qS->Prop}{A:List (qS)}(hA:∀p,p∈A↔p∈Bo h)(nA:A.Nodup)(hB:∀p∈Bo h,∀q,q∈B p↔S q p)(hS:∀p q,S q p->q∈Bo h)(m:NW A B M f):aQ h S M f where
 nd:=m.nd
 sub:=λp hp=>(hA p).mp (m.sub p hp)
 low:=λp hp q hq=>m.low p hp q ((hB p ((hA p).mp (m.sub p hp)) q).mpr hq)
 top:=λp hp=>(m.top p hp).imp id λ⟨q,h1,h2,h3⟩=>⟨q,(hB p ((hA p).mp (m.sub p hp)) q).mp h1,h2,h3⟩
 rest:=λp hp np=>by obtain⟨q,h1,h2⟩:=m.rest p ((hA p).mpr hp) np;have z:=(hB p hp q).mp h1;exact⟨q,z,hS p q z,h2⟩
 few:=λp hp=>by
  have a:=m.few p hp;have b:=nA.length_le_of_subset λq hq=>(hA q).mp hq
  have:=Hw h9;lia
theorem NX{h:Nat}(hl:d4.length=h*G):q∈Gf G h (Ef d4) p↔WI G h d4 p q:=by
 unfold Gf WI;rw[bL];constructor
 ·intro hRq;refine byG λGq hGq=>?_;obtain⟨⟨a,b⟩,hx,rfl⟩:=hRq;refine hGq ?_;clear hGq Gq;obtain⟨h1,h2⟩:=bR.mp hx;refine byG λGq hGq=>?_;obtain⟨ha,hb,ne,e⟩:=Hu.mp h1;refine hGq ?_;clear hGq Gq;exact⟨a,b,by lia,by lia,ne,e,(qI h2).symm,rfl⟩
 ·intro hRq;refine byG λGq hGq=>?_;obtain⟨a,b,ha,hb,ne,e,h1,h2⟩:=hRq;refine hGq ?_;clear hGq Gq;exact⟨(a,b),bR.mpr ⟨Hu.mpr ⟨by lia,by lia,ne,e⟩,qF h1.symm⟩,h2.symm⟩
theorem Fq{h:Nat}(h0:0<h)(s:WI G h d4 p q):p∈Bo h/\q∈Bo h:=by
 refine byG λGq hGq=>?_;obtain⟨a,b,ha,hb,ne,e,h1,h2⟩:=s;refine hGq ?_;clear hGq Gq;have c:∀{x:Nat},x<h*G->x/G<h:=λ{x} hx=>dP (by rw[dS];exact hx)
 rw[h1,h2];exact⟨KD (c ha) (c hb),KD (Nat.mod_lt _ h0) (Nat.mod_lt _ h0)⟩
theorem Ma[DecidableEq α]{M A:List α}(nM:M.Nodup)(sub:∀p∈M,p∈A)(le:A.length<=M.length):∀p∈A,p∈M:=λp hp=>by
 by_cases z:p∈M
 ·exact z
 ·have:=(b9.mpr ⟨z,nM⟩).length_le_of_subset (l₂:=A) λx hx=>(aw.mp hx).elim (λe=>by rw[e];exact hp) (sub x)
  rw[a9]at this;lia
inductive Hz(P:qO)(w:qP)(K:qQ)(vs:List V)(H:Hp)(Q:VK)(z3_:XK):Prop
 |m (r:qM) (g lo:Int) (d4:qR) (m:Nat):vs=[.ref r]->A4 H r g lo d4 m->g^(m-1)<=9->(∀d H' M f,AJ H H'->H d=none->DW P w K H' d (Ao M (M.map λp=>V.int (f p:Int)))->aQ (d4.length/g.toNat) (WI g.toNat (d4.length/g.toNat) d4) M f->Q (.ref d) H')->Hz P w K vs H Q z3_
end L2
namespace L2
open PySem PySem.Spec PyProof.Rows
variable{C a:qM}{CX:N8}{D:G1}{H:Hp}{X:Cx}{an od:Option qM}{doc oc pm u:qL}{es:List Expr}{fd:FuncData}{g lo:Int}{h:Heap}{k:Nat}{osl:Array (Option qL)}{ad:List (qM×Obj)}{pos:Pos}{ps:List Str}{qual x:Str}{s:qN}{st:Stmt}{d4:qR}{tl:TE}{us:List qL}{xs:List V}{α β:Type}{σ:St}
def JJ(mg:Str->Option qL)(h:Heap):Prop:=∃bm ob,mg "__builtins__"=some (.ref bm)/\bm≠builtinsNs/\h.get? bm=some ob/\ob.cls=.type "module"/\ob.dict=some builtinsNs/\ob.data=.plain
def TV(ts:List qM)(H:Hp):Prop:=(∀b,H b=none\/(∃o xs,H b=some (.frz o (.lst xs)))\/(b∈ts/\H b=some (.tbl #[])))/\∀b∈ts,H b=some (.tbl #[])
def Qj(K:qQ)(cts:List (qM×qM)):Prop:=∀q∈cts,PySem.W.codeHdIn K q.1 q.2=true/\K.lookup q.2=none
theorem Os{P:qO}{w:qP}{K:qQ}{mg mb:Str->Option qL}{CX:N8}{fa:qM}{fd:FuncData}{sp:Sp}{s₁:qN}{vs:List qL}{ns:qR}{cts:List (qM×qM)}
  (KX:K.In s₁.heap) (hns:s₁.heap.Ns mainGlobals mg) (hb:s₁.heap.Ns builtinsNs mb) (hbb:∀x:Str,x≠"__name__"->mb x=bootBuiltins x) (hlim:s₁.heap.NoLimit) (hbm:JJ mg s₁.heap) (hg:s₁.gens=#[])
  (hT:Qj K cts) (hT2:∀q∈cts,s₁.heap.get? q.2=some (PySem.W.tabObj #[]))
  (ha:s₁.heap.get? a=some {cls:=.type "list",data:=.seq vs.toArray}) (hi:IntsAre vs ns) (hl:ns.length<=sizeLine) (hr:BL k callerA)
  (F:∀base:Heap,K.In base->base.Ns mainGlobals mg->JJ mg base->DB P w K mg base CX k fa fd [x] sp) (hbind:∀(s:qN) (u:qL),BindsTo s fd ⟨[u],[]⟩ [(x,u)])
  (hsp:∀H:Hp,TV (cts.map (·.2)) H->Ag K H a (ns.map V.int)->sp [.ref a] H (λv _=>v=.bl true) λ_ _ _=>False)
  (hCX:∀H e s',CX [] H s₁ (λ_ _ _=>False) e s'->False):
  codeAny (model P w) callerA (.call (.ref fa) ⟨[.ref a],[]⟩) (λr s'=>r=.ok (.ret (.bool true))/\OldK s₁.heap s'.heap/\s'.os=s₁.os/\AllBare s'.gens) s₁:=by
 have rv:=Io hi;have lenV:=hi.length
 have atT:∀b∈cts.map (·.2),s₁.heap.get? b=some (PySem.W.tabObj #[])/\K.lookup b=none/\isCodeTable s₁.heap b:=λb hb=>by obtain⟨q,hq,rfl⟩:=bL.mp hb;exact⟨hT2 q hq,(hT q hq).2,((PySem.W.codeHd_of_K KX (hT q hq).1).tab (hT2 q hq)).isCodeTable⟩
 have aT:a∉cts.map (·.2):=λz=>by have e:=(atT a z).1;rw[ha]at e;cases e
 have core:∀H:Hp,TV (cts.map (·.2)) H->Ag K H a (ns.map V.int)->D4 P w H s₁.heap->(∀b,H b≠none->b=a\/b∈cts.map (·.2))->(H a≠none->K.lookup a=none) ->
   codeAny (model P w) callerA (.call (.ref fa) ⟨[.ref a],[]⟩) (λr s'=>r=.ok (.ret (.bool true))/\OldK s₁.heap s'.heap/\s'.os=s₁.os/\AllBare s'.gens) s₁:=by
  intro H hO hS hok hA hK;have base_of:∀{b:qM} {o:Obj},s₁.heap.get? b=some o->H b=none->(Em s₁.heap H).get? b=some o:=λe n=>KU e n
  have noA:∀{b:qM} {o:Obj},s₁.heap.get? b=some o->(∀xs n,o.data≠.seq xs n)->(∀xs,o.data≠.fields xs)->H b=none:=λ{b o} e d d2=>by
   cases q:H b with
   |none=>rfl
   |some u =>
    rcases hA b (by rw[q];simp) with e'|e'
    ·subst e';rw[ha]at e;cases e;exact (d _ _ rfl).elim
    ·rw[(atT b e').1]at e;cases e;exact (d2 _ rfl).elim
  have nsK:∀{b:qM} {m:Str->Option qL},s₁.heap.Ns b m->(Em s₁.heap H).Ns b m:=λ{b m} ⟨o,es,ep,e,d,r⟩=>⟨o,es,ep,base_of e (noA e (λ_ _ z=>by rw[d]at z;cases z) (λ_ z=>by rw[d]at z;cases z)),d,r⟩
  have hKb:K.In (Em s₁.heap H):=λb o e=>base_of (KX b o e) (by
   cases q:H b with
   |none=>rfl
   |some u =>
    rcases hA b (by rw[q];simp) with e'|e'
    ·subst e';rw[hK (by rw[q];simp)]at e;cases e
    ·rw[(atT b e').2.1]at e;cases e)
  have hM:WK K mg (Em s₁.heap H):=⟨hKb,nsK hns,⟨mb,nsK hb,hbb⟩,by obtain⟨mc,h1,h2⟩:=hlim;exact⟨mc,nsK h1,h2⟩⟩
  have hB:JJ mg (Em s₁.heap H):=by refine byG λGq hGq=>?_;obtain⟨bm,ob,b1,b2,b3,b4,b5,b6⟩:=hbm;refine hGq ?_;clear hGq Gq;exact⟨bm,ob,b1,b2,base_of b3 (noA b3 (λ_ _ z=>by rw[b6]at z;cases z) (λ_ z=>by rw[b6]at z;cases z)),b4,b5,b6⟩
  have e0:KZ P w K mg (Em s₁.heap H) callerA [] s₁ H:=⟨rfl,hM,λb o e=>Ml e,Nat.le_of_eq (Ie _ _),trivial,λb hb=>qE (show b∈([]:List qM) from hb) (by simp),hok,.of_eq hg⟩;refine codeAny_mono ((F _ hKb (nsK hns) hB).run callerA [] s₁ H ⟨[.ref a],[]⟩ [.ref a] [.ref a] _ _ hr e0 (hbind s₁ (.ref a)) (.cons rfl .nil) (hsp H hO hS)) λr s' h=>?_;cases r with
  |error e=>exact (hCX H e s' h).elim
  |ok fl =>
   cases fl with
   |next=>exact False.elim h
   |brk=>exact False.elim h
   |cont=>exact False.elim h
   |ret u =>
    refine byG λGq hGq=>?_;obtain⟨v,H',os,bare,un,hok',r',q⟩:=h;refine hGq ?_;clear hGq Gq;have q':v=.bl true:=q;subst q';obtain rfl:u=Value.bool true:=r'
    have keep:∀b o,s₁.heap.get? b=some o->b∉cts.map (·.2)->s'.heap.get? b=some o:=λb o e nb=>by
     cases q:H b with
     |none=>exact un.keep b o e q (by intro z;exact qE (show b∈([]:List qM) from z) (by simp)) (by simp)
     |some u =>
      rcases hO.1 b with z|⟨ob,xs,z⟩|⟨z,_⟩
      ·rw[q]at z;cases z
      ·have z2:=un.frzs b ob _ z;obtain⟨e1,_⟩:=hok b _ z;obtain⟨e2,_⟩:=hok' b _ z2;rw[e]at e1;cases e1;exact e2
      ·exact qE z nb
    have tabs:∀b∈cts.map (·.2),∃more,s'.heap.get? b=some {cls:=.none,data:=.fields ((#[]:Array qL)++more)}:=λb hb=>by obtain⟨more,z⟩:=un.tbls b #[] (hO.2 b hb);exact⟨more,hok' b _ z⟩
    refine⟨rfl,⟨λb o e=>?_,λb o e=>?_⟩,os,bare⟩
    ·by_cases hb:b∈cts.map (·.2)
     ·obtain⟨more,z⟩:=tabs b hb;have e1:=(atT b hb).1;rw[e]at e1;cases e1;exact .inr (.inl ⟨(atT b hb).2.2,rfl,#[],more,rfl,z⟩)
     ·exact .inl (keep b o e hb)
    ·by_cases hb:b∈cts.map (·.2)
     ·obtain⟨more,z⟩:=tabs b hb;exact⟨_,z⟩
     ·exact⟨o,keep b o e hb⟩
 cases hk:K.lookup a with
 |some o =>
  have e:=KX a o hk;rw[ha]at e;cases e;refine core (λb=>if b∈cts.map (·.2) then some (.tbl #[]) else none) ⟨λb=>?_,λb hb=>qD hb⟩ (.inr ⟨_,vs.toArray,_,hk,rfl,rfl,rfl,by rw[List.size_toArray,lenV];exact hl,by simpa using rv⟩) (λb u z=>?_) (λb z=>?_) λz=>qE (qC aT) z
  ·by_cases hb:b∈cts.map (·.2)
   ·exact .inr (.inr ⟨hb,qD hb⟩)
   ·exact .inl (qC hb)
  ·by_cases hb:b∈cts.map (·.2)
   ·have z':=(qD hb).symm.trans z;cases z';exact (atT b hb).1
   ·have z':=(qC hb).symm.trans z;cases z'
  ·by_cases hb:b∈cts.map (·.2)
   ·exact .inr hb
   ·exact qE (qC hb) z
 |none =>
  have at1:∀b,b∉cts.map (·.2)->b=a->(if b∈cts.map (·.2) then some (HO.tbl #[]) else if b=a then some (.frz {cls:=.type "list",data:=.seq vs.toArray} (.lst (ns.map V.int))) else none)=some (.frz {cls:=.type "list",data:=.seq vs.toArray} (.lst (ns.map V.int))):=λb h1 h2=>by rw[qC h1,qD h2]
  have at2:∀b,b∉cts.map (·.2)->b≠a->(if b∈cts.map (·.2) then some (HO.tbl #[]) else if b=a then some (.frz {cls:=.type "list",data:=.seq vs.toArray} (.lst (ns.map V.int))) else none)=none:=λb h1 h2=>by rw[qC h1,qC h2]
  refine core (λb=>if b∈cts.map (·.2) then some (.tbl #[]) else if b=a then some (.frz {cls:=.type "list",data:=.seq vs.toArray} (.lst (ns.map V.int))) else none) ⟨λb=>?_,λb hb=>qD hb⟩ (.inl (.inr ⟨{cls:=.type "list",data:=.seq vs.toArray},at1 a aT rfl⟩)) (λb u z=>?_) (λb z=>?_) λ_=>hk
  ·by_cases hb:b∈cts.map (·.2)
   ·exact .inr (.inr ⟨hb,qD hb⟩)
   ·by_cases hba:b=a
    ·exact .inr (.inl ⟨_,_,at1 b hb hba⟩)
    ·exact .inl (at2 b hb hba)
  ·by_cases hb:b∈cts.map (·.2)
   ·have z':=(qD hb).symm.trans z;cases z';exact (atT b hb).1
   ·by_cases hba:b=a
    ·have z':=(at1 b hb hba).symm.trans z;cases z';subst hba;exact⟨ha,by rw[aW];exact hl,vs,_,rv,ha⟩
    ·have z':=(at2 b hb hba).symm.trans z;cases z'
  ·by_cases hb:b∈cts.map (·.2)
   ·exact .inr hb
   ·by_cases hba:b=a
    ·exact .inl hba
    ·exact qE (at2 b hb hba) z
structure Ud(K:qQ)(x qual:Str)(st:Stmt)(f c Pt:qM)(fd:FuncData):Prop where
 ex:∃(oc:qL) (od:Option qM) (kV doc pm:qL) (an:Option qM) (ct:qL) (osl:Array (Option qL)),
  fd=PySem.W.fnOf x qual (B3 st) (BB st) (AG st) .none kV doc pm an (.ref c) ct/\K.lookup f=some ⟨oc,od,.func fd,osl⟩/\PySem.W.codeIn K (.ref c) qual=true
 kp:PySem.W.keepIn K (.ref f)=true
 hd:PySem.W.codeHdIn K c Pt=true
section
variable{P:qO}{w:qP}{K:qQ}{mg:Str->Option qL}{base:Heap}{f c Pt:qM}{N:List Str}{sp:Sp}
theorem XB(D:∃fd,Ud K x qual st f c Pt fd)(S:AM N ps (AG st))(bd:DY x qual st ps) (h:∀vs H Q E,sp vs H Q E->vs.length=ps.length /\
  ∀(A:Around) (outer:List Env) (s:qN),BL k (A.deeper (envOfC qual (AG st) s.heap.objs.size f (.ref c))) ->
   ∃t,FD (Cg (FC P w) P w K mg base N qual (AG st) f (.ref c) A outer s H E) (BB st) t/\t {nx:=λ_ H'=>Q .non H',rt:=Q} (B1 N vs) H):Aa P w K mg base (k+1) f ps sp:=by
 refine byG λGq hGq=>?_;obtain⟨fd,⟨oc,od,kV,doc,pm,an,ct,osl,rfl,lk,hcd⟩,kp,hd⟩:=D;refine hGq ?_;clear hGq Gq;exact⟨⟨_,PR lk hcd S (λvs H Q E q=>(h vs H Q E q).1) λA outer s H vs Q E hr q=>(h vs H Q E q).2 A outer s hr,.all (bd kV doc pm an (.ref c) ct)⟩,kp⟩
def NY(K:qQ)(x:Str)(st:Stmt)(f c Pt:qM):Prop:=(∃fd,Ud K x x st f c Pt fd)/\PySem.W.nsIn K mainGlobals x=some (some (.ref f))
theorem SS{kV ct:qL}(a:PySem.W.nsIn K mainGlobals x=some (some (.ref f)))
  (l:K.lookup f=some ⟨oc,od,.func (PySem.W.fnOf x x (B3 st) (BB st) (AG st) .none kV doc pm an (.ref c) ct),osl⟩) (e:PySem.W.codeIn K (.ref c) x=true) (k:PySem.W.keepIn K (.ref f)=true) (h:PySem.W.codeHdIn K c Pt=true):NY K x st f c Pt:=
 ⟨⟨_,⟨⟨oc,od,kV,doc,pm,an,ct,osl,rfl,l,e⟩,k,h⟩⟩,a⟩
end
theorem NZ{K:qQ}:∀{ts:List qM},(∀P∈ts,∃c,PySem.W.codeHdIn K c P=true)->(∀P∈ts,K.lookup P=none)->∃cts:List (qM×qM),cts.map (·.2)=ts/\Qj K cts
 |[],_,_=>⟨[],rfl,λq hq=>qE hq ax⟩
 |P::ts,h1,h2=>by
  obtain⟨c,hc⟩:=h1 P ah;obtain⟨cts,e,h⟩:=NZ (λP hP=>h1 P (aa _ hP)) λP hP=>h2 P (aa _ hP)
  refine⟨(c,P)::cts,by rw[bF,e],λq hq=>?_⟩;rcases aw.mp hq with z|z
  ·rw[z];exact⟨hc,h2 P ah⟩
  ·exact h q z
inductive KI(K:qQ)(ts:List qM)(vs:List V)(H:Hp)(Q:VK)(z3_:XK):Prop
 |m (a:qM) (ns:qR):vs=[.ref a]->Ag K H a (ns.map V.int)->ns.length<=63->(∀P∈ts,H P=some (.tbl #[]))->(∀H',Q (.bl true) H')->KI K ts vs H Q z3_
theorem Ot{l:PySem.W.OpenLaw}{n:Nat}{q:qO}{loose:List Str}{XP:(Str->Option qL)->Heap->Prop}{YP:qP->Heap->Prop}{d:DefRec}{K:Params->qQ}{ts:List qM}
  (hn:l.most=some 63) (hdf:d.params.defaults=[]) (hr:BL k callerA)
  (hY:∀(w:qP) (h:Heap),YP w h->(K w.params).In h/\∀P∈ts,h.get? P=some (PySem.W.tabObj #[])) (hT:∀w:qP,∀P∈ts,(K w.params).lookup P=none)
  (F:∀(w:qP) (mg:Str->Option qL) (fa:qM) (h:Heap),(K w.params).In h->h.Ns mainGlobals mg->mg d.name=some (.ref fa) ->
   (∀P∈ts,∃c,PySem.W.codeHdIn (K w.params) c P=true)/\∃fd:FuncData,(∀(s:qN) (u:qL),BindsTo s fd ⟨[u],[]⟩ [(x,u)]) /\
    ∀base:Heap,(K w.params).In base->base.Ns mainGlobals mg->JJ mg base->DB l.prog w (K w.params) mg base (FC l.prog w) k fa fd [x] (KI (K w.params) ts)):
  PySem.W.WalkO q loose XP YP l.row.toRowW d [] (λf vs=>PySem.call f vs):=by
 refine Att.attach_call hn hdf λw s₀ s₁ mg mb fa o pm cd doc a vs ns G Y ho hd hcd hmg hobj hints hlen hg=>?_;obtain⟨KX,TX⟩:=hY w _ Y;refine byG λGq hGq=>?_;obtain⟨hc,fd,hb,hF⟩:=F w mg fa _ KX G.T.g hmg;refine hGq ?_;clear hGq Gq;obtain⟨cts,rfl,hT'⟩:=NZ hc (hT w);exact Os KX G.T.g G.T.b G.T.builtins G.T.nolimit G.T.bmain hg hT' (λq hq=>TX _ (bL.mpr ⟨q,hq,rfl⟩)) hobj hints (bB hlen (by decide)) hr hF hb (λH hO hS=>⟨a,ns,rfl,hS,hlen,hO.2,λ_=>rfl⟩) (by rintro H e s' ⟨_,_,_,_,_,_,_,_,z⟩;exact z)
def Ue(C:qM)(m:Str)(sp:Sp)(E:St->XK)(ta:TE)(t:TA):TE:=λσ H Q=>ta σ H λx H1=>∃a dx fs,x=.ref a/\H1 a=some (.ins C dx fs)/\fs.lookup m=none/\t σ H1 λvs H2=>sp (x::vs) H2 Q (E σ)
section
variable{f:qM}{sp:Sp}{E:St->XK}{m:Str}{p apos:Pos}{e o:Expr}{ta ta':TE}{t:TA}
theorem Na{Q:VK}{vs:List V}(F:DB X.prog X.w X.K X.mg X.base CX k f fd ps sp)(hr:BL k X.A)(hb:DH X.K fd ps [])(hx:Bn CX X E)
  (I:AX X ad σ H s) (r:Au vs us) (h:sp vs H Q (E σ)):wpAny (model X.prog X.w) X.A (call (.ref f) us) (EP X ad σ Q) X.xe s:=by
 have hl:(us++[]).length=ps.length:=by rw[bO,<-r.length];exact F.len _ _ _ _ h
 have hb':=hb s us I.kIn hl;rw[bO]at hb';refine wpAny_call (codeAny_mono (F.run X.A X.stack s H ⟨us,[]⟩ us vs Q (E σ) hr I.env0 hb' r h) λrs s2 hq=>?_);rcases rs with er|fl
 ·exact hx ad σ H s er s2 I hq
 ·cases fl with
  |ret u=>exact I.after hq
  |next=>exact False.elim hq
  |brk=>exact False.elim hq
  |cont=>exact False.elim hq
theorem C5{pl:Sem Bool}(he:PE X o ta)(c:RI X.K C)(hm:T9 X.K C m f)(G:Aa X.prog X.w X.K X.mg X.base k f ps sp)(hr:BL k X.A)(hx:Bn (FC X.prog X.w) X E)(ha:PA X (e::es) t)
  (hst:starEach (e::es) X.env=(false,eval e X.env)::starEach es X.env:=by rfl) (hpl:(backTo pos (starEach es X.env)).any (·.1)=false:=by rfl)
  (ht:eval (.Call (.Attribute o m apos) (e::es) [] pos) X.env=(do
   let ov <-eval o X.env
   standAt apos.atName
   let (f,first) <-holding [ov] (getMethod ov m pl)
   callWith pos f first (backTo pos (starEach (e::es) X.env)) (backToKw pos (keywordEach [] X.env))):=by rfl):
  PE X (.Call (.Attribute o m apos) (e::es) [] pos) (Ue C m sp E ta t):=by
 refine byG λGq hGq=>?_;obtain⟨⟨fd,F,b⟩,kp⟩:=G;refine hGq ?_;clear hGq Gq;intro ad s σ H Q I h;refine PySem.W.methodCall_KW (pl:=pl) (A8 (he ad s σ H _ I h) λu s1 z9=>?_) ht;obtain⟨x,H1,I1,rx,a,dx,fs,ex,ea,l,q⟩:=z9;subst ex;obtain rfl:u=Value.ref a:=rx;refine Lk I1 ea c hm l ?_;refine cw (first:=[.ref a]) (h₀:=X.base) I.ok.mod.kin hm.kp (A8 (ha pos ad s1 σ H1 _ I1 q) λus s2 ⟨vs,H2,I2,r,q2⟩=>⟨I2.kIn,?_⟩) hst hpl;exact Na (us:=.ref a::us) (vs:=.ref a::vs) F hr b hx I2 (.cons rfl r) q2
theorem Uf{P:qO}{w:qP}:Lo (FC P w) X E0:=λ_ _ _ _ _ _ _ ⟨_,_,_,_,_,_,_,_,h⟩=>h.elim
end
structure aU(K:qQ)(C:qM):Prop where
 cl:RI K C
 ca:PySem.W.findIn K (.ref C) "__class__"=some (some (.builtin "object.__class__"))
 sg:PySem.W.specialIn K (.builtin "object.__class__") "__get__"=some (some (.builtin "getset_descriptor.__get__"))
 tk:PySem.W.takesIn K (.builtin "object.__class__")=some true
 mo:PySem.W.mroIn K C (.type "object")=some true
theorem Nb{v:V}(h:G2 u=some v):Av v u:=by cases u<;>first|(cases h;exact rfl)|(cases h;exact⟨_,rfl⟩)|cases h
noncomputable def LM:qL->Option Str
 |.str x _=>some x
 |_=>none
structure Qk(P:Params)(K:qQ)(a:qM)(kvs:List (Str×V)):Prop where
 ex:∃es n,K.lookup a=some ⟨.type "dict",none,.dict es n,#[]⟩/\PySem.W.KeysLit P es.toList/\es.toList.map (λe=>(LM e.key,G2 e.val))=kvs.map λp=>(some p.1,some p.2)
 no:(a==sysModules)=false
theorem Ql:∀{l:List DictEntry} {kvs:List (Str×V)},l.map (λe=>(LM e.key,G2 e.val))=kvs.map (λp=>(some p.1,some p.2))->DP (kvs.lookup x) ((l.find? λd=>Value.isStrOf x d.key).map (·.val)):=by
 intro l
 induction l with
 |nil =>
  intro kvs h;cases kvs with
  |nil=>exact trivial
  |cons p kvs=>cases h
 |cons e l ih =>
  intro kvs h;cases kvs with
  |nil=>cases h
  |cons p kvs =>
   rw[bF,bF]at h
   injection h with h1 h2
   injection h1 with k1 k2
   have ke:∃t,e.key=.str p.1 t:=by
    cases q:e.key with
    |str y t=>rw[q]at k1;cases k1;exact⟨t,rfl⟩
    |_=>rw[q]at k1;cases k1
   obtain⟨t,ke⟩:=ke;rw[List.find?_cons,ke,bZ]
   have e1:Value.isStrOf x (.str p.1 t)=(x==p.1):=by
    by_cases z:x=p.1
    ·rw[z,beq_self_eq_true];simp[Value.isStrOf]
    ·rw[beq_eq_false_iff_ne.mpr z];simp[Value.isStrOf];exact λy=>z y.symm
   rw[e1];cases x==p.1 with
   |true=>exact Nb k2
   |false=>exact ih h2
section
variable{P:Params}{K:qQ}{kvs:List (Str×V)}{i:Expr}{ti:TE}{p:Pos}
theorem Qk.map(d:Qk P K a kvs){prog:qO}{w:qP}(hP:w.params=P)(kin:K.In h):∃f:Str->Option qL,h.MapOf (strKind prog w) a f/\∀x,DP (kvs.lookup x) (f x):=by obtain⟨⟨es,n,h1,h2,h3⟩,_⟩:=d;refine⟨_,PySem.W.mapOf_K kin h1 (hP▸h2),λx=>?_⟩;obtain⟨l⟩:=es;unfold findBy;rw[List.find?_toArray];exact Ql h3
def XC(kvs:List (Str×V))(ti:TE):TE:=λσ H Q=>ti σ H λy H1=>∃x v,y=.str x/\kvs.lookup x=some v/\Q v H1
theorem Nc(d:Qk P X.K a kvs)(hP:X.w.params=P)(hg:Gl X x)(hm:X.mg x=some (.ref a))(hi:PE X i ti)(hs:QN i)(hd:(x==("__debug__":Str))=false:=by decide):PE X (.Subscript (.Name x p) i pos) (XC kvs ti):=by intro ad s σ H Q I h;have ho:PE X (.Name x p) (tC (.ref a)):=Ct hg hm hd;have h:tC (.ref a) σ H (λv H1=>v=.ref a/\ti σ H1 λy H1=>∃x v,y=.str x/\kvs.lookup x=some v/\Q v H1):=⟨rfl,h⟩;refine KA cg.lookup hs (A8 (ho ad s σ H _ I h) λu s1 z1=>?_);obtain⟨v1,H1,I1,rx,e1,q1⟩:=z1;subst e1;obtain rfl:u=Value.ref a:=rx;refine A8 (hi ad s1 σ H1 _ I1 q1) λiv s2 z2=>?_;obtain⟨y,H2,I2,ry,z,v,ey,hv,q2⟩:=z2;subst ey;obtain⟨t,rfl⟩:=ry;obtain⟨f,mp,fx⟩:=d.map (prog:=X.prog) hP I2.kIn;obtain⟨w',hw,rw'⟩:=DP.some_of (v:=v) (o:=f z) (by rw[<-hv];exact fx z);exact⟨mp.typeIs,wpAny_getItem_of (strKind_is X.prog X.w z t) mp hw ⟨v,H2,I2.tok _,rw',q2⟩⟩
def SU(kvs:List (Str×V))(ti:TE):TE:=λσ H Q=>ti σ H λy H1=>∃x,y=.str x/\Q (.bl (!(kvs.lookup x).isSome)) H1
theorem Ou(d:Qk P X.K a kvs)(hP:X.w.params=P)(hg:Gl X x)(hm:X.mg x=some (.ref a))(hi:PE X i ti)(hd:(x==("__debug__":Str))=false:=by decide):PC X .NotIn i (.Name x p) (SU kvs ti):=by intro ad s σ H Q I h;refine A8 (hi ad s σ H _ I h) λiv s1 z1=>?_;obtain⟨y,H1,I1,ry,z,ey,q1⟩:=z1;subst ey;obtain⟨t,rfl⟩:=ry;have ho:PE X (.Name x p) (tC (.ref a)):=Ct hg hm hd;have h:tC (.ref a) σ H1 (λv H1=>v=.ref a/\Q (.bl (!(kvs.lookup z).isSome)) H1):=⟨rfl,q1⟩;refine A8 (ho ad s1 σ H1 _ I1 h) λu s2 z2=>?_;obtain⟨v2,H2,I2,rx,e2,q2⟩:=z2;subst e2;obtain rfl:u=Value.ref a:=rx;obtain⟨f,mp,fx⟩:=d.map (prog:=X.prog) hP I2.kIn;refine wpAny_notIn_of (strKind_is X.prog X.w z t) d.no mp ?_;rw[<-(fx z).isSome_eq];exact⟨.bl (!(kvs.lookup z).isSome),H2,I2.tok _,rfl,q2⟩
end
def Qm(P:qO)(w:qP)(K:qQ)(mg:Str->Option qL)(base:Heap)(k:Nat)(E:St->XK)(tf:TE)(t:TA):TE:=λσ H Q=>tf σ H λv H1=>∃f ps sp,v=.ref f/\Aa P w K mg base k f ps sp/\t σ H1 λvs H2=>sp vs H2 Q (E σ)
section
variable{f:qM}{sp:Sp}{E:St->XK}{p:Pos}{e fe:Expr}{t:TA}{tf:TE}
theorem Qn(hr:BL k X.A)(hx:Bn (FC X.prog X.w) X E)(hf:PE X fe tf)(ha:PA X (e::es) t)(he:starEach (e::es) X.env=(false,eval e X.env)::starEach es X.env:=by rfl)(hpl:(backTo pos (starEach es X.env)).any (·.1)=false:=by rfl)
  (hev:eval (.Call fe (e::es) [] pos) X.env=(do callWith pos (<-eval fe X.env) [] (backTo pos (starEach (e::es) X.env)) (backToKw pos (keywordEach [] X.env))):=by rfl):PE X (.Call fe (e::es) [] pos) (Qm X.prog X.w X.K X.mg X.base k E tf t):=by
 intro ad s σ H Q I h;refine Call_ (A8 (hf ad s σ H _ I h) λu s1 z1=>?_) hev;obtain⟨v,H1,I1,rv,f,ps,sp,ev,⟨⟨fd,F,b⟩,kp⟩,q1⟩:=z1;subst ev;obtain rfl:u=Value.ref f:=rv;refine cw (h₀:=X.base) I.ok.mod.kin kp (A8 (ha pos ad s1 σ H1 _ I1 q1) λus s2 z2=>?_) he hpl;obtain⟨vs,H2,I2,r,q⟩:=z2;exact⟨I2.kIn,Na (us:=us) (vs:=vs) F hr b hx I2 r q⟩
theorem Ov{P:qO}{w:qP}{K:qQ}{mg:Str->Option qL}{base:Heap}(hr:BL k X.A)(hx:Bn (FC X.prog X.w) X E)(hf:PE X fe tf)(ha:PA X (e::es) t)(hP:X.prog=P:=by rfl)(hw:X.w=w:=by rfl)(hK:X.K=K:=by rfl)(hm:X.mg=mg:=by rfl)(hb:X.base=base:=by rfl)(he:starEach (e::es) X.env=(false,eval e X.env)::starEach es X.env:=by rfl)(hpl:(backTo pos (starEach es X.env)).any (·.1)=false:=by rfl)
  (hev:eval (.Call fe (e::es) [] pos) X.env=(do callWith pos (<-eval fe X.env) [] (backTo pos (starEach (e::es) X.env)) (backToKw pos (keywordEach [] X.env))):=by rfl):PE X (.Call fe (e::es) [] pos) (Qm P w K mg base k E tf t):=by
 subst hP hw hK hm hb;exact Qn hr hx hf ha he hpl hev
theorem Ow(M:Mk X.K C f)(G:Aa X.prog X.w X.K X.mg X.base k f ps sp)(hr:BL (k+1) X.A)(hg:Gl X x)(hm:X.mg x=some (.ref C))
  (hdb:(x==("__debug__":Str))=false:=by decide):PE X (.Call (.Name x p) [] [] pos) (Sz C sp [] E0 G6):=by
 obtain⟨⟨fd,F,b⟩,kp⟩:=G;exact PQ M F hr hg hm b .nil Uf hdb
end
noncomputable def Bl(K:qQ)(a:qM)(vs:List V):Bool:=match K.lookup a with
 |some o=>o.cls==.type "tuple"&&(match o.data with|.seq its _=>decide (its.size<=1000)&&decide (its.toList.map G2=vs.map some)|_=>false)
 |none=>false
theorem Ox:∀{vs:List V} {us:List qL},us.map G2=vs.map some->Au vs us:=by
 intro vs
 induction vs with
 |nil=>intro us h;cases us with|nil=>exact .nil|cons u us=>cases h
 |cons v vs ih =>
  intro us h;cases us with
  |nil=>cases h
  |cons u us =>
   rw[bF,bF]at h
   injection h with h1 h2
   exact .cons (Nb h1) (ih h2)
theorem SW{K:qQ}{vs:List V}(h:Bl K a vs=true)(H:Hp):Ar K H a vs:=by
 delta Bl at h
 cases e:K.lookup a with
 |none=>rw[e]at h;cases h
 |some o =>
  rw[e]at h;obtain⟨h1,h2⟩:=(au ..).mp h;cases ed:o.data with
  |seq its n =>
   rw[ed]at h2;have h2:=(au ..).mp h2;have s:=qI h2.1;exact .inr ⟨o,its,n,e,eq_of_beq h1,ed,by rw[sizeLine_eq];lia,Ox (qI h2.2)⟩
  |_=>rw[ed]at h2;cases h2
theorem Cc{ss:List Stmt}:FD X ss (λ_ _ _=>False):=λ_ _ _ _ _ _ h=>h.elim
theorem SX:S1 X "str.find" (λx xs H Q=>∃a b:Str,x=.str a/\xs=[.str b]/\Q (.int (Txt.find a b)) H):=by intro ad s σ H x xs v us Q I rx rs h;obtain⟨a,b,rfl,rfl,q⟩:=h;obtain⟨t,rfl⟩:=rx;obtain⟨u,rfl,t2,rfl⟩:=DT rs;exact SC.find ⟨.int _,H,I.tok _,⟨_,rfl⟩,q⟩
theorem SY:GO X (binaryOp .Mult) (λx y H Q=>∃(i:Str) (n:Int),x=.str i/\y=.int n/\MulOk i n/\Q (.str (Txt.mul i n)) H):=by intro ad s σ H x y v u Q I rx ry h;obtain⟨i,n,rfl,rfl,ok,q⟩:=h;obtain⟨t,rfl⟩:=rx;obtain⟨t',rfl⟩:=ry;exact SB.mul ok λt' k=>⟨.str _,H,I.tok _,⟨_,rfl⟩,q⟩
section
variable(K:qQ)
theorem BA(h:X.K=K:=by rfl):UC X (RU K):=h▸Mt
theorem C6(h:X.K=K:=by rfl):UC X (UD K):=h▸UE
theorem JK(h:X.K=K:=by rfl):CH X (.builtin "len") (λxs H Q=>∃p ys,xs=[V.ref p]/\(Ag K H p ys\/Ar K H p ys)/\Q (.int ((ys.length:Nat):Int)) H):=h▸FJ
theorem Nd{tg l:Expr}(hl:PE X l tl)(h:X.K=K:=by rfl):PI X tg l (O9 K tl):=h▸Mm hl
theorem Ug{o e:Expr}{to:TE}{t:TA}{apos cpos:Pos}(ho:PE X o to)(ha:PA X [e] t)(hK:X.K=K:=by rfl)
  (hbase:attributeBase o "append" X.env (eval o X.env)=eval o X.env:=by rfl)
  (hfew:((backTo cpos (starEach [e] X.env)).all (λx=>!x.1)&&(backToKw cpos (keywordEach [] X.env)).all (λx=>x.1.isSome)&&decide (([e]:List Expr).length+([]:List Keyword).length+(if ([]:List Keyword).isEmpty then 0 else 1)<30))=true:=by rfl)
  (hline:(apos.endLine==cpos.line)=true:=by rfl) (hs:starEach [e] X.env=(false,eval e X.env)::starEach [] X.env:=by rfl) (hplain:(backTo cpos (starEach [] X.env)).any (·.1)=false:=by rfl):
  PE X (.Call (.Attribute o "append" apos) [e] [] cpos) (Zf K "list" JZ to t):=by
 subst hK;exact DU cy PySem.F.slot_list_append PySem.F.type_list_append F1 ho ha hbase hfew hline hs hplain
end
theorem GI{t u:TS}(Z:St->Hp->Prop)(h1:∀N:St->Hp->Prop,(∀σ' H',Z σ' H'->N σ' H')->t {D with nx:=N} σ H)(h2:∀G:St->Hp->Prop,(∀σ H,u D σ H->G σ H)->∀σ' H',Z σ' H'->G σ' H'):Lf t u D σ H:=aN Z h1 (h2 _ λ_ _ z=>z)
theorem LN{Pv:Nat->St->Hp->Prop}{g:TG}{tb:TS}{R:VK}{B0:St->Hp->Prop}
  (h:∀(C B:St->Hp->Prop) i x,∀G:St->Hp->Prop,(∀σ H,(g x σ H λσ2 H2=>tb {nx:=Pv (i+1),rt:=R,bk:=B,ct:=C} σ2 H2)->G σ H)->∀σ H,xs[i]?=some x->Pv i σ H->G σ H):
  ∀i x σ H,xs[i]?=some x->Pv i σ H->g x σ H λσ2 H2=>tb {nx:=Pv (i+1),rt:=R,bk:=B0,ct:=Pv (i+1)} σ2 H2:=λi x σ H hx p=>h _ _ i x _ (λ_ _ z=>z) σ H hx p
theorem Fs{n:Nat}{f:Nat->V}{Pv:Nat->St->Hp->Prop}{g:TG}{tb:TS}{R:VK}{B0:St->Hp->Prop}
  (h:∀(C B:St->Hp->Prop) i,∀G:St->Hp->Prop,(∀σ H,(g (f i) σ H λσ2 H2=>tb {nx:=Pv (i+1),rt:=R,bk:=B,ct:=C} σ2 H2)->G σ H)->∀σ H,i<n->Pv i σ H->G σ H):
  ∀i σ H,i<n->Pv i σ H->g (f i) σ H λσ2 H2=>tb {nx:=Pv (i+1),rt:=R,bk:=B0,ct:=Pv (i+1)} σ2 H2:=λi σ H hx p=>h _ _ i _ (λ_ _ z=>z) σ H hx p
theorem Mb{A:Nat->V->α->β->Prop}{c:Nat->V->Prop}{Pv:Nat->α->β->Prop}(h:∀i x,∀G:α->β->Prop,(∀a b,A i x a b->G a b)->∀a b,c i x->Pv i a b->G a b):∀i x a b,c i x->Pv i a b->A i x a b:=λi x a b hc p=>h i x _ (λ_ _ z=>z) a b hc p
theorem KJ{A:Nat->α->β->Prop}{c:Nat->Prop}{Pv:Nat->α->β->Prop}(h:∀i,∀G:α->β->Prop,(∀a b,A i a b->G a b)->∀a b,c i->Pv i a b->G a b):∀i a b,c i->Pv i a b->A i a b:=λi a b hc p=>h i _ (λ_ _ z=>z) a b hc p
theorem BJ.el{r:qM}{P:Prop}(h:BJ H r g lo d4)(k:∀tb,H r=some (.tup [.int g,.int lo,.ref tb])->H tb=some (.tup (d4.map V.int))->P):P:=by obtain⟨tb,h1,h2⟩:=h;exact k tb h1 h2
theorem BH{K:qQ}{i:Int}{v:V}{Q:VK}(h:Ag K H a xs)(hi:Kb xs i=some v)(q:Q v H):RU K (.ref a) (.int i) H Q:=⟨a,xs,i,v,rfl,rfl,h,hi,q⟩
theorem D1{K:qQ}{i:Int}{v:V}{Q:VK}(h:Ar K H a xs)(hi:Kb xs i=some v)(q:Q v H):UD K (.ref a) (.int i) H Q:=⟨a,xs,i,v,rfl,rfl,h,hi,q⟩
end L2
local macro_rules|`(tactic|walk_at "")=>`(tactic| ((try dsimp only[L2.Pj,L2.Zh,L2.S3,L2.Lf,L2.Ss,L2.WN,L2.WZ,L2.Sy,L2.WR,L2.aI,L2.Nv,L2.tC,L2.Pd,L2.D9,L2.G6,L2.WV,L2.PN,L2.Nw,L2.FE,L2.Su,L2.Zf,L2.Ze,L2.JZ,L2.T0,L2.S2,L2.Pw,L2.S7,L2.Pz,L2.IN,Option.join_some,L2.S6,L2.Wy,L2.WW,L2.F2,L2.Jf,L2.S4,L2.UM,L2.Pn,L2.My,L2.WM,L2.WL,L2.aE,L2.tB,L2.Sq,L2.Sr,L2.rI,L2.RM,L2.rU,L2.UK,L2.Pf,L2.aL,L2.S0,L2.Mr,L2.B1,L2.T6,L2.PD,L2.T7,L2.aJ,L2.aK,L2.NF,L2.NH,L2.NI,L2.NG,List.map_cons,List.map_nil,List.length_cons,List.length_nil,List.cons_append,List.nil_append,List.replicate,List.getElem?_cons_zero,List.getElem?_cons_succ,List.set_cons_zero,List.set_cons_succ,Nat.reduceAdd,Nat.reduceSub]);try simp only[L2.Pj,L2.S3,L2.S7,L2.IN,Option.join_some,L2.UM,L2.My,L2.Pf,L2.B1,L2.T6,L2.PD,L2.T7,L2.NF,L2.NH,L2.NI,L2.NG,List.map_cons,List.map_nil,List.length_cons,List.length_nil,List.cons_append,List.nil_append,List.replicate,List.getElem?_cons_zero,List.getElem?_cons_succ,List.set_cons_zero,List.set_cons_succ,Nat.reduceAdd,Nat.reduceSub,Option.some.injEq,L2.V.int.injEq,L2.V.bl.injEq,L2.V.ref.injEq,L2.V.str.injEq,List.cons.injEq,and_true,true_and,exists_eq_left',exists_eq_left,exists_eq_right,exists_and_left,exists_and_right,exists_eq,and_assoc,if_true,if_false,reduceIte,reduceCtorEq,not_true_eq_false,not_false_eq_true,Bool.false_eq_true,Bool.not_true,Bool.not_false,decide_eq_true_eq,Bool.not_eq_true',decide_eq_false_iff_not]))
namespace K85
open PySem L2 RW
def top(i:Nat):Stmt:=PySem.Challenge.pw_rowrules_k85_what_a_book_refuses.main.body.getD i (.Pass ⟨0,0,0,0⟩)
abbrev Cd:Stmt:=Ja (top 3) 0
abbrev E5:Stmt:=top 12
abbrev GJ:Stmt:=top 13
abbrev Dt:Stmt:=top 14
abbrev C7:Stmt:=top 15
abbrev CM:Stmt:=top 16
abbrev EK:Stmt:=top 17
abbrev GK:Stmt:=top 18
abbrev Du:Stmt:=top 21
abbrev Dv:Stmt:=top 22
abbrev C8:Stmt:=top 23
abbrev DQ:Stmt:=top 24
abbrev Uh:Stmt:=top 25
abbrev Ui:Stmt:=top 26
abbrev Uj:Stmt:=top 27
abbrev Uk:Stmt:=top 28
abbrev Ul:Stmt:=top 30
abbrev Qo:Stmt:=top 34
abbrev Um:Stmt:=top 36
abbrev Uo:Stmt:=top 35
abbrev Up:Stmt:=top 42
abbrev Uq:Stmt:=top 45
abbrev Ur:Stmt:=top 46
abbrev Zo:Stmt:=top 47
abbrev Us:Stmt:=top 48
abbrev Ut:Stmt:=top 49
abbrev Uu:Stmt:=top 50
abbrev Uv:Stmt:=top 51
abbrev Uw:Stmt:=top 54
abbrev Ux:Stmt:=top 62
abbrev Uy:Stmt:=top 64
abbrev Uz:Stmt:=top 67
abbrev U0:Stmt:=top 68
abbrev U1:Stmt:=top 69
abbrev U2:Stmt:=top 70
abbrev U3:Stmt:=top 71
abbrev U4:Stmt:=top 72
abbrev U5:Stmt:=top 73
abbrev U6:Stmt:=top 74
abbrev U7:Stmt:=top 75
abbrev U8:Stmt:=top 77
abbrev Zp:Stmt:=top 85
abbrev U9:Stmt:=top 87
abbrev VA:Stmt:=top 89
abbrev VB:Stmt:=top 90
abbrev VC:Stmt:=top 91
abbrev VD:Stmt:=top 93
abbrev VE:Stmt:=top 94
abbrev VF:Stmt:=top 98
abbrev VG:Stmt:=top 99
abbrev VH:Stmt:=top 100
abbrev VI:Stmt:=top 101
abbrev VJ:Stmt:=top 102
abbrev VL:Stmt:=top 103
abbrev VM:Stmt:=top 104
abbrev VN:Stmt:=top 105
abbrev VO:Stmt:=top 109
abbrev VP:Stmt:=top 110
abbrev Qp:Stmt:=top 111
abbrev VQ:Stmt:=top 112
abbrev VR:Stmt:=top 113
abbrev VS:Stmt:=top 114
abbrev VT:Stmt:=top 115
abbrev VU:Stmt:=top 116
abbrev VV:Stmt:=top 117
abbrev VW:Stmt:=top 118
abbrev VX:Stmt:=top 119
abbrev VY:Stmt:=top 120
abbrev VZ:Stmt:=top 121
abbrev Va:Stmt:=top 122
abbrev Vb:Stmt:=top 123
abbrev Vc:Stmt:=top 124
abbrev Vd:Stmt:=top 125
abbrev Ve:Stmt:=top 126
abbrev Vf:Stmt:=top 127
abbrev Vg:Stmt:=top 128
abbrev Vh:Stmt:=top 129
abbrev Zq:Stmt:=Ja (top 131) 0
abbrev Vi:Stmt:=Ja (top 131) 1
abbrev Zr:Stmt:=top 133
abbrev Vj:Stmt:=top 134
abbrev Vk:Stmt:=top 135
abbrev Zs:Stmt:=top 136
abbrev Zt:Stmt:=top 137
abbrev Zu:Stmt:=top 138
abbrev Vl:Stmt:=top 139
abbrev Zv:Stmt:=top 140
abbrev Vm:Stmt:=top 141
abbrev Vn:Stmt:=top 142
abbrev Vo:Stmt:=top 143
abbrev SZ:Stmt:=top 144
set_option genInjectivity false
structure C9 where
 (c_52 c_79 c_89 c_80 c_51 c_70 c_37 c_81 c_78 c_88 c_95:qM)
 (f_3 f_56 f_71 f_28 f_11 f_0 f_42 f_77 f_26 f_33 f_16 f_19 f_97 f_86 f_40 f_41 f_92 f_100 f_90 f_57 f_20 f_82 f_55 f_2 f_39 f_85 f_98 f_76 f_91 f_22 f_29 f_72 f_38 f_36 f_54 f_83 f_31 f_32 f_94 f_30 f_69 f_1 f_53 f_93 f_87 f_84 f_13 f_96 f_27 f_12 f_21 f_44 f_14 f_47 f_45 f_48 f_43 f_73 f_101 f_49 f_65 f_60 f_68 f_58 f_62 f_59 f_46 f_67 f_35 f_66 f_74 f_64 f_34 f_63 f_75 f_15 f_61 f_7 f_50 f_8 f_18 f_25 f_9 f_4 f_5 f_23 f_6 f_24 f_10 f_17 f_99:qM)
 (k_EVEN:qM)
 (k_ROWS k_ROWS_rule k_ROWS_join k_ROWS_turn k_ROWS_back k_ROWS_move k_ROWS_drop k_ROWS_names k_ROWS_show k_ROWS_number k_ROWS_same k_ROWS_led k_ROWS_ring k_ROWS_before k_ROWS_onto k_ROWS_one k_ROWS_kept:qM)
 (cc_13 p_13:qM)
noncomputable def JL(t:C9):List (Str×V):=[("rule",.ref t.k_ROWS_rule),("join",.ref t.k_ROWS_join),("turn",.ref t.k_ROWS_turn),("back",.ref t.k_ROWS_back),("move",.ref t.k_ROWS_move),("drop",.ref t.k_ROWS_drop),("names",.ref t.k_ROWS_names),("show",.ref t.k_ROWS_show),("number",.ref t.k_ROWS_number),("same",.ref t.k_ROWS_same),("led",.ref t.k_ROWS_led),("ring",.ref t.k_ROWS_ring),("before",.ref t.k_ROWS_before),("onto",.ref t.k_ROWS_onto),("one",.ref t.k_ROWS_one),("kept",.ref t.k_ROWS_kept)]
structure Ay(w:qP)(K:qQ)(mg:Str->Option qL)(t:C9):Prop where
 m_52:mg "RowError"=some (.ref t.c_52)
 m_79:mg "NoRule"=some (.ref t.c_79)
 m_89:mg "NoRow"=some (.ref t.c_89)
 m_80:mg "NoSuch"=some (.ref t.c_80)
 m_51:mg "NoWindow"=some (.ref t.c_51)
 m_70:mg "TooWide"=some (.ref t.c_70)
 m_37:mg "NoWayBack"=some (.ref t.c_37)
 m_81:mg "NoText"=some (.ref t.c_81)
 m_78:mg "NoName"=some (.ref t.c_78)
 m_88:mg "NoAsk"=some (.ref t.c_88)
 m_95:mg "Book"=some (.ref t.c_95)
 m_EVEN:mg "EVEN"=some (.ref t.k_EVEN)
 q_EVEN:NQ K t.k_EVEN [0,0]=true
 d_3:∃fd,BC K "__init__" "NoRow.__init__" Cd t.f_3 fd
 m_56:mg "is_whole"=some (.ref t.f_56)
 d_56:∃fd,BC K "is_whole" "is_whole" E5 t.f_56 fd
 m_71:mg "is_sign"=some (.ref t.f_71)
 d_71:∃fd,BC K "is_sign" "is_sign" GJ t.f_71 fd
 m_28:mg "check_word"=some (.ref t.f_28)
 d_28:∃fd,BC K "check_word" "check_word" Dt t.f_28 fd
 m_11:mg "check_length"=some (.ref t.f_11)
 d_11:∃fd,BC K "check_length" "check_length" C7 t.f_11 fd
 m_0:mg "check_at_least"=some (.ref t.f_0)
 d_0:∃fd,BC K "check_at_least" "check_at_least" CM t.f_0 fd
 m_42:mg "number_of"=some (.ref t.f_42)
 d_42:∃fd,BC K "number_of" "number_of" EK t.f_42 fd
 m_77:mg "word_of"=some (.ref t.f_77)
 d_77:∃fd,BC K "word_of" "word_of" GK t.f_77 fd
 m_26:mg "check_head"=some (.ref t.f_26)
 d_26:∃fd,BC K "check_head" "check_head" Du t.f_26 fd
 m_33:mg "places_for"=some (.ref t.f_33)
 d_33:∃fd,BC K "places_for" "places_for" Dv t.f_33 fd
 m_16:mg "table_length"=some (.ref t.f_16)
 d_16:∃fd,BC K "table_length" "table_length" C8 t.f_16 fd
 m_19:mg "check_table"=some (.ref t.f_19)
 d_19:∃fd,BC K "check_table" "check_table" DQ t.f_19 fd
 m_97:mg "rule"=some (.ref t.f_97)
 d_97:∃fd,BC K "rule" "rule" Uh t.f_97 fd
 m_86:mg "places"=some (.ref t.f_86)
 d_86:∃fd,BC K "places" "places" Ui t.f_86 fd
 m_40:mg "next_sign"=some (.ref t.f_40)
 d_40:∃fd,BC K "next_sign" "next_sign" Uj t.f_40 fd
 m_41:mg "number_by"=some (.ref t.f_41)
 d_41:∃fd,BC K "number_by" "number_by" Uk t.f_41 fd
 m_92:mg "heads"=some (.ref t.f_92)
 d_92:∃fd,BC K "heads" "heads" Ul t.f_92 fd
 m_100:mg "led"=some (.ref t.f_100)
 d_100:∃fd,BC K "led" "led" Qo t.f_100 fd
 m_90:mg "after"=some (.ref t.f_90)
 d_90:∃tk fd dT,P3 K "after" "after" Um t.f_90 fd dT [.int 1 tk]
 m_57:mg "led_ring"=some (.ref t.f_57)
 d_57:∃fd,BC K "led_ring" "led_ring" Uo t.f_57 fd
 m_20:mg "many_before"=some (.ref t.f_20)
 d_20:∃fd,BC K "many_before" "many_before" Up t.f_20 fd
 m_82:mg "counts"=some (.ref t.f_82)
 d_82:∃fd,BC K "counts" "counts" Uq t.f_82 fd
 m_55:mg "counting"=some (.ref t.f_55)
 d_55:∃fd,BC K "counting" "counting" Ur t.f_55 fd
 m_2:mg "sign_or_nought"=some (.ref t.f_2)
 d_2:∃fd,BC K "sign_or_nought" "sign_or_nought" Zo t.f_2 fd
 m_39:mg "by_window"=some (.ref t.f_39)
 d_39:∃fd,BC K "by_window" "by_window" Us t.f_39 fd
 m_85:mg "narrow"=some (.ref t.f_85)
 d_85:∃fd,BC K "narrow" "narrow" Ut t.f_85 fd
 m_98:mg "same"=some (.ref t.f_98)
 d_98:∃fd,BC K "same" "same" Uu t.f_98 fd
 m_76:mg "widened"=some (.ref t.f_76)
 d_76:∃fd,BC K "widened" "widened" Uv t.f_76 fd
 m_91:mg "frame"=some (.ref t.f_91)
 d_91:∃fd,BC K "frame" "frame" Uw t.f_91 fd
 m_22:mg "turned_back"=some (.ref t.f_22)
 d_22:∃fd,BC K "turned_back" "turned_back" Ux t.f_22 fd
 m_29:mg "most_steps"=some (.ref t.f_29)
 d_29:∃fd,BC K "most_steps" "most_steps" Uy t.f_29 fd
 m_72:mg "pair_of"=some (.ref t.f_72)
 d_72:∃fd,BC K "pair_of" "pair_of" Uz t.f_72 fd
 m_38:mg "all_pairs"=some (.ref t.f_38)
 d_38:∃fd,BC K "all_pairs" "all_pairs" U0 t.f_38 fd
 m_36:mg "word_pairs"=some (.ref t.f_36)
 d_36:∃fd,BC K "word_pairs" "word_pairs" U1 t.f_36 fd
 m_54:mg "begin_of"=some (.ref t.f_54)
 d_54:∃fd,BC K "begin_of" "begin_of" U2 t.f_54 fd
 m_83:mg "end_of"=some (.ref t.f_83)
 d_83:∃fd,BC K "end_of" "end_of" U3 t.f_83 fd
 m_31:mg "pair_nexts"=some (.ref t.f_31)
 d_31:∃fd,BC K "pair_nexts" "pair_nexts" U4 t.f_31 fd
 m_32:mg "pair_ranks"=some (.ref t.f_32)
 d_32:∃fd,BC K "pair_ranks" "pair_ranks" U5 t.f_32 fd
 m_94:mg "ranks"=some (.ref t.f_94)
 d_94:∃fd,BC K "ranks" "ranks" U6 t.f_94 fd
 m_30:mg "one_to_one"=some (.ref t.f_30)
 d_30:∃fd,BC K "one_to_one" "one_to_one" U7 t.f_30 fd
 m_69:mg "way_back"=some (.ref t.f_69)
 d_69:∃fd,BC K "way_back" "way_back" U8 t.f_69 fd
 m_1:mg "rings_and_rows"=some (.ref t.f_1)
 d_1:∃fd,BC K "rings_and_rows" "rings_and_rows" Zp t.f_1 fd
 m_53:mg "all_kept"=some (.ref t.f_53)
 d_53:∃fd,BC K "all_kept" "all_kept" U9 t.f_53 fd
 m_93:mg "moved"=some (.ref t.f_93)
 d_93:∃fd,BC K "moved" "moved" VA t.f_93 fd
 m_87:mg "turned"=some (.ref t.f_87)
 d_87:∃fd,BC K "turned" "turned" VB t.f_87 fd
 m_84:mg "joined"=some (.ref t.f_84)
 d_84:∃fd,BC K "joined" "joined" VC t.f_84 fd
 m_13:mg "sets_reached"=some (.ref t.f_13)
 d_13:∃fd,Ud K "sets_reached" "sets_reached" VD t.f_13 t.cc_13 t.p_13 fd
 hd_13:PySem.W.codeHdIn K t.cc_13 t.p_13=true
 m_96:mg "lost"=some (.ref t.f_96)
 d_96:∃fd,BC K "lost" "lost" VE t.f_96 fd
 m_27:mg "check_text"=some (.ref t.f_27)
 d_27:∃fd,BC K "check_text" "check_text" VF t.f_27 fd
 m_12:mg "read_figures"=some (.ref t.f_12)
 d_12:∃fd,BC K "read_figures" "read_figures" VG t.f_12 fd
 m_21:mg "read_number"=some (.ref t.f_21)
 d_21:∃fd,BC K "read_number" "read_number" VH t.f_21 fd
 m_44:mg "read_rule"=some (.ref t.f_44)
 d_44:∃fd,BC K "read_rule" "read_rule" VI t.f_44 fd
 m_14:mg "show_figures"=some (.ref t.f_14)
 d_14:∃fd,BC K "show_figures" "show_figures" VJ t.f_14 fd
 m_47:mg "show_rule"=some (.ref t.f_47)
 d_47:∃fd,BC K "show_rule" "show_rule" VL t.f_47 fd
 m_45:mg "read_word"=some (.ref t.f_45)
 d_45:∃fd,BC K "read_word" "read_word" VM t.f_45 fd
 m_48:mg "show_word"=some (.ref t.f_48)
 d_48:∃fd,BC K "show_word" "show_word" VN t.f_48 fd
 m_43:mg "read_name"=some (.ref t.f_43)
 d_43:∃fd,BC K "read_name" "read_name" VO t.f_43 fd
 m_73:mg "rule_by"=some (.ref t.f_73)
 d_73:∃fd,BC K "rule_by" "rule_by" VP t.f_73 fd
 m_101:mg "put"=some (.ref t.f_101)
 d_101:∃fd,BC K "put" "put" Qp t.f_101 fd
 m_49:mg "yes_or_no"=some (.ref t.f_49)
 d_49:∃fd,BC K "yes_or_no" "yes_or_no" VQ t.f_49 fd
 m_65:mg "say_rule"=some (.ref t.f_65)
 d_65:∃fd,BC K "say_rule" "say_rule" VR t.f_65 fd
 m_60:mg "say_join"=some (.ref t.f_60)
 d_60:∃fd,BC K "say_join" "say_join" VS t.f_60 fd
 m_68:mg "say_turn"=some (.ref t.f_68)
 d_68:∃fd,BC K "say_turn" "say_turn" VT t.f_68 fd
 m_58:mg "say_back"=some (.ref t.f_58)
 d_58:∃fd,BC K "say_back" "say_back" VU t.f_58 fd
 m_62:mg "say_move"=some (.ref t.f_62)
 d_62:∃fd,BC K "say_move" "say_move" VV t.f_62 fd
 m_59:mg "say_drop"=some (.ref t.f_59)
 d_59:∃fd,BC K "say_drop" "say_drop" VW t.f_59 fd
 m_46:mg "say_names"=some (.ref t.f_46)
 d_46:∃fd,BC K "say_names" "say_names" VX t.f_46 fd
 m_67:mg "say_show"=some (.ref t.f_67)
 d_67:∃fd,BC K "say_show" "say_show" VY t.f_67 fd
 m_35:mg "say_number"=some (.ref t.f_35)
 d_35:∃fd,BC K "say_number" "say_number" VZ t.f_35 fd
 m_66:mg "say_same"=some (.ref t.f_66)
 d_66:∃fd,BC K "say_same" "say_same" Va t.f_66 fd
 m_74:mg "say_led"=some (.ref t.f_74)
 d_74:∃fd,BC K "say_led" "say_led" Vb t.f_74 fd
 m_64:mg "say_ring"=some (.ref t.f_64)
 d_64:∃fd,BC K "say_ring" "say_ring" Vc t.f_64 fd
 m_34:mg "say_before"=some (.ref t.f_34)
 d_34:∃fd,BC K "say_before" "say_before" Vd t.f_34 fd
 m_63:mg "say_onto"=some (.ref t.f_63)
 d_63:∃fd,BC K "say_onto" "say_onto" Ve t.f_63 fd
 m_75:mg "say_one"=some (.ref t.f_75)
 d_75:∃fd,BC K "say_one" "say_one" Vf t.f_75 fd
 m_15:mg "show_weights"=some (.ref t.f_15)
 d_15:∃fd,BC K "show_weights" "show_weights" Vg t.f_15 fd
 m_61:mg "say_kept"=some (.ref t.f_61)
 d_61:∃fd,BC K "say_kept" "say_kept" Vh t.f_61 fd
 d_7:∃fd,BC K "__init__" "Book.__init__" Zq t.f_7 fd
 d_50:∃fd,BC K "say" "Book.say" Vi t.f_50 fd
 m_8:mg "_law_cell_at"=some (.ref t.f_8)
 d_8:∃fd,BC K "_law_cell_at" "_law_cell_at" Zr t.f_8 fd
 m_18:mg "_law_stream"=some (.ref t.f_18)
 d_18:∃fd,BC K "_law_stream" "_law_stream" Vj t.f_18 fd
 m_25:mg "_law_names"=some (.ref t.f_25)
 d_25:∃fd,BC K "_law_names" "_law_names" Vk t.f_25 fd
 m_9:mg "_law_no_asks"=some (.ref t.f_9)
 d_9:∃fd,BC K "_law_no_asks" "_law_no_asks" Zs t.f_9 fd
 m_4:mg "_law_no_names"=some (.ref t.f_4)
 d_4:∃fd,BC K "_law_no_names" "_law_no_names" Zt t.f_4 fd
 m_5:mg "_law_no_texts"=some (.ref t.f_5)
 d_5:∃fd,BC K "_law_no_texts" "_law_no_texts" Zu t.f_5 fd
 m_23:mg "_law_deeds"=some (.ref t.f_23)
 d_23:∃fd,BC K "_law_deeds" "_law_deeds" Vl t.f_23 fd
 m_6:mg "_law_refusals"=some (.ref t.f_6)
 d_6:∃fd,BC K "_law_refusals" "_law_refusals" Zv t.f_6 fd
 m_24:mg "_law_kinds"=some (.ref t.f_24)
 d_24:∃fd,BC K "_law_kinds" "_law_kinds" Vm t.f_24 fd
 m_10:mg "_law_refused"=some (.ref t.f_10)
 d_10:∃fd,BC K "_law_refused" "_law_refused" Vn t.f_10 fd
 m_17:mg "_law_stands"=some (.ref t.f_17)
 d_17:∃fd,BC K "_law_stands" "_law_stands" Vo t.f_17 fd
 m_99:mg "law"=some (.ref t.f_99)
 d_99:∃fd,BC K "law" "law" SZ t.f_99 fd
 m_ROWS:mg "ROWS"=some (.ref t.k_ROWS)
 r_ROWS:Qk w.params K t.k_ROWS (JL t)
 q_ROWS_rule:Bl K t.k_ROWS_rule [.int 3,.ref t.f_65]=true
 q_ROWS_join:Bl K t.k_ROWS_join [.int 4,.ref t.f_60]=true
 q_ROWS_turn:Bl K t.k_ROWS_turn [.int 3,.ref t.f_68]=true
 q_ROWS_back:Bl K t.k_ROWS_back [.int 3,.ref t.f_58]=true
 q_ROWS_move:Bl K t.k_ROWS_move [.int 4,.ref t.f_62]=true
 q_ROWS_drop:Bl K t.k_ROWS_drop [.int 2,.ref t.f_59]=true
 q_ROWS_names:Bl K t.k_ROWS_names [.int 1,.ref t.f_46]=true
 q_ROWS_show:Bl K t.k_ROWS_show [.int 2,.ref t.f_67]=true
 q_ROWS_number:Bl K t.k_ROWS_number [.int 2,.ref t.f_35]=true
 q_ROWS_same:Bl K t.k_ROWS_same [.int 3,.ref t.f_66]=true
 q_ROWS_led:Bl K t.k_ROWS_led [.int 3,.ref t.f_74]=true
 q_ROWS_ring:Bl K t.k_ROWS_ring [.int 3,.ref t.f_64]=true
 q_ROWS_before:Bl K t.k_ROWS_before [.int 3,.ref t.f_34]=true
 q_ROWS_onto:Bl K t.k_ROWS_onto [.int 2,.ref t.f_63]=true
 q_ROWS_one:Bl K t.k_ROWS_one [.int 2,.ref t.f_75]=true
 q_ROWS_kept:Bl K t.k_ROWS_kept [.int 2,.ref t.f_61]=true
 z_len:mg "len"=none
 z_list:mg "list"=none
 z_reversed:mg "reversed"=none
 z_isinstance:mg "isinstance"=none
 z_range:mg "range"=none
 z_int:mg "int"=none
 z_bool:mg "bool"=none
 z_ValueError:mg "ValueError"=none
 z_tuple:mg "tuple"=none
 z_enumerate:mg "enumerate"=none
 z_min:mg "min"=none
 z_max:mg "max"=none
 z_str:mg "str"=none
 z_sum:mg "sum"=none
 z_sorted:mg "sorted"=none
 z_abs:mg "abs"=none
 z_any:mg "any"=none
 z_all:mg "all"=none
 z_zip:mg "zip"=none
 g_LONGEST_TABLE:∃k,mg "LONGEST_TABLE"=some (.int 256 k)
 g_MOST_NODES:∃k,mg "MOST_NODES"=some (.int 9 k)
 g_FIGURES:∃k,mg "FIGURES"=some (.str "0123456789" k)
 g_MOST_FIGURES:∃k,mg "MOST_FIGURES"=some (.int 60 k)
 g_LETTERS:∃k,mg "LETTERS"=some (.str "abcdefghijklmnopqrstuvwxyz" k)
 g_LONGEST_NAME:∃k,mg "LONGEST_NAME"=some (.int 8 k)
 th_95:aU K t.c_95
 na_Book_rules:Ep K t.c_95 "rules"
 mk_95:Mk K t.c_95 t.f_7
 me_50:T9 K t.c_95 "say" t.f_50
 x_79:PySem.W.excIn K t.c_79 DC "ValueError.__new__"=true
 x_80:PySem.W.excIn K t.c_80 DC "ValueError.__new__"=true
 x_51:PySem.W.excIn K t.c_51 DC "ValueError.__new__"=true
 x_70:PySem.W.excIn K t.c_70 DC "ValueError.__new__"=true
 x_37:PySem.W.excIn K t.c_37 DC "ValueError.__new__"=true
 x_81:PySem.W.excIn K t.c_81 DC "ValueError.__new__"=true
 x_78:PySem.W.excIn K t.c_78 DC "ValueError.__new__"=true
 x_88:PySem.W.excIn K t.c_88 DC "ValueError.__new__"=true
 xm_89:ZM K t.c_89 t.f_3
 ek_79:Ed K t.c_79
 ek_89:Ed K t.c_89
 ek_70:Ed K t.c_70
 ek_37:Ed K t.c_37
 ek_81:Ed K t.c_81
 ek_78:Ed K t.c_78
 ek_88:Ed K t.c_88
 xa_NoRow_at:XA K t.c_89 t.c_52 "at"
 kt_88_88:PySem.W.kitOne K (.ref t.c_88) (.ref t.c_88)=some true
 kt_88_78:PySem.W.kitOne K (.ref t.c_88) (.ref t.c_78)=some false
 kt_88_81:PySem.W.kitOne K (.ref t.c_88) (.ref t.c_81)=some false
 kt_88_89:PySem.W.kitOne K (.ref t.c_88) (.ref t.c_89)=some false
 kt_88_79:PySem.W.kitOne K (.ref t.c_88) (.ref t.c_79)=some false
 kt_88_37:PySem.W.kitOne K (.ref t.c_88) (.ref t.c_37)=some false
 kt_88_70:PySem.W.kitOne K (.ref t.c_88) (.ref t.c_70)=some false
 kt_NoAsk_ValueError:PySem.W.kitOne K (.ref t.c_88) (.type "ValueError")=some true
 kt_78_88:PySem.W.kitOne K (.ref t.c_78) (.ref t.c_88)=some false
 kt_78_78:PySem.W.kitOne K (.ref t.c_78) (.ref t.c_78)=some true
 kt_78_81:PySem.W.kitOne K (.ref t.c_78) (.ref t.c_81)=some false
 kt_78_89:PySem.W.kitOne K (.ref t.c_78) (.ref t.c_89)=some false
 kt_78_79:PySem.W.kitOne K (.ref t.c_78) (.ref t.c_79)=some false
 kt_78_37:PySem.W.kitOne K (.ref t.c_78) (.ref t.c_37)=some false
 kt_78_70:PySem.W.kitOne K (.ref t.c_78) (.ref t.c_70)=some false
 kt_NoName_ValueError:PySem.W.kitOne K (.ref t.c_78) (.type "ValueError")=some true
 kt_81_88:PySem.W.kitOne K (.ref t.c_81) (.ref t.c_88)=some false
 kt_81_78:PySem.W.kitOne K (.ref t.c_81) (.ref t.c_78)=some false
 kt_81_81:PySem.W.kitOne K (.ref t.c_81) (.ref t.c_81)=some true
 kt_81_89:PySem.W.kitOne K (.ref t.c_81) (.ref t.c_89)=some false
 kt_81_79:PySem.W.kitOne K (.ref t.c_81) (.ref t.c_79)=some false
 kt_81_37:PySem.W.kitOne K (.ref t.c_81) (.ref t.c_37)=some false
 kt_81_70:PySem.W.kitOne K (.ref t.c_81) (.ref t.c_70)=some false
 kt_NoText_ValueError:PySem.W.kitOne K (.ref t.c_81) (.type "ValueError")=some true
 kt_89_88:PySem.W.kitOne K (.ref t.c_89) (.ref t.c_88)=some false
 kt_89_78:PySem.W.kitOne K (.ref t.c_89) (.ref t.c_78)=some false
 kt_89_81:PySem.W.kitOne K (.ref t.c_89) (.ref t.c_81)=some false
 kt_89_89:PySem.W.kitOne K (.ref t.c_89) (.ref t.c_89)=some true
 kt_89_79:PySem.W.kitOne K (.ref t.c_89) (.ref t.c_79)=some false
 kt_89_37:PySem.W.kitOne K (.ref t.c_89) (.ref t.c_37)=some false
 kt_89_70:PySem.W.kitOne K (.ref t.c_89) (.ref t.c_70)=some false
 kt_NoRow_ValueError:PySem.W.kitOne K (.ref t.c_89) (.type "ValueError")=some true
 kt_79_88:PySem.W.kitOne K (.ref t.c_79) (.ref t.c_88)=some false
 kt_79_78:PySem.W.kitOne K (.ref t.c_79) (.ref t.c_78)=some false
 kt_79_81:PySem.W.kitOne K (.ref t.c_79) (.ref t.c_81)=some false
 kt_79_89:PySem.W.kitOne K (.ref t.c_79) (.ref t.c_89)=some false
 kt_79_79:PySem.W.kitOne K (.ref t.c_79) (.ref t.c_79)=some true
 kt_79_37:PySem.W.kitOne K (.ref t.c_79) (.ref t.c_37)=some false
 kt_79_70:PySem.W.kitOne K (.ref t.c_79) (.ref t.c_70)=some false
 kt_NoRule_ValueError:PySem.W.kitOne K (.ref t.c_79) (.type "ValueError")=some true
 kt_37_88:PySem.W.kitOne K (.ref t.c_37) (.ref t.c_88)=some false
 kt_37_78:PySem.W.kitOne K (.ref t.c_37) (.ref t.c_78)=some false
 kt_37_81:PySem.W.kitOne K (.ref t.c_37) (.ref t.c_81)=some false
 kt_37_89:PySem.W.kitOne K (.ref t.c_37) (.ref t.c_89)=some false
 kt_37_79:PySem.W.kitOne K (.ref t.c_37) (.ref t.c_79)=some false
 kt_37_37:PySem.W.kitOne K (.ref t.c_37) (.ref t.c_37)=some true
 kt_37_70:PySem.W.kitOne K (.ref t.c_37) (.ref t.c_70)=some false
 kt_NoWayBack_ValueError:PySem.W.kitOne K (.ref t.c_37) (.type "ValueError")=some true
 kt_70_88:PySem.W.kitOne K (.ref t.c_70) (.ref t.c_88)=some false
 kt_70_78:PySem.W.kitOne K (.ref t.c_70) (.ref t.c_78)=some false
 kt_70_81:PySem.W.kitOne K (.ref t.c_70) (.ref t.c_81)=some false
 kt_70_89:PySem.W.kitOne K (.ref t.c_70) (.ref t.c_89)=some false
 kt_70_79:PySem.W.kitOne K (.ref t.c_70) (.ref t.c_79)=some false
 kt_70_37:PySem.W.kitOne K (.ref t.c_70) (.ref t.c_37)=some false
 kt_70_70:PySem.W.kitOne K (.ref t.c_70) (.ref t.c_70)=some true
 kt_TooWide_ValueError:PySem.W.kitOne K (.ref t.c_70) (.type "ValueError")=some true
 em_88_52:PySem.W.exmOne K (.ref t.c_88) (.ref t.c_52)=some true
 em_78_52:PySem.W.exmOne K (.ref t.c_78) (.ref t.c_52)=some true
 em_81_52:PySem.W.exmOne K (.ref t.c_81) (.ref t.c_52)=some true
 em_89_52:PySem.W.exmOne K (.ref t.c_89) (.ref t.c_52)=some true
 em_79_52:PySem.W.exmOne K (.ref t.c_79) (.ref t.c_52)=some true
 em_37_52:PySem.W.exmOne K (.ref t.c_37) (.ref t.c_52)=some true
 em_70_52:PySem.W.exmOne K (.ref t.c_70) (.ref t.c_52)=some true
 em_79_79:PySem.W.exmOne K (.ref t.c_79) (.ref t.c_79)=some true
inductive Ft(vs:List V)(z1_:Hp)(z2_:VK)(z3_:XK):Prop
 |m (a):vs=[a]->False->Ft vs z1_ z2_ z3_
inductive LO(vs:List V)(z1_:Hp)(z2_:VK)(z3_:XK):Prop
 |m (a b):vs=[a,b]->False->LO vs z1_ z2_ z3_
inductive XD(vs:List V)(z1_:Hp)(z2_:VK)(z3_:XK):Prop
 |m (a b c):vs=[a,b,c]->False->XD vs z1_ z2_ z3_
noncomputable def cA(t:C9):Nat->qM
 |0=>t.c_88
 |1=>t.c_78
 |2=>t.c_81
 |3=>t.c_89
 |4=>t.c_79
 |5=>t.c_37
 |_=>t.c_70
def DA(t:C9)(c:Nat)(H:Hp)(E:XK):Prop:=∀D H',AJ H H'->E (.ref (cA t c)) D H'
theorem DA.same{t:C9}{c:Nat}{H H':Hp}{E:XK}(h:DA t c H E)(e:AJ H H'):DA t c H' E:=λD H2 e2=>h D H2 (e.trans e2)
structure Rl where
 (g lo:Int) (tq:qR) (m:Nat)
def IY(H:Hp)(a:qM)(q:Rl):Prop:=A4 H a q.g q.lo q.tq q.m
abbrev Rs:=List (Str×Rl)
def IZ(H:Hp)(d:qM)(rs:Rs):Prop:=rs.length<=9/\∃kvs:List (BQ×V),H d=some (.dK kvs)/\Paired (λ(q:BQ×V) (p:Str×Rl)=>q.1=.inr p.1/\∃a,q.2=.ref a/\IY H a p.2) kvs rs
theorem IZ.same{H H':Hp}{d:qM}{rs:Rs}(e:AJ H H')(h:IZ H d rs):IZ H' d rs:=by obtain⟨l,kvs,hd,hp⟩:=h;exact⟨l,kvs,e _ _ hd,Paired.mapP hp λq p z=>⟨z.1,z.2.elim λa y=>⟨a,y.1,A4.same e y.2⟩⟩⟩
theorem GL{H:Hp}{x:Str}{kvs:List (BQ×V)}{rs:Rs}(h:Paired (λ(q:BQ×V) (p:Str×Rl)=>q.1=.inr p.1/\∃a,q.2=.ref a/\IY H a p.2) kvs rs):
  (rs.lookup x=none->BY kvs (.inr x)=none)/\∀q,rs.lookup x=some q->∃a,BY kvs (.inr x)=some (.ref a)/\IY H a q:=by
 induction h with
 |nil=>exact⟨λ_=>rfl,λq z=>by cases z⟩
 | @cons q p kvs rs r _ ih =>
  obtain⟨k,v⟩:=q;obtain⟨e1,a,e2,ok⟩:=r;dsimp only at e1 e2;subst e1 e2;rw[bZ]
  by_cases z:x=p.1
  ·subst z;rw[beq_self_eq_true,C0 rfl];refine⟨λy=>?_,λq y=>?_⟩
   ·cases y
   ·cases y;exact⟨a,rfl,ok⟩
  ·rw[beq_eq_false_iff_ne.mpr z];have e:BY ((Sum.inr p.1,V.ref a)::kvs) (.inr x)=BY kvs (.inr x):=by unfold BY;rw[List.find?_cons,qG (λy=>z (Sum.inr.inj y).symm)]
   rw[e];exact ih
theorem IZ.miss{H:Hp}{d:qM}{rs:Rs}{x:Str}(h:IZ H d rs)(e:rs.lookup x=none):MN H d (.str x) none:=by obtain⟨_,kvs,hd,hp⟩:=h;exact .inl ⟨kvs,.inr x,.inl hd,rfl,((GL hp).1 e).symm⟩
theorem IZ.hit{H:Hp}{d:qM}{rs:Rs}{x:Str}{q:Rl}(h:IZ H d rs)(e:rs.lookup x=some q):∃a,MN H d (.str x) (some (.ref a))/\IY H a q:=by obtain⟨_,kvs,hd,hp⟩:=h;obtain⟨a,h1,h2⟩:=(GL hp).2 q e;exact⟨a,.inl ⟨kvs,.inr x,.inl hd,rfl,h1.symm⟩,h2⟩
def DN(d:qM)(H H':Hp):Prop:=∀a o,a≠d->H a=some o->H' a=some o
theorem DN.of{d:qM}{H H':Hp}(e:AJ H H'):DN d H H':=λa o _ h=>e a o h
def BU(x:Str):Prop:=1<=x.cps.size/\x.cps.size<=8/\∀c∈x.cps.toList,97<=c/\c<=122
inductive EL(t:C9)(vs:List V)(H:Hp)(Q:VK)(E:XK):Prop
 |m (x:Str):vs=[.str x]->Ee x->(BU x->∀H',AJ H H'->Q (.str x) H')->(¬BU x->DA t 1 H E)->EL t vs H Q E
inductive EM(t:C9)(vs:List V)(H:Hp)(Q:VK)(E:XK):Prop
 |m (d:qM) (x:Str) (rs:Rs):vs=[.ref d,.str x]->IZ H d rs->(∀q a,rs.lookup x=some q->IY H a q->Q (.ref a) H)->(rs.lookup x=none->DA t 1 H E)->EM t vs H Q E
inductive IA(vs:List V)(H:Hp)(Q:VK)(z3_:XK):Prop
 |m (d a:qM) (x:Str) (rs:Rs) (q:Rl):vs=[.ref d,.str x,.ref a]->IZ H d rs->rs.length<=8->IY H a q->rs.lookup x=none->(∀H',DN d H H'->IZ H' d (rs++[(x,q)])->Q (.str "ok") H')->IA vs H Q z3_
def XE(q:Rl):Prop:=2<=q.g/\q.g<=9/\1<=q.m/\q.m<=8/\(q.tq.length:Int)=q.g^q.m/\q.g^q.m<=256/\∀n∈q.tq,0<=n/\n<q.g
def JM(q:Rl):Prop:=∃lf tf mf,C4 q.g q.lo q.tq q.m lf tf mf/\9<q.g^(mf-1)
def Qq(q r:Rl):Prop:=∃low M low' M',Cj q.g q.lo q.tq q.m low M/\Cj r.g r.lo r.tq r.m low' M'/\256<q.g^(M+M'-1)
def Sa(q:Rl):Prop:=∃lf tf mf,C4 q.g q.lo q.tq q.m lf tf mf/\q.g^(mf-1)<=9/\∀rk,¬Zn q.g.toNat (tf.length/q.g.toNat) tf rk
abbrev D0:=Rs->List Str->Hp->qM->VK->XK->Prop
def CB(t:C9):D0:=λrs ws H d Q E=>∃w0 x y,ws=[w0,x,y]/\((¬BU x/\DA t 1 H E)\/(BU x/\(∀g lo d4,¬Dq (.str y) g lo d4)/\DA t 2 H E) \/
 (BU x/\rs.lookup x=none/\rs.length<=8/\∃q:Rl,Dq (.str y) q.g q.lo q.tq/\XE q/\∀H',DN d H H'->IZ H' d (rs++[(x,q)])->Q (.str "ok") H'))
def DO(t:C9):D0:=λrs ws H _ _ E=>∃w0 x y z,ws=[w0,x,y,z]/\((¬BU x/\DA t 1 H E)\/(BU x/\rs.lookup y=none/\DA t 1 H E)\/(BU x/\∃q,rs.lookup y=some q/\((rs.lookup z=none/\DA t 1 H E)\/∃r,rs.lookup z=some r/\((q.g≠r.g/\DA t 4 H E)\/(q.g=r.g/\Qq q r/\DA t 6 H E)))))
def Fu(t:C9):D0:=λrs ws H d Q E=>∃w0 x y,ws=[w0,x,y]/\((¬BU x/\DA t 1 H E)\/(BU x/\rs.lookup y=none/\DA t 1 H E) \/
 (BU x/\rs.lookup x=none/\rs.length<=8/\∃q:Rl,rs.lookup y=some q/\∀H',DN d H H'->IZ H' d (rs++[(x,⟨q.g,1-q.lo-(q.m:Int),Dc q.g q.tq q.m,q.m⟩)])->Q (.str "ok") H'))
def EY(t:C9):D0:=λrs ws H _ _ E=>∃w0 x y,ws=[w0,x,y]/\((¬BU x/\DA t 1 H E)\/(BU x/\rs.lookup y=none/\DA t 1 H E)\/(BU x/\∃q,rs.lookup y=some q/\((JM q/\DA t 6 H E)\/(Sa q/\DA t 5 H E))))
def Cn(t:C9):D0:=λrs ws H _ _ E=>∃w0 x y z,ws=[w0,x,y,z]/\((¬BU x/\DA t 1 H E)\/(BU x/\rs.lookup y=none/\DA t 1 H E)\/(BU x/\∃q,rs.lookup y=some q/\(∀n,¬Hk z n)/\DA t 2 H E))
def Gx(t:C9):D0:=λrs ws H _ _ E=>∃w0 x,ws=[w0,x]/\rs.lookup x=none/\DA t 1 H E
def XF(l:List Str):Prop:=PyProof.Rows.sortedS l=true
def Fv:D0:=λrs ws H _ Q _=>∃w0,ws=[w0]/\(∀p∈rs,p.1.cps.size<=8)/\∀l,l.Perm (rs.map Prod.fst)->XF l->∀H',AJ H H'->Q (.str (PySem.Txt.join (Str.ofString " ") l)) H'
def Dw(t:C9):D0:=λrs ws H _ Q E=>∃w0 x,ws=[w0,x]/\((rs.lookup x=none/\DA t 1 H E)\/∃q,rs.lookup x=some q/\Cj q.g q.lo q.tq q.m q.lo q.m/\q.lo.natAbs<10^130/\∀H',AJ H H'->Q (.str (Bg q.g q.lo q.tq)) H')
def GM(t:C9):D0:=λrs ws H _ Q E=>∃w0 x,ws=[w0,x]/\((rs.lookup x=none/\DA t 1 H E)\/∃q,rs.lookup x=some q/\(low q.g q.tq).natAbs<10^130/\∀H',AJ H H'->Q (.str (Str.ofString (toString (low q.g q.tq)))) H')
def Gy(t:C9):D0:=λrs ws H _ _ E=>∃w0 x y,ws=[w0,x,y]/\((rs.lookup x=none/\DA t 1 H E)\/∃q,rs.lookup x=some q/\rs.lookup y=none/\DA t 1 H E)
def Bh(t:C9)(n:Nat):D0:=λrs ws H _ _ E=>∃w0 x y,ws=[w0,x,y]/\((rs.lookup x=none/\DA t 1 H E)\/∃q,rs.lookup x=some q/\((R6 (.str y)=none/\DA t 2 H E)\/∃us:qR,R6 (.str y)=some us/\Bt q.g n (us.map V.int)≠none/\DA t 3 H E))
def Bp(t:C9):D0:=λrs ws H _ _ E=>∃w0 x,ws=[w0,x]/\((rs.lookup x=none/\DA t 1 H E)\/∃q,rs.lookup x=some q/\JM q/\DA t 6 H E)
inductive BD(f:D0)(vs:List V)(H:Hp)(Q:VK)(E:XK):Prop
 |m (d a:qM) (rs:Rs) (ws:List Str):vs=[.ref d,.ref a]->IZ H d rs->H a=some (.lst (ws.map V.str))->(∀x∈ws,Ee x)->f rs ws H d Q E->BD f vs H Q E
inductive Ce(t:C9)(vs:List V)(H:Hp)(z2_:VK)(E:XK):Prop
 |m (r:qM) (q:Rl):vs=[.ref r]->IY H r q->JM q->DA t 6 H E->Ce t vs H z2_ E
inductive KL(t:C9)(vs:List V)(H:Hp)(Q:VK)(E:XK):Prop
 |m (r:qM) (q:Rl):vs=[.ref r]->IY H r q->((JM q/\DA t 6 H E)\/(Sa q/\∀H',AJ H H'->Q .non H'))->KL t vs H Q E
inductive Mc(t:C9)(vs:List V)(H:Hp)(z2_:VK)(E:XK):Prop
 |m (r:qM) (q:Rl):vs=[.ref r]->IY H r q->((JM q/\DA t 6 H E)\/(Sa q/\DA t 5 H E))->Mc t vs H z2_ E
inductive Md(t:C9)(vs:List V)(H:Hp)(z2_:VK)(E:XK):Prop
 |m (a b:qM) (q r:Rl):vs=[.ref a,.ref b]->IY H a q->IY H b r->((q.g≠r.g/\DA t 4 H E)\/(q.g=r.g/\Qq q r/\DA t 6 H E))->Md t vs H z2_ E
inductive Me(t:C9)(vs:List V)(H:Hp)(z2_:VK)(E:XK):Prop
 |m (a b:qM) (q:Rl) (us:qR):vs=[.ref a,.ref b,.int 1]->IY H a q->H b=some (.lst (us.map V.int))->Bt q.g 1 (us.map V.int)≠none->DA t 3 H E->Me t vs H z2_ E
inductive E6(t:C9)(n:Nat)(vs:List V)(H:Hp)(z2_:VK)(E:XK):Prop
 |m (a b:qM) (q:Rl) (us:qR):vs=[.ref a,.ref b]->IY H a q->H b=some (.lst (us.map V.int))->Bt q.g n (us.map V.int)≠none->DA t 3 H E->E6 t n vs H z2_ E
theorem Mf:∀c,c<128->(!(Builtin.Str.occurrences (Str.ofString "abcdefghijklmnopqrstuvwxyz") ⟨#[c]⟩ 0 (Str.ofString "abcdefghijklmnopqrstuvwxyz").length 1).isEmpty)=(decide (97<=c)&&decide (c<=122)):=by decide +kernel
theorem JN{x:Str}:(((x.cps.toList.take x.cps.size).map λc:Nat=>decide (97<=c)&&decide (c<=122)).all id=true)↔∀c∈x.cps.toList,97<=c/\c<=122:=by
 rw[be (by rw[ai];exact af _),List.all_map,bD];refine forall_congr' λc=>forall_congr' λ_=>?_
 show (decide (97<=c)&&decide (c<=122))=true↔_;rw[au,decide_eq_true_eq,decide_eq_true_eq]
theorem IZ.put{H:Hp}{d a:qM}{x:Str}{rs:Rs}{q:Rl}(h:IZ H d rs)(l8:rs.length<=8)(ha:IY H a q)(hx:rs.lookup x=none):
  ∃kvs,H d=some (.dK kvs)/\kvs.length<sizeLine/\DN d H (Ai H d (.dK (CF kvs (.inr x) (.ref a))))/\IZ (Ai H d (.dK (CF kvs (.inr x) (.ref a)))) d (rs++[(x,q)]):=by
 obtain⟨l9,kvs,hd,hp⟩:=h;have ln:=Paired.length hp
 have e:CF kvs (.inr x) (.ref a)=kvs++[(.inr x,.ref a)]:=by unfold CF;refine qC λz=>?_;obtain⟨kv,hk,y⟩:=dJ.mp z;have v:=(GL (x:=x) hp).1 hx;unfold BY at v;have f:=List.find?_eq_none.mp (Option.map_eq_none_iff.mp v) kv hk;exact f y
 have sx:DN d H (Ai H d (.dK (CF kvs (.inr x) (.ref a)))):=λb o n z=>by rw[AR n];exact z
 have kp:∀{b:qM} {p:Rl},IY H b p->IY (Ai H d (.dK (CF kvs (.inr x) (.ref a)))) b p:=λ{b p} z=>by
  obtain⟨tb,h1,h2⟩:=z.v;refine⟨⟨tb,?_,?_⟩,z.g2,z.g9,z.m1,z.m8,z.len,z.sz,z.tb⟩
  ·rw[AR (λy=>by rw[y,hd]at h1;cases h1)];exact h1
  ·rw[AR (λy=>by rw[y,hd]at h2;cases h2)];exact h2
 refine⟨kvs,hd,by rw[ln];exact Ap (by lia),sx,by rw[ac,bi];lia,_,AF,?_⟩;rw[e]at kp⊢;exact Paired.app (Paired.mapP hp λk p z=>⟨z.1,z.2.elim λb y=>⟨b,y.1,kp y.2⟩⟩) (.cons ⟨rfl,a,rfl,kp ha⟩ .nil)
theorem BK{t:C9}{H:Hp}{Q:VK}{E:XK}{d:qM}{x:Str}{rs:Rs}(hR:IZ H d rs)(h:(rs.lookup x=none/\DA t 1 H E)\/∃q,rs.lookup x=some q/\∀a,IY H a q->Q (.ref a) H):EM t [.ref d,.str x] H Q E:=by
 refine⟨d,x,rs,rfl,hR,λq a e ok=>?_,λe=>?_⟩
 ·rcases h with⟨z,_⟩|⟨q',z,h⟩
  ·rw[z]at e;cases e
  ·rw[z]at e;cases e;exact h a ok
 ·rcases h with⟨_,r⟩|⟨q',z,_⟩
  ·exact r
  ·rw[z]at e;cases e
theorem Ek{t:C9}{H:Hp}{Q:VK}{E:XK}{x:Str}(tx:Ee x)(h:(¬BU x/\DA t 1 H E)\/(BU x/\∀H',AJ H H'->Q (.str x) H')):EL t [.str x] H Q E:=by
 refine⟨x,rfl,tx,λn=>?_,λn=>?_⟩
 ·rcases h with⟨z,_⟩|⟨_,h⟩
  ·exact qE n z
  ·exact h
 ·rcases h with⟨_,r⟩|⟨z,_⟩
  ·exact r
  ·exact qE z n
theorem IY.same{H H':Hp}{a:qM}{q:Rl}(e:AJ H H')(h:IY H a q):IY H' a q:=A4.same e h
theorem Qr{n:Int}(h:n.natAbs<10^130):n.natAbs.log2<1920:=by
 rcases Nat.eq_zero_or_pos n.natAbs with z|z
 ·rw[z];decide
 ·refine (Nat.log2_lt (bo z)).mpr (Nat.lt_trans h ?_)
  decide +kernel
def Oy(t:C9)(H:Hp)(b d:qM)(rs:Rs):Prop:=(∃dx,H b=some (.ins t.c_95 dx [("rules",.ref d)]))/\IZ H d rs
inductive Qs(t:C9)(vs:List V)(H:Hp)(Q:VK)(z3_:XK):Prop
 |m (x dx):vs=[.ref x]->H x=some (.ins t.c_95 dx [])->(∀d H',(∀H2,AJ H2 H->H2 x=none->AJ H2 H')->H d=none->Oy t H' x d []->Q .non H')->Qs t vs H Q z3_
noncomputable def Oz(t:C9):List (Str×Nat×D0):=[("rule",3,CB t),("join",4,DO t),("turn",3,Fu t),("back",3,EY t),("move",4,Cn t),("drop",2,Gx t),("names",1,Fv),("show",2,Dw t),("number",2,GM t),("same",3,Gy t),("led",3,Bh t 0),("ring",3,Bh t 1),("before",3,Bh t 0),("onto",2,Bp t),("one",2,Bp t),("kept",2,Bp t)]
def Mg(t:C9)(rs:Rs)(v:V)(H:Hp)(d:qM)(Q:VK)(E:XK):Prop:=((∀x,v≠.str x)/\DA t 0 H E)\/∃x,v=.str x/\∃w ws,PySem.Txt.split x (Str.ofString " ")=w::ws /\
 (((Oz t).lookup w=none/\DA t 0 H E)\/∃n f,(Oz t).lookup w=some (n,f)/\((ws.length+1≠n/\DA t 0 H E)\/(ws.length+1=n/\∀H1,AJ H H1->f rs (w::ws) H1 d Q E)))
inductive IB(t:C9)(vs:List V)(H:Hp)(Q:VK)(E:XK):Prop
 |m (b d:qM) (rs:Rs) (v:V):vs=[.ref b,v]->Oy t H b d rs->OY H v->Mg t rs v H d Q E->IB t vs H Q E
theorem Nf{l:List Str}(h:∀x∈l,x.cps.size<=8):(l.map λx=>x.length).sum<=8*l.length:=by
 induction l with
 |nil=>exact af _
 |cons x l ih =>
  rw[bF,List.sum_cons,a9];have a:=h x (ah ..);have b:=ih λy hy=>h y (aa _ hy)
  have c:x.length=x.cps.size:=rfl;lia
theorem O0{H:Hp}{kvs:List (BQ×V)}{rs:Rs}(h:Paired (λ(q:BQ×V) (p:Str×Rl)=>q.1=.inr p.1/\∃a,q.2=.ref a/\IY H a p.2) kvs rs):kvs.map (·.1)=(rs.map Prod.fst).map Sum.inr:=by
 induction h with
 |nil=>rfl
 |cons r _ ih=>rw[bF,bF,bF,r.1,ih]
theorem GZ{β γ:Type}{R:β->γ->Prop}{w:Str}{l:List (Str×β)}{l':List (Str×γ)}(h:Paired (λ(p:Str×β) (q:Str×γ)=>p.1=q.1/\R p.2 q.2) l l'):(l.lookup w=none/\l'.lookup w=none)\/∃b c,l.lookup w=some b/\l'.lookup w=some c/\R b c:=by
 induction h with
 |nil=>exact .inl ⟨rfl,rfl⟩
 | @cons p q l l' r _ ih =>
  obtain⟨k,b⟩:=p;obtain⟨k',c⟩:=q;obtain⟨e,r⟩:=r;dsimp only at e r;subst e;rw[bZ,bZ];cases w==k with
  |true=>exact .inr ⟨b,c,rfl,rfl,r⟩
  |false=>exact ih
def Zw(P:qO)(w:qP)(K:qQ)(mg:Str->Option qL)(base:Heap)(b:Nat×D0)(v:V):Prop:=∃k fa ps,v=.ref k/\Bl K k [.int ((b.1:Nat):Int),.ref fa]=true/\Aa P w K mg base 11 fa ps (BD b.2)
noncomputable def Co(x:Str):List Str:=PySem.Txt.split x (Str.ofString " ")
theorem XG:Str.ofString " "=⟨#[32]⟩:=by decide +kernel
theorem Cp(x:Str):(Co x).map (·.cps.toList)=Bu 32 x.cps.toList:=by unfold Co;rw[XG];exact Hi x 32
theorem Qt{x:Str}(h:Ee x):(Co x).length<=601/\∀p∈Co x,Ee p:=by have e:=Cp x;obtain⟨h1,h2⟩:=Hj 32 x.cps.toList;have hs:=h.2;have hl:x.cps.toList.length=x.cps.size:=ai;rw[<-e,aW]at h1;refine⟨by lia,λp hp=>?_⟩;obtain⟨h3,h4⟩:=h2 p.cps.toList (by rw[<-e];exact List.mem_map_of_mem hp);rw[ai,ai]at h3;refine⟨?_,by lia⟩;have ha:=h.1;unfold IX at ha⊢;rw[<-Array.all_toList,bD]at ha⊢;exact λc hc=>ha c (h4 c hc)
structure JO(n0 n1 n2 n3:Str):Prop where
 o0:BU n0
 o1:BU n1
 o2:BU n2
 o3:BU n3
 d01:n0≠n1
 d02:n0≠n2
 d03:n0≠n3
 d12:n1≠n2
 d13:n1≠n3
 d23:n2≠n3
inductive KM(vs:List V)(H:Hp)(Q:VK)(z3_:XK):Prop
 |m (c:Int):vs=[.int c]->(∀p n0 n1 n2 n3 H',AJ H H'->H' p=some (.lst [.str n0,.str n1,.str n2,.str n3])->JO n0 n1 n2 n3->Q (.ref p) H')->KM vs H Q z3_
theorem ZR{xs:qR}{j:Nat}(h:j<xs.length):Kb (xs.map V.int) (j:Int)=some (.int (xs.getD j 0)):=Bv (by rw[ay,ao h,aq,ao h];rfl)
theorem Qu:∀k,k<26->Kb (Str.ofString "abcdefghijklmnopqrstuvwxyz").cps.toList ((k:Nat):Int)=some (97+k):=by decide +kernel
theorem Vp:∀k,k<26->Kb (Str.ofString "bcdefghijklmnopqrstuvwxyza").cps.toList ((k:Nat):Int)=some (97+(k+1)%26):=by decide +kernel
theorem Qv:∀k,k<26->PySem.Txt.find (Str.ofString "abcdefghijklmnopqrstuvwxyz") ⟨#[97+k]⟩=((k:Nat):Int):=by decide +kernel
theorem IC{x:Str}{b:Nat}(h2:b<=x.length):(PySem.Txt.slice x none (some ((b:Nat):Int))).cps.toList=x.cps.toList.take b:=by have z:=beq_iff_eq.mp (PyProof.Rows.slice_closes_toL (x:=x) (j:=((b:Nat):Int)) (by lia) (by lia));rw[z];show (x.cps.toList.drop 0).take (((b:Nat):Int)-0).toNat=_;rw[List.drop_zero,show (((b:Nat):Int)-0).toNat=b by lia]
theorem Mh{x:Str}(h:1<=x.length):(PySem.Txt.slice x none (some (-1))).cps.toList=x.cps.toList.take (x.length-1):=by rw[PyProof.Rows.slice_to_neg (by decide),show max 0 ((x.length:Int)+(-1))=((x.length-1:Nat):Int) by lia,IC (Nat.sub_le _ _)]
theorem Ng{x:Str}{l:List Nat}(e:x.cps.toList=l)(h1:1<=l.length)(h8:l.length<=8)(h:∀c∈l,97<=c/\c<=122):BU x:=by
 have z:x.cps.size=l.length:=by rw[<-e,ai]
 exact⟨by lia,by lia,by rw[e];exact h⟩
theorem ID{x y:Str}(h:x.cps.toList.length≠y.cps.toList.length):x≠y:=λe=>h (by rw[e])
theorem JO.mk'{B n1 n2 n3:Str}{a c:Nat}{b:Nat}(l2:2<=B.cps.toList.length)(l7:B.cps.toList.length<=7)(bc:∀a∈B.cps.toList,97<=a/\a<=122)(hb:b<B.cps.toList.length)(ha:B.cps.toList[b]?≠some a)(la:97<=a/\a<=122)(lc:97<=c/\c<=122)
  (e1:n1.cps.toList=B.cps.toList.take b++a::B.cps.toList.drop (b+1)) (e2:n2.cps.toList=B.cps.toList.take (B.cps.toList.length-1)) (e3:n3.cps.toList=B.cps.toList++[c]):JO B n1 n2 n3:=by
 have k1:(B.cps.toList.take b++a::B.cps.toList.drop (b+1)).length=B.cps.toList.length:=by rw[ac,a9,bJ,cm];lia
 have k2:(B.cps.toList.take (B.cps.toList.length-1)).length=B.cps.toList.length-1:=by rw[bJ];lia
 have k3:(B.cps.toList++[c]).length=B.cps.toList.length+1:=by rw[ac];rfl
 refine⟨Ng rfl (by lia) (by lia) bc,Ng e1 (by lia) (by lia) λz hz=>?_,Ng e2 (by lia) (by lia) λz hz=>bc z (dQ hz),Ng e3 (by lia) (by lia) λz hz=>?_,λe=>?_,ID (by rw[e2];lia),ID (by rw[e3];lia),ID (by rw[e1,e2];lia),ID (by rw[e1,e3];lia),ID (by rw[e2,e3];lia)⟩
 ·rcases ar.mp hz with y|y
  ·exact bc z (dQ y)
  ·rcases aw.mp y with y|y
   ·rw[y];exact la
   ·exact bc z (List.mem_of_mem_drop y)
 ·rcases ar.mp hz with y|y
  ·exact bc z y
  ·rw[ak.mp y];exact lc
 ·rw[<-e]at e1;refine ha ?_;rw[e1,bp (by rw[bJ];lia),bJ,show b-min b B.cps.toList.length=0 by lia];rfl
noncomputable def CG:qR:=[0,1,0,1,0,1,0,1,0,1,0,1,0,1,0,1,1,0,1,0,1,0,1,0,1,0,1,0,1,0,1,0]
noncomputable def Bk(n0 n1 n2:Str)(N:Int):Rs:=[(n0,⟨2,-3,[0,0,0,1],2⟩),(n1,⟨3,N,[0,2,1],1⟩),(n2,⟨2,1,CG,5⟩)]
def Gg(rs:Rs)(v:V)(c:Nat):Prop:=∀t H d Q E,DA t c H E->Mg t rs v H d Q E
noncomputable def Mi:List (Str×Nat):=[("rule",0),("join",1),("turn",2),("back",3),("move",4),("drop",5),("names",6),("show",7),("number",8),("same",9),("led",10),("ring",11),("before",12),("onto",13),("one",14),("kept",15)]
noncomputable def Sb(t:C9):List (Nat×D0):=(Oz t).map Prod.snd
theorem IE(t:C9)(w:Str):(Mi.lookup w=none/\(Oz t).lookup w=none)\/∃i b,Mi.lookup w=some i/\(Oz t).lookup w=some b/\(Sb t)[i]?=some b:=
 GZ (R:=λi b=>(Sb t)[i]?=some b) (.cons ⟨rfl,rfl⟩ (.cons ⟨rfl,rfl⟩ (.cons ⟨rfl,rfl⟩ (.cons ⟨rfl,rfl⟩ (.cons ⟨rfl,rfl⟩ (.cons ⟨rfl,rfl⟩ (.cons ⟨rfl,rfl⟩ (.cons ⟨rfl,rfl⟩ (.cons ⟨rfl,rfl⟩ (.cons ⟨rfl,rfl⟩ (.cons ⟨rfl,rfl⟩ (.cons ⟨rfl,rfl⟩ (.cons ⟨rfl,rfl⟩ (.cons ⟨rfl,rfl⟩ (.cons ⟨rfl,rfl⟩ (.cons ⟨rfl,rfl⟩ .nil))))))))))))))))
theorem EZ{rs:Rs}{x w:Str}{ws:List Str}(h:Co x=w::ws)(k:Mi.lookup w=none):Gg rs (.str x) 0:=λt H d Q E r=>by
 refine .inr ⟨x,rfl,w,ws,h,.inl ⟨?_,r⟩⟩;rcases IE t w with⟨_,z⟩|⟨i,b,z,_⟩
 ·exact z
 ·rw[k]at z;cases z
theorem Cf{rs:Rs}{x w:Str}{ws:List Str}{i n:Nat}(h:Co x=w::ws)(k:Mi.lookup w=some i)(e:∀t,∃f,(Sb t)[i]?=some (n,f))(l:ws.length+1≠n):Gg rs (.str x) 0:=λt H d Q E r=>by
 obtain⟨f,e⟩:=e t;refine .inr ⟨x,rfl,w,ws,h,.inr ⟨n,f,?_,.inl ⟨l,r⟩⟩⟩;rcases IE t w with⟨z,_⟩|⟨j,b,z,y,v⟩
 ·rw[k]at z;cases z
 ·rw[k]at z;cases z;rw[e]at v;cases v;exact y
theorem A1{rs:Rs}{x w:Str}{ws:List Str}{i n c:Nat}{f:C9->D0}(h:Co x=w::ws)(k:Mi.lookup w=some i)(e:∀t,(Sb t)[i]?=some (n,f t))(l:ws.length+1=n)(hf:∀t H d Q E,DA t c H E->f t rs (w::ws) H d Q E):Gg rs (.str x) c:=λt H d Q E r=>by
 refine .inr ⟨x,rfl,w,ws,h,.inr ⟨n,f t,?_,.inr ⟨l,λH1 e1=>hf t H1 d Q E (r.same e1)⟩⟩⟩;rcases IE t w with⟨z,_⟩|⟨j,b,z,y,v⟩
 ·rw[k]at z;cases z
 ·rw[k]at z;cases z;rw[e]at v;cases v;exact y
noncomputable def Ia(x:Str):Bool:=x.cps.toList.all λc=>c != 32
noncomputable def Ac(k:Nat)(x:Str):Bool:=x.cps.toList.all (λc=>decide (c<128))&&decide (x.cps.toList.length<=k)
theorem Dh(a b:Str):(a++b).cps.toList=a.cps.toList++b.cps.toList:=by show (a.cps++b.cps).toList=_;rw[br]
theorem Dx(a b c:Str):a++b++c=a++(b++c):=Ck (by rw[Dh,Dh,Dh,Dh,cX])
theorem E7{a b:Str}(h:Ia a=true)(h':Ia b=true):Ia (a++b)=true:=by unfold Ia at *;rw[Dh,List.all_append,h,h'];rfl
theorem AQ{j k:Nat}{a b:Str}(h:Ac j a=true)(h':Ac k b=true):Ac (j+k) (a++b)=true:=by unfold Ac at *;obtain⟨h1,h2⟩:=(au ..).mp h;obtain⟨h3,h4⟩:=(au ..).mp h';have h2:=qI h2;have h4:=qI h4;rw[Dh,List.all_append,h1,h3,ac];exact qF (by lia)
theorem Ga{k:Nat}{x:Str}(h:Ac k x=true)(hk:k<=600):Ee x:=by unfold Ac at h;obtain⟨h1,h2⟩:=(au ..).mp h;have h2:=qI h2;rw[ai]at h2;refine⟨?_,by lia⟩;unfold IX;rw[<-Array.all_toList];exact h1
theorem BU.fr{x:Str}(h:BU x):Ia x=true:=by unfold Ia;rw[bD];intro c hc;have:=h.2.2 c hc;exact bne_iff_ne.mpr (by lia)
theorem BU.tx{x:Str}(h:BU x):Ac 8 x=true:=by unfold Ac;rw[au,bD,ai];exact⟨λc hc=>qF (by have:=h.2.2 c hc;lia),qF h.2.1⟩
theorem Vq{x:Str}(h:Ia x=true):32∉x.cps.toList:=λz=>by unfold Ia at h;have:=bD.mp h 32 z;cases this
structure WT(x:Str)(ws:List Str)(k:Nat):Prop where
 w:Co x=ws
 t:Ac k x=true
noncomputable def Am(x:Str)(ws:List Str)(k:Nat):Bool:=decide (Bu 32 x.cps.toList=ws.map (·.cps.toList))&&Ac k x
theorem AO{x:Str}{ws:List Str}{k:Nat}(h:Am x ws k=true):WT x ws k:=by obtain⟨h1,h2⟩:=(au ..).mp h;exact⟨CA ((Cp x).trans (qI h1)),h2⟩
theorem IF{x:Str}{k:Nat}(h:Ia x=true)(t:Ac k x=true):WT x [x] k:=by refine⟨CA ((Cp x).trans ?_),t⟩;rw[EU _ (Vq h)];rfl
theorem Sc(a b:List Nat):Bu 32 (a++32::b)=Bu 32 a++Bu 32 b:=by
 induction a with
 |nil=>exact qD rfl
 |cons c a ih =>
  rw[cn,Bu,ih,Bu];split
  ·rfl
  ·cases e:Bu 32 a with
   |nil=>exact qE e (R9 _ _)
   |cons p ps=>rfl
theorem Ak{r x c:Str}{l ws:List Str}{j k i:Nat}(h:WT r l j)(e:c.cps.toList=32::x.cps.toList)(hx:WT x ws i)(t:Ac k c=true):WT (r++c) (l++ws) (j+k):=by refine⟨CA ((Cp _).trans ?_),AQ h.t t⟩;rw[Dh,e,Sc,<-Cp,<-Cp,h.w,hx.w,az]
theorem At{r x:Str}{l:List Str}{j:Nat}(h:WT r l j)(hx:BU x):WT (r++Str.ofString " "++x) (l++[x]) (j+9):=by rw[Dx];exact Ak h (by rw[Dh];rfl) (IF hx.fr hx.tx) (AQ (j:=1) (k:=8) (by decide +kernel) hx.tx)
theorem AS{ks k x:Str}{l:List Str}{j:Nat}(e:ks=k++Str.ofString " ")(h:WT k l j)(hx:BU x):WT (ks++x) (l++[x]) (j+9):=by rw[e];exact At h hx
inductive E8(c:Nat)(vs:List V)(H:Hp)(Q:VK)(z3_:XK):Prop
 |m (p:qM) (n0 n1 n2 n3:Str):vs=[.ref p]->H p=some (.lst [.str n0,.str n1,.str n2,.str n3])->JO n0 n1 n2 n3->(∀q vs' H',AJ H H'->H' q=some (.lst vs')->vs'.length<=30->0<vs'.length->(∀v∈vs',OY H' v/\∀N,Gg (Bk n0 n1 n2 N) v c)->Q (.ref q) H')->E8 c vs H Q z3_
inductive KN(vs:List V)(H:Hp)(Q:VK)(z3_:XK):Prop
 |m (p:qM) (n0 n1 n2 n3:Str) (c:Nat):vs=[.ref p,.int ((c:Nat):Int)]->3<=c->c<=6->H p=some (.lst [.str n0,.str n1,.str n2,.str n3])->JO n0 n1 n2 n3->(∀q vs' H',AJ H H'->H' q=some (.lst vs')->vs'.length<=30->0<vs'.length->(∀v∈vs',OY H' v/\∀N,Gg (Bk n0 n1 n2 N) v c)->Q (.ref q) H')->KN vs H Q z3_
def O6(H:Hp)(n0 n1 n2:Str)(a:qM):Prop:=∃v c,c<=6/\H a=some (.tup [v,.int ((c:Nat):Int)])/\OY H v/\∀N,Gg (Bk n0 n1 n2 N) v c
inductive E9(vs:List V)(H:Hp)(Q:VK)(z3_:XK):Prop
 |m (p:qM) (n0 n1 n2 n3:Str):vs=[.ref p]->H p=some (.lst [.str n0,.str n1,.str n2,.str n3])->JO n0 n1 n2 n3->(∀(q:qM) (ts:List qM) (H':Hp),AJ H H'->H' q=some (.lst (ts.map V.ref))->0<ts.length->ts.length<=300->(∀a∈ts,O6 H' n0 n1 n2 a)->Q (.ref q) H')->E9 vs H Q z3_
noncomputable def Qw(c:Nat):List V:=(List.range 7).map λk=>V.bl (decide (k=c))
inductive KO(t:C9)(vs:List V)(H:Hp)(Q:VK)(z3_:XK):Prop
 |m (e:qM) (c:Nat) (D:Option qM):vs=[.ref e]->c<=6->H e=some (IM e (.ref (cA t c)) D false)->(∀q H',AJ H H'->H' q=some (.lst (Qw c))->Q (.ref q) H')->KO t vs H Q z3_
inductive Mj(t:C9)(vs:List V)(H:Hp)(Q:VK)(z3_:XK):Prop
 |m (b d:qM) (rs:Rs) (v:V) (c:Nat):vs=[.ref b,v,.int ((c:Nat):Int)]->c<=6->Oy t H b d rs->OY H v->Gg rs v c->(∀H',AJ H H'->Q (.bl true) H')->Mj t vs H Q z3_
inductive IG(t:C9)(vs:List V)(H:Hp)(Q:VK)(z3_:XK):Prop
 |m (b d p x:qM) (n0 n1 n2 n3:Str) (N:Int):vs=[.ref b,.ref p,.ref x]->Oy t H b d (Bk n0 n1 n2 N)->H p=some (.lst [.str n0,.str n1,.str n2,.str n3])->JO n0 n1 n2 n3->0<=N->N<10^60->H x=some (.lst [.str (Bg 2 (-3) [0,0,0,1]),.str (Bg 3 N [0,2,1]),.str (Bg 2 1 CG)])->(∀H',AJ H H'->Q (.bl true) H')->IG t vs H Q z3_
theorem BE{a b:Str}{j k:Nat}(ha:Ac j a=true)(hb:Ac k b=true)(h:j+k<=1000):a.length+b.length<=sizeLine:=by have h1:=qI ((au ..).mp ha).2;have h2:=qI ((au ..).mp hb).2;rw[ai]at h1 h2;have e1:a.length=a.cps.size:=rfl;have e2:b.length=b.cps.size:=rfl;exact bB (show a.length+b.length<=1000 by lia) (by decide)
theorem Ab{H:Hp}{n0 n1 n2 x:Str}{ws:List Str}{k c:Nat}(W:WT x ws k)(hk:k<=600)(h:∀N,Gg (Bk n0 n1 n2 N) (.str x) c):OY H (.str x)/\∀N,Gg (Bk n0 n1 n2 N) (.str x) c:=⟨Ga W.t hk,h⟩
theorem Ea{β:Type}{w:Str}{l:List (Str×β)}(h:∀p∈l,p.1≠w):l.lookup w=none:=by
 induction l with
 |nil=>rfl
 |cons p l ih =>
  obtain⟨k,b⟩:=p;rw[bZ,beq_eq_false_iff_ne.mpr (λe=>h _ (ah ..) e.symm)];exact ih λq hq=>h q (aa _ hq)
section
variable{n0 n1 n2 n3:Str}{N:Int}
theorem JO.l0(_:JO n0 n1 n2 n3):(Bk n0 n1 n2 N).lookup n0=some ⟨2,-3,[0,0,0,1],2⟩:=by unfold Bk;rw[List.lookup_cons,beq_self_eq_true]
theorem JO.l1(h:JO n0 n1 n2 n3):(Bk n0 n1 n2 N).lookup n1=some ⟨3,N,[0,2,1],1⟩:=by unfold Bk;rw[List.lookup_cons,beq_eq_false_iff_ne.mpr (Ne.symm h.d01),List.lookup_cons,beq_self_eq_true]
theorem JO.l2(h:JO n0 n1 n2 n3):(Bk n0 n1 n2 N).lookup n2=some ⟨2,1,CG,5⟩:=by unfold Bk;rw[List.lookup_cons,beq_eq_false_iff_ne.mpr (Ne.symm h.d02),List.lookup_cons,beq_eq_false_iff_ne.mpr (Ne.symm h.d12),List.lookup_cons,beq_self_eq_true]
theorem Qx{x:Str}(h:x≠n0)(h1:x≠n1)(h2:x≠n2):(Bk n0 n1 n2 N).lookup x=none:=Ea λp hp=>by
 rcases aw.mp hp with e|hp
 ·rw[e];exact Ne.symm h
 rcases aw.mp hp with e|hp
 ·rw[e];exact Ne.symm h1
 rw[ak.mp hp];exact Ne.symm h2
theorem JO.l3(h:JO n0 n1 n2 n3):(Bk n0 n1 n2 N).lookup n3=none:=Qx (Ne.symm h.d03) (Ne.symm h.d13) (Ne.symm h.d23)
theorem JO.no(h:JO n0 n1 n2 n3){x:Str}(nx:¬BU x):(Bk n0 n1 n2 N).lookup x=none:=Qx (λe=>nx (e▸h.o0)) (λe=>nx (e▸h.o1)) (λe=>nx (e▸h.o2))
end
noncomputable def Zx(x:Str):Bool:=decide (1<=x.cps.toList.length)&&decide (x.cps.toList.length<=8)&&x.cps.toList.all λc=>decide (97<=c)&&decide (c<=122)
theorem Gb{x:Str}(h:Zx x=false):¬BU x:=λz=>by
 have:Zx x=true:=by unfold Zx;rw[au,au,bD,ai];refine⟨⟨qF z.1,qF z.2.1⟩,λc hc=>?_⟩;rw[au];exact⟨qF (z.2.2 c hc).1,qF (z.2.2 c hc).2⟩
 rw[h]at this;cases this
theorem Nh{rs:Rs}{v:V}(h:∀x,v≠.str x):Gg rs v 0:=λt H d Q E r=>.inl ⟨h,r⟩
theorem O1{x:Str}(h:BU x):Mi.lookup (Str.ofString "show"++x)=none:=Ea λp hp e=>by
 have z:∀p∈Mi,p.1.cps.toList.take 4=(Str.ofString "show").cps.toList->p.1.cps.toList.length=4:=by decide +kernel
 have y:=z p hp (by rw[e,Dh];rfl);rw[e,Dh,ac]at y;have l:=h.1;rw[<-ai]at l;have:(Str.ofString "show").cps.toList.length=4:=by decide +kernel
 lia
theorem Ni{x:Str}(h:BU x):WT (Str.ofString "number "++x++Str.ofString "-") [Str.ofString "number",x++Str.ofString "-"] 16:=by rw[Dx,show Str.ofString "number "=Str.ofString "number"++Str.ofString " " by decide +kernel,Dx];have f:Ia (x++Str.ofString "-")=true:=E7 h.fr (by decide +kernel);have t:=AQ (j:=8) (k:=1) h.tx (show Ac 1 (Str.ofString "-")=true by decide +kernel);exact Ak (j:=6) (k:=10) (AO (show Am (Str.ofString "number") [Str.ofString "number"] 6=true by decide +kernel)) (by rw[Dh];rfl) (IF f t) (AQ (j:=1) (k:=9) (show Ac 1 (Str.ofString " ")=true by decide +kernel) t)
theorem Sd{x:Str}:¬BU (x++Str.ofString "-"):=λh=>by have:=h.2.2 45 (by rw[Dh];exact bE _ (by decide +kernel));lia
def Ba(H:Hp)(n0 n1 n2:Str)(c:Nat)(vs:List V):Prop:=∀v∈vs,OY H v/\∀N,Gg (Bk n0 n1 n2 N) v c
theorem Ba.same{H H':Hp}{n0 n1 n2:Str}{c:Nat}{vs:List V}(e:AJ H H')(h:Ba H n0 n1 n2 c vs):Ba H' n0 n1 n2 c vs:=λv hv=>⟨(h v hv).1.same e,(h v hv).2⟩
theorem Ba.app{H:Hp}{n0 n1 n2:Str}{c:Nat}{vs us:List V}(h:Ba H n0 n1 n2 c vs)(h':Ba H n0 n1 n2 c us):Ba H n0 n1 n2 c (vs++us):=λv hv=>(ar.mp hv).elim (h v) (h' v)
theorem LP{x a b c:Str}{l:List (List Nat)}(hl:Bu 58 x.cps.toList=l)(e:BV x=[a,b,c]):l=[a.cps.toList,b.cps.toList,c.cps.toList]:=by rw[<-hl,<-GB,e];rfl
theorem XH:∀g lo d4,¬Dq (.str (Str.ofString "2:0:0")) g lo d4:=λg lo d4 h=>by
 obtain⟨⟨a,b,c,e,_,_,wa,_,_,_,wc⟩,g2,g9,ok⟩:=(show Hl (Str.ofString "2:0:0") g lo d4 from h);have z:=LP (show Bu 58 (Str.ofString "2:0:0").cps.toList=[[50],[48],[48]] by decide +kernel) e
 injection z with z1 z
 injection z with z2 z
 injection z with z3 _
 have ea:a=⟨#[50]⟩:=Ck z1.symm;have ec:c=⟨#[48]⟩:=Ck z3.symm;subst ea ec;have eg:[g]=[2]:=wa.symm.trans (by decide +kernel)
 injection eg with eg
 have et:d4=[0]:=wc.symm.trans (by decide +kernel);subst eg et;obtain⟨_,⟨m,m1,l⟩,_⟩:=ok;obtain⟨k,rfl⟩:∃k,m=k+1:=⟨m-1,by lia⟩;rw[bX]at l;have l:(1:Int)=2^k*2:=l;lia
theorem XI:∀g lo d4,¬Dq (.str (Str.ofString "2:0:012")) g lo d4:=λg lo d4 h=>by
 obtain⟨⟨a,b,c,e,_,_,wa,_,_,_,wc⟩,g2,g9,ok⟩:=(show Hl (Str.ofString "2:0:012") g lo d4 from h);have z:=LP (show Bu 58 (Str.ofString "2:0:012").cps.toList=[[50],[48],[48,49,50]] by decide +kernel) e
 injection z with z1 z
 injection z with z2 z
 injection z with z3 _
 have ea:a=⟨#[50]⟩:=Ck z1.symm;have ec:c=⟨#[48,49,50]⟩:=Ck z3.symm;subst ea ec;have eg:[g]=[2]:=wa.symm.trans (by decide +kernel)
 injection eg with eg
 have et:d4=[0,1,2]:=wc.symm.trans (by decide +kernel);subst eg et;exact qE ok.2.2 (by decide +kernel)
noncomputable def XJ(x:Str):Bool:=decide ((Al x).cps.size=0)||!(Be 57 (Al x))||decide (60<(Al x).cps.size)||(decide ((Al x).cps.toList.head?=some 48)&&decide (x≠Str.ofString "0"))
theorem Fw{x:Str}(hx:x.cps.size<=600)(h:XJ x=true):∀n,¬Hk x n:=λn z=>by
 unfold XJ at h;rw[Bool.or_eq_true,Bool.or_eq_true,Bool.or_eq_true,au]at h;rcases h with ((h|h)|h)|⟨h,h'⟩
 ·exact z.n0 (qI h)
 ·rw[z.fg]at h;cases h
 ·have:=qI h;have:=z.le;lia
 ·rcases (SA hx z.n0 z.fg z.le).mp ⟨n,z⟩ with y|y
  ·exact y (qI h)
  ·exact qI h' y
theorem Qy:Cj 2 (-3) [0,0,0,1] 2 (-3) 2:=Fh (by decide) (by decide +kernel) (by decide +kernel)
theorem KP:Cj 2 1 CG 5 1 5:=Fh (by decide) (by decide +kernel) (by decide +kernel)
theorem Vr(N:Int):Cj 3 N [0,2,1] 1 N 1:=Fh (by decide) (by decide +kernel) (by decide +kernel)
theorem Qz:C4 2 (-3) [0,0,0,1] 2 (-3) [0,0,0,1] 2:=⟨-3,2,Qy,rfl,.inr ⟨by decide,rfl,(HV (by decide) _ (by decide)).symm⟩⟩
theorem Q0:C4 2 1 CG 5 1 CG 5:=⟨1,5,KP,rfl,.inr ⟨by decide,rfl,(HV (by decide) _ (by decide)).symm⟩⟩
theorem TW:Sa ⟨2,-3,[0,0,0,1],2⟩:=by refine⟨-3,[0,0,0,1],2,Qz,by decide,λrk h=>?_⟩;have h1:=h (0,0) (0,1) ⟨0,1,by decide,by decide,by decide,by decide,by decide,by decide⟩;have h2:=h (0,1) (1,0) ⟨1,2,by decide,by decide,by decide,by decide,by decide,by decide⟩;have h3:=h (1,0) (0,0) ⟨2,0,by decide,by decide,by decide,by decide,by decide,by decide⟩;lia
theorem KQ:JM ⟨2,1,CG,5⟩:=⟨1,CG,5,Q0,by decide⟩
theorem Vs:Qq ⟨2,1,CG,5⟩ ⟨2,1,CG,5⟩:=⟨1,5,1,5,KP,KP,by decide⟩
noncomputable def IH:List Str:=[Str.ofString " 01",Str.ofString " -0",Str.ofString " +1",Str.ofString " ",Str.ofString " "++Str.ofString "1111111111111111111111111111111111111111111111111111111111111"]
theorem Vt:PySem.Txt.mul (Str.ofString "1") 61=Str.ofString "1111111111111111111111111111111111111111111111111111111111111":=by decide +kernel
theorem XM:MulOk (Str.ofString "1") 61:=by unfold MulOk;decide +kernel
theorem XN:(Str.ofString " ").length+(Str.ofString "1111111111111111111111111111111111111111111111111111111111111").length<=sizeLine:=by decide +kernel
theorem II{p:Nat->Prop}(h0:p 0)(h1:p 1)(h2:p 2)(h3:p 3)(h4:p 4)(h5:p 5)(h6:p 6){c:Nat}(h:c<=6):p c:=by
 rcases c with _|_|_|_|_|_|_|c
 ·exact h0
 ·exact h1
 ·exact h2
 ·exact h3
 ·exact h4
 ·exact h5
 ·exact h6
 ·lia
section
variable{w:qP}{K:qQ}{mg:Str->Option qL}{t:C9}{c:Nat}
theorem EN(T:Ay w K mg t)(h:c<=6):Ed K (cA t c):=II (p:=λc=>Ed K (cA t c)) T.ek_88 T.ek_78 T.ek_81 T.ek_89 T.ek_79 T.ek_37 T.ek_70 h
theorem Vu(T:Ay w K mg t)(h:c<=6):PySem.W.kitOne K (.ref (cA t c)) (.type "ValueError")=some true:=II (p:=λc=>PySem.W.kitOne K (.ref (cA t c)) (.type "ValueError")=some true) T.kt_NoAsk_ValueError T.kt_NoName_ValueError T.kt_NoText_ValueError T.kt_NoRow_ValueError T.kt_NoRule_ValueError T.kt_NoWayBack_ValueError T.kt_TooWide_ValueError h
theorem Vv(T:Ay w K mg t)(h:c<=6):PySem.W.exmOne K (.ref (cA t c)) (.ref t.c_52)=some true:=II (p:=λc=>PySem.W.exmOne K (.ref (cA t c)) (.ref t.c_52)=some true) T.em_88_52 T.em_78_52 T.em_81_52 T.em_89_52 T.em_79_52 T.em_37_52 T.em_70_52 h
theorem Vw(T:Ay w K mg t)(h:c<=6):PySem.W.kitOne K (.ref (cA t c)) (.ref t.c_88)=some (decide (0=c)):=II (p:=λc=>PySem.W.kitOne K (.ref (cA t c)) (.ref t.c_88)=some (decide (0=c))) T.kt_88_88 T.kt_78_88 T.kt_81_88 T.kt_89_88 T.kt_79_88 T.kt_37_88 T.kt_70_88 h
theorem Vx(T:Ay w K mg t)(h:c<=6):PySem.W.kitOne K (.ref (cA t c)) (.ref t.c_78)=some (decide (1=c)):=II (p:=λc=>PySem.W.kitOne K (.ref (cA t c)) (.ref t.c_78)=some (decide (1=c))) T.kt_88_78 T.kt_78_78 T.kt_81_78 T.kt_89_78 T.kt_79_78 T.kt_37_78 T.kt_70_78 h
theorem Vy(T:Ay w K mg t)(h:c<=6):PySem.W.kitOne K (.ref (cA t c)) (.ref t.c_81)=some (decide (2=c)):=II (p:=λc=>PySem.W.kitOne K (.ref (cA t c)) (.ref t.c_81)=some (decide (2=c))) T.kt_88_81 T.kt_78_81 T.kt_81_81 T.kt_89_81 T.kt_79_81 T.kt_37_81 T.kt_70_81 h
theorem Vz(T:Ay w K mg t)(h:c<=6):PySem.W.kitOne K (.ref (cA t c)) (.ref t.c_89)=some (decide (3=c)):=II (p:=λc=>PySem.W.kitOne K (.ref (cA t c)) (.ref t.c_89)=some (decide (3=c))) T.kt_88_89 T.kt_78_89 T.kt_81_89 T.kt_89_89 T.kt_79_89 T.kt_37_89 T.kt_70_89 h
theorem V0(T:Ay w K mg t)(h:c<=6):PySem.W.kitOne K (.ref (cA t c)) (.ref t.c_79)=some (decide (4=c)):=II (p:=λc=>PySem.W.kitOne K (.ref (cA t c)) (.ref t.c_79)=some (decide (4=c))) T.kt_88_79 T.kt_78_79 T.kt_81_79 T.kt_89_79 T.kt_79_79 T.kt_37_79 T.kt_70_79 h
theorem V1(T:Ay w K mg t)(h:c<=6):PySem.W.kitOne K (.ref (cA t c)) (.ref t.c_37)=some (decide (5=c)):=II (p:=λc=>PySem.W.kitOne K (.ref (cA t c)) (.ref t.c_37)=some (decide (5=c))) T.kt_88_37 T.kt_78_37 T.kt_81_37 T.kt_89_37 T.kt_79_37 T.kt_37_37 T.kt_70_37 h
theorem V2(T:Ay w K mg t)(h:c<=6):PySem.W.kitOne K (.ref (cA t c)) (.ref t.c_70)=some (decide (6=c)):=II (p:=λc=>PySem.W.kitOne K (.ref (cA t c)) (.ref t.c_70)=some (decide (6=c))) T.kt_88_70 T.kt_78_70 T.kt_81_70 T.kt_89_70 T.kt_79_70 T.kt_37_70 T.kt_70_70 h
end
theorem Eb{vs:List V}{c:Nat}{n0 n1 n2:Str}{r D:qM}{K:qQ}{te:TE}{σf:List (Option V)}{Q:VK}{H:Hp}(hr:H r=some (.lst vs))(al:Ba H n0 n1 n2 c vs)(c6:c<=6)(l30:vs.length<=30)(hD:H D=none)
  (hte:∀(v:V) (Hy:Hp) (Q':VK),(∀a,Hy a=none->Q' (.ref a) (Ai Hy a (.tup [v,.int ((c:Nat):Int)])))->te (some v::σf) Hy Q')
  (q:∀(ts:List qM) (Hx:Hp),AJ H Hx->Hx D=some (.lst (ts.map V.ref))->ts.length=vs.length->(∀a∈ts,O6 Hx n0 n1 n2 a)->Q (.ref D) Hx):CS (T4 K r) Pz te σf D Q H:=by
 refine F5 (xs:=vs) (λi d8 Hx=>∃ts:List qM,d8=ts.map V.ref/\ts.length=i/\AJ H Hx/\Hx D=some (.lst d8)/\∀a∈ts,O6 Hx n0 n1 n2 a) ⟨[],rfl,rfl,AJ.new hD _,AF,λa h=>qE h ax⟩ (λi d8 Hx _ z=>by obtain⟨ts,_,_,e,_⟩:=z;exact Ag.of (e _ _ hr)) ?_ ?_
 ·refine Mb ?_;rintro i v _ hGo d8 Hx hv ⟨ts,rfl,lt,ex,hDx,ht⟩;refine hGo _ _ ?_;dsimp only[Pz];rw[qD rfl];refine hte v Hx _ λa ha=>?_;have il:=(ae.mp hv).1;have e1:=AJ.new ha (.tup [v,.int ((c:Nat):Int)]);have hD1:=e1 _ _ hDx;refine⟨hD1,by rw[aW,sizeLine_eq];lia,ts++[a],by rw[az];rfl,by rw[ac,lt];rfl,(ex.trans e1).into hD,AF,λb hb=>?_⟩
  have up:∀{b:qM},O6 (Ai Hx a (.tup [v,.int ((c:Nat):Int)])) n0 n1 n2 b->O6 (Ai (Ai Hx a (.tup [v,.int ((c:Nat):Int)])) D (.lst (ts.map V.ref++[V.ref a]))) n0 n1 n2 b:=λ{b} z=>by
   obtain⟨u,k,k6,hb,tu,ru⟩:=z;refine⟨u,k,k6,by rw[AR (λy=>by rw[y,hD1]at hb;cases hb)];exact hb,?_,ru⟩;cases u with
   |ref z =>
    obtain⟨xs,hx⟩:=tu
    by_cases y:z=D
    ·exact⟨_,.inl (by rw[y];exact AF)⟩
    ·exact⟨xs,by rw[AR y];exact hx⟩
   |_=>exact tu
  rcases ar.mp hb with y|y
  ·obtain⟨u,k,k6,hb,tu,ru⟩:=ht b y;exact up ⟨u,k,k6,e1 _ _ hb,tu.same e1,ru⟩
  ·rw[ak.mp y];have av:=al v (a8 hv);exact up ⟨v,c,c6,AF,av.1.same (ex.trans e1),av.2⟩
 ·rintro d8 Hx ⟨ts,rfl,lt,ex,hDx,ht⟩;exact q ts Hx ex hDx lt ht
theorem O6.same{H H':Hp}{n0 n1 n2:Str}{a:qM}(e:AJ H H')(h:O6 H n0 n1 n2 a):O6 H' n0 n1 n2 a:=by obtain⟨u,k,k6,hb,tu,ru⟩:=h;exact⟨u,k,k6,e _ _ hb,tu.same e,ru⟩
noncomputable def Se(c:Nat):PyData:=.list ((List.range 7).map λk=>PyData.bool (decide (k=c)))
theorem Q3{K:qQ}{H:Hp}{a:qM}{c:Nat}(h:H a=some (.lst (Qw c))):F4 K H (.ref a) (Se c):=.lst (Ag.of h) (.cons (.bl _) (.cons (.bl _) (.cons (.bl _) (.cons (.bl _) (.cons (.bl _) (.cons (.bl _) (.cons (.bl _) .nil)))))))
theorem V3{c:Nat}(h:c<=6):(Se c).canLay0=true/\(Se c).depth<=60/\PyData.eqv (Se c) (Se c)=true:=II (p:=λc=>(Se c).canLay0=true/\(Se c).depth<=60/\PyData.eqv (Se c) (Se c)=true) (by decide +kernel) (by decide +kernel) (by decide +kernel) (by decide +kernel) (by decide +kernel) (by decide +kernel) (by decide +kernel) h
theorem Q4{N:Int}(N1:0<=N)(N2:N<10^60):N.natAbs<10^130:=by
 have:(10:Int)^60<=10^130:=by decide
 lia
theorem LQ{t:C9}{rs:Rs}{x:Str}{q:Rl}{H:Hp}{d:qM}{Q:VK}{E:XK}(nm:BU x)(lk:rs.lookup x=some q)(nw:Cj q.g q.lo q.tq q.m q.lo q.m)(far:q.lo.natAbs<10^130)(qq:∀H',AJ H H'->Q (.str (Bg q.g q.lo q.tq)) H'):Mg t rs (.str (Str.ofString "show "++x)) H d Q E:=by have W:=AS (ks:=Str.ofString "show ") (k:=Str.ofString "show") (by decide +kernel) (AO (show Am (Str.ofString "show") [Str.ofString "show"] 4=true by decide +kernel)) nm;exact .inr ⟨_,rfl,_,_,W.w,.inr ⟨2,Dw t,rfl,.inr ⟨rfl,λH1 e1=>⟨_,_,rfl,.inr ⟨q,lk,nw,far,λH2 e2=>qq H2 (e1.trans e2)⟩⟩⟩⟩⟩
theorem O2{t:C9}{rs:Rs}{H:Hp}{d:qM}{Q:VK}{E:XK}(h8:∀p∈rs,p.1.cps.size<=8)(qq:∀l,l.Perm (rs.map Prod.fst)->XF l->∀H',AJ H H'->Q (.str (PySem.Txt.join (Str.ofString " ") l)) H'):Mg t rs (.str (Str.ofString "names")) H d Q E:=by have W:=AO (show Am (Str.ofString "names") [Str.ofString "names"] 5=true by decide +kernel);exact .inr ⟨_,rfl,_,_,W.w,.inr ⟨1,Fv,rfl,.inr ⟨rfl,λH1 e1=>⟨_,rfl,h8,λl pm so H2 e2=>qq l pm so H2 (e1.trans e2)⟩⟩⟩⟩
theorem Sf{x:Str}(h:Be 57 x=true):Ia x=true:=by unfold Ia Be at *;rw[bD]at h⊢;intro c hc;have:=h c hc;rw[au,decide_eq_true_eq,decide_eq_true_eq]at this;exact bne_iff_ne.mpr (by lia)
theorem Nj{x:Str}{k:Nat}(h:Be 57 x=true)(l:x.cps.size<=k):Ac k x=true:=by unfold Ac;unfold Be at h;rw[bD]at h;rw[au,bD,ai];refine⟨λc hc=>?_,qF l⟩;have:=h c hc;rw[au,decide_eq_true_eq,decide_eq_true_eq]at this;exact qF (by lia)
theorem LR{N:Int}(N1:0<=N)(N2:N<10^60):Be 57 (Bw N)=true/\(Bw N).cps.size<=60:=by obtain⟨m,rfl⟩:∃m:Nat,N=(m:Int):=⟨N.toNat,by lia⟩;obtain⟨h1,h2⟩:=GC (CZ m);refine⟨h1,?_⟩;have z:=(NE (n:=(m:Int)) (by lia)).le;have e:=qK List.length (GD (m:Int));rw[ai,aW,show (m:Int).natAbs=m from rfl]at e;lia
theorem V4{N:Int}:Str.ofString "3:"++Bw N++Str.ofString ":021"=Bg 3 N [0,2,1]:=by unfold Bg;rw[show Str.ofString "3:"=⟨#[(48+(3:Int)).toNat]⟩++Str.ofString ":" by decide +kernel,show Str.ofString ":021"=Str.ofString ":"++E1 [0,2,1] by decide +kernel,Dx,Dx,Dx,Dx,Dx]
theorem V5:Str.ofString "2:-3:0001"=Bg 2 (-3) [0,0,0,1]:=by decide +kernel
theorem V6:Str.ofString "2:1:"++E1 CG=Bg 2 1 CG:=by decide +kernel
theorem XE.tq{q:Rl}(h:XE q):EE q.g (q.tq.map V.int):=by obtain⟨h1,h2,h3,h4,h5,h6,h7⟩:=h;exact⟨by rw[aW];lia,⟨q.m,h3,by rw[aW];exact h5⟩,Cu h7⟩
theorem Q5{t:C9}{rs:Rs}{x:Str}{q:Rl}{H:Hp}{d:qM}{Q:VK}{E:XK}(nm:BU x)(lk:rs.lookup x=none)(l8:rs.length<=8)(ok:XE q)(far:q.lo.natAbs<10^60)(fr:Ia (Bg q.g q.lo q.tq)=true)(tx:Ac 200 (Bg q.g q.lo q.tq)=true)(qq:∀H',DN d H H'->IZ H' d (rs++[(x,q)])->Q (.str "ok") H'):
  Mg t rs (.str (Str.ofString "rule "++x++Str.ofString " "++Bg q.g q.lo q.tq)) H d Q E:=by
 have W:=AS (ks:=Str.ofString "rule ") (k:=Str.ofString "rule") (by decide +kernel) (AO (show Am (Str.ofString "rule") [Str.ofString "rule"] 4=true by decide +kernel)) nm;have W2:=Ak (c:=Str.ofString " "++Bg q.g q.lo q.tq) (k:=201) W (by rw[Dh];rfl) (IF fr tx) (AQ (j:=1) (show Ac 1 (Str.ofString " ")=true by decide +kernel) tx);rw[<-Dx]at W2;obtain⟨g2,g9,_,_,_,_,tb⟩:=id ok;exact .inr ⟨_,rfl,_,_,W2.w,.inr ⟨3,CB t,rfl,.inr ⟨rfl,λH1 e1=>⟨_,_,_,rfl,.inr (.inr ⟨nm,lk,l8,q,Of g2 g9 (λn hn=>⟨(tb n hn).1,by have:=(tb n hn).2;lia⟩) ok.tq far,ok,λH2 sx hR=>qq H2 (λa o n z=>sx a o n (e1 _ _ z)) hR⟩)⟩⟩⟩⟩
theorem Q6{t:C9}{rs:Rs}{x y:Str}{q:Rl}{H:Hp}{d:qM}{Q:VK}{E:XK}(nm:BU x)(ny:BU y)(lk:rs.lookup x=none)(l8:rs.length<=8)(ly:rs.lookup y=some q)(qq:∀H',DN d H H'->IZ H' d (rs++[(x,⟨q.g,1-q.lo-(q.m:Int),Dc q.g q.tq q.m,q.m⟩)])->Q (.str "ok") H'):
  Mg t rs (.str (Str.ofString "turn "++x++Str.ofString " "++y)) H d Q E:=by
 have W:=At (AS (ks:=Str.ofString "turn ") (k:=Str.ofString "turn") (by decide +kernel) (AO (show Am (Str.ofString "turn") [Str.ofString "turn"] 4=true by decide +kernel)) nm) ny;exact .inr ⟨_,rfl,_,_,W.w,.inr ⟨3,Fu t,rfl,.inr ⟨rfl,λH1 e1=>⟨_,_,_,rfl,.inr (.inr ⟨nm,lk,l8,q,ly,λH2 sx hR=>qq H2 (λa o n z=>sx a o n (e1 _ _ z)) hR⟩)⟩⟩⟩⟩
theorem Sg{t:C9}{rs:Rs}{x:Str}{q:Rl}{H:Hp}{d:qM}{Q:VK}{E:XK}(nm:BU x)(lk:rs.lookup x=some q)(far:(low q.g q.tq).natAbs<10^130)(qq:∀H',AJ H H'->Q (.str (Str.ofString (toString (low q.g q.tq)))) H'):Mg t rs (.str (Str.ofString "number "++x)) H d Q E:=by have W:=AS (ks:=Str.ofString "number ") (k:=Str.ofString "number") (by decide +kernel) (AO (show Am (Str.ofString "number") [Str.ofString "number"] 6=true by decide +kernel)) nm;exact .inr ⟨_,rfl,_,_,W.w,.inr ⟨2,GM t,rfl,.inr ⟨rfl,λH1 e1=>⟨_,_,rfl,.inr ⟨q,lk,far,λH2 e2=>qq H2 (e1.trans e2)⟩⟩⟩⟩⟩
theorem Sh{n0 n1 n2 n3:Str}{N:Int}(nm:JO n0 n1 n2 n3):Gg (Bk n0 n1 n2 N) (.str (Str.ofString "number "++n3)) 1:=by have W:=AS (ks:=Str.ofString "number ") (k:=Str.ofString "number") (by decide +kernel) (AO (show Am (Str.ofString "number") [Str.ofString "number"] 6=true by decide +kernel)) nm.o3;exact A1 (i:=8) (n:=2) (f:=λt=>GM t) W.w (by decide +kernel) (λt=>rfl) rfl λt H d Q E r=>⟨_,_,rfl,.inl ⟨nm.l3,r⟩⟩
theorem Si:∀i,i<32->CG[i]?=some (((i/16+i)%2:Nat):Int):=by decide +kernel
theorem Sj{g lo:Int}{d4:qR}{k:Nat}(h1:Ia ⟨#[(48+g).toNat]⟩=true)(h2:Ia (Bw lo)=true)(h3:Ia (E1 d4)=true)(k1:Ac 1 ⟨#[(48+g).toNat]⟩=true)(k2:Ac 60 (Bw lo)=true)(k3:Ac k (E1 d4)=true):Ia (Bg g lo d4)=true/\Ac (1+1+60+1+k) (Bg g lo d4)=true:=by
 have c:Ia (Str.ofString ":")=true:=by decide +kernel
 have c1:Ac 1 (Str.ofString ":")=true:=by decide +kernel
 exact⟨E7 (E7 (E7 (E7 h1 c) h2) c) h3,AQ (AQ (AQ (AQ k1 c1) k2) c1) k3⟩
theorem Sk{j k:Nat}{x:Str}(h:Ac j x=true)(l:j<=k):Ac k x=true:=by unfold Ac at *;obtain⟨h1,h2⟩:=(au ..).mp h;have h2:=qI h2;rw[h1,qF (show x.cps.toList.length<=k by lia)];rfl
theorem XO{n0 n1 n2 n3:Str}{N:Int}(nm:JO n0 n1 n2 n3)(N1:0<=N)(N2:N<10^60){i:Nat}(hi:i<3):∃(ni:Str) (ri:Rl),[V.str n0,V.str n1,V.str n2,V.str n3][i]?=some (.str ni)/\BU ni/\((Bk n0 n1 n2 N).take i).lookup ni=none/\XE ri/\ri.lo.natAbs<10^60/\Ia (Bg ri.g ri.lo ri.tq)=true/\Ac 200 (Bg ri.g ri.lo ri.tq)=true /\
  [V.str (Bg 2 (-3) [0,0,0,1]),V.str (Bg 3 N [0,2,1]),V.str (Bg 2 1 CG)][i]?=some (.str (Bg ri.g ri.lo ri.tq))/\(Bk n0 n1 n2 N).take i++[(ni,ri)]=(Bk n0 n1 n2 N).take (i+1):=by
 rcases i with _|_|_|i
 ·exact⟨n0,⟨2,-3,[0,0,0,1],2⟩,rfl,nm.o0,rfl,⟨by decide,by decide,by decide,by decide,by decide,by decide,by decide⟩,by decide,by decide +kernel,by decide +kernel,rfl,rfl⟩
 ·obtain⟨fg,sz⟩:=LR N1 N2;obtain⟨h1,h2⟩:=Sj (g:=3) (lo:=N) (d4:=[0,2,1]) (k:=3) (by decide +kernel) (Sf fg) (by decide +kernel) (by decide +kernel) (Nj fg sz) (by decide +kernel);refine⟨n1,⟨3,N,[0,2,1],1⟩,rfl,nm.o1,Ea λp hp=>?_,⟨(show (2:Int)<=3 by decide),(show (3:Int)<=9 by decide),(show 1<=1 by decide),(show 1<=8 by decide),(show ((([0,2,1]:qR).length:Nat):Int)=3^1 by decide),(show (3:Int)^1<=256 by decide),(show ∀n∈([0,2,1]:qR),0<=n/\n<3 by decide)⟩,?_,h1,Sk h2 (by decide),rfl,rfl⟩
  ·rw[ak.mp hp];exact nm.d01
  ·show N.natAbs<10^60;lia
 ·refine⟨n2,⟨2,1,CG,5⟩,rfl,nm.o2,Ea λp hp=>?_,⟨by decide,by decide,by decide,by decide,by decide,by decide,by decide⟩,by decide,by decide +kernel,by decide +kernel,rfl,rfl⟩;rcases aw.mp hp with e|hp
  ·rw[e];exact nm.d02
  ·rw[ak.mp hp];exact nm.d12
 ·lia
theorem Oy.same{t:C9}{H H':Hp}{b d:qM}{rs:Rs}(e:AJ H H')(h:Oy t H b d rs):Oy t H' b d rs:=⟨h.1.elim λdx z=>⟨dx,e _ _ z⟩,h.2.same e⟩
theorem Oy.put{t:C9}{H H':Hp}{b d:qM}{rs rs':Rs}(h:Oy t H b d rs)(sx:DN d H H')(hR:IZ H' d rs'):Oy t H' b d rs':=by obtain⟨⟨dx,hb⟩,_,kvs,hd,_⟩:=h;exact⟨⟨dx,sx _ _ (λe=>by rw[e,hd]at hb;cases hb) hb⟩,hR⟩
theorem DN.into{d:qM}{H0 H H':Hp}(e:AJ H0 H)(n:H0 d=none)(sx:DN d H H'):AJ H0 H':=λa o z=>sx a o (λy=>by rw[y,n]at z;cases z) (e a o z)
theorem Q7{rs:Rs}{x:Str}{q:Rl}(h:rs.lookup x=none):(rs++[(x,q)]).lookup x=some q:=by
 induction rs with
 |nil=>rw[List.nil_append,bZ,beq_self_eq_true]
 |cons p l ih =>
  obtain⟨k,r⟩:=p;rw[bZ]at h;rw[cn,bZ];cases e:x==k with
  |true=>rw[e]at h;cases h
  |false=>rw[e]at h;exact ih h
noncomputable def O3:Rl:=⟨2,2,[0,0,0,1],2⟩
theorem Sl:(⟨2,1-(-3)-((2:Nat):Int),Dc 2 [0,0,0,1] 2,2⟩:Rl)=O3:=by
 have e:Dc 2 [0,0,0,1] 2=[0,0,0,1]:=by decide +kernel
 rw[e];rfl
theorem V7:Cj O3.g O3.lo O3.tq O3.m O3.lo O3.m:=Fh (by decide) (by decide +kernel) (by decide +kernel)
theorem Q8:low O3.g O3.tq=8:=by decide +kernel
theorem V8:Bg O3.g O3.lo O3.tq=Str.ofString "2:2:0001":=by decide +kernel
theorem XQ:Str.ofString (toString (8:Int))=Str.ofString "8":=by decide +kernel
section
variable{P:qO}{w:qP}{K:qQ}{mg:Str->Option qL}{base:Heap}{t:C9}
theorem Zy:AM ["self","at"] ["self","at"] (AG Cd):=BM
theorem Zz(T:Ay w K mg t) :Aa P w K mg base 1 t.f_3 ["self","at"] (HD K t.c_89 t.c_52):=by refine Az T.d_3 Zy λvs H Q E h=>?_;obtain⟨a,n,y,rfl,ea,q⟩:=h;refine⟨rfl,λd9 A outer s hr=>?_⟩;refine⟨_,(AH (UN (pv 0) (pv 1))),?_⟩;walk_at "";exact⟨_,_,n,ea,T.xa_NoRow_at,q⟩
theorem XR:AM ["thing"] ["thing"] (AG E5):=BM
theorem XS(T:Ay w K mg t) :Aa P w K mg base 1 t.f_56 ["thing"] (Gj):=by
 refine Az T.d_56 XR λvs H Q E h=>?_;obtain⟨x,rfl,kd,q⟩:=h;refine⟨rfl,λd9 A outer s hr=>?_⟩;refine⟨_,(AH (AW (JR (Cb rfl T.z_isinstance (pv 0) (HC rfl T.z_int PyProof.Rows.boot_int)) (Le (Tz (Cb rfl T.z_isinstance (pv 0) (HC rfl T.z_bool PyProof.Rows.boot_bool))))))),?_⟩;walk_at "";cases x with
 |int i =>
  refine⟨_,.of (.int i),_,We,?_⟩;rw[qD rfl];exact⟨_,.of (.int i),_,Wf,q⟩
 |bl b =>
  refine⟨_,.of (.bl b),_,Wg,?_⟩;rw[qD rfl];exact⟨_,.of (.bl b),_,Wh,q⟩
 |non =>
  refine⟨_,.of .non,_,Wi,?_⟩;rw[qC (by decide)];exact q
 |str y =>
  refine⟨_,.of (.str y),_,Wj,?_⟩;rw[qC (by decide)];exact q
 |ref a =>
  obtain⟨xs,z|z⟩:=kd
  ·refine⟨_,.of (.lst z),_,Wk,?_⟩;rw[qC (by decide)];exact q
  ·refine⟨_,.of (.tup z),_,Wo,?_⟩;rw[qC (by decide)];exact q
 |byt _=>exact kd.elim
 |flt _=>exact kd.elim
 |ty _=>exact kd.elim
theorem XT:AM ["thing","signs"] ["thing","signs"] (AG GJ):=BM
theorem XU(T:Ay w K mg t)(G_56:Aa P w K mg base 1 t.f_56 ["thing"] (Gj)):Aa P w K mg base 2 t.f_71 ["thing","signs"] (Jh):=by
 refine Az T.d_71 XT λvs H Q E h=>?_;obtain⟨x,g,rfl,kd,q⟩:=h;refine⟨rfl,λd9 A outer s hr=>?_⟩;refine⟨_,(AH (AW (JR (Ae hr G_56 T.m_56 (AA (pv 0) AB)) (JR (CN Sx AE (pv 0) (Ad _)) (Le (CN D6 (pv 0) (pv 1) (Ad _))))))),?_⟩;walk_at "";refine⟨x,rfl,kd,?_⟩;cases x with
 |int i =>
  walk_at "";simp only[Po]at q
  by_cases h:0<=i
  ·rw[qF h,Bool.true_and]at q;rw[qD h];exact q
  ·rw[qG h,Bool.false_and]at q;rw[qC h];exact q
 |_=>exact⟨false,rfl,UI q⟩
theorem Q9:AM ["word","signs","at","thing"] ["word","signs"] (AG Dt):=BM
theorem XV(T:Ay w K mg t)(G_71:Aa P w K mg base 2 t.f_71 ["thing","signs"] (Jh))(G_3:Aa P w K mg base 1 t.f_3 ["self","at"] (HD K t.c_89 t.c_52)):Aa P w K mg base 3 t.f_28 ["word","signs"] (Dm K t.c_89):=by
 refine A5 T.d_28 Q9 λvs H Q E h=>?_;obtain⟨a,xs,g,rfl,hS,kd,h⟩:=h;refine⟨rfl,λd9 A outer s hr=>?_⟩;refine⟨_,(AH (BR PassesOwn.leaving rfl (Rg rfl T.z_enumerate (AA (pv 0) AB)) (G3 rfl (Bs (Bc 2 Q9) (Bs (Bc 3 Q9) FF))) (AH (Aw (CI (Bq (Ae hr G_71 T.m_71 (AA (pv 3) (AA (pv 1) AB))))) (AH (F3 rfl T.xm_89 G_3 (hr.mono (by decide)) rfl T.m_89 Dl (AA (pv 2) AB))) Af)))),?_⟩;refine⟨_,rfl,a,xs,rfl,hS,?_⟩;refine Pm (xs:=xs) (λi σ H1=>Bb g (xs.take i)=none/\(∃x2 x3,σ=[some (.ref a),some (.int g),x2,x3])/\AJ H H1) ⟨rfl,⟨none,none,rfl⟩,AJ.refl _⟩ (λi σ H1 _ z=>z.2.2.seq hS) ?_ ?_
 ·rintro i x p σ H1 hx ⟨hb,⟨x2,x3,rfl⟩,e⟩ hp;have e2:AJ H (Ai H1 p (.tup [.int ((i:Nat):Int),x])):=e.trans (AJ.new hp _);refine⟨p,_,rfl,Ar.of AF,rfl,_,_,rfl,_,_,rfl,rfl,?_⟩;walk_at "";refine⟨x,g,rfl,(kd x (a8 hx)).same e2,?_⟩;cases hs:Po g x with
  |true =>
   walk_at "";exact⟨Et hb hx hs,⟨_,rfl⟩,e2⟩
  |false =>
   walk_at "";refine⟨by decide,λea hea=>⟨ea,true,_,rfl,AF,λdx hdx=>⟨rfl,some dx,?_,?_⟩⟩⟩
   ·rw[AR (Ne.symm (CQ hdx).1),AF]
   ·rw[Eu hb hx hs]at h;exact h _ dx (Es e2 hea hdx) (by rw[B5 (CQ hdx).1,AF])
 ·rintro σ H1 ⟨hb,_,e⟩;rw[bN]at hb;rw[hb]at h;exact h H1 e
theorem XW:AM ["word","signs","many"] ["word","signs","many"] (AG C7):=BM
theorem XX(T:Ay w K mg t)(G_28:Aa P w K mg base 3 t.f_28 ["word","signs"] (Dm K t.c_89))(G_3:Aa P w K mg base 1 t.f_3 ["self","at"] (HD K t.c_89 t.c_52)):Aa P w K mg base 4 t.f_11 ["word","signs","many"] (Ew K t.c_89):=by
 refine A5 T.d_11 XW λvs H Q E h=>?_;obtain⟨a,xs,g,m,rfl,hS,kd,h⟩:=h;refine⟨rfl,λd9 A outer s hr=>?_⟩
 refine⟨_,(AC (A7 (AT G_28 (hr.mono (by decide)) rfl T.m_28 AK (AA (Cs JX (pv 0) EO (DI (pv 2))) (AA (pv 1) AB))))
  (AH (Aw (AZ Dy (Aj (JK K) rfl T.z_len bC (AA (pv 0) AB)) (pv 2) (Ad _)) (AH (F3 rfl T.xm_89 G_3 (hr.mono (by decide)) rfl T.m_89 Dl (AA (Aj (N4 rfl) rfl T.z_min PyProof.Rows.boot_min (AA (Aj (JK K) rfl T.z_len bC (AA (pv 0) AB)) (AA (pv 2) AB))) AB))) Af))),?_⟩
 walk_at "";refine L6 hS λp H1 e1 _ h1=>?_;rw[Ru]at h1;refine⟨p,_,g,rfl,Ag.of h1,λx hx=>(kd x (dQ hx)).same e1,?_⟩;unfold ED at h;cases hb:Bb g (xs.take m) with
 |some i =>
  rw[hb]at h;exact Rk.same e1 h
 |none =>
  rw[hb]at h;dsimp only at h;intro H2 e2;refine⟨xs,.inl ((e1.trans e2).seq hS),?_⟩
  by_cases hl:xs.length=m
  ·rw[qD hl]at h;rw[qC (by lia)];exact h _ (e1.trans e2)
  ·rw[qC hl]at h;rw[qD (by lia)];refine⟨xs,.inl ((e1.trans e2).seq hS),by decide,λea hea=>⟨ea,true,_,rfl,AF,λdx hdx=>⟨rfl,some dx,?_,?_⟩⟩⟩
   ·rw[AR (Ne.symm (CQ hdx).1),AF]
   ·refine h _ dx (Es (e1.trans e2) hea hdx) ?_;rw[B5 (CQ hdx).1,AF];have e:(if (m:Int)<(xs.length:Int) then (m:Int) else (xs.length:Int))=((min xs.length m:Nat):Int):=by split<;>lia
    rw[e]
theorem Z0:AM ["word","signs","fewest"] ["word","signs","fewest"] (AG CM):=BM
theorem Z1(T:Ay w K mg t)(G_28:Aa P w K mg base 3 t.f_28 ["word","signs"] (Dm K t.c_89))(G_3:Aa P w K mg base 1 t.f_3 ["self","at"] (HD K t.c_89 t.c_52)):Aa P w K mg base 4 t.f_0 ["word","signs","fewest"] (Do K t.c_89):=by
 refine A5 T.d_0 Z0 λvs H Q E h=>?_;obtain⟨a,xs,g,m,rfl,hS,kd,h⟩:=h;refine⟨rfl,λd9 A outer s hr=>?_⟩
 refine⟨_,(AC (A7 (AT G_28 (hr.mono (by decide)) rfl T.m_28 AK (AA (pv 0) (AA (pv 1) AB))))
  (AH (Aw (AZ D6 (Aj (JK K) rfl T.z_len bC (AA (pv 0) AB)) (pv 2) (Ad _)) (AH (F3 rfl T.xm_89 G_3 (hr.mono (by decide)) rfl T.m_89 Dl (AA (Aj (JK K) rfl T.z_len bC (AA (pv 0) AB)) AB))) Af))),?_⟩
 walk_at "";refine⟨a,xs,g,rfl,hS,kd,?_⟩;cases hb:Bb g xs with
 |some i =>
  rw[Ku hb]at h;exact h
 |none =>
  unfold Bt at h;rw[hb]at h;dsimp only at h;intro H1 e;refine⟨xs,.inl (e.seq hS),?_⟩
  by_cases z:xs.length<m
  ·rw[qD z]at h;rw[qD (by lia)];refine⟨xs,.inl (e.seq hS),by decide,λea hea=>⟨ea,true,_,rfl,AF,λdx hdx=>⟨rfl,some dx,?_,?_⟩⟩⟩
   ·rw[AR (Ne.symm (CQ hdx).1),AF]
   ·refine h _ dx (Es e hea hdx) ?_;rw[B5 (CQ hdx).1,AF]
  ·rw[qC z]at h;rw[qC (by lia)];exact h _ e
theorem Nk:AM ["word","signs","number","sign"] ["word","signs"] (AG EK):=BM
theorem XY(T:Ay w K mg t)(G_28:Aa P w K mg base 3 t.f_28 ["word","signs"] (Dm K t.c_89)):Aa P w K mg base 4 t.f_42 ["word","signs"] (FN K t.c_89):=by
 refine A5 T.d_42 Nk λvs H Q E h=>?_;obtain⟨a,xs,g,rfl,g2,g9,hS,kd,h⟩:=h;refine⟨rfl,λd9 A outer s hr=>?_⟩
 refine⟨_,(AC (A7 (AT G_28 (hr.mono (by decide)) rfl T.m_28 AK (AA (pv 0) (AA (pv 1) AB))))
  (AC (AY 2 Nk AE)
  (AC (PS.nox (BR PassesOwn.never rfl (Nd K (pv 0)) (Bc 3 Nk) (AH (AY 2 Nk (AL Bf (AL Eo (pv 2) (pv 1)) (pv 3))))))
  (AH (AW (pv 2)))))),?_⟩
 walk_at "";refine⟨a,xs,g,rfl,hS,kd,?_⟩;cases hb:Bb g xs with
 |some i =>
  rw[hb]at h;exact h
 |none =>
  rw[hb]at h;obtain⟨ns,rfl,hns⟩:=Er hb;intro H1 e;refine⟨_,rfl,a,rfl,⟨_,e.seq hS⟩,?_⟩;refine CO (xs:=ns.map V.int) (λi σ H2=>(∃x3,σ=[some (.ref a),some (.int g),some (.int (CD g (ns.take i))),x3])/\H2=H1) ⟨⟨none,rfl⟩,rfl⟩ (λi σ H2 _ z=>by rw[z.2];exact e.seq hS) ?_ ?_
  ·refine LN ?_;rintro _ _ i x _ hGo σ H2 hx ⟨⟨x3,rfl⟩,rfl⟩;refine hGo _ _ ?_;obtain⟨n,hn,rfl⟩:=Ev hx;walk_at "";refine⟨.inr ⟨by lia,by lia⟩,?_⟩;rw[Pp hn];exact⟨rfl,_,rfl⟩
  ·rintro σ H2 ⟨⟨x3,rfl⟩,rfl⟩;walk_at "";rw[aW,bN];exact h ns rfl _ e
theorem Nl:AM ["number","signs","many","backwards","rest"] ["number","signs","many"] (AG GK):=BM
theorem XZ(T:Ay w K mg t) :FR P w K mg base 1 t.f_77 ["number","signs","many"] (Jq t.c_80):=by
 refine Gm T.d_77 Nl (λ_ _ _ _ _ _=>b3 λ_ _ _=>rfl) (λvs H Q E h=>?_) (λd9 A outer s H vs Q E hr h=>?_)
 ·obtain⟨n,g,m,rfl,g2,g9,m0,m3,hbad,hgood⟩:=h;rfl
 obtain⟨n,g,m,rfl,g2,g9,m0,m3,hbad,hgood⟩:=h
 refine⟨_,(AC (Aw (AZ D6 (pv 0) AE (Ad _)) (AH (As rfl T.x_80 rfl T.m_80 Ah (AA AI AB))) Af)
  (AC (AY 3 Nl (Aq AB))
  (AC (AY 4 Nl (pv 0))
  (AC (PS.nox (FG PassesOwn.never (AZ D6 (Aj (JK K) rfl T.z_len bC (AA (pv 3) AB)) (pv 2) (Ad _)) (AC (A7 (Ug K (pv 3) (AA (AL Bz (pv 4) (pv 1)) AB)))
  (AH (AY 4 Nl (AL DG (pv 4) (pv 1)))))))
  (AC (Aw (AZ D7 (pv 4) AE (Ad _)) (AH (As rfl T.x_80 rfl T.m_80 Ah (AA AI AB))) Af)
  (AH (AW (Mv rfl rfl T.z_reversed rfl T.z_list (AA (pv 3) AB))))))))),?_⟩
 walk_at ""
 by_cases hn:n<0
 ·rw[qD hn];exact⟨by decide,hbad (.inl hn) H (AJ.refl H)⟩
 rw[qC hn];refine⟨bj _,λp hp=>?_⟩
 refine G5 (λσ H1=>∃i:Nat,i<=m.toNat/\σ=[some (.int n),some (.int g),some (.int m),some (.ref p),some (.int (dr g n i))]/\H1=Ai H p (.lst ((Ci g n i).map V.int)))
  (λσ H1=>match H1 p with|some (.lst xs)=>m.toNat-xs.length|_=>0) ⟨0,bj _,rfl,rfl⟩ ?_ ?_
 ·rintro σ H1 ⟨i,hi,rfl,rfl⟩;walk_at "";have hl:((Ci g n i).map V.int).length=i:=by rw[aW,CU]
  refine⟨_,.inl (Ag.of AF),?_⟩;rw[hl]
  by_cases hlt:(i:Int)<m
  ·rw[qD hlt];refine⟨.inl ⟨_,Ag.of AF⟩,by lia,_,AF,by rw[hl];exact Ap (by lia),by lia,by lia,⟨i+1,by lia,rfl,?_⟩,?_⟩
   ·rw[DE,Ci,az];rfl
   ·rw[AF,AF];show m.toNat-(List.map V.int (Ci g n i)++[V.int (dr g n i%g)]).length<m.toNat-(List.map V.int (Ci g n i)).length;rw[ac,hl];simp only[List.length_cons,List.length_nil];lia
  ·rw[qC hlt];have ei:i=m.toNat:=by lia
   by_cases hd:0<dr g n i
   ·rw[qD hd];refine⟨by decide,hbad (.inr (Int.not_lt.mp λz=>?_)) _ (AJ.new hp _)⟩;rw[ei,M6 g2 (by lia) z]at hd;lia
   ·rw[qC hd];refine⟨_,Ag.of AF,λr hr'=>hgood (by lia) (Int.not_le.mp λz=>?_) r _ ⟨(AJ.new hp _).trans (AJ.new hr' _),(CQ hr').2,?_⟩⟩
    ·rw[ei]at hd;exact hd (US g2 z)
    ·rw[AF,ei,List.map_reverse]
 ·intro σ H1 Q1 Q2 hq;walk_at "";rintro⟨v,h1,p,h2,x,h3,v2,h4,x1,h5,h6⟩;exact⟨v,h1,p,h2,x,h3,v2,h4,x1,h5,hq _ _ h6⟩
theorem Xa:AM ["signs","low"] ["signs","low"] (AG Du):=BM
theorem Xb(T:Ay w K mg t)(G_56:Aa P w K mg base 1 t.f_56 ["thing"] (Gj)):FR P w K mg base 2 t.f_26 ["signs","low"] (L7 t.c_79):=by
 refine Gm T.d_26 Xa (λ_ _ _ _ _ _=>b2 λ_ _=>rfl) (λvs H Q E h=>?_) (λd9 A outer s H vs Q E hr h=>?_)
 ·obtain⟨x,y,rfl,kx,ky,hg,hbad⟩:=h;rfl
 obtain⟨x,y,rfl,kx,ky,hg,hbad⟩:=h
 refine⟨_,(AC (Aw (PW.pt (DS (CI (Bq (Ae hr G_56 T.m_56 (AA (pv 0) AB)))) (DS (AZ D6 (pv 0) AE (Ad _)) (Cr (AZ D7 (pv 0) AE (Ad _)))))) (AH (As rfl T.x_79 rfl T.m_79 Ah (AA AI AB))) Af)
  (AH (Aw (CI (Bq (Ae hr G_56 T.m_56 (AA (pv 1) AB)))) (AH (As rfl T.x_79 rfl T.m_79 Ah (AA AI AB))) Af))),?_⟩
 walk_at "";refine⟨x,rfl,kx,My x,rfl,?_⟩;cases x with
 |int g =>
  show if true=false then _ else _;rw[qC (by decide)];refine⟨g,rfl,?_⟩
  by_cases h2:g<2
  ·rw[qD h2];exact⟨by decide,hbad (by show ((decide (2<=g)&&decide (g<=9))&&My y)=false;rw[qG (p:=2<=g) (by lia)];rfl)⟩
  rw[qC h2];refine⟨g,rfl,?_⟩
  by_cases h9:9<g
  ·rw[qD h9];exact⟨by decide,hbad (by show ((decide (2<=g)&&decide (g<=9))&&My y)=false;rw[qG (p:=g<=9) (by lia),dC];rfl)⟩
  rw[qC h9]
  have e:Cw (.int g) y=My y:=by show ((decide (2<=g)&&decide (g<=9))&&My y)=My y;rw[qF (p:=2<=g) (by lia),qF (p:=g<=9) (by lia)];rfl
  rw[e]at hg hbad;refine⟨y,rfl,ky,My y,rfl,?_⟩;cases hy:My y with
  |false =>
   rw[qD rfl];exact⟨by decide,hbad hy⟩
  |true =>
   rw[qC (by decide)];exact hg hy
 |_ =>
  show if false=false then _ else _;rw[qD rfl];exact⟨by decide,hbad rfl⟩
theorem LS:AM ["signs","length","many","words"] ["signs","length"] (AG Dv):=BM
theorem Xc(T:Ay w K mg t) :Aa P w K mg base 1 t.f_33 ["signs","length"] (DJ):=by
 refine Az T.d_33 LS λvs H Q E h=>?_;obtain⟨g,n,rfl,g2,g9,hy,hn⟩:=h;refine⟨rfl,λd9 A outer s hr=>?_⟩
 refine⟨_,(AC (AY 2 LS AE)
  (AC (AY 3 LS AE)
  (AC (FG PassesOwn.never (AZ D6 (pv 3) (pv 1) (Ad _)) (AC (AY 3 LS (AL Eo (pv 3) (pv 0)))
  (AH (AY 2 LS (AL Bf (pv 2) AE)))))
  (AC (Aw (AZ CP (pv 3) (pv 1) (Ad _)) (AH (AW (pv 2))) Af)
  (AH (AW AE)))))),?_⟩
 walk_at ""
 refine G5 (λσ H1=>∃i:Nat,σ=[some (.int g),some (.int n),some (.int ((i:Nat):Int)),some (.int (g^i))]/\H1=H/\∀j,j<i->g^j<n)
  (λ(σ:St) (H1:Hp)=>match σ[3]? with|some (some (V.int x))=>(n-x).toNat|_=>0) ⟨0,by rw[cG];rfl,rfl,λj hj=>qE hj (Nat.not_lt_zero _)⟩ ?_ ?_
 ·rintro σ H1 ⟨i,rfl,rfl,hj⟩;have gp:=RW.BF g2 i;walk_at ""
  by_cases hlt:g^i<n
  ·rw[qD hlt];refine⟨.inr ⟨by lia,by lia⟩,⟨i+1,rfl,?_,λj hj2=>?_⟩,?_⟩
   ·rw[bX]
   ·by_cases z:j=i
    ·rw[z];exact hlt
    ·exact hj j (by lia)
   ·have:g^i<g^i*g:=by
     have:=bz g2 (cH gp);lia
    lia
  ·rw[qC hlt]
   by_cases he:g^i=n
   ·rw[qD he];exact hy i he.symm
   ·rw[qC he];refine hn λm z=>?_
    by_cases hm:m<i
    ·have:=hj m hm;lia
    ·have:=Db g2 (Nat.le_of_not_lt hm);lia
 ·intro σ H1 Q1 Q2 hq;walk_at "";rintro⟨v,h1,v2,h2,i,h3,x,h4,h5⟩;exact⟨v,h1,v2,h2,i,h3,x,h4,hq _ _ h5⟩
theorem LU:AM ["signs","many","length","done"] ["signs","many"] (AG C8):=BM
theorem Xd(T:Ay w K mg t) :Aa P w K mg base 1 t.f_16 ["signs","many"] (HP):=by
 refine Az T.d_16 LU λvs H Q E h=>?_;obtain⟨g,m,rfl,g2,g9,m1,hy,hn⟩:=h;refine⟨rfl,λd9 A outer s hr=>?_⟩
 refine⟨_,(AC (AY 2 LU AE)
  (AC (AY 3 LU AE)
  (AC (FG PassesOwn.never (PW.pt (Ld (AZ D6 (pv 3) (pv 1) (Ad _)) (JQ (AZ Sx (pv 2) (CK rfl T.g_LONGEST_TABLE) (Ad _))))) (AC (AY 2 LU (AL Eo (pv 2) (pv 0)))
  (AH (AY 3 LU (AL Bf (pv 3) AE)))))
  (AH (AW (pv 2)))))),?_⟩
 walk_at ""
 refine G5 (λσ H1=>∃i:Nat,i<=m.toNat/\σ=[some (.int g),some (.int m),some (.int (g^i)),some (.int ((i:Nat):Int))]/\H1=H)
  (λ(σ:St) (H1:Hp)=>match σ[3]? with|some (some (V.int x))=>(m-x).toNat|_=>0) ⟨0,bj _,by rw[cG];rfl,rfl⟩ ?_ ?_
 ·rintro σ H1 ⟨i,hi,rfl,rfl⟩;have gp:=RW.BF g2 i;walk_at ""
  by_cases hlt:(i:Int)<m
  ·rw[qD hlt]
   by_cases hle:g^i<=256
   ·rw[qD hle];exact⟨.inr ⟨by lia,by lia⟩,⟨i+1,by lia,by rw[bX],by lia⟩,by lia⟩
   ·rw[qC hle];have:=Db g2 hi;exact hn (by lia) _ (by lia)
  ·rw[qC hlt];have ei:i=m.toNat:=by lia
   subst ei
   by_cases hle:g^m.toNat<=256
   ·exact hy hle
   ·exact hn (by lia) _ (by lia)
 ·intro σ H1 Q1 Q2 hq;walk_at "";rintro⟨v,h1,v2,h2,i,h3,x,h4,h5⟩;refine⟨v,h1,v2,h2,i,h3,x,h4,?_⟩
  by_cases z:i<x
  ·rw[qD z]at h5⊢;obtain⟨v3,h6,j,h7,h8⟩:=h5;exact⟨v3,h6,j,h7,hq _ _ h8⟩
  ·rw[qC z]at h5⊢;exact hq _ _ h5
theorem TY:AM ["signs","table","told"] ["signs","table"] (AG DQ):=BM
theorem Xe(T:Ay w K mg t)(G_33:Aa P w K mg base 1 t.f_33 ["signs","length"] (DJ))(G_71:Aa P w K mg base 2 t.f_71 ["thing","signs"] (Jh)):FR P w K mg base 3 t.f_19 ["signs","table"] (Jp t.c_79):=by
 refine Gm T.d_19 TY (λ_ _ _ _ _ _=>b2 λ_ _=>rfl) (λvs H Q E h=>?_) (λd9 A outer s H vs Q E hr h=>?_)
 ·obtain⟨g,z,rfl,g2,g9,kz,hg,hbad⟩:=h;rfl
 obtain⟨g,z,rfl,g2,g9,kz,hg,hbad⟩:=h
 refine⟨_,(AC (Aw (CI (Bq (Rh rfl T.z_isinstance (pv 1) (AA (HC rfl T.z_list PyProof.Rows.boot_list) (AA (HC rfl T.z_tuple PyProof.Rows.boot_tuple) AB))))) (AH (As rfl T.x_79 rfl T.m_79 Ah (AA AI AB))) Af)
  (AC (Aw (PW.pt (DS (AZ D7 (Aj (JK K) rfl T.z_len bC (AA (pv 1) AB)) (CK rfl T.g_LONGEST_TABLE) (Ad _)) (Cr (AZ CP (Ae hr G_33 T.m_33 (AA (pv 0) (AA (Aj (JK K) rfl T.z_len bC (AA (pv 1) AB)) AB))) AE (Ad _))))) (AH (As rfl T.x_79 rfl T.m_79 Ah (AA AI AB))) Af)
  (AH (BR PassesOwn.leaving rfl (Wp (Nd K (pv 1)) (PB (pv 1))) (Bc 2 TY) (AH (Aw (CI (Bq (Ae hr G_71 T.m_71 (AA (pv 2) (AA (pv 0) AB))))) (AH (As rfl T.x_79 rfl T.m_79 Ah (AA AI AB))) Af)))))),?_⟩
 walk_at "";refine⟨by decide,λp hp=>?_⟩;have e1:=AJ.new hp (.tup [V.ty "list",V.ty "tuple"]);have h1:Ai H p (.tup [V.ty "list",V.ty "tuple"]) p=some (.tup [V.ty "list",V.ty "tuple"]):=AF;generalize Ai H p (HO.tup [V.ty "list",V.ty "tuple"])=H1 at e1 h1⊢;cases z with
 |ref a =>
  obtain⟨xs,hs,kx⟩:=kz;have hs1:=hs.same e1
  have notk:¬EE g xs->¬Gn H g (.ref a):=by rintro h ⟨b,ys,e,hs2,ok⟩;cases e;have:=hs.inj hs2;subst this;exact h ok
  obtain⟨tt,ty,hk⟩:∃tt,WG K H1 (.ref a) tt/\PySem.W.kitAny K tt [.type "list",.type "tuple"]=some true:=hs1.elim (λq=>⟨_,.of (.lst q),aO Wl _⟩) λq=>⟨_,.of (.tup q),Rm Wn (aO Wm _)⟩
  refine⟨tt,ty,_,h1,[.type "list",.type "tuple"],rfl,true,hk,?_⟩;rw[qC (by decide)];refine⟨a,rfl,xs,hs1.sq,?_⟩
  by_cases h256:(256:Int)<xs.length
  ·rw[qD h256];exact⟨by decide,hbad (notk λok=>by have:=ok.1;lia) _ e1⟩
  rw[qC h256];refine⟨a,rfl,xs,hs1.sq,g,_,rfl,g2,g9,λm hm=>⟨rfl,?_⟩,λhno=>⟨rfl,?_⟩⟩
  ·by_cases hm0:m=0
   ·subst hm0;rw[qD (show V.int ((0:Nat):Int)=V.int 0 from rfl)];refine⟨by decide,hbad (notk λok=>?_) _ e1⟩;obtain⟨m',hm1,hl⟩:=ok.2.1;have:=FS g2 (hm.symm.trans hl);lia
   rw[qC (by intro z;injection z with z;lia)];rcases hs1 with hL|hT
   ·refine Or.inl ⟨_,rfl,a,rfl,⟨_,Ag.of hL⟩,?_⟩;refine CO (xs:=xs) (λi σ H2=>Bb g (xs.take i)=none/\(∃x2,σ=[some (.int g),some (.ref a),x2])/\H2=H1) ⟨rfl,⟨none,rfl⟩,rfl⟩ (λi σ H2 _ z=>by rw[z.2.2];exact Ag.of hL) ?_ ?_
    ·refine LN ?_;rintro _ _ i x _ hGo σ H2 hx ⟨hb,⟨x2,rfl⟩,rfl⟩;refine hGo _ _ ?_;walk_at "";refine⟨x,g,rfl,(kx x (a8 hx)).same e1,?_⟩;cases hsg:Po g x with
     |true =>
      walk_at "";exact⟨Et hb hx hsg,_,rfl⟩
     |false =>
      walk_at "";exact⟨by decide,hbad (notk λok=>by have z:=ok.2.2;rw[Eu hb hx hsg]at z;cases z) _ e1⟩
    ·rintro σ H2 ⟨hb,_,rfl⟩;rw[bN]at hb;exact hg ⟨a,xs,rfl,hs,by lia,⟨m,by lia,hm⟩,hb⟩ _ e1
   ·refine Or.inr ⟨_,rfl,a,rfl,⟨_,Ar.of hT⟩,?_⟩;refine RL (xs:=xs) (λi σ H2=>Bb g (xs.take i)=none/\(∃x2,σ=[some (.int g),some (.ref a),x2])/\H2=H1) ⟨rfl,⟨none,rfl⟩,rfl⟩ (λi σ H2 _ z=>by rw[z.2.2];exact Ar.of hT) ?_ ?_
    ·rintro i x σ H2 hx ⟨hb,⟨x2,rfl⟩,rfl⟩;walk_at "";refine⟨x,g,rfl,(kx x (a8 hx)).same e1,?_⟩;cases hsg:Po g x with
     |true =>
      walk_at "";exact⟨Et hb hx hsg,_,rfl⟩
     |false =>
      walk_at "";exact⟨by decide,hbad (notk λok=>by have z:=ok.2.2;rw[Eu hb hx hsg]at z;cases z) _ e1⟩
    ·rintro σ H2 ⟨hb,_,rfl⟩;rw[bN]at hb;exact hg ⟨a,xs,rfl,hs,by lia,⟨m,by lia,hm⟩,hb⟩ _ e1
  ·rw[qD rfl];refine⟨by decide,hbad (notk λok=>?_) _ e1⟩;obtain⟨m',_,hl⟩:=ok.2.1;exact hno m' hl
 |non =>
  refine⟨_,.of .non,_,h1,[.type "list",.type "tuple"],rfl,false,Rm Wq (Rm Wr rfl),?_⟩;rw[qD rfl];exact⟨by decide,hbad (λ⟨_,_,e,_⟩=>nomatch e) _ e1⟩
 |str y =>
  refine⟨_,.of (.str y),_,h1,[.type "list",.type "tuple"],rfl,false,Rm Ws (Rm Wt rfl),?_⟩;rw[qD rfl];exact⟨by decide,hbad (λ⟨_,_,e,_⟩=>nomatch e) _ e1⟩
 |int y =>
  refine⟨_,.of (.int y),_,h1,[.type "list",.type "tuple"],rfl,false,Rm Wu (Rm Wv rfl),?_⟩;rw[qD rfl];exact⟨by decide,hbad (λ⟨_,_,e,_⟩=>nomatch e) _ e1⟩
 |bl y =>
  refine⟨_,.of (.bl y),_,h1,[.type "list",.type "tuple"],rfl,false,Rm Ww (Rm Wx rfl),?_⟩;rw[qD rfl];exact⟨by decide,hbad (λ⟨_,_,e,_⟩=>nomatch e) _ e1⟩
 |byt _=>exact kz.elim
 |flt _=>exact kz.elim
 |ty _=>exact kz.elim
theorem Xf:AM ["signs","low","table"] ["signs","low","table"] (AG Uh):=BM
theorem Xg(T:Ay w K mg t)(G_26:FR P w K mg base 2 t.f_26 ["signs","low"] (L7 t.c_79))(G_19:FR P w K mg base 3 t.f_19 ["signs","table"] (Jp t.c_79)):FR P w K mg base 4 t.f_97 ["signs","low","table"] (Ex t.c_79):=by
 refine Gm T.d_97 Xf (λ_ _ _ _ _ _=>b3 λ_ _ _=>rfl) (λvs H Q E h=>?_) (λd9 A outer s H vs Q E hr h=>?_)
 ·obtain⟨x,y,z,rfl,kx,ky,kz,hg,hbad⟩:=h;rfl
 obtain⟨x,y,z,rfl,kx,ky,kz,hg,hbad⟩:=h
 refine⟨_,(AC (A7 (Cv G_26 (hr.mono (by decide)) rfl T.m_26 AK (AA (pv 0) (AA (pv 1) AB))))
  (AC (A7 (Cv G_19 (hr.mono (by decide)) rfl T.m_19 AK (AA (pv 0) (AA (pv 2) AB))))
  (AH (AW (Dj (AA (pv 0) (AA (pv 1) (AA (BW IR rfl T.z_tuple PyProof.Rows.boot_tuple (AA (pv 2) AB)) AB)))))))),?_⟩
 walk_at "";refine⟨x,y,rfl,kx,ky,λhgood=>?_,λhb=>hbad (λh=>by rw[h.1]at hb;cases hb) _ (AJ.refl _)⟩;obtain⟨g,lo,rfl,rfl,g2,g9⟩:=Jo hgood;refine⟨g,z,rfl,g2,g9,kz,λok H1 e1=>?_,λnok H1 e1=>hbad (λh=>?_) _ e1⟩
 ·obtain⟨a,xs,rfl,hs,ok⟩:=ok;obtain⟨d4,rfl,htab⟩:=Er ok.2.2;refine⟨a,rfl,d4.map V.int,?_⟩;rcases hs with hL|hT
  ·refine .inl ⟨Ag.of (e1 _ _ hL),λl hl=>⟨by decide,λp hp=>?_⟩⟩;have e2:=AJ.new hl (.tup (d4.map V.int));have e3:=AJ.new hp (.tup [.int g,.int lo,.ref l]);exact hg g lo d4 a rfl rfl rfl (.inl hL) g2 g9 ok htab p _ ((e1.trans e2).trans e3) ⟨l,AF,e3 _ _ AF⟩
  ·refine .inr ⟨Ar.of (e1 _ _ hT),by decide,λp hp=>?_⟩;have e3:=AJ.new hp (.tup [.int g,.int lo,.ref a]);exact hg g lo d4 a rfl rfl rfl (.inr hT) g2 g9 ok htab p _ (e1.trans e3) ⟨a,AF,e3 _ _ (e1 _ _ hT)⟩
 ·obtain⟨_,g',e,h'⟩:=h;cases e;exact nok h'
theorem Xh:AM ["one"] ["one"] (AG Ui):=BM
theorem Xi(T:Ay w K mg t)(G_33:Aa P w K mg base 1 t.f_33 ["signs","length"] (DJ)):Aa P w K mg base 2 t.f_86 ["one"] (CV):=by
 refine Az T.d_86 Xh λvs H Q E h=>?_;obtain⟨r,g,lo,d4,m,rfl,g2,g9,⟨tb,h1,h2⟩,hl,q⟩:=h;refine⟨rfl,λd9 A outer s hr=>?_⟩;refine⟨_,(AH (AW (Ae hr G_33 T.m_33 (AA (AN (C6 K) (pv 0) AE (λ_ _=>rfl)) (AA (Aj (JK K) rfl T.z_len bC (AA (AN (C6 K) (pv 0) AE (λ_ _=>rfl)) AB)) AB))))),?_⟩;walk_at "";refine (D1 (v:=.int g) (Ar.of h1) (Bv rfl) (D1 (v:=.ref tb) (Ar.of h1) (Bv rfl) ?_));walk_at "";refine⟨_,.inr (Ar.of h2),g,_,rfl,g2,g9,λm' e=>?_,λz=>?_⟩
 ·rw[aW,hl]at e;rw[<-FS g2 e];exact q
 ·exact qE (by rw[aW,hl]) (z m)
theorem Xj:AM ["one","word"] ["one","word"] (AG Uj):=BM
theorem Xk(T:Ay w K mg t)(G_11:Aa P w K mg base 4 t.f_11 ["word","signs","many"] (Ew K t.c_89))(G_86:Aa P w K mg base 2 t.f_86 ["one"] (CV))(G_42:Aa P w K mg base 4 t.f_42 ["word","signs"] (FN K t.c_89)):Aa P w K mg base 5 t.f_40 ["one","word"] (Jn K t.c_89):=by
 refine A5 T.d_40 Xj λvs H Q E h=>?_;obtain⟨r,a,g,lo,d4,m,xs,rfl,g2,g9,hR,hl,hS,kd,h⟩:=h;refine⟨rfl,λd9 A outer s hr=>?_⟩
 refine⟨_,(AC (A7 (AT G_11 (hr.mono (by decide)) rfl T.m_11 AK (AA (pv 1) (AA (AN (C6 K) (pv 0) AE (λ_ _=>rfl)) (AA (Ae hr G_86 T.m_86 (AA (pv 0) AB)) AB)))))
  (AH (AW (AN (C6 K) (AN (C6 K) (pv 0) AE (λ_ _=>rfl)) (AT G_42 (hr.mono (by decide)) rfl T.m_42 AK (AA (pv 1) (AA (AN (C6 K) (pv 0) AE (λ_ _=>rfl)) AB))) (λ_ _=>rfl))))),?_⟩
 refine BJ.el hR λtb h1 h2=>?_;walk_at "";refine (D1 (Ar.of h1) rfl ⟨r,g,lo,d4,m,rfl,g2,g9,hR,hl,a,xs,g,m,rfl,hS,kd,?_⟩);cases hb:ED g m xs with
 |some i =>
  rw[hb]at h;exact h
 |none =>
  rw[hb]at h;obtain⟨hlen,hbi⟩:=Ks hb;obtain⟨ns,rfl,hns⟩:=Er hbi;rw[aW]at hlen;intro H1 e1;refine (D1 (Ar.of (e1 _ _ h1)) rfl (D1 (Ar.of (e1 _ _ h1)) rfl ⟨a,_,g,rfl,g2,g9,e1.seq hS,Ch,?_⟩));rw[hbi];intro ms hms H2 e2;have:=DZ hms;subst this;have nb:=HM g2 hns;rw[hlen,<-hl]at nb;refine (D1 (v:=.int (d4.getD (CD g ns).toNat 0)) (Ar.of (e2 _ _ (e1 _ _ h2))) ?_ (h ns rfl _ (e1.trans e2)));have z:=P8 (ns:=d4) (k:=(CD g ns).toNat) (by lia);rw[show (((CD g ns).toNat:Nat):Int)=CD g ns by lia]at z;exact z
theorem Xl:AM ["one"] ["one"] (AG Uk):=BM
theorem Xm(T:Ay w K mg t)(G_42:Aa P w K mg base 4 t.f_42 ["word","signs"] (FN K t.c_89)):Aa P w K mg base 5 t.f_41 ["one"] (Ey):=by refine Az T.d_41 Xl λvs H Q E h=>?_;obtain⟨r,g,lo,d4,rfl,g2,g9,hR,hb,q⟩:=h;refine⟨rfl,λd9 A outer s hr=>?_⟩;refine⟨_,(AH (AW (Ae hr G_42 T.m_42 (AA (Px rfl rfl T.z_reversed rfl T.z_list (AA (AN (C6 K) (pv 0) AE (λ_ _=>rfl)) AB)) (AA (AN (C6 K) (pv 0) AE (λ_ _=>rfl)) AB))))),?_⟩;refine BJ.el hR λtb h1 h2=>?_;walk_at "";refine (D1 (Ar.of h1) rfl ?_);refine⟨tb,rfl,_,Ar.of h2,λl hl=>?_⟩;have e1:=AJ.new hl (.lst (d4.map V.int).reverse);refine (D1 (Ar.of (e1 _ _ h1)) rfl ⟨l,(d4.reverse).map V.int,g,rfl,g2,g9,Ag.of (by rw[AF,List.map_reverse]),Ch,?_⟩);rw[Cu λn hn=>hb n (dI.mp hn)];intro ms ems H' e';have z:=DZ ems;subst z;rw[Gk];exact q _ (e1.trans e')
theorem Xn:AM ["one"] ["one"] (AG Ul):=BM
theorem Xo(T:Ay w K mg t) :Aa P w K mg base 1 t.f_92 ["one"] (FU):=by
 refine Az T.d_92 Xn λvs H Q E h=>?_;obtain⟨r,g,lo,d4,m,rfl,ok,q⟩:=h;refine⟨rfl,λd9 A outer s hr=>?_⟩;refine⟨_,(AH (AW (AL DG (Aj (JK K) rfl T.z_len bC (AA (AN (C6 K) (pv 0) AE (λ_ _=>rfl)) AB)) (AN (C6 K) (pv 0) AE (λ_ _=>rfl))))),?_⟩;refine BJ.el ok.v λtb h1 h2=>?_;have g2:=ok.g2;have g9:=ok.g9;have m1:=ok.m1;have m8:=ok.m8;have hl:=ok.len;have sz:=ok.sz;have hlm:(d4.map V.int).length=d4.length:=aW ..;walk_at "";refine (D1 (Ar.of h1) rfl ?_);walk_at "";refine⟨_,.inr (Ar.of h2),D1 (Ar.of h1) rfl ⟨g,rfl,by lia,by lia,?_⟩⟩
 have e:(((d4.map V.int).length:Nat):Int)/g=((d4.length/g.toNat:Nat):Int):=by rw[hlm,Int.natCast_ediv,bh (by lia)]
 rw[e];exact q
theorem V9:AM ["one","row"] ["one","row"] (AG Qo):=BM
theorem WA(T:Ay w K mg t)(G_28:Aa P w K mg base 3 t.f_28 ["word","signs"] (Dm K t.c_89)):Aa P w K mg base 4 t.f_100 ["one","row"] (E6 t 0):=by
 refine A5 T.d_100 V9 λvs H Q E h=>?_;obtain⟨a,b,q,us,rfl,ok,hb,bd,rf⟩:=h;refine⟨rfl,λd9 A outer s hr=>?_⟩
 refine⟨_,(AC (A7 (AT G_28 (hr.mono (by decide)) rfl T.m_28 AK (AA (pv 1) (AA (AN (C6 K) (pv 0) AE (λ_ _=>rfl)) AB))))
  Cc),?_⟩
 walk_at "";obtain⟨tb,h1,h2⟩:=ok.v;refine (D1 (Ar.of h1) rfl ⟨b,us.map V.int,q.g,rfl,Ag.of hb,Ch,?_⟩);cases e:Bb q.g (us.map V.int) with
 |none=>exact qE (by unfold Bt;rw[e];exact qC (Nat.not_lt_zero _)) bd
 |some i=>exact λH' dx e _=>rf _ _ e
theorem Xp:AM ["one","ring","times","come","done"] ["one","ring","times"] (AG Um):=BM
theorem Xq(T:Ay w K mg t)(G_0:Aa P w K mg base 4 t.f_0 ["word","signs","fewest"] (Do K t.c_89)):Rq P w K mg base 5 t.f_90 ["one","ring","times"] (Me t) [.int 1]:=by
 obtain⟨tk,D⟩:=T.d_90;refine Rr (n:=2) D (.cons ⟨_,rfl⟩ .nil) Xp (λ_ _ _ _ _ _ _=>b3 λ_ _ _=>⟨_,rfl,rfl⟩) rfl (λ_ _ _ _ _ _ _=>b2 λ_ _=>⟨_,rfl,rfl⟩) (λvs H Q E h=>?_) (λd9 A outer s H vs Q E hr h=>?_)
 ·obtain⟨a,b,q,us,rfl,ok,hb,bd,rf⟩:=h;rfl
 obtain⟨a,b,q,us,rfl,ok,hb,bd,rf⟩:=h
 refine⟨_,(AC (A7 (AT G_0 (hr.mono (by decide)) rfl T.m_0 AK (AA (pv 1) (AA (AN (C6 K) (pv 0) AE (λ_ _=>rfl)) (A9 AB)))))
  Cc),?_⟩
 walk_at "";obtain⟨tb,h1,h2⟩:=ok.v;refine (D1 (Ar.of h1) rfl ⟨b,us.map V.int,q.g,1,rfl,Ag.of hb,Ch,?_⟩);cases e:Bt q.g 1 (us.map V.int) with
 |none=>exact qE e bd
 |some i=>exact λH' dx e _=>rf _ _ e
theorem Xr:AM ["one","ring"] ["one","ring"] (AG Uo):=BM
theorem Xs(T:Ay w K mg t)(G_90:Rq P w K mg base 5 t.f_90 ["one","ring","times"] (Me t) [.int 1]):Aa P w K mg base 6 t.f_57 ["one","ring"] (E6 t 1):=by refine A5 T.d_57 Xr λvs H Q E h=>?_;obtain⟨a,b,q,us,rfl,ok,hb,bd,rf⟩:=h;refine⟨rfl,λd9 A outer s hr=>?_⟩;refine⟨_,(AH (AW (P4 G_90 (hr.mono (by decide)) rfl T.m_90 AK (AA (pv 0) (AA (pv 1) AB))))),?_⟩;walk_at "";exact⟨a,b,q,us,rfl,ok,hb,bd,rf⟩
theorem Xt:AM ["one","row"] ["one","row"] (AG Up):=BM
theorem Xu(T:Ay w K mg t)(G_28:Aa P w K mg base 3 t.f_28 ["word","signs"] (Dm K t.c_89)):Aa P w K mg base 4 t.f_20 ["one","row"] (E6 t 0):=by
 refine A5 T.d_20 Xt λvs H Q E h=>?_;obtain⟨a,b,q,us,rfl,ok,hb,bd,rf⟩:=h;refine⟨rfl,λd9 A outer s hr=>?_⟩
 refine⟨_,(AC (A7 (AT G_28 (hr.mono (by decide)) rfl T.m_28 AK (AA (pv 1) (AA (AN (C6 K) (pv 0) AE (λ_ _=>rfl)) AB))))
  Cc),?_⟩
 walk_at "";obtain⟨tb,h1,h2⟩:=ok.v;refine (D1 (Ar.of h1) rfl ⟨b,us.map V.int,q.g,rfl,Ag.of hb,Ch,?_⟩);cases e:Bb q.g (us.map V.int) with
 |none=>exact qE (by unfold Bt;rw[e];exact qC (Nat.not_lt_zero _)) bd
 |some i=>exact λH' dx e _=>rf _ _ e
theorem LV:AM ["one","weight","table","number","told","there"] ["one","weight"] (AG Uq):=BM
theorem Xv(T:Ay w K mg t) :Aa P w K mg base 1 t.f_82 ["one","weight"] (HR):=by
 refine Az T.d_82 LV λvs H Q E h=>?_;obtain⟨r,g,lo,d4,wt,rfl,g2,g9,hR,w0,w3,tl,q⟩:=h;refine⟨rfl,λd9 A outer s hr=>?_⟩
 refine⟨_,(AC (AY 2 LV (AN (C6 K) (pv 0) AE (λ_ _=>rfl)))
  (AC (BR PassesOwn.never rfl (HL rfl T.z_enumerate (AA (pv 2) AB)) (G3 rfl (Bs (Bc 3 LV) (Bs (Bc 4 LV) FF))) (AC (AY 5 LV (AL Bz (AL DG (pv 3) (pv 1)) (AN (C6 K) (pv 0) AE (λ_ _=>rfl))))
  (AH (Aw (AZ Dy (pv 4) (AN (C6 K) (pv 2) (AL D5 (pv 3) (AL Eo (pv 5) (pv 1))) (λ_ _=>rfl)) (Ad _)) (AH (AW GN)) Af))))
  (AH (AW GN)))),?_⟩
 refine BJ.el hR λtb h1 h2=>?_;walk_at "";refine (D1 (Ar.of h1) rfl ?_);walk_at "";refine⟨_,rfl,tb,_,rfl,Ar.of h2,?_⟩;refine Iq (xs:=d4.map V.int) (λi σ H1=>(∃x3 x4 x5,σ=[some (.ref r),some (.int wt),some (.ref tb),x3,x4,x5])/\AJ H H1/\∀k,k<i->d4.getD k 0=d4.getD ((k:Int)-(k:Int)/wt%g*wt).toNat 0) ⟨⟨none,none,none,rfl⟩,AJ.refl _,λk hk=>qE hk (Nat.not_lt_zero _)⟩ (λi σ H1 _ z=>Ar.of (z.2.1 _ _ h2)) ?_ ?_
 ·rintro i x p2 σ H1 hx ⟨⟨x3,x4,x5,rfl⟩,e,hall⟩ hp2;obtain⟨n,hn,rfl⟩:=Ev hx;have hi:i<d4.length:=(ae.mp hn).1;have e2:AJ H (Ai H1 p2 (.tup [.int ((i:Nat):Int),.int n])):=e.trans (AJ.new hp2 _);refine⟨p2,_,rfl,Ar.of AF,rfl,_,_,rfl,_,_,rfl,rfl,?_⟩;walk_at "";have ix:=UT (k:=(i:Int)) (w:=wt) (g:=g) (by lia) w0 g2;have gA:=Jt (ns:=d4) ix.1 (by lia);have ng:n=d4.getD i 0:=by rw[aq,hn];rfl
  refine⟨w0,by lia,D1 (Ar.of (e2 _ _ h1)) rfl ⟨g,rfl,by lia,.inr ⟨by lia,by lia⟩,D1 (Ar.of (e2 _ _ h2)) gA ⟨rfl,?_⟩⟩⟩
  by_cases hd:V.int n=V.int (d4.getD ((i:Int)-(i:Int)/wt%g*wt).toNat 0)
  ·rw[qC (λz=>z hd)];refine⟨⟨_,rfl⟩,e2,λk hk=>?_⟩
   by_cases z:k=i
   ·subst z;rw[<-ng];exact V.int.inj hd
   ·exact hall k (by lia)
  ·rw[qD hd];have z:Br g d4 wt=true:=F8.mpr ⟨i,hi,λy=>hd (by rw[ng,y])⟩;rw[z]at q;exact q _ e2
 ·rintro σ H1 ⟨⟨x3,x4,x5,rfl⟩,e,hall⟩;walk_at "";rw[aW]at hall
  have z:Br g d4 wt=false:=by
   cases z:Br g d4 wt with
   |false=>rfl
   |true =>
    obtain⟨k,hk,h⟩:=F8.mp z;exact qE (hall k hk) h
  rw[z]at q;exact q H1 e
theorem LW:AM ["one","found","weight","at"] ["one"] (AG Ur):=BM
theorem Xw(T:Ay w K mg t)(G_86:Aa P w K mg base 2 t.f_86 ["one"] (CV))(G_82:Aa P w K mg base 1 t.f_82 ["one","weight"] (HR)):Aa P w K mg base 3 t.f_55 ["one"] (Dp):=by
 refine Az T.d_55 LW λvs H Q E h=>?_;obtain⟨r,g,lo,d4,m,rfl,g2,g9,hR,hl,m1,m8,gm,q⟩:=h;refine⟨rfl,λd9 A outer s hr=>?_⟩
 refine⟨_,(AC (AY 1 LW (Aq AB))
  (AC (AY 2 LW (Aj (JK K) rfl T.z_len bC (AA (AN (C6 K) (pv 0) AE (λ_ _=>rfl)) AB)))
  (AC (BR PassesOwn.never rfl (BN rfl T.z_range (AA (Ae hr G_86 T.m_86 (AA (pv 0) AB)) AB)) (Bc 3 LW) (AC (AY 2 LW (AL DG (pv 2) (AN (C6 K) (pv 0) AE (λ_ _=>rfl))))
  (AH (Aw (Bq (Ae hr G_82 T.m_82 (AA (pv 0) (AA (pv 2) AB)))) (AH (A7 (Ug K (pv 1) (AA (AL Bf (AN (C6 K) (pv 0) AE (λ_ _=>rfl)) (pv 3)) AB)))) Af))))
  (AH (AW (pv 1)))))),?_⟩
 refine BJ.el hR λtb h1 h2=>?_;walk_at "";refine⟨bj _,λp hp=>?_⟩;have e0:=AJ.new hp (.lst []);refine (D1 (Ar.of (e0 _ _ h1)) rfl ?_);walk_at "";refine⟨_,.inr (Ar.of (e0 _ _ h2)),?_⟩;rw[aW];refine⟨_,rfl,r,g,lo,d4,m,rfl,g2,g9,hR.same e0,hl,_,rfl,by lia,by lia,?_⟩;refine Bm (n:=m) (λi σ H1=>∃x3,σ=[some (.ref r),some (.ref p),some (.int (g^(m-i))),x3]/\AJ H H1/\H1 p=some (.lst ((((List.range i).filter λj=>Br g d4 (g^(m-1-j))).map λj:Nat=>lo+(j:Int)).map V.int))) ⟨none,by rw[hl,Nat.sub_zero],e0,AF⟩ ?_ ?_
 ·refine Fs ?_;rintro _ _ i _ hGo σ H1 hi ⟨x3,rfl,e,hp1⟩;refine hGo _ _ ?_;have dv:g^(m-i)/g=g^(m-1-i):=by rw[show m-i=(m-1-i)+1 by lia,bX,Int.mul_ediv_cancel _ (by lia)]
  have gp:=RW.BF g2 (m-1-i);have gb:=Db g2 (show m-1-i<=m by lia);walk_at "";refine (D1 (Ar.of (e _ _ h1)) rfl ?_);walk_at "";rw[dv];refine⟨by lia,by lia,r,g,lo,d4,_,rfl,g2,g9,hR.same e,gp,by lia,by lia,λH2 e2=>?_⟩;have e3:=e.trans e2;refine⟨_,rfl,?_⟩;cases hc:Br g d4 (g^(m-1-i)) with
  |true =>
   rw[qD rfl];refine⟨.inl ⟨_,Ag.of (e2 _ _ hp1)⟩,D1 (Ar.of (e3 _ _ h1)) rfl ⟨lo,rfl,_,e2 _ _ hp1,?_,by rw[show m-(i+1)=m-1-i by lia],e3.into hp,?_⟩⟩
   ·rw[aW,aW];have:=cW (λj=>Br g d4 (g^(m-1-j))) (List.range i);rw[bq]at this;exact Ap (by lia)
   ·rw[AF,bg,cI,az,az,bu];simp[List.filter,hc]
  |false =>
   rw[qC (by decide)];refine⟨by rw[show m-(i+1)=m-1-i by lia],e3,?_⟩;rw[e2 _ _ hp1,bg,cI];simp[List.filter,hc]
 ·rintro σ H1 ⟨x3,rfl,e,hp1⟩;walk_at "";exact q p H1 ⟨e,hp,hp1⟩
theorem Z2:AM ["word","at"] ["word","at"] (AG Zo):=BM
theorem Z3(T:Ay w K mg t) :Aa P w K mg base 1 t.f_2 ["word","at"] (Hc K):=by
 refine Az T.d_2 Z2 λvs H Q E h=>?_;obtain⟨a,v,z,rfl,hS,q⟩:=h;refine⟨rfl,λd9 A outer s hr=>?_⟩
 refine⟨_,(AC (Aw (PW.pt (DS (AZ D6 (pv 1) AE (Ad _)) (Cr (AZ WU (pv 1) (Aj (JK K) rfl T.z_len bC (AA (pv 0) AB)) (Ad _))))) (AH (AW AE)) Af)
  (AH (AW (AN (BA K) (pv 0) (pv 1) (λ_ _=>rfl))))),?_⟩
 have hlm:(v.map V.int).length=v.length:=aW ..;unfold sn at q;walk_at ""
 by_cases h0:z<0
 ·rw[qD (.inl h0)]at q;rw[qD h0];exact q
 rw[qC h0];refine⟨_,.inl hS,?_⟩;rw[hlm]
 by_cases h1:(v.length:Int)<=z
 ·rw[qD (.inr h1)]at q;rw[qD h1];exact q
 rw[qC h1];rw[qC (by lia)]at q;exact⟨a,_,_,_,rfl,rfl,hS,Jt (by lia) (by lia),q⟩
theorem LX:AM ["one","low","many","ahead","table","number","word"] ["one","low","many"] (AG Us):=BM
theorem Xx(T:Ay w K mg t)(G_97:FR P w K mg base 4 t.f_97 ["signs","low","table"] (Ex t.c_79))(G_16:Aa P w K mg base 1 t.f_16 ["signs","many"] (HP))(G_77:FR P w K mg base 1 t.f_77 ["number","signs","many"] (Jq t.c_80))(G_40:Aa P w K mg base 5 t.f_40 ["one","word"] (Jn K t.c_89))(G_2:Aa P w K mg base 1 t.f_2 ["word","at"] (Hc K))(G_86:Aa P w K mg base 2 t.f_86 ["one"] (CV)):Aa P w K mg base 6 t.f_39 ["one","low","many"] (Gr):=by
 refine Az T.d_39 LX λvs H Q E h=>?_;obtain⟨r,g,lo,d4,m,low,M,rfl,ok,M1,gM,q⟩:=h;refine⟨rfl,λd9 A outer s hr=>?_⟩
 refine⟨_,(AC (AY 3 LX (AL D5 (AN (C6 K) (pv 0) AE (λ_ _=>rfl)) (pv 1)))
  (AC (AY 4 LX (Aq AB))
  (AC (BR PassesOwn.never rfl (BN rfl T.z_range (AA (Ae hr G_16 T.m_16 (AA (AN (C6 K) (pv 0) AE (λ_ _=>rfl)) (AA (pv 2) AB))) AB)) (Bc 5 LX) (AC (AY 6 LX (Cv G_77 (hr.mono (by decide)) rfl T.m_77 Jv (AA (pv 5) (AA (AN (C6 K) (pv 0) AE (λ_ _=>rfl)) (AA (pv 2) AB)))))
  (AH (A7 (Ug K (pv 4) (AA (Ae hr G_40 T.m_40 (AA (pv 0) (AA (C3 [(6,"word"),(3,"ahead")] [("word",_),("ahead",_)] (BN rfl T.z_range (AA (Ae hr G_86 T.m_86 (AA (pv 0) AB)) AB)) (λ_ _ _ _=>B8) (λ_ _ _ _=>(Ae hr G_2 T.m_2 (AA (pv 1) (AA (AL Bf (pv 2) (pv 0)) AB))))) AB))) AB))))))
  (AH (AW (Cv G_97 (hr.mono (by decide)) rfl T.m_97 Jv (AA (AN (C6 K) (pv 0) AE (λ_ _=>rfl)) (AA (pv 1) (AA (pv 4) AB))))))))),?_⟩
 refine BJ.el ok.v λtb h1 h2=>?_;have g2:=ok.g2;have g9:=ok.g9;have m8:=ok.m8;have hl:=ok.len;have gp:=RW.BF g2 M;have M8:=FV g2 gM;walk_at "";refine (D1 (Ar.of h1) rfl ⟨lo,rfl,bj _,λp hp=>?_⟩);have e0:=AJ.new hp (.lst []);refine⟨_,rfl,r,_,0,_,rfl,rfl,Ar.of (e0 _ _ h1),rfl,_,rfl,?_⟩;refine⟨g,_,rfl,g2,g9,by lia,λ_=>?_,λz=>qE z (by rw[bI];lia)⟩;rw[bI];refine⟨_,rfl,by lia,by lia,?_⟩;refine Bm (n:=(g^M).toNat) (λi σ H1=>∃x5 x6,σ=[some (.ref r),some (.int low),some (.int ((M:Nat):Int)),some (.int (lo-low)),some (.ref p),x5,x6]/\AJ H H1/\H1 p=some (.lst (((List.range i).map λn:Nat=>d4.getD (CD g (M9 (DL g (n:Int) M) (lo-low) m)).toNat 0).map V.int))) ⟨none,none,rfl,e0,AF⟩ ?_ ?_
 ·refine Fs ?_;rintro _ _ i _ hGo σ H1 hi ⟨x5,x6,rfl,e,hp1⟩;refine hGo _ _ ?_;walk_at "";refine (D1 (Ar.of (e _ _ h1)) rfl ⟨_,g,_,rfl,g2,g9,by lia,by lia,λz=>qE z (by rw[bI];lia),λ_ _ pw H2 hN2=>?_⟩);rw[bI,bu]at hN2;have e2:=e.trans hN2.1;have hp2:=hN2.1 _ _ hp1;refine⟨.inl ⟨_,Ag.of hp2⟩,?_⟩;refine⟨_,rfl,r,g,lo,d4,m,rfl,g2,g9,ok.v.same e2,hl,_,rfl,by lia,by lia,λD hD=>?_⟩;rw[bI];have hw2:H2 pw=some (.lst ((DL g (i:Int) M).map V.int)):=hN2.2.2;refine Dn (n:=m) (λj d8 Hx=>d8=((List.range j).map λk:Nat=>sn (DL g (i:Int) M) (lo-low+(k:Int))).map V.int/\Hx=Ai H2 D (.lst d8)) ⟨rfl,rfl⟩ ?_ ?_
  ·refine KJ ?_;rintro j _ hGo d8 Hx hj ⟨rfl,rfl⟩;refine hGo _ _ ?_;walk_at "";rw[bu];refine⟨pw,_,_,rfl,Ag.of (AJ.new hD _ _ _ hw2),AF,?_,?_,by rw[DE]⟩
   ·rw[aW,aW,bq];exact Ap (by lia)
   ·rw[Cy,az];rfl
  ·rintro d8 Hx ⟨rfl,rfl⟩;have en:=AJ.new hD (.lst ((M9 (DL g (i:Int) M) (lo-low) m).map V.int));have bb:=QC g2 (Kv g2 (i:Int) M) (lo-low) m;have bl:=GS bb;rw[Gp]at bl;refine⟨r,D,g,lo,d4,m,(M9 (DL g (i:Int) M) (lo-low) m).map V.int,rfl,g2,g9,(ok.v.same e2).same en,hl,Ag.of AF,Ch,?_⟩;rw[bl];intro ms hms H4 e4;have:=DZ hms;subst this;have e24:=en.trans e4;refine⟨_,e24 _ _ hp2,?_,(e2.trans e24).into hp,?_⟩
   ·rw[aW,aW,bq];exact Ap (by lia)
   ·rw[AF,Cy,az];rfl
 ·rintro σ H1 ⟨x5,x6,rfl,e,hp1⟩;walk_at "";refine (D1 (Ar.of (e _ _ h1)) rfl ?_);exact Ix (d4:=HU g lo d4 m low M) g2 g9 M1 (Bi g2 _ _ _ _ _) gM (QD g2 _ ok.tb _ _ _) (.inl hp1) λr' H' e' hR=>q r' H' (e.trans e') (ok.bw M1 gM hR)
theorem TZ:AM ["one","found"] ["one"] (AG Ut):=BM
theorem Xy(T:Ay w K mg t)(G_55:Aa P w K mg base 3 t.f_55 ["one"] (Dp))(G_39:Aa P w K mg base 6 t.f_39 ["one","low","many"] (Gr)):Aa P w K mg base 7 t.f_85 ["one"] (De):=by
 refine Az T.d_85 TZ λvs H Q E h=>?_;obtain⟨r,g,lo,d4,m,rfl,ok,q⟩:=h;refine⟨rfl,λd9 A outer s hr=>?_⟩
 refine⟨_,(AC (AY 1 TZ (Ae hr G_55 T.m_55 (AA (pv 0) AB)))
  (AC (Aw (AZ CP (Aj (JK K) rfl T.z_len bC (AA (pv 1) AB)) AE (Ad _)) (AH (AW (Ae hr G_39 T.m_39 (AA (pv 0) (A9 (A9 AB)))))) Af)
  (AH (AW (Ae hr G_39 T.m_39 (AA (pv 0) (AA (AN (BA K) (pv 1) AE (λ_ _=>rfl)) (AA (AL Bf (AL D5 (AN (BA K) (pv 1) (Sw PH AE) (λ_ _=>rfl)) (AN (BA K) (pv 1) AE (λ_ _=>rfl))) AE) AB)))))))),?_⟩
 have g2:=ok.g2;have g9:=ok.g9;have m1:=ok.m1;have m8:=ok.m8;have sz:=ok.sz;walk_at "";refine⟨r,g,lo,d4,m,rfl,g2,g9,ok.v,ok.len,m1,m8,sz,λp H1 hN1=>?_⟩;have hcl:((BX g lo d4 m).map V.int).length=(BX g lo d4 m).length:=aW ..;walk_at "";refine⟨_,.inl (Ag.of hN1.2.2),?_⟩;rw[hcl]
 by_cases hc:BX g lo d4 m=[]
 ·rw[qD (by rw[hc];rfl)];have g1:g^1=g:=by rw[bX,cG,Int.one_mul]
  exact⟨r,g,lo,d4,m,0,1,rfl,ok.same hN1.1,af _,by lia,λr' H' e' ok'=>q 0 1 (K1 hc) r' H' (hN1.1.trans e') ok'⟩
 ·obtain⟨M,hM,hMm,hW⟩:=Iw hc;have hp0:0<(BX g lo d4 m).length:=List.length_pos_iff.mpr hc;rw[qC (by lia)];have gM:=Db g2 hMm;refine (BH (Ag.of hN1.2.2) (Jt (by decide) (by show 0<_;lia)) (BH (Ag.of hN1.2.2) (OV hp0) (BH (Ag.of hN1.2.2) (Jt (by decide) (by show 0<_;lia)) ⟨_,rfl,_,rfl,?_⟩)));refine⟨r,g,lo,d4,m,(BX g lo d4 m).getD 0 0,M,?_,ok.same hN1.1,hW.one,by lia,λr' H' e' ok'=>q _ M hW r' H' (hN1.1.trans e') ok'⟩;rw[hM];rfl
theorem Xz:AM ["one","other"] ["one","other"] (AG Uu):=BM
theorem X0(T:Ay w K mg t)(G_85:Aa P w K mg base 7 t.f_85 ["one"] (De)):Aa P w K mg base 8 t.f_98 ["one","other"] (LO):=by refine Az T.d_98 Xz λvs H Q E h=>?_;obtain⟨a,b,rfl,hF⟩:=h;refine⟨rfl,λd9 A outer s hr=>?_⟩;exact hF.elim
theorem Ta:AM ["one","low","high","place"] ["one","low","high"] (AG Uv):=BM
theorem X1(T:Ay w K mg t)(G_55:Aa P w K mg base 3 t.f_55 ["one"] (Dp))(G_39:Aa P w K mg base 6 t.f_39 ["one","low","many"] (Gr))(G_16:Aa P w K mg base 1 t.f_16 ["signs","many"] (HP)):Aa P w K mg base 7 t.f_76 ["one","low","high"] (GA t.c_51 t.c_70):=by
 refine A5 T.d_76 Ta λvs H Q E h=>?_;obtain⟨r,g,lo,d4,m,low,high,rfl,ok,hout,hwide,hok⟩:=h;refine⟨rfl,λd9 A outer s hr=>?_⟩
 refine⟨_,(AC (Aw (AZ D7 (pv 1) (pv 2) (Ad _)) (AH (As rfl T.x_51 rfl T.m_51 Ah (AA AI AB))) Af)
  (AC (BR PassesOwn.leaving rfl (Nd K (Ae hr G_55 T.m_55 (AA (pv 0) AB))) (Bc 3 Ta) (AH (Aw (PW.pt (DS (AZ D6 (pv 3) (pv 1) (Ad _)) (Cr (AZ D7 (pv 3) (pv 2) (Ad _))))) (AH (As rfl T.x_51 rfl T.m_51 Ah (AA AI AB))) Af)))
  (AC (Aw (AZ D7 (Ae hr G_16 T.m_16 (AA (AN (C6 K) (pv 0) AE (λ_ _=>rfl)) (AA (AL Bf (AL D5 (pv 2) (pv 1)) AE) AB))) (CK rfl T.g_LONGEST_TABLE) (Ad _)) (AH (As rfl T.x_70 rfl T.m_70 Ah (AA AI AB))) Af)
  (AH (AW (Ae hr G_39 T.m_39 (AA (pv 0) (AA (pv 1) (AA (AL Bf (AL D5 (pv 2) (pv 1)) AE) AB))))))))),?_⟩
 refine BJ.el ok.v λtb h1 h2=>?_;have g2:=ok.g2;have g9:=ok.g9;have m1:=ok.m1;have m8:=ok.m8;walk_at ""
 by_cases hlh:high<low
 ·rw[qD hlh];exact⟨by decide,hout (.inl hlh) _ (AJ.refl _)⟩
 rw[qC hlh];refine⟨_,rfl,r,g,lo,d4,m,rfl,g2,g9,ok.v,ok.len,m1,m8,ok.sz,λp H1 hN1=>?_⟩;refine⟨p,rfl,⟨_,Ag.of hN1.2.2⟩,?_⟩;refine CO (xs:=(BX g lo d4 m).map V.int) (λi σ H2=>(∃x3,σ=[some (.ref r),some (.int low),some (.int high),x3])/\H2=H1/\∀z∈(BX g lo d4 m).take i,low<=z/\z<=high) ⟨⟨none,rfl⟩,rfl,λz hz=>qE hz (by simp)⟩ (λi σ H2 _ z=>by rw[z.2.1];exact Ag.of hN1.2.2) ?_ ?_
 ·refine LN ?_;rintro _ _ i x _ hGo σ H2 hx ⟨⟨x3,rfl⟩,rfl,hall⟩;refine hGo _ _ ?_;obtain⟨n,hn,rfl⟩:=Ev hx;have nm:=a8 hn;walk_at ""
  by_cases c1:n<low
  ·rw[qD c1];exact⟨by decide,hout (.inr ⟨n,nm,.inl c1⟩) _ hN1.1⟩
  rw[qC c1]
  by_cases c2:high<n
  ·rw[qD c2];exact⟨by decide,hout (.inr ⟨n,nm,.inr c2⟩) _ hN1.1⟩
  rw[qC c2];refine⟨⟨_,rfl⟩,λz hz=>?_⟩;rw[cQ,hn]at hz;rcases ar.mp hz with y|y
  ·exact hall z y
  ·have:z=n:=by simpa using y
   lia
 ·rintro σ H2 ⟨⟨x3,rfl⟩,rfl,hall⟩;rw[aW,bN]at hall
  have nout:¬Rz g lo d4 m low high:=by
   rintro (z|⟨z,hz,y⟩)
   ·exact hlh z
   ·have:=hall z hz;lia
  walk_at "";refine (D1 (Ar.of (hN1.1 _ _ h1)) rfl ⟨g,_,rfl,g2,g9,by lia,λhle=>?_,λhgt rr hrr=>?_⟩)
  ·refine⟨_,rfl,?_⟩;rw[qC (by lia)];exact⟨r,g,lo,d4,m,low,(high-low+1).toNat,by rw[show (((high-low+1).toNat:Nat):Int)=high-low+1 by lia],ok.same hN1.1,by lia,hle,λr' H' e' ok'=>hok nout hle r' H' (hN1.1.trans e') ok'⟩
  ·refine⟨_,rfl,?_⟩;rw[qD hrr];exact⟨by decide,hwide nout hgt _ hN1.1⟩
theorem Tb:AM ["one","least"] ["one"] (AG Uw):=BM
theorem X2(T:Ay w K mg t)(G_85:Aa P w K mg base 7 t.f_85 ["one"] (De))(G_86:Aa P w K mg base 2 t.f_86 ["one"] (CV))(G_76:Aa P w K mg base 7 t.f_76 ["one","low","high"] (GA t.c_51 t.c_70))(G_92:Aa P w K mg base 1 t.f_92 ["one"] (FU)):Aa P w K mg base 8 t.f_91 ["one"] (EW t.c_70):=by
 refine A5 T.d_91 Tb λvs H Q E h=>?_;obtain⟨r,g,lo,d4,m,lf,tf,mf,rfl,ok,fw,hok,hex⟩:=h;refine⟨rfl,λd9 A outer s hr=>?_⟩
 refine⟨_,(AC (AY 1 Tb (Ae hr G_85 T.m_85 (AA (pv 0) AB)))
  (AC (Aw (AZ CP (Ae hr G_86 T.m_86 (AA (pv 1) AB)) AE (Ad _)) (AH (AW (AT G_76 (hr.mono (by decide)) rfl T.m_76 AK (AA (pv 1) (AA (AN (C6 K) (pv 1) AE (λ_ _=>rfl)) (AA (AL Bf (AN (C6 K) (pv 1) AE (λ_ _=>rfl)) AE) AB)))))) Af)
  (AC (Aw (AZ D7 (Ae hr G_92 T.m_92 (AA (pv 1) AB)) (CK rfl T.g_MOST_NODES) (Ad _)) (AH (As rfl T.x_70 rfl T.m_70 Ah (AA AI AB))) Af)
  (AH (AW (pv 1)))))),?_⟩
 have g2:=ok.g2;have g9:=ok.g9;refine BI λN hN=>?_;walk_at "";refine⟨r,g,lo,d4,m,rfl,ok,λlow M hW r1 H1 e1 ok1=>hN _ _ ?_⟩;clear hN N;walk_at "";refine⟨r1,g,low,_,M,rfl,g2,g9,ok1.v,ok1.len,rfl,?_⟩;obtain⟨low',M',hW',elf,hc⟩:=id fw;obtain⟨rfl,rfl⟩:=Fi g2 ok.len hW hW';subst elf;refine BJ.el ok1.v λtb h1 h2=>?_;rcases hc with⟨rfl,rfl,rfl⟩|⟨hM,rfl,rfl⟩
 ·rw[qD (show V.int ((1:Nat):Int)=V.int 1 from rfl)];have g1:g^(2-1)=g:=by show g^(0+1)=g;rw[bX,cG,Int.one_mul]
  have e2:(lf+1-lf+1).toNat=2:=by lia
  refine (D1 (Ar.of h1) rfl (D1 (Ar.of h1) rfl ⟨lf,rfl,?_⟩));refine⟨r1,g,lf,_,1,lf,lf+1,rfl,ok1,λho=>?_,λ_ hw=>?_,λ_ _ r2 H2 f2 ok2=>?_⟩
  ·exfalso;rcases ho with z|⟨z,hz,y⟩
   ·lia
   ·unfold BX at hz;obtain⟨j,hj,rfl⟩:=bL.mp hz;have:=bQ.mp (bR.mp hj).1;lia
  ·exfalso;rw[e2]at hw;have:g^2<=9*9:=by rw[show (2:Nat)=(2-1)+1 from rfl,bX,g1];exact dD g9 g9 (by lia) (by lia)
   lia
  ·rw[e2]at ok2;exact hok (by lia) r2 H2 (e1.trans f2) ok2
 ·rw[qC (λz=>by have:=V.int.inj z;lia)];refine⟨r1,g,lf,_,mf,rfl,ok1,_,rfl,?_⟩;rw[(Dd g2 ok1.len ok1.m1).1]
  by_cases h9:9<g^(mf-1)
  ·rw[qD h9];exact⟨by decide,hex h9 _ e1⟩
  ·rw[qC h9];exact hok (by lia) r1 H1 e1 ok1
theorem Nm:AM ["nexts","ahead","here","come"] ["nexts"] (AG Ux):=BM
theorem X3(T:Ay w K mg t) :Aa P w K mg base 1 t.f_22 ["nexts"] (KG P w K):=by
 refine Az T.d_22 Nm λvs H Q E h=>?_;obtain⟨d,u,ls,A0,F,rfl,dr,gr,nd,cl,lA,lF,q⟩:=h;refine⟨rfl,λd9 A outer s hr=>?_⟩
 refine⟨_,(AC (G4 (i:=1) Nm.nd rfl (Or.inl rfl) (Hq (P:=P) (w:=w) (K:=K) rfl rfl rfl))
  (AC (BR PassesOwn.never rfl (GH (P:=P) (w:=w) (K:=K) rfl rfl rfl (pv 0)) (Bc 2 Nm) (AC (A7 (QX (P:=P) (w:=w) (K:=K) rfl rfl rfl cU PySem.F.type_dict_setdefault (GY (P:=P) (w:=w) (K:=K) rfl rfl rfl (DV hr)) (pv 1) (AA (pv 2) (AA (Aq AB) AB))))
  (AH (BR PassesOwn.never rfl (Nd K (Fj (P:=P) (w:=w) (K:=K) rfl rfl rfl (DV hr) (pv 0) (pv 2) (λ_ _=>rfl))) (Bc 3 Nm) (AH (A7 (Ug K (QX (P:=P) (w:=w) (K:=K) rfl rfl rfl cU PySem.F.type_dict_setdefault (GY (P:=P) (w:=w) (K:=K) rfl rfl rfl (DV hr)) (pv 1) (AA (pv 3) (AA (Aq AB) AB))) (AA (pv 2) AB))))))))
  (AH (AW (pv 1))))),?_⟩
 refine BI λN hN=>?_;walk_at "";intro d2 u2 hd2 dw;refine hN _ _ ?_;clear hN N;have e0:=AJ.new hd2 u2;generalize Ai H d2 u2=H0 at dw e0⊢;refine GI (λσ HX=>(∃x2 x3,σ=[some (.ref d),some (.ref d2),x2,x3])/\∃u' ls2 A2 B,AJ (Ai H d u') HX/\DR P w K HX d u' (Ao A0 (ls.map V.ref))/\(∀l∈ls2,H l=none)/\DW P w K HX d2 (Ao A2 (ls2.map V.ref))/\Di K HX ls2 A2 B/\NV A0 F A2 B) (λN hN=>?_) ?_
 ·refine⟨_,rfl,d,u,_,rfl,dr.same e0,λu' dr'=>?_⟩;have nd2:d≠d2:=λe=>by obtain⟨φ,h1,_⟩:=dr.isX;rw[e,hd2]at h1;cases h1
  have eF:=AJ.both e0 d u';have gF:=(dr.same e0).grl (gr.same e0) u'
  have aF:TU P w K H (Ai H0 d u') d2 [] (λ_=>[]):=by obtain⟨bs,h1,h3,h4⟩:=dw;have hb:bs=[]:=List.map_eq_nil_iff.mp h3;subst hb;exact⟨[],λl hl=>qE hl List.not_mem_nil,⟨[],by rw[AR (Ne.symm nd2)];exact h1,rfl,λp hp=>qE hp List.not_mem_nil⟩,⟨rfl,List.nodup_nil,λi a l z=>by simp at z⟩⟩
  generalize Ai H0 d u'=HF at dr' eF gF aF⊢;refine Oo (P:=P) (w:=w) (K:=K) (d:=d) (u:=u') (kvs:=Ao A0 (ls.map V.ref)) (λi σ HX=>(∃x2 x3,σ=[some (.ref d),some (.ref d2),x2,x3])/\AJ (Ai H d u') HX/\DR P w K HX d u' (Ao A0 (ls.map V.ref))/\Di K HX ls A0 F/\∃A2 B,TU P w K H HX d2 A2 B/\O5 A0 F i (λ_ _=>False) (i*70000) A2 B) ⟨⟨none,none,rfl⟩,eF,dr',gF,[],λ_=>[],aF,⟨List.nodup_nil,λp hp=>qE hp List.not_mem_nil,λp hp=>qE hp (by simp),λ_ _=>rfl,λp q=>by simp,λ_=>Nat.zero_le _⟩⟩ (λi σ HX _ z=>z.2.2.1) ?_ ?_
  ·rintro i b k v σ HX hk sb ⟨⟨x2,x3,rfl⟩,eX,dX,gX,A2,B,aX,tX⟩;obtain⟨a,l,ha,hl,rfl,rfl⟩:=KH hk;dsimp only[FE];have aA:a∈A0:=a8 ha;have lA2:∀{A2:List (qS)} {B:qS->List (qS)} {D:(qS)->(qS)->Prop} {n:Nat},O5 A0 F i D n A2 B->A2.length<=100:=λt=>bB (t.nd.length_le_of_subset t.sub) lA
   have Hn:∀{HX:Hp} {l:qM},AJ (Ai H d u') HX->HX l=none->H l=none:=λ{HX l} e z=>by have y:=e.free z;rw[AR λx=>by rw[x,AF]at y;cases y]at y;exact y
   have hd2':Ai H d u' d2=none:=by rw[AR (Ne.symm nd2)];exact hd2
   refine GI (λσ HY=>(∃x3,σ=[some (.ref d),some (.ref d2),some (.ref b),x3])/\AJ (Ai H d u') HY/\DR P w K HY d u' (Ao A0 (ls.map V.ref))/\Di K HY ls A0 F/\Ar K HY b (QZ a)/\∃A2 B,TU P w K H HY d2 A2 B/\O5 A0 F i (λ_ _=>False) (i*70000) A2 B/\a∈A2) (λN2 hN2=>?_) ?_
   ·obtain⟨ls2,ln,wX,g2⟩:=aX;obtain⟨v2,r2⟩:=wX.r;have lr:(Ao A2 (ls2.map V.ref)).length<=100:=by rw[Bx (by rw[aW];exact g2.n)];exact lA2 tX
    refine⟨_,rfl,⟨d2,v2,_,rfl,r2⟩,_,rfl,by decide,λl' hl'=>?_⟩;have f1:=AJ.new hl' (.lst []);have h0:=Hn eX hl';have nl:=g2.out hl';have lY:Ai HX l' (.lst []) l'=some (.lst []):=AF;have eY:=eX.trans f1;have dY:=dX.same f1;have gY:=gX.same f1;have wY:=wX.same f1;have g2Y:=g2.same f1;have sY:=Ar.same' f1 sb;generalize Ai HX l' (.lst [])=HY at lY eY dY gY wY g2Y sY⊢;refine⟨d2,b,_,BZ a,.ref l',rfl,rfl,wY,sY,Ap (by lia),λz hz=>hN2 _ _ ⟨⟨_,rfl⟩,eY,dY,gY,sY,A2,B,⟨ls2,ln,wY,g2Y⟩,tX,?_⟩,λhz u3 w3=>hN2 _ _ ?_⟩
    ·by_cases m:a∈A2
     ·exact m
     ·rw[Dg m]at hz;cases hz
    ·have m:a∉A2:=λm=>by
      obtain⟨j,hj⟩:=bT.mp m;have jl:=(ae.mp hj).1;rw[By tX.nd hj (v:=.ref (ls2[j]'(by rw[g2.n];exact jl))) (by rw[ay,ao (by rw[g2.n];exact jl)];rfl)]at hz;cases hz
     exact⟨⟨_,rfl⟩,eY.into hd2',dY.updX wY nd2 u3,wY.grl gY u3,(by obtain⟨_,h1,_⟩:=wY;exact sY.upd' h1),A2++[a],B,TU.put ln wY g2Y lY nl h0 m (tX.no a m) w3,tX.key m aA,ar.mpr (.inr (ak.mpr rfl))⟩
   clear tX aX eX dX gX sb;rintro _ hGo σ HY ⟨⟨x3,rfl⟩,eX,dX,gX,sb,A2,B,aX,tX,mA⟩;refine hGo _ _ ?_;obtain⟨ps,hps,pp⟩:=gX.e i a l ha hl;have pn:=Paired.length pp;have fa:=lF a aA;have i100:i<=100:=by have:=(ae.mp ha).1;lia
   have nls:∀{x:qM},H x=none->x∉ls:=λhx=>gr.out hx
   refine⟨_,rfl,_,rfl,d,b,u',_,BZ a,.ref l,rfl,rfl,dX,sb,By nd ha (by rw[ay,hl];rfl),l,rfl,⟨_,Ag.of hps⟩,?_⟩;refine CO (xs:=ps.map V.ref) (λj σ HZ=>(∃x3,σ=[some (.ref d),some (.ref d2),some (.ref b),x3])/\AJ (Ai H d u') HZ/\HZ l=some (.lst (ps.map V.ref))/\Ca K HZ ps (F a)/\DR P w K HZ d u' (Ao A0 (ls.map V.ref))/\Di K HZ ls A0 F/\Ar K HZ b (QZ a)/\∃A2 B,TU P w K H HZ d2 A2 B/\O5 A0 F i (λp q=>q=a/\p∈(F a).take j) (i*70000+j) A2 B/\a∈A2) ⟨⟨_,rfl⟩,eX,hps,pp,dX,gX,sb,A2,B,aX,⟨tX.nd,tX.sub,tX.got,tX.no,λp q=>by rw[tX.on];simp,λp=>Nat.le_trans (tX.len p) (Nat.le_add_right ..)⟩,mA⟩ (λj σ HZ _ z=>Ag.of z.2.2.1) ?_ ?_
   ·clear tX aX eX dX gX sb mA hps pp;rintro j x σ HZ hx ⟨⟨x3,rfl⟩,eX,hps,pp,dX,gX,sb,A2,B,⟨ls2,ln,wX,g2⟩,tX,mA⟩;obtain⟨c,hci,rfl⟩:∃c,ps[j]?=some c/\x=V.ref c:=by rw[ay]at hx;obtain⟨c,h1,h2⟩:=bH.mp hx;exact⟨c,h1,h2.symm⟩
    obtain⟨p0,hp0,sc⟩:=BS pp hci;have p0A:p0∈A0:=cl a aA p0 (a8 hp0);have j7:j<70000:=by have:=(ae.mp hp0).1;lia
    have i7:=Nat.mul_le_mul_right 70000 i100;obtain⟨v2,r2⟩:=wX.r
    have lr:(Ao A2 (ls2.map V.ref)).length<=100:=by rw[Bx (by rw[aW];exact g2.n)];exact lA2 tX
    have app:∀(HQ:Hp) (A2:List (qS)) (ls2:List qM) (j2:Nat) (l2:qM),AJ (Ai H d u') HQ->HQ l=some (.lst (ps.map V.ref))->Ca K HQ ps (F a)->DR P w K HQ d u' (Ao A0 (ls.map V.ref))->Di K HQ ls A0 F->Ar K HQ b (QZ a)->(∀l∈ls2,H l=none)->DW P w K HQ d2 (Ao A2 (ls2.map V.ref))->Di K HQ ls2 A2 B->O5 A0 F i (λp q=>q=a/\p∈(F a).take j) (i*70000+j) A2 B->a∈A2->A2[j2]?=some p0->ls2[j2]?=some l2 ->
      ∃qs:List qM,HQ l2=some (.lst (qs.map V.ref))/\(qs.map V.ref).length<sizeLine/\∃HW,HW=Ai HQ l2 (.lst (qs.map V.ref++[V.ref b]))/\AJ (Ai H d u') HW/\HW l=some (.lst (ps.map V.ref))/\Ca K HW ps (F a)/\DR P w K HW d u' (Ao A0 (ls.map V.ref))/\Di K HW ls A0 F/\Ar K HW b (QZ a)/\∃A2 B,TU P w K H HW d2 A2 B/\O5 A0 F i (λp q=>q=a/\p∈(F a).take (j+1)) (i*70000+(j+1)) A2 B/\a∈A2:=by
     intro HQ A2 ls2 j2 l2 e h1 h2 h3 h4 h5 ln w2 g2 t m hj2 hl2;obtain⟨qs,hq,hqp⟩:=g2.e j2 p0 l2 hj2 hl2;have ml:=a8 hl2;have h0:=ln l2 ml;have nl:=nls h0;have ne:l≠l2:=λz=>nl (by rw[<-z];exact a8 hl)
     have lq:=Paired.length hqp;have lb:=t.len p0;have tp:=t.push hp0 (a8 hj2);rw[Nat.add_assoc]at tp;refine⟨qs,hq,by rw[aW,sizeLine_eq];lia,_,rfl,?_⟩;rw[show qs.map V.ref++[V.ref b]=(qs++[b]).map V.ref by rw[az];rfl];refine⟨e.into (by rw[AR λz=>by obtain⟨φ,y,_⟩:=dr.isX;rw[<-z,h0]at y;cases y];exact h0),by rw[AR ne];exact h1,Ca.upd hq h2,h3.updL hq _,h4.keep hq nl _,Ar.updL hq h5,A2,_,⟨ls2,ln,w2.updL hq _,g2.push t.nd hj2 hl2 hq hqp h5 λ_=>rfl⟩,tp,m⟩
    refine⟨_,rfl,⟨d2,v2,_,rfl,r2⟩,_,rfl,by decide,λl' hl'=>?_⟩;have f1:=AJ.new hl' (.lst []);have h0:=Hn eX hl';have nl:=g2.out hl';have lY:Ai HZ l' (.lst []) l'=some (.lst []):=AF;have eY:=eX.trans f1;have dY:=dX.same f1;have gY:=gX.same f1;have wY:=wX.same f1;have g2Y:=g2.same f1;have sY:=Ar.same' f1 sb;have cY:=Ar.same' f1 sc;have hY:=f1 _ _ hps;have pY:=Ca.same f1 pp;generalize Ai HZ l' (.lst [])=HY at lY eY dY gY wY g2Y sY cY hY pY⊢;refine⟨d2,c,_,BZ p0,.ref l',rfl,rfl,wY,cY,Ap (by lia),λz hz=>?_,λhz u3 w3=>?_⟩
    ·have m:p0∈A2:=by
      by_cases m:p0∈A2
      ·exact m
      ·rw[Dg m]at hz;cases hz
     obtain⟨j2,hj2⟩:=bT.mp m;have jl:=(ae.mp hj2).1;obtain⟨l2,hl2⟩:∃l2,ls2[j2]?=some l2:=⟨ls2[j2]'(by rw[g2.n];exact jl),ao _⟩;rw[By tX.nd hj2 (v:=.ref l2) (by rw[ay,hl2];rfl)]at hz;cases hz;obtain⟨qs,h1,h2,HW,hW,h3⟩:=app HY A2 ls2 j2 l2 eY hY pY dY gY sY ln wY g2Y tX mA hj2 hl2;refine⟨.inl ⟨rfl,_,Ag.of h1⟩,_,rfl,l2,_,_,rfl,rfl,h1,h2,?_⟩;rw[<-hW];exact⟨⟨_,rfl⟩,h3⟩
    ·have m:p0∉A2:=λm=>by
      obtain⟨j2,hj2⟩:=bT.mp m;have jl:=(ae.mp hj2).1;rw[By tX.nd hj2 (v:=.ref (ls2[j2]'(by rw[g2.n];exact jl))) (by rw[ay,ao (by rw[g2.n];exact jl)];rfl)]at hz;cases hz
     obtain⟨ln3,w3',g3⟩:=Qf ln wY g2Y lY nl h0 m (tX.no p0 m) w3;have hj2:(A2++[p0])[A2.length]?=some p0:=by rw[bp (af _),Nat.sub_self];rfl
     have hl2:(ls2++[l'])[A2.length]?=some l':=by rw[<-g2.n,bp (af _),Nat.sub_self];rfl
     have wx:∃φ,HY d2=some (.ext φ):=by obtain⟨_,y,_⟩:=wY;exact⟨_,y⟩
     obtain⟨φ,hφ⟩:=wx;obtain⟨qs,h1,h2,HW,hW,h3⟩:=app (Ai HY d2 u3) (A2++[p0]) (ls2++[l']) A2.length l' (eY.into hd2') (wY.lst hY u3) (wY.prv pY u3) (dY.updX wY nd2 u3) (wY.grl gY u3) (sY.upd' hφ) ln3 w3' g3 (tX.key m p0A) (ar.mpr (.inl mA)) hj2 hl2;refine⟨.inl ⟨rfl,_,Ag.of h1⟩,_,rfl,l',_,_,rfl,rfl,h1,h2,?_⟩;rw[<-hW];exact⟨⟨_,rfl⟩,h3⟩
   ·rintro σ HZ ⟨⟨x3,rfl⟩,eX,hps,pp,dX,gX,sb,A2,B,aX,tX,mA⟩;rw[aW,pn]at tX;refine⟨⟨_,_,rfl⟩,eX,dX,gX,A2,B,aX,tX.nd,tX.sub,λp hp=>?_,tX.no,λp q=>?_,λp=>bB (tX.len p) (by lia)⟩
    ·rw[bV,ha]at hp;rcases ar.mp hp with z|z
     ·exact tX.got p z
     ·rw[ak.mp z];exact mA
    ·rw[tX.on,bN,bV,ha,show (some a).toList=[a] from rfl,ar,ak,or_false];constructor
     ·rintro (⟨h1,h2⟩|⟨h1,h2⟩)
      ·exact⟨.inl h1,h2⟩
      ·exact⟨.inr h1,by rw[h1];exact h2⟩
     ·rintro⟨h1|h1,h2⟩
      ·exact .inl ⟨h1,h2⟩
      ·exact .inr ⟨h1,by rw[h1]at h2;exact h2⟩
  ·rintro σ HX ⟨⟨x2,x3,rfl⟩,eX,dX,gX,A2,B,⟨ls2,ln,wX,gX2⟩,tX⟩;rw[Bx (by rw[aW];exact gX.n)]at tX;exact hN _ _ ⟨⟨_,_,rfl⟩,u',ls2,A2,B,eX,dX,ln,wX,gX2,⟨tX.nd,λp=>⟨tX.sub p,λh=>tX.got p (by rw[List.take_length];exact h)⟩,λp q=>by rw[tX.on,List.take_length];simp,λp=>Nat.le_trans (tX.len p) (Nat.mul_le_mul_right 70000 lA)⟩⟩
 rintro _ hGo σ HX ⟨⟨x2,x3,rfl⟩,u',ls2,A2,B,eX,dX,ln,wX,gX,tX⟩;refine hGo _ _ ?_;walk_at "";exact q u' HX d2 ls2 A2 B eX dX hd2 ln wX gX tX
theorem IJ:AM ["ahead","most","free","steps","here"] ["ahead"] (AG Uy):=BM
theorem X4(T:Ay w K mg t) :Aa P w K mg base 1 t.f_29 ["ahead"] (MV P w K):=by
 refine Az T.d_29 IJ λvs H Q E h=>?_;obtain⟨d,u,ls,A0,B,rfl,dr,gr,nd,cl,lA,lB,q⟩:=h;refine⟨rfl,λd9 A outer s hr=>?_⟩
 refine⟨_,(AC (G4 (i:=1) IJ.nd rfl (Or.inr rfl) (Hq (P:=P) (w:=w) (K:=K) rfl rfl rfl))
  (AC (M4 (iy:=2) (fv:=[(0,"ahead")]) (cl:=[("ahead",_)]) rfl IJ.nd rfl (Or.inl rfl) (GH (P:=P) (w:=w) (K:=K) rfl rfl rfl (pv 0)) (by with_unfolding_all rfl) (by with_unfolding_all rfl) (by decide +kernel) rfl (by decide +kernel) rfl ⟨(by with_unfolding_all rfl),trivial⟩ (by with_unfolding_all rfl) ⟨⟨rfl,rfl,(by with_unfolding_all rfl),rfl⟩,trivial⟩ (by decide) (λ_ _ _ _=>(Jm (AZ CP (Aj (MF (K:=K) rfl) rfl T.z_len bC (AA (by exact Fj (P:=P) (w:=w) (K:=K) rfl rfl rfl (DV hr) (pv 1) (pv 0) (λ_ _=>rfl)) AB)) AE (Ad _)))) (λ_ _ _ _=>(pv 0)))
  (AC (AY 3 IJ AE)
  (AC (FG PassesOwn.never (AZ D7 (Aj (JK K) rfl T.z_len bC (AA (pv 2) AB)) AE (Ad _)) (AC (BR PassesOwn.never rfl (Nd K (pv 2)) (Bc 4 IJ) (AH (LH (P:=P) (w:=w) (K:=K) rfl rfl rfl (DV hr) (pv 1) (pv 4) (pv 3) rfl)))
  (AC (AY 3 IJ (AL Bf (pv 3) AE))
  (AH (M4 (iy:=2) (fv:=[(1,"most"),(0,"ahead")]) (cl:=[("most",_),("ahead",_)]) rfl IJ.nd rfl (Or.inl rfl) (GH (P:=P) (w:=w) (K:=K) rfl rfl rfl (pv 0)) (by with_unfolding_all rfl) (by with_unfolding_all rfl) (by decide +kernel) rfl (by decide +kernel) rfl ⟨(by with_unfolding_all rfl),⟨(by with_unfolding_all rfl),trivial⟩⟩ (by with_unfolding_all rfl) ⟨⟨rfl,rfl,(by with_unfolding_all rfl),rfl⟩,⟨⟨rfl,rfl,(by with_unfolding_all rfl),rfl⟩,trivial⟩⟩ (by decide) (λ_ _ _ _=>(Jm (PW.pt (Ld (Lc (MR (P:=P) (w:=w) (K:=K) rfl rfl rfl (DV hr) (pv 0) (pv 1))) (JQ (Bq (Aj (MW (K:=K) rfl rfl) rfl T.z_all dF (AA (C3 [(1,"most")] [("most",_)] (Qg (K:=K) rfl (by exact Fj (P:=P) (w:=w) (K:=K) rfl rfl rfl (DV hr) (pv 2) (pv 0) (λ_ _=>rfl))) (λ_ _ _ _=>B8) (λ_ _ _ _=>(Tx (SO (P:=P) (w:=w) (K:=K) rfl rfl rfl (DV hr) (pv 0) (pv 1))))) AB)))))))) (λ_ _ _ _=>(pv 0)))))))
  (AH (AW (pv 1))))))),?_⟩
 refine BI λN hN=>?_;walk_at "";intro d2 u2 hd2 dw;refine hN _ _ ?_;clear hN N
 have nd2:d≠d2:=λe=>by obtain⟨φ,h1,_⟩:=dr.isX;rw[e,hd2]at h1;cases h1
 have e0:=AJ.new hd2 u2;generalize Ai H d2 u2=H0 at dw e0⊢
 have Hn:∀{HX:Hp} {l:qM} {u':HO},AJ (Ai H d u') HX->HX l=none->H l=none:=λ{HX l u'} e z=>by have y:=e.free z;rw[AR λx=>by rw[x,AF]at y;cases y]at y;exact y
 refine GI (λσ HX=>∃D,σ=[some (.ref d),some (.ref d2),some (.ref D),none,none]/\ZP P w K H d d2 ls A0 B D [] (λ_=>0) (A0.filter λp=>decide (B p=[])) HX) (λN hN=>?_) ?_
 ·refine⟨_,rfl,d,u,_,rfl,dr.same e0,λu' dr' D hD=>?_⟩;have eF:=AJ.both e0 d u';have gF:=(dr.same e0).grl (gr.same e0) u';have wF:DW P w K (Ai H0 d u') d2 (Ao [] []):=by obtain⟨bs,h1,h3,h4⟩:=dw;have hb:bs=[]:=List.map_eq_nil_iff.mp h3;subst hb;exact⟨[],by rw[AR (Ne.symm nd2)];exact h1,rfl,λp hp=>qE hp ax⟩
  generalize Ai H0 d u'=HF at dr' eF gF wF hD⊢;refine Ho (P:=P) (w:=w) (K:=K) (λi d8 Hx=>∃ps:List qM,d8=ps.map V.ref/\ps.length<=i/\AJ HF Hx/\Hx D=some (.lst d8)/\Ca K Hx ps ((A0.take i).filter λp=>decide (B p=[]))) ⟨[],rfl,af _,AJ.new hD _,AF,.nil⟩ (λi d8 Hx _ z=>by obtain⟨_,_,_,e,_⟩:=z;exact dr'.same e) ?_ ?_
  ·rintro i b k v d8 Hx hk sb ⟨ps,rfl,lp,ex,hDx,hp⟩;obtain⟨a,l,ha,hl,rfl,rfl⟩:=KH hk;have i100:i<=100:=by have:=(ae.mp ha).1;lia
   obtain⟨qs,hq,pq⟩:=(gF.same ex).e i a l ha hl;have lq:=Paired.length pq;refine⟨_,rfl,_,rfl,d,b,u',_,BZ a,.ref l,rfl,rfl,dr'.same ex,sb,By nd ha (by rw[ay,hl];rfl),l,_,rfl,.inl (Ag.of hq),rfl,_,rfl,?_⟩;dsimp only;rw[JH ha,aW,lq]
   by_cases z:B a=[]
   ·rw[qD (by rw[z];rfl),qD (qF z)];refine⟨_,rfl,hDx,by rw[aW];exact Ap (by lia),ps++[b],by rw[az];rfl,by rw[ac,bi];lia,ex.into hD,AF,?_⟩;exact Paired.app (Ca.upd hDx hp) (.cons (Ar.updL hDx sb) .nil)
   ·have nz:(B a).length≠0:=λy=>z (List.length_eq_zero_iff.mp y)
    rw[qC (λy=>nz (by have:=qI y;injection this with this;lia)),qC (λy=>z (qI y)),bO];exact⟨ps,rfl,by lia,ex,hDx,hp⟩
  ·rintro d8 H2 ⟨ps,rfl,lp,ex,hDx,hp⟩;rw[Bx (by rw[aW];exact gF.n),bN]at hp;exact hN _ _ ⟨D,rfl,u',ps,eF.trans ex,dr'.same ex,gF.same ex,Hn eF hD,hDx,hp,wF.same ex⟩
 rintro _ hGo σ HX ⟨D,rfl,mv⟩;refine hGo _ _ ?_;refine BI λN hN=>?_;refine hN _ _ ?_;clear hN N dw e0;refine GI (λσ HX=>∃D M f n x4,σ=[some (.ref d),some (.ref d2),some (.ref D),some (.int (n:Nat)),x4]/\ZP P w K H d d2 ls A0 B D M f [] HX/\Qh A0 B M f [] n) (λN hN=>?_) ?_
 ·refine⟨λm σ HX=>∃D M f FL n x4,m=101-n/\σ=[some (.ref d),some (.ref d2),some (.ref D),some (.int (n:Nat)),x4]/\ZP P w K H d d2 ls A0 B D M f FL HX/\Qh A0 B M f FL n,⟨_,D,[],_,_,0,none,rfl,rfl,mv,Qi nd _⟩,?_⟩;clear mv HX D;rintro m σ HX ⟨D,M,f,FL,n,x4,rfl,rfl,⟨u',ps,eX,dX,gX,hD0,hD,pX,wX⟩,mp⟩;have lp:=Paired.length pX;refine⟨_,rfl,D,_,rfl,.inl (Ag.of hD),_,_,rfl,rfl,_,rfl,?_⟩;dsimp only;rw[aW,lp];have few:=mp.few;have nle:=mp.le
  by_cases z:FL=[]
  ·subst z;rw[qC (λy=>qE (qI y) (by decide))];exact hN _ _ ⟨D,M,f,n,x4,rfl,⟨u',ps,eX,dX,gX,hD0,hD,pX,wX⟩,mp⟩
  have fl:0<FL.length:=List.length_pos_iff.mpr z;rw[qD (qF (by lia))];refine⟨λσ HX=>∃D M' f' FL' x4,σ=[some (.ref d),some (.ref d2),some (.ref D),some (.int ((n+1:Nat):Int)),x4]/\ZP P w K H d d2 ls A0 B D M' f' FL' HX/\Qh A0 B M' f' FL' (n+1),by rintro σ' H' ⟨D,M',f',FL',x4,h1,h2,h3⟩;exact⟨101-(n+1),by lia,D,M',f',FL',n+1,x4,rfl,h1,h2,h3⟩,?_⟩;have hd2':∀u',Ai H d u' d2=none:=λu'=>by rw[AR (Ne.symm nd2)];exact hd2
  refine aN (λσ HZ=>(∃x4,σ=[some (.ref d),some (.ref d2),some (.ref D),some (.int (n:Nat)),x4])/\AJ (Ai H d u') HZ/\DR P w K HZ d u' (Ao A0 (ls.map V.ref))/\Di K HZ ls A0 B/\DW P w K HZ d2 (Ao (M++FL) ((M++FL).map λp=>V.int (Uc M f n p:Int)))) (λN hN=>?_) ?_
  ·refine⟨_,rfl,D,rfl,⟨_,Ag.of hD⟩,?_⟩;refine CO (xs:=ps.map V.ref) (λj σ HZ=>(∃x4,σ=[some (.ref d),some (.ref d2),some (.ref D),some (.int (n:Nat)),x4])/\AJ (Ai H d u') HZ/\DR P w K HZ d u' (Ao A0 (ls.map V.ref))/\Di K HZ ls A0 B/\HZ D=some (.lst (ps.map V.ref))/\Ca K HZ ps FL/\DW P w K HZ d2 (Ao (M++FL.take j) ((M++FL.take j).map λp=>V.int (Uc M f n p:Int)))) ⟨⟨_,rfl⟩,eX,dX,gX,hD,pX,?_⟩ (λj σ HZ _ z=>Ag.of z.2.2.2.2.1) ?_ ?_
   ·rw[List.take_zero,bO,cB (g:=λp=>V.int (f p:Int)) λp hp=>by rw[Ds hp]];exact wX
   ·rintro j x σ HZ hx ⟨⟨x4,rfl⟩,eZ,dZ,gZ,hDZ,pZ,wZ⟩;obtain⟨c,hci,rfl⟩:∃c,ps[j]?=some c/\x=V.ref c:=by rw[ay]at hx;obtain⟨c,h1,h2⟩:=bH.mp hx;exact⟨c,h1,h2.symm⟩
    obtain⟨p0,hp0,sc⟩:=BS pZ hci;have pn:p0∉M:=((mp.on p0).mp (a8 hp0)).2.1;have nin:p0∉M++FL.take j:=λy=>(ar.mp y).elim pn (Fn mp.ndF hp0)
    have lr:(Ao (M++FL.take j) ((M++FL.take j).map λp=>V.int (Uc M f n p:Int))).length<=100:=by rw[Bx (by rw[aW]),ac,bJ];lia
    refine⟨_,rfl,_,rfl,_,rfl,d2,c,_,BZ p0,rfl,rfl,wZ,sc,Ap (by lia),λu3 w3=>⟨⟨_,rfl⟩,eZ.into (hd2' u'),dZ.updX wZ nd2 u3,wZ.grl gZ u3,wZ.lst hDZ u3,wZ.prv pZ u3,?_⟩⟩;rw[Hs (by rw[aW]) nin]at w3;rw[bV,hp0,show (some p0).toList=[p0] from rfl,<-cX,az (l₂:=[p0]),List.map_singleton,Fo pn];exact w3
   ·rintro σ HZ ⟨⟨x4,rfl⟩,eZ,dZ,gZ,hDZ,pZ,wZ⟩;rw[aW,lp,bN]at wZ;exact hN _ _ ⟨⟨_,rfl⟩,eZ,dZ,gZ,wZ⟩
  clear eX dX gX hD pX wX;have mq:=mp.step nd z;have lM2:(M++FL).length<=100:=by rw[ac];lia
  obtain⟨M2,hM2⟩:∃M2,M2=M++FL:=⟨_,rfl⟩;rw[<-hM2]at mq lM2⊢;generalize Uc M f n=f2 at mq⊢;rintro σ HZ ⟨⟨y4,rfl⟩,eZ,dZ,gZ,wZ⟩;refine BI λN hN=>⟨_,rfl,_,_,rfl,rfl,hN _ _ ?_⟩
  clear hN N;refine⟨_,rfl,d,u',_,rfl,dZ,λu2 dr2 D2 hD2=>?_⟩;have eG:=AJ.both eZ d u2;rw[DE]at eG;have gG:=dZ.grl gZ u2
  have wG:DW P w K (Ai HZ d u2) d2 (Ao M2 (M2.map λp=>V.int (f2 p:Int))):=by obtain⟨bs,h1,h3,h4⟩:=wZ;exact⟨bs,by rw[AR (Ne.symm nd2)];exact h1,h3,λp hp=>dZ.sqt (h4 p hp) u2⟩
  generalize Ai HZ d u2=HG at dr2 eG gG wG hD2⊢;refine Ho (P:=P) (w:=w) (K:=K) (λi d8 Hx=>∃ps2:List qM,d8=ps2.map V.ref/\ps2.length<=i/\AJ HG Hx/\Hx D2=some (.lst d8)/\Ca K Hx ps2 ((A0.take i).filter λp=>decide (p∉M2)&&decide (∀q∈B p,q∈M2))) ⟨[],rfl,af _,AJ.new hD2 _,AF,.nil⟩ (λi d8 Hx _ z=>by obtain⟨_,_,_,e,_⟩:=z;exact dr2.same e) ?_ ?_
  ·rintro i b k v d8 Hx hk sb ⟨ps2,rfl,l2,ex,hDx,hp⟩;obtain⟨a,l,ha,hl,rfl,rfl⟩:=KH hk;have i100:i<=100:=by have:=(ae.mp ha).1;lia
   obtain⟨qs,hq,pq⟩:=(gG.same ex).e i a l ha hl;have lq:=Paired.length pq;have la:=lB a (a8 ha);obtain⟨u5,r5⟩:=(wG.same ex).r;refine⟨_,rfl,_,rfl,d2,b,u5,_,BZ a,rfl,rfl,r5,sb,_,rfl,?_⟩;dsimp only;rw[Hv,JH ha]
   by_cases m:a∈M2
   ·rw[qF m,Bool.not_true];refine UI (UI ?_);rw[qC (by rw[qG (λy=>y m)];exact ap),bO];exact⟨ps2,rfl,by lia,ex,hDx,hp⟩
   rw[qG m,Bool.not_false];refine Zg ?_;refine⟨_,rfl,_,rfl,d,b,u2,_,BZ a,.ref l,rfl,rfl,dr2.same ex,sb,By nd ha (by rw[ay,hl];rfl),l,rfl,⟨_,Ag.of hq⟩,λD3 hD3=>?_⟩;refine F5 (xs:=qs.map V.ref) (λj d8 Hy=>d8=((B a).take j).map (λp=>V.bl (decide (p∈M2)))/\AJ Hx Hy/\Hy D3=some (.lst d8)) ⟨rfl,AJ.new hD3 _,AF⟩ (λj d8 Hy _ z=>Ag.of (z.2.1 _ _ hq)) ?_ ?_
   ·refine Mb ?_;rintro j x _ hGo d8 Hy hx ⟨rfl,ey,h3⟩;refine hGo _ _ ?_;obtain⟨c,hci,rfl⟩:∃c,qs[j]?=some c/\x=V.ref c:=by rw[ay]at hx;obtain⟨c,h1,h2⟩:=bH.mp hx;exact⟨c,h1,h2.symm⟩
    obtain⟨p0,hp0,sc⟩:=BS pq hci;dsimp only[Pz];rw[qD rfl];refine⟨_,rfl,_,rfl,d2,c,u5,_,BZ p0,rfl,rfl,r5.same ey,Ar.same' ey sc,h3,?_,?_,ey.into hD3,AF⟩
    ·rw[aW,bJ,sizeLine_eq];lia
    ·rw[Hv,bV,hp0,az];rfl
   ·rintro d8 Hy ⟨rfl,ey,h3⟩;rw[aW,lq,bN]at h3;refine⟨D3,(B a).map λp=>decide (p∈M2),rfl,Ag.of (by rw[h3,dU];rfl),_,rfl,?_⟩;dsimp only;have ev:(((B a).map λp=>decide (p∈M2)).all id=true)↔∀q∈B a,q∈M2:=by simp
    by_cases all:∀q∈B a,q∈M2
    ·rw[qD (ev.mpr all),qD (by rw[qF m,qF all];rfl)];have hD':=ey _ _ hDx;refine⟨_,rfl,hD',by rw[aW];exact Ap (by lia),ps2++[b],by rw[az];rfl,by rw[ac,bi];lia,(ex.trans ey).into hD2,AF,?_⟩;exact Paired.app (Ca.upd hD' (Ca.same ey hp)) (.cons (Ar.updL hD' (Ar.same' ey sb)) .nil)
    ·rw[qC (λy=>all (ev.mp y)),qC (by rw[qG all,dC];exact ap),bO];exact⟨ps2,rfl,by lia,ex.trans ey,ey _ _ hDx,Ca.same ey hp⟩
  ·rintro d8 H2 ⟨ps2,rfl,l2,ex,hDx,hp⟩;rw[Bx (by rw[aW];exact gG.n),bN]at hp;exact⟨D2,M2,f2,_,_,rfl,⟨u2,ps2,eG.trans ex,dr2.same ex,gG.same ex,Hn eG hD2,hDx,hp,wG.same ex⟩,mq⟩
 rintro _ hGo σ HX ⟨D,M,f,n,x4,rfl,⟨u',ps,eX,dX,gX,hD0,hD,pX,wX⟩,mp⟩;refine hGo _ _ ?_;walk_at "";exact q u' HX d2 M f eX dX hd2 wX mp.done
theorem X5:AM ["node","other"] ["node","other"] (AG Uz):=BM
theorem X6(T:Ay w K mg t) :Aa P w K mg base 1 t.f_72 ["node","other"] (Fk K):=by
 refine Az T.d_72 X5 λvs H Q E h=>?_;obtain⟨a,b,rfl,q⟩:=h;refine⟨rfl,λd9 A outer s hr=>?_⟩
 refine⟨_,(AC (Aw (AZ CP (pv 0) (pv 1) (Ad _)) (AH (AW (Ct rfl T.m_EVEN))) Af)
  (AH (AW (Dj (AA (pv 0) (AA (pv 1) AB)))))),?_⟩
 walk_at ""
 by_cases e:a=b
 ·rw[qD (by rw[e])];refine q _ H (AJ.refl _) ?_;subst e;rw[QY];exact NR T.q_EVEN H
 ·rw[qC (by lia)];refine⟨by decide,λp hp=>q p _ (AJ.new hp _) (Ar.of ?_)⟩;unfold LI;rw[qC e];exact AF
theorem RA:AM ["framed","pairs","node"] ["framed"] (AG U0):=BM
theorem X7(T:Ay w K mg t)(G_92:Aa P w K mg base 1 t.f_92 ["one"] (FU)):Aa P w K mg base 2 t.f_38 ["framed"] (KC K):=by
 refine Az T.d_38 RA λvs H Q E h=>?_;obtain⟨r,g,lo,d4,m,rfl,ok,sm,q⟩:=h;refine⟨rfl,λd9 A outer s hr=>?_⟩
 refine⟨_,(AC (AY 1 RA (Aq (AA (Ct rfl T.m_EVEN) AB)))
  (AC (BR PassesOwn.never rfl (BN rfl T.z_range (AA (Ae hr G_92 T.m_92 (AA (pv 0) AB)) AB)) (Bc 2 RA) (AH (A7 (DU cy PySem.F.slot_list_extend PySem.F.type_list_extend Im (pv 1) (AA (C3 [(2,"node")] [("node",_)] (BN rfl T.z_range (AA (Ae hr G_92 T.m_92 (AA (pv 0) AB)) AB)) (λ_ _ _ _=>(Jm (AZ Dy (pv 0) (pv 1) (Ad _)))) (λ_ _ _ _=>(Dj (AA (pv 1) (AA (pv 0) AB))))) AB)))))
  (AH (AW (pv 1))))),?_⟩
 have hd:=Dd ok.g2 ok.len ok.m1;have gp:=RW.BF ok.g2 (m-1);obtain⟨h,hh⟩:∃h:Nat,h=d4.length/g.toNat:=⟨_,rfl⟩;rw[<-hh]at q hd;have h9:h<=9:=by lia
 refine BI λN hN=>?_;walk_at "";refine⟨by decide,λD hD=>hN _ _ ?_⟩;clear hN N;refine GI (λσ HX=>(∃x2,σ=[some (.ref r),some (.ref D),x2])/\AJ H HX/\∃ps:List qM,HX D=some (.lst (ps.map V.ref))/\Ca K HX ps (Bo h)) (λN hN=>?_) ?_
 ·have e0:=AJ.new hD (.lst [V.ref t.k_EVEN]);refine⟨_,rfl,r,g,lo,d4,m,rfl,ok.same e0,?_⟩;rw[<-hh];refine⟨_,rfl,by lia,by lia,?_⟩;rw[bI];refine Bm (n:=h) (λi σ HX=>(∃x2,σ=[some (.ref r),some (.ref D),x2])/\AJ H HX/\∃ps:List qM,HX D=some (.lst (ps.map V.ref))/\Ca K HX ps ((0,0)::(List.range i).flatMap (MT h))) ⟨⟨none,rfl⟩,e0,[t.k_EVEN],AF,.cons (NR T.q_EVEN _) .nil⟩ ?_ λσ HX z=>hN _ _ z
  refine Fs ?_;rintro _ _ i _ hGo σ HX hi ⟨⟨x2,rfl⟩,eX,ps,hX,hp⟩;refine hGo _ _ ?_;have lp:=Paired.length hp
  have ll:ps.length<=100:=by have a:=Fl h i;have b:=cj (show i<=9 by lia) h9;rw[lp,a9];lia
  have okX:=ok.same eX;refine⟨_,rfl,.inl ⟨rfl,_,Ag.of hX⟩,?_⟩;refine⟨_,rfl,r,g,lo,d4,m,rfl,okX,?_⟩;rw[<-hh];refine⟨_,rfl,by lia,by lia,λD2 hD2=>?_⟩;rw[bI];refine Dn (n:=h) (λj d8 Hx=>∃ps2:List qM,d8=ps2.map V.ref/\ps2.length<=j/\AJ HX Hx/\Hx D2=some (.lst d8)/\Ca K Hx ps2 (((List.range j).filter λo=>decide (o≠i)).map λo=>(i,o))) ⟨[],rfl,af _,AJ.new hD2 _,AF,.nil⟩ ?_ ?_
  ·refine KJ ?_;rintro j _ hGo d8 Hx hj ⟨ps2,rfl,l2,ex,h2,hp2⟩;refine hGo _ _ ?_;walk_at "";rw[bg,cI]
   by_cases e:j=i
   ·rw[qC (by lia),show ([j].filter λo=>decide (o≠i))=[] by subst e;simp,List.append_nil];exact⟨ps2,rfl,by lia,ex,h2,hp2⟩
   ·rw[qD (by lia),show ([j].filter λo=>decide (o≠i))=[j] by simp[e],List.map_append];refine⟨by decide,λp hp=>?_⟩;have f1:=AJ.new hp (.tup [V.int (0+(i:Int)),V.int (0+(j:Int))]);have hl:=f1 _ _ h2;refine⟨hl,by rw[aW];exact Ap (by lia),ps2++[p],by rw[az];rfl,by rw[ac,bi];lia,(ex.trans f1).into hD2,AF,Paired.app (Ca.upd hl (Ca.same f1 hp2)) (.cons (Ar.updL hl (Ar.of ?_)) .nil)⟩;rw[AF,bu,bu];rfl
  ·rintro d8 H2 ⟨ps2,rfl,l2,ex,h2,hp2⟩;dsimp only[G6];refine⟨D,D2,_,_,rfl,rfl,ex _ _ hX,h2,?_,?_⟩
   ·rw[aW,aW];exact cM (Ap (show ps.length+ps2.length<=1000 by lia))
   refine⟨⟨_,rfl⟩,(eX.trans ex).into hD,ps++ps2,by rw[AF,az],?_⟩;rw[bg,cP,<-cn];refine Paired.app (Ca.upd (ex _ _ hX) (Ca.same ex hp)) ?_;rw[cb,cq,bO];exact Ca.upd (ex _ _ hX) hp2
 rintro _ hGo σ HX ⟨⟨x2,rfl⟩,eX,ps,hX,hp⟩;refine hGo _ _ ?_;walk_at "";exact q D HX ps eX hD hX hp
theorem Nn:AM ["framed","found","word","told"] ["framed"] (AG U1):=BM
theorem X8(T:Ay w K mg t) :Aa P w K mg base 1 t.f_36 ["framed"] (MU K):=by
 refine Az T.d_36 Nn λvs H Q E h=>?_;obtain⟨r,g,lo,d4,m,rfl,ok,sm,q⟩:=h;refine⟨rfl,λd9 A outer s hr=>?_⟩
 refine⟨_,(AC (AY 1 Nn (Aq AB))
  (AC (BR PassesOwn.never rfl (HL rfl T.z_enumerate (AA (AN (C6 K) (pv 0) AE (λ_ _=>rfl)) AB)) (G3 rfl (Bs (Bc 2 Nn) (Bs (Bc 3 Nn) FF))) (AH (A7 (DU cy PySem.F.slot_list_extend PySem.F.type_list_extend Im (pv 1) (AA (QR (fv:=[(2,"word"),(3,"told")]) (cl:=[("word",_),("told",_)]) rfl (HL rfl T.z_enumerate (AA (AN (C6 K) (pv 0) AE (λ_ _=>rfl)) AB)) (by with_unfolding_all rfl) (by decide +kernel) rfl (by decide +kernel) rfl rfl ⟨(by with_unfolding_all rfl),⟨(by with_unfolding_all rfl),trivial⟩⟩ (by with_unfolding_all rfl) ⟨⟨rfl,rfl,(by with_unfolding_all rfl),rfl⟩,⟨⟨rfl,rfl,(by with_unfolding_all rfl),rfl⟩,trivial⟩⟩ (by decide) (λ_ _ _ _=>(Jm (PW.pt (Ld (AZ CP (pv 1) (pv 3) (Ad _)) (JQ (AZ Dy (pv 0) (pv 2) (Ad _))))))) (λ_ _ _ _=>(Dj (AA (pv 2) (AA (pv 0) AB))))) AB)))))
  (AH (AW (pv 1))))),?_⟩
 refine BJ.el ok.v λtb h1 h2=>?_;have hlm:(d4.map V.int).length=d4.length:=aW ..;refine BI λN hN=>?_;walk_at "";refine⟨by decide,λD hD=>hN _ _ ?_⟩;clear hN N;refine GI (λσ HX=>(∃x2 x3,σ=[some (.ref r),some (.ref D),x2,x3])/\AJ H HX/\∃ps:List qM,HX D=some (.lst (ps.map V.ref))/\Ca K HX ps (Ef d4)) (λN hN=>?_) ?_
 ·have e0:=AJ.new hD (.lst []);refine⟨_,rfl,r,_,2,_,rfl,rfl,Ar.of (e0 _ _ h1),rfl,?_⟩;refine⟨tb,_,rfl,Ar.of (e0 _ _ h2),?_⟩;refine Iq (xs:=d4.map V.int) (λi σ HX=>(∃x2 x3,σ=[some (.ref r),some (.ref D),x2,x3])/\AJ H HX/\∃ps:List qM,HX D=some (.lst (ps.map V.ref))/\Ca K HX ps ((List.range i).flatMap (Qb d4))) ⟨⟨none,none,rfl⟩,e0,[],AF,.nil⟩ (λi σ HX _ z=>Ar.of (z.2.1 _ _ h2)) ?_ λσ HX z=>hN _ _ (by rw[hlm]at z;exact z)
  rintro i x p2 σ HX hx ⟨⟨x2,x3,rfl⟩,eX,ps,hX,hp⟩ hp2;obtain⟨n,hn,rfl⟩:=Ev hx;have hi:i<d4.length:=(ae.mp hn).1;have f2:=AJ.new hp2 (.tup [V.int ((i:Nat):Int),V.int n]);have eY:=eX.trans f2;have hY:=f2 _ _ hX;have pY:=Ca.same f2 hp;refine⟨p2,_,rfl,Ar.of AF,rfl,_,_,rfl,_,_,rfl,rfl,?_⟩;generalize Ai HX p2 (.tup [V.int ((i:Nat):Int),V.int n])=HY at eY hY pY⊢;clear hX hp f2 eX hp2;refine⟨_,rfl,.inl ⟨rfl,_,Ag.of hY⟩,?_⟩;refine⟨_,rfl,r,_,2,_,rfl,rfl,Ar.of (eY _ _ h1),rfl,?_⟩;refine⟨tb,_,rfl,Ar.of (eY _ _ h2),λD2 hD2=>?_⟩;refine LJ (xs:=d4.map V.int) (λj d8 Hx=>∃ps2:List qM,d8=ps2.map V.ref/\ps2.length<=j/\AJ HY Hx/\Hx D2=some (.lst d8)/\Ca K Hx ps2 (((List.range j).filter λb=>decide (d4.getD b 0=d4.getD i 0)&&decide (b≠i)).map λb=>(i,b))) ⟨[],rfl,af _,AJ.new hD2 _,AF,.nil⟩ (λj d8 Hx _ z=>by obtain⟨_,_,_,z,_⟩:=z;exact Ar.of (z _ _ (eY _ _ h2))) ?_ ?_
  ·rintro j x p3 d8 Hx hx ⟨ps2,rfl,l2,ex,h2',hp2⟩ hp3;obtain⟨n',hn',rfl⟩:=Ev hx;have f3:=AJ.new hp3 (.tup [V.int ((j:Nat):Int),V.int n']);have eA:=ex.trans f3;have hA:=f3 _ _ h2';have pA:=Ca.same f3 hp2;generalize Ai Hx p3 (.tup [V.int ((j:Nat):Int),V.int n'])=HA at eA hA pA⊢;clear f3 ex h2' hp2 hp3;have en:n=d4.getD i 0:=by rw[aq,hn];rfl
   have en':n'=d4.getD j 0:=by rw[aq,hn'];rfl
   walk_at "";rw[bg,cI]
   by_cases e1:n'=n
   ·have e1':d4.getD j 0=d4.getD i 0:=by rw[<-en',e1,en]
    rw[qD e1]
    by_cases e:j=i
    ·rw[qC (by lia),NT (by rw[qG (show ¬j≠i from λz=>z e),dC]),bO];exact⟨ps2,rfl,by lia,eA,hA,pA⟩
    ·rw[qD (by lia),Qc (by rw[au];exact⟨qF e1',qF e⟩),az];refine⟨by decide,λp hp=>?_⟩;have f1:=AJ.new hp (.tup [V.int ((i:Nat):Int),V.int ((j:Nat):Int)]);have hl:=f1 _ _ hA;have hj:j<d4.length:=(ae.mp hn').1;have lt:d4.length<=256:=by have:=ok.sz;have:=ok.len;lia
     refine⟨hl,by rw[aW];exact Ap (by lia),ps2++[p],by rw[az];rfl,by rw[ac,bi];lia,(eA.trans f1).into hD2,AF,Paired.app (Ca.upd hl (Ca.same f1 pA)) (.cons (Ar.updL hl (Ar.of AF)) .nil)⟩
   ·rw[qC e1,NT (by rw[qG (show ¬d4.getD j 0=d4.getD i 0 from λz=>e1 (by rw[en',z,en])),Bool.false_and]),bO];exact⟨ps2,rfl,by lia,eA,hA,pA⟩
  ·rintro d8 H2 ⟨ps2,rfl,l2,ex,h2',hp2⟩;dsimp only[G6];rw[hlm]at l2 hp2;have lt:d4.length<=256:=by have:=ok.sz;have:=ok.len;lia
   have lp:=Paired.length pY;have ll:=Fm d4 i;have lm:=cj (show i<=256 by lia) lt;refine⟨D,D2,_,_,rfl,rfl,ex _ _ hY,h2',?_,?_⟩
   ·rw[aW,aW,sizeLine_eq];lia
   refine⟨⟨_,_,rfl⟩,(eY.trans ex).into hD,ps++ps2,by rw[AF,az],?_⟩;rw[bg,cP];refine Paired.app (Ca.upd (ex _ _ hY) (Ca.same ex pY)) ?_;rw[cb,cq,bO];exact Ca.upd (ex _ _ hY) hp2
 rintro _ hGo σ HX ⟨⟨x2,x3,rfl⟩,eX,ps,hX,hp⟩;refine hGo _ _ ?_;walk_at "";exact q D HX ps eX hD hX hp
theorem X9:AM ["framed","words"] ["framed","words"] (AG U2):=BM
theorem YA(T:Ay w K mg t)(G_72:Aa P w K mg base 1 t.f_72 ["node","other"] (Fk K)):Aa P w K mg base 2 t.f_54 ["framed","words"] (KB K):=by
 refine Az T.d_54 X9 λvs H Q E h=>?_;obtain⟨r,c,g,lo,d4,m,a,b,rfl,ok,hc,q⟩:=h;refine⟨rfl,λd9 A outer s hr=>?_⟩;refine⟨_,(AH (AW (Ae hr G_72 T.m_72 (AA (AL DG (AN (C6 K) (pv 1) AE (λ_ _=>rfl)) (AN (C6 K) (pv 0) AE (λ_ _=>rfl))) (AA (AL DG (AN (C6 K) (pv 1) AE (λ_ _=>rfl)) (AN (C6 K) (pv 0) AE (λ_ _=>rfl))) AB))))),?_⟩;refine BJ.el ok.v λtb h1 h2=>?_;have g2:=ok.g2;have g9:=ok.g9;walk_at "";refine⟨c,_,0,_,rfl,rfl,hc,rfl,D1 (Ar.of h1) rfl ?_⟩;refine⟨_,rfl,_,rfl,by lia,by lia,?_⟩;refine⟨c,_,1,_,rfl,rfl,hc,rfl,D1 (Ar.of h1) rfl ?_⟩;refine⟨_,rfl,_,rfl,by lia,by lia,?_⟩;have ea:((a:Nat):Int)/g=((a/g.toNat:Nat):Int):=by rw[Int.natCast_ediv,bh (by lia)]
 have eb:((b:Nat):Int)/g=((b/g.toNat:Nat):Int):=by rw[Int.natCast_ediv,bh (by lia)]
 exact⟨_,_,by rw[<-ea,<-eb],q⟩
theorem YB:AM ["framed","words"] ["framed","words"] (AG U3):=BM
theorem YC(T:Ay w K mg t)(G_72:Aa P w K mg base 1 t.f_72 ["node","other"] (Fk K))(G_92:Aa P w K mg base 1 t.f_92 ["one"] (FU)):Aa P w K mg base 2 t.f_83 ["framed","words"] (Qa K):=by
 refine Az T.d_83 YB λvs H Q E h=>?_;obtain⟨r,c,g,lo,d4,m,a,b,rfl,ok,hc,q⟩:=h;refine⟨rfl,λd9 A outer s hr=>?_⟩;refine⟨_,(AH (AW (Ae hr G_72 T.m_72 (AA (AL Bz (AN (C6 K) (pv 1) AE (λ_ _=>rfl)) (Ae hr G_92 T.m_92 (AA (pv 0) AB))) (AA (AL Bz (AN (C6 K) (pv 1) AE (λ_ _=>rfl)) (Ae hr G_92 T.m_92 (AA (pv 0) AB))) AB))))),?_⟩;have hd:=Dd ok.g2 ok.len ok.m1;have gp:=RW.BF ok.g2 (m-1);have ea:((a:Nat):Int)%((d4.length/g.toNat:Nat):Int)=((a%(d4.length/g.toNat):Nat):Int):=(Int.natCast_emod ..).symm;have eb:((b:Nat):Int)%((d4.length/g.toNat:Nat):Int)=((b%(d4.length/g.toNat):Nat):Int):=(Int.natCast_emod ..).symm;have hp:(0:Int)<((d4.length/g.toNat:Nat):Int):=by lia
 walk_at "";refine⟨c,_,0,_,rfl,rfl,hc,rfl,r,g,lo,d4,m,rfl,ok,?_⟩;refine⟨_,rfl,_,rfl,hp,?_⟩;refine⟨c,_,1,_,rfl,rfl,hc,rfl,r,g,lo,d4,m,rfl,ok,?_⟩;refine⟨_,rfl,_,rfl,hp,?_⟩;exact⟨_,_,by rw[<-ea,<-eb],q⟩
theorem No:AM ["framed","nexts","pair","words"] ["framed"] (AG U4):=BM
theorem YD(T:Ay w K mg t)(G_38:Aa P w K mg base 2 t.f_38 ["framed"] (KC K))(G_36:Aa P w K mg base 1 t.f_36 ["framed"] (MU K))(G_83:Aa P w K mg base 2 t.f_83 ["framed","words"] (Qa K))(G_54:Aa P w K mg base 2 t.f_54 ["framed","words"] (KB K)):Aa P w K mg base 3 t.f_31 ["framed"] (KE P w K):=by
 refine Az T.d_31 No λvs H Q E h=>?_;obtain⟨r,g,lo,d4,m,rfl,ok,sm,q⟩:=h;refine⟨rfl,λd9 A outer s hr=>?_⟩
 refine⟨_,(AC (G4 (i:=1) No.nd rfl (Or.inl rfl) (Hq (P:=P) (w:=w) (K:=K) rfl rfl rfl))
  (AC (BR PassesOwn.never rfl (Nd K (Ae hr G_38 T.m_38 (AA (pv 0) AB))) (Bc 2 No) (AH (LH (P:=P) (w:=w) (K:=K) rfl rfl rfl (DV hr) (pv 1) (pv 2) (Aq AB) rfl)))
  (AC (BR PassesOwn.never rfl (Nd K (Ae hr G_36 T.m_36 (AA (pv 0) AB))) (Bc 3 No) (AH (A7 (Ug K (Fj (P:=P) (w:=w) (K:=K) rfl rfl rfl (DV hr) (pv 1) (Ae hr G_54 T.m_54 (AA (pv 0) (AA (pv 3) AB))) (λ_ _=>rfl)) (AA (Ae hr G_83 T.m_83 (AA (pv 0) (AA (pv 3) AB))) AB)))))
  (AH (AW (pv 1)))))),?_⟩
 obtain⟨h,hh⟩:∃h:Nat,h=d4.length/g.toNat:=⟨_,rfl⟩;rw[<-hh]at q;have hd9:=Dd ok.g2 ok.len ok.m1;have h9:h<=9:=by rw[<-hh]at hd9;lia
 refine BI λN hN=>?_;walk_at "";intro d u hd dw;refine hN _ _ ?_;clear hN N;have e0:=AJ.new hd u;generalize Ai H d u=H0 at dw e0⊢;refine GI (λσ HX=>(∃x2 x3,σ=[some (.ref r),some (.ref d),x2,x3])/\AJ H HX/\∃ls:List qM,(∀l∈ls,H l=none)/\DW P w K HX d (Ao (Bo h) (ls.map V.ref))/\Di K HX ls (Bo h) λ_=>[]) (λN hN=>?_) ?_
 ·refine⟨_,rfl,r,g,lo,d4,m,rfl,ok.same e0,sm,λD H1 ps e1 hD1 hD hp=>?_⟩;rw[<-hh]at hp;have pn:=Paired.length hp;have nd:=E4 h;have lA:(Bo h).length<=100:=by have a:=Fl h h;have b:=cj h9 h9;unfold Bo;rw[a9];lia
  refine⟨D,rfl,⟨_,Ag.of hD⟩,?_⟩;refine CO (xs:=ps.map V.ref) (λi σ HX=>(∃x2 x3,σ=[some (.ref r),some (.ref d),x2,x3])/\AJ H HX/\HX D=some (.lst (ps.map V.ref))/\Ca K HX ps (Bo h)/\∃ls:List qM,(∀l∈ls,H l=none)/\DW P w K HX d (Ao ((Bo h).take i) (ls.map V.ref))/\Di K HX ls ((Bo h).take i) λ_=>[]) ⟨⟨none,none,rfl⟩,e0.trans e1,hD,hp,[],(λl hl=>qE hl List.not_mem_nil),dw.same e1,⟨rfl,List.nodup_nil,λi a l z=>by simp at z⟩⟩ (λi σ HX _ z=>Ag.of z.2.2.1) ?_ ?_
  ·refine LN ?_;rintro _ _ i x _ hGo σ HX hx ⟨⟨x2,x3,rfl⟩,eX,hDX,pX,ls,ln,dX,gX⟩;refine hGo _ _ ?_;obtain⟨p,hpi,rfl⟩:∃p,ps[i]?=some p/\x=V.ref p:=by rw[ay]at hx;obtain⟨p,h1,h2⟩:=bH.mp hx;exact⟨p,h1,h2.symm⟩
   obtain⟨a,ha,sa⟩:=BS pX hpi;have hi:i<(Bo h).length:=(ae.mp ha).1
   have lr:(Ao ((Bo h).take i) (ls.map V.ref)).length<=100:=by rw[Bx (by rw[aW];exact gX.n),bJ];lia
   refine⟨by decide,λl hl=>?_⟩;have f1:=AJ.new hl (.lst []);have dY:=dX.same f1;have gY:=gX.same f1;have hY:=f1 _ _ hDX;have pY:=Ca.same f1 pX;have sY:=Ar.same' f1 sa;have lY:Ai HX l (.lst []) l=some (.lst []):=AF;have nl:=gX.out hl;have eY:=eX.trans f1;have hn:=eX.free hl;generalize Ai HX l (.lst [])=HY at f1 dY gY hY pY sY lY eY⊢;refine⟨_,rfl,_,rfl,d,p,_,BZ a,rfl,rfl,dY,sY,Ap (by lia),λu' dw'=>⟨⟨_,_,rfl⟩,eY.into hd,dY.lst hY u',dY.prv pY u',ls++[l],λk hk=>?_,?_,?_⟩⟩
   ·rcases ar.mp hk with z|z
    ·exact ln k z
    ·rw[ak.mp z];exact hn
   ·rw[az,bV,ha];rw[Hs (by rw[aW];exact gX.n) (Fn nd ha)]at dw';exact dw'
   ·rw[bV,ha];exact (dY.grl gY u').snoc nl (dY.lst lY u') rfl
  ·rintro σ HX ⟨⟨x2,x3,rfl⟩,eX,hDX,pX,ls,ln,dX,gX⟩;rw[aW,pn,bN]at dX gX;exact hN _ _ ⟨⟨_,_,rfl⟩,eX,ls,ln,dX,gX⟩
 rintro _ hGo σ HX ⟨⟨x2,x3,rfl⟩,eX,ls,ln,dX,gX⟩;refine hGo _ _ ?_;refine GI (λσ HX=>(∃x2 x3,σ=[some (.ref r),some (.ref d),x2,x3])/\AJ H HX/\DW P w K HX d (Ao (Bo h) (ls.map V.ref))/\Di K HX ls (Bo h) (Gf g.toNat h (Ef d4))) (λN hN=>?_) ?_
 ·refine⟨_,rfl,r,g,lo,d4,m,rfl,ok.same eX,sm,λD H1 ps e1 hD1 hD hp=>?_⟩;have pn:=Paired.length hp;have nD:=gX.out hD1;have nd:=E4 h;refine⟨D,rfl,⟨_,Ag.of hD⟩,?_⟩;refine CO (xs:=ps.map V.ref) (λi σ HX=>(∃x2 x3,σ=[some (.ref r),some (.ref d),x2,x3])/\AJ H HX/\HX D=some (.lst (ps.map V.ref))/\Ca K HX ps (Ef d4)/\DW P w K HX d (Ao (Bo h) (ls.map V.ref))/\Di K HX ls (Bo h) (Gf g.toNat h ((Ef d4).take i))) ⟨⟨_,_,rfl⟩,eX.trans e1,hD,hp,dX.same e1,gX.same e1⟩ (λi σ HX _ z=>Ag.of z.2.2.1) ?_ ?_
  ·clear dX gX eX hD hp e1;rintro i x σ HX hx ⟨⟨x2,x3,rfl⟩,eX,hDX,pX,dX,gX⟩;obtain⟨c,hci,rfl⟩:∃c,ps[i]?=some c/\x=V.ref c:=by rw[ay]at hx;obtain⟨c,h1,h2⟩:=bH.mp hx;exact⟨c,h1,h2.symm⟩
   obtain⟨⟨a,b⟩,hab,sc⟩:=BS pX hci;have mw:=Hu.mp (a8 hab);have hd9':=hd9;rw[<-hh]at hd9';obtain⟨j,hj⟩:=bT.mp (KD (h:=h) (a:=a/g.toNat) (b:=b/g.toNat) (dP (by rw[dS];lia)) (dP (by rw[dS];lia)));obtain⟨l,hl⟩:∃l,ls[j]?=some l:=⟨ls[j]'(by rw[gX.n];exact (ae.mp hj).1),ao _⟩;have ml:=a8 hl;have okX:=ok.same eX;refine⟨_,rfl,_,rfl,_,rfl,r,c,g,lo,d4,m,a,b,rfl,okX,sc,λp H2 e2 sp=>?_⟩;obtain⟨u,dr⟩:=(dX.same e2).r;obtain⟨qs,hq,hqp⟩:=(gX.same e2).e j _ l hj hl;refine⟨d,p,u,_,BZ _,.ref l,rfl,rfl,dr,sp,By nd hj (by rw[ay,hl];rfl),.inl ⟨rfl,_,Ag.of hq⟩,?_⟩;refine⟨_,rfl,_,rfl,r,c,g,lo,d4,m,a,b,rfl,okX.same e2,Ar.same' e2 sc,λp3 H3 e3 sp3=>?_⟩;rw[<-hh]at sp3;have hq3:=e3 _ _ hq;have e23:=e2.trans e3;refine⟨l,_,_,rfl,rfl,hq3,?_,?_⟩
   ·have l1:=Paired.length hqp;have l2:=NU g.toNat h ((Ef d4).take i) (LI (a/g.toNat,b/g.toNat));have l3:=Fm d4 d4.length;have lt:d4.length<=256:=by have:=ok.sz;have:=ok.len;lia
    have l4:=cj lt lt;have l5:((Ef d4).take i).length<=(Ef d4).length:=by rw[bJ];exact Nat.min_le_right ..
    have l6:(Ef d4).length<=d4.length*d4.length:=l3;rw[aW,sizeLine_eq];lia
   rw[show qs.map V.ref++[V.ref p3]=(qs++[p3]).map V.ref by rw[az];rfl];refine⟨⟨_,_,rfl⟩,(eX.trans e23).into (ln l ml),by rw[AR λz=>nD (by rw[z];exact ml)];exact e23 _ _ hDX,Ca.upd hq3 (Ca.same e23 pX),(dX.same e23).updL hq3 _,(gX.same e23).push nd hj hl hq3 (Ca.same e3 hqp) sp3 λz=>Qe hab z⟩
  ·rintro σ HX ⟨⟨x2,x3,rfl⟩,eX,hDX,pX,dX,gX⟩;rw[aW,pn,bN]at gX;exact hN _ _ ⟨⟨_,_,rfl⟩,eX,dX,gX⟩
 rintro _ hGo σ HX ⟨⟨x2,x3,rfl⟩,eX,dX,gX⟩;refine hGo _ _ ?_;walk_at "";exact q d HX ls eX hd ln dX gX
theorem YE:AM ["framed"] ["framed"] (AG U5):=BM
theorem YF(T:Ay w K mg t)(G_29:Aa P w K mg base 1 t.f_29 ["ahead"] (MV P w K))(G_22:Aa P w K mg base 1 t.f_22 ["nexts"] (KG P w K))(G_31:Aa P w K mg base 3 t.f_31 ["framed"] (KE P w K)):Aa P w K mg base 4 t.f_32 ["framed"] (Hz P w K):=by
 refine Az T.d_32 YE λvs H Q E h=>?_;obtain⟨r,g,lo,d4,m,rfl,ok,sm,q⟩:=h;refine⟨rfl,λd9 A outer s hr=>?_⟩;refine⟨_,(AH (AW (Ae hr G_29 T.m_29 (AA (Ae hr G_22 T.m_22 (AA (Ae hr G_31 T.m_31 (AA (pv 0) AB)) AB)) AB)))),?_⟩;have g2:=ok.g2;have hl:=Oq g2 ok.len ok.m1;obtain⟨h,hh⟩:∃h:Nat,h=d4.length/g.toNat:=⟨_,rfl⟩;have hd9:=Dd ok.g2 ok.len ok.m1;rw[<-hh]at q hl hd9;have h9:h<=9:=by lia
 have hp:=RW.BF ok.g2 (m-1);have h0:0<h:=by lia
 have wl:(Ef d4).length<=70000:=by
  have l3:(Ef d4).length<=d4.length*d4.length:=Fm d4 d4.length;have lt:d4.length<=256:=by have:=ok.sz;have:=ok.len;lia
  have l4:=cj lt lt;lia
 walk_at "";refine⟨r,g,lo,d4,m,rfl,ok,sm,λd1 H1 ls e1 hd1 ln dw gr=>?_⟩;rw[<-hh]at dw gr;obtain⟨u1,dr⟩:=dw.r;refine⟨d1,u1,ls,Bo h,Gf g.toNat h (Ef d4),rfl,dr,gr,E4 h,λa _ p hp=>(Fq h0 ((NX hl).mp hp)).2,Hw h9,λa _=>bB (NU ..) wl,λu' H2 d2 ls2 A2 B e2 dr2 hd2 ln2 dw2 gr2 tp=>?_⟩;obtain⟨u2,drr⟩:=dw2.r;have eH2:=(e1.into hd1 (o:=u')).trans e2;have l2:A2.length<=100:=bB (tp.nd.length_le_of_subset λp hp=>(tp.all p).mp hp) (Hw h9)
 have hB:∀p q,q∈B p↔WI g.toNat h d4 q p:=λp q=>by rw[tp.on,NX hl];exact⟨λz=>z.2,λz=>⟨(Fq h0 z).1,z⟩⟩
 refine⟨d2,u2,ls2,A2,B,rfl,drr,gr2,tp.nd,λa _ p hp=>(tp.all p).mpr (Fq h0 ((hB a p).mp hp)).1,l2,λa _=>tp.len a,λu3 H3 d3 M f e3 dr3 hd3 dw3 mp=>?_⟩;exact q d3 H3 M f ((eH2.into (e1.free hd2)).trans e3) (eH2.free hd3) dw3 (mp.rk h9 tp.all tp.nd (λp _ q=>hB p q) λp q z=>(Fq h0 z).1)
theorem RB:AM ["one","framed","found"] ["one"] (AG U6):=BM
theorem YG(T:Ay w K mg t)(G_91:Aa P w K mg base 8 t.f_91 ["one"] (EW t.c_70))(G_32:Aa P w K mg base 4 t.f_32 ["framed"] (Hz P w K))(G_38:Aa P w K mg base 2 t.f_38 ["framed"] (KC K)):Aa P w K mg base 9 t.f_94 ["one"] (KL t):=by
 refine A5 T.d_94 RB λvs H Q E h=>?_;obtain⟨r,⟨g,lo,d4,m⟩,rfl,ok,h⟩:=h;refine⟨rfl,λd9 A outer s hr=>?_⟩
 refine⟨_,(AC (AY 1 RB (AT G_91 (hr.mono (by decide)) rfl T.m_91 AK (AA (pv 0) AB)))
  (AC (AY 2 RB (Ae hr G_32 T.m_32 (AA (pv 1) AB)))
  (AC (Aw (AZ D6 (Aj (MS (P:=P) (w:=w) (K:=K) rfl rfl rfl) rfl T.z_len bC (AA (pv 2) AB)) (Aj (JK K) rfl T.z_len bC (AA (Ae hr G_38 T.m_38 (AA (pv 1) AB)) AB)) (Ad _)) (AH (AW Fx)) Af)
  Cc))),?_⟩
 walk_at "";rcases h with⟨⟨lf,tf,mf,fw,z⟩,rf⟩|⟨⟨lf,tf,mf,fw,sm,no⟩,q⟩
 ·exact⟨r,g,lo,d4,m,lf,tf,mf,rfl,ok,fw,λy=>qE z (Int.not_lt.mpr y),λ_ H' e=>rf _ H' e⟩
 dsimp only at fw sm no;refine⟨r,g,lo,d4,m,lf,tf,mf,rfl,ok,fw,λ_ r1 H1 e1 ok1=>?_,λz=>by lia⟩;have g2:2<=g:=ok1.g2;have hd9:=Dd g2 ok1.len ok1.m1;have gp:=RW.BF g2 (mf-1);have h0:0<tf.length/g.toNat:=by lia
 refine⟨r1,g,lf,tf,mf,rfl,ok1,sm,λd H2 M f e2 hd dw rk=>?_⟩;obtain⟨u,dr⟩:=dw.r;refine⟨d,rfl,u,_,dr,r1,g,lf,tf,mf,rfl,ok1.same e2,by lia,λD H3 ps e3 hD0 hD hps=>?_⟩;have pn:=Paired.length hps;refine⟨D,rfl,_,.inl (Ag.of hD),?_⟩;rw[aW,pn,Bx (by rw[aW])]
 by_cases z:M.length<(Bo (tf.length/g.toNat)).length
 ·rw[qD (by lia)];exact q H3 ((e1.trans e2).trans e3)
 ·exfalso;have all:=Ma rk.nd rk.sub (by lia);exact no f λp q s=>(rk.low q (all q (Fq h0 s).2) p s).2
theorem YH:AM ["one"] ["one"] (AG U7):=BM
theorem YI(T:Ay w K mg t)(G_94:Aa P w K mg base 9 t.f_94 ["one"] (KL t)):Aa P w K mg base 10 t.f_30 ["one"] (Ce t):=by refine A5 T.d_30 YH λvs H Q E h=>?_;obtain⟨r,q,rfl,ok,wd,rf⟩:=h;refine⟨rfl,λd9 A outer s hr=>?_⟩;refine⟨_,(AH (AW (CN RO (AT G_94 (hr.mono (by decide)) rfl T.m_94 AK (AA (pv 0) AB)) Fx (Ad _)))),?_⟩;walk_at "";exact⟨r,q,rfl,ok,.inl ⟨wd,rf⟩⟩
theorem RC:AM ["one","framed","ranked","even","many","table","number","come"] ["one"] (AG U8):=BM
theorem YJ(T:Ay w K mg t)(G_91:Aa P w K mg base 8 t.f_91 ["one"] (EW t.c_70))(G_94:Aa P w K mg base 9 t.f_94 ["one"] (KL t)):Aa P w K mg base 10 t.f_69 ["one"] (Mc t):=by
 refine A5 T.d_69 RC λvs H Q E h=>?_;obtain⟨r,⟨g,lo,d4,m⟩,rfl,ok,h⟩:=h;refine⟨rfl,λd9 A outer s hr=>?_⟩
 refine⟨_,(AC (AY 1 RC (AT G_91 (hr.mono (by decide)) rfl T.m_91 AK (AA (pv 0) AB)))
  (AC (AY 2 RC (AT G_94 (hr.mono (by decide)) rfl T.m_94 AK (AA (pv 1) AB)))
  (AC (Aw (AZ PK (pv 2) Fx (Ad _)) (AH (As rfl T.x_37 rfl T.m_37 Ah (AA AI AB))) Af)
  Cc))),?_⟩
 walk_at "";rcases h with⟨⟨lf,tf,mf,fw,z⟩,rf⟩|⟨⟨lf,tf,mf,fw,sm,no⟩,rf⟩
 ·exact⟨r,g,lo,d4,m,lf,tf,mf,rfl,ok,fw,λy=>qE z (Int.not_lt.mpr y),λ_ H' e=>rf _ H' e⟩
 dsimp only at fw sm no;refine⟨r,g,lo,d4,m,lf,tf,mf,rfl,ok,fw,λ_ r1 H1 e1 ok1=>?_,λz=>by lia⟩;refine⟨r1,⟨g,lf,tf,mf⟩,rfl,ok1,.inr ⟨⟨lf,tf,mf,LF ok.g2 ok.len fw,sm,no⟩,λH2 e2=>?_⟩⟩
 try dsimp only
 rw[qD rfl];exact⟨by decide,rf _ _ (e1.trans e2)⟩
theorem YK:AM ["one","framed","rings","rows","ring","row","other"] ["one"] (AG Zp):=BM
theorem Z4(T:Ay w K mg t)(G_91:Aa P w K mg base 8 t.f_91 ["one"] (EW t.c_70)):Aa P w K mg base 9 t.f_1 ["one"] (Ce t):=by
 refine A5 T.d_1 YK λvs H Q E h=>?_;obtain⟨r,⟨g,lo,d4,m⟩,rfl,ok,⟨lf,tf,mf,fw,z⟩,rf⟩:=h;refine⟨rfl,λd9 A outer s hr=>?_⟩
 refine⟨_,(AC (AY 1 YK (AT G_91 (hr.mono (by decide)) rfl T.m_91 AK (AA (pv 0) AB)))
  Cc),?_⟩
 walk_at "";exact⟨r,g,lo,d4,m,lf,tf,mf,rfl,ok,fw,λy=>qE z (Int.not_lt.mpr y),λ_ H' e=>rf _ H' e⟩
theorem Tc:AM ["one","rows","feet"] ["one"] (AG U9):=BM
theorem YL(T:Ay w K mg t)(G_1:Aa P w K mg base 9 t.f_1 ["one"] (Ce t)):Aa P w K mg base 10 t.f_53 ["one"] (Ce t):=by
 refine A5 T.d_53 Tc λvs H Q E h=>?_;obtain⟨r,q,rfl,ok,wd,rf⟩:=h;refine⟨rfl,λd9 A outer s hr=>?_⟩
 refine⟨_,(AC (AY 1 Tc (AN (C6 K) (AT G_1 (hr.mono (by decide)) rfl T.m_1 AK (AA (pv 0) AB)) AE (λ_ _=>rfl)))
  Cc),?_⟩
 walk_at "";exact⟨r,q,rfl,ok,wd,rf⟩
theorem YM:AM ["one","by"] ["one","by"] (AG VA):=BM
theorem YN(T:Ay w K mg t)(G_97:FR P w K mg base 4 t.f_97 ["signs","low","table"] (Ex t.c_79)):Aa P w K mg base 5 t.f_93 ["one","by"] (LO):=by refine Az T.d_93 YM λvs H Q E h=>?_;obtain⟨a,b,rfl,hF⟩:=h;refine⟨rfl,λd9 A outer s hr=>?_⟩;exact hF.elim
theorem Np:AM ["one","many","table","number"] ["one"] (AG VB):=BM
theorem YO(T:Ay w K mg t)(G_86:Aa P w K mg base 2 t.f_86 ["one"] (CV))(G_97:FR P w K mg base 4 t.f_97 ["signs","low","table"] (Ex t.c_79))(G_40:Aa P w K mg base 5 t.f_40 ["one","word"] (Jn K t.c_89))(G_77:FR P w K mg base 1 t.f_77 ["number","signs","many"] (Jq t.c_80)):Aa P w K mg base 6 t.f_87 ["one"] (Hb):=by
 refine Az T.d_87 Np λvs H Q E h=>?_;obtain⟨r,g,lo,d4,m,rfl,ok,q⟩:=h;refine⟨rfl,λd9 A outer s hr=>?_⟩
 refine⟨_,(AC (AY 1 Np (Ae hr G_86 T.m_86 (AA (pv 0) AB)))
  (AC (AY 2 Np (Aq AB))
  (AC (BR PassesOwn.never rfl (BN rfl T.z_range (AA (Aj (JK K) rfl T.z_len bC (AA (AN (C6 K) (pv 0) AE (λ_ _=>rfl)) AB)) AB)) (Bc 3 Np) (AH (A7 (Ug K (pv 2) (AA (Ae hr G_40 T.m_40 (AA (pv 0) (AA (Mv rfl rfl T.z_reversed rfl T.z_list (AA (Cv G_77 (hr.mono (by decide)) rfl T.m_77 Jv (AA (pv 3) (AA (AN (C6 K) (pv 0) AE (λ_ _=>rfl)) (AA (pv 1) AB)))) AB)) AB))) AB)))))
  (AH (AW (Cv G_97 (hr.mono (by decide)) rfl T.m_97 Jv (AA (AN (C6 K) (pv 0) AE (λ_ _=>rfl)) (AA (AL D5 (AL D5 AE (AN (C6 K) (pv 0) AE (λ_ _=>rfl))) (pv 1)) (AA (pv 2) AB))))))))),?_⟩
 refine BJ.el ok.v λtb h1 h2=>?_;have g2:=ok.g2;have g9:=ok.g9;have m8:=ok.m8;have hl:=ok.len;have sz:=ok.sz;have hlm:(d4.map V.int).length=d4.length:=aW ..;walk_at "";refine⟨r,g,lo,d4,m,rfl,g2,g9,ok.v,hl,?_⟩;walk_at "";refine⟨bj _,λp hp=>?_⟩;have e0:=AJ.new hp (.lst []);refine⟨_,rfl,r,_,2,_,rfl,rfl,Ar.of (e0 _ _ h1),rfl,tb,rfl,_,.inr (Ar.of (e0 _ _ h2)),_,rfl,by lia,by lia,?_⟩;rw[hlm];refine Bm (n:=d4.length) (λi σ H1=>∃x3,σ=[some (.ref r),some (.int ((m:Nat):Int)),some (.ref p),x3]/\AJ H H1/\H1 p=some (.lst (((List.range i).map λk:Nat=>d4.getD (CD g (Ci g (k:Int) m)).toNat 0).map V.int))) ⟨none,rfl,e0,AF⟩ ?_ ?_
 ·refine Fs ?_;rintro _ _ i _ hGo σ H1 hi ⟨x3,rfl,e,hp1⟩;refine hGo _ _ ?_;walk_at "";refine⟨.inl ⟨_,Ag.of hp1⟩,D1 (Ar.of (e _ _ h1)) rfl ?_⟩;refine⟨_,g,_,rfl,g2,g9,by lia,by lia,λz=>qE z (by rw[bI];lia),λ_ _ pw H2 hN2=>?_⟩;rw[bu,bI]at hN2;refine⟨pw,rfl,_,Ag.of hN2.2.2,λp1 hp1'=>?_⟩;rw[<-List.map_reverse,dO];have e3:=AJ.new hp1' (.lst ((Ci g (i:Int) m).map V.int));have bl:=GS (Jr g2 (i:Int) m);rw[CU]at bl;refine⟨r,p1,g,lo,d4,m,_,rfl,g2,g9,(ok.v.same e).same (hN2.1.trans e3),hl,Ag.of AF,Ch,?_⟩;rw[bl];intro ms hms H4 e4;have:=DZ hms;subst this;have e14:=(hN2.1.trans e3).trans e4;refine⟨_,e14 _ _ hp1,?_,(e.trans e14).into hp,?_⟩
  ·rw[aW,aW,bq];exact Ap (by lia)
  ·rw[AF,Cy,az];rfl
 ·rintro σ H1 ⟨x3,rfl,e,hp1⟩;walk_at "";refine (D1 (Ar.of (e _ _ h1)) rfl (D1 (Ar.of (e _ _ h1)) rfl ⟨lo,rfl,?_⟩));exact Ix (d4:=Dc g d4 m) g2 g9 ok.m1 (by rw[Iv];exact hl) sz (Kw g2 ok.tb m) (.inl hp1) λr' H' e' hR=>q r' H' (e.trans e') (ok.turn hR)
theorem LY:AM ["first","second","ahead","behind","signs","many","table","number"] ["first","second"] (AG VC):=BM
theorem YQ(T:Ay w K mg t)(G_85:Aa P w K mg base 7 t.f_85 ["one"] (De))(G_16:Aa P w K mg base 1 t.f_16 ["signs","many"] (HP))(G_86:Aa P w K mg base 2 t.f_86 ["one"] (CV)):Aa P w K mg base 8 t.f_84 ["first","second"] (Md t):=by
 refine A5 T.d_84 LY λvs H Q E h=>?_;obtain⟨a,b,q,r,rfl,oa,ob,h⟩:=h;refine⟨rfl,λd9 A outer s hr=>?_⟩
 refine⟨_,(AC (Aw (AZ Dy (AN (C6 K) (pv 0) AE (λ_ _=>rfl)) (AN (C6 K) (pv 1) AE (λ_ _=>rfl)) (Ad _)) (AH (As rfl T.x_79 rfl T.m_79 Ah (AA AI AB))) Af)
  (AC (AY 2 LY (Ae hr G_85 T.m_85 (AA (pv 0) AB)))
  (AC (AY 3 LY (Ae hr G_85 T.m_85 (AA (pv 1) AB)))
  (AC (AY 4 LY (AN (C6 K) (pv 0) AE (λ_ _=>rfl)))
  (AC (AY 5 LY (AL D5 (AL Bf (Ae hr G_86 T.m_86 (AA (pv 2) AB)) (Ae hr G_86 T.m_86 (AA (pv 3) AB))) AE))
  (AC (Aw (AZ D7 (Ae hr G_16 T.m_16 (AA (pv 4) (AA (pv 5) AB))) (CK rfl T.g_LONGEST_TABLE) (Ad _)) (AH (As rfl T.x_70 rfl T.m_70 Ah (AA AI AB))) Af)
  Cc)))))),?_⟩
 walk_at "";refine BJ.el oa.v λta a1 a2=>?_;refine BJ.el ob.v λtb b1 b2=>?_;refine (D1 (Ar.of a1) rfl (D1 (Ar.of b1) rfl ⟨rfl,?_⟩));rcases h with⟨ne,rf⟩|⟨e,⟨low,M,low',M',n1,n2,wd⟩,rf⟩
 ·rw[qD (λz=>ne (V.int.inj z))];exact⟨by decide,rf _ _ (AJ.refl _)⟩
 rw[qC (λz=>z (by rw[e]))];refine⟨a,q.g,q.lo,q.tq,q.m,rfl,oa,λl M1 nw r1 H1 e1 ok1=>?_⟩;obtain⟨rfl,rfl⟩:=Fi oa.g2 oa.len nw n1;refine⟨b,r.g,r.lo,r.tq,r.m,rfl,ob.same e1,λl2 M2 nw2 r2 H2 e2 ok2=>?_⟩;obtain⟨rfl,rfl⟩:=Fi ob.g2 ob.len nw2 n2;have e12:=e1.trans e2;refine (D1 (Ar.of (e12 _ _ a1)) rfl ⟨r1,q.g,l,_,M1,rfl,oa.g2,oa.g9,ok1.v.same e2,ok1.len,?_⟩);refine⟨r2,r.g,l2,_,M2,rfl,ob.g2,ob.g9,ok2.v,ok2.len,M1,rfl,M2,rfl,q.g,_,rfl,oa.g2,oa.g9,?_,λz=>?_,λ_ r h=>⟨r,rfl,?_⟩⟩
 ·have:=ok1.m1;have:=ok2.m1;lia
 ·rw[show ((M1:Int)+(M2:Int)-1).toNat=M1+M2-1 by lia]at z;lia
 ·rw[qD h];exact⟨by decide,rf _ _ e12⟩
theorem Td:AM ["one","framed","singles"] ["one"] (AG VD):=BM
theorem YR(T:Ay w K mg t)(hB:JJ mg base)(G_91:Aa P w K mg base 8 t.f_91 ["one"] (EW t.c_70)):Aa P w K mg base 9 t.f_13 ["one"] (Ce t):=by
 refine XB T.d_13 Td (λ_ _ _ _ _ _=>b1 λ_=>rfl) λvs H Q E h=>?_;obtain⟨r,⟨g,lo,d4,m⟩,rfl,ok,⟨lf,tf,mf,fw,z⟩,rf⟩:=h;refine⟨rfl,λA outer s hr=>?_⟩
 refine⟨_,(AC (AY 1 Td (AT G_91 (hr.mono (by decide)) rfl T.m_91 AK (AA (pv 0) AB)))
  Cc),?_⟩
 walk_at "";exact⟨r,g,lo,d4,m,lf,tf,mf,rfl,ok,fw,λy=>qE z (Int.not_lt.mpr y),λ_ H' e=>rf _ H' e⟩
theorem Te:AM ["one","nexts","left","some","stretch","sign"] ["one"] (AG VE):=BM
theorem YS(T:Ay w K mg t)(G_13:Aa P w K mg base 9 t.f_13 ["one"] (Ce t)):Aa P w K mg base 10 t.f_96 ["one"] (Ce t):=by
 refine A5 T.d_96 Te λvs H Q E h=>?_;obtain⟨r,q,rfl,ok,wd,rf⟩:=h;refine⟨rfl,λd9 A outer s hr=>?_⟩
 refine⟨_,(AC (AY 1 Te (AT G_13 (hr.mono (by decide)) rfl T.m_13 AK (AA (pv 0) AB)))
  Cc),?_⟩
 walk_at "";exact⟨r,q,rfl,ok,wd,rf⟩
theorem YT:AM ["text"] ["text"] (AG VF):=BM
theorem YU(T:Ay w K mg t) :Aa P w K mg base 1 t.f_27 ["text"] (Fa t.c_81):=by
 refine A5 T.d_27 YT λvs H Q E h=>?_;obtain⟨v,rfl,kv,hy,hn⟩:=h;refine⟨rfl,λd9 A outer s hr=>?_⟩;refine⟨_,(AH (Aw (CI (Bq (Cb rfl T.z_isinstance (pv 0) (HC rfl T.z_str PyProof.Rows.boot_str)))) (AH (As rfl T.x_81 rfl T.m_81 Ah (AA AI AB))) Af)),?_⟩;walk_at "";cases v with
 |str x =>
  refine⟨_,.of (.str x),_,TC,?_⟩;rw[qC (by decide)];exact hy ⟨x,rfl⟩
 |int y =>
  refine⟨_,.of (.int y),_,TD,?_⟩;rw[qD rfl];exact⟨by decide,hn (λ_ e=>nomatch e) _ (AJ.refl _)⟩
 |bl y =>
  refine⟨_,.of (.bl y),_,TF,?_⟩;rw[qD rfl];exact⟨by decide,hn (λ_ e=>nomatch e) _ (AJ.refl _)⟩
 |non =>
  refine⟨_,.of .non,_,TH,?_⟩;rw[qD rfl];exact⟨by decide,hn (λ_ e=>nomatch e) _ (AJ.refl _)⟩
 |ref a =>
  obtain⟨xs,hs⟩:=kv;rcases hs with hL|hT
  ·refine⟨_,.of (.lst hL),_,TJ,?_⟩;rw[qD rfl];exact⟨by decide,hn (λ_ e=>nomatch e) _ (AJ.refl _)⟩
  ·refine⟨_,.of (.tup hT),_,TK,?_⟩;rw[qD rfl];exact⟨by decide,hn (λ_ e=>nomatch e) _ (AJ.refl _)⟩
 |byt _=>exact kv.elim
 |flt _=>exact kv.elim
 |ty _=>exact kv.elim
theorem YV:AM ["text"] ["text"] (AG VG):=BM
theorem YW(T:Ay w K mg t) :Aa P w K mg base 1 t.f_12 ["text"] (Fb t.c_81):=by
 refine A5 T.d_12 YV λvs H Q E h=>?_;obtain⟨x,rfl,tx,hy,hn⟩:=h;refine⟨rfl,λd9 A outer s hr=>?_⟩
 refine⟨_,(AC (Aw (PW.pt (DS (AZ CP (Aj B2 rfl T.z_len bC (AA (pv 0) AB)) AE (Ad _)) (Cr (CI (Bq (Aj (EF rfl) rfl T.z_all dF (AA (C3 [] [] (MH (pv 0)) (λ_ _ _ _=>B8) (λ_ _ _ _=>(CN Ih (pv 0) (JA rfl T.g_FIGURES) (by with_unfolding_all rfl)))) AB))))))) (AH (As rfl T.x_81 rfl T.m_81 Ah (AA AI AB))) Af)
  (AH (AW (C3 [] [] (MH (pv 0)) (λ_ _ _ _=>B8) (λ_ _ _ _=>(BW FZ rfl T.z_int PyProof.Rows.boot_int (AA (pv 0) AB))))))),?_⟩
 walk_at "";refine⟨Cz tx.2,?_⟩
 by_cases h0:x.cps.size=0
 ·rw[qD (show ((x.length:Nat):Int)=0 by show ((x.cps.size:Nat):Int)=0;lia)];exact⟨by decide,hn (.inl h0) _ (AJ.refl _)⟩
 rw[qC (show ¬((x.length:Nat):Int)=0 by show ¬((x.cps.size:Nat):Int)=0;lia)];refine⟨_,rfl,x,rfl,tx.1,λD hD=>?_⟩;refine Hf (λi d8 Hx=>d8=((x.cps.toList.take i).map λc:Nat=>decide (48<=c)&&decide (c<=57)).map V.bl/\Hx=Ai H D (.lst d8)) ⟨rfl,rfl⟩ ?_ ?_
 ·rintro i c d8 Hx hc ⟨rfl,rfl⟩;walk_at "";rw[R4 c (Jz tx.1 hc)];refine⟨AF,?_,?_,by rw[DE]⟩
  ·rw[aW,aW,bJ,ai];have:=tx.2;exact Ap (by lia)
  ·rw[cQ,E2 hc];simp
 rintro d8 Hx ⟨rfl,rfl⟩;have e1:=AJ.new hD (.lst (((x.cps.toList.take x.cps.size).map λc:Nat=>decide (48<=c)&&decide (c<=57)).map V.bl));refine⟨D,rfl,_,Ag.of AF,?_⟩;rw[OZ];cases hf:Be 57 x with
 |false =>
  rw[qD rfl];exact⟨by decide,hn (.inr hf) _ e1⟩
 |true =>
  rw[qC (by decide)];refine⟨_,rfl,x,rfl,tx.1,λD2 hD2=>?_⟩;generalize Ai H D (.lst (((x.cps.toList.take x.cps.size).map λc:Nat=>decide (48<=c)&&decide (c<=57)).map V.bl))=H1 at e1 hD2⊢;refine Hf (λi d8 Hx=>d8=((x.cps.toList.take i).map λc:Nat=>(c:Int)-48).map V.int/\Hx=Ai H1 D2 (.lst d8)) ⟨rfl,rfl⟩ ?_ ?_
  ·rintro i c d8 Hx hc ⟨rfl,rfl⟩;have fg:=QJ hf hc;walk_at "";refine⟨by show 1<=640;decide,_,R5 c (by lia) fg.1,AF,?_,?_,by rw[DE]⟩
   ·rw[aW,aW,bJ,ai];have:=tx.2;exact Ap (by lia)
   ·rw[cQ,E2 hc];simp
  rintro d8 Hx ⟨rfl,rfl⟩;rw[be (by rw[ai];exact af _)];exact hy h0 hf D2 _ ⟨e1.trans (AJ.new hD2 _),e1.free hD2,AF⟩
theorem RD:AM ["text","figures","number"] ["text"] (AG VH):=BM
theorem YX(T:Ay w K mg t)(G_12:Aa P w K mg base 1 t.f_12 ["text"] (Fb t.c_81)):Aa P w K mg base 2 t.f_21 ["text"] (Gw t.c_81):=by
 refine A5 T.d_21 RD λvs H Q E h=>?_;obtain⟨x,rfl,tx,hy,hn⟩:=h;refine⟨rfl,λd9 A outer s hr=>?_⟩
 refine⟨_,(AC (AY 1 RD (O7 (Bq (DU bP PySem.F.slot_str_startswith PySem.F.type_str_startswith OX (pv 0) (AA AI AB))) (Cs Jx (pv 0) (DI AE) EO) (pv 0)))
  (AC (Aw (AZ D7 (Aj (JK K) rfl T.z_len bC (AA (AT G_12 (hr.mono (by decide)) rfl T.m_12 AK (AA (pv 1) AB)) AB)) (CK rfl T.g_MOST_FIGURES) (Ad _)) (AH (As rfl T.x_81 rfl T.m_81 Ah (AA AI AB))) Af)
  (AC (AY 2 RD (BW FZ rfl T.z_int PyProof.Rows.boot_int (AA (pv 0) AB)))
  (AC (Aw (AZ Dy (BW BO rfl T.z_str bY (AA (pv 2) AB)) (pv 0) (Ad _)) (AH (As rfl T.x_81 rfl T.m_81 Ah (AA AI AB))) Af)
  (AH (AW (pv 2))))))),?_⟩
 refine BI λN hN=>?_;unfold aG;walk_at ""
 suffices go:N [some (.str x),some (.str (Al x)),none] H by
  by_cases hs:PySem.Txt.startswith x (Str.ofString "-")=true
  ·rw[qD hs];unfold Al at go;rw[qD hs]at go;exact⟨Cz tx.2,go⟩
  ·rw[qC hs];unfold Al at go;rw[qC hs]at go;exact go
 refine hN _ _ ?_;clear hN N;refine BI λN hN=>?_;walk_at "";refine⟨Al x,rfl,MI tx,λh0 hf p H1 n1=>?_,λhb H1 e1=>hn (λn z=>hb.elim z.n0 λy=>qE z.fg (by rw[y];decide)) _ e1⟩;refine⟨p,rfl,_,.inl (Ag.of n1.2.2),?_⟩
 have wl:((DD (Al x)).map V.int).length=(Al x).cps.size:=by unfold DD;rw[aW,aW,ai]
 rw[wl]
 by_cases h6:60<(((Al x).cps.size:Nat):Int)
 ·rw[qD h6];exact⟨by decide,hn (λn z=>by have:=z.le;lia) _ n1.1⟩
 rw[qC h6];refine hN _ _ ?_;clear hN N;obtain⟨n,hr,hl⟩:=Od tx.2 h0 hf (by lia);walk_at "";refine⟨bB tx.2 (by decide),n,hr,hl,?_⟩
 by_cases he:Bw n=x
 ·rw[qC (λz=>z he)];exact⟨rfl,hy n ⟨h0,hf,by lia,he⟩ _ n1.1⟩
 ·rw[qD (show ¬Str.ofString (toString n)=x from he)];refine⟨rfl,by decide,hn (λk z=>he ?_) _ n1.1⟩;rw[<-JE tx.2 hr z];exact z.eq
theorem LZ:AM ["text","parts","signs","low","table"] ["text"] (AG VI):=BM
theorem YY(T:Ay w K mg t)(G_27:Aa P w K mg base 1 t.f_27 ["text"] (Fa t.c_81))(G_21:Aa P w K mg base 2 t.f_21 ["text"] (Gw t.c_81))(G_12:Aa P w K mg base 1 t.f_12 ["text"] (Fb t.c_81))(G_97:FR P w K mg base 4 t.f_97 ["signs","low","table"] (Ex t.c_79)):Aa P w K mg base 5 t.f_44 ["text"] (J7 t.c_81):=by
 refine A5 T.d_44 LZ λvs H Q E h=>?_;obtain⟨v,rfl,kv,hy,hn⟩:=h;refine⟨rfl,λd9 A outer s hr=>?_⟩
 refine⟨_,(AC (A7 (AT G_27 (hr.mono (by decide)) rfl T.m_27 AK (AA (pv 0) AB)))
  (AC (AY 1 LZ (DU bP PySem.F.slot_str_split PySem.F.type_str_split K6 (pv 0) (AA AI AB)))
  (AC (Aw (PW.pt (DS (AZ Dy (Aj (JK K) rfl T.z_len bC (AA (pv 1) AB)) AE (Ad _)) (Cr (AZ Dy (Aj B2 rfl T.z_len bC (AA (AN (BA K) (pv 1) AE (λ_ _=>rfl)) AB)) AE (Ad _))))) (AH (As rfl T.x_81 rfl T.m_81 Ah (AA AI AB))) Af)
  (AC (AY 2 LZ (AN (BA K) (AT G_12 (hr.mono (by decide)) rfl T.m_12 AK (AA (AN (BA K) (pv 1) AE (λ_ _=>rfl)) AB)) AE (λ_ _=>rfl)))
  (AC (AY 3 LZ (AT G_21 (hr.mono (by decide)) rfl T.m_21 AK (AA (AN (BA K) (pv 1) AE (λ_ _=>rfl)) AB)))
  (AC (AY 4 LZ (AT G_12 (hr.mono (by decide)) rfl T.m_12 AK (AA (AN (BA K) (pv 1) AE (λ_ _=>rfl)) AB)))
  (AH (Ro (W:=λσ cls D H'=>cls=.ref t.c_79/\D=none/\AJ H H'/\∀g lo d4,¬Dq v g lo d4) T.x_81 rfl T.m_81 Lx (λ_=>PassesOwnAt.leaving) rfl T.m_79 rfl rfl (λ_=>(AH (AW (Cv G_97 (hr.mono (by decide)) rfl T.m_97 Kq (AA (pv 2) (AA (pv 3) (AA (pv 4) AB))))))) (λ_=>(AA AI AB)))))))))),?_⟩
 refine BI λN hN=>?_;walk_at "";refine⟨v,rfl,kv,λhx=>hN _ _ ?_,λhx H1 e1=>hn (λg lo d4 z=>?_) _ e1⟩
 case refine_2 =>
  cases v with
  |str x=>exact hx x rfl
  |_=>exact z
 clear hN N;obtain⟨x,rfl⟩:=hx;have tx:Ee x:=kv;obtain⟨pl,pk⟩:=K7 tx;refine BI λN hN=>?_;walk_at "";refine⟨by decide,Cz tx.2,?_,λl hl=>hN _ _ ?_⟩
 ·exact Nat.le_trans (show _<=1000 by unfold BV at pl;lia) (by decide)
 clear hN N;have e1:=AJ.new hl (.lst ((BV x).map V.str));have h1:Ai H l (.lst ((BV x).map V.str)) l=some (.lst ((BV x).map V.str)):=AF;show Lf _ _ _ _ (Ai H l (.lst ((BV x).map V.str)));generalize Ai H l (.lst ((BV x).map V.str))=H1 at e1 h1⊢
 have no:∀(B:Prop),(∀a b c g lo d4,BV x=[a,b,c]->a.cps.size=1->Be 57 a=true->DD a=[g]->Hk b lo->c.cps.size≠0->Be 57 c=true->DD c=d4->2<=g->g<=9->EE g (d4.map V.int)->False)->∀g lo d4,¬Dq (V.str x) g lo d4:=λ_ h g lo d4 z=>by obtain⟨⟨a,b,c,e,k1,k2,k3,k4,k5,k6,k7⟩,g2,g9,ok⟩:=(z:Hl x g lo d4);exact h a b c g lo d4 e k1 k2 k3 k4 k5 k6 k7 g2 g9 ok
 generalize hps:BV x=ps at pl pk h1 no;refine BI λN hN=>?_;walk_at "";refine⟨_,.inl (Ag.of h1),?_⟩;rw[aW]
 by_cases h3:((ps.length:Nat):Int)=3
 case neg =>
  rw[qD h3];exact⟨by decide,hn (no True λa b c g lo d4 e=>qE (by rw[e];rfl) h3) _ e1⟩
 rw[qC (λz=>z h3)]
 obtain⟨a,b,c,rfl⟩:∃a b c,ps=[a,b,c]:=by
  match ps,h3 with
  |[a,b,c],_=>exact⟨a,b,c,rfl⟩
  |[],h=>exact qE h (by decide)
  |[_],h=>exact qE h (by simp only[List.length_cons,List.length_nil];lia)
  |[_,_],h=>exact qE h (by simp only[List.length_cons,List.length_nil];lia)
  |_::_::_::_::r,h=>exact qE h (by simp only[List.length_cons];lia)
 have no2:(∀g lo d4,a.cps.size=1->Be 57 a=true->DD a=[g]->Hk b lo->c.cps.size≠0->Be 57 c=true->DD c=d4->2<=g->g<=9->EE g (d4.map V.int)->False)->∀g lo d4,¬Dq (V.str x) g lo d4:=λh=>no True λa' b' c' g lo d4 e=>by cases e;exact h g lo d4
 clear no h3 pl;have ka:=pk a (by simp);have kb:=pk b (by simp);have kc:=pk c (by simp);clear pk;refine (BH (Ag.of h1) rfl ⟨a,rfl,Cz ka.2,?_⟩)
 by_cases h2:((a.length:Nat):Int)=1
 case neg =>
  rw[qD h2];exact⟨by decide,hn (no2 λg lo d4 k1=>qE (by show ((a.cps.size:Nat):Int)=1;lia) h2) _ e1⟩
 rw[qC (λz=>z h2)];refine hN _ _ ?_;clear hN N
 have a1:a.cps.size=1:=by have z:((a.cps.size:Nat):Int)=1:=h2;lia
 refine BI λN hN=>?_;walk_at "";refine (BH (Ag.of h1) rfl ⟨a,rfl,ka,λ_ fa p3 H3 n3=>?_,λz H3 e3=>hn (no2 λg lo d4 k1 k2=>z.elim (λy=>by lia) λy=>qE k2 (by rw[y];decide)) _ (e1.trans e3)⟩)
 obtain⟨g,hg⟩:∃g:Int,DD a=[g]:=by
  have z:(DD a).length=1:=by unfold DD;rw[aW,ai];exact a1
  match h:DD a,z with
  |[g],_=>exact⟨g,rfl⟩
 have h3:=n3.2.2;rw[hg]at h3;refine (BH (Ag.of h3) rfl (hN _ _ ?_));clear hN N;have e13:=e1.trans n3.1;have h13:=n3.1 _ _ h1;clear n3 h3 e1 h1;refine BI λN hN=>?_;walk_at "";refine (BH (Ag.of h13) rfl ⟨b,rfl,kb,λlo hlo H4 e4=>hN _ _ ?_,λz H4 e4=>hn (no2 λg lo d4 _ _ _ k4 _ _ _ _ _ _=>z lo k4) _ (e13.trans e4)⟩);clear hN N;have e14:=e13.trans e4;have h14:=e4 _ _ h13;clear e4 h13 e13;refine BI λN hN=>?_;walk_at "";refine (BH (Ag.of h14) rfl ⟨c,rfl,kc,λc0 fc p5 H5 n5=>hN _ _ ?_,λz H5 e5=>hn (no2 λg lo d4 _ _ _ _ k5 k6 _ _ _ _=>z.elim (λy=>k5 y) λy=>qE k6 (by rw[y];decide)) _ (e14.trans e5)⟩);clear hN N;have e15:=e14.trans n5.1;have h5:=n5.2.2;clear n5 h14 e14;walk_at "";refine⟨⟨.int g,.int lo,.ref p5,rfl,True.intro,True.intro,⟨_,.inl h5,Ch⟩,λg' lo' d4 a' eg el ep hs gg2 gg9 tok tbb r H6 e6 hR=>?_,λnb H6 e6=>⟨rfl,rfl,e15.trans e6,no2 λg' lo' d4 k1 k2 k3 k4 k5 k6 k7 k8 k9 k10=>nb ?_⟩⟩,?_⟩
 ·cases eg;cases el;cases ep;have zz:=DZ (hs.inj (.inl h5));subst zz;exact hy g lo (DD c) ⟨⟨a,b,c,hps,a1,fa,hg,hlo,c0,fc,rfl⟩,gg2,gg9,tok⟩ tbb r H6 (e15.trans e6) hR
 ·have eg:g=g':=by
   rw[hg]at k3;exact (List.cons.inj k3).1
  subst eg;rw[<-k7]at k10;exact⟨Ej k8 k9,g,rfl,p5,_,rfl,.inl h5,k10⟩
 ·rintro σ' cls D' H' ⟨rfl,rfl,e,nb⟩;exact⟨T.em_79_79,λea hea=>⟨by decide,AF,hn nb _ (e.trans (AJ.new hea _))⟩⟩
theorem YZ:AM ["signs"] ["signs"] (AG VJ):=BM
theorem Ya(T:Ay w K mg t) :Aa P w K mg base 1 t.f_14 ["signs"] (Ff):=by
 refine Az T.d_14 YZ λvs H Q E h=>?_;obtain⟨a,ws,rfl,hS,hb,hl,q⟩:=h;refine⟨rfl,λd9 A outer s hr=>?_⟩;refine⟨_,(AH (AW (DU bP bv bx ES AI (AA (C3 [] [] (PB (pv 0)) (λ_ _ _ _=>B8) (λ_ _ _ _=>(BW BO rfl T.z_str bY (AA (pv 0) AB)))) AB)))),?_⟩;walk_at "";refine⟨_,rfl,a,rfl,⟨_,Ar.of hS⟩,λD hD=>?_⟩;refine P2 (xs:=ws.map V.int) (λi d8 Hx=>d8=((ws.take i).map λn=>(⟨#[(48+n).toNat]⟩:Str)).map V.str/\Hx=Ai H D (.lst d8)) ⟨rfl,rfl⟩ (λi d8 Hx _ z=>by rw[z.2];exact Ar.of (AJ.new hD _ _ _ hS)) ?_ ?_
 ·rintro i x d8 Hx hx ⟨rfl,rfl⟩;obtain⟨v,hv,rfl⟩:=Ev hx;obtain⟨k,hk,k9⟩:∃k:Nat,v=((k:Nat):Int)/\k<9:=by have:=hb v (a8 hv);exact⟨v.toNat,by lia,by lia⟩
  subst hk;walk_at "";refine⟨K4 k k9,AF,?_,?_,by rw[DE]⟩
  ·rw[aW,aW,bJ];exact Ap (by lia)
  ·rw[cQ,hv,K3 k k9];simp;lia
 rintro d8 Hx ⟨rfl,rfl⟩;rw[aW,bN];refine⟨D,rfl,_,Ag.of AF,?_,?_⟩
 ·rw[QI (λn=>(48+n).toNat)];show ws.length+_*0<=_;lia
 ·rw[EG (λn=>(48+n).toNat)];exact q _ (AJ.new hD _)
theorem Yb:AM ["one"] ["one"] (AG VL):=BM
theorem Yc(T:Ay w K mg t)(G_14:Aa P w K mg base 1 t.f_14 ["signs"] (Ff)):Aa P w K mg base 2 t.f_47 ["one"] (MJ):=by
 refine Az T.d_47 Yb λvs H Q E h=>?_;obtain⟨r,g,lo,d4,rfl,hT,q⟩:=h;refine⟨rfl,λd9 A outer s hr=>?_⟩;refine⟨_,(AH (AW (DU bP bv bx ES AI (AA (Aq (AA (BW BO rfl T.z_str bY (AA (AN (C6 K) (pv 0) AE (λ_ _=>rfl)) AB)) (AA (BW BO rfl T.z_str bY (AA (AN (C6 K) (pv 0) AE (λ_ _=>rfl)) AB)) (AA (Ae hr G_14 T.m_14 (AA (AN (C6 K) (pv 0) AE (λ_ _=>rfl)) AB)) AB)))) AB)))),?_⟩;obtain⟨tb,h1,h2⟩:=id hT.rv;have hg2:=hT.g2;have hg9:=hT.g9;obtain⟨k,hk,k10⟩:∃k:Nat,g=((k:Nat):Int)/\k<10:=⟨g.toNat,by lia,by lia⟩;have ok:=hT.ok.1;rw[aW]at ok;walk_at "";refine (D1 (Ar.of h1) rfl ⟨g,rfl,EV (k:=1) (by lia) (by decide),?_⟩);refine (D1 (Ar.of h1) rfl ⟨lo,rfl,EV hT.far (by decide),?_⟩);refine (D1 (Ar.of h1) rfl ⟨tb,d4,rfl,h2,λn hn=>by have:=hT.tb n hn;lia,by lia,λH1 e1=>⟨by decide,λp hp=>?_⟩⟩);refine⟨[Str.ofString (toString g),Bw lo,E1 d4],Ag.of AF,?_,?_⟩
 ·have s1:=JD (k:=0) (n:=g) (by lia);have s2:=JD (k:=129) hT.far;have s3:=JF d4;show (Bw g).cps.size+((Bw lo).cps.size+((E1 d4).cps.size+0))+3*1<=_;lia
 ·have e:PySem.Txt.join (Str.ofString ":") [Str.ofString (toString g),Bw lo,E1 d4]=Bg g lo d4:=by
   show Builtin.Str.glued _ _=_;rw[PySem.StrLaws.glued_eq_join];show Str.ofString (toString g)++Str.ofString ":"++(Bw lo++Str.ofString ":"++E1 d4)=_;rw[hk,R8 k k10];unfold Bg;refine Ck ?_;show (_++_++(_++_++_):Array Nat).toList=(_++_++_++_++_:Array Nat).toList;simp only[Array.toList_append,List.append_assoc];rw[show (48+((k:Nat):Int)).toNat=48+k by lia]
  rw[e];exact q _ (e1.trans (AJ.new hp _))
theorem Tf:AM ["text","word"] ["text"] (AG VM):=BM
theorem Yd(T:Ay w K mg t)(G_27:Aa P w K mg base 1 t.f_27 ["text"] (Fa t.c_81))(G_12:Aa P w K mg base 1 t.f_12 ["text"] (Fb t.c_81)):Aa P w K mg base 2 t.f_45 ["text"] (Fc t.c_81):=by
 refine A5 T.d_45 Tf λvs H Q E h=>?_;obtain⟨v,rfl,kv,hy,hn⟩:=h;refine⟨rfl,λd9 A outer s hr=>?_⟩
 refine⟨_,(AC (A7 (AT G_27 (hr.mono (by decide)) rfl T.m_27 AK (AA (pv 0) AB)))
  (AC (Aw (AZ CP (pv 0) AI (Ad _)) (AH (AW (Aq AB))) Af)
  (AC (AY 1 Tf (AT G_12 (hr.mono (by decide)) rfl T.m_12 AK (AA (pv 0) AB)))
  (AC (Aw (AZ OB AE (pv 1) (by with_unfolding_all rfl)) (AH (As rfl T.x_81 rfl T.m_81 Ah (AA AI AB))) Af)
  (AH (AW (pv 1))))))),?_⟩
 walk_at "";refine⟨v,rfl,kv,λ⟨x,e⟩=>?_,λhx H' e=>?_⟩
 ·subst e;refine⟨rfl,?_⟩
  by_cases d:x=Str.ofString "-"
  ·rw[qD (by rw[d])];exact⟨by decide,λp hp=>hy [] (by show Jy x=_;unfold Jy;rw[qD d]) p _ ⟨AJ.new hp _,hp,AF⟩⟩
  rw[qC (λz=>d (V.str.inj z))];refine⟨x,rfl,kv,λh0 hf p H' n=>?_,λhz H' e=>?_⟩
  ·refine⟨p,_,rfl,.inl (Ag.of n.2.2),rfl,Ob _,_,rfl,?_⟩;have e9:(if false=true then !WF (V.int 9) ((DD x).map V.int) else WF (V.int 9) ((DD x).map V.int))=!Be 56 x:=by rw[qC (by decide),R7 hf]
   rw[e9];cases f6:Be 56 x with
   |true =>
    rw[qC (by decide)];exact hy (DD x) (by show Jy x=_;unfold Jy;rw[qC d,qC h0,qD f6]) p _ n
   |false =>
    rw[qD (by decide)];exact⟨by decide,hn (by show Jy x=_;unfold Jy;rw[qC d,qC h0,qC (by rw[f6];decide)]) _ n.1⟩
  ·refine hn ?_ _ e;show Jy x=none;unfold Jy;rw[qC d];rcases hz with z|z
   ·rw[qD z]
   ·rw[qC (show ¬Be 56 x=true by rw[Oa z];decide)]
    split<;>rfl
 ·refine hn ?_ _ e;cases v with
  |str x=>exact qE rfl (hx x)
  |_=>rfl
theorem Ye:AM ["word"] ["word"] (AG VN):=BM
theorem Yf(T:Ay w K mg t)(G_14:Aa P w K mg base 1 t.f_14 ["signs"] (Ff)):Aa P w K mg base 2 t.f_48 ["word"] (Ft):=by refine Az T.d_48 Ye λvs H Q E h=>?_;obtain⟨a,rfl,hF⟩:=h;refine⟨rfl,λd9 A outer s hr=>?_⟩;exact hF.elim
theorem Yg:AM ["text"] ["text"] (AG VO):=BM
theorem Yh(T:Ay w K mg t) :Aa P w K mg base 1 t.f_43 ["text"] (EL t):=by
 refine A5 T.d_43 Yg λvs H Q E h=>?_;obtain⟨x,rfl,tx,hy,hn⟩:=h;refine⟨rfl,λd9 A outer s hr=>?_⟩
 refine⟨_,(AC (Aw (PW.pt (DS (AZ CP (Aj B2 rfl T.z_len bC (AA (pv 0) AB)) AE (Ad _)) (DS (AZ D7 (Aj B2 rfl T.z_len bC (AA (pv 0) AB)) (CK rfl T.g_LONGEST_NAME) (Ad _)) (Cr (CI (Bq (Aj (EF rfl) rfl T.z_all dF (AA (C3 [] [] (MH (pv 0)) (λ_ _ _ _=>B8) (λ_ _ _ _=>(CN Ih (pv 0) (JA rfl T.g_LETTERS) (by with_unfolding_all rfl)))) AB)))))))) (AH (As rfl T.x_78 rfl T.m_78 Ah (AA AI AB))) Af)
  (AH (AW (pv 0)))),?_⟩
 walk_at "";refine⟨Cz tx.2,?_⟩
 by_cases h0:x.cps.size=0
 ·rw[qD (show ((x.length:Nat):Int)=0 by show ((x.cps.size:Nat):Int)=0;lia)];exact⟨by decide,hn (λz=>by have:=z.1;lia) _ _ (AJ.refl _)⟩
 rw[qC (show ¬((x.length:Nat):Int)=0 by show ¬((x.cps.size:Nat):Int)=0;lia)];refine⟨Cz tx.2,?_⟩
 by_cases h8:x.cps.size<=8
 rotate_left
 ·rw[qD (show 8<((x.length:Nat):Int) by show 8<((x.cps.size:Nat):Int);lia)];exact⟨by decide,hn (λz=>h8 z.2.1) _ _ (AJ.refl _)⟩
 rw[qC (show ¬8<((x.length:Nat):Int) by show ¬8<((x.cps.size:Nat):Int);lia)];refine⟨_,rfl,x,rfl,tx.1,λD hD=>?_⟩;refine Hf (λi d8 Hx=>d8=((x.cps.toList.take i).map λc:Nat=>decide (97<=c)&&decide (c<=122)).map V.bl/\Hx=Ai H D (.lst d8)) ⟨rfl,rfl⟩ ?_ ?_
 ·rintro i c d8 Hx hc ⟨rfl,rfl⟩;walk_at "";rw[Mf c (Jz tx.1 hc)];refine⟨AF,?_,?_,by rw[DE]⟩
  ·rw[aW,aW,bJ,ai];exact Ap (by lia)
  ·rw[cQ,E2 hc];simp
 rintro d8 Hx ⟨rfl,rfl⟩;have e1:=AJ.new hD (.lst (((x.cps.toList.take x.cps.size).map λc:Nat=>decide (97<=c)&&decide (c<=122)).map V.bl));refine⟨D,rfl,_,Ag.of AF,?_⟩;cases hf:(((x.cps.toList.take x.cps.size).map λc:Nat=>decide (97<=c)&&decide (c<=122)).all id) with
 |false =>
  rw[qD rfl];exact⟨by decide,hn (λz=>by rw[JN.mpr z.2.2]at hf;cases hf) _ _ e1⟩
 |true =>
  rw[qC (by decide)];exact hy ⟨by lia,h8,JN.mp hf⟩ _ e1
theorem Yi:AM ["rules","text"] ["rules","text"] (AG VP):=BM
theorem Yj(T:Ay w K mg t) :Aa P w K mg base 1 t.f_73 ["rules","text"] (EM t):=by
 refine A5 T.d_73 Yi λvs H Q E h=>?_;obtain⟨d,x,rs,rfl,hR,hy,hn⟩:=h;refine⟨rfl,λd9 A outer s hr=>?_⟩
 refine⟨_,(AC (Aw (Lc (Oi (DV hr) (pv 1) (pv 0))) (AH (As rfl T.x_78 rfl T.m_78 Ah (AA AI AB))) Af)
  (AH (AW (SG (DV hr) (pv 0) (pv 1) (λ_ _=>rfl))))),?_⟩
 walk_at "";refine⟨_,rfl,_,rfl,d,?_⟩;cases e:rs.lookup x with
 |none =>
  refine⟨_,rfl,hR.miss e,true,rfl,?_⟩;rw[qD rfl];exact⟨by decide,hn e _ _ (AJ.refl _)⟩
 |some q =>
  obtain⟨b,g,ok⟩:=hR.hit e;refine⟨_,rfl,g,false,rfl,?_⟩;rw[qC (by decide)];exact⟨_,rfl,_,rfl,d,_,rfl,g,hy q b e ok⟩
theorem WB:AM ["rules","name","one"] ["rules","name","one"] (AG Qp):=BM
theorem WC(T:Ay w K mg t) :Aa P w K mg base 1 t.f_101 ["rules","name","one"] (IA):=by
 refine Az T.d_101 WB λvs H Q E h=>?_;obtain⟨d,a,x,rs,q,rfl,hR,l8,ha,hx,qq⟩:=h;refine⟨rfl,λd9 A outer s hr=>?_⟩
 refine⟨_,(AC (SH (DV hr) (pv 0) (pv 1) (pv 2) rfl)
  (AH (AW AI))),?_⟩
 walk_at "";obtain⟨kvs,hd,lk,sx,hR'⟩:=hR.put l8 ha hx;exact⟨_,rfl,_,rfl,_,rfl,d,_,rfl,.inl ⟨kvs,.inr x,hd,rfl,lk,rfl⟩,qq _ sx hR'⟩
theorem Yk:AM ["truth"] ["truth"] (AG VQ):=BM
theorem Yl(T:Ay w K mg t) :Aa P w K mg base 1 t.f_49 ["truth"] (Ft):=by refine Az T.d_49 Yk λvs H Q E h=>?_;obtain⟨a,rfl,hF⟩:=h;refine⟨rfl,λd9 A outer s hr=>?_⟩;exact hF.elim
theorem Tg:AM ["rules","words","name"] ["rules","words"] (AG VR):=BM
theorem Ym(T:Ay w K mg t)(G_43:Aa P w K mg base 1 t.f_43 ["text"] (EL t))(G_101:Aa P w K mg base 1 t.f_101 ["rules","name","one"] (IA))(G_44:Aa P w K mg base 5 t.f_44 ["text"] (J7 t.c_81)):Aa P w K mg base 6 t.f_65 ["rules","words"] (BD (CB t)):=by
 refine A5 T.d_65 Tg λvs H Q E h=>?_;obtain⟨d,a,rs,ws,rfl,hR,hw,tx,h⟩:=h;refine⟨rfl,λd9 A outer s hr=>?_⟩
 refine⟨_,(AC (AY 2 Tg (AT G_43 (hr.mono (by decide)) rfl T.m_43 AK (AA (AN (BA K) (pv 1) AE (λ_ _=>rfl)) AB)))
  (AH (AW (Ae hr G_101 T.m_101 (AA (pv 0) (AA (pv 2) (AA (AT G_44 (hr.mono (by decide)) rfl T.m_44 AK (AA (AN (BA K) (pv 1) AE (λ_ _=>rfl)) AB)) AB))))))),?_⟩
 walk_at "";obtain⟨w0,x,y,rfl,h⟩:=h;have ty:=tx y (aa _ (aa _ (ah ..)));refine (BH (v:=.str x) (Ag.of hw) rfl ?_);rcases h with⟨n,r⟩|h
 ·exact Ek (tx x (aa _ (ah ..))) (.inl ⟨n,r⟩)
 refine Ek (tx x (aa _ (ah ..))) (.inr ⟨h.elim (λz=>z.1) λz=>z.1,λH1 e1=>?_⟩);refine (BH (v:=.str y) (Ag.of (e1 _ _ hw)) rfl ?_);rcases h with⟨_,no,r⟩|⟨_,lk,l8,q,hX,ok,qq⟩
 ·exact⟨.str y,rfl,ty,λg lo d4 z=>qE z (no g lo d4),λ_ H2 e2=>r _ _ (e1.trans e2)⟩
 refine⟨.str y,rfl,ty,λg lo d4 z hb r H2 e2 rv=>?_,λz=>qE hX (z _ _ _)⟩;obtain⟨rfl,rfl,rfl⟩:=ML ty z hX;obtain⟨o1,o2,o3,o4,o5,o6,o7⟩:=ok;have e12:=e1.trans e2;exact⟨d,r,x,rs,q,rfl,hR.same e12,l8,⟨rv,o1,o2,o3,o4,o5,o6,o7⟩,lk,λH' sx hR'=>qq H' (λb o n z=>sx b o n (e12 _ _ z)) hR'⟩
theorem Nq:AM ["rules","words","name","first","second"] ["rules","words"] (AG VS):=BM
theorem Yn(T:Ay w K mg t)(G_43:Aa P w K mg base 1 t.f_43 ["text"] (EL t))(G_73:Aa P w K mg base 1 t.f_73 ["rules","text"] (EM t))(G_101:Aa P w K mg base 1 t.f_101 ["rules","name","one"] (IA))(G_84:Aa P w K mg base 8 t.f_84 ["first","second"] (Md t)):Aa P w K mg base 9 t.f_60 ["rules","words"] (BD (DO t)):=by
 refine A5 T.d_60 Nq λvs H Q E h=>?_;obtain⟨d,a,rs,ws,rfl,hR,hw,tx,h⟩:=h;refine⟨rfl,λd9 A outer s hr=>?_⟩
 refine⟨_,(AC (AY 2 Nq (AT G_43 (hr.mono (by decide)) rfl T.m_43 AK (AA (AN (BA K) (pv 1) AE (λ_ _=>rfl)) AB)))
  (AC (AY 3 Nq (AT G_73 (hr.mono (by decide)) rfl T.m_73 AK (AA (pv 0) (AA (AN (BA K) (pv 1) AE (λ_ _=>rfl)) AB))))
  (AC (AY 4 Nq (AT G_73 (hr.mono (by decide)) rfl T.m_73 AK (AA (pv 0) (AA (AN (BA K) (pv 1) AE (λ_ _=>rfl)) AB))))
  (AH (AW (Ae hr G_101 T.m_101 (AA (pv 0) (AA (pv 2) (AA (AT G_84 (hr.mono (by decide)) rfl T.m_84 AK (AA (pv 3) (AA (pv 4) AB))) AB))))))))),?_⟩
 walk_at "";obtain⟨w0,x,y,z,rfl,h⟩:=h;refine (BH (v:=.str x) (Ag.of hw) rfl ?_);rcases h with⟨n,r⟩|h
 ·exact Ek (tx x (aa _ (ah ..))) (.inl ⟨n,r⟩)
 refine Ek (tx x (aa _ (ah ..))) (.inr ⟨h.elim (λz=>z.1) λz=>z.1,λH1 e1=>?_⟩);refine (BH (v:=.str y) (Ag.of (e1 _ _ hw)) rfl ?_);rcases h with⟨_,lk,r⟩|⟨_,q,lk,h⟩
 ·exact BK (hR.same e1) (.inl ⟨lk,r.same e1⟩)
 refine BK (hR.same e1) (.inr ⟨q,lk,λb ok=>?_⟩);refine (BH (v:=.str z) (Ag.of (e1 _ _ hw)) rfl ?_);rcases h with⟨lk2,r⟩|⟨q2,lk2,h⟩
 ·exact BK (hR.same e1) (.inl ⟨lk2,r.same e1⟩)
 refine BK (hR.same e1) (.inr ⟨q2,lk2,λc ok2=>?_⟩);exact⟨b,c,q,q2,rfl,ok,ok2,h.imp (λz=>⟨z.1,z.2.same e1⟩) λz=>⟨z.1,z.2.1,z.2.2.same e1⟩⟩
theorem Th:AM ["rules","words","name"] ["rules","words"] (AG VT):=BM
theorem Yo(T:Ay w K mg t)(G_43:Aa P w K mg base 1 t.f_43 ["text"] (EL t))(G_101:Aa P w K mg base 1 t.f_101 ["rules","name","one"] (IA))(G_87:Aa P w K mg base 6 t.f_87 ["one"] (Hb))(G_73:Aa P w K mg base 1 t.f_73 ["rules","text"] (EM t)):Aa P w K mg base 7 t.f_68 ["rules","words"] (BD (Fu t)):=by
 refine A5 T.d_68 Th λvs H Q E h=>?_;obtain⟨d,a,rs,ws,rfl,hR,hw,tx,h⟩:=h;refine⟨rfl,λd9 A outer s hr=>?_⟩
 refine⟨_,(AC (AY 2 Th (AT G_43 (hr.mono (by decide)) rfl T.m_43 AK (AA (AN (BA K) (pv 1) AE (λ_ _=>rfl)) AB)))
  (AH (AW (Ae hr G_101 T.m_101 (AA (pv 0) (AA (pv 2) (AA (Ae hr G_87 T.m_87 (AA (AT G_73 (hr.mono (by decide)) rfl T.m_73 AK (AA (pv 0) (AA (AN (BA K) (pv 1) AE (λ_ _=>rfl)) AB))) AB)) AB))))))),?_⟩
 walk_at "";obtain⟨w0,x,y,rfl,h⟩:=h;refine (BH (v:=.str x) (Ag.of hw) rfl ?_);rcases h with⟨n,r⟩|h
 ·exact Ek (tx x (aa _ (ah ..))) (.inl ⟨n,r⟩)
 refine Ek (tx x (aa _ (ah ..))) (.inr ⟨h.elim (λz=>z.1) λz=>z.1,λH1 e1=>?_⟩);refine (BH (v:=.str y) (Ag.of (e1 _ _ hw)) rfl ?_);rcases h with⟨_,lk,r⟩|⟨_,lx,l8,q,lk,qq⟩
 ·exact BK (hR.same e1) (.inl ⟨lk,r.same e1⟩)
 refine BK (hR.same e1) (.inr ⟨q,lk,λb ok=>?_⟩);refine⟨b,q.g,q.lo,q.tq,q.m,rfl,ok,λr H2 e2 ok2=>?_⟩;have e12:=e1.trans e2;exact⟨d,r,x,rs,⟨q.g,1-q.lo-(q.m:Int),Dc q.g q.tq q.m,q.m⟩,rfl,hR.same e12,l8,ok2,lx,λH' sx hR'=>qq H' (λb o n z=>sx b o n (e12 _ _ z)) hR'⟩
theorem Ti:AM ["rules","words","name"] ["rules","words"] (AG VU):=BM
theorem Yp(T:Ay w K mg t)(G_43:Aa P w K mg base 1 t.f_43 ["text"] (EL t))(G_101:Aa P w K mg base 1 t.f_101 ["rules","name","one"] (IA))(G_69:Aa P w K mg base 10 t.f_69 ["one"] (Mc t))(G_73:Aa P w K mg base 1 t.f_73 ["rules","text"] (EM t)):Aa P w K mg base 11 t.f_58 ["rules","words"] (BD (EY t)):=by
 refine A5 T.d_58 Ti λvs H Q E h=>?_;obtain⟨d,a,rs,ws,rfl,hR,hw,tx,h⟩:=h;refine⟨rfl,λd9 A outer s hr=>?_⟩
 refine⟨_,(AC (AY 2 Ti (AT G_43 (hr.mono (by decide)) rfl T.m_43 AK (AA (AN (BA K) (pv 1) AE (λ_ _=>rfl)) AB)))
  (AH (AW (Ae hr G_101 T.m_101 (AA (pv 0) (AA (pv 2) (AA (AT G_69 (hr.mono (by decide)) rfl T.m_69 AK (AA (AT G_73 (hr.mono (by decide)) rfl T.m_73 AK (AA (pv 0) (AA (AN (BA K) (pv 1) AE (λ_ _=>rfl)) AB))) AB)) AB))))))),?_⟩
 walk_at "";obtain⟨w0,x,y,rfl,h⟩:=h;refine (BH (v:=.str x) (Ag.of hw) rfl ?_);rcases h with⟨n,r⟩|h
 ·exact Ek (tx x (aa _ (ah ..))) (.inl ⟨n,r⟩)
 refine Ek (tx x (aa _ (ah ..))) (.inr ⟨h.elim (λz=>z.1) λz=>z.1,λH1 e1=>?_⟩);refine (BH (v:=.str y) (Ag.of (e1 _ _ hw)) rfl ?_);rcases h with⟨_,lk,r⟩|⟨_,q,lk,h⟩
 ·exact BK (hR.same e1) (.inl ⟨lk,r.same e1⟩)
 refine BK (hR.same e1) (.inr ⟨q,lk,λb ok=>?_⟩);exact⟨b,q,rfl,ok,h.imp (λz=>⟨z.1,z.2.same e1⟩) λz=>⟨z.1,z.2.same e1⟩⟩
theorem RE:AM ["rules","words","name","one"] ["rules","words"] (AG VV):=BM
theorem Yq(T:Ay w K mg t)(G_43:Aa P w K mg base 1 t.f_43 ["text"] (EL t))(G_73:Aa P w K mg base 1 t.f_73 ["rules","text"] (EM t))(G_101:Aa P w K mg base 1 t.f_101 ["rules","name","one"] (IA))(G_93:Aa P w K mg base 5 t.f_93 ["one","by"] (LO))(G_21:Aa P w K mg base 2 t.f_21 ["text"] (Gw t.c_81)):Aa P w K mg base 6 t.f_62 ["rules","words"] (BD (Cn t)):=by
 refine A5 T.d_62 RE λvs H Q E h=>?_;obtain⟨d,a,rs,ws,rfl,hR,hw,tx,h⟩:=h;refine⟨rfl,λd9 A outer s hr=>?_⟩
 refine⟨_,(AC (AY 2 RE (AT G_43 (hr.mono (by decide)) rfl T.m_43 AK (AA (AN (BA K) (pv 1) AE (λ_ _=>rfl)) AB)))
  (AC (AY 3 RE (AT G_73 (hr.mono (by decide)) rfl T.m_73 AK (AA (pv 0) (AA (AN (BA K) (pv 1) AE (λ_ _=>rfl)) AB))))
  (AH (AW (Ae hr G_101 T.m_101 (AA (pv 0) (AA (pv 2) (AA (Ae hr G_93 T.m_93 (AA (pv 3) (AA (AT G_21 (hr.mono (by decide)) rfl T.m_21 AK (AA (AN (BA K) (pv 1) AE (λ_ _=>rfl)) AB)) AB))) AB)))))))),?_⟩
 walk_at "";obtain⟨w0,x,y,z,rfl,h⟩:=h;refine (BH (v:=.str x) (Ag.of hw) rfl ?_);rcases h with⟨n,r⟩|h
 ·exact Ek (tx x (aa _ (ah ..))) (.inl ⟨n,r⟩)
 refine Ek (tx x (aa _ (ah ..))) (.inr ⟨h.elim (λz=>z.1) λz=>z.1,λH1 e1=>?_⟩);refine (BH (v:=.str y) (Ag.of (e1 _ _ hw)) rfl ?_);rcases h with⟨_,lk,r⟩|⟨_,q,lk,no,r⟩
 ·exact BK (hR.same e1) (.inl ⟨lk,r.same e1⟩)
 refine BK (hR.same e1) (.inr ⟨q,lk,λb ok=>?_⟩);refine (BH (v:=.str z) (Ag.of (e1 _ _ hw)) rfl ?_);exact⟨z,rfl,tx z (aa _ (aa _ (aa _ (ah ..)))),λn y=>qE y (no n),λ_ H2 e2=>r _ _ (e1.trans e2)⟩
theorem Yr:AM ["rules","words"] ["rules","words"] (AG VW):=BM
theorem Ys(T:Ay w K mg t)(G_73:Aa P w K mg base 1 t.f_73 ["rules","text"] (EM t)):Aa P w K mg base 2 t.f_59 ["rules","words"] (BD (Gx t)):=by
 refine A5 T.d_59 Yr λvs H Q E h=>?_;obtain⟨d,a,rs,ws,rfl,hR,hw,tx,h⟩:=h;refine⟨rfl,λd9 A outer s hr=>?_⟩
 refine⟨_,(AC (A7 (AT G_73 (hr.mono (by decide)) rfl T.m_73 AK (AA (pv 0) (AA (AN (BA K) (pv 1) AE (λ_ _=>rfl)) AB))))
  Cc),?_⟩
 walk_at "";obtain⟨w0,x,rfl,h⟩:=h;refine (BH (v:=.str x) (Ag.of hw) rfl ?_);exact BK hR (.inl h)
theorem Yt:AM ["rules","words"] ["rules","words"] (AG VX):=BM
theorem Yu(T:Ay w K mg t) :Aa P w K mg base 1 t.f_46 ["rules","words"] (BD Fv):=by
 refine A5 T.d_46 Yt λvs H Q E h=>?_;obtain⟨d,a,rs,ws,rfl,hR,hw,tx,h⟩:=h;refine⟨rfl,λd9 A outer s hr=>?_⟩;refine⟨_,(AH (AW (DU bP bv bx ES AI (AA (Aj (LK rfl) rfl T.z_sorted PyProof.Rows.boot_sorted (AA (pv 0) AB)) AB)))),?_⟩;walk_at "";obtain⟨w0,rfl,h8,q⟩:=h;obtain⟨l9,kvs,hd,hp⟩:=hR;have ln:=Paired.length hp;refine⟨kvs,.inl hd,rs.map Prod.fst,O0 hp,by lia,λl zs hl pm so=>⟨zs,Ag.of AF,?_,q zs pm so _ (AJ.new hl _)⟩⟩
 have a:=Nf (l:=zs) λx hx=>by obtain⟨p,hp,rfl⟩:=bL.mp (pm.mem_iff.mp hx);exact h8 p hp
 have b:=pm.length_eq;rw[aW]at b;show _+zs.length*1<=_;lia
theorem Yv:AM ["rules","words"] ["rules","words"] (AG VY):=BM
theorem Yw(T:Ay w K mg t)(G_47:Aa P w K mg base 2 t.f_47 ["one"] (MJ))(G_85:Aa P w K mg base 7 t.f_85 ["one"] (De))(G_73:Aa P w K mg base 1 t.f_73 ["rules","text"] (EM t)):Aa P w K mg base 8 t.f_67 ["rules","words"] (BD (Dw t)):=by
 refine A5 T.d_67 Yv λvs H Q E h=>?_;obtain⟨d,a,rs,ws,rfl,hR,hw,tx,h⟩:=h;refine⟨rfl,λd9 A outer s hr=>?_⟩;refine⟨_,(AH (AW (Ae hr G_47 T.m_47 (AA (Ae hr G_85 T.m_85 (AA (AT G_73 (hr.mono (by decide)) rfl T.m_73 AK (AA (pv 0) (AA (AN (BA K) (pv 1) AE (λ_ _=>rfl)) AB))) AB)) AB)))),?_⟩;walk_at "";obtain⟨w0,x,rfl,h⟩:=h;refine (BH (v:=.str x) (Ag.of hw) rfl ?_);rcases h with h|⟨q,lk,nw,far,qq⟩
 ·exact BK hR (.inl h)
 refine BK hR (.inr ⟨q,lk,λb ok=>?_⟩);refine⟨b,q.g,q.lo,q.tq,q.m,rfl,ok,λl M n r H1 e1 ok1=>?_⟩;obtain⟨rfl,rfl⟩:=Fi ok.g2 ok.len n nw;rw[HV ok.g2 q.lo ok.len]at ok1;exact⟨r,q.g,q.lo,q.tq,rfl,⟨ok1.v,ok1.g2,ok1.g9,ok1.tabOk,ok1.tb,far⟩,λH2 e2=>qq H2 (e1.trans e2)⟩
theorem Yx:AM ["rules","words"] ["rules","words"] (AG VZ):=BM
theorem Yy(T:Ay w K mg t)(G_41:Aa P w K mg base 5 t.f_41 ["one"] (Ey))(G_73:Aa P w K mg base 1 t.f_73 ["rules","text"] (EM t)):Aa P w K mg base 6 t.f_35 ["rules","words"] (BD (GM t)):=by
 refine A5 T.d_35 Yx λvs H Q E h=>?_;obtain⟨d,a,rs,ws,rfl,hR,hw,tx,h⟩:=h;refine⟨rfl,λd9 A outer s hr=>?_⟩;refine⟨_,(AH (AW (BW BO rfl T.z_str bY (AA (Ae hr G_41 T.m_41 (AA (AT G_73 (hr.mono (by decide)) rfl T.m_73 AK (AA (pv 0) (AA (AN (BA K) (pv 1) AE (λ_ _=>rfl)) AB))) AB)) AB)))),?_⟩;walk_at "";obtain⟨w0,x,rfl,h⟩:=h;refine (BH (v:=.str x) (Ag.of hw) rfl ?_);rcases h with h|⟨q,lk,far,qq⟩
 ·exact BK hR (.inl h)
 refine BK hR (.inr ⟨q,lk,λb ok=>?_⟩);exact⟨b,q.g,q.lo,q.tq,rfl,ok.g2,ok.g9,ok.v,ok.tb,λH1 e1=>⟨_,rfl,Qr far,qq H1 e1⟩⟩
theorem Tj:AM ["rules","words","one"] ["rules","words"] (AG Va):=BM
theorem Yz(T:Ay w K mg t)(G_73:Aa P w K mg base 1 t.f_73 ["rules","text"] (EM t))(G_49:Aa P w K mg base 1 t.f_49 ["truth"] (Ft))(G_98:Aa P w K mg base 8 t.f_98 ["one","other"] (LO)):Aa P w K mg base 9 t.f_66 ["rules","words"] (BD (Gy t)):=by
 refine A5 T.d_66 Tj λvs H Q E h=>?_;obtain⟨d,a,rs,ws,rfl,hR,hw,tx,h⟩:=h;refine⟨rfl,λd9 A outer s hr=>?_⟩
 refine⟨_,(AC (AY 2 Tj (AT G_73 (hr.mono (by decide)) rfl T.m_73 AK (AA (pv 0) (AA (AN (BA K) (pv 1) AE (λ_ _=>rfl)) AB))))
  (AH (AW (Ae hr G_49 T.m_49 (AA (Ae hr G_98 T.m_98 (AA (pv 2) (AA (AT G_73 (hr.mono (by decide)) rfl T.m_73 AK (AA (pv 0) (AA (AN (BA K) (pv 1) AE (λ_ _=>rfl)) AB))) AB))) AB))))),?_⟩
 walk_at "";obtain⟨w0,x,y,rfl,h⟩:=h;refine (BH (v:=.str x) (Ag.of hw) rfl ?_);rcases h with h|⟨q,lk,h⟩
 ·exact BK hR (.inl h)
 refine BK hR (.inr ⟨q,lk,λb ok=>?_⟩);refine (BH (v:=.str y) (Ag.of hw) rfl ?_);exact BK hR (.inl h)
theorem Tk:AM ["rules","words","one"] ["rules","words"] (AG Vb):=BM
theorem Y0(T:Ay w K mg t)(G_73:Aa P w K mg base 1 t.f_73 ["rules","text"] (EM t))(G_48:Aa P w K mg base 2 t.f_48 ["word"] (Ft))(G_100:Aa P w K mg base 4 t.f_100 ["one","row"] (E6 t 0))(G_45:Aa P w K mg base 2 t.f_45 ["text"] (Fc t.c_81)):Aa P w K mg base 5 t.f_74 ["rules","words"] (BD (Bh t 0)):=by
 refine A5 T.d_74 Tk λvs H Q E h=>?_;obtain⟨d,a,rs,ws,rfl,hR,hw,tx,h⟩:=h;refine⟨rfl,λd9 A outer s hr=>?_⟩
 refine⟨_,(AC (AY 2 Tk (AT G_73 (hr.mono (by decide)) rfl T.m_73 AK (AA (pv 0) (AA (AN (BA K) (pv 1) AE (λ_ _=>rfl)) AB))))
  (AH (AW (Ae hr G_48 T.m_48 (AA (AT G_100 (hr.mono (by decide)) rfl T.m_100 AK (AA (pv 2) (AA (AT G_45 (hr.mono (by decide)) rfl T.m_45 AK (AA (AN (BA K) (pv 1) AE (λ_ _=>rfl)) AB)) AB))) AB))))),?_⟩
 walk_at "";obtain⟨w0,x,y,rfl,h⟩:=h;refine (BH (v:=.str x) (Ag.of hw) rfl ?_);rcases h with h|⟨q,lk,h⟩
 ·exact BK hR (.inl h)
 refine BK hR (.inr ⟨q,lk,λb ok=>?_⟩);refine (BH (v:=.str y) (Ag.of hw) rfl ?_);rcases h with⟨no,r⟩|⟨us,hu,bd,r⟩
 ·exact⟨.str y,rfl,tx y (aa _ (aa _ (ah ..))),λws z=>(by rw[no]at z;cases z),λ_ H2 e2=>r _ _ e2⟩
 refine⟨.str y,rfl,tx y (aa _ (aa _ (ah ..))),λws z p H1 n=>?_,λz=>(by rw[hu]at z;cases z)⟩;rw[hu]at z;cases z;exact⟨b,p,q,us,rfl,ok.same n.1,n.2.2,bd,r.same n.1⟩
theorem Tl:AM ["rules","words","one"] ["rules","words"] (AG Vc):=BM
theorem Y1(T:Ay w K mg t)(G_73:Aa P w K mg base 1 t.f_73 ["rules","text"] (EM t))(G_48:Aa P w K mg base 2 t.f_48 ["word"] (Ft))(G_57:Aa P w K mg base 6 t.f_57 ["one","ring"] (E6 t 1))(G_45:Aa P w K mg base 2 t.f_45 ["text"] (Fc t.c_81)):Aa P w K mg base 7 t.f_64 ["rules","words"] (BD (Bh t 1)):=by
 refine A5 T.d_64 Tl λvs H Q E h=>?_;obtain⟨d,a,rs,ws,rfl,hR,hw,tx,h⟩:=h;refine⟨rfl,λd9 A outer s hr=>?_⟩
 refine⟨_,(AC (AY 2 Tl (AT G_73 (hr.mono (by decide)) rfl T.m_73 AK (AA (pv 0) (AA (AN (BA K) (pv 1) AE (λ_ _=>rfl)) AB))))
  (AH (AW (Ae hr G_48 T.m_48 (AA (AT G_57 (hr.mono (by decide)) rfl T.m_57 AK (AA (pv 2) (AA (AT G_45 (hr.mono (by decide)) rfl T.m_45 AK (AA (AN (BA K) (pv 1) AE (λ_ _=>rfl)) AB)) AB))) AB))))),?_⟩
 walk_at "";obtain⟨w0,x,y,rfl,h⟩:=h;refine (BH (v:=.str x) (Ag.of hw) rfl ?_);rcases h with h|⟨q,lk,h⟩
 ·exact BK hR (.inl h)
 refine BK hR (.inr ⟨q,lk,λb ok=>?_⟩);refine (BH (v:=.str y) (Ag.of hw) rfl ?_);rcases h with⟨no,r⟩|⟨us,hu,bd,r⟩
 ·exact⟨.str y,rfl,tx y (aa _ (aa _ (ah ..))),λws z=>(by rw[no]at z;cases z),λ_ H2 e2=>r _ _ e2⟩
 refine⟨.str y,rfl,tx y (aa _ (aa _ (ah ..))),λws z p H1 n=>?_,λz=>(by rw[hu]at z;cases z)⟩;rw[hu]at z;cases z;exact⟨b,p,q,us,rfl,ok.same n.1,n.2.2,bd,r.same n.1⟩
theorem Tn:AM ["rules","words","one"] ["rules","words"] (AG Vd):=BM
theorem Y2(T:Ay w K mg t)(G_73:Aa P w K mg base 1 t.f_73 ["rules","text"] (EM t))(G_20:Aa P w K mg base 4 t.f_20 ["one","row"] (E6 t 0))(G_45:Aa P w K mg base 2 t.f_45 ["text"] (Fc t.c_81)):Aa P w K mg base 5 t.f_34 ["rules","words"] (BD (Bh t 0)):=by
 refine A5 T.d_34 Tn λvs H Q E h=>?_;obtain⟨d,a,rs,ws,rfl,hR,hw,tx,h⟩:=h;refine⟨rfl,λd9 A outer s hr=>?_⟩
 refine⟨_,(AC (AY 2 Tn (AT G_73 (hr.mono (by decide)) rfl T.m_73 AK (AA (pv 0) (AA (AN (BA K) (pv 1) AE (λ_ _=>rfl)) AB))))
  (AH (AW (BW BO rfl T.z_str bY (AA (AT G_20 (hr.mono (by decide)) rfl T.m_20 AK (AA (pv 2) (AA (AT G_45 (hr.mono (by decide)) rfl T.m_45 AK (AA (AN (BA K) (pv 1) AE (λ_ _=>rfl)) AB)) AB))) AB))))),?_⟩
 walk_at "";obtain⟨w0,x,y,rfl,h⟩:=h;refine (BH (v:=.str x) (Ag.of hw) rfl ?_);rcases h with h|⟨q,lk,h⟩
 ·exact BK hR (.inl h)
 refine BK hR (.inr ⟨q,lk,λb ok=>?_⟩);refine (BH (v:=.str y) (Ag.of hw) rfl ?_);rcases h with⟨no,r⟩|⟨us,hu,bd,r⟩
 ·exact⟨.str y,rfl,tx y (aa _ (aa _ (ah ..))),λws z=>(by rw[no]at z;cases z),λ_ H2 e2=>r _ _ e2⟩
 refine⟨.str y,rfl,tx y (aa _ (aa _ (ah ..))),λws z p H1 n=>?_,λz=>(by rw[hu]at z;cases z)⟩;rw[hu]at z;cases z;exact⟨b,p,q,us,rfl,ok.same n.1,n.2.2,bd,r.same n.1⟩
theorem To:AM ["rules","words","stretch"] ["rules","words"] (AG Ve):=BM
theorem Y3(T:Ay w K mg t)(G_96:Aa P w K mg base 10 t.f_96 ["one"] (Ce t))(G_73:Aa P w K mg base 1 t.f_73 ["rules","text"] (EM t)):Aa P w K mg base 11 t.f_63 ["rules","words"] (BD (Bp t)):=by
 refine A5 T.d_63 To λvs H Q E h=>?_;obtain⟨d,a,rs,ws,rfl,hR,hw,tx,h⟩:=h;refine⟨rfl,λd9 A outer s hr=>?_⟩
 refine⟨_,(AC (AY 2 To (AT G_96 (hr.mono (by decide)) rfl T.m_96 AK (AA (AT G_73 (hr.mono (by decide)) rfl T.m_73 AK (AA (pv 0) (AA (AN (BA K) (pv 1) AE (λ_ _=>rfl)) AB))) AB)))
  Cc),?_⟩
 walk_at "";obtain⟨w0,x,rfl,h⟩:=h;refine (BH (v:=.str x) (Ag.of hw) rfl ?_);rcases h with h|⟨q,lk,wd,r⟩
 ·exact BK hR (.inl h)
 exact BK hR (.inr ⟨q,lk,λb ok=>⟨b,q,rfl,ok,wd,r⟩⟩)
theorem Y4:AM ["rules","words"] ["rules","words"] (AG Vf):=BM
theorem Y5(T:Ay w K mg t)(G_49:Aa P w K mg base 1 t.f_49 ["truth"] (Ft))(G_30:Aa P w K mg base 10 t.f_30 ["one"] (Ce t))(G_73:Aa P w K mg base 1 t.f_73 ["rules","text"] (EM t)):Aa P w K mg base 11 t.f_75 ["rules","words"] (BD (Bp t)):=by
 refine A5 T.d_75 Y4 λvs H Q E h=>?_;obtain⟨d,a,rs,ws,rfl,hR,hw,tx,h⟩:=h;refine⟨rfl,λd9 A outer s hr=>?_⟩;refine⟨_,(AH (AW (Ae hr G_49 T.m_49 (AA (AT G_30 (hr.mono (by decide)) rfl T.m_30 AK (AA (AT G_73 (hr.mono (by decide)) rfl T.m_73 AK (AA (pv 0) (AA (AN (BA K) (pv 1) AE (λ_ _=>rfl)) AB))) AB)) AB)))),?_⟩;walk_at "";obtain⟨w0,x,rfl,h⟩:=h;refine (BH (v:=.str x) (Ag.of hw) rfl ?_);rcases h with h|⟨q,lk,wd,r⟩
 ·exact BK hR (.inl h)
 exact BK hR (.inr ⟨q,lk,λb ok=>⟨b,q,rfl,ok,wd,r⟩⟩)
theorem Y6:AM ["weights"] ["weights"] (AG Vg):=BM
theorem Y7(T:Ay w K mg t) :Aa P w K mg base 1 t.f_15 ["weights"] (Ft):=by refine Az T.d_15 Y6 λvs H Q E h=>?_;obtain⟨a,rfl,hF⟩:=h;refine⟨rfl,λd9 A outer s hr=>?_⟩;exact hF.elim
theorem Y8:AM ["rules","words"] ["rules","words"] (AG Vh):=BM
theorem Y9(T:Ay w K mg t)(G_15:Aa P w K mg base 1 t.f_15 ["weights"] (Ft))(G_53:Aa P w K mg base 10 t.f_53 ["one"] (Ce t))(G_73:Aa P w K mg base 1 t.f_73 ["rules","text"] (EM t)):Aa P w K mg base 11 t.f_61 ["rules","words"] (BD (Bp t)):=by
 refine A5 T.d_61 Y8 λvs H Q E h=>?_;obtain⟨d,a,rs,ws,rfl,hR,hw,tx,h⟩:=h;refine⟨rfl,λd9 A outer s hr=>?_⟩;refine⟨_,(AH (AW (DU bP bv bx ES AI (AA (C3 [] [] (Nd K (AT G_53 (hr.mono (by decide)) rfl T.m_53 AK (AA (AT G_73 (hr.mono (by decide)) rfl T.m_73 AK (AA (pv 0) (AA (AN (BA K) (pv 1) AE (λ_ _=>rfl)) AB))) AB))) (λ_ _ _ _=>B8) (λ_ _ _ _=>(Ae hr G_15 T.m_15 (AA (pv 0) AB)))) AB)))),?_⟩;walk_at "";obtain⟨w0,x,rfl,h⟩:=h;refine⟨_,rfl,_,rfl,a,_,1,.str x,rfl,rfl,Ag.of hw,rfl,?_⟩;dsimp only[G6,List.cons_append,List.nil_append];rcases h with h|⟨q,lk,wd,r⟩
 ·exact BK hR (.inl h)
 exact BK hR (.inr ⟨q,lk,λb ok=>(⟨b,q,rfl,ok,wd,r⟩:Ce t [.ref b] H _ E)⟩)
theorem Z5:AM ["self"] ["self"] (AG Zq):=BM
theorem Z6(T:Ay w K mg t) :Aa P w K mg base 1 t.f_7 ["self"] (Qs t):=by
 refine Az T.d_7 Z5 λvs H Q E h=>?_;obtain⟨x,dx,rfl,hx,q⟩:=h;refine⟨rfl,λd9 A outer s hr=>?_⟩;refine⟨_,(AH (UB (pv 0) QP rfl)),?_⟩;walk_at "";intro d hd;have dx':d≠x:=λe=>by rw[e,hx]at hd;cases hd
 refine⟨_,rfl,x,_,dx,[],rfl,AJ.new hd _ _ _ hx,T.th_95.cl,T.na_Book_rules,by decide,?_⟩;exact q d _ (λH2 e n=>(e.trans (AJ.new hd _)).into n) hd ⟨⟨dx,AF⟩,bj _,[],by rw[AR dx'];exact AF,.nil⟩
theorem Tp:AM ["self","row","words"] ["self","row"] (AG Vi):=BM
theorem ZA(T:Ay w K mg t)(G_65:Aa P w K mg base 6 t.f_65 ["rules","words"] (BD (CB t)))(G_60:Aa P w K mg base 9 t.f_60 ["rules","words"] (BD (DO t)))(G_68:Aa P w K mg base 7 t.f_68 ["rules","words"] (BD (Fu t)))(G_58:Aa P w K mg base 11 t.f_58 ["rules","words"] (BD (EY t)))(G_62:Aa P w K mg base 6 t.f_62 ["rules","words"] (BD (Cn t)))(G_59:Aa P w K mg base 2 t.f_59 ["rules","words"] (BD (Gx t)))(G_46:Aa P w K mg base 1 t.f_46 ["rules","words"] (BD Fv))(G_67:Aa P w K mg base 8 t.f_67 ["rules","words"] (BD (Dw t)))(G_35:Aa P w K mg base 6 t.f_35 ["rules","words"] (BD (GM t)))(G_66:Aa P w K mg base 9 t.f_66 ["rules","words"] (BD (Gy t)))(G_74:Aa P w K mg base 5 t.f_74 ["rules","words"] (BD (Bh t 0)))(G_64:Aa P w K mg base 7 t.f_64 ["rules","words"] (BD (Bh t 1)))(G_34:Aa P w K mg base 5 t.f_34 ["rules","words"] (BD (Bh t 0)))(G_63:Aa P w K mg base 11 t.f_63 ["rules","words"] (BD (Bp t)))(G_75:Aa P w K mg base 11 t.f_75 ["rules","words"] (BD (Bp t)))(G_61:Aa P w K mg base 11 t.f_61 ["rules","words"] (BD (Bp t))):Aa P w K mg base 12 t.f_50 ["self","row"] (IB t):=by
 refine A5 T.d_50 Tp λvs H Q E h=>?_;obtain⟨b,d,rs,v,rfl,bk,tv,h⟩:=h;refine⟨rfl,λd9 A outer s hr=>?_⟩
 refine⟨_,(AC (Aw (CI (Bq (Cb rfl T.z_isinstance (pv 1) (HC rfl T.z_str PyProof.Rows.boot_str)))) (AH (As rfl T.x_88 rfl T.m_88 Ah (AA AI AB))) Af)
  (AC (AY 2 Tp (DU bP PySem.F.slot_str_split PySem.F.type_str_split K6 (pv 1) (AA AI AB)))
  (AC (Aw (PW.pt (DS (Lc (Ou T.r_ROWS rfl rfl T.m_ROWS (AN (BA K) (pv 2) AE (λ_ _=>rfl))) (h1:=by with_unfolding_all rfl)) (Cr (AZ Dy (Aj (JK K) rfl T.z_len bC (AA (pv 2) AB)) (AN (C6 K) (Nc T.r_ROWS rfl rfl T.m_ROWS (AN (BA K) (pv 2) AE (λ_ _=>rfl)) (λ_ _=>rfl)) AE (λ_ _=>rfl)) (Ad _))))) (AH (As rfl T.x_88 rfl T.m_88 Ah (AA AI AB))) Af)
  (AH (AW (Ov (P:=P) (w:=w) (K:=K) (mg:=mg) (base:=base) (k:=11) (hr.mono (by decide)) AK (AN (C6 K) (Nc T.r_ROWS rfl rfl T.m_ROWS (AN (BA K) (pv 2) AE (λ_ _=>rfl)) (λ_ _=>rfl)) AE (λ_ _=>rfl)) (AA (UA (pv 0) rfl) (AA (pv 2) AB)))))))),?_⟩
 have d4:Paired (λ(p:Str×Nat×D0) (q:Str×V)=>p.1=q.1/\Zw P w K mg base p.2 q.2) (Oz t) (JL t):=(.cons ⟨rfl,_,_,_,rfl,T.q_ROWS_rule,G_65.mono (by decide)⟩ (.cons ⟨rfl,_,_,_,rfl,T.q_ROWS_join,G_60.mono (by decide)⟩ (.cons ⟨rfl,_,_,_,rfl,T.q_ROWS_turn,G_68.mono (by decide)⟩ (.cons ⟨rfl,_,_,_,rfl,T.q_ROWS_back,G_58.mono (by decide)⟩ (.cons ⟨rfl,_,_,_,rfl,T.q_ROWS_move,G_62.mono (by decide)⟩ (.cons ⟨rfl,_,_,_,rfl,T.q_ROWS_drop,G_59.mono (by decide)⟩ (.cons ⟨rfl,_,_,_,rfl,T.q_ROWS_names,G_46.mono (by decide)⟩ (.cons ⟨rfl,_,_,_,rfl,T.q_ROWS_show,G_67.mono (by decide)⟩ (.cons ⟨rfl,_,_,_,rfl,T.q_ROWS_number,G_35.mono (by decide)⟩ (.cons ⟨rfl,_,_,_,rfl,T.q_ROWS_same,G_66.mono (by decide)⟩ (.cons ⟨rfl,_,_,_,rfl,T.q_ROWS_led,G_74.mono (by decide)⟩ (.cons ⟨rfl,_,_,_,rfl,T.q_ROWS_ring,G_64.mono (by decide)⟩ (.cons ⟨rfl,_,_,_,rfl,T.q_ROWS_before,G_34.mono (by decide)⟩ (.cons ⟨rfl,_,_,_,rfl,T.q_ROWS_onto,G_63.mono (by decide)⟩ (.cons ⟨rfl,_,_,_,rfl,T.q_ROWS_one,G_75.mono (by decide)⟩ (.cons ⟨rfl,_,_,_,rfl,T.q_ROWS_kept,G_61.mono (by decide)⟩ .nil))))))))))))))));walk_at "";rcases h with⟨no,r⟩|⟨x,rfl,w0,ws,hsp,h⟩
 ·cases v with
  |str x=>exact qE rfl (no x)
  |int y=>exact⟨_,.of (.int y),_,TD,by rw[qD rfl];exact⟨by decide,r _ _ (AJ.refl _)⟩⟩
  |bl y=>exact⟨_,.of (.bl y),_,TF,by rw[qD rfl];exact⟨by decide,r _ _ (AJ.refl _)⟩⟩
  |non=>exact⟨_,.of .non,_,TH,by rw[qD rfl];exact⟨by decide,r _ _ (AJ.refl _)⟩⟩
  |ref a =>
   obtain⟨xs,hs⟩:=tv;rcases hs with hL|hT
   ·exact⟨_,.of (.lst hL),_,TJ,by rw[qD rfl];exact⟨by decide,r _ _ (AJ.refl _)⟩⟩
   ·exact⟨_,.of (.tup hT),_,TK,by rw[qD rfl];exact⟨by decide,r _ _ (AJ.refl _)⟩⟩
  |byt _=>exact tv.elim
  |flt _=>exact tv.elim
  |ty _=>exact tv.elim
 refine⟨_,.of (.str x),true,TC,?_⟩;rw[qC (by decide)];have tx:Ee x:=tv;obtain⟨wl,wk⟩:=Qt tx;unfold Co at wl wk;refine⟨True.intro,x,rfl,rfl,Cz tx.2,bB (show _<=1000 by lia) (by decide),λl hl=>?_⟩;rw[hsp]at wl wk⊢;clear tv;have e1:=AJ.new hl (.lst ((w0::ws).map V.str));have h1:Ai H l (.lst ((w0::ws).map V.str)) l=some (.lst ((w0::ws).map V.str)):=AF;obtain⟨⟨dx,hb⟩,hR⟩:=bk;generalize Ai H l (.lst ((w0::ws).map V.str))=H1 at e1 h1⊢;have a0:Kb ((w0::ws).map V.str) 0=some (.str w0):=Bv (j:=0) rfl;refine⟨_,rfl,l,_,0,.str w0,rfl,rfl,Ag.of h1,a0,w0,rfl,?_⟩;rcases GZ (w:=w0) d4 with⟨z,z'⟩|⟨⟨n,f⟩,v',z,z',k,fa,ps,rfl,tv,G⟩
 ·rw[z'];refine⟨true,rfl,?_⟩;rw[qD rfl];rcases h with⟨_,r⟩|⟨n,f,y,_⟩
  ·exact⟨by decide,r _ _ e1⟩
  ·rw[z]at y;cases y
 rw[z'];refine⟨false,rfl,?_⟩;rw[qC (by decide)];rcases h with⟨y,_⟩|⟨n',f',y,h⟩
 ·rw[z]at y;cases y
 rw[z]at y;cases y;have sq:=SW tv H1;refine⟨_,.inl (Ag.of h1),_,rfl,l,_,0,.str w0,rfl,rfl,Ag.of h1,a0,w0,_,rfl,z',k,_,0,_,rfl,rfl,sq,rfl,rfl,?_⟩;rw[aW,a9];rcases h with⟨ne,r⟩|⟨e,h⟩
 ·rw[qD (λy=>ne (by have:=V.int.inj y;dsimp only at this;lia))];exact⟨by decide,r _ _ e1⟩
 rw[qC (λy=>y (by rw[e]))];refine⟨_,rfl,l,_,0,.str w0,rfl,rfl,Ag.of h1,a0,w0,_,rfl,z',k,_,1,_,rfl,rfl,sq,rfl,fa,ps,BD f,rfl,G,_,rfl,b,_,dx,_,.ref d,rfl,e1 _ _ hb,T.th_95.cl,T.na_Book_rules,rfl,_,rfl,?_⟩;exact⟨d,l,rs,w0::ws,rfl,hR.same e1,h1,wk,h _ e1⟩
theorem Z7:AM ["_law_script","_law_k"] ["_law_script","_law_k"] (AG Zr):=BM
theorem Z8(T:Ay w K mg t) :Aa P w K mg base 1 t.f_8 ["_law_script","_law_k"] (Lu K):=by
 refine Az T.d_8 Z7 λvs H Q E h=>?_;obtain⟨a,ns,k,rfl,hS,h63,q⟩:=h;refine⟨rfl,λd9 A outer s hr=>?_⟩
 refine⟨_,(AC (Aw (AZ D6 (pv 1) (Aj (JK K) rfl T.z_len bC (AA (pv 0) AB)) (Ad _)) (AH (AW (AN (BA K) (pv 0) (pv 1) (λ_ _=>rfl)))) Af)
  (AH (AW AE))),?_⟩
 walk_at "";refine⟨_,.inl hS,?_⟩;rw[aW]
 by_cases h:(k:Int)<(ns.length:Int)
 ·rw[qD h];have hk:k<ns.length:=by lia
  refine⟨a,_,k,.int (ns.getD k 0),rfl,rfl,hS,Bv ?_,q⟩;rw[ay,ao hk,aq,ao hk];rfl
 ·rw[qC h];have e:ns.getD k 0=0:=by rw[aq,cF (by lia)];rfl
  rw[e]at q;exact q
theorem La:AM ["_law_cell","_law_many","_law_found","_law_number","_law_k"] ["_law_cell","_law_many"] (AG Vj):=BM
theorem ZB(T:Ay w K mg t) :Aa P w K mg base 1 t.f_18 ["_law_cell","_law_many"] (HN):=by
 refine Az T.d_18 La λvs H Q E h=>?_;obtain⟨c,m,rfl,m0,m3,q⟩:=h;refine⟨rfl,λd9 A outer s hr=>?_⟩
 refine⟨_,(AC (AY 2 La (Aq AB))
  (AC (AY 3 La (AL Bf (AL Bz (pv 0) AE) AE))
  (AC (BR PassesOwn.never rfl (BN rfl T.z_range (AA (pv 1) AB)) (Bc 4 La) (AC (AY 3 La (AL Bz (AL Bf (AL Bf (AL Eo (pv 3) AE) (AL Eo (pv 4) (pv 4))) AE) AE))
  (AH (A7 (Ug K (pv 2) (AA (AL DG (pv 3) AE) AB))))))
  (AH (AW (pv 2)))))),?_⟩
 walk_at "";refine⟨bj _,λp hp=>⟨by decide,?_⟩⟩;refine⟨_,rfl,m,rfl,by lia,by lia,?_⟩;refine Bm (n:=m.toNat) (λi σ H1=>∃(l:qR) (x3:Int) (x4:Option V),l.length=i/\σ=[some (.int c),some (.int m),some (.ref p),some (.int x3),x4]/\H1=Ai H p (.lst (l.map V.int))) ⟨[],_,none,rfl,rfl,rfl⟩ ?_ ?_
 ·refine Fs ?_;rintro _ _ i _ hGo σ H1 hi ⟨l,x3,x4,hl,rfl,rfl⟩;refine hGo _ _ ?_;walk_at "";refine⟨.inr ⟨by decide,by decide⟩,.inl ⟨by lia,by lia⟩,by decide,.inl ⟨_,Ag.of AF⟩,by decide,by decide,_,AF,?_,l++[(x3*48271+(0+(i:Int))*(0+(i:Int))+11)%2147483647/7],?_,?_⟩
  ·rw[aW];exact Ap (by lia)
  ·rw[ac,hl];rfl
  ·rw[DE,az];rfl
 ·rintro σ H1 ⟨l,x3,x4,hl,rfl,rfl⟩;walk_at "";exact q p _ l hl (AJ.new hp _) hp AF
theorem IK:AM ["_law_cell","_law_xs","_law_base","_law_k","_law_at","_law_turned_one"] ["_law_cell"] (AG Vk):=BM
theorem ZC(T:Ay w K mg t)(G_18:Aa P w K mg base 1 t.f_18 ["_law_cell","_law_many"] (HN)):Aa P w K mg base 2 t.f_25 ["_law_cell"] (KM):=by
 refine Az T.d_25 IK λvs H Q E h=>?_;obtain⟨c,rfl,q⟩:=h;refine⟨rfl,λd9 A outer s hr=>?_⟩
 refine⟨_,(AC (AY 1 IK (Ae hr G_18 T.m_18 (AA (pv 0) (A9 AB))))
  (AC (AY 2 IK AI)
  (AC (BR PassesOwn.never rfl (BN rfl T.z_range (AA (AL Bf AE (AL Bz (AN (BA K) (pv 1) AE (λ_ _=>rfl)) AE)) AB)) (Bc 3 IK) (AH (AY 2 IK (AL AD (pv 2) (AN JV AI (AL Bz (AN (BA K) (pv 1) (AL Bf (pv 3) AE) (λ_ _=>rfl)) AE) (λ_ _=>rfl))))))
  (AC (AY 4 IK (AL Bz (AN (BA K) (pv 1) AE (λ_ _=>rfl)) (Aj B2 rfl T.z_len bC (AA (pv 2) AB))))
  (AC (AY 5 IK (AN JV AI (DU bP PySem.F.slot_str_find PySem.F.type_str_find SX AI (AA (AN JV (pv 2) (pv 4) (λ_ _=>rfl)) AB)) (λ_ _=>rfl)))
  (AH (AW (Aq (AA (pv 2) (AA (AL AD (AL AD (Cs Jx (pv 2) EO (DI (pv 4))) (pv 5)) (Cs Jx (pv 2) (DI (AL Bf (pv 4) AE)) EO)) (AA (Cs Jx (pv 2) EO (DI (Sw PH AE))) (AA (AL AD (pv 2) (AN JV AI (AL Bz (AN (BA K) (pv 1) AE (λ_ _=>rfl)) AE) (λ_ _=>rfl))) AB)))))))))))),?_⟩
 refine BI λN hN=>?_;walk_at "";refine⟨c,11,rfl,by decide,by decide,λr H1 xs lx e1 _ h1=>hN _ _ ?_⟩;clear hN N;have lx:xs.length=11:=lx;refine BI λN hN=>?_;walk_at "";refine hN _ _ ?_;clear hN N;obtain⟨n,hn⟩:∃n:Nat,(n:Int)=2+xs.getD 0 0%6:=⟨(2+xs.getD 0 0%6).toNat,by lia⟩;refine GI (λσ HX=>∃x3 B,σ=[some (.int c),some (.ref r),some (.str B),x3,none,none]/\HX=H1/\B.cps.size=n/\∀a∈B.cps.toList,97<=a/\a<=122) (λN hN=>?_) ?_
 ·refine⟨_,rfl,r,_,0,_,rfl,rfl,Ag.of h1,ZR (j:=0) (by lia),_,_,rfl,rfl,(show (0:Int)<6 by decide),_,_,rfl,rfl,_,rfl,by lia,by lia,?_⟩;rw[show (2+xs.getD 0 0%6).toNat=n by lia];refine Bm (n:=n) (λi σ HX=>∃x3 B,σ=[some (.int c),some (.ref r),some (.str B),x3,none,none]/\HX=H1/\B.cps.size=i/\∀a∈B.cps.toList,97<=a/\a<=122) ⟨none,Str.ofString "",rfl,rfl,rfl,λa h=>qE (show a∈([]:List Nat) from h) ax⟩ ?_ ?_
  ·refine Fs ?_;rintro _ _ i _ hGo σ HX hi ⟨x3,B,rfl,rfl,bl,bc⟩;refine hGo _ _ ?_;walk_at "";obtain⟨m,hm⟩:∃m:Nat,(m:Int)=xs.getD (i+1) 0%26:=⟨(xs.getD (i+1) 0%26).toNat,by lia⟩;have bl':B.length=i:=bl;refine (BH (v:=.int (xs.getD (i+1) 0)) (i:=0+(i:Int)+1) (Ag.of h1) ?_ ⟨_,rfl,by decide,?_⟩)
   ·rw[show 0+(i:Int)+1=((i+1:Nat):Int) by lia];exact ZR (by lia)
   rw[<-hm];refine⟨_,_,_,rfl,rfl,by decide,Qu m (by lia),_,rfl,bB (show B.length+1<=1000 by lia) (by decide),rfl,?_,λa ha=>?_⟩
   ·show (B.cps++#[97+m]).size=_;rw[Array.size_append,bl];rfl
   ·have z:a∈B.cps.toList++[97+m]:=by
     have:(B++(⟨#[97+m]⟩:Str)).cps.toList=B.cps.toList++[97+m]:=by show (B.cps++#[97+m]).toList=_;rw[br]
     rwa [this]at ha
    rcases ar.mp z with y|y
    ·exact bc a y
    ·rw[ak.mp y];lia
  ·rintro σ HX ⟨x3,B,rfl,rfl,bl,bc⟩;exact hN _ _ ⟨x3,B,rfl,rfl,bl,bc⟩
 rintro _ hGo σ HX ⟨x3,B,rfl,rfl,bl,bc⟩;refine hGo _ _ ?_;refine BI λN hN=>?_;walk_at "";have bl':B.length=n:=bl;obtain⟨b,hb⟩:∃b:Nat,(b:Int)=xs.getD 9 0%(B.length:Int):=⟨(xs.getD 9 0%(B.length:Int)).toNat,by have:=cx (xs.getD 9 0) (show (B.length:Int)≠0 by lia);lia⟩;have bn:b<n:=by have:=cS (xs.getD 9 0) (show 0<(B.length:Int) by lia);lia
 refine (BH (Ag.of h1) (ZR (j:=9) (by lia)) ⟨bB (show B.length<=1000 by lia) (by decide),_,rfl,by lia,?_⟩);rw[<-hb];refine hN _ _ ?_;clear hN N;have tl:B.cps.toList.length=n:=by rw[ai];exact bl
 have gb:B.cps.toList[b]?=some (B.cps.toList[b]'(by lia)):=ao _;generalize B.cps.toList[b]'(by lia)=a at gb;have la:=bc a (a8 gb);obtain⟨k,hk⟩:∃k,a=97+k:=⟨a-97,by lia⟩;subst hk;refine BI λN hN=>?_;walk_at "";refine⟨B,_,_,rfl,rfl,bB (show B.length<=1000 by lia) (by decide),Bv gb,_,rfl,?_⟩;rw[Qv k (by lia)];refine⟨_,_,_,rfl,rfl,by decide,Vp k (by lia),hN _ _ ?_⟩;clear hN N;walk_at "";have tl2:∀{o:Nat},o<=1000->o<=sizeLine:=λh=>bB h (by decide)
 have s1:=PySem.Txt.slice_le B none (some (b:Int));have s2:=PySem.Txt.slice_le B (some ((b:Int)+1)) none
 have s3:(PySem.Txt.slice B none (some (b:Int))++(⟨#[97+(k+1)%26]⟩:Str)).length=(PySem.Txt.slice B none (some (b:Int))).length+1:=by show ((PySem.Txt.slice B none (some (b:Int))).cps++#[97+(k+1)%26]).size=_;rw[Array.size_append];rfl
 obtain⟨m,hm⟩:∃m:Nat,(m:Int)=xs.getD 10 0%26:=⟨(xs.getD 10 0%26).toNat,by lia⟩;refine⟨tl2 (by lia),tl2 (by show _+1<=_;lia),tl2 (by lia),tl2 (by lia),tl2 (by lia),BH (Ag.of h1) (ZR (j:=10) (by lia)) ⟨_,rfl,by decide,?_⟩⟩;rw[<-hm];refine⟨_,_,_,rfl,rfl,by decide,Qu m (by lia),_,rfl,tl2 (by show _+1<=_;lia),by decide,λp hp=>?_⟩;refine q p _ _ _ _ _ (e1.trans (AJ.new hp _)) AF (JO.mk' (a:=97+(k+1)%26) (c:=97+m) (b:=b) (by lia) (by lia) bc (by lia) ?_ (by lia) (by lia) ?_ ?_ ?_)
 ·rw[gb];intro z;have:=Option.some.inj z;lia
 ·show ((PySem.Txt.slice B none (some (b:Int))).cps++#[97+(k+1)%26]++(PySem.Txt.slice B (some ((b:Int)+1)) none).cps).toList=_;rw[br,br,IC (by lia),show ((b:Int)+1)=((b+1:Nat):Int) by lia,MM (by lia),cX];rfl
 ·rw[Mh (by lia),bl',tl]
 ·show (B.cps++#[97+m]).toList=_;rw[br]
theorem Sm:AM ["_law_n","_law_some"] ["_law_n"] (AG Zs):=BM
theorem Z9(T:Ay w K mg t) :Aa P w K mg base 1 t.f_9 ["_law_n"] (E8 0):=by
 refine Az T.d_9 Sm λvs H Q E h=>?_;obtain⟨p,n0,n1,n2,n3,rfl,hp,nm,q⟩:=h;refine⟨rfl,λd9 A outer s hr=>?_⟩
 refine⟨_,(AC (AY 1 Sm (Aq (AA AI (AA AI (AA AI (AA AI (AA (AL AD AI (AN (BA K) (pv 0) AE (λ_ _=>rfl))) (AA AI (AA (AL AD (AL AD (AL AD AI (AN (BA K) (pv 0) AE (λ_ _=>rfl))) AI) (AN (BA K) (pv 0) AE (λ_ _=>rfl))) (AA (AL AD AI (AN (BA K) (pv 0) AE (λ_ _=>rfl))) AB))))))))))
  (AC (AY 1 Sm (AL Bj (pv 1) (Aq (AA (AL AD (AL AD AI (AN (BA K) (pv 0) AE (λ_ _=>rfl))) AI) (AA (AL AD (AL AD (AL AD AI (AN (BA K) (pv 0) AE (λ_ _=>rfl))) AI) (AN (BA K) (pv 0) AE (λ_ _=>rfl))) (AA (AL AD AI (AN (BA K) (pv 0) AE (λ_ _=>rfl))) (AA (AL AD AI (AN (BA K) (pv 0) AE (λ_ _=>rfl))) (AA AI AB))))))))
  (AC (AY 1 Sm (AL Bj (pv 1) (Aq (AA (AL AD AI (AN (BA K) (pv 0) AE (λ_ _=>rfl))) (AA (AL AD (AL AD AI (AN (BA K) (pv 0) AE (λ_ _=>rfl))) AI) (AA AI (AA (AL AD AI (AN (BA K) (pv 0) AE (λ_ _=>rfl))) (AA (AL AD (AL AD AI (AN (BA K) (pv 0) AE (λ_ _=>rfl))) AI) AB))))))))
  (AH (AW (AL Bj (pv 1) (Aq (AA Fx (A9 (AA (Aq (AA AI AB)) (AA GN AB))))))))))),?_⟩
 refine BI λN hN=>?_;walk_at "";refine (BH (v:=.str n0) (Ag.of hp) rfl ⟨n0,rfl,BE (show Ac 6 (Str.ofString "names ")=true by decide +kernel) nm.o0.tx (by decide),BH (v:=.str n0) (Ag.of hp) rfl ⟨n0,rfl,BE (show Ac 5 (Str.ofString "show ")=true by decide +kernel) nm.o0.tx (by decide),BE (AQ (show Ac 5 (Str.ofString "show ")=true by decide +kernel) nm.o0.tx) (show Ac 1 (Str.ofString " ")=true by decide +kernel) (by decide),BH (v:=.str n0) (Ag.of hp) rfl ⟨n0,rfl,BE (AQ (AQ (show Ac 5 (Str.ofString "show ")=true by decide +kernel) nm.o0.tx) (show Ac 1 (Str.ofString " ")=true by decide +kernel)) nm.o0.tx (by decide),BH (v:=.str n3) (Ag.of hp) rfl ⟨n3,rfl,BE (show Ac 5 (Str.ofString "rule ")=true by decide +kernel) nm.o3.tx (by decide),by decide,λq1 hq1=>hN _ _ ?_⟩⟩⟩⟩);clear hN N
 have a1:∀H,Ba H n0 n1 n2 0 _:=λH=>(aY.mpr ⟨Ab (AO (show Am (Str.ofString "") [(Str.ofString "")] 0=true by decide +kernel)) (by decide) λN=>EZ (AO (show Am (Str.ofString "") [(Str.ofString "")] 0=true by decide +kernel)).w (by decide +kernel),
  (aY.mpr ⟨Ab (AO (show Am (Str.ofString " ") [(Str.ofString ""),(Str.ofString "")] 1=true by decide +kernel)) (by decide) λN=>EZ (AO (show Am (Str.ofString " ") [(Str.ofString ""),(Str.ofString "")] 1=true by decide +kernel)).w (by decide +kernel),
  (aY.mpr ⟨Ab (AO (show Am (Str.ofString "names ") [(Str.ofString "names"),(Str.ofString "")] 6=true by decide +kernel)) (by decide) λN=>Cf (i:=6) (n:=1) (AO (show Am (Str.ofString "names ") [(Str.ofString "names"),(Str.ofString "")] 6=true by decide +kernel)).w (by decide +kernel) (λt=>⟨_,rfl⟩) (by intro z;cases z),
  (aY.mpr ⟨Ab (AO (show Am (Str.ofString " names") [(Str.ofString ""),(Str.ofString "names")] 6=true by decide +kernel)) (by decide) λN=>EZ (AO (show Am (Str.ofString " names") [(Str.ofString ""),(Str.ofString "names")] 6=true by decide +kernel)).w (by decide +kernel),
  (aY.mpr ⟨Ab (AS (ks:=(Str.ofString "names ")) (k:=(Str.ofString "names")) (by decide +kernel) (AO (show Am (Str.ofString "names") [(Str.ofString "names")] 5=true by decide +kernel)) nm.o0) (by decide) λN=>Cf (i:=6) (n:=1) (AS (ks:=(Str.ofString "names ")) (k:=(Str.ofString "names")) (by decide +kernel) (AO (show Am (Str.ofString "names") [(Str.ofString "names")] 5=true by decide +kernel)) nm.o0).w (by decide +kernel) (λt=>⟨_,rfl⟩) (by intro z;cases z),
  (aY.mpr ⟨Ab (AO (show Am (Str.ofString "show") [(Str.ofString "show")] 4=true by decide +kernel)) (by decide) λN=>Cf (i:=7) (n:=2) (AO (show Am (Str.ofString "show") [(Str.ofString "show")] 4=true by decide +kernel)).w (by decide +kernel) (λt=>⟨_,rfl⟩) (by intro z;cases z),
  (aY.mpr ⟨Ab (At (AS (ks:=(Str.ofString "show ")) (k:=(Str.ofString "show")) (by decide +kernel) (AO (show Am (Str.ofString "show") [(Str.ofString "show")] 4=true by decide +kernel)) nm.o0) nm.o0) (by decide) λN=>Cf (i:=7) (n:=2) (At (AS (ks:=(Str.ofString "show ")) (k:=(Str.ofString "show")) (by decide +kernel) (AO (show Am (Str.ofString "show") [(Str.ofString "show")] 4=true by decide +kernel)) nm.o0) nm.o0).w (by decide +kernel) (λt=>⟨_,rfl⟩) (by intro z;cases z),
  (aY.mpr ⟨Ab (AS (ks:=(Str.ofString "rule ")) (k:=(Str.ofString "rule")) (by decide +kernel) (AO (show Am (Str.ofString "rule") [(Str.ofString "rule")] 4=true by decide +kernel)) nm.o3) (by decide) λN=>Cf (i:=0) (n:=3) (AS (ks:=(Str.ofString "rule ")) (k:=(Str.ofString "rule")) (by decide +kernel) (AO (show Am (Str.ofString "rule") [(Str.ofString "rule")] 4=true by decide +kernel)) nm.o3).w (by decide +kernel) (λt=>⟨_,rfl⟩) (by intro z;cases z),
  (λ_ h=>qE h ax)⟩)⟩)⟩)⟩)⟩)⟩)⟩)⟩)
 refine B6 (λHX=>AJ H HX/\∃vs,HX q1=some (.lst vs)/\vs.length=8/\Ba HX n0 n1 n2 0 vs) ⟨AJ.new hq1 _,_,AF,rfl,a1 _⟩ ?_;clear a1 hq1;rintro H1 ⟨e1,vs1,h1,l1,a1⟩;refine BI λN hN=>?_;walk_at "";refine (BH (v:=.str n3) (Ag.of (e1 _ _ hp)) rfl ⟨n3,rfl,BE (show Ac 5 (Str.ofString "rule ")=true by decide +kernel) nm.o3.tx (by decide),BE (AQ (show Ac 5 (Str.ofString "rule ")=true by decide +kernel) nm.o3.tx) (show Ac 9 (Str.ofString " 2:0:01 x")=true by decide +kernel) (by decide),BH (v:=.str n3) (Ag.of (e1 _ _ hp)) rfl ⟨n3,rfl,BE (show Ac 5 (Str.ofString "join ")=true by decide +kernel) nm.o3.tx (by decide),BE (AQ (show Ac 5 (Str.ofString "join ")=true by decide +kernel) nm.o3.tx) (show Ac 1 (Str.ofString " ")=true by decide +kernel) (by decide),BH (v:=.str n0) (Ag.of (e1 _ _ hp)) rfl ⟨n0,rfl,BE (AQ (AQ (show Ac 5 (Str.ofString "join ")=true by decide +kernel) nm.o3.tx) (show Ac 1 (Str.ofString " ")=true by decide +kernel)) nm.o0.tx (by decide),BH (v:=.str n0) (Ag.of (e1 _ _ hp)) rfl ⟨n0,rfl,BE (show Ac 5 (Str.ofString "Show ")=true by decide +kernel) nm.o0.tx (by decide),BH (v:=.str n0) (Ag.of (e1 _ _ hp)) rfl ⟨n0,rfl,BE (show Ac 4 (Str.ofString "show")=true by decide +kernel) nm.o0.tx (by decide),by decide,λb1 hb1=>BP ((AJ.new hb1 _) _ _ h1) AF (by rw[l1];exact (show 8+5<=1000 by decide)) λq2 G e2 _ h2=>hN _ _ ?_⟩⟩⟩⟩⟩);clear hN N
 have a2:∀H,Ba H n0 n1 n2 0 _:=λH=>(aY.mpr ⟨Ab (Ak (x:=(Str.ofString "2:0:01 x")) (AS (ks:=(Str.ofString "rule ")) (k:=(Str.ofString "rule")) (by decide +kernel) (AO (show Am (Str.ofString "rule") [(Str.ofString "rule")] 4=true by decide +kernel)) nm.o3) (by decide +kernel) (AO (show Am (Str.ofString "2:0:01 x") [(Str.ofString "2:0:01"),(Str.ofString "x")] 8=true by decide +kernel)) (show Ac 9 (Str.ofString " 2:0:01 x")=true by decide +kernel)) (by decide) λN=>Cf (i:=0) (n:=3) (Ak (x:=(Str.ofString "2:0:01 x")) (AS (ks:=(Str.ofString "rule ")) (k:=(Str.ofString "rule")) (by decide +kernel) (AO (show Am (Str.ofString "rule") [(Str.ofString "rule")] 4=true by decide +kernel)) nm.o3) (by decide +kernel) (AO (show Am (Str.ofString "2:0:01 x") [(Str.ofString "2:0:01"),(Str.ofString "x")] 8=true by decide +kernel)) (show Ac 9 (Str.ofString " 2:0:01 x")=true by decide +kernel)).w (by decide +kernel) (λt=>⟨_,rfl⟩) (by intro z;cases z),
  (aY.mpr ⟨Ab (At (AS (ks:=(Str.ofString "join ")) (k:=(Str.ofString "join")) (by decide +kernel) (AO (show Am (Str.ofString "join") [(Str.ofString "join")] 4=true by decide +kernel)) nm.o3) nm.o0) (by decide) λN=>Cf (i:=1) (n:=4) (At (AS (ks:=(Str.ofString "join ")) (k:=(Str.ofString "join")) (by decide +kernel) (AO (show Am (Str.ofString "join") [(Str.ofString "join")] 4=true by decide +kernel)) nm.o3) nm.o0).w (by decide +kernel) (λt=>⟨_,rfl⟩) (by intro z;cases z),
  (aY.mpr ⟨Ab (AS (ks:=(Str.ofString "Show ")) (k:=(Str.ofString "Show")) (by decide +kernel) (AO (show Am (Str.ofString "Show") [(Str.ofString "Show")] 4=true by decide +kernel)) nm.o0) (by decide) λN=>EZ (AS (ks:=(Str.ofString "Show ")) (k:=(Str.ofString "Show")) (by decide +kernel) (AO (show Am (Str.ofString "Show") [(Str.ofString "Show")] 4=true by decide +kernel)) nm.o0).w (by decide +kernel),
  (aY.mpr ⟨Ab (IF (E7 (show Ia (Str.ofString "show")=true by decide +kernel) nm.o0.fr) (AQ (show Ac 4 (Str.ofString "show")=true by decide +kernel) nm.o0.tx)) (by decide) λN=>EZ (IF (E7 (show Ia (Str.ofString "show")=true by decide +kernel) nm.o0.fr) (AQ (show Ac 4 (Str.ofString "show")=true by decide +kernel) nm.o0.tx)).w (O1 nm.o0),
  (aY.mpr ⟨Ab (AO (show Am (Str.ofString "drop") [(Str.ofString "drop")] 4=true by decide +kernel)) (by decide) λN=>Cf (i:=5) (n:=2) (AO (show Am (Str.ofString "drop") [(Str.ofString "drop")] 4=true by decide +kernel)).w (by decide +kernel) (λt=>⟨_,rfl⟩) (by intro z;cases z),
  (λ_ h=>qE h ax)⟩)⟩)⟩)⟩)⟩)
 have f1:=(AJ.new hb1 _).trans e2;refine B6 (λHX=>AJ H HX/\∃vs,HX q2=some (.lst vs)/\vs.length=13/\Ba HX n0 n1 n2 0 vs) ⟨e1.trans f1,_,h2,by rw[ac,l1];rfl,Ba.app (a1.same f1) (a2 _)⟩ ?_;clear a1 a2 f1 h2 e2 G h1 e1 l1;rintro H2 ⟨e2,vs2,h2,l2,a2⟩;refine BI λN hN=>?_;walk_at "";refine (BH (v:=.str n0) (Ag.of (e2 _ _ hp)) rfl ⟨n0,rfl,BE (show Ac 4 (Str.ofString "led ")=true by decide +kernel) nm.o0.tx (by decide),BH (v:=.str n0) (Ag.of (e2 _ _ hp)) rfl ⟨n0,rfl,BE (show Ac 4 (Str.ofString "led ")=true by decide +kernel) nm.o0.tx (by decide),BE (AQ (show Ac 4 (Str.ofString "led ")=true by decide +kernel) nm.o0.tx) (show Ac 5 (Str.ofString " 01 1")=true by decide +kernel) (by decide),BH (v:=.str n0) (Ag.of (e2 _ _ hp)) rfl ⟨n0,rfl,BE (show Ac 6 (Str.ofString "shows ")=true by decide +kernel) nm.o0.tx (by decide),BH (v:=.str n0) (Ag.of (e2 _ _ hp)) rfl ⟨n0,rfl,BE (show Ac 5 (Str.ofString "show ")=true by decide +kernel) nm.o0.tx (by decide),BE (AQ (show Ac 5 (Str.ofString "show ")=true by decide +kernel) nm.o0.tx) (show Ac 1 (Str.ofString " ")=true by decide +kernel) (by decide),by decide,λb2 hb2=>BP ((AJ.new hb2 _) _ _ h2) AF (by rw[l2];exact (show 13+5<=1000 by decide)) λq3 G e3 _ h3=>hN _ _ ?_⟩⟩⟩⟩);clear hN N
 have a3:∀H,Ba H n0 n1 n2 0 _:=λH=>(aY.mpr ⟨Ab (AS (ks:=(Str.ofString "led ")) (k:=(Str.ofString "led")) (by decide +kernel) (AO (show Am (Str.ofString "led") [(Str.ofString "led")] 3=true by decide +kernel)) nm.o0) (by decide) λN=>Cf (i:=10) (n:=3) (AS (ks:=(Str.ofString "led ")) (k:=(Str.ofString "led")) (by decide +kernel) (AO (show Am (Str.ofString "led") [(Str.ofString "led")] 3=true by decide +kernel)) nm.o0).w (by decide +kernel) (λt=>⟨_,rfl⟩) (by intro z;cases z),
  (aY.mpr ⟨Ab (Ak (x:=(Str.ofString "01 1")) (AS (ks:=(Str.ofString "led ")) (k:=(Str.ofString "led")) (by decide +kernel) (AO (show Am (Str.ofString "led") [(Str.ofString "led")] 3=true by decide +kernel)) nm.o0) (by decide +kernel) (AO (show Am (Str.ofString "01 1") [(Str.ofString "01"),(Str.ofString "1")] 4=true by decide +kernel)) (show Ac 5 (Str.ofString " 01 1")=true by decide +kernel)) (by decide) λN=>Cf (i:=10) (n:=3) (Ak (x:=(Str.ofString "01 1")) (AS (ks:=(Str.ofString "led ")) (k:=(Str.ofString "led")) (by decide +kernel) (AO (show Am (Str.ofString "led") [(Str.ofString "led")] 3=true by decide +kernel)) nm.o0) (by decide +kernel) (AO (show Am (Str.ofString "01 1") [(Str.ofString "01"),(Str.ofString "1")] 4=true by decide +kernel)) (show Ac 5 (Str.ofString " 01 1")=true by decide +kernel)).w (by decide +kernel) (λt=>⟨_,rfl⟩) (by intro z;cases z),
  (aY.mpr ⟨Ab (AO (show Am (Str.ofString "kept") [(Str.ofString "kept")] 4=true by decide +kernel)) (by decide) λN=>Cf (i:=15) (n:=2) (AO (show Am (Str.ofString "kept") [(Str.ofString "kept")] 4=true by decide +kernel)).w (by decide +kernel) (λt=>⟨_,rfl⟩) (by intro z;cases z),
  (aY.mpr ⟨Ab (AS (ks:=(Str.ofString "shows ")) (k:=(Str.ofString "shows")) (by decide +kernel) (AO (show Am (Str.ofString "shows") [(Str.ofString "shows")] 5=true by decide +kernel)) nm.o0) (by decide) λN=>EZ (AS (ks:=(Str.ofString "shows ")) (k:=(Str.ofString "shows")) (by decide +kernel) (AO (show Am (Str.ofString "shows") [(Str.ofString "shows")] 5=true by decide +kernel)) nm.o0).w (by decide +kernel),
  (aY.mpr ⟨Ab (Ak (x:=(Str.ofString "")) (AS (ks:=(Str.ofString "show ")) (k:=(Str.ofString "show")) (by decide +kernel) (AO (show Am (Str.ofString "show") [(Str.ofString "show")] 4=true by decide +kernel)) nm.o0) (by decide +kernel) (AO (show Am (Str.ofString "") [(Str.ofString "")] 0=true by decide +kernel)) (show Ac 1 (Str.ofString " ")=true by decide +kernel)) (by decide) λN=>Cf (i:=7) (n:=2) (Ak (x:=(Str.ofString "")) (AS (ks:=(Str.ofString "show ")) (k:=(Str.ofString "show")) (by decide +kernel) (AO (show Am (Str.ofString "show") [(Str.ofString "show")] 4=true by decide +kernel)) nm.o0) (by decide +kernel) (AO (show Am (Str.ofString "") [(Str.ofString "")] 0=true by decide +kernel)) (show Ac 1 (Str.ofString " ")=true by decide +kernel)).w (by decide +kernel) (λt=>⟨_,rfl⟩) (by intro z;cases z),
  (λ_ h=>qE h ax)⟩)⟩)⟩)⟩)⟩)
 have f2:=(AJ.new hb2 _).trans e3;refine B6 (λHX=>AJ H HX/\∃vs,HX q3=some (.lst vs)/\vs.length=18/\Ba HX n0 n1 n2 0 vs) ⟨e2.trans f2,_,h3,by rw[ac,l2];rfl,Ba.app (a2.same f2) (a3 _)⟩ ?_;clear a2 a3 f2 h3 e3 G h2 e2 l2;rintro H3 ⟨e3,vs3,h3,l3,a3⟩;walk_at "";refine⟨by decide,λpl hpl=>⟨by decide,λpb hpb=>?_⟩⟩;have eA:=(AJ.new hpl (.lst [V.str (Str.ofString "names")])).trans (AJ.new hpb (.lst [V.non,V.int 7,V.ref pl,V.bl true]));refine BP (eA _ _ h3) AF (by rw[l3];exact (show 18+4<=1000 by decide)) λq4 G e4 _ h4=>?_;have hL:G pl=some (.lst [V.str (Str.ofString "names")]):=e4 _ _ (AJ.new hpb _ _ _ AF);refine q _ _ _ ((e3.trans eA).trans e4) h4 (by rw[ac,l3];exact (show 18+4<=30 by decide)) (by rw[ac,l3];exact (show 0<18+4 by decide)) (Ba.app (a3.same (eA.trans e4)) ?_)
 exact (aY.mpr ⟨⟨True.intro,λN=>Nh λx z=>nomatch z⟩,
  (aY.mpr ⟨⟨True.intro,λN=>Nh λx z=>nomatch z⟩,
  (aY.mpr ⟨⟨⟨_,.inl hL⟩,λN=>Nh λx z=>nomatch z⟩,
  (aY.mpr ⟨⟨True.intro,λN=>Nh λx z=>nomatch z⟩,
  (λ_ h=>qE h ax)⟩)⟩)⟩)⟩)
theorem RF:AM ["_law_n","_law_some"] ["_law_n"] (AG Zt):=BM
theorem aB(T:Ay w K mg t) :Aa P w K mg base 1 t.f_4 ["_law_n"] (E8 1):=by
 refine Az T.d_4 RF λvs H Q E h=>?_;obtain⟨p,n0,n1,n2,n3,rfl,hp,nm,q⟩:=h;refine⟨rfl,λd9 A outer s hr=>?_⟩
 refine⟨_,(AC (AY 1 RF (Aq (AA (AL AD AI (AN (BA K) (pv 0) AE (λ_ _=>rfl))) (AA AI (AA (AL AD AI (AN (BA K) (pv 0) AE (λ_ _=>rfl))) (AA AI (AA AI (AA AI AB))))))))
  (AC (AY 1 RF (AL Bj (pv 1) (Aq (AA AI (AA AI (AA (AL AD (AL AD (AL AD AI (AN (BA K) (pv 0) AE (λ_ _=>rfl))) AI) (AN (BA K) (pv 0) AE (λ_ _=>rfl))) (AA AI AB)))))))
  (AC (AY 1 RF (AL Bj (pv 1) (Aq (AA (AL AD (AL AD (AL AD (AL AD (AL AD AI (AN (BA K) (pv 0) AE (λ_ _=>rfl))) AI) (AN (BA K) (pv 0) AE (λ_ _=>rfl))) AI) (AN (BA K) (pv 0) AE (λ_ _=>rfl))) (AA (AL AD (AL AD (AL AD (AL AD AI (AN (BA K) (pv 0) AE (λ_ _=>rfl))) AI) (AN (BA K) (pv 0) AE (λ_ _=>rfl))) AI) AB)))))
  (AC (AY 1 RF (AL Bj (pv 1) (Aq (AA (AL AD (AL AD AI (AN (BA K) (pv 0) AE (λ_ _=>rfl))) AI) (AA (AL AD (AL AD (AL AD AI (AN (BA K) (pv 0) AE (λ_ _=>rfl))) AI) (AN (BA K) (pv 0) AE (λ_ _=>rfl))) AB)))))
  (AH (AW (AL Bj (pv 1) (Aq (AA (AL AD (AL AD (AL AD AI (AN (BA K) (pv 0) AE (λ_ _=>rfl))) AI) (AN (BA K) (pv 0) AE (λ_ _=>rfl))) (AA (AL AD (AL AD AI (AN (BA K) (pv 0) AE (λ_ _=>rfl))) AI) (AA (AL AD AI (AN (BA K) (pv 0) AE (λ_ _=>rfl))) AB))))))))))),?_⟩
 refine BI λN hN=>?_;walk_at "";refine (BH (v:=.str n3) (Ag.of hp) rfl ⟨n3,rfl,BE (show Ac 5 (Str.ofString "show ")=true by decide +kernel) nm.o3.tx (by decide),BH (v:=.str n3) (Ag.of hp) rfl ⟨n3,rfl,BE (show Ac 5 (Str.ofString "drop ")=true by decide +kernel) nm.o3.tx (by decide),by decide,λq1 hq1=>hN _ _ ?_⟩⟩);clear hN N
 have a1:∀H,Ba H n0 n1 n2 1 _:=λH=>(aY.mpr ⟨Ab (AS (ks:=(Str.ofString "show ")) (k:=(Str.ofString "show")) (by decide +kernel) (AO (show Am (Str.ofString "show") [(Str.ofString "show")] 4=true by decide +kernel)) nm.o3) (by decide) λN=>A1 (i:=7) (n:=2) (f:=λt=>Dw t) (AS (ks:=(Str.ofString "show ")) (k:=(Str.ofString "show")) (by decide +kernel) (AO (show Am (Str.ofString "show") [(Str.ofString "show")] 4=true by decide +kernel)) nm.o3).w (by decide +kernel) (λt=>rfl) rfl λt H d Q E r=>⟨_,_,rfl,.inl ⟨nm.l3,r⟩⟩,
  (aY.mpr ⟨Ab (AO (show Am (Str.ofString "show ") [(Str.ofString "show"),(Str.ofString "")] 5=true by decide +kernel)) (by decide) λN=>A1 (i:=7) (n:=2) (f:=λt=>Dw t) (AO (show Am (Str.ofString "show ") [(Str.ofString "show"),(Str.ofString "")] 5=true by decide +kernel)).w (by decide +kernel) (λt=>rfl) rfl λt H d Q E r=>⟨_,_,rfl,.inl ⟨nm.no (Gb (by decide +kernel)),r⟩⟩,
  (aY.mpr ⟨Ab (AS (ks:=(Str.ofString "drop ")) (k:=(Str.ofString "drop")) (by decide +kernel) (AO (show Am (Str.ofString "drop") [(Str.ofString "drop")] 4=true by decide +kernel)) nm.o3) (by decide) λN=>A1 (i:=5) (n:=2) (f:=λt=>Gx t) (AS (ks:=(Str.ofString "drop ")) (k:=(Str.ofString "drop")) (by decide +kernel) (AO (show Am (Str.ofString "drop") [(Str.ofString "drop")] 4=true by decide +kernel)) nm.o3).w (by decide +kernel) (λt=>rfl) rfl λt H d Q E r=>⟨_,_,rfl,nm.l3,r⟩,
  (aY.mpr ⟨Ab (AO (show Am (Str.ofString "show A") [(Str.ofString "show"),(Str.ofString "A")] 6=true by decide +kernel)) (by decide) λN=>A1 (i:=7) (n:=2) (f:=λt=>Dw t) (AO (show Am (Str.ofString "show A") [(Str.ofString "show"),(Str.ofString "A")] 6=true by decide +kernel)).w (by decide +kernel) (λt=>rfl) rfl λt H d Q E r=>⟨_,_,rfl,.inl ⟨nm.no (Gb (by decide +kernel)),r⟩⟩,
  (aY.mpr ⟨Ab (AO (show Am (Str.ofString "rule Ab 2:0:01") [(Str.ofString "rule"),(Str.ofString "Ab"),(Str.ofString "2:0:01")] 14=true by decide +kernel)) (by decide) λN=>A1 (i:=0) (n:=3) (f:=λt=>CB t) (AO (show Am (Str.ofString "rule Ab 2:0:01") [(Str.ofString "rule"),(Str.ofString "Ab"),(Str.ofString "2:0:01")] 14=true by decide +kernel)).w (by decide +kernel) (λt=>rfl) rfl λt H d Q E r=>⟨_,_,_,rfl,.inl ⟨(Gb (by decide +kernel)),r⟩⟩,
  (aY.mpr ⟨Ab (AO (show Am (Str.ofString "rule abcdefghi 2:0:01") [(Str.ofString "rule"),(Str.ofString "abcdefghi"),(Str.ofString "2:0:01")] 21=true by decide +kernel)) (by decide) λN=>A1 (i:=0) (n:=3) (f:=λt=>CB t) (AO (show Am (Str.ofString "rule abcdefghi 2:0:01") [(Str.ofString "rule"),(Str.ofString "abcdefghi"),(Str.ofString "2:0:01")] 21=true by decide +kernel)).w (by decide +kernel) (λt=>rfl) rfl λt H d Q E r=>⟨_,_,_,rfl,.inl ⟨(Gb (by decide +kernel)),r⟩⟩,
  (λ_ h=>qE h ax)⟩)⟩)⟩)⟩)⟩)⟩)
 refine B6 (λHX=>AJ H HX/\∃vs,HX q1=some (.lst vs)/\vs.length=6/\Ba HX n0 n1 n2 1 vs) ⟨AJ.new hq1 _,_,AF,rfl,a1 _⟩ ?_;clear a1 hq1;rintro H1 ⟨e1,vs1,h1,l1,a1⟩;refine BI λN hN=>?_;walk_at "";refine (BH (v:=.str n3) (Ag.of (e1 _ _ hp)) rfl ⟨n3,rfl,BE (show Ac 5 (Str.ofString "turn ")=true by decide +kernel) nm.o3.tx (by decide),BE (AQ (show Ac 5 (Str.ofString "turn ")=true by decide +kernel) nm.o3.tx) (show Ac 1 (Str.ofString " ")=true by decide +kernel) (by decide),BH (v:=.str n3) (Ag.of (e1 _ _ hp)) rfl ⟨n3,rfl,BE (AQ (AQ (show Ac 5 (Str.ofString "turn ")=true by decide +kernel) nm.o3.tx) (show Ac 1 (Str.ofString " ")=true by decide +kernel)) nm.o3.tx (by decide),by decide,λb1 hb1=>BP ((AJ.new hb1 _) _ _ h1) AF (by rw[l1];exact (show 6+4<=1000 by decide)) λq2 G e2 _ h2=>hN _ _ ?_⟩⟩);clear hN N
 have a2:∀H,Ba H n0 n1 n2 1 _:=λH=>(aY.mpr ⟨Ab (AO (show Am (Str.ofString "rule n1 2:0:01") [(Str.ofString "rule"),(Str.ofString "n1"),(Str.ofString "2:0:01")] 14=true by decide +kernel)) (by decide) λN=>A1 (i:=0) (n:=3) (f:=λt=>CB t) (AO (show Am (Str.ofString "rule n1 2:0:01") [(Str.ofString "rule"),(Str.ofString "n1"),(Str.ofString "2:0:01")] 14=true by decide +kernel)).w (by decide +kernel) (λt=>rfl) rfl λt H d Q E r=>⟨_,_,_,rfl,.inl ⟨(Gb (by decide +kernel)),r⟩⟩,
  (aY.mpr ⟨Ab (AO (show Am (Str.ofString "rule  2:0:01") [(Str.ofString "rule"),(Str.ofString ""),(Str.ofString "2:0:01")] 12=true by decide +kernel)) (by decide) λN=>A1 (i:=0) (n:=3) (f:=λt=>CB t) (AO (show Am (Str.ofString "rule  2:0:01") [(Str.ofString "rule"),(Str.ofString ""),(Str.ofString "2:0:01")] 12=true by decide +kernel)).w (by decide +kernel) (λt=>rfl) rfl λt H d Q E r=>⟨_,_,_,rfl,.inl ⟨(Gb (by decide +kernel)),r⟩⟩,
  (aY.mpr ⟨Ab (At (AS (ks:=(Str.ofString "turn ")) (k:=(Str.ofString "turn")) (by decide +kernel) (AO (show Am (Str.ofString "turn") [(Str.ofString "turn")] 4=true by decide +kernel)) nm.o3) nm.o3) (by decide) λN=>A1 (i:=2) (n:=3) (f:=λt=>Fu t) (At (AS (ks:=(Str.ofString "turn ")) (k:=(Str.ofString "turn")) (by decide +kernel) (AO (show Am (Str.ofString "turn") [(Str.ofString "turn")] 4=true by decide +kernel)) nm.o3) nm.o3).w (by decide +kernel) (λt=>rfl) rfl λt H d Q E r=>⟨_,_,_,rfl,.inr (.inl ⟨nm.o3,nm.l3,r⟩)⟩,
  (aY.mpr ⟨Ab (AO (show Am (Str.ofString "rule A 2:0:0") [(Str.ofString "rule"),(Str.ofString "A"),(Str.ofString "2:0:0")] 12=true by decide +kernel)) (by decide) λN=>A1 (i:=0) (n:=3) (f:=λt=>CB t) (AO (show Am (Str.ofString "rule A 2:0:0") [(Str.ofString "rule"),(Str.ofString "A"),(Str.ofString "2:0:0")] 12=true by decide +kernel)).w (by decide +kernel) (λt=>rfl) rfl λt H d Q E r=>⟨_,_,_,rfl,.inl ⟨(Gb (by decide +kernel)),r⟩⟩,
  (λ_ h=>qE h ax)⟩)⟩)⟩)⟩)
 have f1:=(AJ.new hb1 _).trans e2;refine B6 (λHX=>AJ H HX/\∃vs,HX q2=some (.lst vs)/\vs.length=10/\Ba HX n0 n1 n2 1 vs) ⟨e1.trans f1,_,h2,by rw[ac,l1];rfl,Ba.app (a1.same f1) (a2 _)⟩ ?_;clear a1 a2 f1 h2 e2 G h1 e1 l1;rintro H2 ⟨e2,vs2,h2,l2,a2⟩;refine BI λN hN=>?_;walk_at "";refine (BH (v:=.str n3) (Ag.of (e2 _ _ hp)) rfl ⟨n3,rfl,BE (show Ac 5 (Str.ofString "join ")=true by decide +kernel) nm.o3.tx (by decide),BE (AQ (show Ac 5 (Str.ofString "join ")=true by decide +kernel) nm.o3.tx) (show Ac 1 (Str.ofString " ")=true by decide +kernel) (by decide),BH (v:=.str n0) (Ag.of (e2 _ _ hp)) rfl ⟨n0,rfl,BE (AQ (AQ (show Ac 5 (Str.ofString "join ")=true by decide +kernel) nm.o3.tx) (show Ac 1 (Str.ofString " ")=true by decide +kernel)) nm.o0.tx (by decide),BE (AQ (AQ (AQ (show Ac 5 (Str.ofString "join ")=true by decide +kernel) nm.o3.tx) (show Ac 1 (Str.ofString " ")=true by decide +kernel)) nm.o0.tx) (show Ac 1 (Str.ofString " ")=true by decide +kernel) (by decide),BH (v:=.str n3) (Ag.of (e2 _ _ hp)) rfl ⟨n3,rfl,BE (AQ (AQ (AQ (AQ (show Ac 5 (Str.ofString "join ")=true by decide +kernel) nm.o3.tx) (show Ac 1 (Str.ofString " ")=true by decide +kernel)) nm.o0.tx) (show Ac 1 (Str.ofString " ")=true by decide +kernel)) nm.o3.tx (by decide),BH (v:=.str n3) (Ag.of (e2 _ _ hp)) rfl ⟨n3,rfl,BE (show Ac 5 (Str.ofString "move ")=true by decide +kernel) nm.o3.tx (by decide),BE (AQ (show Ac 5 (Str.ofString "move ")=true by decide +kernel) nm.o3.tx) (show Ac 1 (Str.ofString " ")=true by decide +kernel) (by decide),BH (v:=.str n3) (Ag.of (e2 _ _ hp)) rfl ⟨n3,rfl,BE (AQ (AQ (show Ac 5 (Str.ofString "move ")=true by decide +kernel) nm.o3.tx) (show Ac 1 (Str.ofString " ")=true by decide +kernel)) nm.o3.tx (by decide),BE (AQ (AQ (AQ (show Ac 5 (Str.ofString "move ")=true by decide +kernel) nm.o3.tx) (show Ac 1 (Str.ofString " ")=true by decide +kernel)) nm.o3.tx) (show Ac 2 (Str.ofString " x")=true by decide +kernel) (by decide),by decide,λb2 hb2=>BP ((AJ.new hb2 _) _ _ h2) AF (by rw[l2];exact (show 10+2<=1000 by decide)) λq3 G e3 _ h3=>hN _ _ ?_⟩⟩⟩⟩⟩);clear hN N
 have a3:∀H,Ba H n0 n1 n2 1 _:=λH=>(aY.mpr ⟨Ab (At (At (AS (ks:=(Str.ofString "join ")) (k:=(Str.ofString "join")) (by decide +kernel) (AO (show Am (Str.ofString "join") [(Str.ofString "join")] 4=true by decide +kernel)) nm.o3) nm.o0) nm.o3) (by decide) λN=>A1 (i:=1) (n:=4) (f:=λt=>DO t) (At (At (AS (ks:=(Str.ofString "join ")) (k:=(Str.ofString "join")) (by decide +kernel) (AO (show Am (Str.ofString "join") [(Str.ofString "join")] 4=true by decide +kernel)) nm.o3) nm.o0) nm.o3).w (by decide +kernel) (λt=>rfl) rfl λt H d Q E r=>⟨_,_,_,_,rfl,.inr (.inr ⟨nm.o3,_,nm.l0,.inl ⟨nm.l3,r⟩⟩)⟩,
  (aY.mpr ⟨Ab (Ak (x:=(Str.ofString "x")) (At (AS (ks:=(Str.ofString "move ")) (k:=(Str.ofString "move")) (by decide +kernel) (AO (show Am (Str.ofString "move") [(Str.ofString "move")] 4=true by decide +kernel)) nm.o3) nm.o3) (by decide +kernel) (AO (show Am (Str.ofString "x") [(Str.ofString "x")] 1=true by decide +kernel)) (show Ac 2 (Str.ofString " x")=true by decide +kernel)) (by decide) λN=>A1 (i:=4) (n:=4) (f:=λt=>Cn t) (Ak (x:=(Str.ofString "x")) (At (AS (ks:=(Str.ofString "move ")) (k:=(Str.ofString "move")) (by decide +kernel) (AO (show Am (Str.ofString "move") [(Str.ofString "move")] 4=true by decide +kernel)) nm.o3) nm.o3) (by decide +kernel) (AO (show Am (Str.ofString "x") [(Str.ofString "x")] 1=true by decide +kernel)) (show Ac 2 (Str.ofString " x")=true by decide +kernel)).w (by decide +kernel) (λt=>rfl) rfl λt H d Q E r=>⟨_,_,_,_,rfl,.inr (.inl ⟨nm.o3,nm.l3,r⟩)⟩,
  (λ_ h=>qE h ax)⟩)⟩)
 have f2:=(AJ.new hb2 _).trans e3;refine B6 (λHX=>AJ H HX/\∃vs,HX q3=some (.lst vs)/\vs.length=12/\Ba HX n0 n1 n2 1 vs) ⟨e2.trans f2,_,h3,by rw[ac,l2];rfl,Ba.app (a2.same f2) (a3 _)⟩ ?_;clear a2 a3 f2 h3 e3 G h2 e2 l2;rintro H3 ⟨e3,vs3,h3,l3,a3⟩;refine BI λN hN=>?_;walk_at "";refine (BH (v:=.str n3) (Ag.of (e3 _ _ hp)) rfl ⟨n3,rfl,BE (show Ac 4 (Str.ofString "led ")=true by decide +kernel) nm.o3.tx (by decide),BE (AQ (show Ac 4 (Str.ofString "led ")=true by decide +kernel) nm.o3.tx) (show Ac 2 (Str.ofString " 9")=true by decide +kernel) (by decide),BH (v:=.str n0) (Ag.of (e3 _ _ hp)) rfl ⟨n0,rfl,BE (show Ac 5 (Str.ofString "same ")=true by decide +kernel) nm.o0.tx (by decide),BE (AQ (show Ac 5 (Str.ofString "same ")=true by decide +kernel) nm.o0.tx) (show Ac 1 (Str.ofString " ")=true by decide +kernel) (by decide),BH (v:=.str n3) (Ag.of (e3 _ _ hp)) rfl ⟨n3,rfl,BE (AQ (AQ (show Ac 5 (Str.ofString "same ")=true by decide +kernel) nm.o0.tx) (show Ac 1 (Str.ofString " ")=true by decide +kernel)) nm.o3.tx (by decide),by decide,λb3 hb3=>BP ((AJ.new hb3 _) _ _ h3) AF (by rw[l3];exact (show 12+2<=1000 by decide)) λq4 G e4 _ h4=>hN _ _ ?_⟩⟩⟩);clear hN N
 have a4:∀H,Ba H n0 n1 n2 1 _:=λH=>(aY.mpr ⟨Ab (Ak (x:=(Str.ofString "9")) (AS (ks:=(Str.ofString "led ")) (k:=(Str.ofString "led")) (by decide +kernel) (AO (show Am (Str.ofString "led") [(Str.ofString "led")] 3=true by decide +kernel)) nm.o3) (by decide +kernel) (AO (show Am (Str.ofString "9") [(Str.ofString "9")] 1=true by decide +kernel)) (show Ac 2 (Str.ofString " 9")=true by decide +kernel)) (by decide) λN=>A1 (i:=10) (n:=3) (f:=λt=>Bh t 0) (Ak (x:=(Str.ofString "9")) (AS (ks:=(Str.ofString "led ")) (k:=(Str.ofString "led")) (by decide +kernel) (AO (show Am (Str.ofString "led") [(Str.ofString "led")] 3=true by decide +kernel)) nm.o3) (by decide +kernel) (AO (show Am (Str.ofString "9") [(Str.ofString "9")] 1=true by decide +kernel)) (show Ac 2 (Str.ofString " 9")=true by decide +kernel)).w (by decide +kernel) (λt=>rfl) rfl λt H d Q E r=>⟨_,_,_,rfl,.inl ⟨nm.l3,r⟩⟩,
  (aY.mpr ⟨Ab (At (AS (ks:=(Str.ofString "same ")) (k:=(Str.ofString "same")) (by decide +kernel) (AO (show Am (Str.ofString "same") [(Str.ofString "same")] 4=true by decide +kernel)) nm.o0) nm.o3) (by decide) λN=>A1 (i:=9) (n:=3) (f:=λt=>Gy t) (At (AS (ks:=(Str.ofString "same ")) (k:=(Str.ofString "same")) (by decide +kernel) (AO (show Am (Str.ofString "same") [(Str.ofString "same")] 4=true by decide +kernel)) nm.o0) nm.o3).w (by decide +kernel) (λt=>rfl) rfl λt H d Q E r=>⟨_,_,_,rfl,.inr ⟨_,nm.l0,nm.l3,r⟩⟩,
  (λ_ h=>qE h ax)⟩)⟩)
 have f3:=(AJ.new hb3 _).trans e4;refine B6 (λHX=>AJ H HX/\∃vs,HX q4=some (.lst vs)/\vs.length=14/\Ba HX n0 n1 n2 1 vs) ⟨e3.trans f3,_,h4,by rw[ac,l3];rfl,Ba.app (a3.same f3) (a4 _)⟩ ?_;clear a3 a4 f3 h4 e4 G h3 e3 l3;rintro H4 ⟨e4,vs4,h4,l4,a4⟩;walk_at "";refine (BH (v:=.str n0) (Ag.of (e4 _ _ hp)) rfl ⟨n0,rfl,BE (show Ac 7 (Str.ofString "join A ")=true by decide +kernel) nm.o0.tx (by decide),BE (AQ (show Ac 7 (Str.ofString "join A ")=true by decide +kernel) nm.o0.tx) (show Ac 1 (Str.ofString " ")=true by decide +kernel) (by decide),BH (v:=.str n1) (Ag.of (e4 _ _ hp)) rfl ⟨n1,rfl,BE (AQ (AQ (show Ac 7 (Str.ofString "join A ")=true by decide +kernel) nm.o0.tx) (show Ac 1 (Str.ofString " ")=true by decide +kernel)) nm.o1.tx (by decide),BH (v:=.str n0) (Ag.of (e4 _ _ hp)) rfl ⟨n0,rfl,BE (show Ac 7 (Str.ofString "number ")=true by decide +kernel) nm.o0.tx (by decide),BE (AQ (show Ac 7 (Str.ofString "number ")=true by decide +kernel) nm.o0.tx) (show Ac 1 (Str.ofString "-")=true by decide +kernel) (by decide),BH (v:=.str n3) (Ag.of (e4 _ _ hp)) rfl ⟨n3,rfl,BE (show Ac 5 (Str.ofString "kept ")=true by decide +kernel) nm.o3.tx (by decide),by decide,λpb hpb=>BP ((AJ.new hpb _) _ _ h4) AF (by rw[l4];exact (show 14+3<=1000 by decide)) λq9 G e9 _ h9=>?_⟩⟩⟩⟩);have eA:=(AJ.new hpb _).trans e9
 exact q _ _ _ (e4.trans eA) h9 (by rw[ac,l4];exact (show 14+3<=30 by decide)) (by rw[ac,l4];exact (show 0<14+3 by decide)) (Ba.app (a4.same eA) (aY.mpr ⟨Ab (At (AS (ks:=(Str.ofString "join A ")) (k:=(Str.ofString "join A")) (by decide +kernel) (AO (show Am (Str.ofString "join A") [(Str.ofString "join"),(Str.ofString "A")] 6=true by decide +kernel)) nm.o0) nm.o1) (by decide) λN=>A1 (i:=1) (n:=4) (f:=λt=>DO t) (At (AS (ks:=(Str.ofString "join A ")) (k:=(Str.ofString "join A")) (by decide +kernel) (AO (show Am (Str.ofString "join A") [(Str.ofString "join"),(Str.ofString "A")] 6=true by decide +kernel)) nm.o0) nm.o1).w (by decide +kernel) (λt=>rfl) rfl λt H d Q E r=>⟨_,_,_,_,rfl,.inl ⟨(Gb (by decide +kernel)),r⟩⟩,
  (aY.mpr ⟨Ab (Ni nm.o0) (by decide) λN=>A1 (i:=8) (n:=2) (f:=λt=>GM t) (Ni nm.o0).w (by decide +kernel) (λt=>rfl) rfl λt H d Q E r=>⟨_,_,rfl,.inl ⟨nm.no Sd,r⟩⟩,
  (aY.mpr ⟨Ab (AS (ks:=(Str.ofString "kept ")) (k:=(Str.ofString "kept")) (by decide +kernel) (AO (show Am (Str.ofString "kept") [(Str.ofString "kept")] 4=true by decide +kernel)) nm.o3) (by decide) λN=>A1 (i:=15) (n:=2) (f:=λt=>Bp t) (AS (ks:=(Str.ofString "kept ")) (k:=(Str.ofString "kept")) (by decide +kernel) (AO (show Am (Str.ofString "kept") [(Str.ofString "kept")] 4=true by decide +kernel)) nm.o3).w (by decide +kernel) (λt=>rfl) rfl λt H d Q E r=>⟨_,_,rfl,.inl ⟨nm.l3,r⟩⟩,
  (λ_ h=>qE h ax)⟩)⟩)⟩))
theorem Sn:AM ["_law_n","_law_some","_law_bad"] ["_law_n"] (AG Zu):=BM
theorem aC(T:Ay w K mg t) :Aa P w K mg base 1 t.f_5 ["_law_n"] (E8 2):=by
 refine Az T.d_5 Sn λvs H Q E h=>?_;obtain⟨p,n0,n1,n2,n3,rfl,hp,nm,q⟩:=h;refine⟨rfl,λd9 A outer s hr=>?_⟩
 refine⟨_,(IW.out (Hd (Jw (i:=1) Sn.nd rfl (Or.inl rfl) (.of (Aq (AA (AL AD (AL AD AI (AN (BA K) (pv 0) AE (λ_ _=>rfl))) AI) (AA (AL AD (AL AD AI (AN (BA K) (pv 0) AE (λ_ _=>rfl))) AI) AB)))) rfl (by first|exact .inl rfl|exact .inr rfl))
  (Hd (Jw (i:=1) Sn.nd rfl (Or.inl rfl) (.of (AL Bj (pv 1) (Aq (AA (AL AD (AL AD AI (AN (BA K) (pv 0) AE (λ_ _=>rfl))) AI) (AA (AL AD (AL AD AI (AN (BA K) (pv 0) AE (λ_ _=>rfl))) AI) (AA (AL AD (AL AD AI (AN (BA K) (pv 0) AE (λ_ _=>rfl))) AI) AB)))))) rfl (by first|exact .inl rfl|exact .inr rfl))
  (Hd (Jw (i:=2) Sn.nd rfl (Or.inl rfl) (.of (Aq (AA AI (AA AI (AA AI (AA AI (AA (AL AD AI (AL SY AI AE)) AB))))))) rfl (by first|exact .inl rfl|exact .inr rfl))
  (R1 (.of (AW (AL Bj (AL Bj (pv 1) (Aq (AA (AL AD (AL AD AI (AN (BA K) (pv 0) AE (λ_ _=>rfl))) AI) AB))) (C3 [(0,"_law_n")] [("_law_n",_)] (Nd K (pv 2)) (λ_ _ _ _=>B8) (λ_ _ _ _=>(AL AD (AL AD (AL AD (AL AD AI (AN (Km (K:=K) rfl) (pv 1) AE (λ_ _=>rfl))) AI) (AN (Km (K:=K) rfl) (pv 1) AE (λ_ _=>rfl))) (pv 0)))))))))))),?_⟩
 refine BI λN hN=>?_;walk_at "";refine (BH (v:=.str n3) (Ag.of hp) rfl ⟨n3,rfl,BE (show Ac 5 (Str.ofString "rule ")=true by decide +kernel) nm.o3.tx (by decide),BE (AQ (show Ac 5 (Str.ofString "rule ")=true by decide +kernel) nm.o3.tx) (show Ac 6 (Str.ofString " 2:0:0")=true by decide +kernel) (by decide),BH (v:=.str n0) (Ag.of hp) rfl ⟨n0,rfl,BE (show Ac 5 (Str.ofString "rule ")=true by decide +kernel) nm.o0.tx (by decide),BE (AQ (show Ac 5 (Str.ofString "rule ")=true by decide +kernel) nm.o0.tx) (show Ac 8 (Str.ofString " 2:0:012")=true by decide +kernel) (by decide),by decide,λq1 hq1=>hN _ _ ?_⟩⟩);clear hN N
 have a1:∀H,Ba H n0 n1 n2 2 _:=λH=>(aY.mpr ⟨Ab (Ak (x:=(Str.ofString "2:0:0")) (AS (ks:=(Str.ofString "rule ")) (k:=(Str.ofString "rule")) (by decide +kernel) (AO (show Am (Str.ofString "rule") [(Str.ofString "rule")] 4=true by decide +kernel)) nm.o3) (by decide +kernel) (AO (show Am (Str.ofString "2:0:0") [(Str.ofString "2:0:0")] 5=true by decide +kernel)) (show Ac 6 (Str.ofString " 2:0:0")=true by decide +kernel)) (by decide) λN=>A1 (i:=0) (n:=3) (f:=λt=>CB t) (Ak (x:=(Str.ofString "2:0:0")) (AS (ks:=(Str.ofString "rule ")) (k:=(Str.ofString "rule")) (by decide +kernel) (AO (show Am (Str.ofString "rule") [(Str.ofString "rule")] 4=true by decide +kernel)) nm.o3) (by decide +kernel) (AO (show Am (Str.ofString "2:0:0") [(Str.ofString "2:0:0")] 5=true by decide +kernel)) (show Ac 6 (Str.ofString " 2:0:0")=true by decide +kernel)).w (by decide +kernel) (λt=>rfl) rfl λt H d Q E r=>⟨_,_,_,rfl,.inr (.inl ⟨nm.o3,XH,r⟩)⟩,
  (aY.mpr ⟨Ab (Ak (x:=(Str.ofString "2:0:012")) (AS (ks:=(Str.ofString "rule ")) (k:=(Str.ofString "rule")) (by decide +kernel) (AO (show Am (Str.ofString "rule") [(Str.ofString "rule")] 4=true by decide +kernel)) nm.o0) (by decide +kernel) (AO (show Am (Str.ofString "2:0:012") [(Str.ofString "2:0:012")] 7=true by decide +kernel)) (show Ac 8 (Str.ofString " 2:0:012")=true by decide +kernel)) (by decide) λN=>A1 (i:=0) (n:=3) (f:=λt=>CB t) (Ak (x:=(Str.ofString "2:0:012")) (AS (ks:=(Str.ofString "rule ")) (k:=(Str.ofString "rule")) (by decide +kernel) (AO (show Am (Str.ofString "rule") [(Str.ofString "rule")] 4=true by decide +kernel)) nm.o0) (by decide +kernel) (AO (show Am (Str.ofString "2:0:012") [(Str.ofString "2:0:012")] 7=true by decide +kernel)) (show Ac 8 (Str.ofString " 2:0:012")=true by decide +kernel)).w (by decide +kernel) (λt=>rfl) rfl λt H d Q E r=>⟨_,_,_,rfl,.inr (.inl ⟨nm.o0,XI,r⟩)⟩,
  (λ_ h=>qE h ax)⟩)⟩)
 refine B6 (λHX=>AJ H HX/\∃vs,HX q1=some (.lst vs)/\vs.length=2/\Ba HX n0 n1 n2 2 vs) ⟨AJ.new hq1 _,_,AF,rfl,a1 _⟩ ?_;clear a1 hq1;rintro H1 ⟨e1,vs1,h1,l1,a1⟩;refine BI λN hN=>?_;walk_at "";refine (BH (v:=.str n0) (Ag.of (e1 _ _ hp)) rfl ⟨n0,rfl,BE (show Ac 4 (Str.ofString "led ")=true by decide +kernel) nm.o0.tx (by decide),BE (AQ (show Ac 4 (Str.ofString "led ")=true by decide +kernel) nm.o0.tx) (show Ac 2 (Str.ofString " 9")=true by decide +kernel) (by decide),BH (v:=.str n0) (Ag.of (e1 _ _ hp)) rfl ⟨n0,rfl,BE (show Ac 4 (Str.ofString "led ")=true by decide +kernel) nm.o0.tx (by decide),BE (AQ (show Ac 4 (Str.ofString "led ")=true by decide +kernel) nm.o0.tx) (show Ac 3 (Str.ofString " 0a")=true by decide +kernel) (by decide),BH (v:=.str n0) (Ag.of (e1 _ _ hp)) rfl ⟨n0,rfl,BE (show Ac 5 (Str.ofString "ring ")=true by decide +kernel) nm.o0.tx (by decide),BE (AQ (show Ac 5 (Str.ofString "ring ")=true by decide +kernel) nm.o0.tx) (show Ac 1 (Str.ofString " ")=true by decide +kernel) (by decide),by decide,λb1 hb1=>BP ((AJ.new hb1 _) _ _ h1) AF (by rw[l1];exact (show 2+3<=1000 by decide)) λq2 G e2 _ h2=>hN _ _ ?_⟩⟩⟩);clear hN N
 have a2:∀H,Ba H n0 n1 n2 2 _:=λH=>(aY.mpr ⟨Ab (Ak (x:=(Str.ofString "9")) (AS (ks:=(Str.ofString "led ")) (k:=(Str.ofString "led")) (by decide +kernel) (AO (show Am (Str.ofString "led") [(Str.ofString "led")] 3=true by decide +kernel)) nm.o0) (by decide +kernel) (AO (show Am (Str.ofString "9") [(Str.ofString "9")] 1=true by decide +kernel)) (show Ac 2 (Str.ofString " 9")=true by decide +kernel)) (by decide) λN=>A1 (i:=10) (n:=3) (f:=λt=>Bh t 0) (Ak (x:=(Str.ofString "9")) (AS (ks:=(Str.ofString "led ")) (k:=(Str.ofString "led")) (by decide +kernel) (AO (show Am (Str.ofString "led") [(Str.ofString "led")] 3=true by decide +kernel)) nm.o0) (by decide +kernel) (AO (show Am (Str.ofString "9") [(Str.ofString "9")] 1=true by decide +kernel)) (show Ac 2 (Str.ofString " 9")=true by decide +kernel)).w (by decide +kernel) (λt=>rfl) rfl λt H d Q E r=>⟨_,_,_,rfl,.inr ⟨_,nm.l0,.inl ⟨by decide +kernel,r⟩⟩⟩,
  (aY.mpr ⟨Ab (Ak (x:=(Str.ofString "0a")) (AS (ks:=(Str.ofString "led ")) (k:=(Str.ofString "led")) (by decide +kernel) (AO (show Am (Str.ofString "led") [(Str.ofString "led")] 3=true by decide +kernel)) nm.o0) (by decide +kernel) (AO (show Am (Str.ofString "0a") [(Str.ofString "0a")] 2=true by decide +kernel)) (show Ac 3 (Str.ofString " 0a")=true by decide +kernel)) (by decide) λN=>A1 (i:=10) (n:=3) (f:=λt=>Bh t 0) (Ak (x:=(Str.ofString "0a")) (AS (ks:=(Str.ofString "led ")) (k:=(Str.ofString "led")) (by decide +kernel) (AO (show Am (Str.ofString "led") [(Str.ofString "led")] 3=true by decide +kernel)) nm.o0) (by decide +kernel) (AO (show Am (Str.ofString "0a") [(Str.ofString "0a")] 2=true by decide +kernel)) (show Ac 3 (Str.ofString " 0a")=true by decide +kernel)).w (by decide +kernel) (λt=>rfl) rfl λt H d Q E r=>⟨_,_,_,rfl,.inr ⟨_,nm.l0,.inl ⟨by decide +kernel,r⟩⟩⟩,
  (aY.mpr ⟨Ab (Ak (x:=(Str.ofString "")) (AS (ks:=(Str.ofString "ring ")) (k:=(Str.ofString "ring")) (by decide +kernel) (AO (show Am (Str.ofString "ring") [(Str.ofString "ring")] 4=true by decide +kernel)) nm.o0) (by decide +kernel) (AO (show Am (Str.ofString "") [(Str.ofString "")] 0=true by decide +kernel)) (show Ac 1 (Str.ofString " ")=true by decide +kernel)) (by decide) λN=>A1 (i:=11) (n:=3) (f:=λt=>Bh t 1) (Ak (x:=(Str.ofString "")) (AS (ks:=(Str.ofString "ring ")) (k:=(Str.ofString "ring")) (by decide +kernel) (AO (show Am (Str.ofString "ring") [(Str.ofString "ring")] 4=true by decide +kernel)) nm.o0) (by decide +kernel) (AO (show Am (Str.ofString "") [(Str.ofString "")] 0=true by decide +kernel)) (show Ac 1 (Str.ofString " ")=true by decide +kernel)).w (by decide +kernel) (λt=>rfl) rfl λt H d Q E r=>⟨_,_,_,rfl,.inr ⟨_,nm.l0,.inl ⟨by decide +kernel,r⟩⟩⟩,
  (λ_ h=>qE h ax)⟩)⟩)⟩)
 have f1:=(AJ.new hb1 _).trans e2;refine B6 (λHX=>AJ H HX/\∃vs,HX q2=some (.lst vs)/\vs.length=5/\Ba HX n0 n1 n2 2 vs) ⟨e1.trans f1,_,h2,by rw[ac,l1];rfl,Ba.app (a1.same f1) (a2 _)⟩ ?_;clear a1 a2 f1 h2 e2 G h1 e1 l1;rintro H2 ⟨e2,vs2,h2,l2,a2⟩;refine BI λN hN=>?_;walk_at "";rw[Vt];have d5:5<=sizeLine:=by decide
 refine⟨XM,XN,d5,?_⟩;intro pb hpb;refine hN _ _ ?_;clear hN N;have e3:=e2.trans (AJ.new hpb (.lst (IH.map V.str)));have a3:=a2.same (AJ.new hpb (.lst (IH.map V.str)));have h3:=AJ.new hpb (.lst (IH.map V.str)) _ _ h2;have b3:Ai H2 pb (.lst (IH.map V.str)) pb=some (.lst (IH.map V.str)):=AF;show T0 _ _ _ (Ai H2 pb (.lst (IH.map V.str)));generalize Ai H2 pb (.lst (IH.map V.str))=H3 at e3 a3 h3 b3⊢;clear e2 h2 a2 hpb;walk_at "";refine (BH (v:=.str n0) (Ag.of (e3 _ _ hp)) rfl ⟨n0,rfl,BE (show Ac 7 (Str.ofString "before ")=true by decide +kernel) nm.o0.tx (by decide),BE (AQ (show Ac 7 (Str.ofString "before ")=true by decide +kernel) nm.o0.tx) (show Ac 2 (Str.ofString " x")=true by decide +kernel) (by decide),by decide,λpc hpc=>?_⟩);have e4:=AJ.new hpc (.lst [V.str (Str.ofString "before "++n0++Str.ofString " x")]);refine BP (e4 _ _ h3) AF (by rw[l2];exact (show 5+1<=1000 by decide)) λq4 H4 e5 _ h4=>?_;have e45:=e4.trans e5
 have a4:Ba H4 n0 n1 n2 2 _:=Ba.app (a3.same e45) (aY.mpr ⟨Ab (Ak (x:=(Str.ofString "x")) (AS (ks:=(Str.ofString "before ")) (k:=(Str.ofString "before")) (by decide +kernel) (AO (show Am (Str.ofString "before") [(Str.ofString "before")] 6=true by decide +kernel)) nm.o0) (by decide +kernel) (AO (show Am (Str.ofString "x") [(Str.ofString "x")] 1=true by decide +kernel)) (show Ac 2 (Str.ofString " x")=true by decide +kernel)) (by decide) λN=>A1 (i:=12) (n:=3) (f:=λt=>Bh t 0) (Ak (x:=(Str.ofString "x")) (AS (ks:=(Str.ofString "before ")) (k:=(Str.ofString "before")) (by decide +kernel) (AO (show Am (Str.ofString "before") [(Str.ofString "before")] 6=true by decide +kernel)) nm.o0) (by decide +kernel) (AO (show Am (Str.ofString "x") [(Str.ofString "x")] 1=true by decide +kernel)) (show Ac 2 (Str.ofString " x")=true by decide +kernel)).w (by decide +kernel) (λt=>rfl) rfl λt H d Q E r=>⟨_,_,_,rfl,.inr ⟨_,nm.l0,.inl ⟨by decide +kernel,r⟩⟩⟩,
  (λ_ h=>qE h ax)⟩)
 have b4:=e45 _ _ b3;have e04:=e3.trans e45;refine⟨_,rfl,pb,rfl,⟨_,Ag.of b4⟩,λD hD=>?_⟩;have tM:=(At (AS (ks:=(Str.ofString "move ")) (k:=(Str.ofString "move")) (by decide +kernel) (AO (show Am (Str.ofString "move") [(Str.ofString "move")] 4=true by decide +kernel)) nm.o3) nm.o0).t;refine F5 (xs:=IH.map V.str) (λi d8 Hx=>d8=(IH.take i).map (λb=>V.str (Str.ofString "move "++n3++Str.ofString " "++n0++b))/\AJ H4 Hx/\Hx D=some (.lst d8)) ⟨rfl,AJ.new hD _,AF⟩ (λi d8 Hx _ z=>Ag.of (z.2.1 _ _ b4)) ?_ ?_
 ·refine Mb ?_;rintro i x _ hGo d8 Hx hx ⟨rfl,ex,hDx⟩;refine hGo _ _ ?_;rw[ay]at hx;obtain⟨y,hy,rfl⟩:=bH.mp hx;have ty:Ac 62 y=true:=(show ∀y∈IH,Ac 62 y=true by decide +kernel) y (a8 hy);have hp4:=ex _ _ (e04 _ _ hp);walk_at "";refine (BH (v:=.str n3) (Ag.of hp4) rfl ⟨n3,rfl,BE (show Ac 5 (Str.ofString "move ")=true by decide +kernel) nm.o3.tx (by decide),BE (AQ (show Ac 5 (Str.ofString "move ")=true by decide +kernel) nm.o3.tx) (show Ac 1 (Str.ofString " ")=true by decide +kernel) (by decide),BH (v:=.str n0) (Ag.of hp4) rfl ⟨n0,rfl,BE (AQ (AQ (show Ac 5 (Str.ofString "move ")=true by decide +kernel) nm.o3.tx) (show Ac 1 (Str.ofString " ")=true by decide +kernel)) nm.o0.tx (by decide),BE tM ty (by decide),hDx,?_,?_,ex.into hD,AF⟩⟩)
  ·rw[aW,bJ,sizeLine_eq];have:IH.length=5:=rfl;lia
  ·rw[bV,hy,az];rfl
 rintro d8 Hx ⟨rfl,ex,hDx⟩;rw[aW,bN]at hDx;refine BP (ex _ _ h4) hDx (by rw[ac,l2];exact (show 5+1+5<=1000 by decide)) λq6 H6 e6 _ h6=>?_;refine q _ _ _ ((e04.trans ex).trans e6) h6 (by rw[ac,ac,l2];exact (show 5+1+5<=30 by decide)) (by rw[ac,ac,l2];exact (show 0<5+1+5 by decide)) (Ba.app (a4.same (ex.trans e6)) ?_)
 exact (aY.mpr ⟨Ab (Ak (x:=(Str.ofString "01")) (c:=(Str.ofString " 01")) (At (AS (ks:=(Str.ofString "move ")) (k:=(Str.ofString "move")) (by decide +kernel) (AO (show Am (Str.ofString "move") [(Str.ofString "move")] 4=true by decide +kernel)) nm.o3) nm.o0) (by decide +kernel) (AO (show Am (Str.ofString "01") [(Str.ofString "01")] 2=true by decide +kernel)) (show Ac 3 (Str.ofString " 01")=true by decide +kernel)) (by decide) λN=>A1 (i:=4) (n:=4) (f:=λt=>Cn t) (Ak (x:=(Str.ofString "01")) (c:=(Str.ofString " 01")) (At (AS (ks:=(Str.ofString "move ")) (k:=(Str.ofString "move")) (by decide +kernel) (AO (show Am (Str.ofString "move") [(Str.ofString "move")] 4=true by decide +kernel)) nm.o3) nm.o0) (by decide +kernel) (AO (show Am (Str.ofString "01") [(Str.ofString "01")] 2=true by decide +kernel)) (show Ac 3 (Str.ofString " 01")=true by decide +kernel)).w (by decide +kernel) (λt=>rfl) rfl λt H d Q E r=>⟨_,_,_,_,rfl,.inr (.inr ⟨nm.o3,_,nm.l0,Fw (by decide +kernel) (by decide +kernel),r⟩)⟩,
  (aY.mpr ⟨Ab (Ak (x:=(Str.ofString "-0")) (c:=(Str.ofString " -0")) (At (AS (ks:=(Str.ofString "move ")) (k:=(Str.ofString "move")) (by decide +kernel) (AO (show Am (Str.ofString "move") [(Str.ofString "move")] 4=true by decide +kernel)) nm.o3) nm.o0) (by decide +kernel) (AO (show Am (Str.ofString "-0") [(Str.ofString "-0")] 2=true by decide +kernel)) (show Ac 3 (Str.ofString " -0")=true by decide +kernel)) (by decide) λN=>A1 (i:=4) (n:=4) (f:=λt=>Cn t) (Ak (x:=(Str.ofString "-0")) (c:=(Str.ofString " -0")) (At (AS (ks:=(Str.ofString "move ")) (k:=(Str.ofString "move")) (by decide +kernel) (AO (show Am (Str.ofString "move") [(Str.ofString "move")] 4=true by decide +kernel)) nm.o3) nm.o0) (by decide +kernel) (AO (show Am (Str.ofString "-0") [(Str.ofString "-0")] 2=true by decide +kernel)) (show Ac 3 (Str.ofString " -0")=true by decide +kernel)).w (by decide +kernel) (λt=>rfl) rfl λt H d Q E r=>⟨_,_,_,_,rfl,.inr (.inr ⟨nm.o3,_,nm.l0,Fw (by decide +kernel) (by decide +kernel),r⟩)⟩,
  (aY.mpr ⟨Ab (Ak (x:=(Str.ofString "+1")) (c:=(Str.ofString " +1")) (At (AS (ks:=(Str.ofString "move ")) (k:=(Str.ofString "move")) (by decide +kernel) (AO (show Am (Str.ofString "move") [(Str.ofString "move")] 4=true by decide +kernel)) nm.o3) nm.o0) (by decide +kernel) (AO (show Am (Str.ofString "+1") [(Str.ofString "+1")] 2=true by decide +kernel)) (show Ac 3 (Str.ofString " +1")=true by decide +kernel)) (by decide) λN=>A1 (i:=4) (n:=4) (f:=λt=>Cn t) (Ak (x:=(Str.ofString "+1")) (c:=(Str.ofString " +1")) (At (AS (ks:=(Str.ofString "move ")) (k:=(Str.ofString "move")) (by decide +kernel) (AO (show Am (Str.ofString "move") [(Str.ofString "move")] 4=true by decide +kernel)) nm.o3) nm.o0) (by decide +kernel) (AO (show Am (Str.ofString "+1") [(Str.ofString "+1")] 2=true by decide +kernel)) (show Ac 3 (Str.ofString " +1")=true by decide +kernel)).w (by decide +kernel) (λt=>rfl) rfl λt H d Q E r=>⟨_,_,_,_,rfl,.inr (.inr ⟨nm.o3,_,nm.l0,Fw (by decide +kernel) (by decide +kernel),r⟩)⟩,
  (aY.mpr ⟨Ab (Ak (x:=(Str.ofString "")) (c:=(Str.ofString " ")) (At (AS (ks:=(Str.ofString "move ")) (k:=(Str.ofString "move")) (by decide +kernel) (AO (show Am (Str.ofString "move") [(Str.ofString "move")] 4=true by decide +kernel)) nm.o3) nm.o0) (by decide +kernel) (AO (show Am (Str.ofString "") [(Str.ofString "")] 0=true by decide +kernel)) (show Ac 1 (Str.ofString " ")=true by decide +kernel)) (by decide) λN=>A1 (i:=4) (n:=4) (f:=λt=>Cn t) (Ak (x:=(Str.ofString "")) (c:=(Str.ofString " ")) (At (AS (ks:=(Str.ofString "move ")) (k:=(Str.ofString "move")) (by decide +kernel) (AO (show Am (Str.ofString "move") [(Str.ofString "move")] 4=true by decide +kernel)) nm.o3) nm.o0) (by decide +kernel) (AO (show Am (Str.ofString "") [(Str.ofString "")] 0=true by decide +kernel)) (show Ac 1 (Str.ofString " ")=true by decide +kernel)).w (by decide +kernel) (λt=>rfl) rfl λt H d Q E r=>⟨_,_,_,_,rfl,.inr (.inr ⟨nm.o3,_,nm.l0,Fw (by decide +kernel) (by decide +kernel),r⟩)⟩,
  (aY.mpr ⟨Ab (Ak (x:=(Str.ofString "1111111111111111111111111111111111111111111111111111111111111")) (c:=(Str.ofString " "++(Str.ofString "1111111111111111111111111111111111111111111111111111111111111"))) (At (AS (ks:=(Str.ofString "move ")) (k:=(Str.ofString "move")) (by decide +kernel) (AO (show Am (Str.ofString "move") [(Str.ofString "move")] 4=true by decide +kernel)) nm.o3) nm.o0) (by decide +kernel) (AO (show Am (Str.ofString "1111111111111111111111111111111111111111111111111111111111111") [(Str.ofString "1111111111111111111111111111111111111111111111111111111111111")] 61=true by decide +kernel)) (show Ac 62 (Str.ofString " "++(Str.ofString "1111111111111111111111111111111111111111111111111111111111111"))=true by decide +kernel)) (by decide) λN=>A1 (i:=4) (n:=4) (f:=λt=>Cn t) (Ak (x:=(Str.ofString "1111111111111111111111111111111111111111111111111111111111111")) (c:=(Str.ofString " "++(Str.ofString "1111111111111111111111111111111111111111111111111111111111111"))) (At (AS (ks:=(Str.ofString "move ")) (k:=(Str.ofString "move")) (by decide +kernel) (AO (show Am (Str.ofString "move") [(Str.ofString "move")] 4=true by decide +kernel)) nm.o3) nm.o0) (by decide +kernel) (AO (show Am (Str.ofString "1111111111111111111111111111111111111111111111111111111111111") [(Str.ofString "1111111111111111111111111111111111111111111111111111111111111")] 61=true by decide +kernel)) (show Ac 62 (Str.ofString " "++(Str.ofString "1111111111111111111111111111111111111111111111111111111111111"))=true by decide +kernel)).w (by decide +kernel) (λt=>rfl) rfl λt H d Q E r=>⟨_,_,_,_,rfl,.inr (.inr ⟨nm.o3,_,nm.l0,Fw (by decide +kernel) (by decide +kernel),r⟩)⟩,
  (λ_ h=>qE h ax)⟩)⟩)⟩)⟩)⟩)
theorem Tq:AM ["_law_n","_law_way","_law_some"] ["_law_n","_law_way"] (AG Vl):=BM
theorem ZD(T:Ay w K mg t) :Aa P w K mg base 1 t.f_23 ["_law_n","_law_way"] (KN):=by
 refine Az T.d_23 Tq λvs H Q E h=>?_;obtain⟨p,n0,n1,n2,n3,c,rfl,c3,c6,hp,nm,q⟩:=h;refine⟨rfl,λd9 A outer s hr=>?_⟩
 refine⟨_,(AC (Aw (AZ CP (pv 1) AE (Ad _)) (AH (AW (Aq (AA (AL AD (AL AD AI (AN (BA K) (pv 0) AE (λ_ _=>rfl))) AI) (AA (AL AD (AL AD AI (AN (BA K) (pv 0) AE (λ_ _=>rfl))) AI) (AA (AL AD (AL AD AI (AN (BA K) (pv 0) AE (λ_ _=>rfl))) AI) (AA (AL AD (AL AD AI (AN (BA K) (pv 0) AE (λ_ _=>rfl))) AI) AB))))))) Af)
  (AC (Aw (AZ CP (pv 1) AE (Ad _)) (AH (AW (Aq (AA (AL AD (AL AD (AL AD (AL AD (AL AD AI (AN (BA K) (pv 0) AE (λ_ _=>rfl))) AI) (AN (BA K) (pv 0) AE (λ_ _=>rfl))) AI) (AN (BA K) (pv 0) AE (λ_ _=>rfl))) (AA (AL AD (AL AD (AL AD (AL AD (AL AD AI (AN (BA K) (pv 0) AE (λ_ _=>rfl))) AI) (AN (BA K) (pv 0) AE (λ_ _=>rfl))) AI) (AN (BA K) (pv 0) AE (λ_ _=>rfl))) AB))))) Af)
  (AC (Aw (AZ CP (pv 1) AE (Ad _)) (AH (AW (Aq (AA (AL AD (AL AD (AL AD AI (AN (BA K) (pv 0) AE (λ_ _=>rfl))) AI) (AN (BA K) (pv 0) AE (λ_ _=>rfl))) (AA (AL AD (AL AD (AL AD AI (AN (BA K) (pv 0) AE (λ_ _=>rfl))) AI) (AN (BA K) (pv 0) AE (λ_ _=>rfl))) AB))))) Af)
  (AC (AY 2 Tq (Aq (AA (AL AD AI (AN (BA K) (pv 0) AE (λ_ _=>rfl))) (AA (AL AD AI (AN (BA K) (pv 0) AE (λ_ _=>rfl))) (AA (AL AD AI (AN (BA K) (pv 0) AE (λ_ _=>rfl))) (AA (AL AD (AL AD (AL AD AI (AN (BA K) (pv 0) AE (λ_ _=>rfl))) AI) (AN (BA K) (pv 0) AE (λ_ _=>rfl))) AB))))))
  (AH (AW (AL Bj (pv 2) (Aq (AA (AL AD (AL AD (AL AD (AL AD (AL AD AI (AN (BA K) (pv 0) AE (λ_ _=>rfl))) AI) (AN (BA K) (pv 0) AE (λ_ _=>rfl))) AI) (AN (BA K) (pv 0) AE (λ_ _=>rfl))) AB))))))))),?_⟩
 refine BI λN hN=>?_;walk_at ""
 by_cases z:c=3
 ·rw[qD (by rw[z];rfl)];subst z;clear hN N;refine (BH (v:=.str n0) (Ag.of hp) rfl ⟨n0,rfl,BE (show Ac 4 (Str.ofString "led ")=true by decide +kernel) nm.o0.tx (by decide),BE (AQ (show Ac 4 (Str.ofString "led ")=true by decide +kernel) nm.o0.tx) (show Ac 4 (Str.ofString " 012")=true by decide +kernel) (by decide),BH (v:=.str n0) (Ag.of hp) rfl ⟨n0,rfl,BE (show Ac 5 (Str.ofString "ring ")=true by decide +kernel) nm.o0.tx (by decide),BE (AQ (show Ac 5 (Str.ofString "ring ")=true by decide +kernel) nm.o0.tx) (show Ac 2 (Str.ofString " 2")=true by decide +kernel) (by decide),BH (v:=.str n0) (Ag.of hp) rfl ⟨n0,rfl,BE (show Ac 5 (Str.ofString "ring ")=true by decide +kernel) nm.o0.tx (by decide),BE (AQ (show Ac 5 (Str.ofString "ring ")=true by decide +kernel) nm.o0.tx) (show Ac 2 (Str.ofString " -")=true by decide +kernel) (by decide),BH (v:=.str n0) (Ag.of hp) rfl ⟨n0,rfl,BE (show Ac 7 (Str.ofString "before ")=true by decide +kernel) nm.o0.tx (by decide),BE (AQ (show Ac 7 (Str.ofString "before ")=true by decide +kernel) nm.o0.tx) (show Ac 2 (Str.ofString " 3")=true by decide +kernel) (by decide),by decide,λpb hpb=>?_⟩⟩⟩⟩)
  exact q _ _ _ (AJ.new hpb _) AF (show 4<=30 by decide) (show 0<4 by decide) (aY.mpr ⟨Ab (Ak (x:=(Str.ofString "012")) (AS (ks:=(Str.ofString "led ")) (k:=(Str.ofString "led")) (by decide +kernel) (AO (show Am (Str.ofString "led") [(Str.ofString "led")] 3=true by decide +kernel)) nm.o0) (by decide +kernel) (AO (show Am (Str.ofString "012") [(Str.ofString "012")] 3=true by decide +kernel)) (show Ac 4 (Str.ofString " 012")=true by decide +kernel)) (by decide) λN=>A1 (i:=10) (n:=3) (f:=λt=>Bh t 0) (Ak (x:=(Str.ofString "012")) (AS (ks:=(Str.ofString "led ")) (k:=(Str.ofString "led")) (by decide +kernel) (AO (show Am (Str.ofString "led") [(Str.ofString "led")] 3=true by decide +kernel)) nm.o0) (by decide +kernel) (AO (show Am (Str.ofString "012") [(Str.ofString "012")] 3=true by decide +kernel)) (show Ac 4 (Str.ofString " 012")=true by decide +kernel)).w (by decide +kernel) (λt=>rfl) rfl λt H d Q E r=>⟨_,_,_,rfl,.inr ⟨_,nm.l0,.inr ⟨[0,1,2],by decide +kernel,by decide +kernel,r⟩⟩⟩,
   (aY.mpr ⟨Ab (Ak (x:=(Str.ofString "2")) (AS (ks:=(Str.ofString "ring ")) (k:=(Str.ofString "ring")) (by decide +kernel) (AO (show Am (Str.ofString "ring") [(Str.ofString "ring")] 4=true by decide +kernel)) nm.o0) (by decide +kernel) (AO (show Am (Str.ofString "2") [(Str.ofString "2")] 1=true by decide +kernel)) (show Ac 2 (Str.ofString " 2")=true by decide +kernel)) (by decide) λN=>A1 (i:=11) (n:=3) (f:=λt=>Bh t 1) (Ak (x:=(Str.ofString "2")) (AS (ks:=(Str.ofString "ring ")) (k:=(Str.ofString "ring")) (by decide +kernel) (AO (show Am (Str.ofString "ring") [(Str.ofString "ring")] 4=true by decide +kernel)) nm.o0) (by decide +kernel) (AO (show Am (Str.ofString "2") [(Str.ofString "2")] 1=true by decide +kernel)) (show Ac 2 (Str.ofString " 2")=true by decide +kernel)).w (by decide +kernel) (λt=>rfl) rfl λt H d Q E r=>⟨_,_,_,rfl,.inr ⟨_,nm.l0,.inr ⟨[2],by decide +kernel,by decide +kernel,r⟩⟩⟩,
   (aY.mpr ⟨Ab (Ak (x:=(Str.ofString "-")) (AS (ks:=(Str.ofString "ring ")) (k:=(Str.ofString "ring")) (by decide +kernel) (AO (show Am (Str.ofString "ring") [(Str.ofString "ring")] 4=true by decide +kernel)) nm.o0) (by decide +kernel) (AO (show Am (Str.ofString "-") [(Str.ofString "-")] 1=true by decide +kernel)) (show Ac 2 (Str.ofString " -")=true by decide +kernel)) (by decide) λN=>A1 (i:=11) (n:=3) (f:=λt=>Bh t 1) (Ak (x:=(Str.ofString "-")) (AS (ks:=(Str.ofString "ring ")) (k:=(Str.ofString "ring")) (by decide +kernel) (AO (show Am (Str.ofString "ring") [(Str.ofString "ring")] 4=true by decide +kernel)) nm.o0) (by decide +kernel) (AO (show Am (Str.ofString "-") [(Str.ofString "-")] 1=true by decide +kernel)) (show Ac 2 (Str.ofString " -")=true by decide +kernel)).w (by decide +kernel) (λt=>rfl) rfl λt H d Q E r=>⟨_,_,_,rfl,.inr ⟨_,nm.l0,.inr ⟨[],by decide +kernel,by decide +kernel,r⟩⟩⟩,
   (aY.mpr ⟨Ab (Ak (x:=(Str.ofString "3")) (AS (ks:=(Str.ofString "before ")) (k:=(Str.ofString "before")) (by decide +kernel) (AO (show Am (Str.ofString "before") [(Str.ofString "before")] 6=true by decide +kernel)) nm.o0) (by decide +kernel) (AO (show Am (Str.ofString "3") [(Str.ofString "3")] 1=true by decide +kernel)) (show Ac 2 (Str.ofString " 3")=true by decide +kernel)) (by decide) λN=>A1 (i:=12) (n:=3) (f:=λt=>Bh t 0) (Ak (x:=(Str.ofString "3")) (AS (ks:=(Str.ofString "before ")) (k:=(Str.ofString "before")) (by decide +kernel) (AO (show Am (Str.ofString "before") [(Str.ofString "before")] 6=true by decide +kernel)) nm.o0) (by decide +kernel) (AO (show Am (Str.ofString "3") [(Str.ofString "3")] 1=true by decide +kernel)) (show Ac 2 (Str.ofString " 3")=true by decide +kernel)).w (by decide +kernel) (λt=>rfl) rfl λt H d Q E r=>⟨_,_,_,rfl,.inr ⟨_,nm.l0,.inr ⟨[3],by decide +kernel,by decide +kernel,r⟩⟩⟩,
   (λ_ h=>qE h ax)⟩)⟩)⟩)⟩)
 rw[qC (by lia)];refine hN _ _ ?_;clear hN N;refine BI λN hN=>?_;walk_at ""
 by_cases z:c=4
 ·rw[qD (by rw[z];rfl)];subst z;clear hN N;refine (BH (v:=.str n3) (Ag.of hp) rfl ⟨n3,rfl,BE (show Ac 5 (Str.ofString "join ")=true by decide +kernel) nm.o3.tx (by decide),BE (AQ (show Ac 5 (Str.ofString "join ")=true by decide +kernel) nm.o3.tx) (show Ac 1 (Str.ofString " ")=true by decide +kernel) (by decide),BH (v:=.str n0) (Ag.of hp) rfl ⟨n0,rfl,BE (AQ (AQ (show Ac 5 (Str.ofString "join ")=true by decide +kernel) nm.o3.tx) (show Ac 1 (Str.ofString " ")=true by decide +kernel)) nm.o0.tx (by decide),BE (AQ (AQ (AQ (show Ac 5 (Str.ofString "join ")=true by decide +kernel) nm.o3.tx) (show Ac 1 (Str.ofString " ")=true by decide +kernel)) nm.o0.tx) (show Ac 1 (Str.ofString " ")=true by decide +kernel) (by decide),BH (v:=.str n1) (Ag.of hp) rfl ⟨n1,rfl,BE (AQ (AQ (AQ (AQ (show Ac 5 (Str.ofString "join ")=true by decide +kernel) nm.o3.tx) (show Ac 1 (Str.ofString " ")=true by decide +kernel)) nm.o0.tx) (show Ac 1 (Str.ofString " ")=true by decide +kernel)) nm.o1.tx (by decide),BH (v:=.str n1) (Ag.of hp) rfl ⟨n1,rfl,BE (show Ac 5 (Str.ofString "join ")=true by decide +kernel) nm.o1.tx (by decide),BE (AQ (show Ac 5 (Str.ofString "join ")=true by decide +kernel) nm.o1.tx) (show Ac 1 (Str.ofString " ")=true by decide +kernel) (by decide),BH (v:=.str n1) (Ag.of hp) rfl ⟨n1,rfl,BE (AQ (AQ (show Ac 5 (Str.ofString "join ")=true by decide +kernel) nm.o1.tx) (show Ac 1 (Str.ofString " ")=true by decide +kernel)) nm.o1.tx (by decide),BE (AQ (AQ (AQ (show Ac 5 (Str.ofString "join ")=true by decide +kernel) nm.o1.tx) (show Ac 1 (Str.ofString " ")=true by decide +kernel)) nm.o1.tx) (show Ac 1 (Str.ofString " ")=true by decide +kernel) (by decide),BH (v:=.str n0) (Ag.of hp) rfl ⟨n0,rfl,BE (AQ (AQ (AQ (AQ (show Ac 5 (Str.ofString "join ")=true by decide +kernel) nm.o1.tx) (show Ac 1 (Str.ofString " ")=true by decide +kernel)) nm.o1.tx) (show Ac 1 (Str.ofString " ")=true by decide +kernel)) nm.o0.tx (by decide),by decide,λpb hpb=>?_⟩⟩⟩⟩⟩⟩)
  exact q _ _ _ (AJ.new hpb _) AF (show 2<=30 by decide) (show 0<2 by decide) (aY.mpr ⟨Ab (At (At (AS (ks:=(Str.ofString "join ")) (k:=(Str.ofString "join")) (by decide +kernel) (AO (show Am (Str.ofString "join") [(Str.ofString "join")] 4=true by decide +kernel)) nm.o3) nm.o0) nm.o1) (by decide) λN=>A1 (i:=1) (n:=4) (f:=λt=>DO t) (At (At (AS (ks:=(Str.ofString "join ")) (k:=(Str.ofString "join")) (by decide +kernel) (AO (show Am (Str.ofString "join") [(Str.ofString "join")] 4=true by decide +kernel)) nm.o3) nm.o0) nm.o1).w (by decide +kernel) (λt=>rfl) rfl λt H d Q E r=>⟨_,_,_,_,rfl,.inr (.inr ⟨nm.o3,_,nm.l0,.inr ⟨_,nm.l1,.inl ⟨(show (2:Int)≠3 by decide),r⟩⟩⟩)⟩,
   (aY.mpr ⟨Ab (At (At (AS (ks:=(Str.ofString "join ")) (k:=(Str.ofString "join")) (by decide +kernel) (AO (show Am (Str.ofString "join") [(Str.ofString "join")] 4=true by decide +kernel)) nm.o1) nm.o1) nm.o0) (by decide) λN=>A1 (i:=1) (n:=4) (f:=λt=>DO t) (At (At (AS (ks:=(Str.ofString "join ")) (k:=(Str.ofString "join")) (by decide +kernel) (AO (show Am (Str.ofString "join") [(Str.ofString "join")] 4=true by decide +kernel)) nm.o1) nm.o1) nm.o0).w (by decide +kernel) (λt=>rfl) rfl λt H d Q E r=>⟨_,_,_,_,rfl,.inr (.inr ⟨nm.o1,_,nm.l1,.inr ⟨_,nm.l0,.inl ⟨(show (3:Int)≠2 by decide),r⟩⟩⟩)⟩,
   (λ_ h=>qE h ax)⟩)⟩)
 rw[qC (by lia)];refine hN _ _ ?_;clear hN N;refine BI λN hN=>?_;walk_at ""
 by_cases z:c=5
 ·rw[qD (by rw[z];rfl)];subst z;clear hN N;refine (BH (v:=.str n3) (Ag.of hp) rfl ⟨n3,rfl,BE (show Ac 5 (Str.ofString "back ")=true by decide +kernel) nm.o3.tx (by decide),BE (AQ (show Ac 5 (Str.ofString "back ")=true by decide +kernel) nm.o3.tx) (show Ac 1 (Str.ofString " ")=true by decide +kernel) (by decide),BH (v:=.str n0) (Ag.of hp) rfl ⟨n0,rfl,BE (AQ (AQ (show Ac 5 (Str.ofString "back ")=true by decide +kernel) nm.o3.tx) (show Ac 1 (Str.ofString " ")=true by decide +kernel)) nm.o0.tx (by decide),BH (v:=.str n0) (Ag.of hp) rfl ⟨n0,rfl,BE (show Ac 5 (Str.ofString "back ")=true by decide +kernel) nm.o0.tx (by decide),BE (AQ (show Ac 5 (Str.ofString "back ")=true by decide +kernel) nm.o0.tx) (show Ac 1 (Str.ofString " ")=true by decide +kernel) (by decide),BH (v:=.str n0) (Ag.of hp) rfl ⟨n0,rfl,BE (AQ (AQ (show Ac 5 (Str.ofString "back ")=true by decide +kernel) nm.o0.tx) (show Ac 1 (Str.ofString " ")=true by decide +kernel)) nm.o0.tx (by decide),by decide,λpb hpb=>?_⟩⟩⟩⟩)
  exact q _ _ _ (AJ.new hpb _) AF (show 2<=30 by decide) (show 0<2 by decide) (aY.mpr ⟨Ab (At (AS (ks:=(Str.ofString "back ")) (k:=(Str.ofString "back")) (by decide +kernel) (AO (show Am (Str.ofString "back") [(Str.ofString "back")] 4=true by decide +kernel)) nm.o3) nm.o0) (by decide) λN=>A1 (i:=3) (n:=3) (f:=λt=>EY t) (At (AS (ks:=(Str.ofString "back ")) (k:=(Str.ofString "back")) (by decide +kernel) (AO (show Am (Str.ofString "back") [(Str.ofString "back")] 4=true by decide +kernel)) nm.o3) nm.o0).w (by decide +kernel) (λt=>rfl) rfl λt H d Q E r=>⟨_,_,_,rfl,.inr (.inr ⟨nm.o3,_,nm.l0,.inr ⟨TW,r⟩⟩)⟩,
   (aY.mpr ⟨Ab (At (AS (ks:=(Str.ofString "back ")) (k:=(Str.ofString "back")) (by decide +kernel) (AO (show Am (Str.ofString "back") [(Str.ofString "back")] 4=true by decide +kernel)) nm.o0) nm.o0) (by decide) λN=>A1 (i:=3) (n:=3) (f:=λt=>EY t) (At (AS (ks:=(Str.ofString "back ")) (k:=(Str.ofString "back")) (by decide +kernel) (AO (show Am (Str.ofString "back") [(Str.ofString "back")] 4=true by decide +kernel)) nm.o0) nm.o0).w (by decide +kernel) (λt=>rfl) rfl λt H d Q E r=>⟨_,_,_,rfl,.inr (.inr ⟨nm.o0,_,nm.l0,.inr ⟨TW,r⟩⟩)⟩,
   (λ_ h=>qE h ax)⟩)⟩)
 rw[qC (by lia)];refine hN _ _ ?_;clear hN N;obtain rfl:c=6:=by lia
 refine BI λN hN=>?_;walk_at "";refine (BH (v:=.str n2) (Ag.of hp) rfl ⟨n2,rfl,BE (show Ac 5 (Str.ofString "onto ")=true by decide +kernel) nm.o2.tx (by decide),BH (v:=.str n2) (Ag.of hp) rfl ⟨n2,rfl,BE (show Ac 4 (Str.ofString "one ")=true by decide +kernel) nm.o2.tx (by decide),BH (v:=.str n2) (Ag.of hp) rfl ⟨n2,rfl,BE (show Ac 5 (Str.ofString "kept ")=true by decide +kernel) nm.o2.tx (by decide),BH (v:=.str n3) (Ag.of hp) rfl ⟨n3,rfl,BE (show Ac 5 (Str.ofString "back ")=true by decide +kernel) nm.o3.tx (by decide),BE (AQ (show Ac 5 (Str.ofString "back ")=true by decide +kernel) nm.o3.tx) (show Ac 1 (Str.ofString " ")=true by decide +kernel) (by decide),BH (v:=.str n2) (Ag.of hp) rfl ⟨n2,rfl,BE (AQ (AQ (show Ac 5 (Str.ofString "back ")=true by decide +kernel) nm.o3.tx) (show Ac 1 (Str.ofString " ")=true by decide +kernel)) nm.o2.tx (by decide),by decide,λq1 hq1=>hN _ _ ?_⟩⟩⟩⟩⟩);clear hN N
 have a1:∀H,Ba H n0 n1 n2 6 _:=λH=>(aY.mpr ⟨Ab (AS (ks:=(Str.ofString "onto ")) (k:=(Str.ofString "onto")) (by decide +kernel) (AO (show Am (Str.ofString "onto") [(Str.ofString "onto")] 4=true by decide +kernel)) nm.o2) (by decide) λN=>A1 (i:=13) (n:=2) (f:=λt=>Bp t) (AS (ks:=(Str.ofString "onto ")) (k:=(Str.ofString "onto")) (by decide +kernel) (AO (show Am (Str.ofString "onto") [(Str.ofString "onto")] 4=true by decide +kernel)) nm.o2).w (by decide +kernel) (λt=>rfl) rfl λt H d Q E r=>⟨_,_,rfl,.inr ⟨_,nm.l2,KQ,r⟩⟩,
  (aY.mpr ⟨Ab (AS (ks:=(Str.ofString "one ")) (k:=(Str.ofString "one")) (by decide +kernel) (AO (show Am (Str.ofString "one") [(Str.ofString "one")] 3=true by decide +kernel)) nm.o2) (by decide) λN=>A1 (i:=14) (n:=2) (f:=λt=>Bp t) (AS (ks:=(Str.ofString "one ")) (k:=(Str.ofString "one")) (by decide +kernel) (AO (show Am (Str.ofString "one") [(Str.ofString "one")] 3=true by decide +kernel)) nm.o2).w (by decide +kernel) (λt=>rfl) rfl λt H d Q E r=>⟨_,_,rfl,.inr ⟨_,nm.l2,KQ,r⟩⟩,
  (aY.mpr ⟨Ab (AS (ks:=(Str.ofString "kept ")) (k:=(Str.ofString "kept")) (by decide +kernel) (AO (show Am (Str.ofString "kept") [(Str.ofString "kept")] 4=true by decide +kernel)) nm.o2) (by decide) λN=>A1 (i:=15) (n:=2) (f:=λt=>Bp t) (AS (ks:=(Str.ofString "kept ")) (k:=(Str.ofString "kept")) (by decide +kernel) (AO (show Am (Str.ofString "kept") [(Str.ofString "kept")] 4=true by decide +kernel)) nm.o2).w (by decide +kernel) (λt=>rfl) rfl λt H d Q E r=>⟨_,_,rfl,.inr ⟨_,nm.l2,KQ,r⟩⟩,
  (aY.mpr ⟨Ab (At (AS (ks:=(Str.ofString "back ")) (k:=(Str.ofString "back")) (by decide +kernel) (AO (show Am (Str.ofString "back") [(Str.ofString "back")] 4=true by decide +kernel)) nm.o3) nm.o2) (by decide) λN=>A1 (i:=3) (n:=3) (f:=λt=>EY t) (At (AS (ks:=(Str.ofString "back ")) (k:=(Str.ofString "back")) (by decide +kernel) (AO (show Am (Str.ofString "back") [(Str.ofString "back")] 4=true by decide +kernel)) nm.o3) nm.o2).w (by decide +kernel) (λt=>rfl) rfl λt H d Q E r=>⟨_,_,_,rfl,.inr (.inr ⟨nm.o3,_,nm.l2,.inl ⟨KQ,r⟩⟩)⟩,
  (λ_ h=>qE h ax)⟩)⟩)⟩)⟩)
 refine B6 (λHX=>AJ H HX/\∃vs,HX q1=some (.lst vs)/\vs.length=4/\Ba HX n0 n1 n2 6 vs) ⟨AJ.new hq1 _,_,AF,rfl,a1 _⟩ ?_;clear a1 hq1;rintro H1 ⟨e1,vs1,h1,l1,a1⟩;walk_at "";refine (BH (v:=.str n3) (Ag.of (e1 _ _ hp)) rfl ⟨n3,rfl,BE (show Ac 5 (Str.ofString "join ")=true by decide +kernel) nm.o3.tx (by decide),BE (AQ (show Ac 5 (Str.ofString "join ")=true by decide +kernel) nm.o3.tx) (show Ac 1 (Str.ofString " ")=true by decide +kernel) (by decide),BH (v:=.str n2) (Ag.of (e1 _ _ hp)) rfl ⟨n2,rfl,BE (AQ (AQ (show Ac 5 (Str.ofString "join ")=true by decide +kernel) nm.o3.tx) (show Ac 1 (Str.ofString " ")=true by decide +kernel)) nm.o2.tx (by decide),BE (AQ (AQ (AQ (show Ac 5 (Str.ofString "join ")=true by decide +kernel) nm.o3.tx) (show Ac 1 (Str.ofString " ")=true by decide +kernel)) nm.o2.tx) (show Ac 1 (Str.ofString " ")=true by decide +kernel) (by decide),BH (v:=.str n2) (Ag.of (e1 _ _ hp)) rfl ⟨n2,rfl,BE (AQ (AQ (AQ (AQ (show Ac 5 (Str.ofString "join ")=true by decide +kernel) nm.o3.tx) (show Ac 1 (Str.ofString " ")=true by decide +kernel)) nm.o2.tx) (show Ac 1 (Str.ofString " ")=true by decide +kernel)) nm.o2.tx (by decide),by decide,λpb hpb=>BP ((AJ.new hpb _) _ _ h1) AF (by rw[l1];exact (show 4+1<=1000 by decide)) λq9 G e9 _ h9=>?_⟩⟩⟩);have eA:=(AJ.new hpb _).trans e9
 exact q _ _ _ (e1.trans eA) h9 (by rw[ac,l1];exact (show 4+1<=30 by decide)) (by rw[ac,l1];exact (show 0<4+1 by decide)) (Ba.app (a1.same eA) (aY.mpr ⟨Ab (At (At (AS (ks:=(Str.ofString "join ")) (k:=(Str.ofString "join")) (by decide +kernel) (AO (show Am (Str.ofString "join") [(Str.ofString "join")] 4=true by decide +kernel)) nm.o3) nm.o2) nm.o2) (by decide) λN=>A1 (i:=1) (n:=4) (f:=λt=>DO t) (At (At (AS (ks:=(Str.ofString "join ")) (k:=(Str.ofString "join")) (by decide +kernel) (AO (show Am (Str.ofString "join") [(Str.ofString "join")] 4=true by decide +kernel)) nm.o3) nm.o2) nm.o2).w (by decide +kernel) (λt=>rfl) rfl λt H d Q E r=>⟨_,_,_,_,rfl,.inr (.inr ⟨nm.o3,_,nm.l2,.inr ⟨_,nm.l2,.inr ⟨rfl,Vs,r⟩⟩⟩)⟩,
  (λ_ h=>qE h ax)⟩))
theorem RG:AM ["_law_n","_law_found","_law_way"] ["_law_n"] (AG Zv):=BM
theorem aD(T:Ay w K mg t)(G_9:Aa P w K mg base 1 t.f_9 ["_law_n"] (E8 0))(G_4:Aa P w K mg base 1 t.f_4 ["_law_n"] (E8 1))(G_5:Aa P w K mg base 1 t.f_5 ["_law_n"] (E8 2))(G_23:Aa P w K mg base 1 t.f_23 ["_law_n","_law_way"] (KN)):Aa P w K mg base 2 t.f_6 ["_law_n"] (E9):=by
 refine Az T.d_6 RG λvs H Q E h=>?_;obtain⟨p,n0,n1,n2,n3,rfl,hp,nm,q⟩:=h;refine⟨rfl,λd9 A outer s hr=>?_⟩
 refine⟨_,(AC (AY 1 RG (AL Bj (C3 [] [] (Nd K (Ae hr G_9 T.m_9 (AA (pv 0) AB))) (λ_ _ _ _=>B8) (λ_ _ _ _=>(Dj (AA (pv 0) (A9 AB))))) (C3 [] [] (Nd K (Ae hr G_4 T.m_4 (AA (pv 0) AB))) (λ_ _ _ _=>B8) (λ_ _ _ _=>(Dj (AA (pv 0) (A9 AB)))))))
  (AC (AY 1 RG (AL Bj (pv 1) (C3 [] [] (Nd K (Ae hr G_5 T.m_5 (AA (pv 0) AB))) (λ_ _ _ _=>B8) (λ_ _ _ _=>(Dj (AA (pv 0) (A9 AB)))))))
  (AC (BR PassesOwn.never rfl (Ny rfl T.z_range (A9 (A9 AB))) (Bc 2 RG) (AH (AY 1 RG (AL Bj (pv 1) (C3 [(2,"_law_way")] [("_law_way",_)] (Nd K (Ae hr G_23 T.m_23 (AA (pv 0) (AA (pv 2) AB)))) (λ_ _ _ _=>B8) (λ_ _ _ _=>(Dj (AA (pv 0) (AA (pv 1) AB)))))))))
  (AH (AW (pv 1)))))),?_⟩
 have tt:∀(c:Nat) (σf:List (Option V)) (v:V) (Hy:Hp) (Q':VK),(∀a,Hy a=none->Q' (.ref a) (Ai Hy a (.tup [v,.int ((c:Nat):Int)])))->PN (D9 (Nv 0) (D9 (tC (.int ((c:Nat):Int))) G6)) (some v::σf) Hy Q':=λc σf v Hy Q' z=>⟨_,rfl,(show 2<=sizeLine by decide),z⟩
 refine BI λN hN=>?_;walk_at "";refine⟨_,rfl,p,n0,n1,n2,n3,rfl,hp,nm,λr vs H1 e1 h1 l1 l0 a1=>⟨r,rfl,⟨_,Ag.of h1⟩,λD hD=>Eb h1 a1 (by decide) l1 hD (tt 0 _) λts H2 e2 h2 lt ht=>?_⟩⟩;have e02:=e1.trans e2;refine⟨_,rfl,p,n0,n1,n2,n3,rfl,e02 _ _ hp,nm,λr2 vs2 H3 e3 h3 l3 _ a3=>⟨r2,rfl,⟨_,Ag.of h3⟩,λD2 hD2=>Eb h3 a3 (by decide) l3 hD2 (tt 1 _) λts2 H4 e4 h4 lt2 ht2=>?_⟩⟩;have e24:=e3.trans e4;refine BP (e24 _ _ h2) h4 (by rw[aW,aW];lia) λq5 H5 e5 _ h5=>hN _ _ ?_
 clear hN N;refine B6 (λHX=>AJ H HX/\∃ts:List qM,HX q5=some (.lst (ts.map V.ref))/\0<ts.length/\ts.length<=60/\∀a∈ts,O6 HX n0 n1 n2 a) ⟨(e02.trans e24).trans e5,ts++ts2,by rw[az];exact h5,by rw[ac];lia,by rw[ac];lia,λa ha=>(ar.mp ha).elim (λz=>(ht a z).same (e24.trans e5)) λz=>(ht2 a z).same e5⟩ ?_;clear h5 e5 ht2 lt2 h4 e4 hD2 a3 l3 h3 e3 e24 e02 ht lt h2 e2 hD a1 l0 l1 h1 e1;rintro H1 ⟨e1,ts,h1,l0,l1,ht⟩;refine BI λN hN=>?_;walk_at "";refine⟨_,rfl,p,n0,n1,n2,n3,rfl,e1 _ _ hp,nm,λr vs H2 e2 h2 l2 _ a2=>⟨r,rfl,⟨_,Ag.of h2⟩,λD hD=>Eb h2 a2 (by decide) l2 hD (tt 2 _) λts2 H3 e3 h3 lt2 ht2=>?_⟩⟩;have e13:=e2.trans e3;refine BP (e13 _ _ h1) h3 (by rw[aW,aW];lia) λq6 H6 e6 _ h6=>hN _ _ ?_
 clear hN N;refine B6 (λHX=>AJ H HX/\∃ts:List qM,HX q6=some (.lst (ts.map V.ref))/\0<ts.length/\ts.length<=90/\∀a∈ts,O6 HX n0 n1 n2 a) ⟨(e1.trans e13).trans e6,ts++ts2,by rw[az];exact h6,by rw[ac];lia,by rw[ac];lia,λa ha=>(ar.mp ha).elim (λz=>(ht a z).same (e13.trans e6)) λz=>(ht2 a z).same e6⟩ ?_;clear h6 e6 ht2 lt2 h3 e3 hD a2 l2 h2 e2 e13 ht l0 l1 h1 e1;rintro H1 ⟨e1,ts,h1,l0,l1,ht⟩;refine GI (λσ HX=>∃x2 q6,σ=[some (.ref p),some (.ref q6),x2]/\AJ H HX/\∃ts:List qM,HX q6=some (.lst (ts.map V.ref))/\0<ts.length/\ts.length<=300/\∀a∈ts,O6 HX n0 n1 n2 a) (λN hN=>?_) ?_
 ·have tw:∀(c:Nat) (v:V) (Hy:Hp) (Q':VK),(∀a,Hy a=none->Q' (.ref a) (Ai Hy a (.tup [v,.int ((c:Nat):Int)])))->PN (D9 (Nv 0) (D9 (Nv 1) G6)) [some v,some (.int ((c:Nat):Int))] Hy Q':=λc v Hy Q' z=>⟨_,rfl,_,rfl,(show 2<=sizeLine by decide),z⟩
  refine⟨3,7,rfl,⟨by decide,by decide,by decide,by decide⟩,?_⟩;refine Bm (n:=4) (λi σ HX=>∃x2 q6,σ=[some (.ref p),some (.ref q6),x2]/\AJ H HX/\∃ts:List qM,HX q6=some (.lst (ts.map V.ref))/\0<ts.length/\ts.length<=90+30*i/\∀a∈ts,O6 HX n0 n1 n2 a) ⟨_,_,rfl,e1,ts,h1,l0,by lia,ht⟩ ?_ ?_
  ·refine Fs ?_;rintro _ _ i _ hGo σ HX hi ⟨x2,q6,rfl,e6,ts,h6,l6,l7,ht⟩;refine hGo _ _ ?_;rw[show (3:Int)+(i:Int)=((3+i:Nat):Int) by lia];walk_at "";refine⟨_,rfl,_,rfl,p,n0,n1,n2,n3,3+i,rfl,by lia,by lia,e6 _ _ hp,nm,λr vs H2 e2 h2 l2 _ a2=>⟨r,rfl,⟨_,Ag.of h2⟩,λD hD=>Eb h2 a2 (by lia) l2 hD (tw (3+i)) λts2 H3 e3 h3 lt2 ht2=>?_⟩⟩;have e13:=e2.trans e3;refine BP (e13 _ _ h6) h3 (by rw[aW,aW];lia) λq7 H7 e7 _ h7=>?_;exact⟨_,q7,rfl,rfl,(e6.trans e13).trans e7,ts++ts2,by rw[az];exact h7,by rw[ac];lia,by rw[ac];lia,λa ha=>(ar.mp ha).elim (λz=>(ht a z).same (e13.trans e7)) λz=>(ht2 a z).same e7⟩
  ·rintro σ HX ⟨x2,q6,rfl,e6,ts,h6,l6,l7,ht⟩;exact hN _ _ ⟨x2,q6,rfl,e6,ts,h6,l6,by lia,ht⟩
 rintro _ hGo σ HX ⟨x2,q6,rfl,e6,ts,h6,l6,l7,ht⟩;refine hGo _ _ ?_;walk_at "";exact q _ _ _ e6 h6 l6 l7 ht
theorem RH:AM ["_law_caught","_law_some"] ["_law_caught"] (AG Vm):=BM
theorem ZE(T:Ay w K mg t) :Aa P w K mg base 1 t.f_24 ["_law_caught"] (KO t):=by
 refine Az T.d_24 RH λvs H Q E h=>?_;obtain⟨e,c,D,rfl,c6,he,q⟩:=h;refine⟨rfl,λd9 A outer s hr=>?_⟩
 refine⟨_,(AC (AY 1 RH (Aq (AA (Cb rfl T.z_isinstance (pv 0) (Ct rfl T.m_88)) (AA (Cb rfl T.z_isinstance (pv 0) (Ct rfl T.m_78)) (AA (Cb rfl T.z_isinstance (pv 0) (Ct rfl T.m_81)) AB)))))
  (AC (AY 1 RH (AL Bj (pv 1) (Aq (AA (Cb rfl T.z_isinstance (pv 0) (Ct rfl T.m_89)) (AA (Cb rfl T.z_isinstance (pv 0) (Ct rfl T.m_79)) AB)))))
  (AH (AW (AL Bj (pv 1) (Aq (AA (Cb rfl T.z_isinstance (pv 0) (Ct rfl T.m_37)) (AA (Cb rfl T.z_isinstance (pv 0) (Ct rfl T.m_70)) AB)))))))),?_⟩
 refine BI λN hN=>?_;walk_at "";refine⟨_,.exc he (EN T c6),_,Vw T c6,_,.exc he (EN T c6),_,Vx T c6,_,.exc he (EN T c6),_,Vy T c6,by decide,λp hp=>hN _ _ ?_⟩;clear hN N;have e1:=AJ.new hp (.lst [V.bl (decide (0=c)),V.bl (decide (1=c)),V.bl (decide (2=c))]);have h1:Ai H p (.lst [V.bl (decide (0=c)),V.bl (decide (1=c)),V.bl (decide (2=c))]) p=some (.lst [V.bl (decide (0=c)),V.bl (decide (1=c)),V.bl (decide (2=c))]):=AF;generalize Ai H p (.lst [V.bl (decide (0=c)),V.bl (decide (1=c)),V.bl (decide (2=c))])=H1 at e1 h1⊢;have he1:=e1 _ _ he;refine BI λN hN=>?_;walk_at "";refine⟨_,.exc he1 (EN T c6),_,Vz T c6,_,.exc he1 (EN T c6),_,V0 T c6,by decide,λp2 hp2=>BP ((AJ.new hp2 _) _ _ h1) AF (show 3+2<=1000 by decide) λp3 H3 e3 _ h3=>hN _ _ ?_⟩;clear hN N;have e13:=(AJ.new hp2 _).trans e3;have he3:=e13 _ _ he1;walk_at "";refine⟨_,.exc he3 (EN T c6),_,V1 T c6,_,.exc he3 (EN T c6),_,V2 T c6,by decide,λp4 hp4=>BP ((AJ.new hp4 _) _ _ h3) AF (show 3+2+2<=1000 by decide) λp5 H5 e5 _ h5=>?_⟩;exact q _ _ ((e1.trans e13).trans ((AJ.new hp4 _).trans e5)) h5
theorem Nr:AM ["_law_book","_law_row","_law_way","_law_caught","error"] ["_law_book","_law_row","_law_way"] (AG Vn):=BM
theorem ZF(T:Ay w K mg t)(G_24:Aa P w K mg base 1 t.f_24 ["_law_caught"] (KO t))(G_50:Aa P w K mg base 12 t.f_50 ["self","row"] (IB t)):Aa P w K mg base 13 t.f_10 ["_law_book","_law_row","_law_way"] (Mj t):=by
 refine Az T.d_10 Nr λvs H Q E h=>?_;obtain⟨b,d,rs,v,c,rfl,c6,bk,tv,rv,q⟩:=h;refine⟨rfl,λd9 A outer s hr=>?_⟩
 refine⟨_,(AC (AY 3 Nr Fx)
  (AC (UJ (i:=4) (W:=λσ cls D H'=>σ=[some (.ref b),some v,some (.int ((c:Nat):Int)),some .non,none]/\cls=.ref (cA t c)/\AJ H H') Nr.nd rfl rfl rfl T.m_52 rfl rfl (λ_=>(AH (A7 (C5 (pv 0) T.th_95.cl T.me_50 G_50 (hr.mono (by decide)) Lq (AA (pv 1) AB))))) (λ_=>(AH (AY 3 Nr (pv 4)))))
  (AC (Aw (PW.pt (DS (AZ PK (pv 3) Fx (Ad _)) (Cr (CI (Bq (Cb rfl T.z_isinstance (pv 3) (HC rfl T.z_ValueError PyProof.Rows.Boot.«ValueError»))))))) (AH (AW GN)) Af)
  (AH (AW (CN (UP hr.units) (Ae hr G_24 T.m_24 (AA (pv 3) AB)) (C3 [(2,"_law_way")] [("_law_way",_)] (BN rfl T.z_range (A9 AB)) (λ_ _ _ _=>B8) (λ_ _ _ _=>(CN CP (pv 0) (pv 1) (Ad _)))) (Ad _))))))),?_⟩
 refine BI λN hN=>?_;walk_at "";refine hN _ _ ?_;clear hN N;obtain⟨⟨dx,hb⟩,hR⟩:=id bk;refine BI λN hN=>?_;walk_at "";refine⟨⟨_,rfl,b,dx,_,rfl,hb,rfl,_,rfl,⟨b,d,rs,v,rfl,bk,tv,rv t H d _ _ λD H' e=>⟨rfl,rfl,e⟩⟩⟩,?_⟩;rintro σ' cls D' H' ⟨rfl,rfl,e⟩;refine⟨Vv T c6,λea hea=>⟨_,rfl,hN _ _ ?_⟩⟩;clear hN N;have he:Ai H' ea (IM ea (.ref (cA t c)) D' false) ea=some (IM ea (.ref (cA t c)) D' false):=AF;have e1:=e.trans (AJ.new hea (IM ea (.ref (cA t c)) D' false));generalize Ai H' ea (IM ea (.ref (cA t c)) D' false)=H1 at he e1⊢;refine BI λN hN=>?_;walk_at "";refine⟨_,.exc he (EN T c6),true,Vu T c6,?_⟩;rw[qC (by decide)];refine hN _ _ ?_;clear hN N;walk_at "";refine⟨ea,c,D',rfl,c6,he,λp H2 e2 hp=>?_⟩;refine⟨_,rfl,by decide,by decide,λD hD=>?_⟩;refine Dn (n:=7) (λi d8 Hx=>d8=(List.range i).map (λk=>V.bl (decide (k=c)))/\AJ H2 Hx/\Hx D=some (.lst d8)) ⟨rfl,AJ.new hD _,AF⟩ ?_ ?_
 ·refine KJ ?_;rintro i _ hGo d8 Hx hi ⟨rfl,ex,hDx⟩;refine hGo _ _ ?_;walk_at "";refine⟨hDx,by rw[aW,bq,sizeLine_eq];lia,?_,ex.into hD,AF⟩;rw[bg,az,show decide (0+(i:Int)=(c:Int))=decide (i=c) from decide_eq_decide.mpr ⟨λz=>by lia,λz=>by lia⟩];rfl
 rintro d8 Hx ⟨rfl,ex,hDx⟩;obtain⟨k1,k2,k3⟩:=V3 c6;refine⟨_,_,Q3 (ex _ _ hp),Q3 hDx,k1,k1,k2,?_⟩;rw[k3];exact q _ ((e1.trans e2).trans ex)
theorem Tr:AM ["_law_book","_law_n","_law_texts","_law_k"] ["_law_book","_law_n","_law_texts"] (AG Vo):=BM
theorem ZG(T:Ay w K mg t)(G_50:Aa P w K mg base 12 t.f_50 ["self","row"] (IB t)):Aa P w K mg base 13 t.f_17 ["_law_book","_law_n","_law_texts"] (IG t):=by
 refine Az T.d_17 Tr λvs H Q E h=>?_;obtain⟨b,d,p,x,n0,n1,n2,n3,N0,rfl,bk,hp,nm,N1,N2,hx,q⟩:=h;refine⟨rfl,λd9 A outer s hr=>?_⟩
 refine⟨_,(AC (BR PassesOwn.never rfl (BN rfl T.z_range (A9 AB)) (Bc 3 Tr) (AH (Aw (AZ Dy (C5 (pv 0) T.th_95.cl T.me_50 G_50 (hr.mono (by decide)) HB (AA (AL AD AI (AN (BA K) (pv 1) (pv 3) (λ_ _=>rfl))) AB)) (AN (BA K) (pv 2) (pv 3) (λ_ _=>rfl)) (Ad _)) (AH (AW GN)) Af)))
  (AH (AW (CN CP (C5 (pv 0) T.th_95.cl T.me_50 G_50 (hr.mono (by decide)) HB (AA AI AB)) (DU bP bv bx ES AI (AA (Aj (MZ (K:=K) rfl) rfl T.z_sorted PyProof.Rows.boot_sorted (AA (Cs JX (pv 1) EO (DI AE)) AB)) AB)) (Ad _))))),?_⟩
 have bks:∀{H':Hp},AJ H H'->Oy t H' b d (Bk n0 n1 n2 N0):=λe=>⟨bk.1.elim λdx h=>⟨dx,e _ _ h⟩,bk.2.same e⟩
 refine GI (λσ HX=>∃x3,σ=[some (.ref b),some (.ref p),some (.ref x),x3]/\AJ H HX) (λN hN=>?_) ?_
 ·refine⟨3,rfl,by decide,by decide,?_⟩;refine Bm (n:=3) (λi σ HX=>∃x3,σ=[some (.ref b),some (.ref p),some (.ref x),x3]/\AJ H HX) ⟨_,rfl,AJ.refl _⟩ ?_ ?_
  ·refine Fs ?_;rintro _ _ i _ hGo σ HX hi ⟨x3,rfl,e⟩;refine hGo _ _ ?_;obtain⟨dx,hb⟩:=(bks e).1;have hpe:=e _ _ hp;have hxe:=e _ _ hx
   obtain⟨ni,ri,g1,g2,lk,nw,far,gx,no⟩:∃(ni:Str) (ri:Rl),[V.str n0,V.str n1,V.str n2,V.str n3][i]?=some (.str ni)/\BU ni/\(Bk n0 n1 n2 N0).lookup ni=some ri/\Cj ri.g ri.lo ri.tq ri.m ri.lo ri.m/\ri.lo.natAbs<10^130/\[V.str (Bg 2 (-3) [0,0,0,1]),V.str (Bg 3 N0 [0,2,1]),V.str (Bg 2 1 CG)][i]?=some (.str (Bg ri.g ri.lo ri.tq))/\True:=by
    rcases i with _|_|_|i
    ·exact⟨n0,_,rfl,nm.o0,nm.l0,Qy,by decide,rfl,trivial⟩
    ·exact⟨n1,_,rfl,nm.o1,nm.l1,Vr N0,Q4 N1 N2,rfl,trivial⟩
    ·exact⟨n2,_,rfl,nm.o2,nm.l2,KP,by decide,rfl,trivial⟩
    ·lia
   walk_at "";rw[bu];have t5:Ac 5 (Str.ofString "show ")=true:=by decide +kernel
   refine⟨_,rfl,b,dx,_,rfl,hb,rfl,_,rfl,_,rfl,p,_,_,.str ni,rfl,rfl,Ag.of hpe,Bv g1,_,rfl,_,rfl,BE t5 g2.tx (by decide),⟨b,d,_,_,rfl,bks e,Ga (AQ t5 g2.tx) (by decide),LQ g2 lk nw far λH2 e2=>?_⟩⟩;refine (BH (Ag.of (e2 _ _ hxe)) (Bv gx) ⟨rfl,?_⟩);rw[qC (λz=>z rfl)];exact e.trans e2
  ·rintro σ HX ⟨x3,rfl,e⟩;exact hN _ _ ⟨x3,rfl,e⟩
 rintro _ hGo σ HX ⟨x3,rfl,e⟩;refine hGo _ _ ?_;obtain⟨dx,hb⟩:=(bks e).1;walk_at "";refine⟨_,rfl,b,dx,_,rfl,hb,rfl,⟨b,d,_,_,rfl,bks e,Ga (show Ac 5 (Str.ofString "names")=true by decide +kernel) (by decide),O2 (λr hr=>?_) λl pm so H2 e2=>?_⟩⟩
 ·rcases aw.mp hr with z|hr
  ·rw[z];exact nm.o0.2.1
  rcases aw.mp hr with z|hr
  ·rw[z];exact nm.o1.2.1
  rw[ak.mp hr];exact nm.o2.2.1
 have l8:∀z∈[n0,n1,n2],z.cps.size<=8:=λz hz=>by
  rcases aw.mp hz with y|hz
  ·rw[y];exact nm.o0.2.1
  rcases aw.mp hz with y|hz
  ·rw[y];exact nm.o1.2.1
  rw[ak.mp hz];exact nm.o2.2.1
 refine L6 (Ag.of (e2 _ _ (e _ _ hp))) λp2 H3 e3 _ h3=>?_;have h3:H3 p2=some (.lst ([n0,n1,n2].map V.str)):=h3;refine⟨p2,rfl,_,Ag.of h3,(show 3<64 by decide),λD zs hD pz sz=>⟨zs,Ag.of AF,?_,rfl,?_⟩⟩
 ·have a:=Nf (l:=zs) λy hy=>l8 y (pz.mem_iff.mp hy)
  have b:=pz.length_eq;have b:zs.length=3:=b;show _+zs.length*1<=_;lia
 rw[LL so sz (pm.trans pz.symm),qF rfl];exact q _ (((e.trans e2).trans e3).trans (AJ.new hD _))
theorem El:AM ["_law_script","_law_n","_law_sums","_law_texts","_law_book","_law_k","_law_some","_law_cell","_law_row","_law_way"] ["_law_script"] (AG SZ):=BM
theorem ZH{f:qM}{fd:FuncData}(T:Ay w K mg t)(F:BC K "law" "law" SZ f fd)(G_25:Aa P w K mg base 2 t.f_25 ["_law_cell"] (KM))(G_7:Aa P w K mg base 1 t.f_7 ["self"] (Qs t))(G_6:Aa P w K mg base 2 t.f_6 ["_law_n"] (E9))(G_8:Aa P w K mg base 1 t.f_8 ["_law_script","_law_k"] (Lu K))(G_10:Aa P w K mg base 13 t.f_10 ["_law_book","_law_row","_law_way"] (Mj t))(G_17:Aa P w K mg base 13 t.f_17 ["_law_book","_law_n","_law_texts"] (IG t))(G_50:Aa P w K mg base 12 t.f_50 ["self","row"] (IB t)):DB P w K mg base (FC P w) 14 f fd ["_law_script"] (KI K [t.p_13]):=by
 refine F.okY El λvs H Q E h=>?_;obtain⟨a,ns,rfl,hS,hl,_,q⟩:=h;refine⟨rfl,λd9 A outer s hr=>?_⟩
 refine⟨_,(AC (AY 1 El (Ae hr G_25 T.m_25 (AA (Ae hr G_8 T.m_8 (AA (pv 0) (A9 AB))) AB)))
  (AC (AY 2 El (DU bP bv bx ES AI (AA (C3 [] [] (BN rfl T.z_range (A9 AB)) (λ_ _ _ _=>B8) (λ_ _ _ _=>(BW BO rfl T.z_str bY (AA (AL Bz (AL Bf (AL DG (pv 0) AE) (pv 0)) AE) AB)))) AB)))
  (AC (AY 3 El (Aq (AA AI (AA (AL AD (AL AD AI (BW BO rfl T.z_str bY (AA (AL Bz (Ae hr G_8 T.m_8 (AA (pv 0) (A9 AB))) (AL T8 AE AE)) AB))) AI) (AA (AL AD AI (pv 2)) AB)))))
  (AC (AY 4 El (Ow T.mk_95 G_7 (hr.mono (by decide)) rfl T.m_95))
  (AC (BR PassesOwn.never rfl (BN rfl T.z_range (A9 AB)) (Bc 5 El) (AH (Aw (AZ Dy (C5 (pv 4) T.th_95.cl T.me_50 G_50 (hr.mono (by decide)) HB (AA (AL AD (AL AD (AL AD AI (AN (BA K) (pv 1) (pv 5) (λ_ _=>rfl))) AI) (AN (BA K) (pv 3) (pv 5) (λ_ _=>rfl))) AB)) AI (Ad _)) (AH (AW GN)) Af)))
  (AC (AY 6 El (Ae hr G_6 T.m_6 (AA (pv 1) AB)))
  (AC (BR PassesOwn.never rfl (Nd K (AL Bj (Aq (AA (Ae hr G_8 T.m_8 (AA (pv 0) (A9 AB))) AB)) (Cs JX (pv 0) (DI AE) (DI AE)))) (Bc 7 El) (AC (T3 (AN (BA K) (pv 6) (AL Bz (AL Bz (AL Eo (pv 7) AE) AE) (Aj (JK K) rfl T.z_len bC (AA (pv 6) AB))) (λ_ _=>rfl)) (G3 rfl (Bs (Bc 8 El) (Bs (Bc 9 El) FF))))
  (AH (Aw (PW.pt (DS (CI (Bq (Ae hr G_10 T.m_10 (AA (pv 4) (AA (pv 8) (AA (pv 9) AB)))))) (Cr (CI (Bq (Ae hr G_17 T.m_17 (AA (pv 4) (AA (pv 1) (AA (pv 3) AB))))))))) (AH (AW GN)) Af))))
  (AC (Aw (PW.pt (DS (CI (Bq (Ae hr G_10 T.m_10 (AA (pv 4) (AA (AL AD AI (AN (BA K) (pv 1) AE (λ_ _=>rfl))) (A9 AB)))))) (Cr (AZ Dy (C5 (pv 4) T.th_95.cl T.me_50 G_50 (hr.mono (by decide)) HB (AA (AL AD (AL AD (AL AD AI (AN (BA K) (pv 1) AE (λ_ _=>rfl))) AI) (AN (BA K) (pv 1) AE (λ_ _=>rfl))) AB)) AI (Ad _))))) (AH (AW GN)) Af)
  (AH (AW (JR (CN CP (C5 (pv 4) T.th_95.cl T.me_50 G_50 (hr.mono (by decide)) HB (AA (AL AD AI (AN (BA K) (pv 1) AE (λ_ _=>rfl))) AB)) AI (Ad _)) (Le (CN CP (C5 (pv 4) T.th_95.cl T.me_50 G_50 (hr.mono (by decide)) HB (AA (AL AD AI (AN (BA K) (pv 1) AE (λ_ _=>rfl))) AB)) AI (Ad _)))))))))))))),?_⟩
 refine BI λN hN=>?_;walk_at "";refine⟨a,ns,0,rfl,hS,hl,_,rfl,λp n0 n1 n2 n3 H1 e1 hp nm=>hN _ _ ?_⟩;clear hN N;have hS1:Ag K H1 a (ns.map V.int):=e1.seq hS;refine BI λN hN=>?_;walk_at "";refine⟨_,rfl,by decide,by decide,λD hD=>?_⟩;refine Dn (n:=32) (λi d8 Hx=>d8=((CG.take i).map λn:Int=>(⟨#[(48+n).toNat]⟩:Str)).map V.str/\AJ H1 Hx/\Hx D=some (.lst d8)) ⟨rfl,AJ.new hD _,AF⟩ ?_ ?_
 ·refine KJ ?_;rintro i _ hGo d8 Hx hi ⟨rfl,ex,hDx⟩;refine hGo _ _ ?_;walk_at "";obtain⟨k,hk⟩:∃k:Nat,k=(i/16+i)%2:=⟨_,rfl⟩;have hi':((0+(i:Int))/16+(0+(i:Int)))%2=((k:Nat):Int):=by lia
  rw[hi',K3 k (by lia)];refine⟨by decide,by decide,by decide,K4 k (by lia),hDx,?_,?_,ex.into hD,AF⟩
  ·rw[aW,aW,bJ,sizeLine_eq];have:CG.length=32:=rfl;lia
  ·rw[bV,Si i hi,<-hk,az,az];show _=_++[V.str ⟨#[(48+((k:Nat):Int)).toNat]⟩];rw[show (48+((k:Nat):Int)).toNat=48+k by lia]
 rintro d8 Hx ⟨rfl,ex,hDx⟩;rw[show CG.take 32=CG from rfl]at hDx;refine⟨D,rfl,_,Ag.of hDx,by decide +kernel,?_⟩;rw[EG (λn=>(48+n).toNat) CG];refine hN _ _ ?_;clear hN N;have e2:=e1.trans ex;have hp2:=ex _ _ hp;refine B6 (λHX=>AJ H HX/\HX p=some (.lst [.str n0,.str n1,.str n2,.str n3])) ⟨e2,hp2⟩ ?_;clear hDx ex hD hS1 hp e1 e2 hp2;rintro H2 ⟨e2,hp⟩;refine BI λN hN=>?_;walk_at "";refine⟨a,ns,1,rfl,e2.seq hS,hl,by decide,by decide,by decide,_,rfl,by decide,?_⟩;obtain⟨N0,hN0⟩:∃N0:Int,N0=ns.getD 1 0%10^Int.toNat 60:=⟨_,rfl⟩;have p60:(10:Int)^Int.toNat 60=10^60:=rfl;have N1:0<=N0:=by rw[hN0];exact cx _ (by decide)
 have N2:N0<10^60:=by rw[hN0,<-p60];exact cS _ (by decide)
 rw[<-hN0];clear hN0 p60;obtain⟨fg,sz⟩:=LR N1 N2;have t60:Ac 60 (Str.ofString (toString N0))=true:=Nj fg sz;have t2:Ac 2 (Str.ofString "3:")=true:=by decide +kernel
 refine⟨Qr (Q4 N1 N2),BE t2 t60 (by decide),BE (AQ t2 t60) (show Ac 4 (Str.ofString ":021")=true by decide +kernel) (by decide),by decide +kernel,by decide,λx hx=>hN _ _ ?_⟩;clear hN N
 have ht:[V.str (Str.ofString "2:-3:0001"),V.str (Str.ofString "3:"++Str.ofString (toString N0)++Str.ofString ":021"),V.str (Str.ofString "2:1:"++{cps:=(List.map (λn=>(48+n).toNat) CG).toArray})]=[V.str (Bg 2 (-3) [0,0,0,1]),V.str (Bg 3 N0 [0,2,1]),V.str (Bg 2 1 CG)]:=by rw[V5,<-V4,<-V6];rfl
 rw[ht];refine B6 (λHX=>AJ H HX/\HX p=some (.lst [.str n0,.str n1,.str n2,.str n3])/\HX x=some (.lst [.str (Bg 2 (-3) [0,0,0,1]),.str (Bg 3 N0 [0,2,1]),.str (Bg 2 1 CG)])) ⟨e2.trans (AJ.new hx _),AJ.new hx _ _ _ hp,AF⟩ ?_;clear ht hx hp e2;rintro H3 ⟨e3,hp,hx⟩;refine BI λN hN=>?_;walk_at "";intro b dx hb hdx nb;refine⟨b,dx,rfl,AF,λd H4 sm hd bk=>⟨rfl,hN _ _ ?_⟩⟩;clear hN N;have e34:=sm H3 ((AJ.new hdx (.own b)).into hb) hb;have d3:H3 d=none:=((AJ.new hdx (.own b)).into hb).free hd;clear sm hd hdx nb hb dx;refine GI (λσ HX=>∃x5,σ=[some (.ref a),some (.ref p),some (V.str {cps:=(List.map (λn=>(48+n).toNat) CG).toArray}),some (.ref x),some (.ref b),x5,none,none,none,none]/\AJ H3 HX/\Oy t HX b d (Bk n0 n1 n2 N0)) (λN hN=>?_) ?_
 ·refine⟨3,rfl,by decide,by decide,?_⟩;refine Bm (n:=3) (λi σ HX=>∃x5,σ=[some (.ref a),some (.ref p),some (V.str {cps:=(List.map (λn=>(48+n).toNat) CG).toArray}),some (.ref x),some (.ref b),x5,none,none,none,none]/\AJ H3 HX/\Oy t HX b d ((Bk n0 n1 n2 N0).take i)) ⟨_,rfl,e34,bk⟩ ?_ ?_
  ·refine Fs ?_;rintro _ _ i _ hGo σ HX hi ⟨x5,rfl,e,bk⟩;refine hGo _ _ ?_;obtain⟨dx,hb⟩:=bk.1;have hpe:=e _ _ hp;have hxe:=e _ _ hx;obtain⟨ni,ri,g1,g2,lk,ok,far,fr,tx,gx,tk⟩:=XO nm N1 N2 hi;walk_at "";rw[bu];have t5:Ac 5 (Str.ofString "rule ")=true:=by decide +kernel
   have t1:Ac 1 (Str.ofString " ")=true:=by decide +kernel
   refine⟨_,rfl,b,dx,_,rfl,hb,rfl,_,rfl,_,rfl,p,_,_,.str ni,rfl,rfl,Ag.of hpe,Bv g1,_,rfl,_,rfl,BE t5 g2.tx (by decide),_,rfl,_,rfl,BE (AQ t5 g2.tx) t1 (by decide),_,rfl,_,rfl,x,_,_,_,rfl,rfl,Ag.of hxe,Bv gx,_,rfl,_,rfl,BE (AQ (AQ t5 g2.tx) t1) tx (by decide),?_⟩;refine⟨b,d,_,_,rfl,bk,Ga (AQ (AQ (AQ t5 g2.tx) t1) tx) (by decide),Q5 g2 lk (by rw[bJ];lia) ok far fr tx λH5 sx hR=>?_⟩;refine⟨rfl,?_⟩;rw[qC (λz=>z rfl)];exact⟨DN.into e d3 sx,by rw[<-tk];exact bk.put sx hR⟩
  ·rintro σ HX ⟨x5,rfl,e,bk⟩;exact hN _ _ ⟨x5,rfl,e,bk⟩
 rintro _ hGo σ H4 ⟨x5,rfl,e4,bk⟩;refine hGo _ _ ?_;clear e34;refine BI λN hN=>?_;walk_at "";refine⟨p,n0,n1,n2,n3,rfl,e4 _ _ hp,nm,λsm ts H5 e5 hs l0 l3 hts=>hN _ _ ?_⟩;clear hN N;have e35:=e4.trans e5;have bk5:=bk.same e5;clear bk e4 e5 H4;refine GI (λσ HX=>∃x7 x8 x9,σ=[some (.ref a),some (.ref p),some (V.str {cps:=(List.map (λn=>(48+n).toNat) CG).toArray}),some (.ref x),some (.ref b),x5,some (.ref sm),x7,x8,x9]/\AJ H5 HX) (λN hN=>?_) ?_
 ·have hS5:=(e3.trans e35).seq hS;refine⟨_,rfl,a,ns,0,rfl,hS5,hl,(show 1<=sizeLine by decide),λpl hpl=>?_⟩;have el:=AJ.new hpl (.lst [V.int (ns.getD 0 0)]);refine⟨_,rfl,1,rfl,41,rfl,L6 (el.seq hS5) λps H6 e6 _ h6=>?_⟩;rw[Ki]at h6;have lc:=GR (ns.map V.int) (some 1) (some 41);rw[Ki,aW,aW]at lc;refine BP (e6 _ _ AF) h6 (by rw[aW];show 1+_<=1000;lia) λpc H7 e7 _ h7=>?_;have e57:=(el.trans e6).trans e7;obtain⟨cs,hcs⟩:∃cs:qR,cs=ns.getD 0 0::UL ns (some 1) (some 41):=⟨_,rfl⟩;have h7:H7 pc=some (.lst (cs.map V.int)):=by rw[hcs];exact h7
  refine⟨pc,rfl,⟨_,Ag.of h7⟩,?_⟩;refine CO (xs:=cs.map V.int) (λi σ HX=>(∃x7 x8 x9,σ=[some (.ref a),some (.ref p),some (V.str {cps:=(List.map (λn=>(48+n).toNat) CG).toArray}),some (.ref x),some (.ref b),x5,some (.ref sm),x7,x8,x9])/\AJ H7 HX) ⟨⟨_,_,_,rfl⟩,AJ.refl _⟩ (λi σ HX _ z=>Ag.of (z.2 _ _ h7)) ?_ ?_
  ·refine LN ?_;rintro _ _ i v _ hGo σ HX hv ⟨⟨x7,x8,x9,rfl⟩,ex⟩;refine hGo _ _ ?_;obtain⟨c,hc,rfl⟩:=Ev hv;have e5X:=e57.trans ex;have hsX:=e5X _ _ hs;refine BI λN hN=>?_;walk_at "";refine⟨.inr ⟨by decide,by decide⟩,by decide,_,.inl (Ag.of hsX),by rw[aW];lia,?_⟩;rw[aW];obtain⟨j,hj⟩:∃j:Nat,(j:Int)=c*48271%2147483647%(ts.length:Int):=⟨(c*48271%2147483647%(ts.length:Int)).toNat,by have:=cx (c*48271%2147483647) (show (ts.length:Int)≠0 by lia);lia⟩;have jl:j<ts.length:=by have:=cS (c*48271%2147483647) (show 0<(ts.length:Int) by lia);lia
   rw[<-hj];obtain⟨v,k,k6,hta,tv,rv⟩:=(hts ts[j] (cp jl)).same e5X;refine (BH (v:=.ref ts[j]) (Ag.of hsX) (Bv (by rw[ay,ao jl];rfl)) ⟨ts[j],_,rfl,Ar.of hta,rfl,_,_,rfl,_,_,rfl,rfl,hN _ _ ?_⟩);clear hN N;have bkX:=bk5.same e5X;have hpX:=e5X _ _ (e35 _ _ hp);have hxX:=e5X _ _ (e35 _ _ hx);walk_at "";refine⟨b,d,_,v,k,rfl,k6,bkX,tv,rv N0,λH8 e8=>⟨true,rfl,?_⟩⟩;rw[qC (by decide)];refine⟨b,d,p,x,n0,n1,n2,n3,N0,rfl,bkX.same e8,e8 _ _ hpX,nm,N1,N2,e8 _ _ hxX,λH9 e9=>⟨true,rfl,?_⟩⟩;rw[qC (by decide)];exact⟨⟨_,rfl⟩,(ex.trans e8).trans e9⟩
  ·rintro σ HX ⟨⟨x7,x8,x9,rfl⟩,ex⟩;exact hN _ _ ⟨x7,x8,x9,rfl,e57.trans ex⟩
 rintro _ hGo σ HX ⟨x7,x8,x9,rfl,e⟩;refine hGo _ _ ?_;have eX:=e35.trans e;have bkX:=bk5.same e;clear bk5 e hts hs l0 l3 e35;refine BI λN hN=>?_;walk_at "";have hpX:=eX _ _ hp;have t7:Ac 7 (Str.ofString "number ")=true:=by decide +kernel
 have t5:Ac 5 (Str.ofString "turn ")=true:=by decide +kernel
 have t5':Ac 5 (Str.ofString "show ")=true:=by decide +kernel
 have t1:Ac 1 (Str.ofString " ")=true:=by decide +kernel
 refine (BH (v:=.str n3) (Ag.of hpX) rfl ⟨n3,rfl,BE t7 nm.o3.tx (by decide),⟨b,d,_,_,1,rfl,by decide,bkX,Ga (AQ t7 nm.o3.tx) (by decide),Sh nm,λH8 e8=>⟨true,rfl,?_⟩⟩⟩);rw[qC (by decide)];have bk8:=bkX.same e8;have hp8:=e8 _ _ hpX;have e38:=eX.trans e8;obtain⟨dx,hb⟩:=bk8.1;refine⟨_,rfl,b,dx,_,rfl,hb,rfl,_,rfl,p,_,3,.str n3,rfl,rfl,Ag.of hp8,rfl,_,rfl,_,rfl,BE t5 nm.o3.tx (by decide),_,rfl,_,rfl,BE (AQ t5 nm.o3.tx) t1 (by decide),_,rfl,p,_,0,.str n0,rfl,rfl,Ag.of hp8,rfl,_,rfl,_,rfl,BE (AQ (AQ t5 nm.o3.tx) t1) nm.o0.tx (by decide),⟨b,d,_,_,rfl,bk8,Ga (AQ (AQ (AQ t5 nm.o3.tx) t1) nm.o0.tx) (by decide),Q6 nm.o3 nm.o0 nm.l3 (show 3<=8 by decide) nm.l0 λH9 sx hR=>?_⟩⟩;refine⟨rfl,?_⟩;rw[qC (λz=>z rfl)];refine hN _ _ ?_;clear hN N;rw[Sl]at hR;have bk9:=bk8.put sx hR;have hp9:=DN.into e38 d3 sx _ _ hp;have l9:=Q7 (q:=O3) (nm.l3 (N:=N0));clear sx hR bk8 hp8 hb dx e38 e8 bkX hpX eX;obtain⟨dx,hb⟩:=id bk9.1;walk_at "";refine⟨_,rfl,b,dx,_,rfl,hb,rfl,_,rfl,p,_,3,.str n3,rfl,rfl,Ag.of hp9,rfl,_,rfl,_,rfl,BE t7 nm.o3.tx (by decide),⟨b,d,_,_,rfl,bk9,Ga (AQ t7 nm.o3.tx) (by decide),Sg nm.o3 l9 (by rw[Q8];decide) λH6 e6=>?_⟩⟩;rw[Q8,XQ];refine⟨rfl,?_⟩;rw[qD rfl];refine⟨_,rfl,b,dx,_,rfl,e6 _ _ hb,rfl,_,rfl,p,_,3,.str n3,rfl,rfl,Ag.of (e6 _ _ hp9),rfl,_,rfl,_,rfl,BE t5' nm.o3.tx (by decide),⟨b,d,_,_,rfl,bk9.same e6,Ga (AQ t5' nm.o3.tx) (by decide),LQ nm.o3 l9 V7 (by decide) λH7 e7=>?_⟩⟩;rw[V8];refine⟨rfl,?_⟩;rw[qF rfl];exact q _
end
theorem WD{l:PySem.W.OpenLaw}{w:qP}{K:qQ}{h:Heap}{mg:Str->Option qL}{fa c_52 c_79 c_89 c_80 c_51 c_70 c_37 c_81 c_78 c_88 c_95 f_3 f_56 f_71 f_28 f_11 f_0 f_42 f_77 f_26 f_33 f_16 f_19 f_97 f_86 f_40 f_41 f_92 f_100 f_90 f_57 f_20 f_82 f_55 f_2 f_39 f_85 f_98 f_76 f_91 f_22 f_29 f_72 f_38 f_36 f_54 f_83 f_31 f_32 f_94 f_30 f_69 f_1 f_53 f_93 f_87 f_84 f_13 f_96 f_27 f_12 f_21 f_44 f_14 f_47 f_45 f_48 f_43 f_73 f_101 f_49 f_65 f_60 f_68 f_58 f_62 f_59 f_46 f_67 f_35 f_66 f_74 f_64 f_34 f_63 f_75 f_15 f_61 f_7 f_50 f_8 f_18 f_25 f_9 f_4 f_5 f_23 f_6 f_24 f_10 f_17 f_99 k_EVEN k_ROWS k_ROWS_rule k_ROWS_join k_ROWS_turn k_ROWS_back k_ROWS_move k_ROWS_drop k_ROWS_names k_ROWS_show k_ROWS_number k_ROWS_same k_ROWS_led k_ROWS_ring k_ROWS_before k_ROWS_onto k_ROWS_one k_ROWS_kept cc_13 p_13:qM}{g_LONGEST_TABLE g_MOST_NODES g_FIGURES g_MOST_FIGURES g_LETTERS g_LONGEST_NAME:Tok}(X:K.In h)(G:h.Ns mainGlobals mg)(hfa:mg "law"=some (.ref fa))
  (n_52:PySem.W.nsIn K mainGlobals "RowError"=some (some (.ref c_52)))
  (n_79:PySem.W.nsIn K mainGlobals "NoRule"=some (some (.ref c_79)))
  (n_89:PySem.W.nsIn K mainGlobals "NoRow"=some (some (.ref c_89)))
  (n_80:PySem.W.nsIn K mainGlobals "NoSuch"=some (some (.ref c_80)))
  (n_51:PySem.W.nsIn K mainGlobals "NoWindow"=some (some (.ref c_51)))
  (n_70:PySem.W.nsIn K mainGlobals "TooWide"=some (some (.ref c_70)))
  (n_37:PySem.W.nsIn K mainGlobals "NoWayBack"=some (some (.ref c_37)))
  (n_81:PySem.W.nsIn K mainGlobals "NoText"=some (some (.ref c_81)))
  (n_78:PySem.W.nsIn K mainGlobals "NoName"=some (some (.ref c_78)))
  (n_88:PySem.W.nsIn K mainGlobals "NoAsk"=some (some (.ref c_88)))
  (n_95:PySem.W.nsIn K mainGlobals "Book"=some (some (.ref c_95)))
  (n_EVEN:PySem.W.nsIn K mainGlobals "EVEN"=some (some (.ref k_EVEN)))
  (q_EVEN:NQ K k_EVEN [0,0]=true)
  (a_3:PySem.W.findIn K (.ref c_89) "__init__"=some (some (.ref f_3)))
  (h_3:∃fd,BC K "__init__" "NoRow.__init__" Cd f_3 fd)
  (h_56:AU K "is_whole" E5 f_56)
  (h_71:AU K "is_sign" GJ f_71)
  (h_28:AU K "check_word" Dt f_28)
  (h_11:AU K "check_length" C7 f_11)
  (h_0:AU K "check_at_least" CM f_0)
  (h_42:AU K "number_of" EK f_42)
  (h_77:AU K "word_of" GK f_77)
  (h_26:AU K "check_head" Du f_26)
  (h_33:AU K "places_for" Dv f_33)
  (h_16:AU K "table_length" C8 f_16)
  (h_19:AU K "check_table" DQ f_19)
  (h_97:AU K "rule" Uh f_97)
  (h_86:AU K "places" Ui f_86)
  (h_40:AU K "next_sign" Uj f_40)
  (h_41:AU K "number_by" Uk f_41)
  (h_92:AU K "heads" Ul f_92)
  (h_100:AU K "led" Qo f_100)
  (h_90:M5 K "after" Um f_90 1)
  (h_57:AU K "led_ring" Uo f_57)
  (h_20:AU K "many_before" Up f_20)
  (h_82:AU K "counts" Uq f_82)
  (h_55:AU K "counting" Ur f_55)
  (h_2:AU K "sign_or_nought" Zo f_2)
  (h_39:AU K "by_window" Us f_39)
  (h_85:AU K "narrow" Ut f_85)
  (h_98:AU K "same" Uu f_98)
  (h_76:AU K "widened" Uv f_76)
  (h_91:AU K "frame" Uw f_91)
  (h_22:AU K "turned_back" Ux f_22)
  (h_29:AU K "most_steps" Uy f_29)
  (h_72:AU K "pair_of" Uz f_72)
  (h_38:AU K "all_pairs" U0 f_38)
  (h_36:AU K "word_pairs" U1 f_36)
  (h_54:AU K "begin_of" U2 f_54)
  (h_83:AU K "end_of" U3 f_83)
  (h_31:AU K "pair_nexts" U4 f_31)
  (h_32:AU K "pair_ranks" U5 f_32)
  (h_94:AU K "ranks" U6 f_94)
  (h_30:AU K "one_to_one" U7 f_30)
  (h_69:AU K "way_back" U8 f_69)
  (h_1:AU K "rings_and_rows" Zp f_1)
  (h_53:AU K "all_kept" U9 f_53)
  (h_93:AU K "moved" VA f_93)
  (h_87:AU K "turned" VB f_87)
  (h_84:AU K "joined" VC f_84)
  (h_13:NY K "sets_reached" VD f_13 cc_13 p_13)
  (h_96:AU K "lost" VE f_96)
  (h_27:AU K "check_text" VF f_27)
  (h_12:AU K "read_figures" VG f_12)
  (h_21:AU K "read_number" VH f_21)
  (h_44:AU K "read_rule" VI f_44)
  (h_14:AU K "show_figures" VJ f_14)
  (h_47:AU K "show_rule" VL f_47)
  (h_45:AU K "read_word" VM f_45)
  (h_48:AU K "show_word" VN f_48)
  (h_43:AU K "read_name" VO f_43)
  (h_73:AU K "rule_by" VP f_73)
  (h_101:AU K "put" Qp f_101)
  (h_49:AU K "yes_or_no" VQ f_49)
  (h_65:AU K "say_rule" VR f_65)
  (h_60:AU K "say_join" VS f_60)
  (h_68:AU K "say_turn" VT f_68)
  (h_58:AU K "say_back" VU f_58)
  (h_62:AU K "say_move" VV f_62)
  (h_59:AU K "say_drop" VW f_59)
  (h_46:AU K "say_names" VX f_46)
  (h_67:AU K "say_show" VY f_67)
  (h_35:AU K "say_number" VZ f_35)
  (h_66:AU K "say_same" Va f_66)
  (h_74:AU K "say_led" Vb f_74)
  (h_64:AU K "say_ring" Vc f_64)
  (h_34:AU K "say_before" Vd f_34)
  (h_63:AU K "say_onto" Ve f_63)
  (h_75:AU K "say_one" Vf f_75)
  (h_15:AU K "show_weights" Vg f_15)
  (h_61:AU K "say_kept" Vh f_61)
  (a_7:PySem.W.findIn K (.ref c_95) "__init__"=some (some (.ref f_7)))
  (h_7:∃fd,BC K "__init__" "Book.__init__" Zq f_7 fd)
  (a_50:PySem.W.findIn K (.ref c_95) "say"=some (some (.ref f_50)))
  (h_50:∃fd,BC K "say" "Book.say" Vi f_50 fd)
  (h_8:AU K "_law_cell_at" Zr f_8)
  (h_18:AU K "_law_stream" Vj f_18)
  (h_25:AU K "_law_names" Vk f_25)
  (h_9:AU K "_law_no_asks" Zs f_9)
  (h_4:AU K "_law_no_names" Zt f_4)
  (h_5:AU K "_law_no_texts" Zu f_5)
  (h_23:AU K "_law_deeds" Vl f_23)
  (h_6:AU K "_law_refusals" Zv f_6)
  (h_24:AU K "_law_kinds" Vm f_24)
  (h_10:AU K "_law_refused" Vn f_10)
  (h_17:AU K "_law_stands" Vo f_17)
  (h_99:AU K "law" SZ f_99)
  (n_ROWS:PySem.W.nsIn K mainGlobals "ROWS"=some (some (.ref k_ROWS)))
  (r_ROWS:∃es n,K.lookup k_ROWS=some ⟨.type "dict",none,.dict es n,#[]⟩/\PySem.W.KeysLit w.params es.toList/\es.toList.map (λe=>(LM e.key,G2 e.val))=([(some (Str.ofString "rule"),some (V.ref k_ROWS_rule)),(some (Str.ofString "join"),some (V.ref k_ROWS_join)),(some (Str.ofString "turn"),some (V.ref k_ROWS_turn)),(some (Str.ofString "back"),some (V.ref k_ROWS_back)),(some (Str.ofString "move"),some (V.ref k_ROWS_move)),(some (Str.ofString "drop"),some (V.ref k_ROWS_drop)),(some (Str.ofString "names"),some (V.ref k_ROWS_names)),(some (Str.ofString "show"),some (V.ref k_ROWS_show)),(some (Str.ofString "number"),some (V.ref k_ROWS_number)),(some (Str.ofString "same"),some (V.ref k_ROWS_same)),(some (Str.ofString "led"),some (V.ref k_ROWS_led)),(some (Str.ofString "ring"),some (V.ref k_ROWS_ring)),(some (Str.ofString "before"),some (V.ref k_ROWS_before)),(some (Str.ofString "onto"),some (V.ref k_ROWS_onto)),(some (Str.ofString "one"),some (V.ref k_ROWS_one)),(some (Str.ofString "kept"),some (V.ref k_ROWS_kept))]:List (Option Str×Option V)))
  (no_ROWS:(k_ROWS==sysModules)=false)
  (q_ROWS_rule:Bl K k_ROWS_rule [.int 3,.ref f_65]=true)
  (q_ROWS_join:Bl K k_ROWS_join [.int 4,.ref f_60]=true)
  (q_ROWS_turn:Bl K k_ROWS_turn [.int 3,.ref f_68]=true)
  (q_ROWS_back:Bl K k_ROWS_back [.int 3,.ref f_58]=true)
  (q_ROWS_move:Bl K k_ROWS_move [.int 4,.ref f_62]=true)
  (q_ROWS_drop:Bl K k_ROWS_drop [.int 2,.ref f_59]=true)
  (q_ROWS_names:Bl K k_ROWS_names [.int 1,.ref f_46]=true)
  (q_ROWS_show:Bl K k_ROWS_show [.int 2,.ref f_67]=true)
  (q_ROWS_number:Bl K k_ROWS_number [.int 2,.ref f_35]=true)
  (q_ROWS_same:Bl K k_ROWS_same [.int 3,.ref f_66]=true)
  (q_ROWS_led:Bl K k_ROWS_led [.int 3,.ref f_74]=true)
  (q_ROWS_ring:Bl K k_ROWS_ring [.int 3,.ref f_64]=true)
  (q_ROWS_before:Bl K k_ROWS_before [.int 3,.ref f_34]=true)
  (q_ROWS_onto:Bl K k_ROWS_onto [.int 2,.ref f_63]=true)
  (q_ROWS_one:Bl K k_ROWS_one [.int 2,.ref f_75]=true)
  (q_ROWS_kept:Bl K k_ROWS_kept [.int 2,.ref f_61]=true)
  (z_len:PySem.W.nsIn K mainGlobals "len"=some none)
  (z_list:PySem.W.nsIn K mainGlobals "list"=some none)
  (z_reversed:PySem.W.nsIn K mainGlobals "reversed"=some none)
  (z_isinstance:PySem.W.nsIn K mainGlobals "isinstance"=some none)
  (z_range:PySem.W.nsIn K mainGlobals "range"=some none)
  (z_int:PySem.W.nsIn K mainGlobals "int"=some none)
  (z_bool:PySem.W.nsIn K mainGlobals "bool"=some none)
  (z_ValueError:PySem.W.nsIn K mainGlobals "ValueError"=some none)
  (z_tuple:PySem.W.nsIn K mainGlobals "tuple"=some none)
  (z_enumerate:PySem.W.nsIn K mainGlobals "enumerate"=some none)
  (z_min:PySem.W.nsIn K mainGlobals "min"=some none)
  (z_max:PySem.W.nsIn K mainGlobals "max"=some none)
  (z_str:PySem.W.nsIn K mainGlobals "str"=some none)
  (z_sum:PySem.W.nsIn K mainGlobals "sum"=some none)
  (z_sorted:PySem.W.nsIn K mainGlobals "sorted"=some none)
  (z_abs:PySem.W.nsIn K mainGlobals "abs"=some none)
  (z_any:PySem.W.nsIn K mainGlobals "any"=some none)
  (z_all:PySem.W.nsIn K mainGlobals "all"=some none)
  (z_zip:PySem.W.nsIn K mainGlobals "zip"=some none)
  (w_LONGEST_TABLE:PySem.W.nsIn K mainGlobals "LONGEST_TABLE"=some (some (.int 256 g_LONGEST_TABLE)))
  (w_MOST_NODES:PySem.W.nsIn K mainGlobals "MOST_NODES"=some (some (.int 9 g_MOST_NODES)))
  (w_FIGURES:PySem.W.nsIn K mainGlobals "FIGURES"=some (some (.str "0123456789" g_FIGURES)))
  (w_MOST_FIGURES:PySem.W.nsIn K mainGlobals "MOST_FIGURES"=some (some (.int 60 g_MOST_FIGURES)))
  (w_LETTERS:PySem.W.nsIn K mainGlobals "LETTERS"=some (some (.str "abcdefghijklmnopqrstuvwxyz" g_LETTERS)))
  (w_LONGEST_NAME:PySem.W.nsIn K mainGlobals "LONGEST_NAME"=some (some (.int 8 g_LONGEST_NAME)))
  (pg_95:PySem.W.plainGet K c_95 Str.empty=true)
  (hd_95:PySem.W.hasDictIn K c_95=true)
  (po_95:PySem.W.plainOver K c_95=true)
  (sa_95:PySem.W.findIn K (.ref c_95) "__setattr__"=some (some (.builtin "object.__setattr__")))
  (ca_95:PySem.W.findIn K (.ref c_95) "__class__"=some (some (.builtin "object.__class__")))
  (sg_95:PySem.W.specialIn K (.builtin "object.__class__") "__get__"=some (some (.builtin "getset_descriptor.__get__")))
  (tk_95:PySem.W.takesIn K (.builtin "object.__class__")=some true)
  (mo_95:PySem.W.mroIn K c_95 (.type "object")=some true)
  (na_Book_rules:PySem.W.findIn K (.ref c_95) "rules"=some none)
  (ms_95:PySem.W.makesIn K c_95=true)
  (if_95:PySem.W.isFn K (.ref f_7)=true)
  (kc_95:PySem.W.keepIn K (.ref c_95)=true)
  (mf_50:PySem.W.isFn K (.ref f_50)=true)
  (mp_50:PySem.W.keepIn K (.ref f_50)=true)
  (x_79:PySem.W.excIn K c_79 DC "ValueError.__new__"=true)
  (x_80:PySem.W.excIn K c_80 DC "ValueError.__new__"=true)
  (x_51:PySem.W.excIn K c_51 DC "ValueError.__new__"=true)
  (x_70:PySem.W.excIn K c_70 DC "ValueError.__new__"=true)
  (x_37:PySem.W.excIn K c_37 DC "ValueError.__new__"=true)
  (x_81:PySem.W.excIn K c_81 DC "ValueError.__new__"=true)
  (x_78:PySem.W.excIn K c_78 DC "ValueError.__new__"=true)
  (x_88:PySem.W.excIn K c_88 DC "ValueError.__new__"=true)
  (xi_89:ZL K c_89 f_3=true)
  (xt_89:PySem.W.typeIn K (.ref f_3)=some (.type "function"))
  (xk_89:PySem.W.keepIn K (.ref c_89)=true)
  (ci_79:(PySem.W.clsIn K c_79).isSome=true)
  (ga_79:PySem.W.findIn K (.ref c_79) "__getattribute__"=some (some (.builtin "BaseException.__getattribute__")))
  (gn_79:PySem.W.findIn K (.ref c_79) "__getattr__"=some none)
  (ca_79:PySem.W.findIn K (.ref c_79) "__class__"=some (some (.builtin "object.__class__")))
  (sg_79:PySem.W.specialIn K (.builtin "object.__class__") "__get__"=some (some (.builtin "getset_descriptor.__get__")))
  (tk_79:PySem.W.takesIn K (.builtin "object.__class__")=some true)
  (mo_79:PySem.W.mroIn K c_79 (.type "object")=some true)
  (mb_79:PySem.W.mroIn K c_79 (.type "BaseException")=some true)
  (ci_89:(PySem.W.clsIn K c_89).isSome=true)
  (ga_89:PySem.W.findIn K (.ref c_89) "__getattribute__"=some (some (.builtin "BaseException.__getattribute__")))
  (gn_89:PySem.W.findIn K (.ref c_89) "__getattr__"=some none)
  (ca_89:PySem.W.findIn K (.ref c_89) "__class__"=some (some (.builtin "object.__class__")))
  (sg_89:PySem.W.specialIn K (.builtin "object.__class__") "__get__"=some (some (.builtin "getset_descriptor.__get__")))
  (tk_89:PySem.W.takesIn K (.builtin "object.__class__")=some true)
  (mo_89:PySem.W.mroIn K c_89 (.type "object")=some true)
  (mb_89:PySem.W.mroIn K c_89 (.type "BaseException")=some true)
  (ci_70:(PySem.W.clsIn K c_70).isSome=true)
  (ga_70:PySem.W.findIn K (.ref c_70) "__getattribute__"=some (some (.builtin "BaseException.__getattribute__")))
  (gn_70:PySem.W.findIn K (.ref c_70) "__getattr__"=some none)
  (ca_70:PySem.W.findIn K (.ref c_70) "__class__"=some (some (.builtin "object.__class__")))
  (sg_70:PySem.W.specialIn K (.builtin "object.__class__") "__get__"=some (some (.builtin "getset_descriptor.__get__")))
  (tk_70:PySem.W.takesIn K (.builtin "object.__class__")=some true)
  (mo_70:PySem.W.mroIn K c_70 (.type "object")=some true)
  (mb_70:PySem.W.mroIn K c_70 (.type "BaseException")=some true)
  (ci_37:(PySem.W.clsIn K c_37).isSome=true)
  (ga_37:PySem.W.findIn K (.ref c_37) "__getattribute__"=some (some (.builtin "BaseException.__getattribute__")))
  (gn_37:PySem.W.findIn K (.ref c_37) "__getattr__"=some none)
  (ca_37:PySem.W.findIn K (.ref c_37) "__class__"=some (some (.builtin "object.__class__")))
  (sg_37:PySem.W.specialIn K (.builtin "object.__class__") "__get__"=some (some (.builtin "getset_descriptor.__get__")))
  (tk_37:PySem.W.takesIn K (.builtin "object.__class__")=some true)
  (mo_37:PySem.W.mroIn K c_37 (.type "object")=some true)
  (mb_37:PySem.W.mroIn K c_37 (.type "BaseException")=some true)
  (ci_81:(PySem.W.clsIn K c_81).isSome=true)
  (ga_81:PySem.W.findIn K (.ref c_81) "__getattribute__"=some (some (.builtin "BaseException.__getattribute__")))
  (gn_81:PySem.W.findIn K (.ref c_81) "__getattr__"=some none)
  (ca_81:PySem.W.findIn K (.ref c_81) "__class__"=some (some (.builtin "object.__class__")))
  (sg_81:PySem.W.specialIn K (.builtin "object.__class__") "__get__"=some (some (.builtin "getset_descriptor.__get__")))
  (tk_81:PySem.W.takesIn K (.builtin "object.__class__")=some true)
  (mo_81:PySem.W.mroIn K c_81 (.type "object")=some true)
  (mb_81:PySem.W.mroIn K c_81 (.type "BaseException")=some true)
  (ci_78:(PySem.W.clsIn K c_78).isSome=true)
  (ga_78:PySem.W.findIn K (.ref c_78) "__getattribute__"=some (some (.builtin "BaseException.__getattribute__")))
  (gn_78:PySem.W.findIn K (.ref c_78) "__getattr__"=some none)
  (ca_78:PySem.W.findIn K (.ref c_78) "__class__"=some (some (.builtin "object.__class__")))
  (sg_78:PySem.W.specialIn K (.builtin "object.__class__") "__get__"=some (some (.builtin "getset_descriptor.__get__")))
  (tk_78:PySem.W.takesIn K (.builtin "object.__class__")=some true)
  (mo_78:PySem.W.mroIn K c_78 (.type "object")=some true)
  (mb_78:PySem.W.mroIn K c_78 (.type "BaseException")=some true)
  (ci_88:(PySem.W.clsIn K c_88).isSome=true)
  (ga_88:PySem.W.findIn K (.ref c_88) "__getattribute__"=some (some (.builtin "BaseException.__getattribute__")))
  (gn_88:PySem.W.findIn K (.ref c_88) "__getattr__"=some none)
  (ca_88:PySem.W.findIn K (.ref c_88) "__class__"=some (some (.builtin "object.__class__")))
  (sg_88:PySem.W.specialIn K (.builtin "object.__class__") "__get__"=some (some (.builtin "getset_descriptor.__get__")))
  (tk_88:PySem.W.takesIn K (.builtin "object.__class__")=some true)
  (mo_88:PySem.W.mroIn K c_88 (.type "object")=some true)
  (mb_88:PySem.W.mroIn K c_88 (.type "BaseException")=some true)
  (sa_89:PySem.W.findIn K (.ref c_89) "__setattr__"=some (some (.builtin "object.__setattr__")))
  (hd_89:PySem.W.hasDictIn K c_89=true)
  (mr_89:Wb K c_89 c_52=true)
  (no_89:PySem.W.findIn K (.ref c_89) "at"=some none)
  (kt_88_88:PySem.W.kitOne K (.ref c_88) (.ref c_88)=some true)
  (kt_88_78:PySem.W.kitOne K (.ref c_88) (.ref c_78)=some false)
  (kt_88_81:PySem.W.kitOne K (.ref c_88) (.ref c_81)=some false)
  (kt_88_89:PySem.W.kitOne K (.ref c_88) (.ref c_89)=some false)
  (kt_88_79:PySem.W.kitOne K (.ref c_88) (.ref c_79)=some false)
  (kt_88_37:PySem.W.kitOne K (.ref c_88) (.ref c_37)=some false)
  (kt_88_70:PySem.W.kitOne K (.ref c_88) (.ref c_70)=some false)
  (kt_NoAsk_ValueError:PySem.W.kitOne K (.ref c_88) (.type "ValueError")=some true)
  (kt_78_88:PySem.W.kitOne K (.ref c_78) (.ref c_88)=some false)
  (kt_78_78:PySem.W.kitOne K (.ref c_78) (.ref c_78)=some true)
  (kt_78_81:PySem.W.kitOne K (.ref c_78) (.ref c_81)=some false)
  (kt_78_89:PySem.W.kitOne K (.ref c_78) (.ref c_89)=some false)
  (kt_78_79:PySem.W.kitOne K (.ref c_78) (.ref c_79)=some false)
  (kt_78_37:PySem.W.kitOne K (.ref c_78) (.ref c_37)=some false)
  (kt_78_70:PySem.W.kitOne K (.ref c_78) (.ref c_70)=some false)
  (kt_NoName_ValueError:PySem.W.kitOne K (.ref c_78) (.type "ValueError")=some true)
  (kt_81_88:PySem.W.kitOne K (.ref c_81) (.ref c_88)=some false)
  (kt_81_78:PySem.W.kitOne K (.ref c_81) (.ref c_78)=some false)
  (kt_81_81:PySem.W.kitOne K (.ref c_81) (.ref c_81)=some true)
  (kt_81_89:PySem.W.kitOne K (.ref c_81) (.ref c_89)=some false)
  (kt_81_79:PySem.W.kitOne K (.ref c_81) (.ref c_79)=some false)
  (kt_81_37:PySem.W.kitOne K (.ref c_81) (.ref c_37)=some false)
  (kt_81_70:PySem.W.kitOne K (.ref c_81) (.ref c_70)=some false)
  (kt_NoText_ValueError:PySem.W.kitOne K (.ref c_81) (.type "ValueError")=some true)
  (kt_89_88:PySem.W.kitOne K (.ref c_89) (.ref c_88)=some false)
  (kt_89_78:PySem.W.kitOne K (.ref c_89) (.ref c_78)=some false)
  (kt_89_81:PySem.W.kitOne K (.ref c_89) (.ref c_81)=some false)
  (kt_89_89:PySem.W.kitOne K (.ref c_89) (.ref c_89)=some true)
  (kt_89_79:PySem.W.kitOne K (.ref c_89) (.ref c_79)=some false)
  (kt_89_37:PySem.W.kitOne K (.ref c_89) (.ref c_37)=some false)
  (kt_89_70:PySem.W.kitOne K (.ref c_89) (.ref c_70)=some false)
  (kt_NoRow_ValueError:PySem.W.kitOne K (.ref c_89) (.type "ValueError")=some true)
  (kt_79_88:PySem.W.kitOne K (.ref c_79) (.ref c_88)=some false)
  (kt_79_78:PySem.W.kitOne K (.ref c_79) (.ref c_78)=some false)
  (kt_79_81:PySem.W.kitOne K (.ref c_79) (.ref c_81)=some false)
  (kt_79_89:PySem.W.kitOne K (.ref c_79) (.ref c_89)=some false)
  (kt_79_79:PySem.W.kitOne K (.ref c_79) (.ref c_79)=some true)
  (kt_79_37:PySem.W.kitOne K (.ref c_79) (.ref c_37)=some false)
  (kt_79_70:PySem.W.kitOne K (.ref c_79) (.ref c_70)=some false)
  (kt_NoRule_ValueError:PySem.W.kitOne K (.ref c_79) (.type "ValueError")=some true)
  (kt_37_88:PySem.W.kitOne K (.ref c_37) (.ref c_88)=some false)
  (kt_37_78:PySem.W.kitOne K (.ref c_37) (.ref c_78)=some false)
  (kt_37_81:PySem.W.kitOne K (.ref c_37) (.ref c_81)=some false)
  (kt_37_89:PySem.W.kitOne K (.ref c_37) (.ref c_89)=some false)
  (kt_37_79:PySem.W.kitOne K (.ref c_37) (.ref c_79)=some false)
  (kt_37_37:PySem.W.kitOne K (.ref c_37) (.ref c_37)=some true)
  (kt_37_70:PySem.W.kitOne K (.ref c_37) (.ref c_70)=some false)
  (kt_NoWayBack_ValueError:PySem.W.kitOne K (.ref c_37) (.type "ValueError")=some true)
  (kt_70_88:PySem.W.kitOne K (.ref c_70) (.ref c_88)=some false)
  (kt_70_78:PySem.W.kitOne K (.ref c_70) (.ref c_78)=some false)
  (kt_70_81:PySem.W.kitOne K (.ref c_70) (.ref c_81)=some false)
  (kt_70_89:PySem.W.kitOne K (.ref c_70) (.ref c_89)=some false)
  (kt_70_79:PySem.W.kitOne K (.ref c_70) (.ref c_79)=some false)
  (kt_70_37:PySem.W.kitOne K (.ref c_70) (.ref c_37)=some false)
  (kt_70_70:PySem.W.kitOne K (.ref c_70) (.ref c_70)=some true)
  (kt_TooWide_ValueError:PySem.W.kitOne K (.ref c_70) (.type "ValueError")=some true)
  (em_88_52:PySem.W.exmOne K (.ref c_88) (.ref c_52)=some true)
  (em_78_52:PySem.W.exmOne K (.ref c_78) (.ref c_52)=some true)
  (em_81_52:PySem.W.exmOne K (.ref c_81) (.ref c_52)=some true)
  (em_89_52:PySem.W.exmOne K (.ref c_89) (.ref c_52)=some true)
  (em_79_52:PySem.W.exmOne K (.ref c_79) (.ref c_52)=some true)
  (em_37_52:PySem.W.exmOne K (.ref c_37) (.ref c_52)=some true)
  (em_70_52:PySem.W.exmOne K (.ref c_70) (.ref c_52)=some true)
  (em_79_79:PySem.W.exmOne K (.ref c_79) (.ref c_79)=some true)
  : (∀P∈[p_13],∃c,PySem.W.codeHdIn K c P=true)/\∃fd:FuncData,(∀(s:qN) (v:qL),BindsTo s fd ⟨[v],[]⟩ [("_law_script",v)])/\∀base:Heap,K.In base->base.Ns mainGlobals mg->JJ mg base->DB l.prog w K mg base (FC l.prog w) 14 fa fd ["_law_script"] (KI K [p_13]):=by
 have mo:∀{n:Str}{v:Value},PySem.W.nsIn K mainGlobals n=some (some v)->mg n=some v:=λe=>PySem.W.mg_of X G e;have T:Ay w K mg ⟨c_52,c_79,c_89,c_80,c_51,c_70,c_37,c_81,c_78,c_88,c_95,f_3,f_56,f_71,f_28,f_11,f_0,f_42,f_77,f_26,f_33,f_16,f_19,f_97,f_86,f_40,f_41,f_92,f_100,f_90,f_57,f_20,f_82,f_55,f_2,f_39,f_85,f_98,f_76,f_91,f_22,f_29,f_72,f_38,f_36,f_54,f_83,f_31,f_32,f_94,f_30,f_69,f_1,f_53,f_93,f_87,f_84,f_13,f_96,f_27,f_12,f_21,f_44,f_14,f_47,f_45,f_48,f_43,f_73,f_101,f_49,f_65,f_60,f_68,f_58,f_62,f_59,f_46,f_67,f_35,f_66,f_74,f_64,f_34,f_63,f_75,f_15,f_61,f_7,f_50,f_8,f_18,f_25,f_9,f_4,f_5,f_23,f_6,f_24,f_10,f_17,f_99,k_EVEN,k_ROWS,k_ROWS_rule,k_ROWS_join,k_ROWS_turn,k_ROWS_back,k_ROWS_move,k_ROWS_drop,k_ROWS_names,k_ROWS_show,k_ROWS_number,k_ROWS_same,k_ROWS_led,k_ROWS_ring,k_ROWS_before,k_ROWS_onto,k_ROWS_one,k_ROWS_kept,cc_13,p_13⟩:=⟨mo n_52,mo n_79,mo n_89,mo n_80,mo n_51,mo n_70,mo n_37,mo n_81,mo n_78,mo n_88,mo n_95,mo n_EVEN,q_EVEN,h_3,mo h_56.2,h_56.1,mo h_71.2,h_71.1,mo h_28.2,h_28.1,mo h_11.2,h_11.1,mo h_0.2,h_0.1,mo h_42.2,h_42.1,mo h_77.2,h_77.1,mo h_26.2,h_26.1,mo h_33.2,h_33.1,mo h_16.2,h_16.1,mo h_19.2,h_19.1,mo h_97.2,h_97.1,mo h_86.2,h_86.1,mo h_40.2,h_40.1,mo h_41.2,h_41.1,mo h_92.2,h_92.1,mo h_100.2,h_100.1,mo h_90.2,h_90.1,mo h_57.2,h_57.1,mo h_20.2,h_20.1,mo h_82.2,h_82.1,mo h_55.2,h_55.1,mo h_2.2,h_2.1,mo h_39.2,h_39.1,mo h_85.2,h_85.1,mo h_98.2,h_98.1,mo h_76.2,h_76.1,mo h_91.2,h_91.1,mo h_22.2,h_22.1,mo h_29.2,h_29.1,mo h_72.2,h_72.1,mo h_38.2,h_38.1,mo h_36.2,h_36.1,mo h_54.2,h_54.1,mo h_83.2,h_83.1,mo h_31.2,h_31.1,mo h_32.2,h_32.1,mo h_94.2,h_94.1,mo h_30.2,h_30.1,mo h_69.2,h_69.1,mo h_1.2,h_1.1,mo h_53.2,h_53.1,mo h_93.2,h_93.1,mo h_87.2,h_87.1,mo h_84.2,h_84.1,mo h_13.2,h_13.1,(let ⟨_,z⟩:=h_13.1;z.hd),mo h_96.2,h_96.1,mo h_27.2,h_27.1,mo h_12.2,h_12.1,mo h_21.2,h_21.1,mo h_44.2,h_44.1,mo h_14.2,h_14.1,mo h_47.2,h_47.1,mo h_45.2,h_45.1,mo h_48.2,h_48.1,mo h_43.2,h_43.1,mo h_73.2,h_73.1,mo h_101.2,h_101.1,mo h_49.2,h_49.1,mo h_65.2,h_65.1,mo h_60.2,h_60.1,mo h_68.2,h_68.1,mo h_58.2,h_58.1,mo h_62.2,h_62.1,mo h_59.2,h_59.1,mo h_46.2,h_46.1,mo h_67.2,h_67.1,mo h_35.2,h_35.1,mo h_66.2,h_66.1,mo h_74.2,h_74.1,mo h_64.2,h_64.1,mo h_34.2,h_34.1,mo h_63.2,h_63.1,mo h_75.2,h_75.1,mo h_15.2,h_15.1,mo h_61.2,h_61.1,h_7,h_50,mo h_8.2,h_8.1,mo h_18.2,h_18.1,mo h_25.2,h_25.1,mo h_9.2,h_9.1,mo h_4.2,h_4.1,mo h_5.2,h_5.1,mo h_23.2,h_23.1,mo h_6.2,h_6.1,mo h_24.2,h_24.1,mo h_10.2,h_10.1,mo h_17.2,h_17.1,mo h_99.2,h_99.1,mo n_ROWS,⟨r_ROWS,no_ROWS⟩,q_ROWS_rule,q_ROWS_join,q_ROWS_turn,q_ROWS_back,q_ROWS_move,q_ROWS_drop,q_ROWS_names,q_ROWS_show,q_ROWS_number,q_ROWS_same,q_ROWS_led,q_ROWS_ring,q_ROWS_before,q_ROWS_onto,q_ROWS_one,q_ROWS_kept,PySem.W.mg_none_of X G z_len,PySem.W.mg_none_of X G z_list,PySem.W.mg_none_of X G z_reversed,PySem.W.mg_none_of X G z_isinstance,PySem.W.mg_none_of X G z_range,PySem.W.mg_none_of X G z_int,PySem.W.mg_none_of X G z_bool,PySem.W.mg_none_of X G z_ValueError,PySem.W.mg_none_of X G z_tuple,PySem.W.mg_none_of X G z_enumerate,PySem.W.mg_none_of X G z_min,PySem.W.mg_none_of X G z_max,PySem.W.mg_none_of X G z_str,PySem.W.mg_none_of X G z_sum,PySem.W.mg_none_of X G z_sorted,PySem.W.mg_none_of X G z_abs,PySem.W.mg_none_of X G z_any,PySem.W.mg_none_of X G z_all,PySem.W.mg_none_of X G z_zip,⟨_,mo w_LONGEST_TABLE⟩,⟨_,mo w_MOST_NODES⟩,⟨_,mo w_FIGURES⟩,⟨_,mo w_MOST_FIGURES⟩,⟨_,mo w_LETTERS⟩,⟨_,mo w_LONGEST_NAME⟩,⟨⟨pg_95,hd_95,po_95,sa_95⟩,ca_95,sg_95,tk_95,mo_95⟩,na_Book_rules,⟨ms_95,a_7,if_95,kc_95⟩,⟨a_50,mf_50,mp_50⟩,x_79,x_80,x_51,x_70,x_37,x_81,x_78,x_88,⟨xi_89,xt_89,xk_89⟩,⟨ci_79,ga_79,gn_79,ca_79,sg_79,tk_79,mo_79,mb_79⟩,⟨ci_89,ga_89,gn_89,ca_89,sg_89,tk_89,mo_89,mb_89⟩,⟨ci_70,ga_70,gn_70,ca_70,sg_70,tk_70,mo_70,mb_70⟩,⟨ci_37,ga_37,gn_37,ca_37,sg_37,tk_37,mo_37,mb_37⟩,⟨ci_81,ga_81,gn_81,ca_81,sg_81,tk_81,mo_81,mb_81⟩,⟨ci_78,ga_78,gn_78,ca_78,sg_78,tk_78,mo_78,mb_78⟩,⟨ci_88,ga_88,gn_88,ca_88,sg_88,tk_88,mo_88,mb_88⟩,⟨sa_89,hd_89,mr_89,no_89,⟨ci_89,ga_89,gn_89,ca_89,sg_89,tk_89,mo_89,mb_89⟩⟩,kt_88_88,kt_88_78,kt_88_81,kt_88_89,kt_88_79,kt_88_37,kt_88_70,kt_NoAsk_ValueError,kt_78_88,kt_78_78,kt_78_81,kt_78_89,kt_78_79,kt_78_37,kt_78_70,kt_NoName_ValueError,kt_81_88,kt_81_78,kt_81_81,kt_81_89,kt_81_79,kt_81_37,kt_81_70,kt_NoText_ValueError,kt_89_88,kt_89_78,kt_89_81,kt_89_89,kt_89_79,kt_89_37,kt_89_70,kt_NoRow_ValueError,kt_79_88,kt_79_78,kt_79_81,kt_79_89,kt_79_79,kt_79_37,kt_79_70,kt_NoRule_ValueError,kt_37_88,kt_37_78,kt_37_81,kt_37_89,kt_37_79,kt_37_37,kt_37_70,kt_NoWayBack_ValueError,kt_70_88,kt_70_78,kt_70_81,kt_70_89,kt_70_79,kt_70_37,kt_70_70,kt_TooWide_ValueError,em_88_52,em_78_52,em_81_52,em_89_52,em_79_52,em_37_52,em_70_52,em_79_79⟩;have e:=hfa.symm.trans T.m_99;cases e;obtain⟨fd,F⟩:=T.d_99;obtain⟨oc,od,kV,doc,pm,an,d9,ct,osl,ef,lk,hcd⟩:=F.ex;refine⟨(aY.mpr ⟨⟨_,T.hd_13⟩,(λ_ h=>qE h ax)⟩),fd,λs v=>by rw[ef];exact .of_eq rfl,λbase _ _ hB=>?_⟩;have G_3:=Zz (P:=l.prog) (w:=w) (base:=base) T;have G_56:=XS (P:=l.prog) (w:=w) (base:=base) T;have G_71:=XU (P:=l.prog) (w:=w) (base:=base) T G_56;have G_28:=XV (P:=l.prog) (w:=w) (base:=base) T G_71 G_3;have G_11:=XX (P:=l.prog) (w:=w) (base:=base) T G_28 G_3;have G_0:=Z1 (P:=l.prog) (w:=w) (base:=base) T G_28 G_3;have G_42:=XY (P:=l.prog) (w:=w) (base:=base) T G_28;have G_77:=XZ (P:=l.prog) (w:=w) (base:=base) T;have G_26:=Xb (P:=l.prog) (w:=w) (base:=base) T G_56;have G_33:=Xc (P:=l.prog) (w:=w) (base:=base) T;have G_16:=Xd (P:=l.prog) (w:=w) (base:=base) T;have G_19:=Xe (P:=l.prog) (w:=w) (base:=base) T G_33 G_71;have G_97:=Xg (P:=l.prog) (w:=w) (base:=base) T G_26 G_19;have G_86:=Xi (P:=l.prog) (w:=w) (base:=base) T G_33;have G_40:=Xk (P:=l.prog) (w:=w) (base:=base) T G_11 G_86 G_42;have G_41:=Xm (P:=l.prog) (w:=w) (base:=base) T G_42;have G_92:=Xo (P:=l.prog) (w:=w) (base:=base) T;have G_100:=WA (P:=l.prog) (w:=w) (base:=base) T G_28;have G_90:=Xq (P:=l.prog) (w:=w) (base:=base) T G_0;have G_57:=Xs (P:=l.prog) (w:=w) (base:=base) T G_90;have G_20:=Xu (P:=l.prog) (w:=w) (base:=base) T G_28;have G_82:=Xv (P:=l.prog) (w:=w) (base:=base) T;have G_55:=Xw (P:=l.prog) (w:=w) (base:=base) T G_86 G_82;have G_2:=Z3 (P:=l.prog) (w:=w) (base:=base) T;have G_39:=Xx (P:=l.prog) (w:=w) (base:=base) T G_97 G_16 G_77 G_40 G_2 G_86;have G_85:=Xy (P:=l.prog) (w:=w) (base:=base) T G_55 G_39;have G_98:=X0 (P:=l.prog) (w:=w) (base:=base) T G_85;have G_76:=X1 (P:=l.prog) (w:=w) (base:=base) T G_55 G_39 G_16;have G_91:=X2 (P:=l.prog) (w:=w) (base:=base) T G_85 G_86 G_76 G_92;have G_22:=X3 (P:=l.prog) (w:=w) (base:=base) T;have G_29:=X4 (P:=l.prog) (w:=w) (base:=base) T;have G_72:=X6 (P:=l.prog) (w:=w) (base:=base) T;have G_38:=X7 (P:=l.prog) (w:=w) (base:=base) T G_92;have G_36:=X8 (P:=l.prog) (w:=w) (base:=base) T;have G_54:=YA (P:=l.prog) (w:=w) (base:=base) T G_72;have G_83:=YC (P:=l.prog) (w:=w) (base:=base) T G_72 G_92;have G_31:=YD (P:=l.prog) (w:=w) (base:=base) T G_38 G_36 G_83 G_54;have G_32:=YF (P:=l.prog) (w:=w) (base:=base) T G_29 G_22 G_31;have G_94:=YG (P:=l.prog) (w:=w) (base:=base) T G_91 G_32 G_38;have G_30:=YI (P:=l.prog) (w:=w) (base:=base) T G_94;have G_69:=YJ (P:=l.prog) (w:=w) (base:=base) T G_91 G_94;have G_1:=Z4 (P:=l.prog) (w:=w) (base:=base) T G_91;have G_53:=YL (P:=l.prog) (w:=w) (base:=base) T G_1;have G_93:=YN (P:=l.prog) (w:=w) (base:=base) T G_97;have G_87:=YO (P:=l.prog) (w:=w) (base:=base) T G_86 G_97 G_40 G_77;have G_84:=YQ (P:=l.prog) (w:=w) (base:=base) T G_85 G_16 G_86;have G_13:=YR (P:=l.prog) (w:=w) (base:=base) T hB G_91;have G_96:=YS (P:=l.prog) (w:=w) (base:=base) T G_13;have G_27:=YU (P:=l.prog) (w:=w) (base:=base) T;have G_12:=YW (P:=l.prog) (w:=w) (base:=base) T;have G_21:=YX (P:=l.prog) (w:=w) (base:=base) T G_12;have G_44:=YY (P:=l.prog) (w:=w) (base:=base) T G_27 G_21 G_12 G_97;have G_14:=Ya (P:=l.prog) (w:=w) (base:=base) T;have G_47:=Yc (P:=l.prog) (w:=w) (base:=base) T G_14;have G_45:=Yd (P:=l.prog) (w:=w) (base:=base) T G_27 G_12;have G_48:=Yf (P:=l.prog) (w:=w) (base:=base) T G_14;have G_43:=Yh (P:=l.prog) (w:=w) (base:=base) T;have G_73:=Yj (P:=l.prog) (w:=w) (base:=base) T;have G_101:=WC (P:=l.prog) (w:=w) (base:=base) T;have G_49:=Yl (P:=l.prog) (w:=w) (base:=base) T;have G_65:=Ym (P:=l.prog) (w:=w) (base:=base) T G_43 G_101 G_44;have G_60:=Yn (P:=l.prog) (w:=w) (base:=base) T G_43 G_73 G_101 G_84;have G_68:=Yo (P:=l.prog) (w:=w) (base:=base) T G_43 G_101 G_87 G_73;have G_58:=Yp (P:=l.prog) (w:=w) (base:=base) T G_43 G_101 G_69 G_73;have G_62:=Yq (P:=l.prog) (w:=w) (base:=base) T G_43 G_73 G_101 G_93 G_21;have G_59:=Ys (P:=l.prog) (w:=w) (base:=base) T G_73;have G_46:=Yu (P:=l.prog) (w:=w) (base:=base) T;have G_67:=Yw (P:=l.prog) (w:=w) (base:=base) T G_47 G_85 G_73;have G_35:=Yy (P:=l.prog) (w:=w) (base:=base) T G_41 G_73;have G_66:=Yz (P:=l.prog) (w:=w) (base:=base) T G_73 G_49 G_98;have G_74:=Y0 (P:=l.prog) (w:=w) (base:=base) T G_73 G_48 G_100 G_45;have G_64:=Y1 (P:=l.prog) (w:=w) (base:=base) T G_73 G_48 G_57 G_45;have G_34:=Y2 (P:=l.prog) (w:=w) (base:=base) T G_73 G_20 G_45;have G_63:=Y3 (P:=l.prog) (w:=w) (base:=base) T G_96 G_73;have G_75:=Y5 (P:=l.prog) (w:=w) (base:=base) T G_49 G_30 G_73;have G_15:=Y7 (P:=l.prog) (w:=w) (base:=base) T;have G_61:=Y9 (P:=l.prog) (w:=w) (base:=base) T G_15 G_53 G_73;have G_7:=Z6 (P:=l.prog) (w:=w) (base:=base) T;have G_50:=ZA (P:=l.prog) (w:=w) (base:=base) T G_65 G_60 G_68 G_58 G_62 G_59 G_46 G_67 G_35 G_66 G_74 G_64 G_34 G_63 G_75 G_61;have G_8:=Z8 (P:=l.prog) (w:=w) (base:=base) T;have G_18:=ZB (P:=l.prog) (w:=w) (base:=base) T;have G_25:=ZC (P:=l.prog) (w:=w) (base:=base) T G_18;have G_9:=Z9 (P:=l.prog) (w:=w) (base:=base) T;have G_4:=aB (P:=l.prog) (w:=w) (base:=base) T;have G_5:=aC (P:=l.prog) (w:=w) (base:=base) T;have G_23:=ZD (P:=l.prog) (w:=w) (base:=base) T;have G_6:=aD (P:=l.prog) (w:=w) (base:=base) T G_9 G_4 G_5 G_23;have G_24:=ZE (P:=l.prog) (w:=w) (base:=base) T;have G_10:=ZF (P:=l.prog) (w:=w) (base:=base) T G_24 G_50;have G_17:=ZG (P:=l.prog) (w:=w) (base:=base) T G_50;exact ZH T F G_25 G_7 G_6 G_8 G_10 G_17 G_50
end K85
noncomputable def PySem.W.Fast.tw9114241700850723728:=PySem.Challenge.pw_rowrules_k85_what_a_book_refuses
theorem PySem.W.Fast.te9114241700850723728:PySem.Challenge.pw_rowrules_k85_what_a_book_refuses=PySem.W.Fast.tw9114241700850723728:=rfl
namespace PySem.W.Fast
abbrev A:=Nat
def tw8163199496923818175:=A
def tw15176481544077395209:=A
def tw6553626180719098807:=A
def tw6884395011451599020:=A
def tw6453600827218827986:=A
def tw1359984545513156425:=A
def tw14482083409073676413:=A
def tw151401625436681508:=A
def tw13759806645662004674:=A
def tw12275994933800262987:=A
def tw2954197454152264428:=A
def tw4177756622177044064:=A
def tw12959368228888263885:=A
def tw9974533369547561600:=A
def tw9866578541687179599:=A
def tw1025235396557890368:=A
def tw2754753912390739548:=A
def tw13478026347559913923:=A
def tw2109797447031897580:=A
def tw7179971136097556508:=A
def tw4317553852179589620:=A
def tw5475907502369154095:=A
def tw478326990035261861:=A
def tw2144048695179552811:=A
def tw8999792386040952574:=A
def tw2485309857664756213:=A
def tw9933838224575271347:=A
def tw15389845046820183824:=A
def tw1208594468562181485:=A
def tw8942847333687703469:=A
def tw1439540287096859886:=A
def tw7621021239459151015:=A
def tw11317188902882024901:=A
def tw12418783943161004526:=A
def tw3329384029996977088:=A
def tw14263450953187116656:=A
def tw15870660984243840982:=A
def tw7455686877852768546:=A
def tw14769201261654874483:=A
def tw16910064305562899124:=A
def tw12637241570819161214:=A
def tw12521730943505212057:=A
def tw12042654114672108107:=A
def tw4214699273851633549:=A
def tw3115964117083626762:=A
def tw7472935447928075028:=A
def tw11430000975524348440:=A
def tw16444469454472892376:=A
def tw7302383375807213839:=A
def tw7227013029674901492:=A
def tw14045227404766341376:=A
def tw17826115764164689209:=A
def tw10142214202463803809:=A
def tw17676668439157665665:=A
def tw5694149878830970333:=A
def tw14003529271211761299:=A
def tw2405052074320921079:=A
def tw4573727577578874754:=A
def tw5652746003865021779:=A
def tw1566419911100806020:=A
def tw7775775630123715356:=A
def tw3964338602176844666:=A
def tw2116648373024867618:=A
def tw16015322676322705143:=A
def tw4907510232684571979:=A
def tw7808870944770127043:=A
def tw14219921312658838380:=A
def tw3032803464421271295:=A
def tw17913786897874589477:=A
def tw12832436906744004223:=A
def tw1716891081624767457:=A
def tw4438259559002384415:=A
def tw16893005059896855542:=A
def tw15055323614988815941:=A
def tw679807662808676869:=A
def tw16706778268878549501:=A
def tw1159382118860305708:=A
def tw7447677550404256818:=A
def tw7446210172339221237:=A
def tw14715619181852356792:=A
def tw8474946697940891800:=A
def tw7864339557640305376:=A
def tw13315768192084695147:=A
def tw2124040129675794901:=A
def tw2349091242278650505:=A
def tw14321699662112923793:=A
def tw13288397122454976046:=A
def tw6447442397789097350:=A
def tw4052291131856338455:=A
def tw8676792641141878407:=A
def tw13156672484601847738:=A
def tw15301978539588950978:=A
def tw6466492980119425590:=A
def tw5879649418121796960:=A
def tw5555831779896691193:=A
def tw17623865728504139432:=A
def tw3456187444894636950:=A
def tw6296435218768269989:=A
def tw2386933215998205063:=A
def tw1207283223435188497:=A
def tw12180000918254420297:=A
def tw12994138041677497007:=A
def tw15237428572684825717:=A
def tw6388660851877822396:=A
def tw3008884459105255656:=A
def tw1115739590591139648:=A
def tw10630006555414315225:=A
def tw2797414867133101391:=A
def tw16352869114817164646:=A
def tw9656192303548810243:=A
def tw9933547773647644872:=A
def tw11202488523636189872:=A
def tw14882974008794813384:=A
def tw807876989660774469:=A
def tw16397636206844517884:=A
def tw7700374190452423282:=A
def tw14222591917186095436:=A
def tw8972829369336793790:=A
def tw14120552382453285424:=A
def tw3493630501865468322:=A
def tw11783841400658044701:=A
def tw15887227476988267600:=A
def tw1265843074640996050:=A
def tw18151938185810894030:=A
def tw17252127070596763447:=A
def tw8399840457776056693:=A
def tw1923209231963792492:=A
def tw7443042607304030403:=A
def tw12295778729653283315:=A
def tw16143616446353368109:=A
def tw10665318180807748369:=A
def tw17345078194801829129:=A
def tw13716852492798684671:=A
def tw2123080614621008181:=A
def tw7137898064009300183:=A
def tw9378228348193250924:=A
def tw11866871852462873796:=A
def tw7506557859936624585:=A
def tw9359152061542569190:=A
def tw7334945722370669317:=A
def tw346441434185747673:=A
def tw18147149430332876622:=A
def tw9887158175778047213:=A
def tw8501158106679172687:=A
def tw5664175773564759377:=A
def tw8020592023486611082:=A
def tw17672577005843859439:=A
def tw17117887853159474528:=A
def tw73818297750259638:=A
def tw17339409503388818728:=A
def tw8981044233117071090:=A
def tw11843946039044220696:=A
def tw16503733335810990176:=A
def tw7464945198522536878:=A
def tw15244141392405460591:=A
def tw11582479750997468244:=A
def tw18399720849960811622:=A
def tw14101131664858234311:=A
def tw8900661261089014232:=A
def tw13597046656070921215:=A
def tw10216415574197291932:=A
def tw13495359833915419685:=A
def tw6750890599632625142:=A
def tw10264338108569946131:=A
def tw4394749408395167435:=A
def tw10737760070898446654:=A
def tw1307850441298906354:=A
def tw16416612824902643976:=A
def tw5626902781738389430:=A
def tw9985785430298994016:=A
def tw15571542741047262434:=A
def tw9915706350866811098:=A
def tw7699738863102153463:=A
def tw15285790452750932351:=A
def tw7326754409439459284:=A
def tw14046555022702119178:=A
def tw13622455519643050779:=A
def tw10300742921001000646:=A
def tw17211254579408627851:=A
def tw13114160079964820030:=A
def tw13704163575973099992:=A
def tw4683262383310225364:=A
def tw2319208290040503676:=A
def tw12583686219334687066:=A
def tw16165521569233999444:=A
def tw2955080830578469634:=A
def tw14006162413470518209:=A
def tw3034262545366033833:=A
def tw7777621230917002147:=A
def tw11154589379919981854:=A
def tw13480813990325623765:=A
def tw3365934644444151997:=A
def tw18366955839948391492:=A
def tw17310371849081072754:=A
def tw10243180701520400091:=A
def tw14956129925020701423:=A
def tw1721413656594151637:=A
def tw1189115717805383991:=A
def tw10506176202719052286:=A
def tw11201333008277139032:=A
def tw11931098296176708003:=A
def tw16804221756834858629:=A
def tw9420009166183383957:=A
def tw13474489660352993718:=A
def tw17341028834460425485:=A
def tw9142833367869386100:=A
def tw11809060012626337615:=A
def tw5992232592145177025:=A
def tw13809344164860806352:=A
def tw9206129407572851425:=A
def tw14717539955776261364:=A
def tw5138609403421493545:=A
def tw9846382968656148285:=A
def tw1079790378295816962:=A
def tw14496273475770911098:=A
def tw10719669577855595336:=A
def tw16648072779956556162:=A
def tw16258145629994378217:=A
def tw10447295082651661199:=A
def tw11817305910288317040:=A
def tw2473103710244616800:=A
def tw14561382751411812856:=A
def tw13253695856309038152:=A
def tw6413844657858833995:=A
def tw975225330958911988:=A
def tw13582603704530742945:=A
def tw17030605876259270018:=A
def tw9997093132712270009:=A
def tw2544546042097846367:=A
def tw13532381765278503171:=A
def tw15639614252833373336:=A
def tw14851163054045826435:=A
def tw8496430744013994411:=A
def tw16063234404260430580:=A
def tw17390997670668372573:=A
def tw12001087005622911049:=A
def tw1586711928624475139:=A
def tw15577882008383493992:=A
def tw971316522688530348:=A
def tw5912820135371651849:=A
def tw748777795156238651:=A
def tw6778410518372616006:=A
def tw9534530229023752718:=A
def tw9632765523974410021:=A
def tw12065821737271024096:=A
def tw246836758110939902:=A
def tw3920424449262171338:=A
def tw6781096762921754299:=A
def tw9599723685365317059:=A
def tw12520026916455400267:=A
def tw4044099786683577080:=A
def tw3605885200804886324:=A
def tw3558475541911727518:=A
def tw15631180573030736755:=A
def tw11131478616947937652:=A
def tw3235184518426298718:=A
def tw7931770555288250044:=A
def tw3127024802242234223:=A
def tw16727636534987166081:=A
def tw9902575610332329277:=A
def tw5785152601260063361:=A
def tw14524348666685570357:=A
def tw17296687224846549734:=A
def tw11928155344724721968:=A
def tw12477552326720254311:=A
def tw9856725700016645640:=A
def tw5961166329547862484:=A
def tw1169122504285442050:=A
def tw1533141285006183977:=A
def tw4974293137208826838:=A
def tw16679157797959837426:=A
def tw11893351505645140337:=A
def tw4096849803117957530:=A
def tw2443097298704587614:=A
def tw4420604600911600215:=A
def tw9787029054505187183:=A
def tw6524733136685228314:=A
def tw604858532982788212:=A
def tw1058287107340346642:=A
def tw16895794880164636194:=A
def tw1183396632349496279:=A
def tw16628726943945740580:=A
def tw12076613512117204210:=A
def tw2811596403916557788:=A
def tw2615315458593529049:=A
def tw9895733284725575477:=A
def tw3337680126057579748:=A
def tw13207744606920479444:=A
def tw12725202476107978004:=A
def tw6107000781008658604:=A
def tw2655387801283607466:=A
def tw17165955200775923465:=A
def tw17675120061996277682:=A
def tw7684088247063213591:=A
def tw531189109712836729:=A
def tw6041970719661441223:=A
def tw17933936251677326213:=A
def tw12959895767305880509:=A
def tw760602717562163377:=A
def tw16977092721388777824:=A
def tw139545332600645298:=A
def tw16868545334223511514:=A
def tw18085682340949466716:=A
def tw16452635258106211136:=A
def tw13247615819694530439:=A
def tw7286645686231752392:=A
def tw13467292637470382130:=A
def tw7991492985489991458:=A
def tw6064109446053248239:=A
def tw2932684216515259668:=A
def tw10805556358925946541:=A
def tw8142258359083851646:=A
def tw2427218142009072007:=A
def tw9494393090753991509:=A
def tw15520718104252176602:=A
def tw6795145908110820849:=A
def tw3339403509568628455:=A
def tw15111501498812645295:=A
def tw524293840785049666:=A
def tw7250259620871757947:=A
def tw13042717680483050006:=A
def tw2363599071024709464:=A
def tw9258941776406554638:=A
def tw267419711831635125:=A
def tw9846544163749572976:=A
def tw13097810207683123778:=A
def tw11456729201216941757:=A
def tw11461206953188074692:=A
def tw2473658529527730750:=A
def tw17862342196312921173:=A
def tw10958253307935817866:=A
def tw7858261136740716011:=A
def tw14822128687982818459:=A
def tw12379154111093988793:=A
def tw15062105255725587124:=A
def tw17367542363493007319:=A
def tw10726948174640039973:=A
def tw14854090841335081771:=A
def tw12965502222991234131:=A
def tw11259583592715986777:=A
def tw4069155914785994272:=A
def tw18389302046371683996:=A
def tw8079592289809765236:=A
def tw11013856422233726457:=A
def tw7122946166592810138:=A
def tw3122472136767599396:=A
def tw17315869051411563571:=A
def tw17545601237894739569:=A
def tw6820566094084254827:=A
def tw5657668593304127251:=A
def tw4094720214878934981:=A
def tw15129117440779652861:=A
def tw8661405395061764186:=A
def tw7737956797907834264:=A
def tw11438002573241505510:=A
def tw9838660362295883907:=A
def tw17868868759683406285:=A
def tw5703765043179972500:=A
def tw7904549902354930171:=A
end PySem.W.Fast
open PySem PySem.W PyProof.Rows
theorem K85.rows_mk{K:qQ}{k:qM}{P:Params}{es:Array DictEntry}{n:Nat}{l:List (Option Str×Option L2.V)}(a:List.lookup k K=some ⟨.type "dict",none,.dict es n,#[]⟩)(b:PySem.W.KeysLit P es.toList)(c:es.toList.map (λe=>(L2.LM e.key,L2.G2 e.val))=l):∃es n,List.lookup k K=some ⟨.type "dict",none,.dict es n,#[]⟩/\PySem.W.KeysLit P es.toList/\es.toList.map (λe=>(L2.LM e.key,L2.G2 e.val))=l:=⟨_,_,a,b,c⟩
set_option maxRecDepth 100000 in
set_option maxHeartbeats 0 in
theorem PySem.Challenge.cw_rowrules_k85_what_a_book_refuses_holds : PySem.Challenge.rw_rowrules_k85_what_a_book_refuses.Holds := by
 w_on;o_law;k_head;(case hw=>w_witness2)
 k_fill
 refine L2.Ot (l:=PySem.Challenge.rw_rowrules_k85_what_a_book_refuses) (k:=14) (n:=0) (x:="_law_script") (ts:=[_]) rfl rfl ⟨rfl,by decide,by decide⟩ (λw h Y=>⟨PySem.W.km_in_of Y,PySem.W.km_tabs_of Y⟩) ?hTab ?F
 case hTab=>exact λw=>(aY.mpr ⟨by kernel_rfl,λ_ h=>absurd h ax⟩)
 case F =>
  intro w mg fa h KX G hmg;refine' K85.WD KX G hmg ?_ ?_ ?_ ?_ ?_ ?_ ?_ ?_ ?_ ?_ ?_ ?_ ?_ ?_ ⟨_,L2.Jb ?_ ?_ ?_⟩ (L2.AV ?_ ?_ ?_ ?_) (L2.AV ?_ ?_ ?_ ?_) (L2.AV ?_ ?_ ?_ ?_) (L2.AV ?_ ?_ ?_ ?_) (L2.AV ?_ ?_ ?_ ?_) (L2.AV ?_ ?_ ?_ ?_) (L2.AV ?_ ?_ ?_ ?_) (L2.AV ?_ ?_ ?_ ?_) (L2.AV ?_ ?_ ?_ ?_) (L2.AV ?_ ?_ ?_ ?_) (L2.AV ?_ ?_ ?_ ?_) (L2.AV ?_ ?_ ?_ ?_) (L2.AV ?_ ?_ ?_ ?_) (L2.AV ?_ ?_ ?_ ?_) (L2.AV ?_ ?_ ?_ ?_) (L2.AV ?_ ?_ ?_ ?_) (L2.AV ?_ ?_ ?_ ?_) (L2.Rt ?_ ?_ ?_ ?_ ?_) (L2.AV ?_ ?_ ?_ ?_) (L2.AV ?_ ?_ ?_ ?_) (L2.AV ?_ ?_ ?_ ?_) (L2.AV ?_ ?_ ?_ ?_) (L2.AV ?_ ?_ ?_ ?_) (L2.AV ?_ ?_ ?_ ?_) (L2.AV ?_ ?_ ?_ ?_) (L2.AV ?_ ?_ ?_ ?_) (L2.AV ?_ ?_ ?_ ?_) (L2.AV ?_ ?_ ?_ ?_) (L2.AV ?_ ?_ ?_ ?_) (L2.AV ?_ ?_ ?_ ?_) (L2.AV ?_ ?_ ?_ ?_) (L2.AV ?_ ?_ ?_ ?_) (L2.AV ?_ ?_ ?_ ?_) (L2.AV ?_ ?_ ?_ ?_) (L2.AV ?_ ?_ ?_ ?_) (L2.AV ?_ ?_ ?_ ?_) (L2.AV ?_ ?_ ?_ ?_) (L2.AV ?_ ?_ ?_ ?_) (L2.AV ?_ ?_ ?_ ?_) (L2.AV ?_ ?_ ?_ ?_) (L2.AV ?_ ?_ ?_ ?_) (L2.AV ?_ ?_ ?_ ?_) (L2.AV ?_ ?_ ?_ ?_) (L2.AV ?_ ?_ ?_ ?_) (L2.AV ?_ ?_ ?_ ?_) (L2.SS ?_ ?_ ?_ ?_ ?_) (L2.AV ?_ ?_ ?_ ?_) (L2.AV ?_ ?_ ?_ ?_) (L2.AV ?_ ?_ ?_ ?_) (L2.AV ?_ ?_ ?_ ?_) (L2.AV ?_ ?_ ?_ ?_) (L2.AV ?_ ?_ ?_ ?_) (L2.AV ?_ ?_ ?_ ?_) (L2.AV ?_ ?_ ?_ ?_) (L2.AV ?_ ?_ ?_ ?_) (L2.AV ?_ ?_ ?_ ?_) (L2.AV ?_ ?_ ?_ ?_) (L2.AV ?_ ?_ ?_ ?_) (L2.AV ?_ ?_ ?_ ?_) (L2.AV ?_ ?_ ?_ ?_) (L2.AV ?_ ?_ ?_ ?_) (L2.AV ?_ ?_ ?_ ?_) (L2.AV ?_ ?_ ?_ ?_) (L2.AV ?_ ?_ ?_ ?_) (L2.AV ?_ ?_ ?_ ?_) (L2.AV ?_ ?_ ?_ ?_) (L2.AV ?_ ?_ ?_ ?_) (L2.AV ?_ ?_ ?_ ?_) (L2.AV ?_ ?_ ?_ ?_) (L2.AV ?_ ?_ ?_ ?_) (L2.AV ?_ ?_ ?_ ?_) (L2.AV ?_ ?_ ?_ ?_) (L2.AV ?_ ?_ ?_ ?_) (L2.AV ?_ ?_ ?_ ?_) (L2.AV ?_ ?_ ?_ ?_) (L2.AV ?_ ?_ ?_ ?_) ?_ ⟨_,L2.Jb ?_ ?_ ?_⟩ ?_ ⟨_,L2.Jb ?_ ?_ ?_⟩ (L2.AV ?_ ?_ ?_ ?_) (L2.AV ?_ ?_ ?_ ?_) (L2.AV ?_ ?_ ?_ ?_) (L2.AV ?_ ?_ ?_ ?_) (L2.AV ?_ ?_ ?_ ?_) (L2.AV ?_ ?_ ?_ ?_) (L2.AV ?_ ?_ ?_ ?_) (L2.AV ?_ ?_ ?_ ?_) (L2.AV ?_ ?_ ?_ ?_) (L2.AV ?_ ?_ ?_ ?_) (L2.AV ?_ ?_ ?_ ?_) (L2.AV ?_ ?_ ?_ ?_) ?_ (K85.rows_mk ?_ ?_ ?_) ?_ ?_ ?_ ?_ ?_ ?_ ?_ ?_ ?_ ?_ ?_ ?_ ?_ ?_ ?_ ?_ ?_ ?_ ?_ ?_ ?_ ?_ ?_ ?_ ?_ ?_ ?_ ?_ ?_ ?_ ?_ ?_ ?_ ?_ ?_ ?_ ?_ ?_ ?_ ?_ ?_ ?_ ?_ ?_ ?_ ?_ ?_ ?_ ?_ ?_ ?_ ?_ ?_ ?_ ?_ ?_ ?_ ?_ ?_ ?_ ?_ ?_ ?_ ?_ ?_ ?_ ?_ ?_ ?_ ?_ ?_ ?_ ?_ ?_ ?_ ?_ ?_ ?_ ?_ ?_ ?_ ?_ ?_ ?_ ?_ ?_ ?_ ?_ ?_ ?_ ?_ ?_ ?_ ?_ ?_ ?_ ?_ ?_ ?_ ?_ ?_ ?_ ?_ ?_ ?_ ?_ ?_ ?_ ?_ ?_ ?_ ?_ ?_ ?_ ?_ ?_ ?_ ?_ ?_ ?_ ?_ ?_ ?_ ?_ ?_ ?_ ?_ ?_ ?_ ?_ ?_ ?_ ?_ ?_ ?_ ?_ ?_ ?_ ?_ ?_ ?_ ?_ ?_ ?_ ?_ ?_ ?_ ?_ ?_ ?_ ?_ ?_ ?_ ?_ ?_ ?_ ?_ ?_ ?_ ?_ ?_ ?_ ?_ ?_ ?_ ?_ ?_ ?_ ?_ ?_ ?_ ?_ ?_ ?_ ?_ ?_ ?_ ?_ ?_ ?_ ?_ ?_ ?_ ?_ ?_ ?_ ?_ ?_ ?_ ?_ ?_
  any_goals k_is
  rotate_left 16
  ·kernel_rfl
  ·kernel_rfl
  ·k_keys
  ·rfl
  ·decide
  ·kernel_rfl
  ·kernel_rfl
  ·kernel_rfl
  ·kernel_rfl
  ·kernel_rfl
  ·kernel_rfl
  ·kernel_rfl
  ·kernel_rfl
  ·kernel_rfl
  ·kernel_rfl
  ·kernel_rfl
  ·kernel_rfl
  ·kernel_rfl
  ·kernel_rfl
  ·kernel_rfl
  ·kernel_rfl
  ·k_exc
  ·k_exc
  ·k_exc
  ·k_exc
  ·k_exc
  ·k_exc
  ·k_exc
  ·k_exc
  ·kernel_rfl
  ·show PySem.W.isClsIn _ _=true;k_is
  ·show PySem.W.isClsIn _ _=true;k_is
  ·show PySem.W.isClsIn _ _=true;k_is
  ·show PySem.W.isClsIn _ _=true;k_is
  ·show PySem.W.isClsIn _ _=true;k_is
  ·show PySem.W.isClsIn _ _=true;k_is
  ·show PySem.W.isClsIn _ _=true;k_is
  ·kernel_rfl
  ·kit_is
  ·kit_is
  ·kit_is
  ·kit_is
  ·kit_is
  ·kit_is
  ·kit_is
  ·kit_is
  ·kit_is
  ·kit_is
  ·kit_is
  ·kit_is
  ·kit_is
  ·kit_is
  ·kit_is
  ·kit_is
  ·kit_is
  ·kit_is
  ·kit_is
  ·kit_is
  ·kit_is
  ·kit_is
  ·kit_is
  ·kit_is
  ·kit_is
  ·kit_is
  ·kit_is
  ·kit_is
  ·kit_is
  ·kit_is
  ·kit_is
  ·kit_is
  ·kit_is
  ·kit_is
  ·kit_is
  ·kit_is
  ·kit_is
  ·kit_is
  ·kit_is
  ·kit_is
  ·kit_is
  ·kit_is
  ·kit_is
  ·kit_is
  ·kit_is
  ·kit_is
  ·kit_is
  ·kit_is
  ·kit_is
  ·kit_is
  ·kit_is
  ·kit_is
  ·kit_is
  ·kit_is
  ·kit_is
  ·kit_is
  ·kts_exm
  ·kts_exm
  ·kts_exm
  ·kts_exm
  ·kts_exm
  ·kts_exm
  ·kts_exm
  ·kts_exm
