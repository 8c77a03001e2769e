import PyProof.Rows.All
import Wide.All
import OpenK.AllK
import Wide.FinOn
import Lean
import PyProof.EqAt
import PyProof.EqKinds
import PyProof.TupleCall
import PySem.Challenge.RW_rowrules_k52_whole_one_to_one_or_twins
set_option Elab.async false
set_option linter.all false
set_option maxRecDepth 100000
theorem byG{T:Prop}(h:∀G:Prop,(T->G)->G):T:=h T id
local macro_rules|`(tactic|rcases $e:term with⟨$p,*⟩)=>`(tactic|(refine byG fun G h=>?_;obtain⟨$p,*⟩:=$e;refine h ?_;clear h G))
abbrev qC:=@PySem.wpAny_bind
abbrev qD:=@PySem.wpAny_pure
abbrev qE:=@if_neg
abbrev qF:=@if_pos
abbrev qG:=@absurd
abbrev qH:=@decide_eq_true
abbrev qI:=@decide_eq_false
abbrev qJ:=@PyProof.Rows.wpS_bind
abbrev qK:=@PyProof.Rows.wpS_pure
abbrev qL:=@PyProof.Rows.wpS_forRange
abbrev qM:=@PySem.wpAny_mono
abbrev qN:=@of_decide_eq_true
abbrev qO:=@PySem.wpAny_holding
abbrev qP:=@congrArg
abbrev qQ:=@PySem.Value
abbrev qR:=@PySem.Addr
abbrev qS:=@PySem.Shared
abbrev qT:=@PySem.Program
abbrev qU:=@PySem.World
abbrev qV:=PySem.W.Frag
abbrev qW:=List Int
abbrev qX:=Nat×Nat
abbrev aH:=@List.length_map
abbrev aJ:=@List.getElem?_eq_getElem
abbrev aK:=@List.getD_eq_getElem?_getD
abbrev aN:=@List.getElem?_eq_some_iff
abbrev aO:=@PySem.Heap.get?_push_of_some
abbrev aP:=@Nat.le_refl
abbrev aQ:=@List.getElem?_map
abbrev aR:=@List.mem_append
abbrev aU:=@List.length_append
abbrev aV:=@List.mem_singleton
abbrev aW:=@Int.toNat_natCast
abbrev aY:=@PySem.Heap.lt_size
abbrev aZ:=@List.map_append
abbrev aa:=@List.mem_cons_of_mem
abbrev ae:=@List.mem_of_getElem?
abbrev af:=@PySem.Heap.get?_push_size
abbrev ag:=@Nat.lt_of_lt_of_le
abbrev ai:=@List.mem_cons_self
abbrev aj:=@List.mem_append_right
abbrev ak:=@List.mem_range
abbrev am:=@List.not_mem_nil
abbrev ao:=@List.mem_map
abbrev ap:=@Bool.false_ne_true
abbrev aq:=@Option.map_eq_some_iff
abbrev au:=@List.append_nil
abbrev av:=@Array.length_toList
abbrev aw:=@List.mem_cons
abbrev ax:=@Int.toNat_of_nonneg
abbrev ay:=@List.mem_iff_getElem?
abbrev az:=@Nat.zero_le
abbrev a9:=@List.append_assoc
abbrev bA:=@Int.pow_succ
abbrev bB:=@List.mem_filter
abbrev bC:=@Int.zero_add
abbrev bD:=@List.length_cons
abbrev bE:=@List.getElem?_append_right
abbrev bF:=@Nat.ne_of_lt
abbrev bG:=@List.map_congr_left
abbrev bH:=@Nat.lt_irrefl
abbrev bI:=@List.length_range
abbrev bJ:=@PySem.boot_len
abbrev bK:=@Nat.le_trans
abbrev bL:=@Int.le_of_lt
abbrev bM:=@Int.natCast_emod
abbrev bN:=@Array.toList_append
abbrev bO:=@Int.pow_zero
abbrev bP:=@List.range_succ
abbrev bQ:=@List.length_take
abbrev bR:=@List.take_length
abbrev bS:=@List.getElem_mem
abbrev bT:=@Nat.mod_lt
abbrev bU:=@Int.emod_lt_of_pos
abbrev bV:=@List.size_toArray
abbrev bW:=@List.length_singleton
abbrev bX:=@PyProof.Rows.callWith_type1
abbrev bZ:=@Int.emod_eq_of_lt
abbrev bg:=@List.flatMap_cons
abbrev bh:=@List.take_of_length_le
abbrev bi:=@Int.le_trans
abbrev bj:=@Nat.div_lt_of_lt_mul
abbrev bn:=@List.getElem?_append_left
abbrev bo:=@List.take_add_one
abbrev bp:=@PySem.mem_of_lookup
abbrev bq:=@Int.emod_nonneg
abbrev br:=@Nat.mul_comm
abbrev bu:=@List.nodup_cons
abbrev bv:=@List.map_cons
abbrev bz:=@List.take_append_drop
abbrev cA:=@List.filter_append
abbrev cB:=@Int.le_refl
abbrev cC:=@Nat.mod_eq_of_lt
abbrev cD:=@List.nodup_append
abbrev cE:=@List.length_filter_le
abbrev cF:=@Nat.eq_of_beq_eq_true
abbrev cG:=@Int.natCast_mul
abbrev cH:=@Array.getElem_toList
abbrev cI:=@Int.one_mul
abbrev cJ:=@PySem.F.slot_dict_setdefault
abbrev cK:=@PySem.W.kia_one
abbrev cM:=@List.flatMap_append
abbrev cN:=@List.length_drop
abbrev cO:=@Int.natCast_ediv
abbrev cP:=@Int.natCast_add
abbrev cQ:=@List.nodup_nil
abbrev cR:=@Nat.div_add_mod
abbrev cS:=@Nat.mul_le_mul
abbrev cT:=@PySem.Heap.get?_update_ne
abbrev cU:=@List.pairwise_map
abbrev cV:=@PySem.Heap.size_push
abbrev cW:=@Nat.lt_of_le_of_ne
abbrev cc:=@Int.natCast_pow
abbrev ce:=@List.map_map
abbrev cg:=@Bool.and_eq_true
abbrev cj:=@PySem.Heap.get?_update_other
abbrev cn:=@List.pairwise_lt_range
abbrev cp:=@Nat.lt_succ_of_lt
abbrev cq:=@List.extract_eq_take_drop
abbrev cr:=@Nat.le_of_lt
abbrev cu:=@List.getElem?_eq_none
abbrev cx:=@Int.mul_comm
abbrev c9:=@Int.zero_mul
abbrev dA:=@List.getElem?_zipWith
abbrev dB:=@Array.getElem?_toList
abbrev dC:=@Int.mul_le_mul_of_nonneg_left
abbrev dD:=@List.flatMap_nil
abbrev dE:=@List.mem_append_left
abbrev dF:=@PyProof.Rows.boot_tuple
abbrev dG:=@PySem.F.type_dict_setdefault
abbrev dH:=@Int.add_zero
abbrev dJ:=@List.length_set
abbrev dL:=@Nat.not_lt_zero
abbrev dM:=@List.length_nil
abbrev dN:=@List.length_pos_iff
abbrev dO:=@Int.add_mul_emod_self_left
abbrev dP:=@List.getElem_inj
abbrev dQ:=@PySem.Heap.get?_update_self
abbrev dR:=@Nat.lt_of_le_of_lt
abbrev dU:=@Nat.sub_self
abbrev dW:=@Nat.le_succ
abbrev dc:=@List.mem_of_mem_take
abbrev de:=@Nat.mul_le_mul_right
abbrev df:=@Array.toList_extract
abbrev dg:=@Option.isSome_iff_exists
abbrev dh:=@List.reverse_cons
abbrev di:=@Nat.ne_of_gt
abbrev dj:=@Nat.add_zero
abbrev dm:=@Int.mul_one
abbrev dq:=@List.getElem?_range
abbrev dz:=@Nat.add_mul
abbrev d4:=@PySem.F.plainAttrs_list
abbrev d5:=@List.lookup_cons
abbrev d6:=@Nat.lt_succ_self
abbrev d7:=@List.mem_flatMap
abbrev d8:=@Int.mul_le_mul
abbrev d9:=@PyProof.Rows.boot_list
abbrev eI:=@List.pairwise_cons
abbrev eJ:=@List.of_mem_zip
abbrev eK:=@List.Perm.append_left
abbrev eN:=@List.perm_append_comm
abbrev eO:=@Nat.add_assoc
abbrev eQ:=@Nat.mul_add_mod_self_right
abbrev eR:=@List.findIdx?_eq_none_iff
abbrev eS:=@List.drop_eq_getElem_cons
abbrev eU:=@List.mem_or_eq_of_mem_set
abbrev eV:=@List.getElem?_zip_eq_some
abbrev eW:=@List.cons_append
abbrev eg:=@List.all_eq_true
abbrev eh:=@Nat.le_add_right
abbrev ej:=@List.length_reverse
abbrev e9:=@PySem.F.slot_list_extend
abbrev fA:=@PySem.F.type_list_extend
abbrev fB:=@Bool.eq_iff_iff
abbrev fC:=@Nat.mul_div_cancel
abbrev fD:=@PySem.F.plainAttrs_dict
abbrev fE:=@List.length_eq_zero_iff
abbrev fF:=@PySem.W.cellsFrom_some
abbrev fG:=@Int.ediv_eq_zero_of_lt
abbrev fH:=@List.Perm.append_right
abbrev fI:=@PySem.W.kitx_list
abbrev fJ:=@PySem.W.kitx_dict
abbrev fK:=@List.foldl_append
abbrev fM:=@Nat.pow_succ
abbrev fN:=@List.Pairwise.and_mem
abbrev fO:=@PyProof.Rows.boot_int
abbrev fP:=@Nat.le_of_not_lt
abbrev fQ:=@List.flatMap_map
abbrev fR:=@PySem.W.looks_findIn
abbrev fS:=@List.reverse_reverse
abbrev fT:=@List.mem_of_mem_drop
abbrev fU:=@List.mem_iff_getElem
abbrev fV:=@Int.add_assoc
abbrev fW:=@List.nil_append
abbrev fX:=@Nat.add_mod
abbrev fY:=@Int.natCast_sub
abbrev fZ:=@Int.mul_zero
abbrev fb:=@Nat.add_comm
abbrev fe:=@Nat.le_of_eq
namespace L2
open PySem PySem.Spec PyProof.Rows
abbrev Bf:=Sum Int Str
noncomputable def Ir:Bf->qQ->Bool
 |.inl k,v=>Value.isInt k v
 |.inr x,v=>Value.isStrOf x v
noncomputable def ZI(w:qU):Bf->Int
 |.inl k=>hashInt k
 |.inr x=>hashStr w x
theorem BW:∀{k:Bf} {v:qQ},Ir k v=true->(∃i t,k=Sum.inl i/\v=Value.int i t)\/(∃x t,k=Sum.inr x/\v=Value.str x t)
 |.inl i,v,h=>by obtain⟨t,e⟩:=Value.isInt_shape (k:=i) (v:=v) h;exact .inl ⟨i,t,rfl,e⟩
 |.inr x,v,h=>by obtain⟨t,e⟩:=Value.isStrOf_shape (x:=x) (v:=v) h;exact .inr ⟨x,t,rfl,e⟩
theorem OZ(i:Int)(t:Tok):Ir (.inl i) (.int i t)=true:=by simp[Ir,Value.isInt]
theorem Oa(x:Str)(t:Tok):Ir (.inr x) (.str x t)=true:=by simp[Ir,Value.isStrOf]
theorem VY(a b:Int):decide ((Sum.inl a:Bf)=Sum.inl b)=(a==b):=by
 by_cases e:a=b
 ·subst e;simp
 ·have h:¬(Sum.inl a:Bf)=Sum.inl b:=λq=>e (Sum.inl.inj q)
  rw[qI h];exact (beq_eq_false_iff_ne.mpr e).symm
theorem VZ(a b:Str):decide ((Sum.inr a:Bf)=Sum.inr b)=decide (a=b):=by
 by_cases e:a=b
 ·subst e;simp
 ·have h:¬(Sum.inr a:Bf)=Sum.inr b:=λq=>e (Sum.inr.inj q)
  rw[qI h,qI e]
theorem Va(a:Int)(b:Str):decide ((Sum.inl a:Bf)=Sum.inr b)=false:=qI (λq=>nomatch q)
theorem Vb(a:Str)(b:Int):decide ((Sum.inr a:Bf)=Sum.inl b)=false:=qI (λq=>nomatch q)
noncomputable def A7(prog:qT)(w:qU):PySem.KeyKind prog w Bf where
 is:=Ir
 hash:=ZI w
 inj:=λv a b ha hb=>by
  rcases BW ha with⟨i,t,rfl,rfl⟩|⟨x,t,rfl,rfl⟩
  ·rcases BW hb with⟨j,u,rfl,e⟩|⟨y,u,rfl,e⟩
   ·injection e with e1 _;rw[e1]
   ·exact nomatch e
  ·rcases BW hb with⟨j,u,rfl,e⟩|⟨y,u,rfl,e⟩
   ·exact nomatch e
   ·injection e with e1 _;rw[e1]
 byValue:=λk v h=>by rcases BW h with⟨i,t,rfl,rfl⟩|⟨x,t,rfl,rfl⟩<;>rfl
 pyHash:=λhv h=>by
  rcases BW hv with⟨i,t,rfl,rfl⟩|⟨x,t,rfl,rfl⟩
  ·exact wpAny_pyHash_int h
  ·exact wpAny_pyHash_str h
 eqBool:=λhu hv h=>by
  rcases BW hu with⟨i,t,rfl,rfl⟩|⟨x,t,rfl,rfl⟩
  ·rcases BW hv with⟨j,u,rfl,rfl⟩|⟨y,u,rfl,rfl⟩
   ·rw[VY]at h;exact wpAny_eqBool_int h
   ·rw[Va]at h;exact SeqAt.EqAt.int_str i t y u _ _ _ _ h
  ·rcases BW hv with⟨j,u,rfl,rfl⟩|⟨y,u,rfl,rfl⟩
   ·rw[Vb]at h;exact SeqAt.EqAt.str_int x t j u _ _ _ _ h
   ·rw[VZ]at h;exact wpAny_eqBool_str h
 «strs»:=λk x t v h=>by
  rcases BW h with⟨i,u,rfl,e⟩|⟨y,u,rfl,e⟩
  ·exact nomatch e
  ·injection e with e1 _
   subst e1;cases v<;>rfl
theorem KI(prog:qT)(w:qU)(i:Int)(t:Tok):(A7 prog w).is (.inl i) (.int i t)=true:=OZ i t
theorem KJ(prog:qT)(w:qU)(x:Str)(t:Tok):(A7 prog w).is (.inr x) (.str x t)=true:=Oa x t
inductive V where
 |non|bl (b:Bool)|int (i:Int)|str (x:Str)|byt (b:Array UInt8)|flt (b:UInt64)|ref (a:qR)|ty (n:String)
 deriving DecidableEq
def A8:V->qQ->Prop
 |.non,u=>u=Value.none
 |.bl b,u=>u=Value.bool b
 |.int i,u=>∃t,u=Value.int i t
 |.str x,u=>∃t,u=Value.str x t
 |.byt b,u=>∃t,u=Value.bytes b t
 |.flt b,u=>∃t,u=Value.float b t
 |.ref a,u=>u=Value.ref a
 |.ty n,u=>u=Value.type n
abbrev Au:List V->List qQ->Prop:=Paired A8
variable{xs:List V}{us:List qQ}
theorem Au.length(r:Au xs us):xs.length=us.length:=Paired.length r
theorem Au.get:∀{xs:List V} {us:List qQ} {i:Nat} {x:V},Au xs us->xs[i]?=some x->∃u,us[i]?=some u/\A8 x u
 |_,_,_,_,.nil,e=>by simp at e
 |_,_,0,_,.cons r _,e=>by simp at e;subst e;exact⟨_,rfl,r⟩
 |_,_,i+1,x,.cons _ t,e=>by obtain⟨u,h1,h2⟩:=Au.get (i:=i) (x:=x) t (by simpa using e);exact⟨u,by simpa using h1,h2⟩
variable{u:qQ}
theorem Au.set{x:V}(r:A8 x u):∀{xs:List V} {us:List qQ} (i:Nat),Au xs us->Au (xs.set i x) (us.set i u)
 |_,_,_,.nil=>.nil
 |_,_,0,.cons _ t=>.cons r t
 |_,_,i+1,.cons q t=>.cons q (Au.set r i t)
theorem Au.append:∀{xs ys:List V} {us ws:List qQ},Au xs us->Au ys ws->Au (xs++ys) (us++ws):=by
 intro _ _ _ _ h s
 induction h with
 |nil=>exact s
 |cons r _ ih=>exact .cons r ih
theorem Au.take:∀{xs:List V} {us:List qQ} (n:Nat),Au xs us->Au (xs.take n) (us.take n)
 |_,_,0,_=>.nil
 |_,_,_+1,.nil=>.nil
 |_,_,n+1,.cons r t=>.cons r (Au.take n t)
theorem Au.drop:∀{xs:List V} {us:List qQ} (n:Nat),Au xs us->Au (xs.drop n) (us.drop n)
 |_,_,0,r=>r
 |_,_,_+1,.nil=>.nil
 |_,_,n+1,.cons _ t=>Au.drop n t
noncomputable def Ig:Option V->Option qQ->Prop
 |some v,some u=>A8 v u
 |none,none=>True
 |_,_=>False
def KV{κ:Type}:List (κ×V)->List (κ×qQ)->Prop:=Paired λ(p:κ×V) (q:κ×qQ)=>p.1=q.1/\A8 p.2 q.2
def kV:Bf->V
 |.inl i=>.int i
 |.inr x=>.str x
inductive HO where
 |lst (xs:List V)
 |tup (xs:List V)
 |dK (kvs:List (Bf×V))|dT (kvs:List (List Bf×V))
 |set (S:Int->Bool) (n:Nat)
 |ins (C dx:qR) (fs:List (Str×V))
 |own (x:qR)
 |xd (fs:List (Str×V))
 |met (f x:qR)
 |rng (lo hi:Int)
 |frz (o:Obj) (u:HO)
 |tbl (ps:Array qQ)
 |ext (φ:Heap->Prop)
abbrev Hp:=qR->Option HO
noncomputable def AV(H:Hp)(a:qR)(o:HO):Hp:=λb=>if b=a then some o else H b
variable{H:Hp}{a:qR}{o:HO}
theorem AE:AV H a o a=some o:=by unfold AV;rw[qF rfl]
theorem AL{b:qR}(h:b≠a):AV H a o b=H b:=by unfold AV;rw[qE h]
theorem Ey{u:HO}:AV (AV H a o) a u=AV H a u:=by
 funext b;unfold AV;split<;>rfl
theorem Cc{b:qR}{u:HO}(h:H a=some o)(h':H b=some u)(d:o≠u):a≠b:=by intro e;subst e;rw[h]at h';exact d (Option.some.inj h')
theorem BQ{b:qR}(h:H a=some o)(h':H b=none):a≠b:=by intro e;subst e;rw[h]at h';cases h'
section
variable(P:qT)(w:qU)
noncomputable def Ap(H:Hp)(h:Heap)(a:qR):HO->Prop
 |.lst xs=>xs.length<=sizeLine/\∃(its:List qQ) (n:Nat),Au xs its/\h.get? a=some {cls:=.type "list",data:=.seq its.toArray n}
 |.tup xs=>xs.length<=sizeLine/\∃its:List qQ,Au xs its/\IsTup h a its.toArray
 |.dK kvs=>kvs.length<=sizeLine/\(a==sysModules)=false/\∃vs,KV kvs vs/\h.DictOf (A7 P w) a vs
 |.dT kvs=>kvs.length<=sizeLine/\(a==sysModules)=false/\∃xs:List (List Bf×qR×qQ),
   Paired (λ(p:List Bf×V) (q:List Bf×qR×qQ)=>p.1=q.1/\H q.2.1=some (.tup (p.1.map kV))/\A8 p.2 q.2.2) kvs xs /\
   ∃o es ep,h.get? a=some o/\o.ExactDict/\o.data=.dict es ep/\es.toList=xs.map (entryOfKey (tupleKind (A7 P w)))/\(xs.map (·.1)).Nodup
 |.set S n=>h.SetOf (intKind P w) a S n
 |.ins C dx fs=>H dx=some (.own a)/\fs.length<=1000/\dx≠a/\h.get? a=some (PySem.W.instObj C dx) /\
   ∃mA,h.Ns1 dx mA/\(∀f,Ig (fs.lookup f) (mA f))/\PySem.Within mA (fs.map (·.1))
 |.own _=>∃o,h.get? a=some o
 |.xd fs=>∃mA,h.Ns1 a mA/\∀f,Ig (fs.lookup f) (mA f)
 |.rng lo hi=>∃t u v,h.get? a=some {cls:=.type "range",data:=.fields #[.int lo t,.int hi u,.int 1 v]}
 |.frz o u=>h.get? a=some o/\Ap H h a u
 |.tbl ps=>h.get? a=some {cls:=.none,data:=.fields ps}
 |.met f x=>h.get? a=some (PySem.W.methodObj (.ref f) (.ref x))
 |.ext φ=>φ h/\(∃o,h.get? a=some o)/\∀h1 h2:Heap,φ h1->(∀o,h1.get? a=some o->h2.get? a=some o)->φ h2
def Ea(H:Hp)(h:Heap):Prop:=∀a o,H a=some o->Ap P w H h a o
end
variable{α β:Type}
section
variable{P:qT}{w:qU}{H':Hp}{h h':Heap}
theorem Ap.lt(x:Ap P w H h a o):a<h.objs.size:=by
 cases o with
 |lst xs=>obtain⟨_,_,_,_,e⟩:=x;exact aY e
 |tup xs=>obtain⟨_,_,_,p⟩:=x;exact p.lt
 |dK kvs=>obtain⟨_,_,_,_,o,_,_,e,_⟩:=x;exact aY e
 |dT kvs=>obtain⟨_,_,_,_,o,_,_,e,_⟩:=x;exact aY e
 |set S n=>obtain⟨o,_,_,_,e,_⟩:=x;exact aY e
 |ins C dx fs=>obtain⟨_,_,_,e,_⟩:=x;exact aY e
 |own y=>obtain⟨_,e⟩:=x;exact aY e
 |xd fs=>obtain⟨_,⟨_,_,_,e,_⟩,_⟩:=x;exact aY e
 |rng lo hi=>obtain⟨_,_,_,e⟩:=x;exact aY e
 |frz ob u=>obtain⟨e,_⟩:=x;exact aY e
 |tbl ps=>exact aY (show h.get? a=some _ from x)
 |met f y=>exact aY (show h.get? a=some _ from x)
 |ext φ=>obtain⟨_,⟨_,e⟩,_⟩:=x;exact aY e
theorem Paired.mapP{F G:α->β->Prop}:∀{l₁:List α} {l₂:List β},Paired F l₁ l₂->(∀a b,F a b->G a b)->Paired G l₁ l₂:=by
 intro _ _ h f
 induction h with
 |nil=>exact .nil
 |cons r _ ih=>exact .cons (f _ _ r) ih
theorem Ap.stay(x:Ap P w H h a o)(k:∀b u,(b=a\/H b=some (.own a))->h.get? b=some u->h'.get? b=some u)
  (ho:∀b,H b=some (.own a)->H' b=some (.own a)) (ht:∀b xs,H b=some (.tup xs)->H' b=some (.tup xs)):Ap P w H' h' a o:=by
 induction o with
 |lst xs=>obtain⟨z,its,n,r,e⟩:=x;exact⟨z,its,n,r,k _ _ (.inl rfl) e⟩
 |tup xs=>obtain⟨z,its,r,ob,e,c⟩:=x;exact⟨z,its,r,ob,k _ _ (.inl rfl) e,c⟩
 |dK kvs=>obtain⟨z,y,vs,r,ob,es,ep,e,c⟩:=x;exact⟨z,y,vs,r,ob,es,ep,k _ _ (.inl rfl) e,c⟩
 |dT kvs =>
  obtain⟨z,y,xs,r,ob,es,ep,e,c⟩:=x;exact⟨z,y,xs,Paired.mapP r λp q z=>⟨z.1,ht _ _ z.2.1,z.2.2⟩,ob,es,ep,k _ _ (.inl rfl) e,c⟩
 |set S n=>obtain⟨ob,es,ep,t,e,c⟩:=x;exact⟨ob,es,ep,t,k _ _ (.inl rfl) e,c⟩
 |ins C dx fs =>
  obtain⟨d,z,ne,e,mA,⟨od,es,ep,e2,c⟩,r⟩:=x;exact⟨ho _ d,z,ne,k _ _ (.inl rfl) e,mA,⟨od,es,ep,k _ _ (.inr d) e2,c⟩,r⟩
 |own y=>obtain⟨ob,e⟩:=x;exact⟨ob,k _ _ (.inl rfl) e⟩
 |xd fs=>obtain⟨mA,⟨od,es,ep,e,c⟩,r⟩:=x;exact⟨mA,⟨od,es,ep,k _ _ (.inl rfl) e,c⟩,r⟩
 |rng lo hi=>obtain⟨t,u,v,e⟩:=x;exact⟨t,u,v,k _ _ (.inl rfl) e⟩
 |frz ob u ih=>obtain⟨e,q⟩:=x;exact⟨k _ _ (.inl rfl) e,ih q⟩
 |tbl ps =>
  have e:h.get? a=some {cls:=.none,data:=.fields ps}:=x;show h'.get? a=some {cls:=.none,data:=.fields ps};exact k a _ (.inl rfl) e
 |met f y =>
  have e:h.get? a=some (PySem.W.methodObj (.ref f) (.ref y)):=x;show h'.get? a=some (PySem.W.methodObj (.ref f) (.ref y));exact k a _ (.inl rfl) e
 |ext φ=>obtain⟨p,⟨o,e⟩,st⟩:=x;exact⟨st _ _ p λo q=>k _ _ (.inl rfl) q,⟨o,k _ _ (.inl rfl) e⟩,st⟩
theorem Ea.lt(x:Ea P w H h)(e:H a=some o):a<h.objs.size:=(x a o e).lt
theorem Ea.fresh(x:Ea P w H h)(e:h.objs.size<=a):H a=none:=by
 cases q:H a with
 |none=>rfl
 |some u=>exact qG (ag (x.lt q) e) (bH _)
theorem Ea.kept(x:Ea P w H h)(k:∀b u,h.get? b=some u->h'.get? b=some u):Ea P w H h':=λa o e =>
 (x a o e).stay (λb u _ q=>k b u q) (λ_ q=>q) λ_ _ q=>q
theorem Ea.laid(x:Ea P w H h)(k:∀b u,h.get? b=some u->h'.get? b=some u)(hp:h.objs.size<=a)(new:Ap P w (AV H a o) h' a o):Ea P w (AV H a o) h':=λb u e=>by
 have hn:=x.fresh hp
 by_cases hb:b=a
 ·subst hb;rw[AE]at e;cases e;exact new
 ·rw[AL hb]at e;exact (x b u e).stay (λc v _ q=>k c v q) (λc q=>by rw[AL (BQ q hn)];exact q) λc xs q=>by rw[AL (BQ q hn)];exact q
end
def Rd(H:Hp)(a:qR)(u:HO):Prop:=H a=some u\/∃o,H a=some (.frz o u)
theorem Rd.ok{P:qT}{w:qU}{h:Heap}{u:HO}(r:Rd H a u)(x:Ea P w H h):Ap P w H h a u:=by
 rcases r with r|⟨o,r⟩
 ·exact x a u r
 ·obtain⟨_,q⟩:=x a _ r;exact q
noncomputable def Xg:Option HO->Prop
 |some (.lst _)=>True
 |some (.dK _)=>True
 |some (.dT _)=>True
 |some (.set _ _)=>True
 |some (.ins _ _ _)=>True
 |some (.ext _)=>True
 |_=>False
section
variable{P:qT}{w:qU}{h h':Heap}{x e:qR}{o':HO}
theorem Ea.write(ok:Ea P w H h)(mu:Xg (H x))(he:e=x\/H e=some (.own x))(k:∀b u,b≠e->h.get? b=some u->h'.get? b=some u)(heo:∃u,h'.get? e=some u)
  (new:Ap P w (AV H x o') h' x o'):Ea P w (AV H x o') h':=λb u q=>by
 have nown:∀c y,H c=some (.own y)->c≠x:=λc y r z=>by subst z;rw[r]at mu;exact mu
 have ntup:∀c xs,H c=some (.tup xs)->c≠x:=λc xs r z=>by subst z;rw[r]at mu;exact mu
 by_cases hb:b=x
 ·subst hb;rw[AE]at q;cases q;exact new
 ·rw[AL hb]at q
  by_cases hbe:b=e
  ·have q':H b=some (.own x):=by
    rcases he with z|z
    ·exact qG (hbe.trans z) hb
    ·rw[hbe];exact z
   rw[q]at q';cases q';obtain⟨v,hv⟩:=heo;exact⟨v,by rw[hbe];exact hv⟩
  ·refine (ok b u q).stay (λc v hc r=>k c v ?_ r) (λc r=>by rw[AL (nown c b r)];exact r) λc xs r=>by rw[AL (ntup c xs r)];exact r
   rcases hc with rfl|hc
   ·exact hbe
   ·rintro rfl;rcases he with z|z
    ·exact nown c b hc z
    ·rw[hc]at z;cases z;exact hb rfl
end
structure Un(fs ex:List qR)(H H':Hp)(h h':Heap):Prop where
 keep:∀b o,h.get? b=some o->H b=none->b∉fs->b∉ex->h'.get? b=some o
 slot:∀b o,h.get? b=some o->H b=none->b∈fs->b∉ex->∃sl,h'.get? b=some {o with slots:=sl}
 free:∀b o,h.get? b=some o->H b=none->b∉ex->H' b=none
 there:∀b o,h.get? b=some o->b∉ex->∃o',h'.get? b=some o'
 tups:∀b xs,H b=some (.tup xs)->H' b=some (.tup xs)
 frzs:∀b o u,H b=some (.frz o u)->H' b=some (.frz o u)
 tbls:∀b ps,H b=some (.tbl ps)->∃more,H' b=some (.tbl (ps++more))
section
variable{fs fs' ex ex':List qR}{H1 H2:Hp}{h h1 h2 h':Heap}{x e:qR}
theorem Un.any(u:Un fs ex H H1 h h1){b:qR}{ob:Obj}(q:h.get? b=some ob)(n:H b=none)(hx:b∉ex):∃sl,h1.get? b=some {ob with slots:=sl}:=by
 by_cases hb:b∈fs
 ·exact u.slot b ob q n hb hx
 ·exact⟨ob.slots,u.keep b ob q n hb hx⟩
theorem Un.kept(k:∀b u,h.get? b=some u->h'.get? b=some u):Un fs ex H H h h':=
 ⟨λb ob q _ _ _=>k b ob q,λb ob q _ _ _=>⟨ob.slots,k b ob q⟩,λ_ _ _ n _=>n,λb ob q _=>⟨ob,k b ob q⟩,λ_ _ q=>q,λ_ _ _ q=>q,λ_ ps q=>⟨#[],by rw[q];simp⟩⟩
theorem Un.refl:Un fs ex H H h h:=Un.kept λ_ _ q=>q
theorem Un.laid(k:∀b u,h.get? b=some u->h'.get? b=some u)(hp:h.objs.size<=a)(hn:H a=none):Un fs ex H (AV H a o) h h' where
 keep:=λb u q _ _ _=>k b u q
 slot:=λb u q _ _ _=>⟨u.slots,k b u q⟩
 free:=λb u q n _=>by rw[AL (bF (ag (aY q) hp))];exact n
 there:=λb u q _=>⟨u,k b u q⟩
 tups:=λb xs q=>by rw[AL (BQ q hn)];exact q
 frzs:=λb u xs q=>by rw[AL (BQ q hn)];exact q
 tbls:=λb ps q=>⟨#[],by rw[AL (BQ q hn),q];simp⟩
theorem Un.write(mu:Xg (H x))(he:e=x\/H e=some (.own x))(k:∀b u,b≠e->h.get? b=some u->h'.get? b=some u)(heo:∃u,h'.get? e=some u):Un fs ex H (AV H x o) h h':=by
 have hx:∀b,H b=none->b≠x:=λb n z=>by subst z;rw[n]at mu;exact mu
 have hb:∀b,H b=none->b≠e:=λb n z=>by
  subst z;rcases he with r|r
  ·exact hx b n r
  ·rw[n]at r;cases r
 have hm:∀b u,H b=some u->¬Xg (some u)->b≠x:=λb u q nm z=>by subst z;rw[q]at mu;exact nm mu
 refine⟨λb u q n _ _=>k b u (hb b n) q,λb u q n _ _=>⟨u.slots,k b u (hb b n) q⟩,λb u q n _=>by rw[AL (hx b n)];exact n,λb u q _=>?_,
  λb xs q=>by rw[AL (hm b _ q λz=>z)];exact q,λb u xs q=>by rw[AL (hm b _ q λz=>z)];exact q,λb ps q=>⟨#[],by rw[AL (hm b _ q λz=>z),q];simp⟩⟩
 by_cases hbe:b=e
 ·subst hbe;exact heo
 ·exact⟨u,k b u hbe q⟩
end
noncomputable def trk(h:Heap)(H:Hp):List qR:=(List.range h.objs.size).filter λa=>(H a).isSome
noncomputable def Ih(h:Heap)(H:Hp):Heap:=PySem.W.hideAll h (trk h H)
theorem Ob(h:Heap)(H:Hp):(Ih h H).objs.size=h.objs.size:=PySem.W.hideAll_size _ _
theorem Pq{h:Heap}{b:qR}{o:Obj}(e:h.get? b=some o)(n:H b=none):(Ih h H).get? b=some o:=
 PySem.W.hideAll_get _ e λhm=>by have q:(H b).isSome=true:=(bB.mp hm).2;rw[n]at q;simp at q
theorem TC{h:Heap}{b:qR}{o:Obj}(e:(Ih h H).get? b=some o):h.get? b=some o/\H b=none:=by
 have e':h.get? b=some o:=PySem.W.of_hideAll (trk h H) e;refine⟨e',?_⟩;cases q:H b with
 |none=>rfl
 |some x =>
  have hm:b∈trk h H:=List.mem_filter.mpr ⟨List.mem_range.mpr (Heap.lt_size e'),by simp[q]⟩;have z:(Ih h H).get? b=none:=PySem.W.hideAll_none (trk h H) hm;rw[z]at e;cases e
structure Y9(K:qV)(mg:Str->Option qQ)(base:Heap):Prop where
 kin:K.In base
 glob:base.Ns mainGlobals mg
 blt:∃mb,base.Ns builtinsNs mb/\∀x:Str,x≠"__name__"->mb x=bootBuiltins x
 nolimit:base.NoLimit
structure Cx where
 prog:qT
 w:qU
 K:qV
 mg:Str->Option qQ
 base:Heap
 A:Around
 N:List Str
 s₀:qS
 H₀:Hp
 env:Env
 outer:List Env
 stack:List Env
 ex:List qR
 fn:Str->Bool
 calm:Bool
 pn:List (qR×Obj)
 xe:qQ->qS->Prop
def KB(l:List Env):List qR:=l.filterMap (·.frame)
abbrev Cx.fs(X:Cx):List qR:=KB X.outer
def ZJ(sc:Scope)(x:Str):Prop:=sc.names.lookup x=some .local\/sc.names.lookup x=some .cell\/sc.names.lookup x=some .free
def UX(sc:Scope)(x:Str):Prop:=sc.names.lookup x=some .local\/sc.names.lookup x=some .cell
def ZK(env:Env)(h:Heap)(m:Str->Option qQ)(x:Str)(u:qQ):Prop:=
 (env.kindOf x=some .local/\m x=some u)\/((env.kindOf x=some .cell\/env.kindOf x=some .free)/\∃c,env.cells.lookup x=some c/\h.IsCell c (some u))
structure Cx.Ok(X:Cx):Prop where
 mod:Y9 X.K X.mg X.base
 kind:X.env.scope.kind=.function
 glob:X.env.globals=mainGlobals
 blt:X.env.builtins=builtinsNs
 above:X.s₀.heap.objs.size<=X.env.locals
 inj:∀x y c,X.env.cells.lookup x=some c->X.env.cells.lookup y=some c->x=y
 has:∀x,(X.env.kindOf x=some .cell\/X.env.kindOf x=some .free)->∃c,X.env.cells.lookup x=some c
 cab:∀x c,X.fn x=true->X.env.cells.lookup x=some c->X.s₀.heap.objs.size<=c
 hd:X.calm=true->X.A.handled=none
 frames:X.A.frames=some X.stack
 stk:X.stack=X.outer\/(X.stack=X.env::X.outer/\X.env.frame=some X.env.locals)
 exf:∀b∈X.ex,b≠X.env.locals/\∀x c,X.env.cells.lookup x=some c->c≠b
 bs:∀b o,X.base.get? b=some o->X.s₀.heap.get? b=some o/\X.H₀ b=none
 bsz:X.base.objs.size<=X.s₀.heap.objs.size
 noex:∀b o,X.base.get? b=some o->b∉X.ex
 exfs:∀b∈X.ex,b∉X.fs
 funs:X.s₀.heap.FunFrames X.base X.outer
 frf:∀b∈X.fs,X.H₀ b=none
structure AW(X:Cx)(ad:List (qR×Obj))(σ:List (Option V))(H:Hp)(s:qS):Prop where
 ok:X.Ok
 os:s.os=X.s₀.os
 bare:AllBare s.gens
 base:Un X.fs X.ex X.H₀ H X.s₀.heap s.heap
 loc:∃m,s.heap.Ns X.env.locals m/\∀(i:Nat) (x:Str) (v:V),X.N[i]?=some x->σ[i]?=some (some v)->ZJ X.env.scope x->∃u,A8 v u/\ZK X.env s.heap m x u
 cell:∀x c,X.env.cells.lookup x=some c->∃v,s.heap.IsCell c v
 free:H X.env.locals=none
 freeC:∀x c,X.env.cells.lookup x=some c->H c=none
 pin:∀p∈X.pn++ad,s.heap.get? p.1=some p.2/\H p.1=none/\p.1≠X.env.locals/\p.1∉X.fs/\∀v,p.2.data≠.cell v
 hok:Ea X.prog X.w H s.heap
 len:σ.length=X.N.length
variable{x:Str}{t' j:Nat}{it:qR}{s':qS}
section
variable{X:Cx}{ad:List (qR×Obj)}{σ:List (Option V)}{H':Hp}{s:qS}{h':Heap}
theorem Cx.Ok.nofr(ok:X.Ok){b:qR}{o:Obj}(e:X.base.get? b=some o):b∉X.fs:=λhb=>by have:=(ok.funs.mem hb).1;rw[e]at this;cases this
theorem AW.bs(I:AW X ad σ H s):∀b o,X.base.get? b=some o->s.heap.get? b=some o/\H b=none:=λb o e =>
 ⟨I.base.keep b o (I.ok.bs b o e).1 (I.ok.bs b o e).2 (I.ok.nofr e) (I.ok.noex b o e),I.base.free b o (I.ok.bs b o e).1 (I.ok.bs b o e).2 (I.ok.noex b o e)⟩
theorem AW.bk(I:AW X ad σ H s):∀b o,X.base.get? b=some o->s.heap.get? b=some o:=λb o e=>(I.bs b o e).1
theorem AW.mod(I:AW X ad σ H s):Y9 X.K X.mg X.base:=I.ok.mod
theorem AW.kIn(I:AW X ad σ H s):X.K.In s.heap:=I.ok.mod.kin.keeps I.bk
theorem AW.lt(I:AW X ad σ H s):X.env.locals<s.heap.objs.size:=let ⟨_,hn,_⟩:=I.loc;hn.lt
theorem AW.sz(I:AW X ad σ H s):X.s₀.heap.objs.size<=s.heap.objs.size:=bK I.ok.above (cr I.lt)
theorem AW.nofs(I:AW X ad σ H s)(h:s.heap.objs.size<=a):a∉X.fs:=λhb=>by obtain⟨_,o,ho,_⟩:=I.ok.funs.mem hb;exact qG (ag (aY ho) (bK I.sz h)) (bH _)
theorem AW.cne(I:AW X ad σ H s):∀x c,X.env.cells.lookup x=some c->c≠X.env.locals:=λx c e z=>by obtain⟨v,o,ho,hd⟩:=I.cell x c e;obtain⟨m,⟨o',es,ep,ho',hd',_⟩,_⟩:=I.loc;rw[z,ho']at ho;cases ho;rw[hd']at hd;cases hd
theorem AW.funs(I:AW X ad σ H s):s.heap.FunFrames X.base X.outer:=by
 have all:∀(l:List Env),(∀b∈KB l,b∈X.fs)->X.s₀.heap.FunFrames X.base l->s.heap.FunFrames X.base l:=by
  intro l
  induction l with
  |nil=>intro _ _;trivial
  |cons env r ih =>
   intro hs hl;rcases hl with⟨hk,⟨L,o,hf,hn,ho,hd⟩,hr⟩;have hL:L∈X.fs:=hs L (by unfold KB;rw[List.filterMap_cons,hf];exact List.mem_cons_self);obtain⟨sl,e⟩:=I.base.slot L o ho (I.ok.frf L hL) hL λz=>I.ok.exfs L z hL
   exact⟨hk,⟨L,_,hf,hn,e,hd⟩,ih (λb hb=>hs b (by unfold KB;rw[List.filterMap_cons,hf];exact List.mem_cons_of_mem _ hb)) hr⟩
 exact all X.outer (λ_ hb=>hb) I.ok.funs
theorem AW.stack(I:AW X ad σ H s):s.heap.FunFrames X.base X.stack:=by
 rcases I.ok.stk with e|⟨e,hf⟩
 ·rw[e];exact I.funs
 ·rw[e];obtain⟨m,hn,_⟩:=I.loc;refine .cons (by rw[I.ok.kind];decide) hf hn ?_ I.funs;exact Heap.get?_none_of_le (bK I.ok.bsz I.ok.above)
theorem AW.stkSub(I:AW X ad σ H s):∀b∈KB X.stack,b∈X.env.locals::X.fs:=λb hb=>by
 rcases I.ok.stk with e|⟨e,hf⟩
 ·rw[e]at hb;exact aa _ hb
 ·rw[e]at hb;unfold KB at hb;rw[List.filterMap_cons,hf]at hb;exact hb
theorem AW.stkFree(I:AW X ad σ H s):∀b∈KB X.stack,H b=none:=λb hb=>by
 rcases aw.mp (I.stkSub b hb) with e|hb
 ·rw[e];exact I.free
 ·obtain⟨_,o,ho,_⟩:=I.ok.funs.mem hb;exact I.base.free b o ho (I.ok.frf b hb) λz=>I.ok.exfs b z hb
theorem AW.step{g':Array GenState}{t':Nat}{d':Drawn}{ch:List qR}(I:AW X ad σ H s)
  (hch:∀b∈ch,(b∈X.ex\/X.s₀.heap.objs.size<=b)/\b≠X.env.locals/\(∀x c,X.env.cells.lookup x=some c->c≠b)/\∀p∈X.pn++ad,p.1≠b)
  (keep:∀b o,b≠X.env.locals->b∉X.fs->b∉ch->s.heap.get? b=some o->H b=none->h'.get? b=some o)
  (slot:∀b o,b≠X.env.locals->b∈X.fs->b∉ch->s.heap.get? b=some o->H b=none->∃sl,h'.get? b=some {o with slots:=sl}) (free:∀b o,b∉ch->s.heap.get? b=some o->H b=none->H' b=none)
  (there:∀b o,b∉ch->s.heap.get? b=some o->∃o',h'.get? b=some o')
  (tups:∀b xs,H b=some (.tup xs)->H' b=some (.tup xs)) (frzs:∀b o u,H b=some (.frz o u)->H' b=some (.frz o u)) (tbls:∀b ps,H b=some (.tbl ps)->∃more,H' b=some (.tbl (ps++more)))
  (ns:∀m,s.heap.Ns X.env.locals m->h'.Ns X.env.locals m) (hok:Ea X.prog X.w H' h') (hg:AllBare g'):
  AW X ad σ H' {s with heap:=h',gens:=g',drawn:=d',toks:=t'}:=by
 have neL:∀b o,X.s₀.heap.get? b=some o->b≠X.env.locals:=λb o e=>bF (ag (aY e) I.ok.above)
 have neC:∀b o,X.s₀.heap.get? b=some o->b∉X.ex->b∉ch:=λb o e hx hb=>by
  rcases (hch b hb).1 with z|z
  ·exact hx z
  ·exact qG (ag (aY e) z) (bH _)
 have cellK:∀x c,X.env.cells.lookup x=some c->∀v,s.heap.IsCell c v->h'.IsCell c v:=λx c e v ⟨o,ho,hd⟩=>by
  have nch:c∉ch:=λz=>(hch c z).2.2.1 x c e rfl
  by_cases hc:c∈X.fs
  ·obtain⟨sl,q⟩:=slot c o (I.cne x c e) hc nch ho (I.freeC x c e);exact⟨_,q,hd⟩
  ·exact⟨o,keep c o (I.cne x c e) hc nch ho (I.freeC x c e),hd⟩
 refine⟨I.ok,I.os,hg,⟨λb o e n hb hx=>?_,λb o e n hb hx=>?_,λb o e n hx=>?_,λb o e hx=>?_,λb xs e=>tups b xs (I.base.tups b xs e),λb o xs e=>frzs b o xs (I.base.frzs b o xs e),λb ps e=>?_⟩,?_,λx c e=>?_,?_,λx c e=>?_,λp hp=>?_,hok,I.len⟩
 ·exact keep b o (neL b o e) hb (neC b o e hx) (I.base.keep b o e n hb hx) (I.base.free b o e n hx)
 ·obtain⟨sl,e1⟩:=I.base.slot b o e n hb hx;obtain⟨sl',e2⟩:=slot b _ (neL b o e) hb (neC b o e hx) e1 (I.base.free b o e n hx);exact⟨sl',e2⟩
 ·obtain⟨o',e1⟩:=I.base.there b o e hx;exact free b o' (neC b o e hx) e1 (I.base.free b o e n hx)
 ·obtain⟨o',e1⟩:=I.base.there b o e hx;exact there b o' (neC b o e hx) e1
 ·obtain⟨m1,e1⟩:=I.base.tbls b ps e;obtain⟨m2,e2⟩:=tbls b _ e1;exact⟨m1++m2,by rw[e2,Array.append_assoc]⟩
 ·obtain⟨m,hn,hl⟩:=I.loc;refine⟨m,ns m hn,λi x v e1 e2 e3=>?_⟩;obtain⟨u,r,l⟩:=hl i x v e1 e2 e3;refine⟨u,r,?_⟩;rcases l with l|⟨k,c,e,z⟩
  ·exact .inl l
  ·exact .inr ⟨k,c,e,cellK x c e _ z⟩
 ·obtain⟨v,z⟩:=I.cell x c e;exact⟨v,cellK x c e v z⟩
 ·obtain⟨m,⟨o,_,_,ho,_⟩,_⟩:=I.loc;exact free _ o (λz=>(hch _ z).2.1 rfl) ho I.free
 ·obtain⟨v,o,ho,hd⟩:=I.cell x c e;exact free c o (λz=>(hch c z).2.2.1 x c e rfl) ho (I.freeC x c e)
 ·obtain⟨e,n,ne,nf,d⟩:=I.pin p hp;have nch:p.1∉ch:=λz=>(hch p.1 z).2.2.2 p hp rfl
  exact⟨keep p.1 p.2 ne nf nch e n,free p.1 p.2 nch e n,ne,nf,d⟩
theorem AW.un(I:AW X ad σ H s)(u:Un X.fs [] H H' s.heap h')(hok:Ea X.prog X.w H' h'):AW X ad σ H' {s with heap:=h',toks:=t'}:=by
 obtain⟨m,⟨o,es,ep,ho,r⟩,_⟩:=id I.loc;obtain⟨sl,hL⟩:=u.any ho I.free (by simp)
 exact I.step (g':=s.gens) (d':=s.drawn) (ch:=[]) (λ_ z=>nomatch z) (λb o _ hb _ e n=>u.keep b o e n hb (by simp)) (λb o _ hb _ e n=>u.slot b o e n hb (by simp)) (λb o _ e n=>u.free b o e n (by simp)) (λb o _ e=>u.there b o e (by simp)) u.tups u.frzs u.tbls (λm' hm=>by obtain⟨o',es',ep',ho',r'⟩:=hm;rw[ho]at ho';cases ho';exact⟨_,es',ep',hL,r'⟩) hok I.bare
theorem AW.call{g':Array GenState}{d':Drawn}{ch:List qR}(I:AW X ad σ H s)(u:Un (KB X.stack) ch H H' s.heap h')(hok:Ea X.prog X.w H' h')(hg:AllBare g')
  (hch:∀b∈ch,(b∈X.ex\/X.s₀.heap.objs.size<=b)/\b≠X.env.locals/\(∀x c,X.env.cells.lookup x=some c->c≠b)/\∀p∈X.pn++ad,p.1≠b):
  AW X ad σ H' {s with heap:=h',gens:=g',drawn:=d',toks:=t'}:=by
 obtain⟨m,⟨o,es,ep,ho,r⟩,_⟩:=id I.loc;obtain⟨sl,hL⟩:=u.any ho I.free λz=>(hch _ z).2.1 rfl
 exact I.step (ch:=ch) hch (λb o hL hb hc e n=>u.keep b o e n (λz=>(aw.mp (I.stkSub b z)).elim hL hb) hc) (λb o _ _ hc e n=>u.any e n hc) (λb o hc e n=>u.free b o e n hc) (λb o hc e=>u.there b o e hc) u.tups u.frzs u.tbls (λm' hm=>by obtain⟨o',es',ep',ho',r'⟩:=hm;rw[ho]at ho';cases ho';exact⟨_,es',ep',hL,r'⟩) hok hg
theorem AW.turned(I:AW X ad σ H s)(k:∀b o,b≠it->s.heap.get? b=some o->h'.get? b=some o)(hn:H it=none)(hL:it≠X.env.locals)
  (h1:it∈X.ex\/X.s₀.heap.objs.size<=it) (h2:∀x c,X.env.cells.lookup x=some c->c≠it) (h3:∀p∈X.pn++ad,p.1≠it):AW X ad σ H {s with heap:=h',toks:=t'}:=by
 have nit:∀b u,H b=some u->b≠it:=λb u e z=>by rw[z,hn]at e;cases e
 refine I.step (g':=s.gens) (d':=s.drawn) (ch:=[it]) (λb hb=>?_) (λb o _ _ hc e _=>k b o (λz=>hc (by simp[z])) e) (λb o _ _ hc e _=>⟨o.slots,k b o (λz=>hc (by simp[z])) e⟩) (λ_ _ _ _ n=>n)
  (λb o hc e=>⟨o,k b o (λz=>hc (by simp[z])) e⟩) (λ_ _ e=>e) (λ_ _ _ e=>e) (λb ps e=>⟨#[],by rw[e];simp⟩) (λm hm=>?_) (λb u e=>?_) I.bare
 ·have e:b=it:=by simpa using hb
  subst e;exact⟨h1,hL,h2,h3⟩
 ·obtain⟨o,es,ep,ho,r⟩:=hm;exact⟨o,es,ep,k _ o (Ne.symm hL) ho,r⟩
 ·refine (I.hok b u e).stay (λc v hc q=>k c v ?_ q) (λ_ q=>q) λ_ _ q=>q
  rcases hc with z|z
  ·rw[z];exact nit b u e
  ·exact nit c _ z
theorem AW.tok(I:AW X ad σ H s)(t:Nat):AW X ad σ H {s with toks:=t}:=I.un (h':=s.heap) (t':=t) Un.refl I.hok
theorem AW.kept(I:AW X ad σ H s)(k:∀b u,s.heap.get? b=some u->h'.get? b=some u):AW X ad σ H {s with heap:=h',toks:=t'}:=I.un (Un.kept k) (I.hok.kept k)
theorem AW.laid(I:AW X ad σ H s)(k:∀b u,s.heap.get? b=some u->h'.get? b=some u)(hp:s.heap.objs.size<=a)(new:Ap X.prog X.w (AV H a o) h' a o):
  AW X ad σ (AV H a o) {s with heap:=h',toks:=t'}:=I.un (Un.laid k hp (I.hok.fresh hp)) (I.hok.laid k hp new)
theorem AW.write{x e:qR}(I:AW X ad σ H s)(mu:Xg (H x))(he:e=x\/H e=some (.own x))(k:∀b u,b≠e->s.heap.get? b=some u->h'.get? b=some u)(heo:∃u,h'.get? e=some u)
  (new:Ap X.prog X.w (AV H x o) h' x o):AW X ad σ (AV H x o) {s with heap:=h',toks:=t'}:=I.un (Un.write mu he k heo) (I.hok.write mu he k heo new)
theorem AW.pins_of{pins':List (qR×Obj)}(I:AW X ad σ H s)(h:∀p∈pins',s.heap.get? p.1=some p.2/\H p.1=none/\p.1≠X.env.locals/\p.1∉X.fs/\∀v,p.2.data≠.cell v):AW X pins' σ H s:=
 ⟨I.ok,I.os,I.bare,I.base,I.loc,I.cell,I.free,I.freeC,λp hp=>(aR.mp hp).elim (λz=>I.pin p (dE _ z)) (h p),I.hok,I.len⟩
theorem KL{N:List Str}(hN:N.Nodup){i:Nat}(a:N[i]?=some x)(b:N[j]?=some x):i=j:=by obtain⟨h1,e1⟩:=aN.mp a;obtain⟨h2,e2⟩:=aN.mp b;exact (dP hN).mp (e1.trans e2.symm)
theorem Iu{M:Model}{A:Around}{E:qQ->qS->Prop}{i:Nat}{v:V}{Q:Unit->qS->Prop}(I:AW X ad σ H s)(hN:X.N.Nodup)(hi:X.N[i]?=some x)(hx:UX X.env.scope x)(r:A8 v u)
  (h:∀s',AW X ad (σ.set i (some v)) H s'->(∃a,Heap.SameBut a s.heap s'.heap/\(a=X.env.locals\/X.env.cells.lookup x=some a))->Q () s') (hf:X.fn x=true\/X.env.scope.names.lookup x=some .local:=by first|exact .inl rfl|exact .inr rfl|assumption):wpAny M A (storeName X.env x u) Q E s:=by
 obtain⟨m,hn,hl⟩:=id I.loc;have hcls:(X.env.scope.kind==.class||(X.env.scope.kind==.module&&X.env.locals != X.env.globals))=false:=by rw[I.ok.kind];rfl
 have hiσ:i<σ.length:=by rw[I.len];exact (aN.mp hi).1
 have cne:=I.cne
 have tracked:∀{a:qR} {h':Heap},(∃o,s.heap.get? a=some o/\H a=none)->Heap.SameBut a s.heap h'->Ea X.prog X.w H h':=λ{a h'} ha hs b ob e=>by
  obtain⟨_,_,hfree⟩:=ha;refine (I.hok b ob e).stay (λc w' hc q=>(hs.2 c ?_).trans q) (λ_ q=>q) λ_ _ q=>q
  rintro rfl;rcases hc with rfl|hc
  ·rw[hfree]at e;cases e
  ·rw[hfree]at hc;cases hc
 rcases hx with hk|hk
 ·refine wpAny_storeName_local hk hn (λh' hn' hs=>?_) hcls;rcases id hn with⟨oL,_,_,hoL,_⟩;refine h _ ⟨I.ok,I.os,I.bare,⟨λb o e n hb hx=>?_,λb o e n hb hx=>?_,I.base.free,λb o e hx=>?_,I.base.tups,I.base.frzs,I.base.tbls⟩,⟨_,hn',λj y v' e1 e2 e3=>?_⟩,λy c e=>?_,I.free,I.freeC,λp hp=>?_,tracked ⟨oL,hoL,I.free⟩ hs,by simpa using I.len⟩ ⟨_,hs,.inl rfl⟩
  ·exact (hs.2 b (bF (ag (aY e) I.ok.above))).trans (I.base.keep b o e n hb hx)
  ·obtain⟨sl,e1⟩:=I.base.slot b o e n hb hx;exact⟨sl,(hs.2 b (bF (ag (aY e) I.ok.above))).trans e1⟩
  ·obtain⟨o',e1⟩:=I.base.there b o e hx;exact⟨o',(hs.2 b (bF (ag (aY e) I.ok.above))).trans e1⟩
  ·by_cases hj:j=i
   ·subst hj;rw[hi]at e1;cases e1;rw[List.getElem?_set_self hiσ]at e2;cases e2;exact⟨u,r,.inl ⟨hk,by simp⟩⟩
   ·rw[List.getElem?_set_ne (Ne.symm hj)]at e2;obtain⟨u',r',q⟩:=hl j y v' e1 e2 e3;refine⟨u',r',?_⟩;rcases q with⟨k,e⟩|⟨k,c,e,z⟩
    ·refine .inl ⟨k,?_⟩;have:y≠x:=λe=>hj (KL hN e1 (e▸hi))
     simp[this,e]
    ·exact .inr ⟨k,c,e,z.sameBut hs (cne y c e)⟩
  ·obtain⟨w',z⟩:=I.cell y c e;exact⟨w',z.sameBut hs (cne y c e)⟩
  ·rcases I.pin p hp with⟨e,n,ne,nf,d⟩;exact⟨(hs.2 p.1 ne).trans e,n,ne,nf,d⟩
 ·have hfn:X.fn x=true:=by
   rcases hf with z|z
   ·exact z
   ·rw[z]at hk;cases hk
  obtain⟨c,hc⟩:=I.ok.has x (.inl hk);obtain⟨w',z⟩:=I.cell x c hc;refine wpAny_storeName_cell I.ok.kind hk hc z (λh' hc' hs=>?_);obtain⟨oc,hoc,hocd⟩:=id z;refine h {s with heap:=h'} ⟨I.ok,I.os,I.bare,⟨λb o e n hb hx=>?_,λb o e n hb hx=>?_,I.base.free,λb o e hx=>?_,I.base.tups,I.base.frzs,I.base.tbls⟩,⟨m,hn.sameBut hs (Ne.symm (cne x c hc)),λj y v' e1 e2 e3=>?_⟩,λy c' e=>?_,I.free,I.freeC,λp hp=>?_,tracked ⟨oc,hoc,I.freeC x c hc⟩ hs,by simpa using I.len⟩ ⟨c,hs,.inr hc⟩
  ·exact (hs.2 b (bF (ag (aY e) (I.ok.cab x c hfn hc)))).trans (I.base.keep b o e n hb hx)
  ·obtain⟨sl,e1⟩:=I.base.slot b o e n hb hx;exact⟨sl,(hs.2 b (bF (ag (aY e) (I.ok.cab x c hfn hc)))).trans e1⟩
  ·obtain⟨o',e1⟩:=I.base.there b o e hx;exact⟨o',(hs.2 b (bF (ag (aY e) (I.ok.cab x c hfn hc)))).trans e1⟩
  ·by_cases hj:j=i
   ·subst hj;rw[hi]at e1;cases e1;rw[List.getElem?_set_self hiσ]at e2;cases e2;exact⟨u,r,.inr ⟨.inl hk,c,hc,hc'⟩⟩
   ·rw[List.getElem?_set_ne (Ne.symm hj)]at e2;obtain⟨u',r',q⟩:=hl j y v' e1 e2 e3;refine⟨u',r',?_⟩;rcases q with q|⟨k,c',e,z'⟩
    ·exact .inl q
    ·refine .inr ⟨k,c',e,z'.sameBut hs ?_⟩;rintro rfl;exact hj (KL hN e1 (I.ok.inj _ _ _ e hc▸hi))
  ·by_cases hcc:c'=c
   ·subst hcc;exact⟨_,hc'⟩
   ·obtain⟨w2,z2⟩:=I.cell y c' e;exact⟨w2,z2.sameBut hs hcc⟩
  ·rcases I.pin p hp with⟨e,n,ne,nf,d⟩;refine⟨(hs.2 p.1 ?_).trans e,n,ne,nf,d⟩;intro q;rw[q,hoc]at e;have q':oc=p.2:=Option.some.inj e;exact d w' (by rw[<-q'];exact hocd)
theorem KM{M:Model}{A:Around}{E:qQ->qS->Prop}{i:Nat}{v:V}{Q:Unit->qS->Prop}(I:AW X ad σ H s)(hN:X.N.Nodup)(hi:X.N[i]?=some x)(hx:UX X.env.scope x)(r:A8 v u)
  (h:∀s',AW X ad (σ.set i (some v)) H s'->Q () s') (hf:X.fn x=true\/X.env.scope.names.lookup x=some .local:=by first|exact .inl rfl|exact .inr rfl|assumption):wpAny M A (storeName X.env x u) Q E s:=
 Iu I hN hi hx r (λs' I' _=>h s' I') hf
theorem AW.call'{ch:List qR}(I:AW X ad σ H s)(ho:s'.os=s.os)(u:Un (KB X.stack) ch H H' s.heap s'.heap)(hok:Ea X.prog X.w H' s'.heap)(hg:AllBare s'.gens)
  (hch:∀b∈ch,(b∈X.ex\/X.s₀.heap.objs.size<=b)/\b≠X.env.locals/\(∀x c,X.env.cells.lookup x=some c->c≠b)/\∀p∈X.pn++ad,p.1≠b):AW X ad σ H' s':=by
 obtain⟨h',g',d',t',o'⟩:=s';have e:o'=s.os:=ho;subst e;exact I.call (g':=g') (t':=t') (d':=d') u hok hg hch
end
abbrev XK:=qQ->Option qR->Hp->Prop
abbrev St:=List (Option V)
abbrev VK:=V->Hp->Prop
abbrev TE:=St->Hp->VK->Prop
abbrev TT:=St->Hp->(Bool->Hp->Prop)->Prop
abbrev TA:=St->Hp->(List V->Hp->Prop)->Prop
structure Fc where
 nx:St->Hp->Prop
 rt:VK
 bk:St->Hp->Prop:=λ_ _=>False
 ct:St->Hp->Prop:=λ_ _=>False
abbrev TS:=Fc->St->Hp->Prop
def EP(X:Cx)(ad:List (qR×Obj))(σ:St)(Q:VK)(u:qQ)(s':qS):Prop:=∃v H',AW X ad σ H' s'/\A8 v u/\Q v H'
def TP(X:Cx)(ad:List (qR×Obj))(σ:St)(Q:Bool->Hp->Prop)(b:Bool)(s':qS):Prop:=∃H',AW X ad σ H' s'/\Q b H'
def AP(X:Cx)(ad:List (qR×Obj))(σ:St)(Q:List V->Hp->Prop)(us:List qQ)(s':qS):Prop:=∃vs H',AW X ad σ H' s'/\Au vs us/\Q vs H'
def SP(X:Cx)(ad:List (qR×Obj))(D:Fc)(f:Flow)(s':qS):Prop:=
 match f with
 |.next=>∃σ' H',AW X ad σ' H' s'/\D.nx σ' H'
 |.brk=>∃σ' H',AW X ad σ' H' s'/\D.bk σ' H'
 |.cont=>∃σ' H',AW X ad σ' H' s'/\D.ct σ' H'
 |.ret u=>∃v σ' H',AW X ad σ' H' s'/\A8 v u/\D.rt v H'
def PE(X:Cx)(e:Expr)(t:TE):Prop:=
 ∀(ad:List (qR×Obj)) (s:qS) (σ:St) (H:Hp) (Q:VK),AW X ad σ H s->t σ H Q->wpAny (model X.prog X.w) X.A (eval e X.env) (EP X ad σ Q) X.xe s
def PT(X:Cx)(e:Expr)(t:TT):Prop:=
 ∀(ad:List (qR×Obj)) (s:qS) (σ:St) (H:Hp) (Q:Bool->Hp->Prop),AW X ad σ H s->t σ H Q->wpAny (model X.prog X.w) X.A (isTrue e X.env (eval e X.env)) (TP X ad σ Q) X.xe s
def PW(X:Cx)(e:Expr)(t:TT):Prop:=
 ∀(whole:Sem qQ) (ad:List (qR×Obj)) (s:qS) (σ:St) (H:Hp) (Q:Bool->Hp->Prop),AW X ad σ H s->t σ H Q->wpAny (model X.prog X.w) X.A (isTrue e X.env whole) (TP X ad σ Q) X.xe s
variable{X:Cx}
theorem PW.pt{e:Expr}{t:TT}(h:PW X e t):PT X e t:=h _
def PA(X:Cx)(es:List Expr)(t:TA):Prop:=
 ∀(pos:Pos) (ad:List (qR×Obj)) (s:qS) (σ:St) (H:Hp) (Q:List V->Hp->Prop),AW X ad σ H s->t σ H Q->wpAny (model X.prog X.w) X.A (spliced (backTo pos (starEach es X.env))) (AP X ad σ Q) X.xe s
def PS(X:Cx)(st:Stmt)(t:TS):Prop:=
 ∀(ad:List (qR×Obj)) (s:qS) (σ:St) (H:Hp) (D:Fc),AW X ad σ H s->t D σ H->wpAny (model X.prog X.w) X.A (exec st X.env) (SP X ad D) X.xe s
def Ic(X:Cx)(st:List Stmt)(t:TS):Prop:=
 ∀(ad:List (qR×Obj)) (s:qS) (σ:St) (H:Hp) (D:Fc),AW X ad σ H s->t D σ H->wpAny (model X.prog X.w) X.A (execs st X.env) (SP X ad D) X.xe s
variable{E:qQ->qS->Prop}
theorem BS{t:Sem α}{Q Q':α->qS->Prop}{M:Model}{A:Around}{s:qS}(h:wpAny M A t Q E s)(hQ:∀a s,Q a s->Q' a s):wpAny M A t Q' E s:=qM h hQ λ_ _ x=>x
variable{Q:qQ->qS->Prop}{ad:List (qR×Obj)}{σ:St}{op:CmpOp}
section
def Vc(i:Nat):TE:=λσ H Q=>∃v,σ[i]?=some (some v)/\Q v H
def tC(v:V):TE:=λ_ H Q=>Q v H
theorem Vd{i:Nat}{pos:Pos}(hN:X.N[i]?=some x)(hv:ZJ X.env.scope x)(hd:(x==("__debug__":Str))=false:=by decide)(hcd:(x==("__classdict__":Str))=false:=by decide):PE X (.Name x pos) (Vc i):=by
 intro ad s σ H Q I h;obtain⟨v,e,h⟩:=h;obtain⟨m,hn,hl⟩:=I.loc;obtain⟨u,r,l⟩:=hl i x v hN e hv;have fin:EP X ad σ Q u s:=⟨v,H,I,r,h⟩;rcases l with⟨hk,hm⟩|⟨hk,c,hc,hcell⟩
 ·exact wpAny_Name (wpAny_loadName_local I.ok.kind hk hn hm fin) hd
 ·rcases hk with hk|hk
  ·exact wpAny_Name (wpAny_loadName_cell I.ok.kind hk hc hcell fin) hd
  ·exact wpAny_Name (wpAny_loadName_free I.ok.kind hk hc hcell fin hcd) hd
theorem AD{i j pos}:PE X (.Constant (.int i) j pos) (tC (.int i)):=λ_ _ _ H _ I h=>wpAny_Constant_int ⟨.int i,H,I.tok _,⟨_,rfl⟩,h⟩
theorem C9{b j pos}:PE X (.Constant (.bool b) j pos) (tC (.bl b)):=λ_ _ _ H _ I h=>Constant_bool ⟨.bl b,H,I,rfl,h⟩
theorem Cn{j pos}:PE X (.Constant .none j pos) (tC .non):=λ_ _ _ H _ I h=>Constant_none ⟨.non,H,I,rfl,h⟩
def Gl(X:Cx)(x:Str):Prop:=X.env.kindOf x=some .globalImplicit
theorem M5{E:qQ->qS->Prop}{s:qS}{pos:Pos}(I:AW X ad σ H s)(hg:Gl X x)(hm:X.mg x=some u)(h:Q u s)
  (hd:(x==("__debug__":Str))=false:=by decide):wpAny (model X.prog X.w) X.A (eval (.Name x pos) X.env) Q E s:=
 Calls.Name_function_global I.ok.kind hg (Calls.loadGlobal_global (by rw[I.ok.glob];exact I.mod.glob.keeps I.bk) hm h) hd
theorem Co{E:qQ->qS->Prop}{s:qS}{pos:Pos}(I:AW X ad σ H s)(hg:Gl X x)(hm:X.mg x=none)(hv:bootBuiltins x=some u)(h:Q u s)
  (hn:x≠"__name__":=by decide) (hd:(x==("__debug__":Str))=false:=by decide):wpAny (model X.prog X.w) X.A (eval (.Name x pos) X.env) Q E s:=by
 obtain⟨mb,h1,h2⟩:=I.mod.blt;exact Calls.Name_function_global I.ok.kind hg (Calls.loadGlobal_builtin (by rw[I.ok.glob];exact I.mod.glob.keeps I.bk) hm (by rw[I.ok.blt];exact h1.keeps I.bk) ((h2 x hn).trans hv) h) hd
theorem M6{v:V}{pos:Pos}(hg:Gl X x)(hm:X.mg x=some u)(r:A8 v u)(hd:(x==("__debug__":Str))=false:=by decide):PE X (.Name x pos) (tC v):=
 λ_ _ _ H _ I h=>M5 I hg hm ⟨v,H,I,r,h⟩ hd
theorem TD{v:V}{pos:Pos}(hg:Gl X x)(hm:X.mg x=none)(hv:bootBuiltins x=some u)(r:A8 v u)(hn:x≠"__name__":=by decide)(hd:(x==("__debug__":Str))=false:=by decide):PE X (.Name x pos) (tC v):=
 λ_ _ _ H _ I h=>Co I hg hm hv ⟨v,H,I,r,h⟩ hn hd
variable{a b:Expr}{ta tb:TE}{pos:Pos}
def PC(X:Cx)(op:CmpOp)(a b:Expr)(t:TE):Prop:=
 ∀(ad:List (qR×Obj)) (s:qS) (σ:St) (H:Hp) (Q:VK),AW X ad σ H s->t σ H Q ->
  wpAny (model X.prog X.w) X.A (eval a X.env) (λv s₁=>wpAny (model X.prog X.w) X.A (eval b X.env) (λu s₂=>wpAny (model X.prog X.w) X.A (compareOp op v u) (EP X ad σ Q) X.xe s₂) X.xe s₁) X.xe s
def tB(t:TE):TT:=λσ H Q=>t σ H λx H1=>∃c,x=.bl c/\Q c H1
theorem Ve{t:TE}(h:PC X op a b t)(h1:behindInMarks op b=false:=by first|exact nobehind _ (by decide) (by decide)|rfl):PE X (.Compare a [op] [b] pos) t:=λad s σ H Q I hw=>wpAny_Compare1 (h ad s σ H Q I hw) h1
theorem Pr{t:TE}(h:PC X op a b t)(h1:behindInMarks op b=false:=by first|exact nobehind _ (by decide) (by decide)|rfl):PT X (.Compare a [op] [b] pos) (tB t):=by intro ad s σ H Q I hw;refine wpAny_isTrue_Compare1 (BS (h ad s σ H _ I hw) λv s1 h1=>BS h1 λu s2 h2=>BS h2 λc s3 z9=>?_) h1;obtain⟨x,H1,I1,r1,q1⟩:=z9;obtain⟨d,rfl,q⟩:=q1;cases r1;exact wpAny_truthy_bool ⟨H1,I1,q⟩
theorem Bg{e:Expr}{t:TE}(h:PE X e t)(he:∀whole,isTrue e X.env whole=(do let v <-whole;standAt e.pos;holding [v] (truthy v)):=by intro _;rfl):PT X e (tB t):=by intro ad s σ H Q I hw;refine isTrue_plain (BS (h ad s σ H _ I hw) λv s1 z9=>?_) (he _);obtain⟨x,H1,I1,r1,q1⟩:=z9;obtain⟨d,rfl,q⟩:=q1;cases r1;exact wpAny_truthy_bool ⟨H1,I1,q⟩
variable{tA tB':TT}{rest:List Expr}
def Xh(t u:TT):TT:=λσ H Q=>t σ H λc H1=>if c=true then u σ H1 Q else Q false H1
def Zy(t u:TT):TT:=λσ H Q=>t σ H λc H1=>if c=true then Q true H1 else u σ H1 Q
def Xi(t:TT):TT:=λσ H Q=>t σ H λc H1=>Q (!c) H1
theorem EB(ha:PT X a tA):PW X (.BoolOp .And [a] pos) tA:=by
 intro wh ad s σ H Q I h;refine isTrue_and (BS (ha ad s σ H Q I h) λc s1 e=>?_);cases c with
 |true=>exact isTrue_and_nil e
 |false=>exact e
theorem CN(ha:PT X a tA):PW X (.BoolOp .Or [a] pos) tA:=by
 intro wh ad s σ H Q I h;refine isTrue_or (BS (ha ad s σ H Q I h) λc s1 e=>?_);cases c with
 |false=>exact isTrue_or_nil e
 |true=>exact e
theorem FK(ha:PT X a tA)(hb:PW X (.BoolOp .And (b::rest) pos) tB'):PW X (.BoolOp .And (a::b::rest) pos) (Xh tA tB'):=by
 intro wh ad s σ H Q I h;refine isTrue_and (BS (ha ad s σ H _ I h) λc s1 z9=>?_);obtain⟨H1,I1,q1⟩:=z9;cases c with
 |true=>exact hb wh ad s1 σ H1 Q I1 q1
 |false=>exact⟨H1,I1,q1⟩
theorem CD(ha:PT X a tA)(hb:PW X (.BoolOp .Or (b::rest) pos) tB'):PW X (.BoolOp .Or (a::b::rest) pos) (Zy tA tB'):=by
 intro wh ad s σ H Q I h;refine isTrue_or (BS (ha ad s σ H _ I h) λc s1 z9=>?_);obtain⟨H1,I1,q1⟩:=z9;cases c with
 |true=>exact⟨H1,I1,q1⟩
 |false=>exact hb wh ad s1 σ H1 Q I1 q1
theorem Bz(ha:PT X a tA):PT X (.UnaryOp .Not a pos) (Xi tA):=by intro ad s σ H Q I h;exact isTrue_not (ha ad s σ H (λc H1=>Q (!c) H1) I h)
def UY(ta tb:TE):TE:=λσ H Q=>ta σ H λx H1=>∃c,x=.bl c/\if c=true then tb σ H1 Q else Q (.bl false) H1
def Xj(ta tb:TE):TE:=λσ H Q=>ta σ H λx H1=>∃c,x=.bl c/\if c=true then Q (.bl true) H1 else tb σ H1 Q
def UZ(ta:TE):TE:=λσ H Q=>ta σ H λx H1=>∃c,x=.bl c/\Q (.bl (!c)) H1
theorem F6{op}{t:TE}(h:PE X a t):PE X (.BoolOp op [a] pos) t:=λad s σ H Q I hw=>BoolOp_one (h ad s σ H Q I hw)
theorem F7(ha:PE X a ta)(hb:PE X (.BoolOp .And (b::rest) pos) tb):PE X (.BoolOp .And (a::b::rest) pos) (UY ta tb):=by
 intro ad s σ H Q I h;refine BoolOp_and (BS (ha ad s σ H _ I h) λv s1 z9=>?_);obtain⟨x,H1,I1,r1,q1⟩:=z9;obtain⟨c,rfl,q1⟩:=q1;cases r1;refine wpAny_truthy_bool ?_;cases c with
 |true=>exact hb ad s1 σ H1 Q I1 q1
 |false=>exact⟨.bl false,H1,I1,rfl,q1⟩
theorem Xk(ha:PE X a ta)(hb:PE X (.BoolOp .Or (b::rest) pos) tb):PE X (.BoolOp .Or (a::b::rest) pos) (Xj ta tb):=by
 intro ad s σ H Q I h;refine BoolOp_or (BS (ha ad s σ H _ I h) λv s1 z9=>?_);obtain⟨x,H1,I1,r1,q1⟩:=z9;obtain⟨c,rfl,q1⟩:=q1;cases r1;refine wpAny_truthy_bool ?_;cases c with
 |false=>exact hb ad s1 σ H1 Q I1 q1
 |true=>exact⟨.bl true,H1,I1,rfl,q1⟩
theorem Ps(ha:PE X a ta):PE X (.UnaryOp .Not a pos) (UZ ta):=by intro ad s σ H Q I h;refine UnaryOp_ (BS (ha ad s σ H _ I h) λv s1 z9=>?_);obtain⟨x,H1,I1,r1,q1⟩:=z9;obtain⟨c,rfl,q1⟩:=q1;cases r1;exact not_of (wpAny_truthy_bool ⟨.bl (!c),H1,I1,rfl,q1⟩)
end
def Af(K:qV)(H:Hp)(a:qR)(xs:List V):Prop:=
 Rd H a (.lst xs) \/
  ∃(o:Obj) (its:Array qQ) (n:Nat),K.lookup a=some o/\o.cls=.type "list"/\o.dict=none/\o.data=.seq its n/\its.size<=sizeLine/\Au xs its.toList
def Aa(K:qV)(H:Hp)(a:qR)(xs:List V):Prop:=
 Rd H a (.tup xs) \/
  ∃(o:Obj) (its:Array qQ) (n:Nat),K.lookup a=some o/\o.cls=.type "tuple"/\o.data=.seq its n/\its.size<=sizeLine/\Au xs its.toList
noncomputable def Vf:qQ->Option V
 |.none=>some .non
 |.bool b=>some (.bl b)
 |.int i _=>some (.int i)
 |.str x _=>some (.str x)
 |.bytes b _=>some (.byt b)
 |.float b _=>some (.flt b)
 |.ref a=>some (.ref a)
 |.type n=>some (.ty n)
 |_=>none
theorem A8.abs{x:V}(r:A8 x u):Vf u=some x:=by
 cases x with
 |non=>cases r;rfl
 |bl _=>cases r;rfl
 |int _=>obtain⟨t,rfl⟩:=r;rfl
 |str _=>obtain⟨t,rfl⟩:=r;rfl
 |byt _=>obtain⟨t,rfl⟩:=r;rfl
 |flt _=>obtain⟨t,rfl⟩:=r;rfl
 |ref _=>cases r;rfl
 |ty _=>cases r;rfl
theorem A8.inj{x y:V}(r:A8 x u)(q:A8 y u):x=y:=Option.some.inj (r.abs.symm.trans q.abs)
theorem Au.inj:∀{xs ys:List V} {us:List qQ},Au xs us->Au ys us->xs=ys:=by
 intro _ ys _ h
 induction h generalizing ys with
 |nil=>intro g;cases g;rfl
 |cons r _ ih =>
  intro g;cases g with
  |cons r' t'=>rw[r.inj r',ih t']
section
variable{s:qS}{ys:List V}
theorem Af.of{K:qV}(h:H a=some (.lst xs)):Af K H a xs:=.inl (.inl h)
theorem Aa.of{K:qV}(h:H a=some (.tup xs)):Aa K H a xs:=.inl (.inl h)
theorem AW.list(I:AW X ad σ H s)(h:Af X.K H a xs):∃its:List qQ,Au xs its/\PlainL s.heap a its.toArray/\xs.length<=sizeLine:=by
 rcases h with h|⟨o,its,n,hk,hc,hd,hs,hz,r⟩
 ·obtain⟨z,its,n,r,e⟩:=h.ok I.hok;exact⟨its,r,⟨_,n,e,rfl,rfl,rfl⟩,z⟩
 ·refine⟨its.toList,r,⟨o,n,I.kIn a o hk,hc,hd,by simpa using hs⟩,?_⟩;have e:=r.length;simp only[Array.length_toList]at e;lia
theorem AW.tuple(I:AW X ad σ H s)(h:Aa X.K H a xs):∃its:List qQ,Au xs its/\IsTup s.heap a its.toArray/\xs.length<=sizeLine:=by
 rcases h with h|⟨o,its,n,hk,hc,hs,hz,r⟩
 ·obtain⟨z,its,r,p⟩:=h.ok I.hok;exact⟨its,r,p,z⟩
 ·refine⟨its.toList,r,⟨o,I.kIn a o hk,hc,n,by simpa using hs⟩,?_⟩;have e:=r.length;simp only[Array.length_toList]at e;lia
theorem AW.list_inj(I:AW X ad σ H s)(h:Af X.K H a xs)(h':Af X.K H a ys):xs=ys:=by
 obtain⟨its,r,⟨o,n,e,_,_,d⟩,_⟩:=I.list h;obtain⟨its',r',⟨o',n',e',_,_,d'⟩,_⟩:=I.list h';rw[e]at e';cases e';rw[d]at d'
 injection d' with d1 _
 have:its=its':=by simpa using qP Array.toList d1
 subst this;exact r.inj r'
theorem AW.tuple_inj(I:AW X ad σ H s)(h:Aa X.K H a xs)(h':Aa X.K H a ys):xs=ys:=by
 obtain⟨its,r,⟨o,e,_,n,d⟩,_⟩:=I.tuple h;obtain⟨its',r',⟨o',e',_,n',d'⟩,_⟩:=I.tuple h';rw[e]at e';cases e';rw[d]at d'
 injection d' with d1 _
 have:its=its':=by simpa using qP Array.toList d1
 subst this;exact r.inj r'
end
abbrev Cx.wish(X:Cx)(E:qQ->qS->Prop):Cx:={X with xe:=E}
abbrev Cx.nox(X:Cx):Cx:=X.wish λ_ _=>False
theorem Cx.Ok.wish(ok:X.Ok)(E:qQ->qS->Prop):(X.wish E).Ok:=
 ⟨ok.mod,ok.kind,ok.glob,ok.blt,ok.above,ok.inj,ok.has,ok.cab,ok.hd,ok.frames,ok.stk,ok.exf,ok.bs,ok.bsz,ok.noex,ok.exfs,ok.funs,ok.frf⟩
theorem Cx.Ok.unwish(ok:(X.wish E).Ok):X.Ok:=
 ⟨ok.mod,ok.kind,ok.glob,ok.blt,ok.above,ok.inj,ok.has,ok.cab,ok.hd,ok.frames,ok.stk,ok.exf,ok.bs,ok.bsz,ok.noex,ok.exfs,ok.funs,ok.frf⟩
variable{D:Fc}
section
variable{s:qS}
theorem AW.wish(I:AW X ad σ H s)(E:qQ->qS->Prop):AW (X.wish E) ad σ H s:=⟨I.ok.wish E,I.os,I.bare,I.base,I.loc,I.cell,I.free,I.freeC,I.pin,I.hok,I.len⟩
theorem AW.unwish(I:AW (X.wish E) ad σ H s):AW X ad σ H s:=⟨I.ok.unwish,I.os,I.bare,I.base,I.loc,I.cell,I.free,I.freeC,I.pin,I.hok,I.len⟩
theorem SP.unwish{f:Flow}(h:SP (X.wish E) ad D f s'):SP X ad D f s':=by
 cases f with
 |next=>obtain⟨σ',H',I,q⟩:=h;exact⟨σ',H',I.unwish,q⟩
 |brk=>obtain⟨σ',H',I,q⟩:=h;exact⟨σ',H',I.unwish,q⟩
 |cont=>obtain⟨σ',H',I,q⟩:=h;exact⟨σ',H',I.unwish,q⟩
 |ret u=>obtain⟨v,σ',H',I,r,q⟩:=h;exact⟨v,σ',H',I.unwish,r,q⟩
theorem Ic.nox{st:List Stmt}{t:TS}(h:Ic X.nox st t):Ic X st t:=λad s σ H D I hw =>
 qM (h ad s σ H D (I.wish _) hw) (λ_ _ q=>q.unwish) λ_ _ z=>False.elim z
end
variable{tc:TT}
section
variable{st:Stmt}{rest:List Stmt}{t u:TS}{e:Expr}{te:TE}{pos:Pos}
def Pu:TS:=λD σ H=>D.nx σ H
def Lr(t u:TS):TS:=λD σ H=>t {D with nx:=u D} σ H
theorem AT:Ic X [] Pu:=λ_ _ σ H _ I h=>wpAny_execs_nil ⟨σ,H,I,h⟩
theorem AB(h1:PS X st t)(h2:Ic X rest u):Ic X (st::rest) (Lr t u):=by
 intro ad s σ H D I h;refine wpAny_execs_cons (BS (h1 ad s σ H {D with nx:=u D} I h) λf s1 q=>?_);cases f with
 |next =>
  rcases q with⟨σ',H',I',q⟩;exact h2 ad s1 σ' H' D I' q
 |ret v=>exact q
 |brk=>exact q
 |cont=>exact q
theorem AF(h1:PS X st t):Ic X [st] t:=by
 intro ad s σ H D I h;refine wpAny_execs_cons (BS (h1 ad s σ H D I h) λf s1 q=>?_);cases f with
 |next=>exact wpAny_execs_nil q
 |ret v=>exact q
 |brk=>exact q
 |cont=>exact q
theorem AW.quiet{s:qS}(I:AW X ad σ H s):interactive X.env=false:=by simp[interactive,I.ok.kind]
def Ua(te:TE):TS:=λD σ H=>te σ H λ_ H1=>D.nx σ H1
theorem BF(he:PE X e te)(hs:swapsWith e none pos.line X.env=pure false:=by rfl):PS X (.Expr e pos) (Ua te):=by intro ad s σ H D I h;exact wpAny_Expr_any (BS (he ad s σ H _ I h) λv s1 ⟨x,H1,I1,r1,q1⟩=>⟨σ,H1,I1,q1⟩) I.quiet hs
def Xl(te:TE):TS:=λD σ H=>te σ H D.rt
theorem AN(he:PE X e te):PS X (.Return (some e) pos) (Xl te):=by intro ad s σ H D I h;exact wpAny_Return_some (BS (he ad s σ H _ I h) λv s1 ⟨x,H1,I1,r1,q1⟩=>⟨x,σ,H1,I1,r1,q1⟩)
def TF(c:TT)(t u:TS):TS:=λD σ H=>c σ H λb H1=>if b=true then t D σ H1 else u D σ H1
theorem Ak{c:Expr}{a b:List Stmt}(hc:PT X c tc)(ha:Ic X a t)(hb:Ic X b u):PS X (.If c a b pos) (TF tc t u):=by
 intro ad s σ H D I h;refine wpAny_If (BS (hc ad s σ H _ I h) λd s1 z9=>?_);obtain⟨H1,I1,q1⟩:=z9;cases d with
 |true=>exact ha ad s1 σ H1 D I1 q1
 |false=>exact hb ad s1 σ H1 D I1 q1
end
abbrev TG:=V->St->Hp->(St->Hp->Prop)->Prop
abbrev Pw:=List V->St->Hp->(St->Hp->Prop)->Prop
def PG(X:Cx)(target:Expr)(t:TG):Prop:=
 ∀(ad:List (qR×Obj)) (s:qS) (σ:St) (H:Hp) (v:V) (u:qQ) (Q:St->Hp->Prop),AW X ad σ H s->A8 v u->t v σ H Q ->
  wpAny (model X.prog X.w) X.A (assign target X.env u) (λ_ s'=>∃σ' H',AW X ad σ' H' s'/\Q σ' H') X.xe s
def Vg(X:Cx)(ts:List Expr)(t:Pw):Prop:=
 ∀(ad:List (qR×Obj)) (s:qS) (σ:St) (H:Hp) (vs:List V) (us:List qQ) (Q:St->Hp->Prop),AW X ad σ H s->Au vs us->t vs σ H Q ->
  wpAny (model X.prog X.w) X.A (assignInOrder ((assignEach ts X.env).map (·.2)) us) (λ_ s'=>∃σ' H',AW X ad σ' H' s'/\Q σ' H') X.xe s
abbrev Vh:=V->V->V->Hp->(Hp->Prop)->Prop
def Xm(X:Cx)(t:Vh):Prop:=
 ∀(ad:List (qR×Obj)) (s:qS) (σ:St) (H:Hp) (o i v:V) (ov iv u:qQ) (Q:Hp->Prop),AW X ad σ H s->A8 o ov->A8 i iv->A8 v u->t o i v H Q ->
  wpAny (model X.prog X.w) X.A (setItem ov iv u) (λ_ s'=>∃H',AW X ad σ H' s'/\Q H') X.xe s
variable{es:List Expr}{to te:TE}{tg:Expr}
section
variable{pos:Pos}
def Fd(i:Nat):TG:=λv σ H Q=>Q (σ.set i (some v)) H
theorem Gz{i:Nat}(hN:X.N.Nodup)(hi:X.N[i]?=some x)(hx:UX X.env.scope x)(hf:X.fn x=true\/X.env.scope.names.lookup x=some .local:=by first|exact .inl rfl|exact .inr rfl|assumption):PG X (.Name x pos) (Fd i):=by intro ad s σ H v u Q I r h;exact wpAny_assign_Name (KM I hN hi hx r (λs' I'=>⟨_,H,I',h⟩) hf)
def ZL:Pw:=λvs σ H Q=>vs=[]/\Q σ H
def Xn(t:TG)(u:Pw):Pw:=λvs σ H Q=>∃v r,vs=v::r/\t v σ H λσ' H'=>u r σ' H' Q
theorem Cy:Vg X [] ZL:=by intro ad s σ H vs us Q I r h;obtain⟨e,h⟩:=h;subst e;cases r;exact assignInOrder_nil ⟨σ,H,I,h⟩
theorem BH{e:Expr}{t:TG}{u:Pw}(h1:PG X e t)(h2:Vg X es u)
  (hs:(assignEach (e::es) X.env).map (·.2)=assign e X.env::(assignEach es X.env).map (·.2):=by rfl):Vg X (e::es) (Xn t u):=by
 intro ad s σ H vs us Q I r h;obtain⟨v,vr,e1,h⟩:=h;subst e1;cases r with
 |cons r rr =>
  rw[hs];refine assignInOrder_cons (BS (h1 ad s σ H _ _ _ I r h) λ_ s1 z9=>?_);obtain⟨σ1,H1,I1,q1⟩:=z9;exact h2 ad s1 σ1 H1 _ _ Q I1 rr q1
def Xo(K:qV)(n:Nat)(t:Pw):TG:=λv σ H Q=>∃a xs,v=.ref a/\Aa K H a xs/\xs.length=n/\t xs σ H Q
theorem Px{k:Nat}{t:Pw}{n:Nat}(hc:X.calm=true)(h:Vg X es t)
  (hn:(assignEach es X.env).length=n:=by rfl) (hst:(assignEach es X.env).findIdx? (·.1)=none:=by rfl):PG X (.Tuple es k pos) (Xo X.K n t):=by
 intro ad s σ H v u Q I r hw;rcases hw with⟨a,xs,e1,hq,hl,hw⟩;subst e1;cases r;rcases I.tuple hq with⟨its,rv,ht,hz⟩;refine assign_Tuple_tuple (I.ok.hd hc) ht (by simp[hn,<-hl,rv.length]) hst λh' hx=>?_;have I1:AW X ad σ H {s with heap:=h'}:=I.kept (t':=s.toks) λb o e=>hx b o (bF (aY e)) e
 exact h ad _ σ H xs _ Q I1 (by simpa using rv) hw
def ZM(to ti:TE)(t:Vh):TG:=λv σ H Q=>to σ H λo H1=>ti σ H1 λi H2=>t o i v H2 λH3=>Q σ H3
theorem Py{o i:Expr}{ti:TE}{t:Vh}(ho:PE X o to)(hi:PE X i ti)(hs:Xm X t)
  (ha:∀v,assign (.Subscript o i pos) X.env v=(do
   let ov <-holding [v] (eval o X.env)
   let iv <-holding [v,ov] (eval i X.env)
   standAt pos
   holding [v,ov,iv] (setItem ov iv v)
   release [v,ov,iv] []):=by intro _;rfl):PG X (.Subscript o i pos) (ZM to ti t):=by
 intro ad s σ H v u Q I r h;rw[ha];refine qC (qO (BS (ho ad s σ H _ I h) λov s1 z9=>?_));obtain⟨x,H1,I1,r1,q1⟩:=z9;refine qC (qO (BS (hi ad s1 σ H1 _ I1 q1) λiv s2 z9=>?_));obtain⟨y,H2,I2,r2,q2⟩:=z9;refine qC (wpAny_standAt (qC (qO (BS (hs ad s2 σ H2 x y v ov iv u _ I2 r1 r2 r q2) λ_ s3 z9=>?_))));obtain⟨H3,I3,q3⟩:=z9;exact wpAny_release ⟨σ,H3,I3,q3⟩
def Oc(te:TE)(g:TG):TS:=λD σ H=>te σ H λx H1=>g x σ H1 D.nx
theorem HJ{e:Expr}{g:TG}(he:PE X e te)(hg:PG X tg g)(hs:swapsWithSole [tg] e pos.line X.env=pure false:=by rfl)(hw:swappedStores [tg] e X.env=pure none:=by rfl)
  (h1:(assignEach [tg] X.env).map (·.2)=[assign tg X.env]:=by rfl):PS X (.Assign [tg] e pos) (Oc te g):=by
 intro ad s σ H D I h;refine wpAny_Assign_stores (BS (he ad s σ H _ I h) λv s1 z9=>?_) hs hw;obtain⟨x,H1,I1,r1,q1⟩:=z9;rw[h1];exact BS (hg ad s1 σ H1 x v _ I1 r1 q1) λ_ s2 q=>q
theorem F8{i:Nat}{e:Expr}{pos':Pos}(hN:X.N.Nodup)(hi:X.N[i]?=some x)(hx:UX X.env.scope x)(he:PE X e te)(hs:swapsWith e (some (.Name x pos')) pos.line X.env=pure false:=by rfl)(hf:X.fn x=true\/X.env.scope.names.lookup x=some .local:=by first|exact .inl rfl|exact .inr rfl|assumption):
  PS X (.Assign [.Name x pos'] e pos) (Oc te (Fd i)):=by
 intro ad s σ H D I h;refine wpAny_Assign_Name (BS (he ad s σ H _ I h) λv s1 z9=>?_) hs;obtain⟨y,H1,I1,r1,q1⟩:=z9;exact KM I1 hN hi hx r1 (λs2 I2=>⟨_,H1,I2,q1⟩) hf
end
variable{body:List Stmt}
section
variable{pos:Pos}
def Pz(c:TT)(tb:TS):TS:=λD σ H=>∃W:Nat->St->Hp->Prop,(∃m,W m σ H)/\∀m σ H,W m σ H ->
 c σ H λb H1=>if b=true then ∃N:St->Hp->Prop,(∀σ' H',N σ' H'->∃m',m'<m/\W m' σ' H')/\tb {D with nx:=N,ct:=N,bk:=D.nx} σ H1 else D.nx σ H1
theorem Ed{c:Expr}{tb:TS}(hp:PassesOwn (model X.prog X.w) X.A X.env X.xe)(hc:PT X c tc)(hb:Ic X body tb):PS X (.While c body [] pos) (Pz tc tb):=by
 intro ad s σ H D I h;rcases h with⟨W,⟨m0,w0⟩,turn⟩;refine wpAny_While (codeAny_whileLoop (λn s'=>∃σ' H',AW X ad σ' H' s'/\W n σ' H') ?_ m0 ⟨σ,H,I,w0⟩);intro n s1 hRq;rcases hRq with⟨σ1,H1,I1,w1⟩;refine wpAny_passesOwn hp (BS (hc ad s1 σ1 H1 _ I1 (turn n σ1 H1 w1)) λb s2 z9=>?_);obtain⟨H2,I2,q2⟩:=z9;cases b with
 |true =>
  obtain⟨N,hN,q2⟩:=q2;rw[qF rfl];refine wpAny_passesOwn hp (BS (hb ad s2 σ1 H2 _ I2 q2) λf s3 q3=>?_);cases f with
  |next =>
   rcases q3 with⟨σ3,H3,I3,n3⟩;obtain⟨m',hm,w3⟩:=hN σ3 H3 n3;exact⟨m',hm,σ3,H3,I3,w3⟩
  |cont =>
   rcases q3 with⟨σ3,H3,I3,n3⟩;obtain⟨m',hm,w3⟩:=hN σ3 H3 n3;exact⟨m',hm,σ3,H3,I3,w3⟩
  |brk=>exact q3
  |ret v=>exact q3
 |false =>
  rw[qE ap];exact wpAny_execs_nil ⟨σ1,H2,I2,q2⟩
end
structure It where
 go:Nat->Hp->Prop
 yld:Nat->Hp->V->Hp->Prop
 stop:Nat->Hp->Prop
def Cp(X:Cx)(ad:List (qR×Obj))(H:Hp)(b:qR):Prop:=
 H b=none/\b≠X.env.locals/\b∉X.fs/\(b∈X.ex\/X.s₀.heap.objs.size<=b)/\(∀x c,X.env.cells.lookup x=some c->c≠b)/\∀p∈X.pn++ad,p.1≠b
variable{H':Hp}
theorem AW.fpOk{s:qS}{b:qR}(I:AW X ad σ H s)(hb:s.heap.objs.size<=b)(hn:H' b=none):Cp X ad H' b:=by
 refine⟨hn,di (ag I.lt hb),I.nofs hb,.inr (bK I.sz hb),λx c e z=>?_,λp hp z=>?_⟩
 ·obtain⟨v,q⟩:=I.cell x c e;exact qG (ag q.lt (by rw[z];exact hb)) (bH _)
 ·exact qG (ag (aY (I.pin p hp).1) (by rw[z];exact hb)) (bH _)
structure HK(P:qT)(w:qU)(K:qV)(tg:Expr)(J:It)(fp:List qR)(it:qR)(tn:Nat->Heap->Prop):Prop where
 mem:it∈fp
 obj:∀i h,tn i h->∀b∈fp,∃o,h.get? b=some o/\∀v,o.data≠.cell v
 keep:∀i h h',tn i h->(∀b∈fp,∀o,h.get? b=some o->h'.get? b=some o)->tn i h'
 item:∀(X:Cx),X.prog=P->X.w=w->X.K=K->X.calm=true->∀(i:Nat) (ad:List (qR×Obj)) (s:qS) (σ:St) (H:Hp) (E:qQ->qS->Prop),AW X ad σ H s->(∀b∈fp,Cp X ad H b)->tn i s.heap->J.go i H ->
  wpAny (model P w) X.A (pyNext (.ref it)) (λr s1=>∃u,r=some u /\
   wpAny (model P w) X.A (letOwnedTupleGo tg (.ref it) u) (λ_ s2=>∃x H',AW X ad σ H' s2/\A8 x u/\J.yld i H x H'/\tn (i+1) s2.heap/\∀b∈fp,H' b=none) E s1) E s
 done:∀(X:Cx),X.prog=P->X.w=w->X.K=K->X.calm=true->∀(i:Nat) (ad:List (qR×Obj)) (s:qS) (σ:St) (H:Hp) (E:qQ->qS->Prop),AW X ad σ H s->(∀b∈fp,Cp X ad H b)->tn i s.heap->J.stop i H ->
  wpAny (model P w) X.A (pyNext (.ref it)) (λr s1=>r=none/\AW X ad σ H s1) E s
 self:∀(A:Around) (i:Nat) (s:qS) (Q:qQ->qS->Prop) (E:qQ->qS->Prop),tn i s.heap->Q (.ref it) s->wpAny (model P w) A (pyIter (.ref it)) Q E s
abbrev TI:=St->Hp->(It->Hp->Prop)->Prop
def Zz(X:Cx)(ad:List (qR×Obj))(σ:St)(tg:Expr)(R:It->Hp->Prop)(itv:qQ)(s2:qS):Prop:=
 ∃(it:qR) (fp:List qR) (tn:Nat->Heap->Prop) (J:It) (H':Hp),itv=.ref it/\AW X ad σ H' s2/\HK X.prog X.w X.K tg J fp it tn/\tn 0 s2.heap/\(∀b∈fp,Cp X ad H' b)/\R J H'
def PI(X:Cx)(tg iter:Expr)(wi:TI):Prop:=
 ∀(ad:List (qR×Obj)) (s:qS) (σ:St) (H:Hp) (R:It->Hp->Prop),AW X ad σ H s->wi σ H R ->
  wpAny (model X.prog X.w) X.A (eval iter X.env) (λv s1=>wpAny (model X.prog X.w) X.A (pyIter v) (Zz X ad σ tg R) X.xe s1) X.xe s
theorem KN{M:Model}{A:Around}{s:qS}{o:Obj}{n:String}{vs:Array qQ}{Q:Unit->qS->Prop}(ho:s.heap.get? it=some o)(hc:o.cls=.type n)(hd:o.data=.fields vs)
  (hn:["enumerate","zip","dict_itemiterator","dict_reverseitemiterator","odict_iterator","itertools.zip_longest","itertools.pairwise"].contains n=false) (hQ:Q () s):wpAny M A (letOwnedTupleGo tg (.ref it) u) Q E s:=by
 unfold letOwnedTupleGo
 cases tg<;>first
  |exact qD hQ
  | (cases u<;>first
    |exact qD hQ
    | (refine qC (wpAny_load ho ?_)
       rw[hc,hd];show wpAny M A (if (["enumerate","zip","dict_itemiterator","dict_reverseitemiterator","odict_iterator","itertools.zip_longest","itertools.pairwise"].contains n&&vs[0]?==some (rawInt _))=true then _ else _) Q E s;rw[qE (by intro h;rw[hn,Bool.false_and]at h;cases h)];exact qD hQ))
noncomputable def Xb(K:qV)(a:qR):It:=
 ⟨λi H=>∃xs x,Af K H a xs/\xs[i]?=some x,λi H x H'=>H'=H/\∀xs,Af K H a xs->xs[i]?=some x,λi H=>∃xs,Af K H a xs/\xs.length<=i⟩
noncomputable def Xp(K:qV)(a:qR):It:=
 ⟨λi H=>∃xs x,Aa K H a xs/\xs[i]?=some x,λi H x H'=>H'=H/\∀xs,Aa K H a xs->xs[i]?=some x,λi H=>∃xs,Aa K H a xs/\xs.length<=i⟩
noncomputable def Ub(lo:Int)(n:Nat):It:=⟨λi _=>i<n,λi H x H'=>H'=H/\x=.int (lo+i),λi _=>n<=i⟩
theorem Od{P:qT}{w:qU}{K:qV}(a it:qR):HK P w K tg (Xb K a) [it] it (λi h=>h.IsListIter it a i) where
 mem:=by simp
 obj:=λi h st b hb=>by
  have e:b=it:=by simpa using hb
  subst e;rcases st with⟨o,e,c,d⟩;exact⟨o,e,λv z=>by rw[d]at z;cases z⟩
 keep:=λi h h' st k=>st.at λo e=>k it (by simp) o e
 item:=by intro X hP hw hK hc i ad s σ H E I hf st hg;subst hP hw hK;rcases hg with⟨xs,x,hq,hx⟩;rcases I.list hq with⟨its,rv,p,hz⟩;obtain⟨u,hu,ru⟩:=rv.get hx;rcases hf it (by simp) with⟨f0,f1,f2,f3,f4,f5⟩;refine wpAny_pyNext_list_item st p.isList (x:=u) (by simpa using hu) λh' st' sb=>?_;have I1:AW X ad σ H {s with heap:=h'}:=I.turned (t':=s.toks) (λb o hb e=>(sb.2 b hb).trans e) f0 f1 f3 f4 f5;rcases id st' with⟨o,e,c,d⟩;exact⟨u,rfl,KN (s:={s with heap:=h'}) e c d (by decide) ⟨x,H,I1,ru,⟨rfl,λys hy=>by rw[I.list_inj hy hq];exact hx⟩,st',λb hb=>(hf b hb).1⟩⟩
 done:=by intro X hP hw hK hc i ad s σ H E I hf st hg;subst hP hw hK;obtain⟨xs,hq,hx⟩:=hg;rcases I.list hq with⟨its,rv,p,hz⟩;rcases hf it (by simp) with⟨f0,f1,f2,f3,f4,f5⟩;have hl:=rv.length;exact wpAny_pyNext_list_end (I.ok.hd hc) st p.isList (by simp;lia) λh' eb=>⟨rfl,I.turned (t':=s.toks) (λb o hb e=>eb b o hb e) f0 f1 f3 f4 f5⟩
 self:=λ_ _ _ _ _ st h=>wpAny_pyIter_listiter st h
theorem Ls{P:qT}{w:qU}{K:qV}(a it:qR):HK P w K tg (Xp K a) [it] it (λi h=>h.IsTupleIter it a i) where
 mem:=by simp
 obj:=λi h st b hb=>by
  have e:b=it:=by simpa using hb
  subst e;rcases st with⟨o,e,c,d⟩;exact⟨o,e,λv z=>by rw[d]at z;cases z⟩
 keep:=λi h h' st k=>st.at λo e=>k it (by simp) o e
 item:=by intro X hP hw hK hc i ad s σ H E I hf st hg;subst hP hw hK;rcases hg with⟨xs,x,hq,hx⟩;rcases I.tuple hq with⟨its,rv,p,hz⟩;obtain⟨u,hu,ru⟩:=rv.get hx;rcases hf it (by simp) with⟨f0,f1,f2,f3,f4,f5⟩;refine wpAny_pyNext_tuple_item st (show s.heap.IsTuple a its.toArray from p) (x:=u) (by simpa using hu) λh' st' sb=>?_;have I1:AW X ad σ H {s with heap:=h'}:=I.turned (t':=s.toks) (λb o hb e=>(sb.2 b hb).trans e) f0 f1 f3 f4 f5;rcases id st' with⟨o,e,c,d⟩;exact⟨u,rfl,KN (s:={s with heap:=h'}) e c d (by decide) ⟨x,H,I1,ru,⟨rfl,λys hy=>by rw[I.tuple_inj hy hq];exact hx⟩,st',λb hb=>(hf b hb).1⟩⟩
 done:=by intro X hP hw hK hc i ad s σ H E I hf st hg;subst hP hw hK;obtain⟨xs,hq,hx⟩:=hg;rcases I.tuple hq with⟨its,rv,p,hz⟩;rcases hf it (by simp) with⟨f0,f1,f2,f3,f4,f5⟩;have hl:=rv.length;exact wpAny_pyNext_tuple_end (I.ok.hd hc) st (show s.heap.IsTuple a its.toArray from p) (by simp;lia) λh' eb=>⟨rfl,I.turned (t':=s.toks) (λb o hb e=>eb b o hb e) f0 f1 f3 f4 f5⟩
 self:=λ_ _ _ _ _ st h=>wpAny_pyIter_tupleiter st h
theorem Lu{P:qT}{w:qU}{K:qV}(it:qR)(lo:Int)(n:Nat):HK P w K tg (Ub lo n) [it] it (λi h=>IsRangeIter h it (lo+(i:Nat)*1) ((n:Int)-(i:Nat)) 1) where
 mem:=by simp
 obj:=λi h st b hb=>by
  have e:b=it:=by simpa using hb
  subst e
  exact⟨_,st,λv z=>by have z':Data.fields _=Data.cell v:=z;cases z'⟩
 keep:=λi h h' st k=>k it (by simp) _ st
 item:=by intro X hP hw hK hc i ad s σ H E I hf st hg;subst hP hw hK;rcases hf it (by simp) with⟨f0,f1,f2,f3,f4,f5⟩;have W:=Walks.range (prog:=X.prog) (w:=X.w) (I.ok.hd hc) it lo 1 n;refine W.item i s _ _ hg st λv h' tk hv st' kk=>?_;obtain⟨t,rfl⟩:=hv;have I1:AW X ad σ H {s with heap:=h',toks:=tk}:=I.turned (λb o hb e=>kk b o (by simpa using hb) e) f0 f1 f3 f4 f5;refine⟨_,rfl,KN (s:={s with heap:=h',toks:=tk}) (n:="range_iterator") st' rfl rfl (by decide) ⟨.int (lo+i),H,I1,⟨t,?_⟩,⟨rfl,rfl⟩,st',λb hb=>(hf b hb).1⟩⟩;rw[dm]
 done:=by intro X hP hw hK hc i ad s σ H E I hf st hg;subst hP hw hK;rcases hf it (by simp) with⟨f0,f1,f2,f3,f4,f5⟩;exact wpAny_pyNext_range_end (I.ok.hd hc) st (by have:n<=i:=hg;lia) λh' eb=>⟨rfl,I.turned (t':=s.toks) (λb o hb e=>eb b o hb e) f0 f1 f3 f4 f5⟩
 self:=λ_ _ _ _ _ st h=>wpAny_pyIter_rangeiter st h
variable{tl:TE}{ta:TA}{fp:List qR}
def P0(K:qV)(tl:TE):TI:=λσ H R=>tl σ H λx H1=>∃a,x=.ref a/\(∃xs,Af K H1 a xs)/\R (Xb K a) H1
def ZN(K:qV)(tl:TE):TI:=λσ H R=>tl σ H λx H1=>∃a,x=.ref a/\(∃xs,Aa K H1 a xs)/\R (Xp K a) H1
theorem M7{l:Expr}(hl:PE X l tl):PI X tg l (P0 X.K tl):=by
 intro ad s σ H R I h;refine BS (hl ad s σ H _ I h) λv s1 z9=>?_;obtain⟨x,H1,I1,r1,q1⟩:=z9;obtain⟨a,e,⟨xs,hq⟩,q⟩:=q1;subst e;cases r1;obtain⟨its,rv,p,hz⟩:=I1.list hq;refine wpAny_pyIter_list p.isList ?_;refine⟨s1.heap.objs.size,[s1.heap.objs.size],_,_,H1,rfl,I1.kept (t':=s1.toks) λb o e=>aO _ e,Od a _,⟨_,af _ rfl,rfl,rfl⟩,λb hb=>?_,q⟩;have e:b=s1.heap.objs.size:=by simpa using hb
 subst e;exact I1.fpOk (aP _) (I1.hok.fresh (aP _))
theorem Vi{l:Expr}(hl:PE X l tl):PI X tg l (ZN X.K tl):=by
 intro ad s σ H R I h;refine BS (hl ad s σ H _ I h) λv s1 z9=>?_;obtain⟨x,H1,I1,r1,q1⟩:=z9;obtain⟨a,e,⟨xs,hq⟩,q⟩:=q1;subst e;cases r1;obtain⟨its,rv,p,hz⟩:=I1.tuple hq;refine wpAny_pyIter_tuple (show s1.heap.IsTuple a its.toArray from p) ?_;refine⟨s1.heap.objs.size,[s1.heap.objs.size],_,_,H1,rfl,I1.kept (t':=s1.toks) λb o e=>aO _ e,Ls a _,⟨_,af _ rfl,rfl,rfl⟩,λb hb=>?_,q⟩;have e:b=s1.heap.objs.size:=by simpa using hb
 subst e;exact I1.fpOk (aP _) (I1.hok.fresh (aP _))
theorem KO{s:qS}{R:It->Hp->Prop}{lo hi:Int}{t u v:Tok}{tk:Nat}(I:AW X ad σ H s)(h1:-(2^62)<=lo)(h2:lo<2^62)(h3:-(2^62)<=hi)(h4:hi<2^62)
  (q:R (Ub lo (hi-lo).toNat) H):wpAny (model X.prog X.w) X.A (pyIter (.ref s.heap.objs.size)) (Zz X ad σ tg R) E {s with heap:=s.heap.push {cls:=.type "range",data:=.fields #[.int lo t,.int hi u,.int 1 v]},toks:=tk}:=by
 refine wpAny_pyIter_range (IsRange.new ..) (small_one h1 h2 h3 h4) ?_;have I1:AW X ad σ H {s with heap:=s.heap.push {cls:=.type "range",data:=.fields #[.int lo t,.int hi u,.int 1 v]},toks:=tk}:=I.kept λb o e=>aO _ e
 refine⟨(s.heap.push {cls:=.type "range",data:=.fields #[.int lo t,.int hi u,.int 1 v]}).objs.size,[(s.heap.push {cls:=.type "range",data:=.fields #[.int lo t,.int hi u,.int 1 v]}).objs.size],_,_,H,rfl,
  I1.kept (t':=tk) λb o e=>aO _ e,Lu _ lo (hi-lo).toNat,?_,λb hb=>?_,q⟩
 ·have e1:lo+((0:Nat):Int)*1=lo:=by simp
  have e2:(((hi-lo).toNat:Nat):Int)-((0:Nat):Int)=Builtin.Range.rangeSize lo hi 1:=by rw[rangeSize_one];split<;>lia
  show IsRangeIter _ _ (lo+((0:Nat):Int)*1) ((((hi-lo).toNat:Nat):Int)-((0:Nat):Int)) 1;rw[e1,e2];exact af _ rfl
 ·have e:b=(s.heap.push {cls:=.type "range",data:=.fields #[.int lo t,.int hi u,.int 1 v]}).objs.size:=by simpa using hb
  subst e;exact I1.fpOk (aP _) (I1.hok.fresh (aP _))
def Xq(ta:TA):TI:=λσ H R=>ta σ H λvs H1=>∃j:Int,vs=[.int j]/\-(2^62)<=j/\j<2^62/\R (Ub 0 j.toNat) H1
def Xr(ta:TA):TI:=λσ H R=>ta σ H λvs H1=>∃i j:Int,vs=[.int i,.int j]/\(-(2^62)<=i/\i<2^62/\-(2^62)<=j/\j<2^62)/\R (Ub i (j-i).toNat) H1
theorem Aw{a:Expr}{p pos:Pos}(hg:Gl X "range")(hm:X.mg "range"=none)(ha:PA X [a] ta)(hs:starEach [a] X.env=[(false,eval a X.env)]:=by rfl):PI X tg (.Call (.Name "range" p) [a] [] pos) (Xq ta):=by
 intro ad s σ H R I h;refine Call_ (Co I hg hm boot_range (bX (BS (ha pos ad s σ H _ I h) λus s1 z9=>?_) hs rfl));obtain⟨vs,H1,I1,r1,q1⟩:=z9;rcases q1 with⟨j,e,q1,q2,q⟩;subst e;cases r1 with
 |cons r rr =>
  cases rr;obtain⟨t,rfl⟩:=r;exact call_range_1 (KO I1 (by lia) (by lia) q1 q2 (by simpa using q))
theorem Oe{a b:Expr}{p pos:Pos}(hg:Gl X "range")(hm:X.mg "range"=none)(ha:PA X [a,b] ta)(hs:starEach [a,b] X.env=[(false,eval a X.env),(false,eval b X.env)]:=by rfl)(hs2:starEach [b] X.env=[(false,eval b X.env)]:=by rfl):
  PI X tg (.Call (.Name "range" p) [a,b] [] pos) (Xr ta):=by
 intro ad s σ H R I h;refine Call_ (Co I hg hm boot_range (bX (BS (ha pos ad s σ H _ I h) λus s1 ⟨vs,H1,I1,r1,q1⟩=>?_) (by rw[hs,hs2]) (by rw[hs2];rfl)));rcases q1 with⟨i,j,e,⟨q1,q2,q3,q4⟩,q⟩;subst e;cases r1 with
 |cons r rr =>
  cases rr with
  |cons r' rr =>
   cases rr;obtain⟨t,rfl⟩:=r;obtain⟨t',rfl⟩:=r';exact call_range_2 (KO I1 q1 q2 q3 q4 q)
def ZO(wi:TI)(g:TG)(tb:TS):TS:=λD σ H=>wi σ H λJ H1=>∃W:Nat->Nat->St->Hp->Prop,(∃m,W 0 m σ H1)/\∀i m σ H,W i m σ H ->
 (J.stop i H/\D.nx σ H)\/(J.go i H/\∃N:St->Hp->Prop,(∀σ' H',N σ' H'->∃m',m'<m/\W (i+1) m' σ' H')/\∀x H',J.yld i H x H'->g x σ H' λσ2 H2=>tb {D with nx:=N,ct:=N,bk:=D.nx} σ2 H2)
noncomputable def F9(fp:List qR)(h:Heap):List (qR×Obj):=fp.filterMap λb=>(h.get? b).map λo=>(b,o)
theorem Cf{h:Heap}{b:qR}{o:Obj}(hb:b∈fp)(e:h.get? b=some o):(b,o)∈F9 fp h:=List.mem_filterMap.mpr ⟨b,hb,by rw[e];rfl⟩
theorem Of{h:Heap}{p:qR×Obj}(hp:p∈F9 fp h):p.1∈fp/\h.get? p.1=some p.2:=by
 obtain⟨b,hb,e⟩:=List.mem_filterMap.mp hp;cases q:h.get? b with
 |none=>rw[q]at e;cases e
 |some o =>
  rw[q]at e;have e':(b,o)=p:=Option.some.inj e;subst e';exact⟨hb,q⟩
theorem AW.pinned{s:qS}(I:AW X ad σ H s)(hf:∀b∈fp,Cp X ad H b)(ho:∀b∈fp,∃o,s.heap.get? b=some o/\∀v,o.data≠.cell v):AW X (ad++F9 fp s.heap) σ H s:=
 I.pins_of λp hp=>(aR.mp hp).elim (λz=>I.pin p (aj _ z)) λz=>by obtain⟨hb,e⟩:=Of z;obtain⟨f0,f1,f2,_⟩:=hf p.1 hb;obtain⟨o,e',d⟩:=ho p.1 hb;rw[e]at e';cases e';exact⟨e,f0,f1,f2,d⟩
theorem AW.unpinned{pl:List (qR×Obj)}{s:qS}(I:AW X (ad++pl) σ H s):AW X ad σ H s:=I.pins_of λp hp=>I.pin p (aj _ (dE _ hp))
theorem Ay{iter:Expr}{wi:TI}{g:TG}{tb:TS}{pos:Pos}(hp:PassesOwn (model X.prog X.w) X.A X.env X.xe)(hc:X.calm=true)(hi:PI X tg iter wi)(hg:PG X tg g)(hb:Ic X body tb)
  (hs:∀x,foldedSetIterable iter X.env x=pure x:=by intro _;rfl):PS X (.For tg iter body [] pos) (ZO wi g tb):=by
 intro ad s σ H D I h;refine wpAny_For (BS (hi ad s σ H _ I h) λv s1 h1=>BS h1 λitv s2 h2=>?_) hs;rcases h2 with⟨it,fp,tn,J,H2,e,I2,T,st2,f2,W,⟨m0,w0⟩,turn⟩;subst e;have stat:∀{H':Hp},(∀b∈fp,H' b=none)->∀b∈fp,Cp X ad H' b:=λhn b hb=>⟨hn b hb,(f2 b hb).2⟩
 refine codeAny_forLoop_any (λn s'=>∃i σ' H',AW X ad σ' H' s'/\tn i s'.heap/\(∀b∈fp,H' b=none)/\W i n σ' H') ?_ m0 ⟨0,σ,H2,I2,st2,λb hb=>(f2 b hb).1,w0⟩;intro n s3 hRq;rcases hRq with⟨i,σ3,H3,I3,st3,fr3,w3⟩;rcases turn i n σ3 H3 w3 with⟨stop,qn⟩|⟨go,N,hN,step⟩
 ·refine wpAny_passesOwn hp (BS (T.done X rfl rfl rfl hc i ad s3 σ3 H3 X.xe I3 (stat fr3) st3 stop) λr s4 z9=>?_);obtain⟨hr,I4⟩:=z9;subst hr;exact wpAny_execs_nil ⟨σ3,H3,I4,qn⟩
 ·refine wpAny_passesOwn hp (BS (T.item X rfl rfl rfl hc i ad s3 σ3 H3 X.xe I3 (stat fr3) st3 go) λr s4 z9=>?_);obtain⟨u,hr,h4⟩:=z9;subst hr;refine wpAny_passesOwn hp (BS h4 λ_ s5 z9=>?_);obtain⟨x,H5,I5,r5,y5,st5,fr5⟩:=z9;have I5':=I5.pinned (stat fr5) (T.obj _ _ st5);refine wpAny_passesOwn hp (BS (hg _ s5 σ3 H5 x u _ I5' r5 (step x H5 y5)) λ_ s6 z9=>?_);obtain⟨σ6,H6,I6,q6⟩:=z9;refine wpAny_passesOwn hp (BS (hb _ s6 σ6 H6 _ I6 q6) λf s7 q7=>?_);have again:∀{σ7:St} {H7:Hp},AW X (ad++F9 fp s5.heap) σ7 H7 s7->N σ7 H7->∃m,m<n/\∃i σ' H',AW X ad σ' H' s7/\tn i s7.heap/\(∀b∈fp,H' b=none)/\W i m σ' H':=λ{σ7 H7} I7 n7=>by obtain⟨m',hm,w7⟩:=hN σ7 H7 n7;refine⟨m',hm,i+1,σ7,H7,I7.unpinned,T.keep _ _ _ st5 λb hb o e=>(I7.pin (b,o) (aj _ (aj _ (Cf hb e)))).1,λb hb=>?_,w7⟩;obtain⟨o,e,d⟩:=T.obj _ _ st5 b hb;exact (I7.pin (b,o) (aj _ (aj _ (Cf hb e)))).2.1
  cases f with
  |next=>obtain⟨σ7,H7,I7,n7⟩:=q7;exact again I7 n7
  |cont=>obtain⟨σ7,H7,I7,n7⟩:=q7;exact again I7 n7
  |brk=>obtain⟨σ7,H7,I7,q7⟩:=q7;exact⟨σ7,H7,I7.unpinned,q7⟩
  |ret v=>obtain⟨x7,σ7,H7,I7,r7,q7⟩:=q7;exact⟨x7,σ7,H7,I7.unpinned,r7,q7⟩
theorem Bl{K:qV}{g:TG}{tb:TS}(Pv:Nat->St->Hp->Prop)(h0:Pv 0 σ H)(hl:∀i σ H,i<=xs.length->Pv i σ H->Af K H a xs)
  (hs:∀i x σ H,xs[i]?=some x->Pv i σ H->g x σ H λσ2 H2=>tb {D with nx:=Pv (i+1),ct:=Pv (i+1),bk:=D.nx} σ2 H2) (hd:∀σ H,Pv xs.length σ H->D.nx σ H):
  ∃W:Nat->Nat->St->Hp->Prop,(∃m,W 0 m σ H)/\∀i m σ H,W i m σ H ->
   ((Xb K a).stop i H/\D.nx σ H)\/((Xb K a).go i H/\∃N:St->Hp->Prop,(∀σ' H',N σ' H'->∃m',m'<m/\W (i+1) m' σ' H')/\∀x H',(Xb K a).yld i H x H'->g x σ H' λσ2 H2=>tb {D with nx:=N,ct:=N,bk:=D.nx} σ2 H2):=by
 refine⟨λi m σ H=>m=xs.length-i/\i<=xs.length/\Pv i σ H,⟨xs.length,by simp,Nat.zero_le _,h0⟩,?_⟩;rintro i m σ H ⟨rfl,hi,p⟩;have q:=hl i σ H hi p
 by_cases hlt:i<xs.length
 ·refine .inr ⟨⟨xs,xs[i],q,by simp[hlt]⟩,Pv (i+1),λσ' H' p'=>⟨xs.length-(i+1),by lia,rfl,hlt,p'⟩,λx H' y=>?_⟩;obtain⟨e,y⟩:=y;subst e;exact hs i x σ _ (y xs q) p
 ·have e:i=xs.length:=by lia
  subst e;exact .inl ⟨⟨xs,q,aP _⟩,hd σ H p⟩
theorem TH{K:qV}{g:TG}{tb:TS}(Pv:Nat->St->Hp->Prop)(h0:Pv 0 σ H)(hl:∀i σ H,i<=xs.length->Pv i σ H->Aa K H a xs)
  (hs:∀i x σ H,xs[i]?=some x->Pv i σ H->g x σ H λσ2 H2=>tb {D with nx:=Pv (i+1),ct:=Pv (i+1),bk:=D.nx} σ2 H2) (hd:∀σ H,Pv xs.length σ H->D.nx σ H):
  ∃W:Nat->Nat->St->Hp->Prop,(∃m,W 0 m σ H)/\∀i m σ H,W i m σ H ->
   ((Xp K a).stop i H/\D.nx σ H)\/((Xp K a).go i H/\∃N:St->Hp->Prop,(∀σ' H',N σ' H'->∃m',m'<m/\W (i+1) m' σ' H')/\∀x H',(Xp K a).yld i H x H'->g x σ H' λσ2 H2=>tb {D with nx:=N,ct:=N,bk:=D.nx} σ2 H2):=by
 refine⟨λi m σ H=>m=xs.length-i/\i<=xs.length/\Pv i σ H,⟨xs.length,by simp,Nat.zero_le _,h0⟩,?_⟩;rintro i m σ H ⟨rfl,hi,p⟩;have q:=hl i σ H hi p
 by_cases hlt:i<xs.length
 ·refine .inr ⟨⟨xs,xs[i],q,by simp[hlt]⟩,Pv (i+1),λσ' H' p'=>⟨xs.length-(i+1),by lia,rfl,hlt,p'⟩,λx H' y=>?_⟩;obtain⟨e,y⟩:=y;subst e;exact hs i x σ _ (y xs q) p
 ·have e:i=xs.length:=by lia
  subst e;exact .inl ⟨⟨xs,q,aP _⟩,hd σ H p⟩
theorem BJ{lo:Int}{n:Nat}{g:TG}{tb:TS}(Pv:Nat->St->Hp->Prop)(h0:Pv 0 σ H)
  (hs:∀i σ H,i<n->Pv i σ H->g (.int (lo+i)) σ H λσ2 H2=>tb {D with nx:=Pv (i+1),ct:=Pv (i+1),bk:=D.nx} σ2 H2) (hd:∀σ H,Pv n σ H->D.nx σ H):
  ∃W:Nat->Nat->St->Hp->Prop,(∃m,W 0 m σ H)/\∀i m σ H,W i m σ H ->
   ((Ub lo n).stop i H/\D.nx σ H)\/((Ub lo n).go i H/\∃N:St->Hp->Prop,(∀σ' H',N σ' H'->∃m',m'<m/\W (i+1) m' σ' H')/\∀x H',(Ub lo n).yld i H x H'->g x σ H' λσ2 H2=>tb {D with nx:=N,ct:=N,bk:=D.nx} σ2 H2):=by
 refine⟨λi m σ H=>m=n-i/\i<=n/\Pv i σ H,⟨n,by simp,Nat.zero_le _,h0⟩,?_⟩;rintro i m σ H ⟨rfl,hi,p⟩
 by_cases hlt:i<n
 ·refine .inr ⟨hlt,Pv (i+1),λσ' H' p'=>⟨n-(i+1),by lia,rfl,hlt,p'⟩,λx H' y=>?_⟩;obtain⟨e,y⟩:=y;subst e y;exact hs i σ _ hlt p
 ·have e:i=n:=by lia
  subst e;exact .inl ⟨aP _,hd σ H p⟩
theorem Fe{c:TT}{tb:TS}(Pv:St->Hp->Prop)(μ:St->Hp->Nat)(h0:Pv σ H)
  (hs:∀σ H,Pv σ H->c σ H λb H1=>if b=true then tb {D with nx:=λσ' H'=>Pv σ' H'/\μ σ' H'<μ σ H,ct:=λσ' H'=>Pv σ' H'/\μ σ' H'<μ σ H,bk:=D.nx} σ H1 else D.nx σ H1)
  (mono:∀σ H Q Q',(∀b H1,Q b H1->Q' b H1)->c σ H Q->c σ H Q'):Pz c tb D σ H:=by
 refine⟨λm σ H=>m=μ σ H/\Pv σ H,⟨_,rfl,h0⟩,?_⟩;rintro m σ H ⟨rfl,p⟩;refine mono σ H _ _ (λb H1 q=>?_) (hs σ H p);cases b with
 |true=>exact⟨_,λσ' H' ⟨p',l⟩=>⟨_,l,rfl,p'⟩,q⟩
 |false=>exact q
abbrev R2:=V->V->Hp->VK->Prop
def Fa(X:Cx)(f:qQ->qQ->Sem qQ)(r:R2):Prop:=
 ∀(ad:List (qR×Obj)) (s:qS) (σ:St) (H:Hp) (x y:V) (v u:qQ) (Q:VK),AW X ad σ H s->A8 x v->A8 y u->r x y H Q ->
  wpAny (model X.prog X.w) X.A (f v u) (EP X ad σ Q) X.xe s
def ZP(X:Cx)(f:qQ->Sem qQ)(r:V->Hp->VK->Prop):Prop:=
 ∀(ad:List (qR×Obj)) (s:qS) (σ:St) (H:Hp) (x:V) (v:qQ) (Q:VK),AW X ad σ H s->A8 x v->r x H Q ->
  wpAny (model X.prog X.w) X.A (f v) (EP X ad σ Q) X.xe s
def CT(X:Cx)(f:qQ)(r:List V->Hp->VK->Prop):Prop:=
 ∀(ad:List (qR×Obj)) (s:qS) (σ:St) (H:Hp) (xs:List V) (us:List qQ) (Q:VK),AW X ad σ H s->Au xs us->r xs H Q ->
  wpAny (model X.prog X.w) X.A (call f us) (EP X ad σ Q) X.xe s
def Xc(r:R2)(ta tb:TE):TE:=λσ H Q=>ta σ H λx H1=>tb σ H1 λy H2=>r x y H2 Q
def Z0(r:V->Hp->VK->Prop)(ta:TE):TE:=λσ H Q=>ta σ H λx H1=>r x H1 Q
def rI(C:Int->Int->Prop)(g:Int->Int->V):R2:=λx y H Q=>∃i j,x=.int i/\y=.int j/\C i j/\Q (g i j) H
def TJ(g:Int->Int->V):R2:=λx y H Q=>∃i j,x=.int i/\y=.int j/\Q (g i j) H
def rU(g:Int->V):V->Hp->VK->Prop:=λx H Q=>∃i,x=.int i/\Q (g i) H
section
variable{a b c:Expr}{ta tb tc:TE}{pos:Pos}
theorem Vj(ha:PE X a ta)(hb:PE X b tb){s:qS}{R:V->V->Hp->Prop}(I:AW X ad σ H s)
  (h:ta σ H λx H1=>tb σ H1 λy H2=>R x y H2) {Q:qQ->qS->Prop} {f:qQ->qQ->Sem qQ}
  (hf:∀v u s2 x y H2,AW X ad σ H2 s2->A8 x v->A8 y u->R x y H2->wpAny (model X.prog X.w) X.A (f v u) Q X.xe s2):
  wpAny (model X.prog X.w) X.A (eval a X.env) (λv s₁=>wpAny (model X.prog X.w) X.A (eval b X.env) (λu s₂=>wpAny (model X.prog X.w) X.A (f v u) Q X.xe s₂) X.xe s₁) X.xe s:=by
 refine BS (ha ad s σ H _ I h) λv s1 z9=>?_;obtain⟨x,H1,I1,r1,q1⟩:=z9;refine BS (hb ad s1 σ H1 _ I1 q1) λu s2 z9=>?_;obtain⟨y,H2,I2,r2,q2⟩:=z9;exact hf v u s2 x y H2 I2 r1 r2 q2
theorem AH{op:Operator}{r:R2}(ho:Fa X (binaryOp op) r)(ha:PE X a ta)(hb:PE X b tb):PE X (.BinOp a op b pos) (Xc r ta tb):=by intro ad s σ H Q I h;exact wpAny_BinOp (Vj ha hb I h λv u s2 x y H2 I2 rx ry q=>ho ad s2 σ H2 x y v u Q I2 rx ry q)
theorem Iv{op:UnaryOp}{r:V->Hp->VK->Prop}(ho:ZP X (unaryOp op) r)(ha:PE X a ta):PE X (.UnaryOp op a pos) (Z0 r ta):=by intro ad s σ H Q I h;exact UnaryOp_ (BS (ha ad s σ H _ I h) λv s1 ⟨x,H1,I1,r1,q1⟩=>ho ad s1 σ H1 x v Q I1 r1 q1)
theorem ZA{f:qQ->qQ->Sem qQ}{C:Int->Int->Prop}{g:Int->Int->Int}
  (rule:∀(i j:Int) (t u:Tok) (s:qS) (Q:qQ->qS->Prop) (E:qQ->qS->Prop),C i j->Q (.int (g i j) s.toks) {s with toks:=s.toks+1}->wpAny (model X.prog X.w) X.A (f (.int i t) (.int j u)) Q E s):
  Fa X f (rI C λi j=>.int (g i j)):=by
 intro ad s σ H x y v u Q I rx ry h;rcases h with⟨i,j,rfl,rfl,hc,q⟩;obtain⟨t,rfl⟩:=rx;obtain⟨t',rfl⟩:=ry;exact rule i j t t' s _ _ hc ⟨.int (g i j),H,I.tok _,⟨_,rfl⟩,q⟩
theorem Xs{f:qQ->qQ->Sem qQ}{g:Int->Int->Int}
  (rule:∀(i j:Int) (t u:Tok) (s:qS) (Q:qQ->qS->Prop) (E:qQ->qS->Prop),Q (.int (g i j) s.toks) {s with toks:=s.toks+1}->wpAny (model X.prog X.w) X.A (f (.int i t) (.int j u)) Q E s):
  Fa X f (TJ λi j=>.int (g i j)):=by
 intro ad s σ H x y v u Q I rx ry h;rcases h with⟨i,j,rfl,rfl,q⟩;obtain⟨t,rfl⟩:=rx;obtain⟨t',rfl⟩:=ry;exact rule i j t t' s _ _ ⟨.int (g i j),H,I.tok _,⟨_,rfl⟩,q⟩
theorem TK{f:qQ->qQ->Sem qQ}{g:Int->Int->Bool}
  (rule:∀(i j:Int) (t u:Tok) (s:qS) (Q:qQ->qS->Prop) (E:qQ->qS->Prop),Q (.bool (g i j)) s->wpAny (model X.prog X.w) X.A (f (.int i t) (.int j u)) Q E s):
  Fa X f (TJ λi j=>.bl (g i j)):=by
 intro ad s σ H x y v u Q I rx ry h;obtain⟨i,j,rfl,rfl,q⟩:=h;obtain⟨t,rfl⟩:=rx;obtain⟨t',rfl⟩:=ry;exact rule i j t t' s _ _ ⟨.bl (g i j),H,I,rfl,q⟩
def Vk(i j:Int):Prop:=0<j/\j<1073741824
def Vl(i j:Int):Prop:=0<=j/\j<=1000000/\i.natAbs<2^64
def P1(i j:Int):Prop:=(-(2^64)<i/\i<2^64)\/(-(2^64)<j/\j<2^64)
theorem P1.ok{i j:Int}(h:P1 i j):IntMulOk i j:=by
 rcases h with⟨h1,h2⟩|⟨h1,h2⟩
 ·exact .of_left (intBits_le_64 h1 h2)
 ·exact .of_right (intBits_le_64 h1 h2)
theorem Ag:Fa X (binaryOp .Add) (TJ λi j=>.int (i+j)):=Xs λ_ _ _ _ _ _ _ q=>add_int q
theorem A4:Fa X (binaryOp .Sub) (TJ λi j=>.int (i-j)):=Xs λ_ _ _ _ _ _ _ q=>sub_int q
theorem BO:Fa X (binaryOp .Mult) (rI P1 λi j=>.int (i*j)):=ZA λ_ _ _ _ _ _ _ hc q=>mul_int q hc.ok
theorem Ax:Fa X (binaryOp .FloorDiv) (rI Vk λi j=>.int (i/j)):=ZA λi j _ _ _ _ _ hc q=>by have h1:(0:Int)<j:=hc.1;have h2:j<1073741824:=hc.2;exact floordiv_int (by lia) (by rw[Int.fdiv_eq_ediv_of_nonneg i (by lia)];exact q) (.inl (PyProof.noPylong_small (by lia)))
theorem Ab:Fa X (binaryOp .Mod) (rI (λ_ j=>0<j) λi j=>.int (i%j)):=ZA λi j _ _ _ _ _ hc q=>by have h1:(0:Int)<j:=hc;exact mod_int' (by lia) (by rw[Int.fmod_eq_emod_of_nonneg i (by lia)];exact q)
theorem P2:Fa X (binaryOp .Pow) (rI Vl λi j=>.int (i^j.toNat)):=ZA λ_ _ _ _ _ _ _ hc q=>pow_int_small hc.1 hc.2.1 hc.2.2 q
theorem aB{f:qQ->Sem qQ}{g:Int->Int}
  (rule:∀(i:Int) (t:Tok) (s:qS) (Q:qQ->qS->Prop) (E:qQ->qS->Prop),Q (.int (g i) s.toks) {s with toks:=s.toks+1}->wpAny (model X.prog X.w) X.A (f (.int i t)) Q E s):
  ZP X f (rU λi=>.int (g i)):=by
 intro ad s σ H x v Q I rx h;obtain⟨i,rfl,q⟩:=h;obtain⟨t,rfl⟩:=rx;exact rule i t s _ _ ⟨.int (g i),H,I.tok _,⟨_,rfl⟩,q⟩
theorem GA:ZP X (unaryOp .USub) (rU λi=>.int (-i)):=aB λ_ _ _ _ _ q=>neg_int q
end
noncomputable def Lv:V->V->Bool
 |.non,.non=>true|.non,.int _=>true|.int _,.non=>true|.non,.bl _=>true|.bl _,.non=>true|.non,.str _=>true|.str _,.non=>true
 |.int _,.int _=>true|.bl _,.bl _=>true|.str _,.str _=>true|.byt _,.byt _=>true
 |.int _,.str _=>true|.str _,.int _=>true|.bl _,.str _=>true|.str _,.bl _=>true
 |_,_=>false
def Z1:R2:=λx y H Q=>Lv x y=true/\Q (.bl (decide (x=y))) H
def Z2:R2:=λx y H Q=>Lv x y=true/\Q (.bl (!decide (x=y))) H
theorem M9{i j:Int}:decide (V.int i=V.int j)=(i==j):=by rw[fB];simp
theorem P3{i j:Bool}:decide (V.bl i=V.bl j)=(i==j):=by rw[fB];simp
theorem NA{i j:Str}:decide (V.str i=V.str j)=(i==j):=by rw[fB];simp
theorem NB{i j:Array UInt8}:decide (V.byt i=V.byt j)=(i.toList==j.toList):=by rw[fB];cases i;cases j;simp
section
variable{a b c:Expr}{ta tb tc:TE}{pos:Pos}
theorem A6{s:qS}{Q:VK}{k k':Bool}(I:AW X ad σ H s)(q:Q (.bl k) H)(e:k=k'):EP X ad σ Q (.bool k') s:=by subst e;exact⟨.bl k,H,I,rfl,q⟩
theorem Bb:Fa X (compareOp .Eq) Z1:=by
 intro ad s σ H x y v u Q I rx ry h;obtain⟨hs,q⟩:=h;cases x with
 |non =>
  cases rx;cases y with
  |non=>cases ry;exact PySem.EqNone.eq_none_none (A6 I q (by simp))
  |bl j=>cases ry;exact PySem.EqNone.eq_none_bool (A6 I q (by simp))
  |int j=>obtain⟨t',rfl⟩:=ry;exact PySem.EqNone.eq_none_int (A6 I q (by simp))
  |str j=>obtain⟨t',rfl⟩:=ry;exact PySem.EqNone.eq_none_str (A6 I q (by simp))
  |_=>exact qG (show false=true from hs) ap
 |bl i =>
  cases rx;cases y with
  |non=>cases ry;exact PySem.EqNone.eq_bool_none (A6 I q (by simp))
  |bl j=>cases ry;exact eq_bool (A6 I q P3)
  |str j=>obtain⟨t',rfl⟩:=ry;exact PySem.EqMixed.eq_bool_str (A6 I q (by simp))
  |_=>exact qG (show false=true from hs) ap
 |int i =>
  obtain⟨t,rfl⟩:=rx;cases y with
  |non=>cases ry;exact PySem.EqNone.eq_int_none (A6 I q (by simp))
  |int j=>obtain⟨t',rfl⟩:=ry;exact eq_int (A6 I q M9)
  |str j=>obtain⟨t',rfl⟩:=ry;exact PySem.EqMixed.eq_int_str (A6 I q (by simp))
  |_=>exact qG (show false=true from hs) ap
 |str i =>
  obtain⟨t,rfl⟩:=rx;cases y with
  |non=>cases ry;exact PySem.EqNone.eq_str_none (A6 I q (by simp))
  |bl j=>cases ry;exact PySem.EqMixed.eq_str_bool (A6 I q (by simp))
  |int j=>obtain⟨t',rfl⟩:=ry;exact PySem.EqMixed.eq_str_int (A6 I q (by simp))
  |str j=>obtain⟨t',rfl⟩:=ry;exact eq_str (A6 I q NA)
  |_=>exact qG (show false=true from hs) ap
 |byt i =>
  obtain⟨t,rfl⟩:=rx;cases y with
  |byt j=>obtain⟨t',rfl⟩:=ry;exact PySem.W.eq_bytes (A6 I q NB)
  |_=>exact qG (show false=true from hs) ap
 |_=>cases y<;>exact qG (show false=true from hs) ap
theorem Do:Fa X (compareOp .NotEq) Z2:=by
 intro ad s σ H x y v u Q I rx ry h;obtain⟨hs,q⟩:=h;cases x with
 |non =>
  cases rx;cases y with
  |non=>cases ry;exact PySem.EqNone.ne_none_none (A6 I q (by simp))
  |bl j=>cases ry;exact PySem.EqNone.ne_none_bool (A6 I q (by simp))
  |int j=>obtain⟨t',rfl⟩:=ry;exact PySem.EqNone.ne_none_int (A6 I q (by simp))
  |str j=>obtain⟨t',rfl⟩:=ry;exact PySem.EqNone.ne_none_str (A6 I q (by simp))
  |_=>exact qG (show false=true from hs) ap
 |bl i =>
  cases rx;cases y with
  |non=>cases ry;exact PySem.EqNone.ne_bool_none (A6 I q (by simp))
  |bl j=>cases ry;exact ne_bool (A6 I q (qP not P3))
  |str j=>obtain⟨t',rfl⟩:=ry;exact PySem.EqMixed.ne_bool_str (A6 I q (by simp))
  |_=>exact qG (show false=true from hs) ap
 |int i =>
  obtain⟨t,rfl⟩:=rx;cases y with
  |non=>cases ry;exact PySem.EqNone.ne_int_none (A6 I q (by simp))
  |int j=>obtain⟨t',rfl⟩:=ry;exact ne_int (A6 I q (qP not M9))
  |str j=>obtain⟨t',rfl⟩:=ry;exact PySem.EqMixed.ne_int_str (A6 I q (by simp))
  |_=>exact qG (show false=true from hs) ap
 |str i =>
  obtain⟨t,rfl⟩:=rx;cases y with
  |non=>cases ry;exact PySem.EqNone.ne_str_none (A6 I q (by simp))
  |bl j=>cases ry;exact PySem.EqMixed.ne_str_bool (A6 I q (by simp))
  |int j=>obtain⟨t',rfl⟩:=ry;exact PySem.EqMixed.ne_str_int (A6 I q (by simp))
  |str j=>obtain⟨t',rfl⟩:=ry;exact ne_str (A6 I q (qP not NA))
  |_=>exact qG (show false=true from hs) ap
 |byt i =>
  obtain⟨t,rfl⟩:=rx;cases y with
  |byt j=>obtain⟨t',rfl⟩:=ry;exact PySem.W.ne_bytes (A6 I q (qP not NB))
  |_=>exact qG (show false=true from hs) ap
 |_=>cases y<;>exact qG (show false=true from hs) ap
theorem DP:Fa X (compareOp .Lt) (TJ λi j=>.bl (decide (i<j))):=TK λ_ _ _ _ _ _ _ q=>lt_int q
theorem NC:Fa X (compareOp .LtE) (TJ λi j=>.bl (decide (i<=j))):=TK λ_ _ _ _ _ _ _ q=>le_int q
theorem FG:Fa X (compareOp .Gt) (TJ λi j=>.bl (decide (j<i))):=TK λ_ _ _ _ _ _ _ q=>gt_int q
theorem Uc:Fa X (compareOp .GtE) (TJ λi j=>.bl (decide (j<=i))):=TK λ_ _ _ _ _ _ _ q=>ge_int q
theorem P4:Fa X (compareOp .Is) (λx y H Q=>y=.non/\Q (.bl (decide (x=.non))) H):=by
 intro ad s σ H x y v u Q I rx ry h;obtain⟨rfl,q⟩:=h;cases ry;refine is_none_gen (A6 I q ?_)
 cases x<;>first
  | (cases rx;rfl)
  | (obtain⟨t,rfl⟩:=rx;rfl)
theorem Jd:Fa X (compareOp .IsNot) (λx y H Q=>y=.non/\Q (.bl (!decide (x=.non))) H):=by
 intro ad s σ H x y v u Q I rx ry h;obtain⟨rfl,q⟩:=h;cases ry;refine isnot_none_gen (A6 I q ?_)
 cases x<;>first
  | (cases rx;rfl)
  | (obtain⟨t,rfl⟩:=rx;rfl)
theorem AQ(b:Expr)(h:op≠.In:=by decide)(h2:op≠.NotIn:=by decide):behindInMarks op b=false:=by
 have e:(op==.In||op==.NotIn)=false:=by rw[beq_eq_false_iff_ne.mpr h,beq_eq_false_iff_ne.mpr h2];rfl
 cases b with
 |Set elts k p=>show (k==0&&(op==.In||op==.NotIn)&&_)=false;rw[e,Bool.and_false];rfl
 |_=>rfl
theorem CU{r:R2}(ho:Fa X (compareOp op) r)(ha:PE X a ta)(hb:PE X b tb)(hm:behindInMarks op b=false):PE X (.Compare a [op] [b] pos) (Xc r ta tb):=by intro ad s σ H Q I h;exact wpAny_Compare1 (Vj ha hb I h λv u s2 x y H2 I2 rx ry q=>ho ad s2 σ H2 x y v u Q I2 rx ry q) hm
def Ud(t:TE):TT:=λσ H Q=>t σ H λx H'=>∃k,x=.bl k/\Q k H'
theorem AK{r:R2}(ho:Fa X (compareOp op) r)(ha:PE X a ta)(hb:PE X b tb)(hm:behindInMarks op b=false):PT X (.Compare a [op] [b] pos) (Ud (Xc r ta tb)):=by
 intro ad s σ H Q I h
 refine wpAny_isTrue_Compare1 (BS (ha ad s σ H _ I h) λv s1 ⟨x,H1,I1,r1,q1⟩=>BS (hb ad s1 σ H1 _ I1 q1) λu s2 ⟨y,H2,I2,r2,q2⟩ =>
  BS (ho ad s2 σ H2 x y v u _ I2 r1 r2 q2) λc s3 ⟨z,H3,I3,r3,k,e,q3⟩=>?_) hm
 subst e;cases r3;exact wpAny_truthy_bool ⟨H3,I3,q3⟩
theorem Je:(sizeLine:Nat)<2^63:=by rw[sizeLine_eq];decide
theorem FH{x:V}(r:Au [x] us):∃u,us=[u]/\A8 x u:=by
 cases r with
 |cons r1 r2=>cases r2;exact⟨_,rfl,r1⟩
theorem KP{x y:V}(r:Au [x,y] us):∃u w',us=[u,w']/\A8 x u/\A8 y w':=by
 cases r with
 |cons r1 r2 =>
  cases r2 with
  |cons r3 r4=>cases r4;exact⟨_,_,rfl,r1,r3⟩
theorem Og(hc:X.calm=true):CT X (.builtin "max") (λxs H Q=>∃i j,xs=[.int i,.int j]/\Q (.int (if j>i then j else i)) H):=by
 intro ad s σ H xs us Q I r h;obtain⟨i,j,rfl,q⟩:=h;obtain⟨u,w',rfl,⟨t,rfl⟩,⟨t',rfl⟩⟩:=KP r;refine max_two_ints (I.ok.hd hc) λh' tk k=>⟨_,H,I.kept k,?_,q⟩
 by_cases hj:j>i
 ·rw[qF hj,qF hj];exact⟨_,rfl⟩
 ·rw[qE hj,qE hj];exact⟨_,rfl⟩
end
structure Vm(h:Heap)(x dx C:qR)(mA:Str->Option qQ):Prop where
 obj:h.get? x=some (PySem.W.instObj C dx)
 ns:h.Ns1 dx mA
 ne:dx≠x
theorem Oh{h:Heap}{dx:qR}{mA:Str->Option qQ}(n:h.Ns1 dx mA):∃od,h.get? dx=some od/\∀name,PySem.W.lookIn name od=some (mA name):=by
 rcases n with⟨o,es,ep,ho,hd,hk,_,hm⟩;refine⟨o,ho,λname=>?_⟩;have e:=hm name;unfold nsFind findBy at e;rw[<-Array.find?_toList]at e;unfold PySem.W.lookIn;rw[hd];dsimp only;split
 ·rename_i y q
  rw[q]at e;exact qP some e
 ·rename_i q
  rw[q]at e
  have a:es.toList.any (·.refKey)=false:=by rw[List.any_eq_false];intro y hy;obtain⟨z,t,hkey⟩:=hk y (Array.mem_toList_iff.mp hy);simp[DictEntry.refKey,hkey]
  have a':¬es.toList.any (·.refKey)=true:=by rw[a];exact ap
  rw[qE a'];exact qP some e
variable{C:qR}
theorem Vm.look{h:Heap}{x dx:qR}{mA:Str->Option qQ}(I:Vm h x dx C mA):∃od,PySem.W.InstAt h x (PySem.W.instObj C dx) C (some od)/\∀name,PySem.W.lookIn name od=some (mA name):=
 let ⟨od,ho,hl⟩:=Oh I.ns
 ⟨od,⟨I.obj,rfl,rfl,ho⟩,hl⟩
theorem Ig.some_of{v:V}{o:Option qQ}(r:Ig (some v) o):∃u,o=some u/\A8 v u:=by
 cases o with
 |none=>exact (show False from r).elim
 |some u=>exact⟨u,rfl,r⟩
section
variable{P:qT}{w:qU}{h h':Heap}{dx:qR}{fs fs':List (Str×V)}
theorem ND(hok:Ea P w H h)(e:H a=some (.ins C dx fs)):∃mA,Vm h a dx C mA/\(∀f,Ig (fs.lookup f) (mA f))/\PySem.Within mA (fs.map (·.1))/\fs.length<=1000/\H dx=some (.own a):=by rcases (show Ap P w H h a (.ins C dx fs) from hok a _ e) with⟨d,z,ne,ob,mA,n,r,q⟩;exact⟨mA,⟨ob,n,ne⟩,r,q,z,d⟩
end
structure ZQ(K:qV)(C:qR):Prop where
 pg:PySem.W.plainGet K C Str.empty=true
 hd:PySem.W.hasDictIn K C=true
 po:PySem.W.plainOver K C=true
 sa:PySem.W.findIn K (.ref C) "__setattr__"=some (some (.builtin "object.__setattr__"))
theorem ZQ.get{K:qV}(c:ZQ K C)(f:Str):PySem.W.plainGet K C f=true:=c.pg
section
variable{s:qS}{A:Around}{c:qQ}{b:Bool}
inductive GB(K:qV)(H:Hp):V->qQ->Prop where
 |non:GB K H .non (.type "NoneType")
 |bl (x:Bool):GB K H (.bl x) (.type "bool")
 |int (i:Int):GB K H (.int i) (.type "int")
 |str (x:Str):GB K H (.str x) (.type "str")
 |flt (x:UInt64):GB K H (.flt x) (.type "float")
 |lst {a:qR} {xs:List V} (e:H a=some (.lst xs)):GB K H (.ref a) (.type "list")
 |frz {a:qR} {o:Obj} {xs:List V} (e:H a=some (.frz o (.lst xs))):GB K H (.ref a) (.type "list")
 |tup {a:qR} {xs:List V} (e:H a=some (.tup xs)):GB K H (.ref a) (.type "tuple")
 |dK {a:qR} {kvs:List (Bf×V)} (e:H a=some (.dK kvs)):GB K H (.ref a) (.type "dict")
 |dT {a:qR} {kvs:List (List Bf×V)} (e:H a=some (.dT kvs)):GB K H (.ref a) (.type "dict")
 |ins {a C dx:qR} {fs:List (Str×V)} (e:H a=some (.ins C dx fs)) (cl:ZQ K C) (ha:PySem.W.findIn K (.ref C) "__class__"=some (some (.builtin "object.__class__")))
   (hn:PySem.W.specialIn K (.builtin "object.__class__") "__get__"=some (some (.builtin "getset_descriptor.__get__"))) (htk:PySem.W.takesIn K (.builtin "object.__class__")=some true)
   (hm:PySem.W.mroIn K C (.type "object")=some true):GB K H (.ref a) (.ref C)
theorem Oi{x:V}{t:qQ}(I:AW X ad σ H s)(rx:A8 x u)(ty:GB X.K H x t)(e:PySem.W.kitOne X.K t c=some b)(h:∀tk,Q (.bool b) {s with toks:=tk}):
  wpAny (model X.prog X.w) A (call (.builtin "isinstance") [u,c]) Q E s:=by
 cases ty with
 |non=>cases (show u=Value.none from rx);exact cK PySem.W.kitx_none I.kIn True.intro e (λz=>nomatch z) h
 |bl y=>cases (show u=Value.bool y from rx);exact cK PySem.W.kitx_bool I.kIn True.intro e (λz=>nomatch z) h
 |int i=>obtain⟨t,q⟩:=(show ∃t,u=Value.int i t from rx);cases q;exact cK PySem.W.kitx_int I.kIn True.intro e (λz=>nomatch z) h
 |str y=>obtain⟨t,q⟩:=(show ∃t,u=Value.str y t from rx);cases q;exact cK PySem.W.kitx_str I.kIn True.intro e (λz=>nomatch z) h
 |flt y=>obtain⟨t,q⟩:=(show ∃t,u=Value.float y t from rx);cases q;exact cK PySem.W.kitx_float I.kIn True.intro e (λz=>nomatch z) h
 | @lst a xs ea =>
  cases (show u=Value.ref a from rx);obtain⟨_,_,n,_,h1⟩:=(show Ap X.prog X.w H s.heap a (.lst xs) from I.hok a _ ea);exact cK fI I.kIn ⟨_,h1,rfl⟩ e (λz=>nomatch z) h
 | @frz a ob xs ea =>
  cases (show u=Value.ref a from rx);obtain⟨_,_,_,n,_,h1⟩:=(show Ap X.prog X.w H s.heap a (.frz ob (.lst xs)) from I.hok a _ ea);exact cK fI I.kIn ⟨_,h1,rfl⟩ e (λz=>nomatch z) h
 | @tup a xs ea =>
  cases (show u=Value.ref a from rx);obtain⟨_,_,_,p⟩:=(show Ap X.prog X.w H s.heap a (.tup xs) from I.hok a _ ea);obtain⟨o,h1,h2,_⟩:=p;exact cK PySem.W.kitx_tuple I.kIn ⟨o,h1,h2⟩ e (λz=>nomatch z) h
 | @dK a kvs ea =>
  cases (show u=Value.ref a from rx);obtain⟨_,_,vs,_,p⟩:=(show Ap X.prog X.w H s.heap a (.dK kvs) from I.hok a _ ea);obtain⟨o,es,ep,h1,h2,_⟩:=p;exact cK fJ I.kIn ⟨o,h1,h2.1⟩ e (λz=>nomatch z) h
 | @dT a kvs ea =>
  cases (show u=Value.ref a from rx);obtain⟨_,_,xs,_,o,es,ep,h1,h2,_⟩:=(show Ap X.prog X.w H s.heap a (.dT kvs) from I.hok a _ ea);exact cK fJ I.kIn ⟨o,h1,h2.1⟩ e (λz=>nomatch z) h
 | @ins a C dx fs ea cl ha hn htk hm =>
  cases (show u=Value.ref a from rx);obtain⟨mA,O,_⟩:=ND I.hok ea;obtain⟨od,J,_⟩:=O.look;exact cK (PySem.W.kitx_own (cl.get _) cl.hd ha hn htk hm) I.kIn J e (λz=>nomatch z) h
end
structure B7(k:Nat)(A:Around):Prop where
 hd:A.handled=none
 dp:A.depth+3*k+5<recursionLimit
 un:A.units+16*k+200<cLine
theorem B7.mono{k:Nat}{A:Around}(r:B7 k A)(h:j<=k):B7 j A:=⟨r.hd,by have:=r.dp;lia,by have:=r.un;lia⟩
theorem B7.deeper{k:Nat}{A:Around}(r:B7 (k+1) A)(env:Env):B7 k (A.deeper env):=
 ⟨r.hd,by have:=r.dp;show A.depth+1+3*k+5<_;lia,by have:=r.un;show A.units+3+16*k+200<_;lia⟩
theorem B7.in1{k:Nat}{A:Around}(r:B7 (k+1) A):B7 k A.in1:=
 ⟨r.hd,by have:=r.dp;show A.depth+3*k+5<_;lia,by have:=r.un;show A.units+1+16*k+200<_;lia⟩
theorem B7.depth{k:Nat}{A:Around}(r:B7 k A):A.depth<recursionLimit:=by have:=r.dp;lia
theorem B7.units{k:Nat}{A:Around}(r:B7 k A):A.units+64<cLine:=by have:=r.un;lia
def Ii:TA:=λ_ H Q=>Q [] H
def Ee(ta:TE)(tr:TA):TA:=λσ H Q=>ta σ H λx H1=>tr σ H1 λxs H2=>Q (x::xs) H2
section
variable{e:Expr}{t:TA}{pos:Pos}
theorem AC:PA X [] Ii:=λ_ _ _ _ H Q I h=>Calls.spliced_nil ⟨[],H,I,.nil,h⟩
theorem AA(ha:PE X e te)(hr:PA X es t)(hs:starEach (e::es) X.env=(false,eval e X.env)::starEach es X.env:=by rfl):PA X (e::es) (Ee te t):=by intro pos ad s σ H Q I h;rw[hs];show wpAny _ _ (spliced ((false,eval e X.env)::backTo pos (starEach es X.env))) _ _ s;refine Calls.spliced_cons (BS (ha ad s σ H _ I h) λu s1 z9=>?_);obtain⟨x,H1,I1,r1,q1⟩:=z9;exact BS (hr pos ad s1 σ H1 _ I1 q1) λus s2 ⟨xs,H2,I2,r2,q2⟩=>⟨x::xs,H2,I2,.cons r1 r2,q2⟩
def Vn(t:TA):TE:=λσ H Q=>t σ H λxs H1=>xs.length<=sizeLine/\∀p,H1 p=none->Q (.ref p) (AV H1 p (.tup xs))
def Vo(t:TA):TE:=λσ H Q=>t σ H λxs H1=>xs.length<=sizeLine/\∀p,H1 p=none->Q (.ref p) (AV H1 p (.lst xs))
theorem Bc{x1}(h:PA X es t):PE X (.Tuple es x1 pos) (Vn t):=by intro ad s σ H Q I hq;refine wpAny_Tuple_spliced (BS (h pos ad s σ H _ I hq) λus s1 ⟨xs,H1,I1,r,z,q⟩=>⟨by rw[<-r.length];exact z,?_⟩);have hf:H1 s1.heap.objs.size=none:=I1.hok.fresh (aP _);refine⟨.ref s1.heap.objs.size,AV H1 s1.heap.objs.size (.tup xs),I1.laid (t':=s1.toks) (λb u e=>aO _ e) (aP _) ?_,rfl,q _ hf⟩;exact⟨z,us,r,⟨_,af _ rfl,rfl,_,rfl⟩⟩
theorem BB(h:PA X es t):PE X (.List es pos) (Vo t):=by intro ad s σ H Q I hq;refine wpAny_List_spliced (BS (h pos ad s σ H _ I hq) λus s1 ⟨xs,H1,I1,r,z,q⟩=>⟨by rw[<-r.length];exact z,?_⟩);have hf:H1 s1.heap.objs.size=none:=I1.hok.fresh (aP _);refine⟨.ref s1.heap.objs.size,AV H1 s1.heap.objs.size (.lst xs),I1.laid (t':=s1.toks) (λb u e=>aO _ e) (aP _) ?_,rfl,q _ hf⟩;exact⟨z,us,0,r,af _ rfl⟩
end
abbrev Sp:=List V->Hp->VK->XK->Prop
abbrev Sy:=List Env->Hp->qS->XK->qQ->qS->Prop
structure P5(P:qT)(w:qU)(K:qV)(mg:Str->Option qQ)(base:Heap)(A:Around)(outer:List Env)(s:qS)(H:Hp):Prop where
 frames:A.frames=some outer
 mod:Y9 K mg base
 bs:∀b o,base.get? b=some o->s.heap.get? b=some o/\H b=none
 bsz:base.objs.size<=s.heap.objs.size
 funs:s.heap.FunFrames base outer
 frf:∀b∈KB outer,H b=none
 hok:Ea P w H s.heap
 bare:AllBare s.gens
def CE(outer:List Env)(P:qT)(w:qU)(H:Hp)(s:qS)(Q:VK)(u:qQ)(s':qS):Prop:=
 ∃v H',s'.os=s.os/\AllBare s'.gens/\Un (KB outer) [] H H' s.heap s'.heap/\Ea P w H' s'.heap/\A8 v u/\Q v H'
def CR(CX:Sy)(outer:List Env)(P:qT)(w:qU)(H:Hp)(s:qS)(Q:VK)(E:XK)(r:Result)(s':qS):Prop:=
 match r with
 |.ok (.ret u)=>CE outer P w H s Q u s'
 |.ok _=>False
 |.error e=>CX outer H s E e s'
structure GC(P:qT)(w:qU)(K:qV)(mg:Str->Option qQ)(base:Heap)(CX:Sy)(k:Nat)(f:qR)(fd:FuncData)(ps:List Str)(sp:Sp):Prop where
 len:∀vs H Q E,sp vs H Q E->vs.length=ps.length
 run:∀(A:Around) (outer:List Env) (s:qS) (H:Hp) (args:Args) (us:List qQ) (vs:List V) (Q:VK) (E:XK),B7 k A->P5 P w K mg base A outer s H->BindsTo s fd args (ps.zip us)->Au vs us->sp vs H Q E ->
  codeAny (model P w) A (.call (.ref f) args) (CR CX outer P w H s Q E) s
section
variable{s:qS}
theorem AW.env0(I:AW X ad σ H s):P5 X.prog X.w X.K X.mg X.base X.A X.stack s H:=
 ⟨I.ok.frames,I.ok.mod,I.bs,bK I.ok.bsz I.sz,I.stack,I.stkFree,I.hok,I.bare⟩
theorem AW.after{Q:VK}(I:AW X ad σ H s)(h:CE X.stack X.prog X.w H s Q u s'):EP X ad σ Q u s':=by rcases h with⟨v,H',os,bare,un,hok,r,q⟩;rcases s' with⟨hh,g,d,t,os'⟩;obtain rfl:os'=s.os:=os;exact⟨v,H',I.call (h':=hh) (g':=g) (d':=d) (t':=t) (ch:=[]) un hok bare (λb z=>qG z (by simp)),r,q⟩
end
def Ge(K:qV)(fd:FuncData)(ps:List Str)(ds:List qQ):Prop:=
 ∀(s:qS) (us:List qQ),K.In s.heap->(us++ds).length=ps.length->BindsTo s fd ⟨us,[]⟩ (ps.zip (us++ds))
variable{fd:FuncData}{ps:List Str}
theorem Ge.all{K:qV}(h:∀us:List qQ,us.length=ps.length->bindArgs fd ⟨us,[]⟩=pure (ps.zip us)):Ge K fd ps []:=λs us _ hl=>by rw[au]at hl⊢;exact .of_eq (h us hl)
def PK(X:Cx)(kws:List Keyword)(t:TA):Prop:=
 ∀(pos:Pos) (ad:List (qR×Obj)) (s:qS) (σ:St) (H:Hp) (Q:List V->Hp->Prop),AW X ad σ H s->t σ H Q->wpAny (model X.prog X.w) X.A (evalAll ((backToKw pos (keywordEach kws X.env)).map (·.2))) (AP X ad σ Q) X.xe s
section
variable{CX:Sy}{k:Nat}{f:qR}{ks:List Str}{sp:Sp}{E:XK}{m:Str}{p pos apos kpos:Pos}{e o:Expr}{kws:List Keyword}{ta:TE}{t tk:TA}{nm:Option Str}
theorem Vp:PK X [] Ii:=λ_ _ _ _ H Q I h=>wpAny_evalAll_nil ⟨[],H,I,.nil,h⟩
theorem TL(ha:PE X e te)(hr:PK X kws t):PK X (⟨nm,e,kpos⟩::kws) (Ee te t):=by intro pos ad s σ H Q I h;show wpAny _ _ (evalAll ((do let v <-eval e X.env;standAt pos;pure v)::(backToKw pos (keywordEach kws X.env)).map (·.2))) _ _ s;refine wpAny_evalAll_cons (qC (BS (ha ad s σ H _ I h) λu s1 ⟨x,H1,I1,r1,q1⟩=>qC (wpAny_standAt (qD ?_))));exact BS (hr pos ad s1 σ H1 _ I1 q1) λus s2 ⟨xs,H2,I2,r2,q2⟩=>⟨x::xs,H2,I2,.cons r1 r2,q2⟩
variable{g:List qQ->List qQ->List qQ}{gV:List V->List V->List V}
end
structure AO(N P:List Str)(sc:Scope):Prop where
 kind:sc.kind=.function
 co:sc.isCoroutine=false
 gen:sc.isGenerator=false
 nd:N.Nodup
 pre:N.take P.length=P
 par:∀x∈P,sc.names.lookup x=some .local\/sc.names.lookup x=some .cell
 nofree:∀y∈sc.names,y.2≠.free
variable{kindOf:Str->Option NameKind}
theorem Iw:∀{binds:List (Str×qQ)} {m:Str->Option qQ},(∀v,(x,v)∉binds)->bindL kindOf binds m x=m x
 |[],_,_=>rfl
 | (n,v)::r,m,h=>by
  unfold bindL;rw[Iw λw hw=>h w (aa _ hw)];split
  ·have:x≠n:=by rintro rfl;exact h v ai
   simp[this]
  ·rfl
theorem Ix:∀{binds:List (Str×qQ)} {m:Str->Option qQ},(∀v,(x,v)∉binds)->bindC kindOf binds m x=m x
 |[],_,_=>rfl
 | (n,v)::r,m,h=>by
  unfold bindC;rw[Ix λw hw=>h w (aa _ hw)];split
  ·rfl
  ·have:x≠n:=by rintro rfl;exact h v ai
   simp[this]
theorem GD{v:qQ}:∀{P:List Str} {vs:List qQ} {i:Nat} {m:Str->Option qQ},P.Nodup->P[i]?=some x->vs[i]?=some v->kindOf x=some .local ->
  bindL kindOf (P.zip vs) m x=some v
 |[],_,_,_,_,h,_,_=>by simp at h
 |_::_,[],_,_,_,_,h,_=>by simp at h
 |p::P,w::vs,0,m,nd,h1,h2,hk=>by simp at h1 h2;subst h1;subst h2;show bindL kindOf ((p,w)::P.zip vs) m p=_;unfold bindL;rw[Iw λv hv=>(bu.mp nd).1 (eJ hv).1,qF hk];simp
 |p::P,w::vs,i+1,m,nd,h1,h2,hk=>by show bindL kindOf ((p,w)::P.zip vs) m x=_;unfold bindL;exact GD (i:=i) (List.nodup_cons.mp nd).2 (by simpa using h1) (by simpa using h2) hk
theorem GF{v:qQ}:∀{P:List Str} {vs:List qQ} {i:Nat} {m:Str->Option qQ},P.Nodup->P[i]?=some x->vs[i]?=some v->kindOf x≠some .local ->
  bindC kindOf (P.zip vs) m x=some v
 |[],_,_,_,_,h,_,_=>by simp at h
 |_::_,[],_,_,_,_,h,_=>by simp at h
 |p::P,w::vs,0,m,nd,h1,h2,hk=>by simp at h1 h2;subst h1;subst h2;show bindC kindOf ((p,w)::P.zip vs) m p=_;unfold bindC;rw[Ix λv hv=>(bu.mp nd).1 (eJ hv).1,qE hk];simp
 |p::P,w::vs,i+1,m,nd,h1,h2,hk=>by show bindC kindOf ((p,w)::P.zip vs) m x=_;unfold bindC;exact GF (i:=i) (List.nodup_cons.mp nd).2 (by simpa using h1) (by simpa using h2) hk
noncomputable def DA(N:List Str)(vs:List V):St:=vs.map some++List.replicate (N.length-vs.length) none
noncomputable def Gs(CX:Sy)(P:qT)(w:qU)(K:qV)(mg:Str->Option qQ)(base:Heap)(N:List Str)(qual:Str)(scope:Scope)(f:qR)(cd:qQ)(A:Around)(outer:List Env)(s:qS)(H:Hp)(E:XK):Cx where
 prog:=P
 w:=w
 K:=K
 mg:=mg
 base:=base
 A:=A.deeper (envOfC qual scope s.heap.objs.size f cd)
 N:=N
 s₀:=s
 H₀:=H
 env:=envOfC qual scope s.heap.objs.size f cd
 outer:=outer
 stack:=envOfC qual scope s.heap.objs.size f cd::outer
 ex:=[]
 calm:=true
 fn:=λ_=>true
 pn:=[]
 xe:=λe s'=>wpAny (model P w) (A.deeper (envOfC qual scope s.heap.objs.size f cd)) (leaving (envOfC qual scope s.heap.objs.size f cd) e) (λ_ s''=>CX outer H s E e s'') (λe' s''=>CX outer H s E e' s'') s'
theorem Ff{sc:Scope}{n:Nat}(h:sc.names.lookup x=some .cell):∃c,(cellsFrom n sc.names []).lookup x=some c:=by have q:=fF sc.names n [] (.inl h);exact dg.mp q
variable{CX:Sy}{qual:Str}{scope:Scope}
theorem Oj{P:qT}{w:qU}{K:qV}{mg:Str->Option qQ}{base:Heap}{N:List Str}{f:qR}{cd:qQ}{A:Around}{outer:List Env}{s s1:qS}{E:XK}{vs:List V}
  (S:AO N ps scope) (hd:A.handled=none) (e0:P5 P w K mg base A outer s H) (hl:vs.length=ps.length) (r:Au vs us)
  (x:InCallC s s.heap.objs.size (bindL (envOfC qual scope s.heap.objs.size f cd).kindOf (ps.zip us) λ_=>none) (cellsFrom (s.heap.objs.size+1) scope.names []) (bindC (envOfC qual scope s.heap.objs.size f cd).kindOf (ps.zip us) λ_=>none) s1):
  AW (Gs CX P w K mg base N qual scope f cd A outer s H E) [] (DA N vs) H s1:=by
 have hpl:ps.length<=N.length:=by have:=qP List.length S.pre;rw[bQ]at this;lia
 obtain⟨h1,tk,rfl,hk⟩:=x.done;have noA:∀b:qR,b∉(Gs CX P w K mg base N qual scope f cd A outer s H E).ex:=λb z=>qG (show b∈([]:List qR) from z) (by simp)
 refine⟨⟨e0.mod,S.kind,rfl,rfl,aP _,λy z c h1 h2=>?_,λy hy=>?_,λy c _ h=>?_,λ_=>hd,Around.frames_deeper e0.frames,.inr ⟨rfl,rfl⟩,λb z=>qG z (noA b),e0.bs,e0.bsz,λb _ _=>noA b,λb z=>qG z (noA b),e0.funs,e0.frf⟩,
  rfl,e0.bare,Un.kept hk,⟨_,x.toInCall.ns,λi y v h1 h2 h3=>?_⟩,λy c h=>⟨_,x.cell y c h⟩,e0.hok.fresh (Nat.le_refl _),λy c h=>?_,λp hp=>qG (show p∈([]:List (qR×Obj)) from hp) (by simp),e0.hok.kept hk,?_⟩
 ·exact name_of_addr x.apart (bp h1) (bp h2)
 ·have hy:scope.names.lookup y=some .cell\/scope.names.lookup y=some .free:=hy;rcases hy with hy|hy
  ·exact Ff hy
  ·exact qG rfl (S.nofree _ (bp hy))
 ·exact cr (x.above y c (bp h))
 ·have hi:i<vs.length:=by
   unfold DA at h2
   by_cases hi:i<vs.length
   ·exact hi
   ·rw[List.getElem?_append_right (by simpa using hi)]at h2;rw[List.getElem?_replicate]at h2
    split at h2<;>cases h2
  have ha:vs[i]?=some v:=by
   unfold DA at h2;rw[List.getElem?_append_left (by simpa using hi),List.getElem?_map]at h2;cases e:vs[i]? with
   |none=>rw[e]at h2;cases h2
   |some a=>rw[e]at h2;cases h2;rfl
  obtain⟨u,hu,rv⟩:=r.get ha
  have hp:ps[i]?=some y:=by rw[<-S.pre,List.getElem?_take_of_lt (by lia)];exact h1
  have ndP:ps.Nodup:=by rw[<-S.pre];exact S.nd.sublist (List.take_sublist _ _)
  refine⟨u,rv,?_⟩;rcases S.par y (ae hp) with k|k
  ·exact .inl ⟨k,GD ndP hp hu k⟩
  ·obtain⟨c,e⟩:=Ff (n:=s.heap.objs.size+1) k;refine .inr ⟨.inl k,c,e,?_⟩;have q:=x.cell y c e;rw[GF ndP hp hu (by show scope.names.lookup y≠_;rw[k];decide)]at q;exact q
 ·exact e0.hok.fresh (cr (x.above y c (bp h)))
 ·unfold DA;show _=N.length;rw[aU,aH,List.length_replicate];lia
variable{name:Str}{params:Arguments}{doc fi oc:qQ}{an od:Option qR}
theorem Ue{P:qT}{w:qU}{K:qV}{mg:Str->Option qQ}{base:Heap}{k:Nat}{f:qR}{dV kV pm ct:qQ}
  {osl:Array (Option qQ)} {N ps:List Str} {sp:Sp} (lk:K.lookup f=some ⟨oc,od,.func (PySem.W.fnOf name qual params body scope dV kV doc pm an fi ct),osl⟩) (hcd:PySem.W.codeIn K fi qual=true) (S:AO N ps scope)
  (len:∀vs H Q E,sp vs H Q E->vs.length=ps.length)
  (hbody:∀(A:Around) (outer:List Env) (s:qS) (H:Hp) (vs:List V) (Q:VK) (E:XK),B7 k (A.deeper (envOfC qual scope s.heap.objs.size f fi))->sp vs H Q E ->
   ∃t,Ic (Gs CX P w K mg base N qual scope f fi A outer s H E) body t/\t {nx:=λ_ H'=>Q .non H',rt:=Q} (DA N vs) H):
  GC P w K mg base CX (k+1) f (PySem.W.fnOf name qual params body scope dV kV doc pm an fi ct) ps sp:=by
 refine⟨len,λA outer s H args us vs Q E hr e0 hb r hsp=>?_⟩;have hl:=len _ _ _ _ hsp;have KX:K.In s.heap:=e0.mod.kin.keeps λb o e=>(e0.bs b o e).1
 have lim:s.heap.NoLimit:=e0.mod.nolimit.keeps λb o e=>(e0.bs b o e).1
 have hkind:∀y∈ps.zip us,scope.names.lookup y.1=some .local\/(scope.names.lookup y.1=some .cell/\((cellsFrom (s.heap.objs.size+1) scope.names []).lookup y.1).isSome=true):=λ⟨n,v⟩ hy=>by
  rcases S.par n (eJ hy).1 with q|q
  ·exact .inl q
  ·exact .inr ⟨q,fF _ _ _ (.inl q)⟩
 refine codeAny_call_function hr.depth (KX _ _ lk) rfl S.co S.gen rfl (PySem.W.codeRec_of KX hcd) (hb _ _ _ _ ?_);refine wpAny_newFunctionEnv_cells S.kind hkind λenv he s1 x=>?_;subst he;refine⟨lim.keeps x.toInCall.keep,codeAny_func ?_⟩;obtain⟨t,ht,hq⟩:=hbody A outer s H vs Q E (hr.deeper _) hsp;have I:AW (Gs CX P w K mg base N qual scope f fi A outer s H E) [] (DA N vs) H s1:=Oj S hr.hd e0 hl r x;refine qM (ht [] s1 (DA N vs) H _ I hq) (λfl s' hs=>?_) λe s' hs=>hs
 have fin:∀{σ':St} {H':Hp} {v:V} {u:qQ},AW (Gs CX P w K mg base N qual scope f fi A outer s H E) [] σ' H' s'->A8 v u->Q v H'->CE outer P w H s Q u s':=
  λ{σ' H' v u} J rv q=>⟨v,H',J.os,J.bare,J.base,J.hok,rv,q⟩
 cases fl with
 |ret u =>
  obtain⟨v,σ',H',J,rv,q⟩:=hs;exact fin J rv q
 |next =>
  obtain⟨σ',H',J,q⟩:=hs;exact fin (v:=V.non) (u:=Value.none) J rfl q
 |brk =>
  obtain⟨_,_,_,q⟩:=hs;exact False.elim q
 |cont =>
  obtain⟨_,_,_,q⟩:=hs;exact False.elim q
section
variable{p pos:Pos}{e:Expr}{t:TA}{id T:String}{r:List V->Hp->VK->Prop}
def Xd(r:List V->Hp->VK->Prop)(t:TA):TE:=λσ H Q=>t σ H λvs H1=>r vs H1 Q
theorem Ad(hc:CT X (.builtin id) r)(hg:Gl X x)(hm:X.mg x=none)(hv:bootBuiltins x=some (.builtin id))(ha:PA X (e::es) t)(hn:x≠"__name__":=by decide)(hdb:(x==("__debug__":Str))=false:=by decide)
  (he:starEach (e::es) X.env=(false,eval e X.env)::starEach es X.env:=by rfl) (hpl:(backTo pos (starEach es X.env)).any (·.1)=false:=by rfl):PE X (.Call (.Name x p) (e::es) [] pos) (Xd r t):=by
 intro ad s σ H Q I h;refine wpAny_Call_Name_kw (Co I hg hm hv ?_ hn hdb);exact PyProof.Rows.callWith_builtin1 (BS (ha pos ad s σ H _ I h) λus s1 ⟨vs,H1,I1,r1,q1⟩=>hc ad s1 σ H1 vs us Q I1 r1 q1) he hpl
theorem Bm(hc:CT X (.type T) r)(hg:Gl X x)(hm:X.mg x=none)(hv:bootBuiltins x=some (.type T))(ha:PA X (e::es) t)(hn:x≠"__name__":=by decide)(hdb:(x==("__debug__":Str))=false:=by decide)
  (he:starEach (e::es) X.env=(false,eval e X.env)::starEach es X.env:=by rfl) (hpl:(backTo pos (starEach es X.env)).any (·.1)=false:=by rfl):PE X (.Call (.Name x p) (e::es) [] pos) (Xd r t):=by
 intro ad s σ H Q I h;refine wpAny_Call_Name_kw (Co I hg hm hv ?_ hn hdb);exact bX (BS (ha pos ad s σ H _ I h) λus s1 ⟨vs,H1,I1,r1,q1⟩=>hc ad s1 σ H1 vs us Q I1 r1 q1) he hpl
end
end L2
namespace HT
open PySem PyProof.Rows
noncomputable def Cd:qW->qW->Bool
 |[],[]=>false
 |[],_::_=>true
 |_::_,[]=>false
 |x::xs,y::ys=>if x=y then Cd xs ys else decide (x<y)
theorem EC(x y:Int)(xs ys:qW):Cd (x::xs) (y::ys)=if x=y then Cd xs ys else decide (x<y):=rfl
theorem Di:Cd [] []=false:=rfl
theorem HL(y:Int)(ys:qW):Cd [] (y::ys)=true:=rfl
theorem DB(x:Int)(xs:qW):Cd (x::xs) []=false:=rfl
section
variable{prog:qT}{w:qU}{A:Around}{E:qQ->qS->Prop}{s:qS}
theorem TM{t b:qR}{vs ws:List qQ}{Q:qQ->qS->Prop}(ht:IsTup s.heap t vs.toArray)(hb:IsTup s.heap b ws.toArray)(hv:vs≠[])
  (h1:ws=[]->Q (.ref t) s) (h2:ws≠[]->Q (.ref s.heap.objs.size) {s with heap:=s.heap.push {cls:=.type "tuple",data:=.seq (vs++ws).toArray}})
  (hsz:vs.length+ws.length<=sizeLine):wpAny (model prog w) A (binaryOp .Add (.ref t) (.ref b)) Q E s:=by
 rcases id ht with⟨⟨cls,dd,data,sl⟩,ho,hc,n,hd⟩;rcases id hb with⟨⟨cls2,dd2,data2,sl2⟩,ho2,hc2,n2,hd2⟩;simp only at hc hd hc2 hd2;subst hc hd hc2 hd2;have e:vs.toArray++ws.toArray=(vs++ws).toArray:=by simp
 by_cases hw:ws=[]
 ·exact concat_meets ⟨_,ho,rfl⟩ ⟨_,ho2,rfl⟩ noFill_tuple_add seq_tuple_add PySem.F.slot_tuple_add PySem.F.entry_tuple_add (PySem.F.args_tuple_add_2 _ _)
   (tuple_addW1 t b vs.toArray ws.toArray n n2 dd dd2 sl sl2 (by simpa using hv) (by simp[hw])) ⟨ho,ho2,h1 hw⟩
 ·refine concat_meets ⟨_,ho,rfl⟩ ⟨_,ho2,rfl⟩ noFill_tuple_add seq_tuple_add PySem.F.slot_tuple_add PySem.F.entry_tuple_add (PySem.F.args_tuple_add_2 _ _)
   (tuple_addW2 t b vs.toArray ws.toArray n n2 dd dd2 sl sl2 (by simpa using hv) (by simpa using hw) (by rw[List.size_toArray,List.size_toArray];exact hsz)) ⟨ho,ho2,?_⟩
  rw[e];exact h2 hw
noncomputable def KQ(n d:Nat):Option Int->Nat
 |none=>d
 |some v=>if v<0 then (v+(n:Int)).toNat else min v.toNat n
end
end HT
namespace L2
open PySem PySem.Spec PyProof.Rows
variable{H:Hp}{X:Cx}{es:List Expr}{j t':Nat}{name:Str}{ad:List (qR×Obj)}{te to:TE}{us:List qQ}{xs:List V}{α:Type}{σ:St}
abbrev TO:=St->Hp->(Option Int->Hp->Prop)->Prop
def PO(X:Cx)(e:Option Expr)(t:TO):Prop:=
 ∀(ad:List (qR×Obj)) (s:qS) (σ:St) (H:Hp) (Q:Option Int->Hp->Prop),AW X ad σ H s->t σ H Q ->
  wpAny (model X.prog X.w) X.A (evalPart e X.env) (λu s'=>∃o H',AW X ad σ H' s'/\IsPart u o/\Q o H') X.xe s
def NE:TO:=λ_ H Q=>Q none H
def Uf(t:TE):TO:=λσ H Q=>t σ H λx H1=>∃i,x=.int i/\Q (some i) H1
theorem ED{ns:qW}:∀{us:List qQ},Au (ns.map V.int) us->IntsAre us ns:=by
 induction ns with
 |nil=>intro us r;rw[List.map_nil]at r;cases r;exact .nil
 |cons n ns ih =>
  intro us r;rw[bv]at r;cases r with
  |cons r1 r2 =>
   obtain⟨t,e⟩:=r1;subst e;exact .cons n t (ih r2)
section
variable{e:Expr}{lo hi:Option Expr}{tl th:TO}{pos p2:Pos}
theorem Jf:PO X none NE:=by intro ad s σ H Q I h;rw[evalPart_none];exact qD ⟨none,H,I,.none,h⟩
theorem Jg(h:PE X e te):PO X (some e) (Uf te):=by intro ad s σ H Q I hw;rw[evalPart_some];refine BS (h ad s σ H _ I hw) λu s1 z9=>?_;obtain⟨x,H1,I1,r1,q1⟩:=z9;obtain⟨i,rfl,q⟩:=q1;obtain⟨t,rfl⟩:=r1;exact⟨some i,H1,I1,.int i t,q⟩
def Z3(X:Cx)(r:V->Option Int->Option Int->Hp->VK->Prop):Prop:=
 ∀(ad:List (qR×Obj)) (s:qS) (σ:St) (H:Hp) (x:V) (v vl vu:qQ) (lo hi:Option Int) (sl:qR) (Q:VK),AW X ad σ H s->A8 x v->s.heap.IsSliceOf sl vl vu .none->IsPart vl lo->IsPart vu hi->r x lo hi H Q ->
  ∃T id,typeLookup (.type T) "__getitem__"=pure (some (.builtin id))/\s.TypeIs v T/\wpAny (model X.prog X.w) X.A (getItem v (.ref sl)) (EP X ad σ Q) X.xe s
def Z4(r:V->Option Int->Option Int->Hp->VK->Prop)(te:TE)(tl th:TO):TE:=λσ H Q=>te σ H λx H1=>tl σ H1 λl H2=>th σ H2 λu H3=>r x l u H3 Q
theorem HM{r:V->Option Int->Option Int->Hp->VK->Prop}(hr:Z3 X r)(he:PE X e te)(hl:PO X lo tl)(hu:PO X hi th):PE X (.Subscript e (.Slice lo hi none p2) pos) (Z4 r te tl th):=by
 intro ad s σ H Q I h;refine Subscript_ (BS (he ad s σ H _ I h) λv s1 z9=>?_);obtain⟨x,H1,I1,r1,q1⟩:=z9;refine wpAny_Slice (BS (hl ad s1 σ H1 _ I1 q1) λvl s2 ⟨l,H2,I2,pl,q2⟩=>BS (hu ad s2 σ H2 _ I2 q2) λvu s3 z9=>?_);obtain⟨u,H3,I3,pu,q3⟩:=z9;rw[evalPart_none];refine qD ?_;have I4:AW X ad σ H3 {s3 with heap:=s3.heap.push {cls:=.type "slice",data:=.fields #[vl,vu,.none]}}:=I3.kept (t':=s3.toks) λb ob q=>aO _ q
 obtain⟨T,id,hT,ht,hg⟩:=hr ad {s3 with heap:=s3.heap.push {cls:=.type "slice",data:=.fields #[vl,vu,.none]}} σ H3 x v vl vu l u s3.heap.objs.size Q I4 r1 (Heap.IsSliceOf.new ..) pl pu q3;show wpAny (model X.prog X.w) X.A (subscriptTail e (.Slice lo hi none p2) v (.ref s3.heap.objs.size)) (EP X ad σ Q) X.xe {s3 with heap:=s3.heap.push {cls:=.type "slice",data:=.fields #[vl,vu,.none]}};exact tail_any (ops:=[.ref s3.heap.objs.size,v]) ht hT hg (by with_unfolding_all rfl)
noncomputable def Jh(xs:List V)(lo hi:Option Int):List V:=(xs.drop (HT.KQ xs.length 0 lo)).take (HT.KQ xs.length xs.length hi-HT.KQ xs.length 0 lo)
theorem KR(xs:List V)(lo hi:Option Int):(Jh xs lo hi).length<=xs.length:=by unfold Jh;rw[bQ,cN];lia
def Ug(K:qV):R2:=λx y H Q=>∃a b xs ys,x=.ref a/\y=.ref b/\Aa K H a xs/\Aa K H b ys/\xs≠[]/\xs.length+ys.length<=sizeLine /\
 (ys=[]->Q (.ref a) H)/\(ys≠[]->∀p,H p=none->Q (.ref p) (AV H p (.tup (xs++ys))))
theorem Au.nil_iff(r:Au xs us):us=[]↔xs=[]:=by
 cases r with
 |nil=>simp
 |cons _ _=>simp
theorem TN:Fa X (binaryOp .Add) (Ug X.K):=by intro ad s σ H x y v u Q I rx ry h;obtain⟨a,b,xs,ys,rfl,rfl,ha,hb,hx,hz,q1,q2⟩:=h;cases rx;cases ry;obtain⟨its,r1,p1,_⟩:=I.tuple ha;obtain⟨its2,r2,p2,_⟩:=I.tuple hb;refine HT.TM p1 p2 (λz=>hx (r1.nil_iff.mp z)) (λz=>⟨.ref a,H,I,rfl,q1 (r2.nil_iff.mp z)⟩) (λz=>?_) (by rw[<-r1.length,<-r2.length];exact hz);refine⟨.ref s.heap.objs.size,_,I.laid (t':=s.toks) (o:=.tup (xs++ys)) (λb ob q=>aO _ q) (aP _) ?_,rfl,q2 (λw=>z (r2.nil_iff.mpr w)) _ (I.hok.fresh (aP _))⟩;exact⟨by rw[aU];exact hz,_,r1.append r2,IsTup.new _ _⟩
end
noncomputable def NF(n:Nat)(i:Int):Option Nat:=if 0<=i then (if i<n then some i.toNat else none) else if -(n:Int)<=i then some (i+n).toNat else none
noncomputable def Iy{α:Type}(xs:List α)(i:Int):Option α:=(NF xs.length i).bind λj=>xs[j]?
theorem NG{n:Nat}{i:Int}(h:NF n i=some j):seqIndex? i n=some j/\j<n/\-(n:Int)<=i/\i<n:=by
 unfold NF at h
 by_cases h0:0<=i
 ·rw[qF h0]at h
  by_cases h1:i<n
  ·rw[qF h1]at h;have e:i.toNat=j:=Option.some.inj h;exact⟨by rw[seqIndex_of h0 h1,e],by lia,by lia,h1⟩
  ·rw[qE h1]at h;cases h
 ·rw[qE h0]at h
  by_cases h1:-(n:Int)<=i
  ·rw[qF h1]at h;have e:(i+n).toNat=j:=Option.some.inj h;exact⟨by rw[seqIndex_neg (by lia) h1,e],by lia,h1,by lia⟩
  ·rw[qE h1]at h;cases h
theorem NH{xs:List α}{i:Int}{v:α}(h:Iy xs i=some v):∃j,seqIndex? i xs.length=some j/\xs[j]?=some v/\j<xs.length/\-(xs.length:Int)<=i/\i<xs.length:=by
 unfold Iy at h;cases e:NF xs.length i with
 |none=>rw[e]at h;cases h
 |some j =>
  rw[e]at h;obtain⟨h1,h2,h3,h4⟩:=NG e;exact⟨j,h1,h,h2,h3,h4⟩
theorem G3{xs:List α}{v:α}(h:xs[j]?=some v):Iy xs (j:Int)=some v:=by
 have hj:j<xs.length:=(aN.mp h).1
 have e:NF xs.length (j:Int)=some j:=by unfold NF;rw[qF (by lia),qF (by lia)];simp
 unfold Iy;rw[e];exact h
def NI(b:Expr):Prop:=∀o i,subscripted b false o i=operate [o,i] (getItem o i)
def Uh(X:Cx)(r:R2):Prop:=
 ∀(value slice:Expr) (ad:List (qR×Obj)) (s:qS) (σ:St) (H:Hp) (x y:V) (v u:qQ) (Q:VK),AW X ad σ H s->A8 x v->A8 y u->r x y H Q ->
  subscripted slice false v u=operate [v,u] (getItem v u)->wpAny (model X.prog X.w) X.A (subscriptTail value slice v u) (EP X ad σ Q) X.xe s
def TQ(X:Cx)(id:String)(r:V->List V->Hp->VK->Prop):Prop:=
 ∀(ad:List (qR×Obj)) (s:qS) (σ:St) (H:Hp) (x:V) (xs:List V) (v:qQ) (us:List qQ) (Q:VK),AW X ad σ H s->A8 x v->Au xs us->r x xs H Q ->
  wpAny (model X.prog X.w) X.A (call (.builtin id) (v::us)) (EP X ad σ Q) X.xe s
variable{ys:List V}{its:List qQ}{T:String}
section
variable{a b:Expr}{ta tb:TE}{pos:Pos}
theorem AJ{r:R2}(hr:Uh X r)(ha:PE X a ta)(hb:PE X b tb)(hs:NI b):PE X (.Subscript a b pos) (Xc r ta tb):=by intro ad s σ H Q I h;exact Subscript_ (Vj ha hb I h λv u s2 x y H2 I2 rx ry q=>hr a b ad s2 σ H2 x y v u Q I2 rx ry q (hs _ _))
def TR(K:qV):R2:=λx y H Q=>∃p xs i v,x=.ref p/\y=.int i/\Af K H p xs/\Iy xs i=some v/\Q v H
def TU(K:qV):R2:=λx y H Q=>∃p xs i v,x=.ref p/\y=.int i/\Aa K H p xs/\Iy xs i=some v/\Q v H
theorem NJ:Uh X (TR X.K):=by
 intro value slice ad s σ H x y v u Q I rx ry h hs;rcases h with⟨p,xs,i,z,rfl,rfl,hq,he,q⟩;cases rx;obtain⟨t,rfl⟩:=ry;rcases I.list hq with⟨its,r,pl,hz⟩;rcases NH he with⟨j,h1,h2,h3,h4,h5⟩;obtain⟨w,ew,rw'⟩:=r.get h2;have hl:=r.length;have hn:=Je;have fin:EP X ad σ Q w s:=⟨z,H,I,rw',q⟩
 by_cases h0:0<=i
 ·have hj:i.toNat=j:=by
   rw[seqIndex_of h0 h5]at h1;exact Option.some.inj h1
  exact item_listR pl.isList h0 (by lia) (by rw[hj];simpa using ew) fin hs
 ·have hj:(i+(its.toArray.size:Int)).toNat=j:=by
   rw[seqIndex_neg (by lia) h4]at h1;rw[bV,<-hl];exact Option.some.inj h1
  exact subscriptTail_builtinR (x:=w) pl.isList.typeIs slot_list_getitem.lookup
   (wpAny_getItem_list_neg (Q:=λr s'=>r=w/\EP X ad σ Q r s') pl.isList (by lia) (by rw[List.size_toArray]<;>lia) (by lia) (by rw[hj];simpa using ew) ⟨rfl,fin⟩) hs
theorem P6:Uh X (TU X.K):=by
 intro value slice ad s σ H x y v u Q I rx ry h hs;obtain⟨p,xs,i,z,rfl,rfl,hq,he,q⟩:=h;cases rx;obtain⟨t,rfl⟩:=ry;obtain⟨its,r,pl,hz⟩:=I.tuple hq;obtain⟨j,h1,h2,h3,h4,h5⟩:=NH he;obtain⟨w,ew,rw'⟩:=r.get h2;have hl:=r.length;have hn:=Je;have fin:EP X ad σ Q w s:=⟨z,H,I,rw',q⟩
 exact subscriptTail_builtinR (x:=w) pl.typeIs slot_tuple_getitem.lookup
  (getItem_tuple (j:=j) (Q:=λr s'=>r=w/\EP X ad σ Q r s') pl (by lia) (by lia) (by rw[List.size_toArray,<-hl];exact h1) (by simpa using ew) ⟨rfl,fin⟩) hs
theorem Lw(its:List qQ)(n j:Nat)(u:qQ):Obj.mapSeq (·.setIfInBounds j u) {cls:=.type "list",data:=.seq its.toArray n}={cls:=.type "list",data:=.seq (its.set j u).toArray n}:=by simp[Obj.mapSeq]
theorem AW.lst{s:qS}{p:qR}(I:AW X ad σ H s)(h:H p=some (.lst xs)):
  ∃(its:List qQ) (n:Nat),Au xs its/\s.heap.get? p=some {cls:=.type "list",data:=.seq its.toArray n}/\xs.length<=sizeLine:=by
 rcases I.hok p _ h with⟨z,its,n,r,e⟩;exact⟨its,n,r,e,z⟩
theorem AW.lstUpd{s:qS}{p:qR}{its':List qQ}{n n':Nat}{f:Obj->Obj}(I:AW X ad σ H s)(h:H p=some (.lst xs))
  (ho:s.heap.get? p=some {cls:=.type "list",data:=.seq its.toArray n}) (hf:f {cls:=.type "list",data:=.seq its.toArray n}={cls:=.type "list",data:=.seq its'.toArray n'}) (r:Au ys its') (hz:ys.length<=sizeLine) (t:Nat):
  AW X ad σ (AV H p (.lst ys)) {s with heap:=s.heap.update p f,toks:=t}:=by
 have e:(s.heap.update p f).get? p=some {cls:=.type "list",data:=.seq its'.toArray n'}:=by rw[dQ f ho (by rw[hf]<;>rfl),hf]
 refine I.write (x:=p) (e:=p) (by rw[h];trivial) (.inl rfl) (λb u hb q=>(cj _ _ (Ne.symm hb)).trans q) ⟨_,e⟩ ?_;exact⟨hz,its',n',r,e⟩
def Xt:V->V->V->Hp->(Hp->Prop)->Prop:=λo i v H Q=>∃p xs k j,o=.ref p/\i=.int k/\H p=some (.lst xs)/\NF xs.length k=some j/\Q (AV H p (.lst (xs.set j v)))
theorem KS:Xm X Xt:=by
 intro ad s σ H o i v ov iv u Q I ro ri rv h;rcases h with⟨p,xs,k,j,rfl,rfl,hp,hj,q⟩;cases ro;obtain⟨t,rfl⟩:=ri;rcases I.lst hp with⟨its,n,r,ho,hz⟩;rcases NG hj with⟨h1,h2,h3,h4⟩;have hl:=r.length;have hn:=Je
 have I':AW X ad σ (AV H p (.lst (xs.set j v))) {s with heap:=s.heap.update p (Obj.mapSeq (·.setIfInBounds j u))}:=
  I.lstUpd hp ho (Lw its n j u) (r.set rv j) (by rw[dJ];exact hz) s.toks
 by_cases h0:0<=k
 ·have hk:k.toNat=j:=by
   rw[seqIndex_of h0 h4]at h1;exact Option.some.inj h1
  exact PySem.W.ki_setAt ho h0 (by lia) (by rw[bV,<-hl];exact h4) (by rw[hk];exact⟨_,I',q⟩)
 ·have hk:(k+(its.toArray.size:Int)).toNat=j:=by
   rw[seqIndex_neg (by lia) h3]at h1;rw[bV,<-hl];exact Option.some.inj h1
  exact PySem.W.ki_setBack ho (by lia) (by rw[bV,<-hl];exact h3) (by lia) (by rw[hk];exact⟨_,I',q⟩)
theorem Ji(lo hi:Option Int)(n:Nat):(sliceBounds lo hi none n).1=((HT.KQ n 0 lo:Nat):Int)/\(sliceBounds lo hi none n).2.1=((HT.KQ n n hi:Nat):Int)/\(sliceBounds lo hi none n).2.2=1:=by
 refine⟨?_,?_,rfl⟩
 ·cases lo with
  |none=>simp[sliceBounds,HT.KQ]
  |some i =>
   simp only[sliceBounds,HT.KQ,Option.getD_none,show (1:Int)>0 by decide,if_true]
   by_cases h:i<0
   ·simp only[h,if_true]<;>lia
   ·simp only[h,if_false]<;>lia
 ·cases hi with
  |none=>simp[sliceBounds,HT.KQ]
  |some i =>
   simp only[sliceBounds,HT.KQ,Option.getD_none,show (1:Int)>0 by decide,if_true]
   by_cases h:i<0
   ·simp only[h,if_true]<;>lia
   ·simp only[h,if_false]<;>lia
theorem Ij(its:List qQ)(lo hi:Option Int):slicePick its.toArray lo hi none=((its.drop (HT.KQ its.length 0 lo)).take (HT.KQ its.length its.length hi-HT.KQ its.length 0 lo)).toArray:=by obtain⟨h1,h2,h3⟩:=Ji lo hi its.toArray.size;unfold slicePick;rw[h1,h2,h3];simp only[sliceRange_one,pick_run,List.size_toArray]<;>rfl
def Xu(K:qV):V->Option Int->Option Int->Hp->VK->Prop:=λx lo hi H Q=>∃a xs,x=.ref a/\Af K H a xs/\∀p,H p=none->Q (.ref p) (AV H p (.lst (Jh xs lo hi)))
theorem Jj:Z3 X (Xu X.K):=by intro ad s σ H x v vl vu lo hi sl Q I rx hs pl pu h;rcases h with⟨a,xs,rfl,hx,q⟩;cases rx;rcases I.list hx with⟨its,r,ht,hz⟩;have hlen:=r.length;refine⟨"list",_,slot_list_getitem.lookup,ht.isList.typeIs,?_⟩;refine wpAny_getItem_list_slice ht.isList hs pl pu .none (by simp) ?_ (by rw[List.size_toArray]<;>lia);rw[Ij,<-hlen];refine⟨.ref s.heap.objs.size,_,I.laid (t':=s.toks) (o:=.lst (Jh xs lo hi)) (λb ob q=>aO _ q) (aP _) ?_,rfl,q _ (I.hok.fresh (aP _))⟩;exact⟨bK (KR xs lo hi) hz,_,0,(r.drop (HT.KQ xs.length 0 lo)).take (HT.KQ xs.length xs.length hi-HT.KQ xs.length 0 lo),af _ rfl⟩
theorem Fg:CT X (.builtin "len") (λxs H Q=>∃p ys,xs=[.ref p]/\(Af X.K H p ys\/Aa X.K H p ys)/\Q (.int ys.length) H):=by
 intro ad s σ H xs us Q I r h;rcases h with⟨p,ys,rfl,hq,q⟩;obtain⟨u,rfl,rx⟩:=FH r;cases rx;have hn:=Je;rcases hq with hq|hq
 ·rcases I.list hq with⟨its,r',pl,hz⟩;have hlen:=r'.length;exact Calls.call_len_list pl.isList (by simp only[List.size_toArray]<;>lia) ⟨.int ys.length,H,I.tok _,⟨s.toks+1,by rw[List.size_toArray,hlen]⟩,q⟩
 ·rcases I.tuple hq with⟨its,r',pl,hz⟩;have hlen:=r'.length;exact len_tuple pl (by simp only[List.size_toArray]<;>lia) ⟨.int ys.length,H,I.tok _,⟨s.toks+1,by rw[List.size_toArray,hlen]⟩,q⟩
theorem Jk:CT X (.type "list") (λxs H Q=>∃p ys,xs=[.ref p]/\(Af X.K H p ys\/Aa X.K H p ys)/\∀l,H l=none->Q (.ref l) (AV H l (.lst ys))):=by
 intro ad s σ H xs us Q I r h;rcases h with⟨p,ys,rfl,hq,q⟩;obtain⟨u,rfl,rx⟩:=FH r;cases rx
 have fin:∀(its:List qQ),Au ys its->ys.length<=sizeLine->∀(h':Heap) (c':Nat),(∀b o',s.heap.get? b=some o'->h'.get? b=some o') ->
   h'.get? s.heap.objs.size=some {cls:=.type "list",dict:=none,data:=.seq its.toArray c',slots:=#[]}->EP X ad σ Q (.ref s.heap.objs.size) {s with heap:=h'}:=λits r' hz h' c' kp e =>
  ⟨.ref s.heap.objs.size,_,I.laid (t':=s.toks) kp (aP _) (show Ap X.prog X.w _ h' _ (.lst ys) from⟨hz,its,c',r',e⟩),rfl,q _ (I.hok.fresh (aP _))⟩
 rcases hq with hq|hq
 ·rcases I.list hq with⟨its,r',pl,hz⟩;have hlen:=r'.length;rcases pl.isList with⟨o,ho,hc,n,hd⟩;exact call_list_seq p (.inl rfl) ho hc hd (λh' c' kp e=>fin its r' hz h' c' kp e) (by simp only[List.size_toArray]<;>lia)
 ·rcases I.tuple hq with⟨its,r',pl,hz⟩;have hlen:=r'.length;rcases pl with⟨o,ho,hc,n,hd⟩;exact call_list_seq p (.inr rfl) ho hc hd (λh' c' kp e=>fin its r' hz h' c' kp e) (by simp only[List.size_toArray]<;>lia)
theorem CI:CT X (.type "tuple") (λxs H Q=>∃p ys,xs=[.ref p]/\((Af X.K H p ys/\∀l,H l=none->Q (.ref l) (AV H l (.tup ys)))\/(Aa X.K H p ys/\Q (.ref p) H))):=by
 intro ad s σ H xs us Q I r h;obtain⟨p,ys,rfl,h⟩:=h;obtain⟨u,rfl,rx⟩:=FH r;cases rx;rcases h with⟨hq,q⟩|⟨hq,q⟩
 ·obtain⟨its,r',pl,hz⟩:=I.list hq;have hlen:=r'.length;refine call_tuple_list pl.isList (λh' kp=>?_) (by simp only[List.size_toArray]<;>lia);have I1:AW X ad σ H {s with heap:=h'}:=I.kept (t':=s.toks) kp
  have I2:AW X ad σ (AV H h'.objs.size (.tup ys)) {s with heap:=h'.push {cls:=.type "tuple",data:=.seq its.toArray}}:=
   I1.laid (t':=s.toks) (λb o e=>aO _ e) (aP _) (show Ap X.prog X.w _ _ _ (.tup ys) from⟨hz,its,r',IsTup.new _ _⟩)
  exact⟨.ref h'.objs.size,_,I2,rfl,q _ (I1.hok.fresh (aP _))⟩
 ·obtain⟨its,r',pl,hz⟩:=I.tuple hq;exact call_tuple_same pl ⟨.ref p,H,I,rfl,q⟩
def ZB(K:qV)(T:String)(x:V)(H:Hp):Prop:=match x with
 |.str _=>T="str"
 |.int _=>T="int"
 |.ref p=>(T="list"/\∃xs,Af K H p xs)\/(T="tuple"/\∃o,K.lookup p=some o/\o.cls=.type "tuple"/\o.dict=none) \/
   (T="dict"/\((∃kvs,H p=some (.dK kvs))\/∃kvs,H p=some (.dT kvs)))\/(T="set"/\∃S n,H p=some (.set S n))
 |_=>False
theorem P7{s:qS}{x:V}{v:qQ}(I:AW X ad σ H s)(r:A8 x v)(ty:ZB X.K T x H):
  s.TypeIs v T/\∀a,v=.ref a->∃ob,s.heap.get? a=some ob/\ob.dict=none:=by
 cases x with
 |str z =>
  obtain⟨t,rfl⟩:=r;cases (show T="str" from ty);exact⟨typeIs_str s z t,λ_ e=>nomatch e⟩
 |int i =>
  obtain⟨t,rfl⟩:=r;cases (show T="int" from ty);exact⟨typeIs_int s i t,λ_ e=>nomatch e⟩
 |ref p =>
  cases r;rcases ty with⟨rfl,xs,hq⟩|⟨rfl,o,hk,hc,hd⟩|⟨rfl,hk⟩|⟨rfl,S,n,hk⟩
  ·rcases I.list hq with⟨its,_,pl,_⟩;refine⟨pl.isList.typeIs,λa e=>?_⟩;cases e;rcases pl with⟨o,n,e,c,hd,_⟩;exact⟨o,e,hd⟩
  ·refine⟨⟨o,I.kIn p o hk,hc⟩,λa e=>?_⟩;cases e;exact⟨o,I.kIn _ o hk,hd⟩
  ·have z:∃o,s.heap.get? p=some o/\o.ExactDict:=by
    rcases hk with⟨kvs,hk⟩|⟨kvs,hk⟩
    ·rcases I.hok p _ hk with⟨_,_,_,_,o,_,_,e,ex,_⟩;exact⟨o,e,ex⟩
    ·rcases I.hok p _ hk with⟨_,_,_,_,o,_,_,e,ex,_⟩;exact⟨o,e,ex⟩
   obtain⟨o,e,ex⟩:=z;refine⟨⟨o,e,ex.1⟩,λa e2=>?_⟩;cases e2;exact⟨o,e,ex.2.1⟩
  ·rcases I.hok p _ hk with⟨o,_,_,_,e,ex,_⟩;refine⟨⟨o,e,ex.1⟩,λa e2=>?_⟩;cases e2;exact⟨o,e,ex.2.1⟩
 |_=>exact False.elim ty
def Xv(K:qV)(T:String)(r:V->List V->Hp->VK->Prop)(to:TE):TE:=λσ H Q=>to σ H λx H1=>ZB K T x H1/\r x [] H1 Q
def ZC(K:qV)(T:String)(r:V->List V->Hp->VK->Prop)(to:TE)(t:TA):TE:=λσ H Q=>to σ H λx H1=>ZB K T x H1/\t σ H1 λxs H2=>r x xs H2 Q
variable{o e:Expr}{t:TA}{apos cpos:Pos}{id:String}{r:V->List V->Hp->VK->Prop}
theorem Vq(pa:PlainAttrs T)(slot:Slot T name id)(hty:typeOf (.builtin id)=pure (.type "method_descriptor"))(hm:TQ X id r)(ho:PE X o to)
  (hbase:attributeBase o name X.env (eval o X.env)=eval o X.env:=by rfl) (hline:(apos.endLine==cpos.line)=true:=by rfl):PE X (.Call (.Attribute o name apos) [] [] cpos) (Xv X.K T r to):=by
 intro ad s σ H Q I h;refine wpAny_Call_method0_late hbase hline (BS (ho ad s σ H _ I h) λv s1 z9=>?_);obtain⟨x,H1,I1,r1,ty,q1⟩:=z9;obtain⟨h1,h2⟩:=P7 I1 r1 ty;exact⟨T,id,pa,slot,hty,h1,h2,Calls.callWith_builtin rfl (PySem.evalArgs_none (hm ad s1 σ H1 x [] v [] Q I1 r1 .nil q1))⟩
theorem KT(pa:PlainAttrs T)(slot:Slot T name id)(hty:typeOf (.builtin id)=pure (.type "method_descriptor"))(hm:TQ X id r)(ho:PE X o to)(ha:PA X (e::es) t)
  (hbase:attributeBase o name X.env (eval o X.env)=eval o X.env:=by rfl)
  (hfew:((backTo cpos (starEach (e::es) X.env)).all (λx=>!x.1)&&(backToKw cpos (keywordEach [] X.env)).all (λx=>x.1.isSome)
   && decide ((e::es).length+([]:List Keyword).length+(if ([]:List Keyword).isEmpty then 0 else 1)<30))=true:=by rfl)
  (hline:(apos.endLine==cpos.line)=true:=by rfl) (hs:starEach (e::es) X.env=(false,eval e X.env)::starEach es X.env:=by rfl) (hplain:(backTo cpos (starEach es X.env)).any (·.1)=false:=by rfl):
  PE X (.Call (.Attribute o name apos) (e::es) [] cpos) (ZC X.K T r to t):=by
 intro ad s σ H Q I h;refine wpAny_Call_method_late hbase hfew hline rfl (BS (ho ad s σ H _ I h) λv s1 z9=>?_);obtain⟨x,H1,I1,r1,ty,q1⟩:=z9;obtain⟨h1,h2⟩:=P7 I1 r1 ty;refine⟨T,id,pa,slot,hty,h1,h2,?_⟩;have hA:=ha cpos ad s1 σ H1 _ I1 q1;rw[hs]at hA⊢;refine Calls.callWith_builtin (by show (false||(backTo cpos (starEach es X.env)).any (·.1))=false;rw[hplain]<;>rfl) (Calls.evalArgs_plain ?_);exact BS hA λus s2 ⟨vs,H2,I2,r2,q2⟩=>hm ad s2 σ H2 x vs v us Q I2 r1 r2 q2
end
def Z5(X:Cx)(id:String)(r:V->List V->Hp->VK->Prop):Prop:=
 ∀(ad:List (qR×Obj)) (s:qS) (σ:St) (H:Hp) (x:V) (xs:List V) (v:qQ) (us:List qQ) (Q:VK),AW X ad σ H s->A8 x v->Au xs us->r x xs H Q ->
  wpAny (model X.prog X.w) X.A (call (.builtin id) (v::us)) (EP X ad σ Q) X.xe s
theorem Au.one:∀{x:V} {us:List qQ},Au [x] us->∃u,us=[u]/\A8 x u:=by
 intro _ _ r;cases r with
 |cons r t=>cases t;exact⟨_,rfl,r⟩
theorem Au.zero:∀{us:List qQ},Au [] us->us=[]
 |_,.nil=>rfl
theorem Au.reverse(h:Au xs us):Au xs.reverse us.reverse:=by
 induction h with
 |nil=>exact .nil
 |cons r t ih=>rw[dh,dh];exact Au.append ih (.cons r .nil)
section
variable{s:qS}{l b:qR}{zs:List V}
theorem AW.lset{its':List qQ}{n:Nat}{f:Array qQ->Array qQ}{t':Nat}(I:AW X ad σ H s)(hH:H l=some (.lst xs))
  (e:s.heap.get? l=some {cls:=.type "list",data:=.seq its.toArray n}) (hf:f its.toArray=its'.toArray) (hv:Au ys its') (hz:ys.length<=sizeLine):
  AW X ad σ (AV H l (.lst ys)) {s with heap:=s.heap.update l (Obj.mapSeq f),toks:=t'}:=by
 have q:=PySem.IsL.update e f;rw[hf]at q;refine I.write (x:=l) (e:=l) (by rw[hH];exact trivial) (.inl rfl) (λb' u hb hu=>(cj s.heap (Obj.mapSeq f) (Ne.symm hb)).trans hu) ⟨_,q⟩ ?_;exact⟨hz,its',_,hv,q⟩
theorem AW.lnew(I:AW X ad σ H s)(hv:Au ys its)(hz:ys.length<=sizeLine):
  AW X ad σ (AV H s.heap.objs.size (.lst ys)) {s with heap:=s.heap.push {cls:=.type "list",data:=.seq its.toArray},toks:=t'}:=
 I.laid (λ_ _ q=>aO _ q) (aP _) ⟨hz,its,0,hv,af _ rfl⟩
theorem AW.fresh(I:AW X ad σ H s):H s.heap.objs.size=none:=I.hok.fresh (aP _)
theorem AW.lstM(I:AW X ad σ H s)(hH:H l=some (.lst xs)):xs.length<=sizeLine/\∃(its:List qQ) (n:Nat),Au xs its/\xs.length=its.length/\s.heap.get? l=some {cls:=.type "list",data:=.seq its.toArray n}:=by rcases I.hok l _ hH with⟨z,its,n,r,e⟩;exact⟨z,its,n,r,r.length,e⟩
theorem P8{n:Nat}(h:n<=sizeLine):Builtin.List.listTooLong n=false:=by unfold Builtin.List.listTooLong;exact qI (by lia)
end
def Jl:V->List V->Hp->VK->Prop:=λx vs H Q=>∃l xs y,x=.ref l/\vs=[y]/\H l=some (.lst xs)/\xs.length<sizeLine/\Q .non (AV H l (.lst (xs++[y])))
theorem GG:Z5 X "list.append" Jl:=by intro ad s σ H x vs v us Q I rx rv h;rcases h with⟨l,xs,y,rfl,rfl,hH,hz,q⟩;cases rx;obtain⟨u,rfl,ru⟩:=rv.one;rcases I.lstM hH with⟨z,its,n,r,hl,e⟩;refine call_meets F.slot_list_append ⟨_,e,rfl⟩ F.entry_list_append (F.args_list_append_2 _ _) (PySem.list_append l its.toArray n u (by rw[bV];lia)) ⟨e,?_⟩;refine⟨.non,_,I.lset (its':=its++[u]) hH e (by simp) (r.append (.cons ru .nil)) ?_,rfl,q⟩;rw[aU,bW];lia
def TV:V->List V->Hp->VK->Prop:=λx vs H Q=>∃l b xs zs,x=.ref l/\vs=[.ref b]/\H l=some (.lst xs)/\H b=some (.lst zs)/\xs.length+zs.length<=sizeLine/\Q .non (AV H l (.lst (xs++zs)))
theorem GH:Z5 X "list.extend" TV:=by
 intro ad s σ H x vs v us Q I rx rv h;rcases h with⟨l,b,xs,zs,rfl,rfl,hH,hB,hz,q⟩;cases rx;obtain⟨u,rfl,ru⟩:=rv.one;cases ru;rcases I.lstM hH with⟨z,its,n,r,hl,e⟩;rcases I.lstM hB with⟨z2,its2,n2,r2,hl2,e2⟩;have hsz:its.toArray.size+its2.toArray.size<=sizeLine:=by rw[bV,bV];lia
 have hlong:¬(!its.toArray.isEmpty&&Builtin.List.listTooLong (its.toArray.size+its2.toArray.size))=true:=by rw[P8 hsz,Bool.and_false];exact ap
 refine call_meets F.slot_list_extend ⟨_,e,rfl⟩ F.entry_list_extend (F.args_list_extend_2 _ _)
  (AutoSeq1.list_extend_list_list_0 l its.toArray n b its2.toArray n2 hlong (by rw[bV];lia) (by lia)) ⟨e,e2,?_⟩
 refine⟨.non,_,I.lset (its':=its++its2) hH e (by simp) (r.append r2) ?_,rfl,q⟩;rw[aU];lia
def Xw:R2:=λx y H Q=>∃l b xs zs,x=.ref l/\y=.ref b/\H l=some (.lst xs)/\H b=some (.lst zs)/\xs.length+zs.length<=sizeLine/\∀p,H p=none->Q (.ref p) (AV H p (.lst (xs++zs)))
theorem P9:Fa X (binaryOp .Add) Xw:=by
 intro ad s σ H x y v u Q I rx ry h;rcases h with⟨l,b,xs,zs,rfl,rfl,hH,hB,hz,q⟩;cases rx;cases ry;rcases I.lstM hH with⟨z,its,n,r,hl,e⟩;rcases I.lstM hB with⟨z2,its2,n2,r2,hl2,e2⟩;refine PySem.P.add_list e e2 ?_ (by rw[bV,bV];lia);have ea:its.toArray++its2.toArray=(its++its2).toArray:=by simp
 rw[ea];exact⟨.ref _,_,I.lnew (t':=s.toks) (r.append r2) (by rw[aU];lia),rfl,q _ I.fresh⟩
end L2
namespace Att
open PySem PySem.W PySem.Calls PyProof.Rows
theorem ints_of_wellAll{P:Params}{h:Heap}:∀(ns:qW) (vs:List qQ),WellAll P h vs (ns.map WData.int)->IntsAre vs ns:=by
 intro ns
 induction ns with
 |nil =>
  intro vs w;rw[List.map_nil]at w;cases w;exact .nil
 |cons n ns ih =>
  intro vs w;rw[bv]at w;cases w with
  |cons a b =>
   cases a;exact .cons _ _ (ih _ b)
theorem script_of{l:OpenLaw}{n:Nat}(hn:l.most=some n){P:Params}{h:Heap}{args:List WData}{vals:List qQ}
  (hpre:l.row.toRowW.claim.pre args=true) (hwl:WellAll P h vals args):
  ∃a vs ns,vals=[Value.ref a]/\args=[WData.list (ns.map WData.int)]/\h.get? a=some {cls:=.type "list",data:=.seq vs.toArray}/\IntsAre vs ns/\ns.length<=n:=by
 have hsh:WShape.hasAll [] args [.list .int]=true:=(pre_splitW hpre).1;have hc:l.pre.holds [] {args:=args}=true:=(pre_splitW hpre).2;obtain⟨d,r,rfl,h1,h2⟩:=hasAllW_cons hsh;obtain rfl:=hasAllW_nil h2;obtain⟨xs,rfl,h3⟩:=hasW_list h1;obtain⟨ns,rfl⟩:=items_int h3
 have hlen:ns.length<=n:=by
  unfold OpenLaw.pre at hc
  have h4:(WTm.not (.lt (.lit (.int (n:Int))) (.len (.arg 0)))).holds [] {args:=[.list (ns.map .int)]}=true:=by have h4:=(holds_andW hc).1;rw[hn]at h4;exact h4
  have h5:=condW_of h4 (w_not (w_lt w_lit (w_len_list (w_arg rfl))));rw[aH]at h5;refine fP λq=>?_;have q':(n:Int)<((ns.length:Nat):Int):=by lia
  first
   | (rw[qH q']at h5;exact qG h5 (by decide))
   | (simp at h5;lia)
 cases hwl with
 |cons w1 w2 =>
  cases w2;cases w1 with
  |list ho hall=>exact⟨_,_,ns,rfl,rfl,ho,ints_of_wellAll ns _ hall,hlen⟩
theorem post_true(l:OpenLaw)(args:List WData):l.row.toRowW.claim.post args (.bool true) args=true:=
 postW_of (r:=l.row.toRowW) (X:=(true==true))
  (show WShape.has [] (.bool true) .bool=true by first|rfl|decide|simp[WShape.has,WShape.arms,WShape.armsAll])
  (show (WTm.eq .res (.lit (.bool true))).value [] {args:=args,res:=some (.bool true),after:=args}=some (.bool (true==true)) from w_eq_bool (w_res rfl) w_lit) rfl
theorem attach_call{l:OpenLaw}{n:Nat}{q:qT}{loose:List Str}{XP:(Str->Option qQ)->Heap->Prop}{YP:qU->Heap->Prop}{d:DefRec}
  (hn:l.most=some n) (hdf:d.params.defaults=[])
  (call:∀(w:qU) (s₀ s₁:qS) (mg mb:Str->Option qQ) (fa:qR) (o:Obj) (pm cd doc:qQ) (a:qR) (vs:List qQ) (ns:qW),
   Ground q loose [] XP w s₀ mg mb s₁.heap->YP w s₁.heap ->
   s₁.heap.get? fa=some o->o.data=.func (docDef d.name d.params d.body d.scope pm cd doc)->s₁.heap.CodeRec cd d.name->mg d.name=some (.ref fa) ->
   s₁.heap.get? a=some {cls:=.type "list",data:=.seq vs.toArray}->IntsAre vs ns->ns.length<=n->s₁.gens=#[] ->
   codeAny (model l.prog w) callerA (.call (.ref fa) ⟨[.ref a],[]⟩) (λr s'=>r=.ok (.ret (.bool true))/\OldK s₁.heap s'.heap/\s'.os=s₁.os/\AllBare s'.gens) s₁):
  WalkO q loose XP YP l.row.toRowW d [] (λf vs=>PySem.call f vs):=by
 intro w s₀ s₁ mg mb G Y fa o pm cd doc dV kV ho hd hcd hD hmg hg args vals as hpre hlay hrd hwl hlo;obtain rfl:dV=.none:=Dflts.none hD hdf;obtain rfl:kV=.none:=Dflts.noKw hD;obtain⟨a,vs,ns,rfl,rfl,hobj,hints,hlen⟩:=script_of hn hpre hwl;refine enter_call (codeAny_mono (call w s₀ s₁ mg mb fa o pm cd doc a vs ns G Y ho (fd_plain hd) hcd hmg hobj hints hlen hg) λr s' hq=>?_);obtain⟨rfl,h2,h3,h4⟩:=hq;exact⟨.inl ⟨.bool true,.bool true,[],rfl,λ_=>rfl,.bool true,post_true l _,λ_=>⟨List.Pairwise.nil,λ_ hm=>(nomatch hm)⟩⟩,h2,h3,h4⟩
section
variable{prog:qT}{w:qU}{A:Around}{E:qQ->qS->Prop}{s:qS}{K:Frag}
end
end Att
namespace L2
open PySem PySem.Spec PyProof.Rows
variable{H H':Hp}{X:Cx}{a:qR}{an od:Option qR}{fi doc oc:qQ}{fd:FuncData}{ps:List Str}{qual x:Str}{xs:List V}
theorem Ol:∀{vs:List qQ} {ns:qW},IntsAre vs ns->Au (ns.map V.int) vs:=by
 intro _ _ h
 induction h with
 |nil=>exact .nil
 |cons n t _ ih=>exact .cons ⟨t,rfl⟩ ih
def DQ(s:Stmt):Arguments:=match s with
 |.FunctionDef _ a _ _ _ _ _ _ _ _=>a
 |_=>{posonlyargs:=[],args:=[],vararg:=none,kwonlyargs:=[],kw_defaults:=[],kwarg:=none,defaults:=[]}
def Bx(s:Stmt):List Stmt:=match s with
 |.FunctionDef _ _ b _ _ _ _ _ _ _=>b
 |_=>[]
def AI(s:Stmt):Scope:=match s with
 |.FunctionDef _ _ _ _ _ _ sc _ _ _=>sc
 |_=>{kind:=.function,names:=[],isGenerator:=false,isCoroutine:=false}
abbrev E0:XK:=λ_ _ _=>False
structure NK(K:qV)(x qual:Str)(st:Stmt)(f:qR)(fd:FuncData):Prop where
 ex:∃(oc:qQ) (od:Option qR) (kV doc pm:qQ) (an:Option qR) (fi ct:qQ) (osl:Array (Option qQ)),
  fd=PySem.W.fnOf x qual (DQ st) (Bx st) (AI st) .none kV doc pm an fi ct/\K.lookup f=some ⟨oc,od,.func fd,osl⟩/\PySem.W.codeIn K fi qual=true
 kp:PySem.W.keepIn K (.ref f)=true
variable{st:Stmt}{osl:Array (Option qQ)}
section
variable{P:qT}{w:qU}{K:qV}{mg:Str->Option qQ}{base:Heap}
theorem NK.binds{f:qR}(F:NK K x qual st f fd)
  (h:∀(kV doc pm:qQ) (an:Option qR) (fi ct:qQ) (us:List qQ),us.length=ps.length->bindArgs (PySem.W.fnOf x qual (DQ st) (Bx st) (AI st) .none kV doc pm an fi ct) ⟨us,[]⟩=pure (ps.zip us)):Ge K fd ps []:=by
 rcases F.ex with⟨oc,od,kV,doc,pm,an,fi,ct,osl,rfl,lk,hcd⟩;exact .all (h kV doc pm an fi ct)
theorem Vr{f:qR}{kV pm ct:qQ}(l:K.lookup f=some ⟨oc,od,.func (PySem.W.fnOf x qual (DQ st) (Bx st) (AI st) .none kV doc pm an fi ct),osl⟩)
  (c:PySem.W.codeIn K fi qual=true) (k:PySem.W.keepIn K (.ref f)=true):NK K x qual st f (PySem.W.fnOf x qual (DQ st) (Bx st) (AI st) .none kV doc pm an fi ct):=⟨⟨oc,od,kV,doc,pm,an,fi,ct,osl,rfl,l,c⟩,k⟩
end
theorem CF{A:Around}{k:Nat}(hr:B7 k A):A.units+1<cLine:=dR (Nat.add_le_add_left (by decide:1<=64) _) hr.units
theorem Ac{n:Nat}(h:n<=1000):n<sizeLine:=dR h (by decide)
theorem pv(i:Nat){pos:Pos}(hN:X.N[i]?=some x:=by rfl)(hv:ZJ X.env.scope x:=by first|exact Or.inl rfl|exact Or.inr (Or.inl rfl)|exact Or.inr (Or.inr rfl))(hd:(x==("__debug__":Str))=false:=by decide)
  (hcd:(x==("__classdict__":Str))=false:=by decide):PE X (.Name x pos) (Vc i):=Vd hN hv hd hcd
theorem Vs{A B:Prop}(h:B):if false=true then A else B:=by rw[qE ap];exact h
theorem ZR{A B:Prop}(h:A):if true=true then A else B:=by rw[qF rfl];exact h
def AG(H H':Hp):Prop:=∀b o,H b=some o->H' b=some o
theorem AG.refl(H:Hp):AG H H:=λ_ _ h=>h
variable{H1 H2:Hp}
theorem AG.trans(a:AG H H1)(b:AG H1 H2):AG H H2:=λc o h=>b c o (a c o h)
variable{l:qR}
theorem AG.free(e:AG H H')(h:H' l=Option.none):H l=Option.none:=by
 cases q:H l with
 |none=>rfl
 |some o =>
  rw[e l o q]at h;cases h
theorem AG.seq{K:qV}(e:AG H H')(h:Af K H a xs):Af K H' a xs:=by
 rcases h with (h|⟨o,h⟩)|h
 ·exact .inl (.inl (e _ _ h))
 ·exact .inl (.inr ⟨o,e _ _ h⟩)
 ·exact .inr h
end L2
set_option maxHeartbeats 4000000
set_option compiler.extract_closed false
set_option genSizeOfSpec false
namespace L2
open PySem PySem.Spec PyProof.Rows
variable{C a l:qR}{CX:Sy}{D:Fc}{E:qQ->qS->Prop}{H H':Hp}{X:Cx}{an od:Option qR}{fi doc oc u:qQ}{es:List Expr}{fd:FuncData}{name qual x:Str}{o:HO}{osl:Array (Option qQ)}{ad:List (qR×Obj)}{ps:List Str}{s':qS}{scope:Scope}{st:Stmt}{t':Nat}{ta:TA}{tg:Expr}{xs:List V}{σ:St}
noncomputable def Xx(o:Obj):Option qQ:=match o.data with
 |.fields vs=>vs[2]?
 |_=>none
structure aC(nc:Bool)(P:qT)(w:qU)(outer:List Env)(H:Hp)(s:qS)(a:qR)(cls a0:qQ)(D:Option qR)(B:Heap)(H':Hp)(s':qS):Prop where
 os:s'.os=s.os
 bare:AllBare s'.gens
 un:Un (KB outer) [] H H' s.heap s'.heap
 hok:Ea P w H' s'.heap
 fly:Heap.FlyingW B outer a cls a0 s'.heap
 old:∀b o,s.heap.get? b=some o->b∉KB outer->∀o',s'.heap.get? b=some o'->B.get? b=some o'
 trk:∀b u,H' b=some u->∀o',s'.heap.get? b=some o'->B.get? b=some o'
 dct:∃oe,s'.heap.get? a=some oe/\oe.dict=D
 ctx:nc=true->∃oe,s'.heap.get? a=some oe/\Xx oe=some .none
def ZS(nc:Bool)(P:qT)(w:qU):Sy:=λouter H s E e s'=>∃a cls a0 D B H',e=.ref a/\aC nc P w outer H s a cls a0 D B H' s'/\E cls D H'
abbrev Lo(P:qT)(w:qU):Sy:=ZS false P w
section
variable{s:qS}{h':Heap}
def Gf(a:qR)(cls:qQ)(D:Option qR)(n:Bool)(h:Heap):Prop:=∃o vs,h.get? a=some o/\o.cls=cls/\o.data=.fields vs/\o.dict=D/\(n=true->∃t:qR,vs=#[.ref t,.none,.none,.none,.bool false,.none])
noncomputable def aD(a:qR)(cls:qQ)(D:Option qR)(n:Bool):HO:=.ext (Gf a cls D n)
end
def Jm(CX:Sy)(X:Cx)(E:St->XK):Prop:=∀(ad:List (qR×Obj)) (σ:St) (H:Hp) (s:qS) (e:qQ) (s':qS),AW X ad σ H s->CX X.stack H s (E σ) e s'->X.xe e s'
def Jn(sp:Sp)(dvs:List V)(E:St->XK)(t:TA):TE:=λσ H Q=>t σ H λvs H1=>sp (vs++dvs) H1 Q (E σ)
section
variable{k:Nat}{f:qR}{sp:Sp}{dvs:List V}{ds:List qQ}{E:St->XK}{p pos:Pos}{e:Expr}{t:TA}
theorem QC(F:GC X.prog X.w X.K X.mg X.base CX k f fd ps sp)(hr:B7 k X.A)(hg:Gl X x)(hm:X.mg x=some (.ref f))(hk:PySem.W.keepIn X.K (.ref f)=true)(hb:Ge X.K fd ps ds)(hd:Au dvs ds)(hx:Jm CX X E)
  (ha:PA X (e::es) t) (hdb:(x==("__debug__":Str))=false:=by decide) (he:starEach (e::es) X.env=(false,eval e X.env)::starEach es X.env:=by rfl) (hpl:(backTo pos (starEach es X.env)).any (·.1)=false:=by rfl):
  PE X (.Call (.Name x p) (e::es) [] pos) (Jn sp dvs E t):=by
 intro ad s σ H Q I h;refine wpAny_Call_Name_kw (M5 I hg hm ?_ hdb);refine PySem.W.callWith_K (h₀:=X.base) I.ok.mod.kin hk (BS (ha pos ad s σ H _ I h) λus s1 ⟨vs,H1,I1,r,q⟩=>⟨I1.kIn,?_⟩) he hpl;have r2:Au (vs++dvs) (us++ds):=r.append hd;have hl:(us++ds).length=ps.length:=by rw[<-r2.length];exact F.len _ _ _ _ q
 refine wpAny_call (codeAny_mono (F.run X.A X.stack s1 H1 ⟨us,[]⟩ (us++ds) (vs++dvs) Q (E σ) hr I1.env0 (hb s1 us I1.kIn hl) r2 q) λrs s2 hq=>?_);rcases rs with er|fl
 ·exact hx ad σ H1 s1 er s2 I1 hq
 ·cases fl with
  |ret u=>exact I1.after hq
  |next=>exact False.elim hq
  |brk=>exact False.elim hq
  |cont=>exact False.elim hq
end
variable{sp:Sp}
section
variable{P:qT}{w:qU}{K:qV}{mg:Str->Option qQ}{base:Heap}
theorem NK.okX{nc:Bool}{f:qR}{N:List Str}{k:Nat}(F:NK K x qual st f fd)(S:AO N ps (AI st))(len:∀vs H Q E,sp vs H Q E->vs.length=ps.length)
  (hbody:∀(fi:qQ) (A:Around) (outer:List Env) (s:qS) (H:Hp) (vs:List V) (Q:VK) (E:XK),B7 k (A.deeper (envOfC qual (AI st) s.heap.objs.size f fi))->sp vs H Q E ->
   ∃t,Ic (Gs (ZS nc P w) P w K mg base N qual (AI st) f fi A outer s H E) (Bx st) t/\t {nx:=λ_ H'=>Q .non H',rt:=Q} (DA N vs) H):GC P w K mg base (ZS nc P w) (k+1) f fd ps sp:=by
 rcases F.ex with⟨oc,od,kV,doc,pm,an,fi,ct,osl,rfl,lk,hcd⟩;exact Ue lk hcd S len λA outer s H vs Q E hr hsp=>hbody fi A outer s H vs Q E hr hsp
end
structure Om(K:qV)(D:qR):Prop where
 ci:(PySem.W.clsIn K D).isSome=true
 ga:PySem.W.findIn K (.ref D) "__getattribute__"=some (some (.builtin "BaseException.__getattribute__"))
 gn:PySem.W.findIn K (.ref D) "__getattr__"=some none
 ca:PySem.W.findIn K (.ref D) "__class__"=some (some (.builtin "object.__class__"))
 sg:PySem.W.specialIn K (.builtin "object.__class__") "__get__"=some (some (.builtin "getset_descriptor.__get__"))
 tk:PySem.W.takesIn K (.builtin "object.__class__")=some true
 mo:PySem.W.mroIn K D (.type "object")=some true
 mb:PySem.W.mroIn K D (.type "BaseException")=some true
section
variable{K:qV}{D:qR}{dy:Option qR}{n:Bool}
theorem QD(h:(PySem.W.clsIn K D).isSome=true):∃c d cd sl,K.lookup D=some ⟨c,d,.cls cd,sl⟩:=by
 delta PySem.W.clsIn at h
 cases e:K.lookup D with
 |none=>rw[e]at h;exact qG h ap
 |some o =>
  rw[e]at h;obtain⟨c,d,dt,sl⟩:=o;cases dt with
  |cls cd=>exact⟨c,d,cd,sl,rfl⟩
  |_=>exact qG h ap
theorem Om.isCls(c:Om K D){M:Model}{h:Heap}(kin:K.In h):PySem.W.Looks M h (isType (.ref D)) true:=by obtain⟨_,_,_,_,ho⟩:=QD c.ci;intro A Q E s k q;unfold isType loadHead;exact qC (wpAny_loadPart (k _ _ (kin _ _ ho)) (qD q))
theorem Gf.ty{M:Model}{h:Heap}{cls:qQ}(x:Gf a cls dy n h):PySem.W.Looks M h (typeOf (.ref a)) cls:=by rcases x with⟨o,vs,e,c,_⟩;subst c;exact (PySem.W.Looks.ld e).andThen .now
theorem Lx{M:Model}{h:Heap}{x:qQ}{g:qQ}(kin:K.In h)(h1:PySem.W.findIn K (.ref D) name=some (some u))(h2:PySem.W.specialIn K u "__get__"=some (some g))(h3:PySem.W.takesIn K u=some true):
  PySem.W.Looks M h (Builtin.ObjectAttr.find x (.ref D) name) (.bind g u):=by
 have a1:=fR (M:=M) kin h1;have a2:PySem.W.Looks M h (Builtin.ObjectAttr.getOf (some u)) (some g):=PySem.W.looks_specialIn kin h2;have a3:PySem.W.Looks M h (Builtin.ObjectAttr.dataDescriptor? (some u) (some g)) (some (g,u)):=(PySem.W.looks_takesIn (M:=M) kin h3).andThen .now;exact a1.andThen (a2.andThen (a3.andThen (PySem.W.Looks.tag .now)))
theorem TW{prog:qT}{w:qU}{A:Around}{R:Result->qS->Prop}{s:qS}{tp:qQ}(c:Om K D)(kin:K.In s.heap)(x:Gf a (.ref D) dy n s.heap)(q:R (.ok (.ret (.ref D))) s):
  codeAny (model prog w) A (.call (.builtin "getset_descriptor.__get__") ⟨[.builtin "object.__class__",.ref a,tp],[]⟩) R s:=by
 obtain⟨hp,g,d,t,os⟩:=s;have a1:=x.ty (M:=model prog w);have a2:=PySem.W.looks_mroIn (M:=model prog w) kin c.mo;refine codeAny_call_builtin PySem.W.KF.slot_gs.plain PySem.W.KF.entry_gs (PySem.W.KF.slot_gs.check _ _ _ _ _ _ _ _ PySem.W.KF.type_class (PySem.W.KF.args_gs _ _ _) ?_)
 (unfold Builtin.«getset_descriptor.__get__» Builtin.Getset_descriptor.descrGet;rw[PySem.W.dga_obj];refine qC (qD ?_))
 (unfold Builtin.Getset_descriptor.descrGetter Builtin.Getset_descriptor.descrCheckInstance Builtin.Getset_descriptor.descrNameAndClass isInstance;simp only[PySem.W.KF.owner_class])
 repeat lk
 refine⟨Code.quiet_builtin _ (by decide +kernel),codeAny_builtin PySem.W.KF.entry_class ?_⟩
 (unfold Builtin.«object.__class__» shownTypeOf;repeat lk)
 exact q
theorem On{prog:qT}{w:qU}{A:Around}{Q:Option qQ->qS->Prop}{s:qS}(c:Om K D)(kin:K.In s.heap)(x:Gf a (.ref D) dy n s.heap)
  (q:Q (some (.ref D)) {s with toks:=s.toks+1}):wpAny (model prog w) A (getAttr? (.ref a) "__class__") Q E s:=by
 rcases s with⟨hp,g,d,t,os⟩;have LT:=x.ty (M:=model prog w);have L1:=fR (M:=model prog w) kin c.ga;have L2:=fR (M:=model prog w) kin c.gn;have L3:=Lx (M:=model prog w) (x:=.ref a) kin c.ca c.sg c.tk;have L4:PySem.W.Looks (model prog w) hp (isInstance (.ref a) (.type "BaseException")) true:=LT.andThen (PySem.W.looks_mroIn kin c.mb);have FA:=PySem.F.excAttr_ValueError;unfold getAttr? getAttrBy? getAttrBy;refine qC (wpAny_mkText (qC (wpAny_attempt (qO (qC (LT.at (qC (L1.at ?_))))))));show wpAny _ _ (getAttrByItsOwn _ _ _ _ _ _) _ _ _;unfold getAttrByItsOwn;refine qC (show wpAny _ _ (typeLookup (.ref D) "__getattr__") _ _ _ from L2.at ?_);refine qC (wpAny_attempt (qO ?_));show wpAny _ _ (boundAndCalled _ _ _) _ _ _;unfold boundAndCalled;refine qC (wpAny_of_eq (FA.ga.bind _) ?_);refine wpAny_call (codeAny_call_builtin FA.ga.plain PySem.F.entry_bexc_ga ?_);have hk:builtinKind "BaseException.__getattribute__"=some .slot:=by decide +kernel
 have hsp:splitId "BaseException.__getattribute__"=some ("BaseException","__getattribute__"):=by decide +kernel
 have ha:=PySem.F.args_bexc_ga (.ref a) (.str "__class__" t);show wpAny _ _ (checkBuiltinCall "BaseException.__getattribute__" ⟨[.ref a,.str "__class__" t],[]⟩) _ _ _;simp only[checkBuiltinCall,hk,hsp];refine qC (L4.at ?_)
 repeat (any_goals (first|assumption|wp_step))
 rcases id x with⟨o,vs,eo,co,vo⟩;refine wpAny_loadPart eo ?_;refine qD ?_;rw[co];refine qC (L3.at ?_);show wpAny _ _ (call (.builtin "getset_descriptor.__get__") [.builtin "object.__class__",.ref a,.ref D] >>= λv=>ret v) _ _ _;refine qC (wpAny_call (TW c kin ⟨o,vs,eo,co,vo⟩ ?_));refine qD ?_;show wpAny _ _ (handedOut (.ref D)) _ _ _;exact qD (qD q)
theorem KU(c:Om K D):PySem.W.KitX K (.ref a) (.ref D) (Gf a (.ref D) dy n) where
 ty:=λ_ _ _ x=>x.ty
 it:=λ_ _ kin _=>c.isCls kin
 ne:=λh tp dd its n sl kin htp=>by refine Bool.eq_false_iff.mpr λq=>?_;have e:D=tp:=Value.ref.inj (beq_iff_eq.mp q);subst e;obtain⟨_,_,_,_,ho⟩:=QD c.ci;have y:=(kin _ _ ho).symm.trans htp;cases y
 ca:=λkin x q=>On c kin x q
end
inductive Xy(K:qV)(H:Hp):V->qQ->Prop where
 |of {x:V} {t:qQ} (h:GB K H x t):Xy K H x t
 |exc {a D:qR} {dy:Option qR} {n:Bool} (e:H a=some (aD a (.ref D) dy n)) (c:Om K D):Xy K H (.ref a) (.ref D)
noncomputable def QE:V->Option qQ
 |.ty n=>some (.type n)
 |.ref a=>some (.ref a)
 |_=>none
noncomputable def TY(K:qV):List V->Hp->VK->Prop
 |[x,c],H,Q=>∃t u b,Xy K H x t/\QE c=some u/\PySem.W.kitOne K t u=some b/\Q (.bl b) H
 |_,_,_=>False
theorem QF:CT X (.builtin "isinstance") (TY X.K):=by
 intro ad s σ H xs us Q I rv h;rcases xs with _|⟨x,_|⟨c,_|⟨_,_⟩⟩⟩
 ·exact h.elim
 ·exact h.elim
 rotate_left
 ·exact h.elim
 rcases h with⟨t,u,b,ty,rc,k,q⟩;rcases KP rv with⟨v1,v2,rfl,r1,r2⟩
 have e:v2=u:=by
  cases c with
  |ty n=>cases rc;exact r2
  |ref a=>cases rc;exact r2
  |_=>cases rc
 subst e;cases ty with
 |of ty=>exact Oi I r1 ty k λtk=>⟨.bl b,H,I.tok tk,rfl,q⟩
 | @exc a D dy n e ck =>
  cases (show v1=Value.ref a from r1);obtain⟨x,_,_⟩:=(show Ap X.prog X.w H s.heap a (.ext (Gf a (.ref D) _ _)) from I.hok a _ e);exact cK (KU ck) I.kIn x k (λz=>nomatch z) λtk=>⟨.bl b,H,I.tok tk,rfl,q⟩
variable{items:Array qQ}
section
variable{prog:qT}{w:qU}{A:Around}{s:qS}
theorem Oo:typeLookup (.type "list_reverseiterator") "__len__"=pure none:=by rw[typeLookup_type,builtinLookup_eq_fast];kernel_rfl
theorem QG:typeLookup (.type "list_reverseiterator") "__length_hint__"=pure (some (.builtin "list_reverseiterator.__length_hint__")):=by rw[typeLookup_type,builtinLookup_eq_fast];kernel_rfl
theorem QH{I:qR}{Q:Bool->qS->Prop}(hT:s.TypeIs (.ref I) "list_reverseiterator")(q:Q false s):wpAny (model prog w) A (Builtin.List.listLengthHint (.ref I)) Q E s:=by
 unfold Builtin.List.listLengthHint;refine qC (wpAny_specialOf hT Oo ?_);show wpAny _ A (specialOf (Value.ref I) (Str.ofString "__length_hint__") >>= _) _ _ _;refine qC (wpAny_specialOf hT QG ?_);generalize hz:("list_reverseiterator.__length_hint__":String)=zz
 wp_delta
 rw[show splitId zz=some ("list_reverseiterator","__length_hint__") from by subst hz;decide +kernel];subst hz;refine qC (wpAny_isInstance (b:=true) hT (by rw[isSubtype_type];kernel_rfl) ?_);exact qD q
theorem KW{I:qR}{Q:qQ->qS->Prop}(hh:A.handled=none)(hIl:l≠I)(hit:s.heap.IsRevIter I l ((items.size:Int)-1))(hl:s.heap.IsList l items)(hz:items.size<=sizeLine)
  (hQ:∀h' tk c' fh,(∀b o,b≠I->s.heap.get? b=some o->h'.get? b=some o)->h'.get? s.heap.objs.size=some {cls:=.type "list",dict:=none,data:=.seq fh c',slots:=#[]} ->
   fh.toList=items.toList.reverse->Q (.ref s.heap.objs.size) {s with heap:=h',toks:=tk}):wpAny (model prog w) A (call (.type "list") [.ref I]) Q E s:=by
 have W:=(Walks.listRev (prog:=prog) (w:=w) (A:=A.in1.in1) hh I l hIl items).toS;have hIlt:I<s.heap.objs.size:=by obtain⟨o,e,_⟩:=hit;exact aY e
 have hllt:l<s.heap.objs.size:=by obtain⟨o,e,_⟩:=hl;exact aY e
 refine callType_codes (Q₁:=λobj s₁=>obj=.ref s.heap.objs.size/\s₁={s with heap:=s.heap.push {cls:=.type "list",data:=.seq #[]}}) PySem.F.called_list (PySem.F.typeCall_list_1 _) PySem.F.entry_list_init
  (code_list_new _ ⟨rfl,rfl⟩) λobj s₁ h₁=>?_
 obtain⟨rfl,rfl⟩:=h₁;have hS:(s.heap.push {cls:=.type "list",data:=.seq #[]}).get? s.heap.objs.size=some {cls:=.type "list",data:=.seq #[]}:=af _ rfl;refine⟨⟨_,hS,rfl⟩,PySem.F.args_list_init_2 _ _,?_⟩;show wpAny _ _ (do let old <-Builtin.List.listItems (.ref s.heap.objs.size);Builtin.List.listUpdate (.ref s.heap.objs.size) (λ_=>#[]);letGo old.toList.reverse;Builtin.List.listExtendWith (.ref s.heap.objs.size) (.ref I) .none) _ _ _;refine qC ?_;unfold Builtin.List.listItems;refine qC (wpAny_seqItems hS rfl (qD ?_));show wpAny _ _ (updateSeq s.heap.objs.size (λ_=>#[]) >>= λ_=>letGo (#[]:Array qQ).toList.reverse >>= λ_=>Builtin.List.listExtendWith (.ref s.heap.objs.size) (.ref I) .none) _ _ _;refine qC (wpAny_updateSeq hS rfl ?_);have hS2:=dQ (Obj.mapSeq (λ_=>(#[]:Array qQ))) hS rfl
 have kp:∀b o,s.heap.get? b=some o->((s.heap.push {cls:=.type "list",data:=.seq #[]}).update s.heap.objs.size (Obj.mapSeq (λ_=>(#[]:Array qQ)))).get? b=some o:=
  λb o e=>(cj _ _ (di (aY e))).trans (aO _ e)
 refine qC (wpAny_letGo ?_);have hit2:=hit.at λo e=>kp I o e
 have hl2:=hl.at λo e=>kp l o e
 unfold Builtin.List.listExtendWith;refine qC (wpAny_typeOf (T:="list_reverseiterator") hit2.typeIs ?_);have h1:Builtin.List.listSameRef (.ref s.heap.objs.size) (.ref I)=false:=by simp[Builtin.List.listSameRef,Nat.ne_of_gt hIlt]
 rw[qE (by rw[h1];decide)];refine qC (wpAny_pyIter_revIter hit2 ?_);refine qC (qO (QH hit2.typeIs ?_));rw[qE (by decide)]
 have nf:s.heap.objs.size∉[I,l]:=by simp only[List.mem_cons,List.not_mem_nil,or_false,not_or];exact⟨di hIlt,di hllt⟩
 refine qD ⟨plainId_quiet PySem.F.plain_extend_loop _,codeAny_extend_loopS W hz _ nf _ items.size 0 _ _ _ rfl (Nat.zero_le _) ⟨Nat.zero_le _,by simpa using hit2,hl2⟩ hS2 (ItemsOf.nil _) λs' fh c' hm hS' hacc=>?_⟩;refine⟨rfl,?_⟩;rw[Moved.eq_with hm];refine hQ s'.heap s'.toks c' fh (λb o hb e=>hm.heap b o (λz=>?_) (kp b o e)) hS' ?_
 ·rcases aw.mp z with z|z
  ·exact qG (aY e) (by rw[z];exact bH _)
  ·exact hb (aV.mp z)
 ·apply List.ext_getElem?;intro i
  by_cases hi:i<items.size
  ·have hi2:i<fh.size:=by rw[hacc.1];exact hi
   have p:=hacc.2 i fh[i] (Array.getElem?_eq_getElem hi2);rw[List.getElem?_reverse (by simpa using hi),Array.getElem?_toList,Array.getElem?_eq_getElem hi2,Array.getElem?_toList,Array.length_toList];exact p.symm
  ·rw[cu (by rw[av,hacc.1];lia),cu (by rw[ej,av];lia)]
end
def QI(K:qV)(ta:TA):TE:=λσ H Q=>ta σ H λvs H1=>∃a xs,vs=[.ref a]/\Af K H1 a xs/\∀p,H1 p=none->Q (.ref p) (AV H1 p (.lst xs.reverse))
theorem TZ{l:Expr}{p1 p2 pos1 pos2:Pos}(hc:X.calm=true)(hg:Gl X "reversed")(hm:X.mg "reversed"=none)(hg2:Gl X "list")(hm2:X.mg "list"=none)(ha:PA X [l] ta)(hs:starEach [l] X.env=[(false,eval l X.env)]:=by rfl)
  (hs2:starEach [.Call (.Name "reversed" p1) [l] [] pos1] X.env=[(false,eval (.Call (.Name "reversed" p1) [l] [] pos1) X.env)]:=by rfl):
  PE X (.Call (.Name "list" p2) [.Call (.Name "reversed" p1) [l] [] pos1] [] pos2) (QI X.K ta):=by
 intro ad s σ H Q I h;refine Call_ (Co I hg2 hm2 d9 (bX (T:="list") ?_ hs2 rfl));rw[hs2];show wpAny _ _ (spliced ((false,eval (.Call (.Name "reversed" p1) [l] [] pos1) X.env)::[])) _ _ s;refine Calls.spliced_cons (Call_ (Co I hg hm boot_reversed (bX (BS (ha pos1 ad s σ H _ I h) λus s1 z9=>?_) hs rfl)));obtain⟨vs,H1,I1,r1,q1⟩:=z9;rcases q1 with⟨a,xs,e,hq,q⟩;subst e;cases r1 with
 |cons r rr =>
  cases rr;cases r;rcases I1.list hq with⟨its,rv,pl,hz⟩;have hlen:=rv.length;refine call_reversed_list pl.isList ?_;refine Calls.spliced_nil ?_;have ne:a≠s1.heap.objs.size:=by obtain⟨o,e,_⟩:=pl.isList;exact bF (aY e)
  have hL:(s1.heap.push (revObj a ((its.toArray.size:Int)-1))).IsList a its.toArray:=pl.isList.at λo e=>aO _ e
  refine KW (s:={s1 with heap:=s1.heap.push (revObj a ((its.toArray.size:Int)-1))}) (I.ok.hd hc) ne ⟨_,af _ rfl,rfl,rfl⟩ hL (by rw[bV,<-hlen];exact hz) λh' tk c' fh kp hD hacc=>?_;have kp2:∀b o,s1.heap.get? b=some o->h'.get? b=some o:=λb o e=>kp b o (bF (aY e)) (aO _ e)
  have hf:H1 (s1.heap.push (revObj a ((its.toArray.size:Int)-1))).objs.size=none:=I1.hok.fresh (by rw[cV];lia);have rv2:Au xs.reverse fh.toList:=by rw[hacc];simpa using rv.reverse
  refine⟨.ref _,_,I1.laid (t':=tk) kp2 (by rw[cV];lia) ?_,rfl,q _ hf⟩;exact⟨by rw[List.length_reverse];exact hz,fh.toList,c',rv2,by simpa using hD⟩
def Xz(K:qV):R2:=λx y H Q=>∃(a b:qR) (ns ms:qW),x=.ref a/\y=.ref b/\Af K H a (ns.map V.int)/\Af K H b (ms.map V.int)/\Q (.bl (decide (ns=ms))) H
def Vt(K:qV):R2:=λx y H Q=>∃(a b:qR) (ns ms:qW),x=.ref a/\y=.ref b/\Af K H a (ns.map V.int)/\Af K H b (ms.map V.int)/\Q (.bl (!decide (ns=ms))) H
theorem Ly(hu:X.A.units+64<cLine):Fa X (compareOp .Eq) (Xz X.K):=by intro ad s σ H x y v u Q I rx ry h;rcases h with⟨a,b,ns,ms,rfl,rfl,ha,hb,q⟩;cases rx;cases ry;rcases I.list ha with⟨va,ra,pa,_⟩;rcases I.list hb with⟨vb,rb,pb,_⟩;exact PySem.W.eq_intsK pa.isList (ED ra) pb.isList (ED rb) hu ⟨.bl _,H,I,rfl,q⟩
theorem Vu(hu:X.A.units+64<cLine):Fa X (compareOp .NotEq) (Vt X.K):=by intro ad s σ H x y v u Q I rx ry h;rcases h with⟨a,b,ns,ms,rfl,rfl,ha,hb,q⟩;cases rx;cases ry;rcases I.list ha with⟨va,ra,pa,_⟩;rcases I.list hb with⟨vb,rb,pb,_⟩;exact PySem.W.ne_intsK pa.isList (ED ra) pb.isList (ED rb) hu ⟨.bl _,H,I,rfl,q⟩
theorem QJ{P:qT}{w:qU}{K:qV}{mg:Str->Option qQ}{base:Heap}{N:List Str}{f:qR}{cd:qQ}{A:Around}{outer:List Env}{s:qS}{E:XK}:(Gs CX P w K mg base N qual scope f cd A outer s H E).K=K:=rfl
theorem X0{P:qT}{w:qU}:Jm (Lo P w) X (λ_=>E0):=λ_ _ _ _ _ _ _ h=>by obtain⟨_,_,_,_,_,_,_,_,h⟩:=h;exact h.elim
theorem AG.new{p:qR}(h:H p=none)(o:HO):AG H (AV H p o):=λb u q=>by rw[AL (BQ q h)];exact q
theorem QK{p q:qR}(h:AV H p o q=none):q≠p/\H q=none:=by
 have ne:q≠p:=λz=>by rw[z,AE]at h;cases h
 rw[AL ne]at h;exact⟨ne,h⟩
theorem QL{n:Nat}(h:n<=1000):n<=sizeLine:=cr (Ac h)
section
variable{pos p:Pos}{a c:Expr}{ta tc:TE}
theorem EU{n:String}(hg:Gl X x)(hm:X.mg x=none)(hv:bootBuiltins x=some (.type n))(hn:x≠"__name__":=by decide)(hd:(x==("__debug__":Str))=false:=by decide):PE X (.Name x pos) (tC (.ty n)):=
 TD (v:=.ty n) hg hm hv rfl hn hd
theorem HN(hg:Gl X x)(hm:X.mg x=some (.ref C))(hd:(x==("__debug__":Str))=false:=by decide):PE X (.Name x pos) (tC (.ref C)):=M6 (v:=.ref C) hg hm rfl hd
theorem QM{i:Int}{t:Tok}(hg:Gl X x)(hm:X.mg x=some (.int i t))(hd:(x==("__debug__":Str))=false:=by decide):PE X (.Name x pos) (tC (.int i)):=M6 (v:=.int i) hg hm ⟨t,rfl⟩ hd
theorem Vv(hg:Gl X "isinstance")(hm:X.mg "isinstance"=none)(ha:PE X a ta)(hc:PE X c tc)(h1:starEach [a,c] X.env=(false,eval a X.env)::starEach [c] X.env:=by rfl)(h2:starEach [c] X.env=(false,eval c X.env)::starEach [] X.env:=by rfl)
  (h3:(backTo pos (starEach [c] X.env)).any (·.1)=false:=by rfl):PE X (.Call (.Name "isinstance" p) [a,c] [] pos) (Xd (TY X.K) (Ee ta (Ee tc Ii))):=
 Ad QF hg hm PyProof.Rows.boot_isinstance (AA ha (AA hc AC h2) h1) (by decide) (by decide) h1 h3
end
theorem Z6{t u:TS}(Z:St->Hp->Prop)(h1:∀N:St->Hp->Prop,(∀σ' H',Z σ' H'->N σ' H')->t {D with nx:=N} σ H)(h2:∀σ' H',Z σ' H'->u D σ' H'):Lr t u D σ H:=h1 (u D) h2
def AX(K:qV)(x:Str)(st:Stmt)(f:qR):Prop:=(∃fd,NK K x x st f fd)/\PySem.W.nsIn K mainGlobals x=some (some (.ref f))
theorem AY{K:qV}{f:qR}{kV pm ct:qQ}(a:PySem.W.nsIn K mainGlobals x=some (some (.ref f)))
  (l:K.lookup f=some ⟨oc,od,.func (PySem.W.fnOf x x (DQ st) (Bx st) (AI st) .none kV doc pm an fi ct),osl⟩) (c:PySem.W.codeIn K fi x=true) (k:PySem.W.keepIn K (.ref f)=true):AX K x st f:=
 ⟨⟨_,Vr l c k⟩,a⟩
section
variable{s:qS}{h':Heap}
theorem AW.turnedNew{ch:List qR}{p:qR}(I:AW X ad σ H s)(hf:∀b∈ch,Cp X ad H b)(k:∀b u,b∉ch->s.heap.get? b=some u->h'.get? b=some u)(hp:s.heap.objs.size<=p)
  (new:Ap X.prog X.w (AV H p o) h' p o):AW X ad σ (AV H p o) {s with heap:=h',toks:=t'}:=by
 have hpn:H p=none:=I.hok.fresh hp;have nit:∀b u,H b=some u->b∉ch:=λb u e z=>by rw[(hf b z).1]at e;cases e
 have np:∀b u,s.heap.get? b=some u->b≠p:=λb u e=>bF (ag (aY e) hp)
 refine I.step (g':=s.gens) (d':=s.drawn) (ch:=ch) (λb hb=>⟨(hf b hb).2.2.2.1,(hf b hb).2.1,(hf b hb).2.2.2.2.1,(hf b hb).2.2.2.2.2⟩) (λb u _ _ hc e _=>k b u hc e) (λb u _ _ hc e _=>⟨u.slots,k b u hc e⟩)
  (λb u _ e n=>by rw[AL (np b u e)];exact n) (λb u hc e=>⟨u,k b u hc e⟩) (λb xs e=>by rw[AL (BQ e hpn)];exact e) (λb u v e=>by rw[AL (BQ e hpn)];exact e)
  (λb ps e=>⟨#[],by rw[AL (BQ e hpn),e];simp⟩) (λm hm=>?_) (λb u e=>?_) I.bare
 ·obtain⟨o,es,ep,ho,r⟩:=hm;exact⟨o,es,ep,k _ o (λz=>(hf _ z).2.1 rfl) ho,r⟩
 ·by_cases z:b=p
  ·subst z;rw[AE]at e;cases e;exact new
  ·rw[AL z]at e;refine (I.hok b u e).stay (λc v hc q=>k c v ?_ q) (λc q=>by rw[AL (BQ q hpn)];exact q) λc xs q=>by rw[AL (BQ q hpn)];exact q
   rcases hc with y|y
   ·rw[y];exact nit b u e
   ·exact nit c _ y
end
noncomputable def X1(K:qV)(a:qR):It:=
 ⟨λi H=>∃xs x,Af K H a xs/\xs[i]?=some x,λi H v H'=>∃p x,v=.ref p/\H p=none/\H'=AV H p (.tup [.int i,x])/\∀xs,Af K H a xs->xs[i]?=some x,λi H=>∃xs,Af K H a xs/\xs.length<=i⟩
variable{elts:List Expr}{tpos:Pos}
theorem Op{P:qT}{w:qU}{K:qV}{ctx}(a e it:qR)(hne:e≠it):
  HK P w K (.Tuple elts ctx tpos) (X1 K a) [e,it] e (λi h=>(∃old,IsEnum h e it ((i:Nat):Int) old)/\h.IsListIter it a i) where
 mem:=by simp
 obj:=λi h st b hb=>by
  rcases st with⟨⟨old,q⟩,o,e1,c,d⟩;rcases aw.mp hb with z|z
  ·rw[z];exact⟨_,q,λv y=>by cases y⟩
  ·rw[aV.mp z];exact⟨o,e1,λv y=>by rw[d]at y;cases y⟩
 keep:=λi h h' st k=>by obtain⟨⟨old,q⟩,li⟩:=st;exact⟨⟨old,k e (by simp) _ q⟩,li.at λo z=>k it (by simp) o z⟩
 item:=by
  intro X hP hw hK hc i ad s σ H E I hf st hg;subst hP hw hK;rcases hg with⟨xs,x,hq,hx⟩;rcases I.list hq with⟨its,rv,p,hz⟩;obtain⟨u,hu,ru⟩:=rv.get hx;obtain⟨⟨old,he⟩,li⟩:=st;refine wpAny_pyNext_enum_item he li p.isList (x:=u) (by simpa using hu) hne λh1 out li1 ht hsz k1=>?_;refine⟨_,rfl,wpAny_letOwnedTupleGo_enum out λh2 he2 sb=>?_⟩
  have k2:∀b o,b∉[e,it]->s.heap.get? b=some o->h2.get? b=some o:=λb o hb z=>by
   have hb1:b≠e:=λy=>hb (by simp[y])
   have hb2:b≠it:=λy=>hb (by simp[y])
   exact (sb.2 b hb1).trans (k1 b o hb1 hb2 z)
  have hpe:s.heap.objs.size≠e:=di (aY he);have ht2:h2.get? s.heap.objs.size=some {cls:=.type "tuple",data:=.seq #[.int ((i:Nat):Int) s.toks,u]}:=(sb.2 _ hpe).trans ht;have hn:H s.heap.objs.size=none:=I.hok.fresh (aP _);refine⟨.ref s.heap.objs.size,AV H s.heap.objs.size (.tup [.int ((i:Nat):Int),x]),I.turnedNew (h':=h2) (t':=s.toks+1) hf k2 (aP _) ?_,rfl,⟨_,x,rfl,hn,rfl,λys hy=>by rw[I.list_inj hy hq];exact hx⟩,⟨⟨u,?_⟩,?_⟩,λb hb=>?_⟩
  ·exact⟨by show 2<=sizeLine;decide,[.int ((i:Nat):Int) s.toks,u],.cons ⟨_,rfl⟩ (.cons ru .nil),⟨_,ht2,rfl,_,rfl⟩⟩
  ·have ec:(((i+1:Nat)):Int)=((i:Nat):Int)+1:=by push_cast;rfl
   rw[ec];exact he2
  ·exact li1.at λo z=>(sb.2 it (Ne.symm hne)).trans z
  ·have b0:=(hf b hb).1;rw[AL λz=>?_]
   ·exact b0
   ·obtain⟨o,z1,_⟩:=id li;rcases aw.mp hb with y|y
    ·exact hpe (z.symm.trans y)
    ·exact qG (aY z1) (by rw[<-aV.mp y,z];exact bH _)
 done:=by intro X hP hw hK hc i ad s σ H E I hf st hg;subst hP hw hK;obtain⟨xs,hq,hx⟩:=hg;rcases I.list hq with⟨its,rv,p,hz⟩;obtain⟨⟨old,he⟩,li⟩:=st;rcases hf it (by simp) with⟨f0,f1,f2,f3,f4,f5⟩;have hl:=rv.length;exact wpAny_pyNext_enum_end (I.ok.hd hc) he li p.isList (by simp;lia) λh' eb=>⟨rfl,I.turned (t':=s.toks) (λb o hb e=>eb b o hb e) f0 f1 f3 f4 f5⟩
 self:=λ_ _ _ _ _ st h=>by obtain⟨⟨old,he⟩,_⟩:=st;exact wpAny_pyIter_enum he h
section
variable{ctx}
def X3(K:qV)(ta:TA):TI:=λσ H R=>ta σ H λvs H1=>∃a xs,vs=[.ref a]/\Af K H1 a xs/\R (X1 K a) H1
theorem Ta{l:Expr}{p pos:Pos}(hg:Gl X "enumerate")(hm:X.mg "enumerate"=none)(ha:PA X [l] ta)(hs:starEach [l] X.env=[(false,eval l X.env)]:=by rfl):PI X (.Tuple elts ctx tpos) (.Call (.Name "enumerate" p) [l] [] pos) (X3 X.K ta):=by
 intro ad s σ H R I h;refine Call_ (Co I hg hm boot_enumerate (bX (BS (ha pos ad s σ H _ I h) λus s1 z9=>?_) hs rfl));obtain⟨vs,H1,I1,r1,q1⟩:=z9;obtain⟨a,xs,e,hq,q⟩:=q1;subst e;cases r1 with
 |cons r rr =>
  cases rr;cases r;obtain⟨its,rv,pl,hz⟩:=I1.list hq;refine call_enumerate_list pl.isList λh1 he li hsz k1=>?_;refine wpAny_pyIter_enum he ?_;have n1:H1 (s1.heap.objs.size+1)=none:=I1.hok.fresh (dW _);have n0:H1 s1.heap.objs.size=none:=I1.hok.fresh (aP _);refine⟨s1.heap.objs.size+1,[s1.heap.objs.size+1,s1.heap.objs.size],_,_,H1,rfl,I1.kept (t':=s1.toks) k1,Op a _ _ (Nat.succ_ne_self _),⟨⟨_,he⟩,li⟩,λb hb=>?_,q⟩;rcases aw.mp hb with z|z
  ·rw[z];exact I1.fpOk (dW _) n1
  ·rw[aV.mp z];exact I1.fpOk (aP _) n0
theorem QN{K:qV}{g:TG}{tb:TS}(Pv:Nat->St->Hp->Prop)(h0:Pv 0 σ H)(hl:∀i σ H,i<=xs.length->Pv i σ H->Af K H a xs)
  (hs:∀i x p σ H,xs[i]?=some x->Pv i σ H->H p=none->g (.ref p) σ (AV H p (.tup [.int ((i:Nat):Int),x])) λσ2 H2=>tb {D with nx:=Pv (i+1),ct:=Pv (i+1),bk:=D.nx} σ2 H2) (hd:∀σ H,Pv xs.length σ H->D.nx σ H):
  ∃W:Nat->Nat->St->Hp->Prop,(∃m,W 0 m σ H)/\∀i m σ H,W i m σ H ->
   ((X1 K a).stop i H/\D.nx σ H)\/((X1 K a).go i H/\∃N:St->Hp->Prop,(∀σ' H',N σ' H'->∃m',m'<m/\W (i+1) m' σ' H')/\∀x H',(X1 K a).yld i H x H'->g x σ H' λσ2 H2=>tb {D with nx:=N,ct:=N,bk:=D.nx} σ2 H2):=by
 refine⟨λi m σ H=>m=xs.length-i/\i<=xs.length/\Pv i σ H,⟨xs.length,by simp,Nat.zero_le _,h0⟩,?_⟩;rintro i m σ H ⟨rfl,hi,p⟩;have q:=hl i σ H hi p
 by_cases hlt:i<xs.length
 ·refine .inr ⟨⟨xs,xs[i],q,by simp[hlt]⟩,Pv (i+1),λσ' H' p'=>⟨xs.length-(i+1),by lia,rfl,hlt,p'⟩,λv H' y=>?_⟩;rcases y with⟨p2,x,e1,e2,e3,y⟩;subst e1 e3;exact hs i x p2 σ H (y xs q) p e2
 ·have e:i=xs.length:=by lia
  subst e;exact .inl ⟨⟨xs,q,aP _⟩,hd σ H p⟩
end
theorem NL:∀{xs:List V} {us:List qQ},xs.length=us.length->(∀(i:Nat) (x:V) (u:qQ),xs[i]?=some x->us[i]?=some u->A8 x u)->Au xs us
 |[],[],_,_=>.nil
 |x::xs,u::us,hl,h=>.cons (h 0 x u rfl rfl) (NL (by simpa using hl) λi y v e1 e2=>h (i+1) y v (by simpa using e1) (by simpa using e2))
 |[],_::_,hl,_=>by simp at hl
 |_::_,[],hl,_=>by simp at hl
noncomputable def FC(n:Nat):qW:=(List.range n).map λi:Nat=>(i:Int)
theorem HP{n i:Nat}(h:i<n):(FC n)[i]?=some (i:Int):=by unfold FC;rw[List.getElem?_map,List.getElem?_range h];rfl
theorem CV(n:Nat):(FC n).length=n:=by unfold FC;rw[List.length_map,List.length_range]
section
variable{a:Expr}{cs:List Expr}{ta:TE}{tc:TA}{p pos:Pos}{ctx}
noncomputable def QO(K:qV):List V->Hp->VK->Prop
 |[x,c],H,Q=>∃t tp vs us b,Xy K H x t/\c=.ref tp/\H tp=some (.tup vs)/\vs.map QE=us.map some/\PySem.W.kitAny K t us=some b/\Q (.bl b) H
 |_,_,_=>False
theorem KY:∀{vs:List V} {its us:List qQ},Au vs its->vs.map QE=us.map some->its=us
 |_,_,[],.nil,_=>rfl
 |_,_,_::_,.nil,e=>by simp at e
 |_,_,[],.cons _ _,e=>by simp at e
 |x::xs,_,u::us,.cons r rr,e=>by
  simp only[List.map_cons,List.cons.injEq]at e;obtain⟨e1,e2⟩:=e;rw[KY rr e2]
  congr 1
  cases x with
  |ty n=>cases e1;exact r
  |ref a=>cases e1;exact r
  |_=>cases e1
theorem Vw{s:qS}{x:V}{v t:qQ}(I:AW X ad σ H s)(rx:A8 x v)(ty:Xy X.K H x t):(∃φ,PySem.W.KitX X.K v t φ/\φ s.heap)/\v≠.builtin "__main__.__loader__#opaque":=by
 cases ty with
 |of ty =>
  cases ty with
  |non=>cases (show v=Value.none from rx);exact⟨⟨_,PySem.W.kitx_none,True.intro⟩,λz=>nomatch z⟩
  |bl y=>cases (show v=Value.bool y from rx);exact⟨⟨_,PySem.W.kitx_bool,True.intro⟩,λz=>nomatch z⟩
  |int i=>obtain⟨t,q⟩:=(show ∃t,v=Value.int i t from rx);cases q;exact⟨⟨_,PySem.W.kitx_int,True.intro⟩,λz=>nomatch z⟩
  |str y=>obtain⟨t,q⟩:=(show ∃t,v=Value.str y t from rx);cases q;exact⟨⟨_,PySem.W.kitx_str,True.intro⟩,λz=>nomatch z⟩
  |flt y=>obtain⟨t,q⟩:=(show ∃t,v=Value.float y t from rx);cases q;exact⟨⟨_,PySem.W.kitx_float,True.intro⟩,λz=>nomatch z⟩
  | @lst a xs ea =>
   cases (show v=Value.ref a from rx);obtain⟨_,_,n,_,h1⟩:=(show Ap X.prog X.w H s.heap a (.lst xs) from I.hok a _ ea);exact⟨⟨_,fI,⟨_,h1,rfl⟩⟩,λz=>nomatch z⟩
  | @frz a ob xs ea =>
   cases (show v=Value.ref a from rx);obtain⟨_,_,_,n,_,h1⟩:=(show Ap X.prog X.w H s.heap a (.frz ob (.lst xs)) from I.hok a _ ea);exact⟨⟨_,fI,⟨_,h1,rfl⟩⟩,λz=>nomatch z⟩
  | @tup a xs ea =>
   cases (show v=Value.ref a from rx);obtain⟨_,_,_,p⟩:=(show Ap X.prog X.w H s.heap a (.tup xs) from I.hok a _ ea);obtain⟨o,h1,h2,_⟩:=p;exact⟨⟨_,PySem.W.kitx_tuple,⟨o,h1,h2⟩⟩,λz=>nomatch z⟩
  | @dK a kvs ea =>
   cases (show v=Value.ref a from rx);obtain⟨_,_,vs,_,p⟩:=(show Ap X.prog X.w H s.heap a (.dK kvs) from I.hok a _ ea);obtain⟨o,es,ep,h1,h2,_⟩:=p;exact⟨⟨_,fJ,⟨o,h1,h2.1⟩⟩,λz=>nomatch z⟩
  | @dT a kvs ea =>
   cases (show v=Value.ref a from rx);obtain⟨_,_,xs,_,o,es,ep,h1,h2,_⟩:=(show Ap X.prog X.w H s.heap a (.dT kvs) from I.hok a _ ea);exact⟨⟨_,fJ,⟨o,h1,h2.1⟩⟩,λz=>nomatch z⟩
  | @ins a C dx fs ea cl ha hn htk hm =>
   cases (show v=Value.ref a from rx);obtain⟨mA,O,_⟩:=ND I.hok ea;obtain⟨od,J,_⟩:=O.look;exact⟨⟨_,PySem.W.kitx_own (cl.get _) cl.hd ha hn htk hm,J⟩,λz=>nomatch z⟩
 | @exc a D dy n e ck =>
  cases (show v=Value.ref a from rx);obtain⟨x,_,_⟩:=(show Ap X.prog X.w H s.heap a (.ext (Gf a (.ref D) _ _)) from I.hok a _ e);exact⟨⟨_,KU ck,x⟩,λz=>nomatch z⟩
theorem Oq:CT X (.builtin "isinstance") (QO X.K):=by
 intro ad s σ H xs us Q I rv h;rcases xs with _|⟨x,_|⟨c,_|⟨_,_⟩⟩⟩
 ·exact h.elim
 ·exact h.elim
 rotate_left
 ·exact h.elim
 rcases h with⟨t,tp,vs,ucs,b,ty,rfl,ht,hcs,k,q⟩;rcases KP rv with⟨v1,v2,rfl,r1,r2⟩;cases (show v2=Value.ref tp from r2);rcases (show Ap X.prog X.w H s.heap tp (.tup vs) from I.hok tp _ ht) with⟨_,its,rits,o,ho,hcl,n,hd⟩;rcases o with⟨c1,c2,c3,c4⟩;dsimp only at hcl hd;subst hcl hd;have e:=KY rits hcs;subst e;rcases Vw I r1 ty with⟨⟨φ,Z,hφ⟩,hx⟩;exact PySem.W.kia_tup Z I.kIn hφ ho k hx λtk=>⟨.bl b,H,I.tok tk,rfl,q⟩
theorem Tb(hg:Gl X "isinstance")(hm:X.mg "isinstance"=none)(ha:PE X a ta)(hc:PA X cs tc)(h1:starEach [a,.Tuple cs ctx tpos] X.env=(false,eval a X.env)::starEach [.Tuple cs ctx tpos] X.env:=by rfl)
  (h2:starEach [.Tuple cs ctx tpos] X.env=(false,eval (.Tuple cs ctx tpos) X.env)::starEach [] X.env:=by rfl)
  (h3:(backTo pos (starEach [.Tuple cs ctx tpos] X.env)).any (·.1)=false:=by rfl):PE X (.Call (.Name "isinstance" p) [a,.Tuple cs ctx tpos] [] pos) (Xd (QO X.K) (Ee ta (Ee (Vn tc) Ii))):=
 Ad Oq hg hm PyProof.Rows.boot_isinstance (AA ha (AA (Bc hc) AC h2) h1) (by decide) (by decide) h1 h3
end
section
variable{K:qV}
theorem Ui:PySem.W.kitOne K (.type "int") (.type "int")=some true:=by kernel_rfl
theorem Uj:PySem.W.kitOne K (.type "int") (.type "bool")=some false:=by kernel_rfl
theorem Uk:PySem.W.kitOne K (.type "bool") (.type "int")=some true:=by kernel_rfl
theorem QP:PySem.W.kitOne K (.type "bool") (.type "bool")=some true:=by kernel_rfl
theorem Ul:PySem.W.kitOne K (.type "NoneType") (.type "int")=some false:=by kernel_rfl
theorem Um:PySem.W.kitOne K (.type "str") (.type "int")=some false:=by kernel_rfl
theorem Uo:PySem.W.kitOne K (.type "list") (.type "int")=some false:=by kernel_rfl
theorem QQ:PySem.W.kitOne K (.type "list") (.type "list")=some true:=by kernel_rfl
theorem QR:PySem.W.kitOne K (.type "tuple") (.type "tuple")=some true:=by kernel_rfl
theorem Uq:PySem.W.kitOne K (.type "tuple") (.type "int")=some false:=by kernel_rfl
end
structure CJ(P:qT)(w:qU)(K:qV)(mg:Str->Option qQ)(base:Heap)(k:Nat)(f:qR)(ps:List Str)(sp:Sp):Prop where
 ex:∃fd,GC P w K mg base (Lo P w) k f fd ps sp/\Ge K fd ps []
 kp:PySem.W.keepIn K (.ref f)=true
section
variable{P:qT}{w:qU}{K:qV}{mg:Str->Option qQ}{base:Heap}{f:qR}{N:List Str}{k:Nat}
theorem NK.ok0(F:NK K x qual st f fd)(S:AO N ps (AI st))(len:∀vs H Q E,sp vs H Q E->vs.length=ps.length)
  (hbody:∀(fi:qQ) (A:Around) (outer:List Env) (s:qS) (H:Hp) (vs:List V) (Q:VK) (E:XK),B7 k (A.deeper (envOfC qual (AI st) s.heap.objs.size f fi))->sp vs H Q E ->
   ∃t,Ic (Gs (Lo P w) P w K mg base N qual (AI st) f fi A outer s H E).nox (Bx st) t/\t {nx:=λ_ H'=>Q .non H',rt:=Q} (DA N vs) H):GC P w K mg base (Lo P w) (k+1) f fd ps sp:=
 F.okX S len λfi A outer s H vs Q E hr hsp=>by obtain⟨t,h,q⟩:=hbody fi A outer s H vs Q E hr hsp;exact⟨t,h.nox,q⟩
abbrev HR(x qual:Str)(st:Stmt)(ps:List Str):Prop:=∀(kV doc pm:qQ) (an:Option qR) (fi ct:qQ) (us:List qQ),us.length=ps.length->bindArgs (PySem.W.fnOf x qual (DQ st) (Bx st) (AI st) .none kV doc pm an fi ct) ⟨us,[]⟩=pure (ps.zip us)
theorem Tc(D:∃fd,NK K x qual st f fd)(S:AO N ps (AI st))(bd:HR x qual st ps)(len:∀vs H Q E,sp vs H Q E->vs.length=ps.length)
  (hbody:∀(fi:qQ) (A:Around) (outer:List Env) (s:qS) (H:Hp) (vs:List V) (Q:VK) (E:XK),B7 k (A.deeper (envOfC qual (AI st) s.heap.objs.size f fi))->sp vs H Q E ->
   ∃t,Ic (Gs (Lo P w) P w K mg base N qual (AI st) f fi A outer s H E).nox (Bx st) t/\t {nx:=λ_ H'=>Q .non H',rt:=Q} (DA N vs) H):CJ P w K mg base (k+1) f ps sp:=by
 obtain⟨fd,F⟩:=D;exact⟨⟨fd,F.ok0 S len hbody,F.binds bd⟩,F.kp⟩
end
section
variable{k:Nat}{f:qR}{E:St->XK}{EX:XK}{np p pos cpos:Pos}{e:Expr}{t:TA}
theorem QS(G:CJ X.prog X.w X.K X.mg X.base k f ps sp)(hr:B7 k X.A)(hg:Gl X x)(hm:X.mg x=some (.ref f))(hx:Jm (Lo X.prog X.w) X E)
  (ha:PA X (e::es) t) (hdb:(x==("__debug__":Str))=false:=by decide) (he:starEach (e::es) X.env=(false,eval e X.env)::starEach es X.env:=by rfl) (hpl:(backTo pos (starEach es X.env)).any (·.1)=false:=by rfl):
  PE X (.Call (.Name x p) (e::es) [] pos) (Jn sp [] E t):=by
 rcases G with⟨⟨fd,F,b⟩,kp⟩;exact QC F hr hg hm kp b .nil hx ha hdb he hpl
theorem Ez{i:Int}(hg:Gl X x)(hm:∃t,X.mg x=some (.int i t))(hd:(x==("__debug__":Str))=false:=by decide):PE X (.Name x pos) (tC (.int i)):=by obtain⟨t,hm⟩:=hm;exact QM hg hm hd
end
inductive QT(K:qV)(vs:List V)(H:Hp)(Q:VK)(z3_:XK):Prop
 |m (a:qR) (ns:qW) (k:Nat):vs=[.ref a,.int k]->Af K H a (ns.map V.int)->ns.length<=63->Q (.int (ns.getD k 0)) H->QT K vs H Q z3_
noncomputable def Kd(H:Hp):V->Prop
 |.int _=>True
 |.bl _=>True
 |.non=>True
 |.str _=>True
 |.ref a=>∃xs,H a=some (.lst xs)\/H a=some (.tup xs)
 |_=>False
theorem Kd.same(e:AG H H'):∀{x:V},Kd H x->Kd H' x
 |.int _,_=>True.intro
 |.bl _,_=>True.intro
 |.non,_=>True.intro
 |.str _,_=>True.intro
 |.ref a,h=>by obtain⟨xs,h⟩:=h;exact⟨xs,h.elim (λq=>.inl (e _ _ q)) λq=>.inr (e _ _ q)⟩
noncomputable def ZT:V->Bool
 |.int _=>true
 |_=>false
inductive Jo(vs:List V)(H:Hp)(Q:VK)(z3_:XK):Prop
 |m (x:V):vs=[x]->Kd H x->Q (.bl (ZT x)) H->Jo vs H Q z3_
noncomputable def Sz(g:Int):V->Bool
 |.int i=>decide (0<=i)&&decide (i<g)
 |_=>false
inductive QU(vs:List V)(H:Hp)(Q:VK)(z3_:XK):Prop
 |m (x:V) (g:Int):vs=[x,.int g]->Kd H x->Q (.bl (Sz g x)) H->QU vs H Q z3_
noncomputable def Ce(g:Int)(xs:List V):Option Nat:=xs.findIdx? λx=>!Sz g x
noncomputable def Lz(g n:Int)(ns:qW):Int:=ns.foldl (λm x=>m*g+x) n
noncomputable def A5(g:Int)(ns:qW):Int:=Lz g 0 ns
theorem HS{g:Int}(h:Ce g xs=none):∃ns:qW,xs=ns.map V.int/\∀n∈ns,0<=n/\n<g:=by
 unfold Ce at h;rw[eR]at h
 induction xs with
 |nil=>exact⟨[],rfl,λn z=>qG z (by simp)⟩
 |cons x xs ih =>
  obtain⟨ns,e,b⟩:=ih λy hy=>h y (aa _ hy)
  have hx:=h x ai;cases x with
  |int i =>
   simp only[Sz,Bool.not_eq_false',Bool.and_eq_true,decide_eq_true_eq]at hx;exact⟨i::ns,by rw[e];rfl,λn z=>(aw.mp z).elim (λq=>q▸hx) (b n)⟩
  |_=>simp[Sz]at hx
theorem L0{g:Int}{ns:qW}(h:∀n∈ns,0<=n/\n<g):Ce g (ns.map V.int)=none:=by unfold Ce;rw[eR];intro x hx;obtain⟨n,hn,e⟩:=ao.mp hx;subst e;have q:=h n hn;simp[Sz,q.1,q.2]
theorem NM{ns:qW}:∀x∈ns.map V.int,Kd H x:=λx hx=>by obtain⟨n,_,e⟩:=ao.mp hx;subst e;exact True.intro
end L2
namespace L2
open PySem
variable{D:Fc}{H':Hp}{xs:List V}{σ:St}
theorem Ef{t:TS}(Z:Hp->Prop)(hz:Z H')(h:∀H2,Z H2->t D σ H2):t D σ H':=h H' hz
theorem KZ{ns ms:qW}(h:ns.map V.int=ms.map V.int):ns=ms:=(List.map_inj_right (f:=V.int) λ_ _ e=>V.int.inj e).mp h
theorem L5{g:Int}{i:Nat}{x:V}(hb:Ce g (xs.take i)=none)(hx:xs[i]?=some x)(hs:Sz g x=true):Ce g (xs.take (i+1))=none:=by
 unfold Ce at *;rw[eR]at hb⊢;intro y hy;rw[List.take_succ,hx]at hy;rcases aR.mp hy with z|z
 ·exact hb y z
 ·have e:y=x:=by simpa using z
  rw[e,hs];rfl
theorem L6{g:Int}{i:Nat}{x:V}(hb:Ce g (xs.take i)=none)(hx:xs[i]?=some x)(hs:Sz g x=false):Ce g xs=some i:=by
 obtain⟨hi,ex⟩:=aN.mp hx
 have e:xs=xs.take i++x::xs.drop (i+1):=by rw[<-ex,<-eS hi,bz]
 unfold Ce at *;rw[e,List.findIdx?_append,hb];simp[List.findIdx?_cons,hs,List.length_take];lia
theorem Eg{ns:qW}{i:Nat}{x:V}(h:(ns.map V.int)[i]?=some x):∃n,ns[i]?=some n/\x=.int n:=by rw[aQ]at h;obtain⟨n,e1,e2⟩:=aq.mp h;exact⟨n,e1,e2.symm⟩
theorem Dp{g n:Int}{ns:qW}{i:Nat}(h:ns[i]?=some n):A5 g (ns.take (i+1))=A5 g (ns.take i)*g+n:=by unfold A5 Lz;rw[List.take_succ,h,fK];rfl
noncomputable def low(g:Int):qW->Int
 |[]=>0
 |x::r=>x+g*low g r
theorem Ka(g x:Int):∀l:qW,low g (l++[x])=low g l+x*g^l.length
 |[]=>by simp[low]
 |y::l=>by
  rw[eW,low,low,Ka g x l,bD,bA,Int.mul_add,fV]
  congr 2
  rw[cx g,Int.mul_assoc]
theorem Fh(g x:Int)(l:qW):A5 g (l++[x])=A5 g l*g+x:=by unfold A5 Lz;rw[fK];rfl
theorem Jp(g:Int):∀l:qW,A5 g l.reverse=low g l
 |[]=>rfl
 |x::l=>by rw[dh,Fh,Jp g l,low,cx,Int.add_comm]
theorem NO(g:Int)(ns:qW):A5 g ns=low g ns.reverse:=by rw[<-Jp,fS]
end L2
namespace L2
open PySem PySem.Spec PyProof.Rows
variable{C a it l:qR}{D:Fc}{E Q:qQ->qS->Prop}{H H' H2:Hp}{T:String}{X:Cx}{elts es:List Expr}{fp:List qR}{items:Array qQ}{ad:List (qR×Obj)}{s':qS}{scope:Scope}{ta:TA}{te:TE}{tpos:Pos}{u:qQ}{xs:List V}{α:Type}{σ:St}
mutual
inductive FD(K:qV)(H:Hp):V->PyData->Prop
 |non:FD K H .non .none
 |bl (b:Bool):FD K H (.bl b) (.bool b)
 |int (i:Int):FD K H (.int i) (.int i)
 |str (x:Str):FD K H (.str x) (.str x)
 |lst {a:qR} {xs:List V} {ds:List PyData}:Af K H a xs->GI K H xs ds->FD K H (.ref a) (.list ds)
 |tup {a:qR} {xs:List V} {ds:List PyData}:Aa K H a xs->GI K H xs ds->FD K H (.ref a) (.tuple ds)
inductive GI(K:qV)(H:Hp):List V->List PyData->Prop
 |nil:GI K H [] []
 |cons {x:V} {xs:List V} {d:PyData} {ds:List PyData}:FD K H x d->GI K H xs ds->GI K H (x::xs) (d::ds)
end
section
variable{s:qS}
theorem FD.reads(I:AW X ad σ H s){x:V}{d:PyData}(h:FD X.K H x d)(r:A8 x u):∃as,Reads s.heap u d as:=by
 revert u
 refine FD.rec (motive_1:=λx d _=>∀{u:qQ},A8 x u->∃as,Reads s.heap u d as) (motive_2:=λxs ds _=>∀{us:List qQ},Au xs us->∃as,ReadsAll s.heap us ds as) ?_ ?_ ?_ ?_ ?_ ?_ ?_ ?_ h
 ·intro _ r;cases r;exact⟨_,.none⟩
 ·intro b _ r;cases r;exact⟨_,.bool b⟩
 ·intro i _ r;obtain⟨t,e⟩:=r;subst e;exact⟨_,.int i t⟩
 ·intro x _ r;obtain⟨t,e⟩:=r;subst e;exact⟨_,.str x t⟩
 ·intro _ _ _ hq _ ih _ r;cases r;obtain⟨its,rv,⟨o,n,e,c,_,d⟩,_⟩:=I.list hq;obtain⟨as,q⟩:=ih rv;exact⟨_,.list e c d (by simpa using q)⟩
 ·intro _ _ _ hq _ ih _ r;cases r;obtain⟨its,rv,⟨o,e,c,n,d⟩,_⟩:=I.tuple hq;obtain⟨as,q⟩:=ih rv;exact⟨_,.tuple e c d (by simpa using q)⟩
 ·intro _ r;cases r;exact⟨_,.nil⟩
 ·intro _ _ _ _ _ _ ih1 ih2 _ r;cases r with
  |cons r rr =>
   obtain⟨as,q⟩:=ih1 r;obtain⟨bs,q2⟩:=ih2 rr;exact⟨_,.cons q q2⟩
def X4(K:qV):R2:=λx y H Q=>∃d e,FD K H x d/\FD K H y e/\d.canLay0=true/\e.canLay0=true/\d.depth<=60/\Q (.bl (PyData.eqv d e)) H
theorem Vx(hu:X.A.units+64<cLine):Fa X (compareOp .Eq) (X4 X.K):=by intro ad s σ H x y v u Q I rx ry h;obtain⟨d,e,hd,he,c1,c2,dd,q⟩:=h;obtain⟨as,r1⟩:=hd.reads I rx;obtain⟨bs,r2⟩:=he.reads I ry;have z:=SeqAt.rcAt_reads (A:=X.A) r1 r2 c1 c2 (by have:=Nat.min_le_left d.depth e.depth;lia);exact z X.prog X.w X.xe _ ⟨.bl _,H,I,rfl,q⟩
end
theorem Fi{K:qV}:∀ns:qW,GI K H (ns.map V.int) (ns.map PyData.int)
 |[]=>.nil
 |n::ns=>.cons (.int n) (Fi ns)
theorem HU:∀ns:qW,PyData.canLayAll0 (ns.map PyData.int)=true
 |[]=>by simp only[List.map_nil,PyData.canLayAll0]
 |n::ns=>by simp only[List.map_cons,PyData.canLayAll0,PyData.canLay0,HU ns,Bool.and_self]
theorem aE{K:qV}{t:qQ}(h:PySem.W.kitOne K t (.type T)=some true)(r:List qQ):PySem.W.kitAny K t (.type T::r)=some true:=by unfold PySem.W.kitAny;rw[h]
theorem QV{K:qV}(h:X.K=K):Uh X (TR K):=h▸NJ
theorem Td{K:qV}(h:X.K=K):Uh X (TU K):=h▸P6
noncomputable def EV(X:Cx)(s2:qS)(H2:Hp)(env:Env)(fp:List qR)(N:List Str):Cx:={X with N:=N,s₀:=s2,H₀:=H2,env:=env,outer:=X.stack,ex:=fp,fn:=λ_=>false,pn:=[],xe:=λ_ _=>False}
theorem Ur{s2:qS}{env:Env}{N:List Str}:(EV X s2 H2 env fp N).K=X.K:=rfl
noncomputable def Gu(env:Env):List (Str×qR)->Prop
 |[]=>True
 | (y,c)::r=>env.cells.lookup y=some c/\Gu env r
theorem Gu.at'{env:Env}:∀{cl:List (Str×qR)},Gu env cl->∀{y:Str} {c:qR},cl.lookup y=some c->env.cells.lookup y=some c
 |[],_,_,_,h=>by cases h
 | (z,d)::r,⟨h1,h2⟩,y,c,h=>by
  rw[d5]at h;cases e:y==z with
  |true =>
   rw[e]at h;cases h;rw[eq_of_beq e];exact h1
  |false =>
   rw[e]at h;exact h2.at' h
noncomputable def ZD:Option NameKind->Bool
 |some .cell=>true
 |some .free=>true
 |_=>false
theorem QW{k:Option NameKind}(h:ZD k=true):k=some .cell\/k=some .free:=by
 unfold ZD at h
 split at h
 ·exact .inl rfl
 ·exact .inr rfl
 ·cases h
noncomputable def HV(X:Cx)(scope:Scope)(cl:List (Str×qR)):List (Nat×Str)->Prop
 |[]=>True
 | (j,y)::r=>(X.N[j]?=some y/\ZD (X.env.scope.names.lookup y)=true/\(relabel scope X.env).names.lookup y=X.env.scope.names.lookup y/\(cl.lookup y).isSome=true)/\HV X scope cl r
variable{cl:List (Str×qR)}
theorem HV.at':∀{fv:List (Nat×Str)},HV X scope cl fv->∀q∈fv,X.N[q.1]?=some q.2/\ZD (X.env.scope.names.lookup q.2)=true/\(relabel scope X.env).names.lookup q.2=X.env.scope.names.lookup q.2/\(cl.lookup q.2).isSome=true
 |[],_,q,h=>by cases h
 | (j,y)::r,⟨h1,h2⟩,q,h=>(aw.mp h).elim (λe=>by rw[e];exact h1) λz=>h2.at' q z
noncomputable def Cz(σ:St)(fv:List (Nat×Str)):List (Option V):=fv.map λq=>(σ[q.1]?).join
def PF(X:Cx)(ifs:List Expr)(t:TT):Prop:=∀(ad:List (qR×Obj)) (s:qS) (σ:St) (H:Hp) (Q:Bool->Hp->Prop),AW X ad σ H s->t σ H Q ->
 wpAny (model X.prog X.w) X.A (forIn ifs true λc r=>if r=true then do let ok <-isTrue c X.env (eval c X.env);pure (ForInStep.yield ok) else pure (ForInStep.yield r)) (TP X ad σ Q) X.xe s
def Te:TT:=λ_ H Q=>Q true H
theorem GJ:PF X [] Te:=λad s σ H Q I h=>qD ⟨H,I,h⟩
theorem FM{c:Expr}{t:TT}(h:PT X c t):PF X [c] t:=λad s σ H Q I q=>by simp only[List.forIn_cons,List.forIn_nil,if_true];exact qC (qC (BS (h ad s σ H Q I q) λb s1 z=>qD (qD z)))
def Eh(J:It)(tt:TT)(te:TE)(σf:List (Option V))(D:qR)(Q:VK)(H:Hp):Prop:=∃W:Nat->Nat->List V->Hp->Prop,(∃n,W n 0 [] (AV H D (.lst [])))/\∀n i fh H2,W n i fh H2 ->
 (J.stop i H2/\Q (.ref D) H2)\/(J.go i H2/\∃N:List V->Hp->Prop,(∀l H',N l H'->∃n',n'<n/\W n' (i+1) l H')/\∀v H3,J.yld i H2 v H3->tt (some v::σf) H3 λb H4 =>
  if b=true then te (some v::σf) H4 λy H5=>H5 D=some (.lst fh)/\fh.length<sizeLine/\N (fh++[y]) (AV H5 D (.lst (fh++[y]))) else N fh H4)
def QX(wi:TI)(fv:List (Nat×Str))(tt:TT)(te:TE):TE:=λσ H Q=>wi σ H λJ H1=>∀D,H1 D=none->Eh J tt te (Cz σ fv) D Q H1
variable{h1 h':Heap}
section
variable{X:Cx}{x:Str}{px pos:Pos}{elt iter:Expr}{ifs:List Expr}{scope:Scope}{cl:List (Str×qR)}{fv:List (Nat×Str)}{wi:TI}{tt:TT}{te:TE}
 {ad:List (qR×Obj)} {σ:St} {H2:Hp} {s2:qS} {fp:List qR} {it:qR} {tn:Nat->Heap->Prop} {J:It}
theorem QY{N:List Str}(I2:AW X ad σ H2 s2)(f2:∀b∈fp,Cp X ad H2 b)(o2:∀b∈fp,∃o,s2.heap.get? b=some o/\∀v,o.data≠.cell v)(hC:s2.heap.objs.size<=C)(hk:scope.kind=.function)(hcl:Gu X.env cl)
  (hhas:((relabel scope X.env).names.all λz=>!(z.2==.cell||z.2==.free)||(cl.lookup z.1).isSome)=true):(EV X s2 H2 (compEnvC scope cl C X.env) fp N).Ok where
 mod:=I2.ok.mod
 kind:=hk
 glob:=I2.ok.glob
 blt:=I2.ok.blt
 above:=hC
 inj:=λx y c h1 h2=>I2.ok.inj x y c (hcl.at' h1) (hcl.at' h2)
 has:=λy h=>by
  have key:∀k:NameKind,(relabel scope X.env).names.lookup y=some k->(k==.cell||k==.free)=true->∃c,cl.lookup y=some c:=λk hl hk=>by
   have mem:(y,k)∈(relabel scope X.env).names:=by
    generalize (relabel scope X.env).names=l at hl
    induction l with
    |nil=>cases hl
    |cons q r ih =>
     rw[d5]at hl;cases e:y==q.1 with
     |true =>
      rw[e]at hl;cases hl;rw[eq_of_beq e];exact ai
     |false =>
      rw[e]at hl;exact aa _ (ih hl)
   have z:=eg.mp hhas _ mem;simp only[hk,Bool.not_true,Bool.false_or]at z;exact dg.mp z
  rcases h with h|h
  ·exact key _ h rfl
  ·exact key _ h rfl
 cab:=λ_ _ h=>nomatch h
 hd:=I2.ok.hd
 frames:=I2.ok.frames
 stk:=.inl rfl
 exf:=λb hb=>by obtain⟨o,e,_⟩:=o2 b hb;exact⟨bF (ag (aY e) hC),λy c h=>(f2 b hb).2.2.2.2.1 y c (hcl.at' h)⟩
 bs:=λb o e=>I2.bs b o e
 bsz:=bK I2.ok.bsz I2.sz
 noex:=λb o e hb=>by
  obtain⟨_,_,_,h,_⟩:=f2 b hb;rcases h with h|h
  ·exact I2.ok.noex b o e h
  ·exact qG (ag (aY e) (bK I2.ok.bsz h)) (bH _)
 exfs:=λb hb z=>(aw.mp (I2.stkSub b z)).elim (f2 b hb).2.1 (f2 b hb).2.2.1
 funs:=I2.stack
 frf:=I2.stkFree
theorem Ha{env:Env}{N:List Str}{σ':St}{pl:List (qR×Obj)}(I2:AW X ad σ H2 s2)(f2:∀b∈fp,Cp X ad H2 b)(Ib:AW (EV X s2 H2 env fp N) pl σ' H' s'):AW X ad σ H' s':=
 I2.call' (ch:=fp) Ib.os Ib.base Ib.hok Ib.bare λb hb=>⟨(f2 b hb).2.2.2.1,(f2 b hb).2.1,(f2 b hb).2.2.2.2.1,(f2 b hb).2.2.2.2.2⟩
theorem Vy{D:qR}{t1:Nat}(I2:AW X ad σ H2 s2)(f2:∀b∈fp,Cp X ad H2 b)(o2:∀b∈fp,∃o,s2.heap.get? b=some o/\∀v,o.data≠.cell v)(hD:s2.heap.objs.size<=D)(hC:s2.heap.objs.size<=C)(hDC:D≠C)
  (old:∀b o,s2.heap.get? b=some o->h1.get? b=some o) (hl:h1.PlainList D #[]) (hn:h1.Ns C (λ_=>none)) (hk:scope.kind=.function) (hcl:Gu X.env cl)
  (hhas:((relabel scope X.env).names.all λz=>!(z.2==.cell||z.2==.free)||(cl.lookup z.1).isSome)=true) (hfv:HV X scope cl fv):
  AW (EV X s2 H2 (compEnvC scope cl C X.env) fp (x::fv.map (·.2))) [] (none::Cz σ fv) (AV H2 D (.lst [])) {s2 with heap:=h1,toks:=t1} where
 ok:=QY I2 f2 o2 hC hk hcl hhas
 os:=rfl
 bare:=I2.bare
 base:=Un.laid old hD (I2.hok.fresh hD)
 loc:=by
  refine⟨_,hn,λi y v h1' h2' _=>?_⟩;cases i with
  |zero=>cases h2'
  |succ i =>
   have h1':(fv.map (·.2))[i]?=some y:=h1';have h2':(Cz σ fv)[i]?=some (some v):=h2'
   obtain⟨q,hq,e1⟩:∃q,fv[i]?=some q/\q.2=y:=by rw[aQ]at h1';exact aq.mp h1'
   subst e1;rcases hfv.at' q (ae hq) with⟨g1,g2,g3,g4⟩;unfold Cz at h2';rw[aQ,hq]at h2';have e2:(σ[q.1]?).join=some v:=Option.some.inj h2'
   have e3:σ[q.1]?=some (some v):=by
    cases z:σ[q.1]? with
    |none=>rw[z]at e2;cases e2
    |some w=>rw[z]at e2;exact qP some e2
   obtain⟨m,_,lk⟩:=I2.loc;have g2:=QW g2;obtain⟨u,ru,lu⟩:=lk q.1 q.2 v g1 e3 (.inr g2);refine⟨u,ru,.inr ⟨g2.imp (λz=>g3.trans z) (λz=>g3.trans z),?_⟩⟩;obtain⟨c,hc⟩:=dg.mp g4;refine⟨c,hc,?_⟩;rcases lu with⟨kk,_⟩|⟨_,c',e',⟨o,eo,d⟩⟩
   ·rcases g2 with z|z<;>(rw[show X.env.kindOf q.2=_ from z]at kk;cases kk)
   ·have e4:=hcl.at' hc;rw[e']at e4;cases e4;exact⟨o,old c o eo,d⟩
 cell:=λy c h=>by rcases I2.cell y c (hcl.at' h) with⟨v,o,eo,d⟩;exact⟨v,o,old c o eo,d⟩
 free:=by show AV H2 D _ C=none;rw[AL (Ne.symm hDC)];exact I2.hok.fresh hC
 freeC:=λy c h=>by rcases I2.cell y c (hcl.at' h) with⟨v,o,eo,d⟩;rw[AL (bF (ag (aY eo) hD))];exact I2.freeC y c (hcl.at' h)
 pin:=λp hp=>nomatch hp
 hok:=I2.hok.laid old hD (by obtain⟨n,e⟩:=hl;exact⟨Nat.zero_le _,[],n,.nil,by simpa using e⟩)
 len:=by simp[Cz,EV]
theorem NP{RR:qQ->qR->Result->qS->Prop}{Q:VK}(hc:X.calm=true)(I2:AW X ad σ H2 s2)(T:HK X.prog X.w X.K (.Name x px) J fp it tn)(st2:tn 0 s2.heap)(f2:∀b∈fp,Cp X ad H2 b)
  (hcell:∀y∈scope.names,y.2≠.cell) (hk:scope.kind=.function) (hx:scope.names.lookup x=some .local) (hcl:Gu X.env cl) (hhas:((relabel scope X.env).names.all λz=>!(z.2==.cell||z.2==.free)||(cl.lookup z.1).isSome)=true) (hfv:HV X scope cl fv) (hnd:(x::fv.map (·.2)).Nodup)
  (hf:∀s H C fp,PF (EV X s H (compEnvC scope cl C X.env) fp (x::fv.map (·.2))) ifs tt) (he:∀s H C fp,PE (EV X s H (compEnvC scope cl C X.env) fp (x::fv.map (·.2))) elt te)
  (hw:∀D,H2 D=none->Eh J tt te (Cz σ fv) D Q H2)
  (hRR:∀D C σ' H' s',s2.heap.objs.size<=C->AW (EV X s2 H2 (compEnvC scope cl C X.env) fp (x::fv.map (·.2))) [] σ' H' s'->Q (.ref D) H'->RR (.ref D) C (.ok .next) s'):
  wpAny (model X.prog X.w) X.A (newList []) (λfh s3=>wpAny (model X.prog X.w) X.A (newFunctionEnv scope X.env.globals cl [] X.env.qual none .none (some X.env)) (λcenv s4 =>
   codeAny (model X.prog X.w) X.A (.compStart (.ListComp elt [⟨.Name x px,iter,ifs,0⟩] scope pos) 0 (.ref it) fh {cenv with scope:=relabel scope X.env}) (RR fh cenv.locals) s4) E s3) E s2:=by
 refine wpAny_newObj_type (wpAny_newFunctionEnv hcell (by intro y hy;simp at hy) (λh1 hns hsb=>?_) hk);dsimp only at hns hsb⊢;generalize hH:s2.heap.push {cls:=.type "list",dict:=none,data:=.seq ([]:List qQ).toArray}=HH at hns hsb⊢;have eC:HH.objs.size=s2.heap.objs.size+1:=by rw[<-hH,cV]
 have hDC:s2.heap.objs.size≠HH.objs.size:=by rw[eC];exact bF (d6 _)
 have hC:s2.heap.objs.size<=HH.objs.size:=by rw[eC];exact dW _
 have old:∀b o,s2.heap.get? b=some o->h1.get? b=some o:=λb o e=>hsb.extBut b o (by rw[eC];exact bF (cp (aY e))) (aO _ (hH▸aO _ e))
 have hacc:h1.PlainList s2.heap.objs.size #[]:=⟨_,hsb.extBut _ _ hDC (aO _ (hH▸af _ rfl))⟩;have o2:=T.obj _ _ st2;rcases hw s2.heap.objs.size (I2.hok.fresh (aP _)) with⟨W,⟨n0,w0⟩,turn⟩;generalize eD:s2.heap.objs.size=D at *;generalize eCC:HH.objs.size=C at *;have Ib:=Vy (x:=x) (t1:=s2.toks+([]:List (Str×qQ)).length) I2 f2 o2 (by rw[eD];exact aP _) (by rw[eD];exact hC) hDC old hacc hns hk hcl hhas hfv;have st1:tn 0 h1:=T.keep _ _ _ st2 λb _ o e=>old b o e
 have nD:∀b∈fp,b≠D:=λb hb=>by obtain⟨o,e,_⟩:=o2 b hb;rw[<-eD];exact bF (aY e)
 have fr1:∀b∈fp,AV H2 D (.lst []) b=none:=λb hb=>by rw[AL (nD b hb)];exact (f2 b hb).1
 have hxl:(relabel scope X.env).names.lookup x=some .local:=lookup_relabel_local hx
 have stat:∀{H':Hp},(∀b∈fp,H' b=none)->∀b∈fp,Cp (EV X s2 H2 (compEnvC scope cl C X.env) fp (x::fv.map (·.2))) [] H' b:=λhn b hb=>by obtain⟨o,e,_⟩:=o2 b hb;exact⟨hn b hb,λz=>qG (aY e) (by rw[z,eD];exact Nat.not_lt.mpr hC),λz=>(aw.mp (I2.stkSub b z)).elim (f2 b hb).2.1 (f2 b hb).2.2.1,.inl hb,λy c h=>(f2 b hb).2.2.2.2.1 y c (hcl.at' h),λq hq=>nomatch hq⟩
 have loop:codeAny (model X.prog X.w) X.A (.compLoop (.ListComp elt [⟨.Name x px,iter,ifs,0⟩] scope pos) 0 (.ref it) (.ref D) (compEnvC scope cl C X.env)) (RR (.ref D) C) {s2 with heap:=h1,toks:=s2.toks+([]:List (Str×qQ)).length}:=by
  refine codeAny_compLoop_tests (λn s'=>∃i fh σb H',AW (EV X s2 H2 (compEnvC scope cl C X.env) fp (x::fv.map (·.2))) [] σb H' s'/\σb.tail=Cz σ fv/\tn i s'.heap/\(∀b∈fp,H' b=none)/\W n i fh H') ?_ n0 ⟨0,[],_,_,Ib,rfl,st1,fr1,w0⟩;intro n s3 hRq;rcases hRq with⟨i,fh,σ3,H3,I3,t3,st3,fr3,w3⟩;rcases turn n i fh H3 w3 with⟨stop,qn⟩|⟨go,NN,hNN,step⟩
  ·refine BS (T.done (EV X s2 H2 (compEnvC scope cl C X.env) fp (x::fv.map (·.2))) rfl rfl rfl hc i [] s3 σ3 H3 _ I3 (stat fr3) st3 stop) λr s4 q4=>?_;obtain⟨hr,I4⟩:=q4;subst hr;exact hRR D C σ3 H3 s4 hC I4 qn
  ·refine BS (T.item (EV X s2 H2 (compEnvC scope cl C X.env) fp (x::fv.map (·.2))) rfl rfl rfl hc i [] s3 σ3 H3 _ I3 (stat fr3) st3 go) λr s4 q4=>?_;obtain⟨u,hr,h4⟩:=q4;subst hr;refine (show wpAny _ _ (letOwnedTupleGo (.Name x px) (.ref it) u >>= λ_=>assign (.Name x px) (compEnvC scope cl C X.env) u) _ _ _ from qC (BS h4 λ_ s5 q5=>?_));rcases q5 with⟨v,H5,I5,r5,y5,st5,fr5⟩;have I5':=I5.pinned (stat fr5) (T.obj _ _ st5);have again:∀{σ7:St} {H7:Hp} {s7:qS},AW (EV X s2 H2 (compEnvC scope cl C X.env) fp (x::fv.map (·.2))) ([]++F9 fp s5.heap) σ7 H7 s7->tn (i+1) s7.heap/\∀b∈fp,H7 b=none:=λ{σ7 H7 s7} I7=>by refine⟨T.keep _ _ _ st5 λb hb o e=>(I7.pin (b,o) (aj _ (aj _ (Cf hb e)))).1,λb hb=>?_⟩;obtain⟨o,e,d⟩:=T.obj _ _ st5 b hb;exact (I7.pin (b,o) (aj _ (aj _ (Cf hb e)))).2.1
   have sσ:σ3.set 0 (some v)=some v::Cz σ fv:=by
    cases σ3 with
    |nil =>
     have z:=I3.len;simp[EV]at z
    |cons a b =>
     have z:b=Cz σ fv:=t3;rw[z];rfl
   have g:=Gz (X:=EV X s2 H2 (compEnvC scope cl C X.env) fp (x::fv.map (λq:Nat×Str=>q.2))) (pos:=px) (i:=0) (x:=x) hnd rfl (.inl hxl) (.inr hxl);refine wpAny_noRaise (BS (g _ s5 σ3 H5 v u (λσ' H'=>σ'=some v::Cz σ fv/\H'=H5) I5' r5 ⟨sσ,rfl⟩) λ_ s6 q6=>?_);rcases q6 with⟨σ6,H6,I6,rfl,rfl⟩;refine wpAny_noRaise (BS (hf _ _ _ _ _ s6 _ _ _ I6 (step v _ y5)) λb s7 q7=>?_);obtain⟨H7,I7,q7⟩:=q7;cases b with
   |false =>
    rw[qE (by decide)]at q7⊢;obtain⟨n',hn',w7⟩:=hNN _ _ q7;exact⟨n',hn',i+1,fh,_,H7,I7.unpinned,rfl,(again I7).1,(again I7).2,w7⟩
   |true =>
    rw[qF rfl]at q7⊢;refine wpAny_noRaise (BS (he _ _ _ _ _ s7 _ _ _ I7 q7) λyv s8 q8=>?_);rcases q8 with⟨y,H8,I8,r8,e8,l8,q8⟩;obtain⟨n',hn',w8⟩:=hNN _ _ q8;refine wpAny_noRaise (BS (GG (X:=EV X s2 H2 (compEnvC scope cl C X.env) fp (x::fv.map (·.2))) _ s8 _ H8 (.ref D) [y] (.ref D) [yv] (λ_ H'=>H'=AV H8 D (.lst (fh++[y]))) I8 rfl (.cons r8 .nil) ⟨D,fh,y,rfl,rfl,e8,l8,rfl⟩) λ_ s9 q9=>?_);rcases q9 with⟨_,H9,I9,_,rfl⟩;exact⟨n',hn',i+1,fh++[y],_,_,I9.unpinned,rfl,(again I9).1,(again I9).2,w8⟩
 exact codeAny_compStart_list loop (T.self X.A 0 _ _ _ st1 loop)
theorem AW.letGo(I2:AW X ad σ H2 s2){σ':St}(J:AW X ad σ' H' s')(hC:s2.heap.objs.size<=C)(hn:H' C=none)(sb:Heap.SameBut C s'.heap h'):AW X ad σ' H' {s' with heap:=h',toks:=s'.toks}:=
 J.turned (it:=C) (λb o hb e=>(sb.2 b hb).trans e) hn (di (ag I2.lt hC)) (.inr (bK I2.sz hC)) (λy c e z=>by obtain⟨v,o,eo,d⟩:=I2.cell y c e;exact qG (ag (aY eo) (by rw[z];exact hC)) (bH _)) λp hp z=>qG (ag (aY (I2.pin p hp).1) (by rw[z];exact hC)) (bH _)
theorem Tf(hc:X.calm=true)(hi:PI X (.Name x px) iter wi)(hclos:closureFor scope X.env=pure cl)(hcell:∀y∈scope.names,y.2≠.cell)(hk:scope.kind=.function)(hnames:∀z∈scope.names,z.2=.local->scope.names.lookup z.1=some .local)
  (hx:scope.names.lookup x=some .local) (hcl:Gu X.env cl) (hhas:((relabel scope X.env).names.all λz=>!(z.2==.cell||z.2==.free)||(cl.lookup z.1).isSome)=true) (hfv:HV X scope cl fv) (hnd:(x::fv.map (·.2)).Nodup)
  (hf:∀s H C fp,PF (EV X s H (compEnvC scope cl C X.env) fp (x::fv.map (·.2))) ifs tt) (he:∀s H C fp,PE (EV X s H (compEnvC scope cl C X.env) fp (x::fv.map (·.2))) elt te)
  (hs:∀x,foldedSetIterable iter X.env x=pure x:=by intro _;rfl):PE X (.ListComp elt [⟨.Name x px,iter,ifs,0⟩] scope pos) (QX wi fv tt te):=by
 intro ad s σ H Q I h;rw[eval_ListComp];refine wpAny_comprehension_free (use:=none) rfl hs hclos hk hnames (BS (hi ad s σ H _ I h) λv s1 h1=>BS h1 λitv s2 h2=>?_);rcases h2 with⟨it,fp,tn,J,H2,e,I2,T,st2,f2,hw⟩;subst e;refine NP (RR:=λfh C=>compPost (model X.prog X.w) X.A X.xe none (EP X ad σ Q) fh C) hc I2 T st2 f2 hcell hk hx hcl hhas hfv hnd hf he hw λD C σ' H' s' hC Ib q=>?_;obtain⟨m,hn,_⟩:=Ib.loc;exact⟨m,hn,λh' sb=>⟨.ref D,H',AW.letGo I2 (Ha I2 f2 Ib) hC Ib.free sb,rfl,q⟩⟩
theorem DS{y:Str}{iy:Nat}{py spos:Pos}(hc:X.calm=true)(hN:X.N.Nodup)(hy:X.N[iy]?=some y)(hyl:UX X.env.scope y)(hi:PI X (.Name x px) iter wi)(hsw:swapsWith (.ListComp elt [⟨.Name x px,iter,ifs,0⟩] scope pos) (some (.Name y py)) spos.line X.env=pure true)
  (hclos:closureFor scope X.env=pure cl) (hcell:∀y∈scope.names,y.2≠.cell) (hk:scope.kind=.function) (hnames:∀z∈scope.names,z.2=.local->scope.names.lookup z.1=some .local)
  (hx:scope.names.lookup x=some .local) (hcl:Gu X.env cl) (hhas:((relabel scope X.env).names.all λz=>!(z.2==.cell||z.2==.free)||(cl.lookup z.1).isSome)=true) (hfv:HV X scope cl fv) (hnd:(x::fv.map (·.2)).Nodup)
  (hf:∀s H C fp,PF (EV X s H (compEnvC scope cl C X.env) fp (x::fv.map (·.2))) ifs tt) (he:∀s H C fp,PE (EV X s H (compEnvC scope cl C X.env) fp (x::fv.map (·.2))) elt te)
  (hyf:X.fn y=true\/X.env.scope.names.lookup y=some .local:=by first|exact .inl rfl|exact .inr rfl) (hs:∀x,foldedSetIterable iter X.env x=pure x:=by intro _;rfl):
  PS X (.Assign [.Name y py] (.ListComp elt [⟨.Name x px,iter,ifs,0⟩] scope pos) spos) (Oc (QX wi fv tt te) (Fd iy)):=by
 intro ad s σ H D h' h;have I:=h';rw[exec_Assign_Name_used _ _ _ _ hsw];refine qC (wpAny_standAt (qC ?_));show wpAny _ X.A (do let _ <-comprehension (.ListComp elt [⟨.Name x px,iter,ifs,0⟩] scope pos) scope X.env _ (newList []) false (eval iter X.env) (some (assign (.Name y py) X.env))) _ _ s;refine qC (qM (wpAny_comprehension_free (use:=some (assign (.Name y py) X.env)) (Q:=λ_ s'=>SP X ad D .next s') rfl hs hclos hk hnames (BS (hi ad s σ H _ I h) λv s1 h1=>BS h1 λitv s2 h2=>?_)) (λ_ s' hq=>qD (qD hq)) λ_ _ e=>e);obtain⟨it,fp,tn,J,H2,e,I2,T,st2,f2,hw⟩:=h2;subst e;refine NP (Q:=λv H1=>Fd iy v σ H1 D.nx) (RR:=λfh C=>compPost (model X.prog X.w) X.A X.xe (some (assign (.Name y py) X.env)) (λ_ s'=>SP X ad D .next s') fh C) hc I2 T st2 f2 hcell hk hx hcl hhas hfv hnd hf he hw λD' C σ' H' s' hC Ib q=>?_;obtain⟨m,hn,_⟩:=Ib.loc;show wpAny _ X.A (assign (.Name y py) X.env (.ref D')) _ _ _;refine wpAny_assign_Name (Iu (Ha I2 f2 Ib) hN hy hyl (v:=.ref D') rfl (λs3 I3 hsb=>?_) hyf);obtain⟨a,sb3,ha⟩:=hsb
 have nC:C≠a:=λz=>by
  rcases ha with e|e
  ·exact qG (ag I2.lt hC) (by rw[z,e];exact bH _)
  ·obtain⟨v,o,eo,d⟩:=I2.cell y a e;exact qG (ag (aY eo) (by rw[<-z];exact hC)) (bH _)
 exact⟨m,hn.sameBut sb3 nC,λh'' sb=>⟨_,H',AW.letGo I2 I3 hC Ib.free sb,q⟩⟩
end
variable{tt:TT}{σf:List (Option V)}
theorem Cg{lo:Int}{n:Nat}{D:qR}{Q:VK}(Pv:Nat->List V->Hp->Prop)(h0:Pv 0 [] (AV H D (.lst [])))
  (hs:∀i fh H2,i<n->Pv i fh H2->tt (some (.int (lo+i))::σf) H2 λb H4=>if b=true then te (some (.int (lo+i))::σf) H4 λy H5=>H5 D=some (.lst fh)/\fh.length<sizeLine/\Pv (i+1) (fh++[y]) (AV H5 D (.lst (fh++[y]))) else Pv (i+1) fh H4)
  (hd:∀fh H2,Pv n fh H2->Q (.ref D) H2):Eh (Ub lo n) tt te σf D Q H:=by
 refine⟨λk i fh H=>k=n-i/\i<=n/\Pv i fh H,⟨n,by simp,Nat.zero_le _,h0⟩,?_⟩;rintro k i fh H2 ⟨rfl,hi,p⟩
 by_cases hlt:i<n
 ·refine .inr ⟨hlt,Pv (i+1),λl H' p'=>⟨n-(i+1),by lia,rfl,hlt,p'⟩,λx H' y=>?_⟩;obtain⟨e,y⟩:=y;subst e y;exact hs i fh _ hlt p
 ·have e:i=n:=by lia
  subst e;exact .inl ⟨aP _,hd fh H2 p⟩
theorem GK{K:qV}{D:qR}{Q:VK}(Pv:Nat->List V->Hp->Prop)(h0:Pv 0 [] (AV H D (.lst [])))(hl:∀i fh H,i<=xs.length->Pv i fh H->Af K H a xs)
  (hs:∀i x fh H2,xs[i]?=some x->Pv i fh H2->tt (some x::σf) H2 λb H4=>if b=true then te (some x::σf) H4 λy H5=>H5 D=some (.lst fh)/\fh.length<sizeLine/\Pv (i+1) (fh++[y]) (AV H5 D (.lst (fh++[y]))) else Pv (i+1) fh H4)
  (hd:∀fh H2,Pv xs.length fh H2->Q (.ref D) H2):Eh (Xb K a) tt te σf D Q H:=by
 refine⟨λk i fh H=>k=xs.length-i/\i<=xs.length/\Pv i fh H,⟨xs.length,by simp,Nat.zero_le _,h0⟩,?_⟩;rintro k i fh H2 ⟨rfl,hi,p⟩;have q:=hl i fh H2 hi p
 by_cases hlt:i<xs.length
 ·refine .inr ⟨⟨xs,xs[i],q,by simp[hlt]⟩,Pv (i+1),λl H' p'=>⟨xs.length-(i+1),by lia,rfl,hlt,p'⟩,λx H' y=>?_⟩;obtain⟨e,y⟩:=y;subst e;exact hs i x fh _ (y xs q) p
 ·have e:i=xs.length:=by lia
  subst e;exact .inl ⟨⟨xs,q,aP _⟩,hd fh H2 p⟩
theorem FN:CT X (.type "int") (λxs H Q=>∃i:Int,(xs=[.int i]\/∃b,xs=[.bl b]/\i=if b=true then 1 else 0)/\Q (.int i) H):=by
 intro ad s σ H xs us Q I r h;obtain⟨i,h,q⟩:=h;rcases h with rfl|⟨b,rfl,e⟩
 ·obtain⟨u,rfl,⟨t,rfl⟩⟩:=FH r;exact call_int_int ⟨.int i,H,I,⟨t,rfl⟩,q⟩
 ·obtain⟨u,rfl,rx⟩:=FH r;cases rx;subst e;exact call_int_bool ⟨.int _,H,I.tok _,⟨_,rfl⟩,q⟩
section
variable{pos:Pos}
def X5(K:qV)(n:Nat)(t:Pw):TG:=λv σ H Q=>∃a xs,v=.ref a/\Af K H a xs/\xs.length=n/\t xs σ H Q
theorem Vz{k:Nat}{t:Pw}{n:Nat}(hc:X.calm=true)(h:Vg X es t)
  (hn:(assignEach es X.env).length=n:=by rfl) (hst:(assignEach es X.env).findIdx? (·.1)=none:=by rfl):PG X (.Tuple es k pos) (X5 X.K n t):=by
 intro ad s σ H v u Q I r hw;rcases hw with⟨a,xs,e1,hq,hl,hw⟩;subst e1;cases r;rcases I.list hq with⟨its,rv,p,hz⟩;have hn2:(assignEach es X.env).length=its.toArray.size:=by simp[hn,<-hl,rv.length]
 rw[assign_Tuple];refine qC (wpAny_standAt ?_);unfold unpack;rw[hn2,hst];refine qC (qO (PySem.W.kun_itemsOf (I.ok.hd hc) p.isList λh' hx=>?_));have I1:AW X ad σ H {s with heap:=h'}:=I.kept (t':=s.toks) λb o e=>hx b o (bF (aY e)) e
 exact h ad _ σ H xs _ Q I1 (by simpa using rv) hw
end
section
variable{prog:qT}{w:qU}{A:Around}{s:qS}
theorem Gv{t:qR}{i:Nat}{items}{x:qQ}(hit:s.heap.IsTupleIter it t i)(ht:s.heap.IsTuple t items)(hx:items[i]?=some x)
  (hQ:∀h',h'.IsTupleIter it t (i+1)->Heap.SameBut it s.heap h'->Q x {s with heap:=h'}):wpAny (model prog w) A (Builtin.SmallTypes.nextOf (.ref it)) Q E s:=by
 rcases id hit with⟨o,ho,hc,hd⟩;rcases ht with⟨ol,hol,_,nl,hdl⟩;unfold Builtin.SmallTypes.nextOf;refine qC (wpAny_callSpecial?_slot (name:=Str.ofString "__next__") hit.typeIs F.slot_tuple_iterator_next (wpAny_call_entry F.slot_tuple_iterator_next hit.typeIs F.entry_tuple_iterator_next ?_ (F.args_tuple_iterator_next_1 _)))
 (show wpAny _ _ (field (.ref it) 0 >>= _) _ _ s);refine qC (wpAny_field ho hd (x:=.ref t) rfl ?_)
 (show wpAny _ _ (if (Value.ref t==Value.none)=true then _ else _) _ _ s);rw[qE (show ¬((Value.ref t==Value.none)=true) from ap)]
 (show wpAny _ _ (field (.ref it) 1 >>= _) _ _ s);refine qC (wpAny_field ho hd (x:=.int i 0) rfl ?_)
 (show wpAny _ _ (seqItems? (.ref t) >>= _) _ _ s);refine qC (wpAny_seqItems hol hdl ?_)
 simp only[Int.toNat_natCast,hx];refine qC (wpAny_setField ho hd (by simp) (qD ⟨x,rfl,qD (hQ _ ⟨_,Heap.get?_update_self _ ho (Obj.isFreed_of_fields (Obj.data_mapFields hd _)),(Obj.cls_mapFields ..).trans hc,by rw[Obj.data_mapFields hd];simp[rawInt]⟩ (Heap.SameBut.update ..))⟩))
theorem Ei{t:qR}{i:Nat}{items}(hh:A.handled=none)(hit:s.heap.IsTupleIter it t i)(ht:s.heap.IsTuple t items)(hx:items[i]?=none)
  (hE:∀h' e,Heap.ExtBut it s.heap h'->(∃o,h'.get? e=some o/\o.cls=.type "StopIteration")->E (.ref e) {s with heap:=h'}):wpAny (model prog w) A (Builtin.SmallTypes.nextOf (.ref it)) Q E s:=by
 rcases id hit with⟨o,ho,hc,hd⟩;rcases ht with⟨ol,hol,_,nl,hdl⟩;unfold Builtin.SmallTypes.nextOf;refine qC (wpAny_callSpecial?_slot (name:=Str.ofString "__next__") hit.typeIs F.slot_tuple_iterator_next (wpAny_call_entry F.slot_tuple_iterator_next hit.typeIs F.entry_tuple_iterator_next ?_ (F.args_tuple_iterator_next_1 _)))
 (show wpAny _ _ (field (.ref it) 0 >>= _) _ _ s);refine qC (wpAny_field ho hd (x:=.ref t) rfl ?_)
 (show wpAny _ _ (if (Value.ref t==Value.none)=true then _ else _) _ _ s);rw[qE (show ¬((Value.ref t==Value.none)=true) from ap)]
 (show wpAny _ _ (field (.ref it) 1 >>= _) _ _ s);refine qC (wpAny_field ho hd (x:=.int i 0) rfl ?_)
 (show wpAny _ _ (seqItems? (.ref t) >>= _) _ _ s);refine qC (wpAny_seqItems hol hdl ?_)
 simp only[Int.toNat_natCast,hx];refine qC (wpAny_rule (qC (wpAny_setField ho hd (by simp) ?_)));show wpAny _ _ (newExc (.type "StopIteration") [] >>= _) _ _ _;refine qC ?_;simp only[newExc,newTuple];refine qC (wpAny_newObj_type ?_ (by size_fits));refine qC (m:=firstArgMember _ _) (wpAny_of_eq (a:=Value.none) (by first|rfl|(simp only[firstArgMember];rfl)) ?_);refine wpAny_newObj_type ?_ (by size_fits);unfold raiseNew;refine qC (wpAny_handled ?_);(first|rw[show A.in1.handled=none from hh]|rw[hh]);refine qC (qD (wpAny_throw ?_));exact (hE _ _ (((Heap.SameBut.update ..).extBut.push _).push _) ⟨_,af _ rfl,rfl⟩)
theorem Os(hh:A.handled=none)(it t:qR)(hne:t≠it)(items:Array qQ):Draws prog w A it [it,t] items.size (λi v=>items[i]?=some v) (λi h=>h.IsTupleIter it t i/\h.IsTuple t items) where
 live:=λ_ _ ⟨⟨o,ho,_⟩,_⟩=>⟨o,ho⟩
 frame:=λ_ _ _ ⟨st,o,ho,r⟩ hk=>⟨st.at λo e=>hk it (by simp) o e,o,hk t (by simp) o ho,r⟩
 item:=λi s Q E hi st hQ=>Gv st.1 st.2 (x:=items[i]) (by simp[hi]) λh' hit' hs'=>hQ _ h' s.toks (by simp[hi]) ⟨hit',st.2.extBut hs'.extBut hne⟩ hs'
 done:=λs Q E st hE=>Ei hh st.1 st.2 (by simp) hE
theorem QZ{a:α}{Q:α->qS->Prop}(h:∀b,Q b s):wpAny (model prog w) A (pure a) Q E s:=qD (h a)
open AutoSeq1 (wpAny_loadPart') in
theorem Kb(l:qR)(items:Array qQ)(n:Nat)(dct:Option qR)(sl:Array (Option qQ)):
  Meets (Builtin.«enumerate.__new__» ⟨[.type "enumerate",.ref l],[]⟩) (λ_ R s=>s.heap.get? l=some {cls:=.type "tuple",dict:=dct,data:=.seq items n,slots:=sl} /\
   R (.ok (.ret (.ref (s.heap.push {cls:=.type "tuple_iterator",data:=.fields #[.ref l,.int 0 0]}).objs.size)))
    {s with heap:=(s.heap.push {cls:=.type "tuple_iterator",data:=.fields #[.ref l,.int 0 0]}).push {cls:=.type "enumerate",data:=.fields #[.none,.bool false,.ref s.heap.objs.size,rawInt 0,.none,.none]}}):=
 .of_wp λprog w A R s h=>by
  obtain⟨hp,g,d,tk,os⟩:=s;obtain⟨hl,h⟩:=h;have hsub:=sub_enumerate;have hL:Heap.IsTuple (Shared.heap ⟨hp,g,d,tk,os⟩) l items:=⟨_,hl,rfl,n,rfl⟩
  wp_walk using wpAny_loadPart' hl
  refine wpAny_stack_any λst=>QZ λb=>?_
  cases b<;>(wp_walk using wpAny_loadPart' hl,wpAny_pyIter_tuple hL)<;>exact⟨_,rfl,h⟩
theorem L7(hL:s.heap.IsTuple l items)
  (h:∀h',IsEnum h' (s.heap.objs.size+1) s.heap.objs.size 0 .none->h'.IsTupleIter s.heap.objs.size l 0->h'.objs.size=s.heap.objs.size+2->(∀b o,s.heap.get? b=some o->h'.get? b=some o)->Q (.ref (s.heap.objs.size+1)) {s with heap:=h'}):
  wpAny (model prog w) A (call (.type "enumerate") [.ref l]) Q E s:=by
 rcases hL with⟨⟨c,dct,dt,sl⟩,hl,hc,n,hd⟩;replace hc:c=.type "tuple":=hc;replace hd:dt=.seq items n:=hd;subst hc hd;refine callType_new F.called_enumerate (by decide) (F.typeCall_enumerate_1 _) (F.newCall_enumerate_1 _) (λobj=>F.args_object_init_2 obj _) F.entry_enumerate_new (Kb l items n dct sl) ⟨hl,?_⟩;have hz:(s.heap.push {cls:=.type "tuple_iterator",data:=.fields #[.ref l,.int 0 0]}).objs.size=s.heap.objs.size+1:=cV ..;show _/\_;rw[hz]
 have he:IsEnum ((s.heap.push {cls:=.type "tuple_iterator",data:=.fields #[.ref l,.int 0 0]}).push {cls:=.type "enumerate",data:=.fields #[.none,.bool false,.ref s.heap.objs.size,rawInt 0,.none,.none]}) (s.heap.objs.size+1) s.heap.objs.size 0 .none:=by have:=af (s.heap.push {cls:=.type "tuple_iterator",data:=.fields #[.ref l,.int 0 0]}) (o:={cls:=.type "enumerate",data:=.fields #[.none,.bool false,.ref s.heap.objs.size,rawInt 0,.none,.none]}) rfl;rw[hz]at this;exact this
 exact⟨⟨_,he,rfl⟩,h _ he ⟨_,aO _ (af _ rfl),rfl,rfl⟩ (by rw[cV,hz]) λb o x=>aO _ (aO _ x)⟩
theorem GL{e t:qR}{i:Nat}{old:qQ}{Q:Option qQ->qS->Prop}(hh:A.handled=none)(he:IsEnum s.heap e it i old)(hit:s.heap.IsTupleIter it t i)(ht:s.heap.IsTuple t items)(hx:items[i]?=none)
  (hQ:∀h',Heap.ExtBut it s.heap h'->Q none {s with heap:=h'}):wpAny (model prog w) A (pyNext (.ref e)) Q E s:=by
 have hT:s.TypeIs (.ref e) "enumerate":=⟨_,he,rfl⟩;unfold pyNext;refine qC (wpAny_attempt (wpAny_callSpecial?_slot (name:=Str.ofString "__next__") hT F.slot_enumerate_next (wpAny_call_entry F.slot_enumerate_next hT F.entry_enumerate_next ?_ (F.args_enumerate_next_1 _))))
 (show wpAny _ _ (field (.ref e) 2 >>= _) _ _ _);refine qC (wpAny_field he rfl (x:=.ref it) rfl ?_)
 refine qC (Ei hh hit ht hx λh' x he' hx'=>?_);obtain⟨o,ho,hc⟩:=hx';exact qC (wpAny_isInstance (T:="StopIteration") (b:=true) ⟨o,ho,hc⟩ isSubtype_stop (qD (hQ _ he')))
end
noncomputable def Ot(K:qV)(a:qR):It:=
 ⟨λi H=>∃xs x,Aa K H a xs/\xs[i]?=some x,λi H v H'=>∃p x,v=.ref p/\H p=none/\H'=AV H p (.tup [.int i,x])/\∀xs,Aa K H a xs->xs[i]?=some x,λi H=>∃xs,Aa K H a xs/\xs.length<=i⟩
theorem L8{P:qT}{w:qU}{K:qV}{ctx}(a e it:qR)(hne:e≠it)(hna:a≠it)(hea:e≠a):
  HK P w K (.Tuple elts ctx tpos) (Ot K a) [e,it] e (λi h=>(∃old,IsEnum h e it ((i:Nat):Int) old)/\h.IsTupleIter it a i) where
 mem:=by simp
 obj:=λi h st b hb=>by
  rcases st with⟨⟨old,q⟩,o,e1,c,d⟩;rcases aw.mp hb with z|z
  ·rw[z];exact⟨_,q,λv y=>by cases y⟩
  ·rw[aV.mp z];exact⟨o,e1,λv y=>by rw[d]at y;cases y⟩
 keep:=λi h h' st k=>by obtain⟨⟨old,q⟩,li⟩:=st;exact⟨⟨old,k e (by simp) _ q⟩,li.at λo z=>k it (by simp) o z⟩
 item:=by
  intro X hP hw hK hc i ad s σ H E I hf st hg;subst hP hw hK;rcases hg with⟨xs,x,hq,hx⟩;rcases I.tuple hq with⟨its,rv,p,hz⟩;obtain⟨u,hu,ru⟩:=rv.get hx;obtain⟨⟨old,he⟩,li⟩:=st
  have hil:i<its.toArray.size:=by have:=(aN.mp hu).1;simpa using this
  refine wpAny_pyNext_enum_itemD (Os (A:=X.A.in1) (show X.A.in1.handled=none from I.ok.hd hc) it a hna its.toArray) he ⟨li,show s.heap.IsTuple a its.toArray from p⟩ hil hne (by simp[hne,hea]) λy h1 tk hy out li1 ht hsz k1=>?_
  have ey:y=u:=by
   have e1:its.toArray[i]?=some u:=by simpa using hu
   rw[e1]at hy;exact (Option.some.inj hy).symm
  subst ey;refine⟨_,rfl,wpAny_letOwnedTupleGo_enum out λh2 he2 sb=>?_⟩;have k2:∀b o,b∉[e,it]->s.heap.get? b=some o->h2.get? b=some o:=λb o hb z=>(sb.2 b λy=>hb (by simp[y])).trans (k1 b o (λy=>hb (by simp[y])) (λy=>hb (by simp[y])) z)
  have hpe:s.heap.objs.size≠e:=di (aY he);have ht2:h2.get? s.heap.objs.size=some {cls:=.type "tuple",data:=.seq #[.int ((i:Nat):Int) tk,y]}:=(sb.2 _ hpe).trans ht;have hn:H s.heap.objs.size=none:=I.hok.fresh (aP _);refine⟨.ref s.heap.objs.size,AV H s.heap.objs.size (.tup [.int ((i:Nat):Int),x]),I.turnedNew (h':=h2) (t':=tk+1) hf k2 (aP _) ⟨by show 2<=sizeLine;decide,[.int ((i:Nat):Int) tk,y],.cons ⟨_,rfl⟩ (.cons ru .nil),⟨_,ht2,rfl,_,rfl⟩⟩,rfl,⟨_,x,rfl,hn,rfl,λys hy=>by rw[I.tuple_inj hy hq];exact hx⟩,⟨⟨y,?_⟩,?_⟩,λb hb=>?_⟩
  ·have ec:(((i+1:Nat)):Int)=((i:Nat):Int)+1:=by push_cast;rfl
   rw[ec];exact he2
  ·exact li1.1.at λo z=>(sb.2 it (Ne.symm hne)).trans z
  ·have b0:=(hf b hb).1;rw[AL λz=>?_]
   ·exact b0
   ·obtain⟨o,z1,_⟩:=id li;rcases aw.mp hb with y|y
    ·exact hpe (z.symm.trans y)
    ·exact qG (aY z1) (by rw[<-aV.mp y,z];exact bH _)
 done:=by intro X hP hw hK hc i ad s σ H E I hf st hg;subst hP hw hK;obtain⟨xs,hq,hx⟩:=hg;rcases I.tuple hq with⟨its,rv,p,hz⟩;obtain⟨⟨old,he⟩,li⟩:=st;rcases hf it (by simp) with⟨f0,f1,f2,f3,f4,f5⟩;have hl:=rv.length;exact GL (I.ok.hd hc) he li p (by simp;lia) λh' eb=>⟨rfl,I.turned (t':=s.toks) (λb o hb e=>eb b o hb e) f0 f1 f3 f4 f5⟩
 self:=λ_ _ _ _ _ st h=>by obtain⟨⟨old,he⟩,_⟩:=st;exact wpAny_pyIter_enum he h
section
variable{ctx}
def V0(K:qV)(ta:TA):TI:=λσ H R=>ta σ H λvs H1=>∃a xs,vs=[.ref a]/\Aa K H1 a xs/\R (Ot K a) H1
theorem Hb{l:Expr}{p pos:Pos}(hg:Gl X "enumerate")(hm:X.mg "enumerate"=none)(ha:PA X [l] ta)(hs:starEach [l] X.env=[(false,eval l X.env)]:=by rfl):PI X (.Tuple elts ctx tpos) (.Call (.Name "enumerate" p) [l] [] pos) (V0 X.K ta):=by
 intro ad s σ H R I h;refine Call_ (Co I hg hm boot_enumerate (bX (BS (ha pos ad s σ H _ I h) λus s1 z9=>?_) hs rfl));obtain⟨vs,H1,I1,r1,q1⟩:=z9;rcases q1 with⟨a,xs,e,hq,q⟩;subst e;cases r1 with
 |cons r rr =>
  cases rr;cases r;rcases I1.tuple hq with⟨its,rv,pl,hz⟩;have hal:a<s1.heap.objs.size:=by obtain⟨o,ho,_⟩:=id pl;exact aY ho
  refine L7 pl λh1 he li hsz k1=>?_;refine wpAny_pyIter_enum he ?_;have n1:H1 (s1.heap.objs.size+1)=none:=I1.hok.fresh (dW _);have n0:H1 s1.heap.objs.size=none:=I1.hok.fresh (aP _);refine⟨s1.heap.objs.size+1,[s1.heap.objs.size+1,s1.heap.objs.size],_,_,H1,rfl,I1.kept (t':=s1.toks) k1,L8 a _ _ (Nat.succ_ne_self _) (bF hal) (di (cp hal)),⟨⟨_,he⟩,li⟩,λb hb=>?_,q⟩;rcases aw.mp hb with z|z
  ·rw[z];exact I1.fpOk (dW _) n1
  ·rw[aV.mp z];exact I1.fpOk (aP _) n0
theorem Iz{K:qV}{g:TG}{tb:TS}(Pv:Nat->St->Hp->Prop)(h0:Pv 0 σ H)(hl:∀i σ H,i<=xs.length->Pv i σ H->Aa K H a xs)
  (hs:∀i x p σ H,xs[i]?=some x->Pv i σ H->H p=none->g (.ref p) σ (AV H p (.tup [.int ((i:Nat):Int),x])) λσ2 H2=>tb {D with nx:=Pv (i+1),ct:=Pv (i+1),bk:=D.nx} σ2 H2) (hd:∀σ H,Pv xs.length σ H->D.nx σ H):
  ∃W:Nat->Nat->St->Hp->Prop,(∃m,W 0 m σ H)/\∀i m σ H,W i m σ H ->
   ((Ot K a).stop i H/\D.nx σ H)\/((Ot K a).go i H/\∃N:St->Hp->Prop,(∀σ' H',N σ' H'->∃m',m'<m/\W (i+1) m' σ' H')/\∀x H',(Ot K a).yld i H x H'->g x σ H' λσ2 H2=>tb {D with nx:=N,ct:=N,bk:=D.nx} σ2 H2):=by
 refine⟨λi m σ H=>m=xs.length-i/\i<=xs.length/\Pv i σ H,⟨xs.length,by simp,Nat.zero_le _,h0⟩,?_⟩;rintro i m σ H ⟨rfl,hi,p⟩;have q:=hl i σ H hi p
 by_cases hlt:i<xs.length
 ·refine .inr ⟨⟨xs,xs[i],q,by simp[hlt]⟩,Pv (i+1),λσ' H' p'=>⟨xs.length-(i+1),by lia,rfl,hlt,p'⟩,λv H' y=>?_⟩;rcases y with⟨p2,x,e1,e2,e3,y⟩;subst e1 e3;exact hs i x p2 σ H (y xs q) p e2
 ·have e:i=xs.length:=by lia
  subst e;exact .inl ⟨⟨xs,q,aP _⟩,hd σ H p⟩
end
def V1(K:qV):R2:=λx y H Q=>∃d e,FD K H x d/\FD K H y e/\d.canLay0=true/\e.canLay0=true/\d.depth<=60/\Q (.bl (!PyData.eqv d e)) H
theorem V2(hu:X.A.units+64<cLine):Fa X (compareOp .NotEq) (V1 X.K):=by intro ad s σ H x y v u Q I rx ry h;rcases h with⟨d,e,hd,he,c1,c2,dd,q⟩;obtain⟨as,r1⟩:=hd.reads I rx;obtain⟨bs,r2⟩:=he.reads I ry;have z:=SeqAt.rcNeAt_reads (A:=X.A) r1 r2 c1 c2 (by have:=Nat.min_le_left d.depth e.depth;lia);exact z X.prog X.w X.xe _ ⟨.bl _,H,I,rfl,q⟩
theorem CW(ns:qW):(PyData.tuple (ns.map PyData.int)).canLay0=true:=by simp only[PyData.canLay0,HU]
theorem Tg(ns:qW):PyData.eqv (.tuple (ns.map PyData.int)) (.tuple (ns.map PyData.int))=true:=SeqAt.eqvAll_refl (ns.map PyData.int) (CW ns)
end L2
namespace RW
noncomputable def dr(g n:Int):Nat->Int
 |0=>n
 |i+1=>dr g n i/g
noncomputable def DC(g n:Int):Nat->qW
 |0=>[]
 |i+1=>DC g n i++[dr g n i%g]
theorem DU(g n:Int):∀i,(DC g n i).length=i
 |0=>rfl
 |i+1=>by rw[DC,aU,DU g n i];rfl
theorem Ah{g:Int}(hg:2<=g):∀m:Nat,0<g^m
 |0=>by rw[bO];decide
 |m+1=>by rw[bA];exact Int.mul_pos (Ah hg m) (by lia)
theorem Qa{g:Int}(hg:2<=g)(n:Int):∀i:Nat,dr g n i=n/g^i
 |0=>by rw[dr,bO,Int.ediv_one]
 |i+1=>by rw[dr,Qa hg n i,bA,Int.ediv_ediv_of_nonneg (bL (Ah hg i))]
theorem NQ{g n:Int}(hg:2<=g)(hn:0<=n){m:Nat}(h:n<g^m):dr g n m=0:=by rw[Qa hg];exact fG hn h
theorem V3{g n:Int}(hg:2<=g){m:Nat}(h:g^m<=n):0<dr g n m:=by
 rw[Qa hg];have h1:1*g^m<=n:=by rw[cI];exact h
 have h2:=(Int.le_ediv_iff_mul_le (Ah hg m)).mpr h1;lia
end RW
namespace L2
open PySem
variable{H H' H1:Hp}{a l:qR}{o:HO}{xs:List V}{α:Type}
theorem Bn{g:Int}(hg:2<=g){m n:Nat}(h:m<=n):g^m<=g^n:=by obtain⟨k,rfl⟩:=Nat.exists_eq_add_of_le h;rw[Int.pow_add];have h1:=RW.Ah hg m;have h2:=RW.Ah hg k;have h3:=dC (show 1<=g^k by lia) (bL h1);lia
theorem Qb{g:Int}(hg:2<=g){m n:Nat}(h:m<n):g^m<g^n:=by have h1:=Bn hg (show m+1<=n from h);rw[bA]at h1;have h2:=RW.Ah hg m;have h3:=dC hg (bL h2);lia
theorem EE{g:Int}(hg:2<=g){m n:Nat}(h:g^m=g^n):m=n:=by
 rcases Nat.lt_trichotomy m n with z|z|z
 ·have:=Qb hg z;lia
 ·exact z
 ·have:=Qb hg z;lia
theorem I0{g:Int}(hg:2<=g):∀{rs:qW},(∀n∈rs,0<=n/\n<g)->0<=low g rs/\low g rs<g^rs.length
 |[],_=>⟨cB _,by show (0:Int)<g^0;rw[bO];decide⟩
 |x::r,h=>by
  obtain⟨h1,h2⟩:=I0 hg (rs:=r) λn hn=>h n (aa _ hn)
  obtain⟨h3,h4⟩:=h x ai;have h5:=Int.mul_nonneg (show 0<=g by lia) h1;have h6:=dC (show low g r+1<=g^r.length by lia) (show 0<=g by lia);rw[Int.mul_add,dm]at h6;refine⟨by show 0<=x+g*low g r;lia,?_⟩;show x+g*low g r<g^(r.length+1);rw[bA,cx (g^r.length)];lia
theorem CG{g:Int}(hg:2<=g){ns:qW}(h:∀n∈ns,0<=n/\n<g):0<=A5 g ns/\A5 g ns<g^ns.length:=by rw[NO,<-ej];exact I0 hg λn hn=>h n (List.mem_reverse.mp hn)
theorem NR{b:qR}{zs:List V}{Q:VK}(h1:H l=some (.lst xs))(h2:H b=some (.lst zs))(hz:xs.length+zs.length<=1000)(q:∀p H',AG H H'->H p=none->H' p=some (.lst (xs++zs))->Q (.ref p) H'):Xw (.ref l) (.ref b) H Q:=
 ⟨l,b,xs,zs,rfl,rfl,h1,h2,QL hz,λp hp=>q p _ (AG.new hp _) hp AE⟩
theorem L9{K:qV}{lo hi:Option Int}{Q:VK}(h:Af K H a xs)(q:∀p H',AG H H'->H p=none->H' p=some (.lst (Jh xs lo hi))->Q (.ref p) H'):Xu K (.ref a) lo hi H Q:=
 ⟨a,xs,rfl,h,λp hp=>q p _ (AG.new hp _) hp AE⟩
theorem NS{k:Nat}:Jh xs none (some ((k:Nat):Int))=xs.take k:=by
 have e:HT.KQ xs.length xs.length (some ((k:Nat):Int))=min k xs.length:=by show (if ((k:Nat):Int)<0 then (((k:Nat):Int)+(xs.length:Int)).toNat else min ((k:Nat):Int).toNat xs.length)=_;rw[qE (by lia),aW]
 unfold Jh;rw[e];show (xs.drop 0).take (min k xs.length-0)=_;rw[List.drop_zero,Nat.sub_zero]
 by_cases z:k<=xs.length
 ·rw[Nat.min_eq_left z]
 ·rw[Nat.min_eq_right (by lia),bR,bh (by lia)]
theorem Ou{k:Nat}:Jh xs (some ((k:Nat):Int)) none=xs.drop k:=by
 have e:HT.KQ xs.length 0 (some ((k:Nat):Int))=min k xs.length:=by show (if ((k:Nat):Int)<0 then (((k:Nat):Int)+(xs.length:Int)).toNat else min ((k:Nat):Int).toNat xs.length)=_;rw[qE (by lia),aW]
 unfold Jh;rw[e];show (xs.drop (min k xs.length)).take (xs.length-min k xs.length)=_;rw[bh (by rw[cN];exact aP _)]
 by_cases z:k<=xs.length
 ·rw[Nat.min_eq_left z]
 ·rw[Nat.min_eq_right (by lia),List.drop_length,List.drop_of_length_le (by lia)]
theorem FI{ns:qW}{k:Nat}(h:k<ns.length):Iy (ns.map V.int) ((k:Nat):Int)=some (.int (ns.getD k 0)):=by refine G3 ?_;rw[aQ,aJ h,aK,aJ h];rfl
def Ba(H:Hp)(r:qR)(g lo:Int)(dl:qW):Prop:=∃tb,H r=some (.tup [.int g,.int lo,.ref tb])/\H tb=some (.tup (dl.map V.int))
variable{dl:qW}
theorem Ba.same{r:qR}{g lo:Int}(e:AG H H')(h:Ba H r g lo dl):Ba H' r g lo dl:=by obtain⟨tb,h1,h2⟩:=h;exact⟨tb,e _ _ h1,e _ _ h2⟩
inductive Gg(vs:List V)(H:Hp)(Q:VK)(z3_:XK):Prop
 |m (g n:Int):vs=[.int g,.int n]->2<=g->g<=9->(∀m:Nat,n=g^m->Q (.int ((m:Nat):Int)) H)->((∀m:Nat,n≠g^m)->Q (.int 0) H)->Gg vs H Q z3_
inductive Kc(vs:List V)(H:Hp)(Q:VK)(z3_:XK):Prop
 |m (r:qR) (g lo:Int) (dl:qW) (m:Nat):vs=[.ref r]->2<=g->g<=9->Ba H r g lo dl->(dl.length:Int)=g^m->Q (.int ((m:Nat):Int)) H->Kc vs H Q z3_
noncomputable def Ej(g:Int)(m:Nat)(xs:List V):Option Nat:=match Ce g (xs.take m) with
 |some i=>some i
 |none=>if xs.length=m then none else some (min xs.length m)
theorem Ke{g:Int}{m:Nat}(h:Ej g m xs=none):xs.length=m/\Ce g xs=none:=by
 unfold Ej at h;cases e:Ce g (xs.take m) with
 |some i=>rw[e]at h;cases h
 |none =>
  rw[e]at h
  by_cases z:xs.length=m
  ·refine⟨z,?_⟩;rw[<-z,bR]at e;exact e
  ·rw[qE z]at h;cases h
theorem Kf{g:Int}{ns:qW}(h:∀n∈ns,0<=n/\n<g):Ej g ns.length (ns.map V.int)=none:=by unfold Ej;have e:(ns.map V.int).take ns.length=ns.map V.int:=bh (by rw[aH];exact aP _);rw[e,L0 h,aH];exact qF rfl
theorem Jq{n i:Nat}(h:i<n):NF n ((i:Nat):Int)=some i:=by unfold NF;rw[qF (by lia),qF (by lia),aW]
theorem Hc:∀ns:qW,PyData.depthAll (ns.map PyData.int)=0
 |[]=>by simp only[List.map_nil,PyData.depthAll]
 |n::ns=>by simp only[List.map_cons,PyData.depthAll,PyData.depth,Hc ns,Nat.max_self]
def Qc(H H':Hp)(r:qR)(ns:qW):Prop:=AG H H'/\H r=none/\H' r=some (.lst (ns.map V.int))
inductive Qd(vs:List V)(H:Hp)(Q:VK)(z3_:XK):Prop
 |m (g m:Int):vs=[.int g,.int m]->2<=g->g<=9->1<=m->(g^m.toNat<=256->Q (.int (g^m.toNat)) H)->(256<g^m.toNat->∀r:Int,256<r->Q (.int r) H)->Qd vs H Q z3_
inductive NT(vs:List V)(H:Hp)(Q:VK)(z3_:XK):Prop
 |m (g m:Int):vs=[.int g,.int m]->2<=g->g<=9->0<=m->m<=256->Q (.int (g^m.toNat)) H->NT vs H Q z3_
theorem NU(g n:Int):∀i:Nat,RW.dr g n (i+1)=RW.dr g (n/g) i
 |0=>rfl
 |i+1=>by rw[RW.dr,NU g n i];rfl
theorem JA(g n:Int):∀i:Nat,RW.DC g n (i+1)=n%g::RW.DC g (n/g) i
 |0=>rfl
 |i+1=>by rw[RW.DC,JA g n i,NU];rfl
theorem Kg{g:Int}(hg:2<=g):∀{l:qW},(∀n∈l,0<=n/\n<g)->RW.DC g (low g l) l.length=l
 |[],_=>rfl
 |x::r,h=>by obtain⟨h0,h1⟩:=h x ai;rw[bD,JA,low,dO,bZ h0 h1,Int.add_mul_ediv_left _ _ (show g≠0 by lia),fG h0 h1,bC,Kg hg λn hn=>h n (aa _ hn)]
theorem NV{g:Int}(hg:2<=g)(n:Int):∀i:Nat,∀x∈RW.DC g n i,0<=x/\x<g
 |0,x,h=>qG h (by simp[RW.DC])
 |i+1,x,h=>by
  rw[RW.DC]at h;rcases aR.mp h with z|z
  ·exact NV hg n i x z
  ·rw[aV.mp z];exact⟨bq _ (by lia),bU _ (by lia)⟩
theorem Gh(g n:Int):∀i:Nat,low g (RW.DC g n i)+g^i*RW.dr g n i=n
 |0=>by rw[RW.DC,low,RW.dr,bO];lia
 |i+1=>by have h:=Gh g n i;have e:=Int.emod_add_mul_ediv (RW.dr g n i) g;rw[RW.DC,Ka,RW.DU,RW.dr,bA,Int.mul_assoc,cx (RW.dr g n i%g),fV,<-Int.mul_add,e];exact h
theorem Qe{g n:Int}(hg:2<=g)(hn:0<=n){i:Nat}(h:n<g^i):low g (RW.DC g n i)=n:=by have e:=Gh g n i;rw[RW.NQ hg hn h,fZ,dH]at e;exact e
theorem AG.into{p:qR}(e:AG H H1)(hp:H p=none):AG H (AV H1 p o):=λb u q=>by rw[AL (BQ q hp)];exact e b u q
theorem Jr(g:Int):∀(n:Int) (l:qW),Lz g n l=n*g^l.length+A5 g l
 |n,[]=>by show n=n*g^0+0;rw[bO];lia
 |n,x::r=>by show Lz g (n*g+x) r=n*g^(r.length+1)+Lz g (0*g+x) r;rw[Jr g (n*g+x) r,Jr g (0*g+x) r,c9,bC,Int.add_mul,bA,Int.mul_assoc,cx g,fV]
theorem Bu(g:Int)(a b:qW):A5 g (a++b)=A5 g a*g^b.length+A5 g b:=by show (a++b).foldl (λm x=>m*g+x) 0=_;rw[fK];exact Jr g (Lz g 0 a) b
theorem C0{g:Int}(hg:2<=g)(hb:∀n∈dl,0<=n/\n<g)(k:Nat):0<=dl.getD k 0/\dl.getD k 0<g:=by
 rw[aK];cases e:dl[k]? with
 |none=>exact⟨cB _,by show (0:Int)<g;lia⟩
 |some v=>exact hb v (ae e)
noncomputable def Kh(g:Int)(dl:qW)(m:Nat)(ns:qW)(k:Nat):Int:=dl.getD (A5 g ((ns.drop k).take m)).toNat 0
noncomputable def C1(g:Int)(dl:qW)(m:Nat)(ns:qW):qW:=(List.range (ns.length+1-m)).map (Kh g dl m ns)
theorem Ki(g:Int)(dl:qW)(m:Nat)(ns:qW):(C1 g dl m ns).length=ns.length+1-m:=by unfold C1;rw[List.length_map,List.length_range]
theorem Bd(f:Nat->α)(i:Nat):(List.range (i+1)).map f=(List.range i).map f++[f i]:=by rw[bP,aZ];rfl
variable{z:Int}
theorem BV{ns:qW}(h0:0<=z)(h:z.toNat<ns.length):Iy (ns.map V.int) z=some (.int (ns.getD z.toNat 0)):=by have e:=FI (ns:=ns) h;rw[show ((z.toNat:Nat):Int)=z by lia]at e;exact e
noncomputable def Ek(ring:qW)(z:Int):Int:=ring.getD (z%(ring.length:Int)).toNat 0
noncomputable def Ct(ring:qW)(m:Nat)(z:Int):qW:=(List.range m).map λj:Nat=>Ek ring (z+(j:Int))
noncomputable def Dq(g lo:Int)(dl:qW)(m:Nat)(ring:qW):qW:=(List.range ring.length).map λi:Nat=>dl.getD (A5 g (Ct ring m ((i:Int)+lo))).toNat 0
theorem Qf{g:Int}(hg:2<=g){ring:qW}(hb:∀n∈ring,0<=n/\n<g)(m:Nat)(z:Int):∀n∈Ct ring m z,0<=n/\n<g:=λn hn=>by unfold Ct at hn;obtain⟨k,_,rfl⟩:=ao.mp hn;exact C0 hg hb _
theorem Ov(ring:qW)(m:Nat)(z:Int):(Ct ring m z).length=m:=by unfold Ct;rw[List.length_map,List.length_range]
inductive Qg(K:qV)(vs:List V)(H:Hp)(Q:VK)(z3_:XK):Prop
 |m (r a:qR) (g lo:Int) (dl:qW) (m:Nat) (ns:qW):vs=[.ref r,.int ((m:Nat):Int),.ref a]->2<=g->g<=9->Ba H r g lo dl->(dl.length:Int)=g^m->m<=8->Af K H a (ns.map V.int)->(∀n∈ns,0<=n/\n<g)->1<=ns.length->ns.length<=300->(∀p H',Qc H H' p (Dq g lo dl m ns)->Q (.ref p) H')->Qg K vs H Q z3_
noncomputable def As(g n:Int)(m:Nat):qW:=(RW.DC g n m).reverse
theorem BG(g n:Int)(m:Nat):(As g n m).length=m:=by unfold As;rw[List.length_reverse,RW.DU]
theorem CK{g:Int}(hg:2<=g)(n:Int)(m:Nat):∀x∈As g n m,0<=x/\x<g:=λx hx=>NV hg n m x (List.mem_reverse.mp hx)
theorem Dr{g n:Int}(hg:2<=g)(h0:0<=n){m:Nat}(h:n<g^m):A5 g (As g n m)=n:=by unfold As;rw[Jp,Qe hg h0 h]
theorem Ds{g:Int}(hg:2<=g){ws:qW}(hb:∀x∈ws,0<=x/\x<g):As g (A5 g ws) ws.length=ws:=by
 unfold As;have e:=Kg hg (l:=ws.reverse) λn hn=>hb n (List.mem_reverse.mp hn)
 rw[ej]at e;rw[NO,e,fS]
theorem Az{f:Nat->Int}{n k:Nat}(h:k<n):((List.range n).map f).getD k 0=f k:=by rw[aK,aQ,dq h];rfl
theorem BM{a b:qW}(hl:a.length=b.length)(h:∀k,k<a.length->a.getD k 0=b.getD k 0):a=b:=by apply List.ext_getElem hl;intro i h1 h2;have:=h i h1;rw[aK,aK,aJ h1,aJ h2]at this;exact this
theorem Th{n:Nat}(h:1<=n):(z%(n:Int)).toNat<n/\(((z%(n:Int)).toNat:Nat):Int)=z%(n:Int):=by have h1:=bq z (show (n:Int)≠0 by lia);have h2:=bU z (show 0<(n:Int) by lia);exact⟨by lia,by lia⟩
inductive NW(vs:List V)(H:Hp)(Q:VK)(z3_:XK):Prop
 |m (n g m:Int):vs=[.int n,.int g,.int m]->2<=g->g<=9->0<=m->m<=100->(∀p H',Qc H H' p (As g n m.toNat)->Q (.ref p) H')->NW vs H Q z3_
noncomputable def BI(g:Int)(dl:qW)(w:Int):Bool:=(List.range dl.length).any λk:Nat=>!decide (dl.getD k 0=dl.getD ((k:Int)-(k:Int)/w%g*w).toNat 0)
noncomputable def BR(g lo:Int)(dl:qW)(m:Nat):qW:=((List.range m).filter λj=>BI g dl (g^(m-1-j))).map λj:Nat=>lo+(j:Int)
inductive Kj(vs:List V)(H:Hp)(Q:VK)(z3_:XK):Prop
 |m (r:qR) (g lo:Int) (dl:qW) (w:Int):vs=[.ref r,.int w]->2<=g->g<=9->Ba H r g lo dl->0<w->w<=1000->dl.length<=256->(∀H',AG H H'->Q (.bl (BI g dl w)) H')->Kj vs H Q z3_
inductive Hd(vs:List V)(H:Hp)(Q:VK)(z3_:XK):Prop
 |m (r:qR) (g lo:Int) (dl:qW) (m:Nat):vs=[.ref r]->2<=g->g<=9->Ba H r g lo dl->(dl.length:Int)=g^m->1<=m->m<=8->g^m<=256->(∀p H',Qc H H' p (BR g lo dl m)->Q (.ref p) H')->Hd vs H Q z3_
theorem Qh{k w g:Int}(hk:0<=k)(hw:0<w)(hg:2<=g):0<=k-k/w%g*w/\k-k/w%g*w<=k:=by
 have h1:=bq (k/w) (show g≠0 by lia);have h2:=Int.ediv_nonneg hk (bL hw)
 have h3:k/w%g<=k/w:=by
  by_cases z:k/w<g
  ·rw[bZ h2 z];lia
  ·have:=bU (k/w) (show 0<g by lia);lia
 have h4:=Int.mul_le_mul_of_nonneg_right h3 (bL hw);have h5:=Int.mul_nonneg h1 (bL hw);have h6:=Int.ediv_mul_le k (show w≠0 by lia);exact⟨by lia,by lia⟩
end L2
namespace L2
variable{j:Nat}{dl:qW}{z:Int}
theorem Js(g x:Int):A5 g [x]=x:=by show 0*g+x=x;rw[c9,bC]
theorem GM(g:Int)(a:qW)(x:Int)(b:qW):A5 g (a++x::b)=(A5 g a*g+x)*g^b.length+A5 g b:=by rw[show a++x::b=(a++[x])++b by rw[a9];rfl,Bu,Fh]
theorem Ow{g:Int}(hg:2<=g){a b:qW}{x:Int}(hb:∀n∈b,0<=n/\n<g)(hx:0<=x/\x<g):A5 g (a++x::b)/g^b.length%g=x:=by have b1:=CG hg hb;have gp:=RW.Ah hg b.length;rw[GM,Int.add_comm,cx,Int.add_mul_ediv_left _ _ (by lia),fG b1.1 b1.2,bC,Int.add_comm,cx,dO,bZ hx.1 hx.2]
theorem Kk{w:qW}(h:j<w.length):w=w.take j++w.getD j 0::w.drop (j+1):=by rw[aK,aJ h];show w=w.take j++w[j]::w.drop (j+1);rw[<-eS h,bz]
theorem Ox{w:qW}(h:j<w.length)(v:Int):w.set j v=w.take j++v::w.drop (j+1):=List.set_eq_take_append_cons_drop▸qF h
theorem Jt{g:Int}(hg:2<=g){w:qW}(hb:∀n∈w,0<=n/\n<g)(h:j<w.length):A5 g w/g^(w.length-1-j)%g=w.getD j 0:=by
 have hl:(w.drop (j+1)).length=w.length-1-j:=by rw[cN];lia
 have e:=Ow hg (a:=w.take j) (b:=w.drop (j+1)) (x:=w.getD j 0) (λn hn=>hb n (fT hn)) (C0 hg hb j);rw[<-Kk h,hl]at e;exact e
theorem He{g:Int}(hg:2<=g){w:qW}(hb:∀n∈w,0<=n/\n<g)(h:j<w.length):A5 g w-A5 g w/g^(w.length-1-j)%g*g^(w.length-1-j)=A5 g (w.set j 0):=by
 rw[Jt hg hb h,Ox h];have hl:(w.drop (j+1)).length=w.length-1-j:=by rw[cN];lia
 have e:=GM g (w.take j) (w.getD j 0) (w.drop (j+1));rw[<-Kk h]at e;rw[e,GM,hl,Int.add_mul,dH];lia
theorem ME{g:Int}{w:Int}(h:BI g dl w=false){k:Nat}(hk:k<dl.length):dl.getD k 0=dl.getD ((k:Int)-(k:Int)/w%g*w).toNat 0:=by unfold BI at h;rw[List.any_eq_false]at h;have:=h k (ak.mpr hk);simpa using this
theorem MF{g:Int}(hg:2<=g){m:Nat}(hl:(dl.length:Int)=g^m){w:qW}(hb:∀n∈w,0<=n/\n<g)(hw:w.length=m)(hj:j<m)(hc:BI g dl (g^(m-1-j))=false):dl.getD (A5 g w).toNat 0=dl.getD (A5 g (w.set j 0)).toNat 0:=by have b:=CG hg hb;rw[hw]at b;have e:=ME hc (k:=(A5 g w).toNat) (by lia);have n0:=He hg hb (j:=j) (by lia);rw[hw]at n0;rw[show (((A5 g w).toNat:Nat):Int)=A5 g w by lia,n0]at e;exact e
noncomputable def zk(keep:Nat->Bool)(w:qW)(k:Nat):qW:=(List.range w.length).map λj=>if j<k/\keep j=false then 0 else w.getD j 0
theorem Ch(keep:Nat->Bool)(w:qW)(k:Nat):(zk keep w k).length=w.length:=by unfold zk;rw[List.length_map,List.length_range]
theorem FO(keep:Nat->Bool)(w:qW)(k:Nat)(h:j<w.length):(zk keep w k).getD j 0=if j<k/\keep j=false then 0 else w.getD j 0:=by unfold zk;exact Az h
theorem Ti(keep:Nat->Bool)(w:qW):zk keep w 0=w:=by refine BM (Ch keep w 0) λj hj=>?_;rw[Ch]at hj;rw[FO keep w 0 hj,qE (by lia)]
theorem X6{g:Int}(hg:2<=g){keep:Nat->Bool}{w:qW}(hb:∀n∈w,0<=n/\n<g)(k:Nat):∀n∈zk keep w k,0<=n/\n<g:=λn hn=>by
 unfold zk at hn;obtain⟨j,_,e⟩:=ao.mp hn;subst e;split
 ·exact⟨cB _,by lia⟩
 ·exact C0 hg hb _
theorem Hf{w:qW}{i:Nat}{v:Int}(h:i<w.length):(w.set i v).getD j 0=if i=j then v else w.getD j 0:=by
 rw[aK,List.getElem?_set]
 by_cases e:i=j
 ·rw[qF e,qF e];subst e;rw[qF h];rfl
 ·rw[qE e,qE e,aK]
theorem Tj(keep:Nat->Bool)(w:qW){k:Nat}(hk:k<w.length):zk keep w (k+1)=if keep k=false then (zk keep w k).set k 0 else zk keep w k:=by
 by_cases e:keep k=false
 ·rw[qF e];refine BM (by rw[dJ,Ch,Ch]) λj hj=>?_;rw[Ch]at hj;rw[FO keep w _ hj,Hf (by rw[Ch];exact hk),FO keep w _ hj]
  by_cases z:k=j
  ·subst z;rw[qF ⟨by lia,e⟩,qF rfl]
  ·rw[qE z]
   by_cases y:j<k/\keep j=false
   ·rw[qF y,qF ⟨by lia,y.2⟩]
   ·rw[qE y,qE (λx=>y ⟨by lia,x.2⟩)]
 ·rw[qE e];refine BM (by rw[Ch,Ch]) λj hj=>?_;rw[Ch]at hj;rw[FO keep w _ hj,FO keep w _ hj]
  by_cases y:j<k/\keep j=false
  ·rw[qF y,qF ⟨by lia,y.2⟩]
  ·rw[qE y,qE (λx=>y ⟨cW (by lia) (λz=>e (z▸x.2)),x.2⟩)]
theorem G4{g:Int}(hg:2<=g){m:Nat}(hl:(dl.length:Int)=g^m){keep:Nat->Bool}(hc:∀j,j<m->keep j=false->BI g dl (g^(m-1-j))=false){w:qW}(hb:∀n∈w,0<=n/\n<g)(hw:w.length=m):∀k,k<=m->dl.getD (A5 g (zk keep w k)).toNat 0=dl.getD (A5 g w).toNat 0
 |0,_=>by rw[Ti]
 |k+1,h=>by
  rw[Tj keep w (by lia)]
  by_cases e:keep k=false
  ·rw[qF e,<-MF hg hl (X6 hg hb k) (by rw[Ch,hw]) (by lia) (hc k (by lia) e)];exact G4 hg hl hc hb hw k (by lia)
  ·rw[qE e];exact G4 hg hl hc hb hw k (by lia)
theorem Hg{g:Int}(hg:2<=g){m:Nat}(hl:(dl.length:Int)=g^m){v w:qW}(hv:∀n∈v,0<=n/\n<g)(hw:∀n∈w,0<=n/\n<g)(lv:v.length=m)(lw:w.length=m)
  (h:∀j,j<m->BI g dl (g^(m-1-j))=true->v.getD j 0=w.getD j 0):dl.getD (A5 g v).toNat 0=dl.getD (A5 g w).toNat 0:=by
 have key:∀j,j<m->(λj=>BI g dl (g^(m-1-j))) j=false->BI g dl (g^(m-1-j))=false:=λj _ e=>e
 rw[<-G4 hg hl key hv lv m (aP _),<-G4 hg hl key hw lw m (aP _)]
 congr 3
 refine BM (by rw[Ch,Ch,lv,lw]) λj hj=>?_;rw[Ch,lv]at hj;rw[FO _ _ _ (by lia),FO _ _ _ (by lia)]
 by_cases e:j<m/\BI g dl (g^(m-1-j))=false
 ·rw[qF e,qF e]
 ·rw[qE e,qE e];refine h j hj ?_;cases z:BI g dl (g^(m-1-j)) with
  |true=>rfl
  |false=>exact qG ⟨hj,z⟩ e
noncomputable def sn(v:qW)(z:Int):Int:=if z<0\/(v.length:Int)<=z then 0 else v.getD z.toNat 0
theorem Us{g:Int}(hg:2<=g){v:qW}(hb:∀n∈v,0<=n/\n<g)(z:Int):0<=sn v z/\sn v z<g:=by
 unfold sn;split
 ·exact⟨cB _,by lia⟩
 ·exact C0 hg hb _
theorem El{v:qW}(h:j<v.length):sn v ((j:Nat):Int)=v.getD j 0:=by unfold sn;rw[qE (by lia),aW]
noncomputable def F4(v:qW)(d:Int)(m:Nat):qW:=(List.range m).map λj:Nat=>sn v (d+(j:Int))
theorem By(v:qW)(d:Int)(m:Nat):(F4 v d m).length=m:=by unfold F4;rw[List.length_map,List.length_range]
theorem FP{g:Int}(hg:2<=g){v:qW}(hb:∀n∈v,0<=n/\n<g)(d:Int)(m:Nat):∀n∈F4 v d m,0<=n/\n<g:=λn hn=>by unfold F4 at hn;obtain⟨j,_,e⟩:=ao.mp hn;subst e;exact Us hg hb _
theorem EF(v:qW)(d:Int){m:Nat}(h:j<m):(F4 v d m).getD j 0=sn v (d+(j:Int)):=by unfold F4;exact Az h
theorem Kl(v:qW):F4 v 0 v.length=v:=by refine BM (By _ _ _) λj hj=>?_;rw[By]at hj;rw[EF v 0 hj,bC,El hj]
noncomputable def Dn(g lo:Int)(dl:qW)(m:Nat)(low:Int)(M:Nat):qW:=(List.range (g^M).toNat).map λn:Nat=>dl.getD (A5 g (F4 (As g (n:Int) M) (lo-low) m)).toNat 0
theorem BN{g:Int}(hg:2<=g)(lo:Int)(dl:qW)(m:Nat)(low:Int)(M:Nat):((Dn g lo dl m low M).length:Int)=g^M:=by unfold Dn;rw[aH,bI,ax (bL (RW.Ah hg M))]
theorem Hh{g:Int}(hg:2<=g)(lo:Int)(hb:∀n∈dl,0<=n/\n<g)(m:Nat)(low:Int)(M:Nat):∀n∈Dn g lo dl m low M,0<=n/\n<g:=λn hn=>by unfold Dn at hn;obtain⟨j,_,e⟩:=ao.mp hn;subst e;exact C0 hg hb _
theorem Em{g:Int}(hg:2<=g)(lo:Int)(dl:qW)(m:Nat)(low:Int){v:qW}(hb:∀n∈v,0<=n/\n<g):(Dn g lo dl m low v.length).getD (A5 g v).toNat 0=dl.getD (A5 g (F4 v (lo-low) m)).toNat 0:=by have b:=CG hg hb;unfold Dn;rw[Az (by lia),show (((A5 g v).toNat:Nat):Int)=A5 g v by lia,Ds hg hb]
theorem NX{g:Int}(hg:2<=g){m k:Nat}(h:(k:Int)<g^m):∃w:qW,w.length=m/\(∀n∈w,0<=n/\n<g)/\A5 g w=(k:Int):=⟨As g (k:Int) m,BG _ _ _,CK hg _ _,Dr hg (by lia) h⟩
theorem MG{g:Int}(hg:2<=g){a b:qW}{m:Nat}(la:(a.length:Int)=g^m)(lb:(b.length:Int)=g^m)(h:∀w:qW,w.length=m->(∀n∈w,0<=n/\n<g)->a.getD (A5 g w).toNat 0=b.getD (A5 g w).toNat 0):a=b:=by refine BM (by lia) λk hk=>?_;obtain⟨w,h1,h2,h3⟩:=NX hg (m:=m) (k:=k) (by lia);have:=h w h1 h2;rw[h3,aW]at this;exact this
theorem Qi{g:Int}(hg:2<=g)(lo:Int){m:Nat}(hl:(dl.length:Int)=g^m):Dn g lo dl m lo m=dl:=by refine MG hg (BN hg _ _ _ _ _) hl λw hw hb=>?_;subst hw;rw[Em hg lo dl _ lo hb,Int.sub_self,Kl]
theorem MH{g lo:Int}{m:Nat}:z∈BR g lo dl m↔∃j:Nat,j<m/\BI g dl (g^(m-1-j))=true/\z=lo+(j:Int):=by
 unfold BR;constructor
 ·intro h;obtain⟨j,hj,e⟩:=ao.mp h;obtain⟨h1,h2⟩:=bB.mp hj;exact⟨j,ak.mp h1,h2,e.symm⟩
 ·rintro⟨j,hj,hc,rfl⟩;exact ao.mpr ⟨j,bB.mpr ⟨ak.mpr hj,hc⟩,rfl⟩
theorem Dt{g:Int}{w:Int}:BI g dl w=true↔∃k:Nat,k<dl.length/\dl.getD k 0≠dl.getD ((k:Int)-(k:Int)/w%g*w).toNat 0:=by
 unfold BI;rw[List.any_eq_true];constructor
 ·rintro⟨k,hk,h⟩;exact⟨k,List.mem_range.mp hk,by simpa using h⟩
 ·rintro⟨k,hk,h⟩;exact⟨k,List.mem_range.mpr hk,by simpa using h⟩
theorem MK{g:Int}(hg:2<=g){m:Nat}(hl:(dl.length:Int)=g^m)(hj:j<m):BI g dl (g^(m-1-j))=true↔∃w:qW,w.length=m/\(∀n∈w,0<=n/\n<g)/\dl.getD (A5 g w).toNat 0≠dl.getD (A5 g (w.set j 0)).toNat 0:=by
 rw[Dt];constructor
 ·rintro⟨k,hk,h⟩;rcases NX hg (m:=m) (k:=k) (by lia) with⟨w,h1,h2,h3⟩;refine⟨w,h1,h2,?_⟩;have n0:=He hg h2 (j:=j) (by lia);rw[h1,h3]at n0;rw[<-n0,h3,aW];exact h
 ·intro hRq;rcases hRq with⟨w,h1,h2,h⟩;have b:=CG hg h2;rw[h1]at b;refine⟨(A5 g w).toNat,by lia,?_⟩;have n0:=He hg h2 (j:=j) (by lia);rw[h1]at n0;rw[show (((A5 g w).toNat:Nat):Int)=A5 g w by lia,n0];exact h
structure Du(g lo:Int)(dl:qW)(m:Nat)(low:Int)(M:Nat):Prop where
 one:1<=M
 all:∀j,j<m->BI g dl (g^(m-1-j))=true->low<=lo+(j:Int)/\lo+(j:Int)<low+(M:Int)
 ends:((∀j,j<m->BI g dl (g^(m-1-j))=false)/\low=0/\M=1)\/∃j0 j1:Nat,j0<=j1/\j1<m/\low=lo+(j0:Int)/\M=j1-j0+1/\BI g dl (g^(m-1-j0))=true/\BI g dl (g^(m-1-j1))=true
theorem FJ(p:Nat->Bool)(n:Nat):((List.range n).filter p).Pairwise (·<·):=List.Pairwise.filter p cn
theorem ML:∀{l:List Nat},l.Pairwise (·<·)->∀x∈l,l.getD 0 0<=x
 |[],_,x,h=>qG h (by simp)
 |a::r,hp,x,h=>by
  rcases aw.mp h with z|z
  ·rw[z];exact aP _
  ·exact cr ((eI.mp hp).1 x z)
theorem E1:∀{l:List Nat},l.Pairwise (·<·)->∀x∈l,x<=l.getD (l.length-1) 0
 |[],_,x,h=>qG h (by simp)
 |[a],_,x,h=>by rw[aV.mp h];exact aP _
 |a::b::r,hp,x,h=>by
  have ih:=E1 (l:=b::r) (eI.mp hp).2;have e:(a::b::r).getD ((a::b::r).length-1) 0=(b::r).getD ((b::r).length-1) 0:=rfl;rw[e];rcases aw.mp h with z|z
  ·rw[z];exact bK (cr ((eI.mp hp).1 b ai)) (ih b ai)
  ·exact ih x z
theorem En:∀{l:List Nat} {k:Nat},k<l.length->l.getD k 0∈l:=λ{l k} h=>by rw[aK,aJ h];exact bS h
theorem B1{f:Nat->Int}{l:List Nat}{k:Nat}(h:k<l.length):(l.map f).getD k 0=f (l.getD k 0):=by rw[aK,aQ,aJ h,aK,aJ h];rfl
theorem Hi{g lo:Int}{m:Nat}(h:BR g lo dl m=[]):Du g lo dl m 0 1:=by
 have f:∀j,j<m->BI g dl (g^(m-1-j))=false:=λj hj=>by
  cases z:BI g dl (g^(m-1-j)) with
  |false=>rfl
  |true=>exact qG (MH.mpr ⟨j,hj,z,rfl⟩) (by rw[h];simp)
 exact⟨aP _,λj hj hc=>qG hc (by rw[f j hj];decide),.inl ⟨f,rfl,rfl⟩⟩
theorem GN{g lo:Int}{m:Nat}(h:BR g lo dl m≠[]):∃M:Nat,(M:Int)=(BR g lo dl m).getD ((BR g lo dl m).length-1) 0-(BR g lo dl m).getD 0 0+1/\M<=m/\Du g lo dl m ((BR g lo dl m).getD 0 0) M:=by
 unfold BR at h⊢;generalize hl:((List.range m).filter λj=>BI g dl (g^(m-1-j)))=l at h⊢
 have hne:0<l.length:=by
  cases l with
  |nil=>exact qG rfl h
  |cons a r=>simp
 have hm:∀j,j∈l↔j<m/\BI g dl (g^(m-1-j))=true:=λj=>by rw[<-hl,bB,ak]
 have hp:l.Pairwise (·<·):=by rw[<-hl];exact FJ _ _
 rw[aH,B1 (show l.length-1<l.length by lia),B1 hne];have m0:=(hm _).mp (En hne);have m1:=(hm _).mp (En (show l.length-1<l.length by lia));have le:=E1 hp _ (En hne);refine⟨l.getD (l.length-1) 0-l.getD 0 0+1,by lia,by lia,⟨by lia,λj hj hc=>?_,.inr ⟨l.getD 0 0,l.getD (l.length-1) 0,le,m1.1,rfl,rfl,m0.2,m1.2⟩⟩⟩;have a1:=ML hp j ((hm j).mpr ⟨hj,hc⟩);have a2:=E1 hp j ((hm j).mpr ⟨hj,hc⟩);lia
variable{low':Int}{M':Nat}
theorem Du.uniq{g lo:Int}{m:Nat}{low:Int}{M:Nat}(h:Du g lo dl m low M)(h':Du g lo dl m low' M'):low=low'/\M=M':=by
 rcases h.ends with⟨f,e1,e2⟩|⟨j0,j1,le,lt,e1,e2,c0,c1⟩
 ·rcases h'.ends with⟨f',e1',e2'⟩|⟨j0',j1',le',lt',e1',e2',c0',c1'⟩
  ·exact⟨by lia,by lia⟩
  ·rw[f j1' lt']at c1';cases c1'
 ·rcases h'.ends with⟨f',e1',e2'⟩|⟨j0',j1',le',lt',e1',e2',c0',c1'⟩
  ·rw[f' j1 lt]at c1;cases c1
  ·have a:=h.all j0' (by lia) c0';have b:=h.all j1' lt' c1';have c:=h'.all j0 (by lia) c0;have d:=h'.all j1 lt c1;exact⟨by lia,by lia⟩
theorem MM{w:qW}{M:Nat}(h:j+M<=w.length):F4 w (j:Int) M=(w.drop j).take M:=by refine BM (by rw[By,bQ,cN];lia) λk hk=>?_;rw[By]at hk;rw[EF _ _ hk,show (j:Int)+(k:Int)=((j+k:Nat):Int) by lia,El (by lia),aK,aK,List.getElem?_take,qF hk,List.getElem?_drop]
end L2
namespace L2
variable{j:Nat}{dl:qW}
noncomputable def Ai(n:Nat)(f:Nat->Int):Int:=((List.range n).map f).sum
theorem Bo(f:Nat->Int):Ai 0 f=0:=rfl
theorem Ao(n:Nat)(f:Nat->Int):Ai (n+1) f=Ai n f+f n:=by unfold Ai;rw[bP,aZ,List.sum_append];show _+([f n]:qW).sum=_;rw[List.sum_cons,List.sum_nil,dH]
theorem Aq{n:Nat}{f g:Nat->Int}(h:∀k,k<n->f k=g k):Ai n f=Ai n g:=by unfold Ai;rw[bG λk hk=>h k (ak.mp hk)]
theorem Hj(n:Nat)(f g:Nat->Int):Ai n (λk=>f k+g k)=Ai n f+Ai n g:=by
 induction n with
 |zero=>rfl
 |succ n ih=>rw[Ao,Ao,Ao,ih];lia
theorem Fj(n:Nat)(f:Nat->Int)(c:Int):Ai n (λk=>f k*c)=Ai n f*c:=by
 induction n with
 |zero=>rw[Bo,Bo,c9]
 |succ n ih=>rw[Ao,Ao,ih,Int.add_mul]
theorem BK(n:Nat)(c:Int):Ai n (λ_=>c)=(n:Int)*c:=by
 induction n with
 |zero=>rw[Bo];simp
 |succ n ih=>rw[Ao,ih,Int.natCast_add,Int.add_mul];simp
theorem DV{n:Nat}{f:Nat->Int}(h:∀k,k<n->0<=f k):0<=Ai n f:=by
 induction n with
 |zero=>exact cB _
 |succ n ih =>
  rw[Ao];have h1:=ih λk hk=>h k (cp hk)
  have h2:=h n (d6 n);lia
theorem Ju{n:Nat}{f:Nat->Int}(h:∀k,k<n->0<=f k)(hj:j<n):f j<=Ai n f:=by
 induction n with
 |zero=>exact qG hj (dL _)
 |succ n ih =>
  rw[Ao]
  by_cases e:j=n
  ·subst e;have h1:=DV (n:=j) (f:=f) λk hk=>h k (cp hk)
   lia
  ·have h1:=ih (λk hk=>h k (cp hk)) (by lia);have h2:=h n (d6 n);lia
theorem C5(a b:Nat)(f:Nat->Nat->Int):Ai a (λi=>Ai b (λj=>f i j))=Ai b (λj=>Ai a (λi=>f i j)):=by
 induction a with
 |zero =>
  rw[Bo];have:Ai b (λ_=>(0:Int))=0:=by rw[BK,fZ]
  exact this.symm
 |succ a ih =>
  rw[Ao,ih,<-Hj];exact Aq λj _=>(Ao a _).symm
theorem MN(a b:Nat)(f:Nat->Int):Ai (a+b) f=Ai a f+Ai b (λk=>f (a+k)):=by
 induction b with
 |zero=>rw[Bo,dH];rfl
 |succ b ih=>rw[<-eO,Ao,Ao,ih,fV]
theorem JB(a b:Nat)(f:Nat->Int):Ai (a*b) f=Ai a (λi=>Ai b (λj=>f (i*b+j))):=by
 induction a with
 |zero=>rw[Nat.zero_mul];rfl
 |succ a ih=>rw[Nat.succ_mul,MN,Ao,ih]
noncomputable def DN(p:Bool)(x:Int):Int:=if p then x else 0
theorem Hk{p:Bool}{x:Int}(h:0<=x):0<=DN p x:=by unfold DN;split<;>lia
theorem Hl(n j:Nat)(hj:j<n)(x:Int):Ai n (λk=>DN (decide (k=j)) x)=x:=by
 induction n with
 |zero=>exact qG hj (dL _)
 |succ n ih =>
  rw[Ao]
  by_cases e:j=n
  ·subst e;have z:Ai j (λk=>DN (decide (k=j)) x)=0:=by rw[Aq (g:=λ_=>0) λk hk=>by unfold DN;rw[qI (by lia)];rfl,BK,Int.mul_zero]
   rw[z];unfold DN;rw[qH rfl];simp
  ·rw[ih (by lia)];unfold DN;rw[qI (by lia)];simp
noncomputable def Eb(G:Nat)(dl:qW):qW->Nat->Int
 |[],_=>1
 |s::r,h=>Ai G λj=>DN (decide (dl.getD (h*G+j) 0=s)) (Eb G dl r ((h*G+j)%(dl.length/G)))
theorem DD(G:Nat)(dl:qW):∀(r:qW) (h:Nat),0<=Eb G dl r h
 |[],_=>by show (0:Int)<=1;decide
 |s::r,h=>DV λj _=>Hk (DD G dl r _)
noncomputable def CY(G:Nat)(dl:qW)(r:qW):Int:=Ai (dl.length/G) (Eb G dl r)
theorem Hm(G:Nat)(dl r:qW):0<=CY G dl r:=DV λh _=>DD G dl r h
variable{G:Nat}
theorem JC{v:Int}(h0:0<=v)(h1:v<(G:Int))(x:Int):Ai G (λs=>DN (decide (v=(s:Int))) x)=x:=by
 refine Eq.trans (Aq λs _=>?_) (Hl G v.toNat (by lia) x);unfold DN
 by_cases e:s=v.toNat
 ·rw[qH (show v=(s:Int) by lia),qH e]
 ·rw[qI (show ¬v=(s:Int) by lia),qI e]
theorem Ho(hG:2<=G)(hb:∀n∈dl,0<=n/\n<(G:Int)):∀(r:qW) (h:Nat),Ai G (λs=>Eb G dl (r++[(s:Int)]) h)=Eb G dl r h*(G:Int)
 |[],h=>by
  show Ai G (λs=>Ai G λj=>DN (decide (dl.getD (h*G+j) 0=(s:Int))) 1)=1*(G:Int);rw[C5]
  have:Ai G (λj=>Ai G (λs=>DN (decide (dl.getD (h*G+j) 0=(s:Int))) 1))=Ai G (λ_=>1):=Aq λj _=>by have b:0<=dl.getD (h*G+j) 0/\dl.getD (h*G+j) 0<(G:Int):=C0 (by lia) hb _;exact JC b.1 b.2 1
  rw[this,BK,cI,dm]
 |a::r,h=>by
  show Ai G (λs=>Ai G λj=>DN (decide (dl.getD (h*G+j) 0=a)) (Eb G dl (r++[(s:Int)]) ((h*G+j)%(dl.length/G))))=(Ai G λj=>DN (decide (dl.getD (h*G+j) 0=a)) (Eb G dl r ((h*G+j)%(dl.length/G))))*(G:Int);rw[C5,<-Fj];refine Aq λj _=>?_;unfold DN;cases decide (dl.getD (h*G+j) 0=a) with
  |true=>exact Ho hG hb r _
  |false =>
   show Ai G (λ_=>(0:Int))=0*(G:Int);rw[BK,fZ,c9]
theorem Hq(hG:2<=G)(hb:∀n∈dl,0<=n/\n<(G:Int))(r:qW):Ai G (λs=>CY G dl (r++[(s:Int)]))=CY G dl r*(G:Int):=by unfold CY;rw[C5,<-Fj];exact Aq λh _=>Ho hG hb r h
theorem Hr{g:Int}{m:Nat}{ns:qW}(h:ns.length<m):C1 g dl m ns=[]:=by unfold C1;rw[show ns.length+1-m=0 by lia];rfl
theorem JD{g:Int}{m:Nat}{y:Int}{ns:qW}(h:m<=ns.length+1):C1 g dl m (y::ns)=Kh g dl m (y::ns) 0::C1 g dl m ns:=by unfold C1;rw[bD,show ns.length+1+1-m=(ns.length+1-m)+1 by lia,List.range_succ_eq_map,bv,ce];rfl
theorem BC{g:Int}(hg:2<=g){m:Nat}(hl:(dl.length:Int)=g^m)(hm:1<=m):((dl.length/g.toNat:Nat):Int)=g^(m-1)/\dl.length=dl.length/g.toNat*g.toNat:=by
 obtain⟨k,rfl⟩:∃k,m=k+1:=⟨m-1,by lia⟩
 have e:dl.length=(g^k).toNat*g.toNat:=by have p:=RW.Ah hg k;rw[bA]at hl;apply Int.ofNat.inj;show (dl.length:Int)=(((g^k).toNat*g.toNat:Nat):Int);rw[hl,cG,ax (bL p),ax (by lia)]
 have q:dl.length/g.toNat=(g^k).toNat:=by rw[e];exact fC _ (by lia)
 rw[q,Nat.add_sub_cancel];exact⟨ax (bL (RW.Ah hg k)),e⟩
theorem Km{g:Int}(hg:2<=g){m:Nat}(hl:(dl.length:Int)=g^m)(hm:1<=m):∀(rest w:qW),w.length=m-1->(∀n∈w++rest,0<=n/\n<g)->1<=Eb g.toNat dl (C1 g dl m (w++rest)) (A5 g w).toNat
 |[],w,hw,_=>by rw[au,Hr (by lia)];exact cB _
 |x::r,w,hw,hb=>by
  have hx:=hb x (aR.mpr (.inr ai))
  obtain⟨y,w',e⟩:∃y w',w++[x]=y::w':=by
   cases w with
   |nil=>exact⟨x,[],rfl⟩
   |cons a t=>exact⟨a,t++[x],rfl⟩
  have e2:w++x::r=y::(w'++r):=by rw[<-eW,<-e,a9];rfl
  have hw':w'.length=m-1:=by have:=qP List.length e;rw[aU,bD]at this;simp only[List.length_cons,List.length_nil]at this;lia
  have hbw:∀n∈w,0<=n/\n<g:=λn hn=>hb n (aR.mpr (.inl hn))
  have hbw':∀n∈w',0<=n/\n<g:=λn hn=>hb n (by rw[e2];exact aa _ (aR.mpr (.inl hn)))
  have ih:=Km hg hl hm r w' hw' λn hn=>hb n (by rw[e2];exact aa _ hn)
  have hd:=BC hg hl hm;have b1:=CG hg hbw;have b2:=CG hg hbw';rw[hw']at b2;rw[e2,JD (by rw[aU];lia)]
  have hwin:Kh g dl m (y::(w'++r)) 0=dl.getD ((A5 g w).toNat*g.toNat+x.toNat) 0:=by
   unfold Kh
   have t1:(List.drop 0 (y::(w'++r))).take m=w++[x]:=by rw[List.drop_zero,<-List.cons_append,<-e,List.take_append_of_le_length (by simp only[List.length_append,List.length_cons,List.length_nil];lia),List.take_of_length_le (by simp only[List.length_append,List.length_cons,List.length_nil];lia)]
   rw[t1,Bu]
   congr 1
   show (A5 g w*g^1+A5 g [x]).toNat=_;have nx:A5 g [x]=x:=by show 0*g+x=x;rw[c9,bC]
   rw[nx,bA,bO,cI,Int.toNat_add (Int.mul_nonneg b1.1 (by lia)) hx.1,Int.toNat_mul b1.1 (by lia)]
  have hmod:((A5 g w).toNat*g.toNat+x.toNat)%(dl.length/g.toNat)=(A5 g w').toNat:=by
   have z:A5 g w*g+x=A5 g w'+y*g^(m-1):=by
    have q:=qP (A5 g) e;rw[Bu,show y::w'=[y]++w' from rfl,Bu,hw']at q;have nx:A5 g [x]=x:=by show 0*g+x=x;rw[c9,bC]
    have ny:A5 g [y]=y:=by show 0*g+y=y;rw[c9,bC]
    rw[nx,ny]at q;have g1:g^([x]:qW).length=g:=by show g^1=g;rw[bA,bO,cI]
    rw[g1]at q;lia
   apply Int.ofNat.inj;show (((A5 g w).toNat*g.toNat+x.toNat)%(dl.length/g.toNat):Nat)=(((A5 g w').toNat:Nat):Int);rw[bM,cP,cG,hd.1,ax b1.1,ax (by lia),ax hx.1,ax b2.1,z,cx y,dO,bZ b2.1 b2.2]
  have key:=Ju (n:=g.toNat) (f:=λj=>DN (decide (dl.getD ((A5 g w).toNat*g.toNat+j) 0=Kh g dl m (y::(w'++r)) 0)) (Eb g.toNat dl (C1 g dl m (w'++r)) (((A5 g w).toNat*g.toNat+j)%(dl.length/g.toNat)))) (λj _=>Hk (DD _ _ _ _)) (j:=x.toNat) (by lia);refine bi ?_ key;show 1<=DN _ _;rw[hmod,hwin,qH rfl];exact ih
theorem Tk{g:Int}(hg:2<=g){m:Nat}(hl:(dl.length:Int)=g^m)(hm:1<=m){ns:qW}(hb:∀n∈ns,0<=n/\n<g):1<=CY g.toNat dl (C1 g dl m ns):=by
 have hd:=BC hg hl hm;have hp:=RW.Ah hg (m-1)
 by_cases h:ns.length<m
 ·rw[Hr h];show 1<=Ai (dl.length/g.toNat) (λ_=>1);rw[BK,dm,hd.1];lia
 ·have hw:(ns.take (m-1)).length=m-1:=by rw[bQ];lia
  have p:=Km hg hl hm (ns.drop (m-1)) (ns.take (m-1)) hw (by rw[bz];exact hb);rw[bz]at p;have b:=CG hg (ns:=ns.take (m-1)) λn hn=>hb n (dc hn)
  rw[hw,<-hd.1]at b;exact bi p (Ju (f:=Eb g.toNat dl (C1 g dl m ns)) (λh _=>DD _ _ _ _) (by lia))
end L2
namespace L2
open PySem
variable{H H':Hp}{X:Cx}{dl:qW}
noncomputable def Kn(G:Nat)(dl:qW)(h:Nat)(s:Int):List Nat:=((List.range G).filter λj=>decide (dl.getD (h*G+j) 0=s)).map λj=>h*G+j
theorem MO(n:Nat)(p:Nat->Bool)(f:Nat->Int):(((List.range n).filter p).map f).sum=Ai n λj=>DN (p j) (f j):=by
 induction n with
 |zero=>rfl
 |succ n ih =>
  rw[Ao,bP,cA,aZ,List.sum_append,ih]
  congr 1
  unfold DN;cases h:p n<;>simp[List.filter,h]
theorem Qj(G:Nat)(dl:qW)(h:Nat)(s:Int)(f:Nat->Int):((Kn G dl h s).map f).sum=Ai G λj=>DN (decide (dl.getD (h*G+j) 0=s)) (f (h*G+j)):=by unfold Kn;rw[ce];exact MO G _ _
theorem Qk(G:Nat)(dl:qW)(h:Nat)(s:Int)(r:qW):((Kn G dl h s).map λn=>Eb G dl r (n%(dl.length/G))).sum=Eb G dl (s::r) h:=Qj G dl h s _
structure Av(H:Hp)(r:qR)(g lo:Int)(dl:qW)(m:Nat):Prop where
 v:Ba H r g lo dl
 g2:2<=g
 g9:g<=9
 m1:1<=m
 m8:m<=8
 len:(dl.length:Int)=g^m
 sz:g^m<=256
 tb:∀n∈dl,0<=n/\n<g
theorem Av.same{r:qR}{g lo:Int}{m:Nat}(e:AG H H')(h:Av H r g lo dl m):Av H' r g lo dl m:=⟨h.v.same e,h.g2,h.g9,h.m1,h.m8,h.len,h.sz,h.tb⟩
inductive NY(vs:List V)(H:Hp)(Q:VK)(z3_:XK):Prop
 |m (r:qR) (g lo:Int) (dl:qW) (m:Nat):vs=[.ref r]->Av H r g lo dl m->Q (.int ((dl.length/g.toNat:Nat):Int)) H->NY vs H Q z3_
theorem MP{K:qV}(h:X.K=K):CT X (.builtin "len") (λxs H Q=>∃p ys,xs=[V.ref p]/\(Af K H p ys\/Aa K H p ys)/\Q (.int ((ys.length:Nat):Int)) H):=h▸Fg
theorem Dv(ns:qW):(PyData.tuple (ns.map PyData.int)).depth<=60:=by
 simp only[PyData.depth,Hc]
 decide
inductive Ko(K:qV)(vs:List V)(H:Hp)(Q:VK)(z3_:XK):Prop
 |m (a:qR) (v:qW) (z:Int):vs=[.ref a,.int z]->Af K H a (v.map V.int)->Q (.int (sn v z)) H->Ko K vs H Q z3_
theorem Fk{g:Int}(hg:2<=g){M:Nat}(h:g^M<=256):M<=8:=by
 apply fP;intro z;have h1:=Bn hg (show 9<=M by lia)
 have h2:(512:Int)<=g^9:=by
  have h2:2*2<=g*g:=d8 hg hg (by decide) (by lia);have h4:4*4<=(g*g)*(g*g):=d8 (by lia) (by lia) (by decide) (by lia);have h8:16*16<=((g*g)*(g*g))*((g*g)*(g*g)):=d8 (by lia) (by lia) (by decide) (by lia);have h9:256*2<=(((g*g)*(g*g))*((g*g)*(g*g)))*g:=d8 (by lia) hg (by decide) (by lia);have e:g^9=(((g*g)*(g*g))*((g*g)*(g*g)))*g:=by simp only[Int.pow_succ,Int.pow_zero,Int.one_mul,Int.mul_assoc]
  rw[e];lia
 lia
theorem Av.bw{r r':qR}{g lo:Int}{m:Nat}(h:Av H r g lo dl m){low:Int}{M:Nat}(hM:1<=M)(hz:g^M<=256)(hv:Ba H' r' g low (Dn g lo dl m low M)):Av H' r' g low (Dn g lo dl m low M) M:=
 ⟨hv,h.g2,h.g9,hM,Fk h.g2 hz,BN h.g2 _ _ _ _ _,hz,Hh h.g2 _ h.tb _ _ _⟩
inductive NZ(vs:List V)(H:Hp)(Q:VK)(z3_:XK):Prop
 |m (r:qR) (g lo:Int) (dl:qW) (m:Nat) (low:Int) (M:Nat):vs=[.ref r,.int low,.int ((M:Nat):Int)]->Av H r g lo dl m->1<=M->g^M<=256->(∀r' H',AG H H'->Av H' r' g low (Dn g lo dl m low M) M->Q (.ref r') H')->NZ vs H Q z3_
inductive Kp(vs:List V)(H:Hp)(Q:VK)(z3_:XK):Prop
 |m (r:qR) (g lo:Int) (dl:qW) (m:Nat):vs=[.ref r]->Av H r g lo dl m->(∀(low:Int) (M:Nat),Du g lo dl m low M->∀r' H',AG H H'->Av H' r' g low (Dn g lo dl m low M) M->Q (.ref r') H')->Kp vs H Q z3_
theorem JE{ns:qW}(h:0<ns.length):Iy (ns.map V.int) (-1)=some (.int (ns.getD (ns.length-1) 0)):=by
 have e:=FI (ns:=ns) (k:=ns.length-1) (by lia)
 have z:NF (ns.map V.int).length (-1)=some (ns.length-1):=by
  unfold NF;rw[aH];rw[qE (by decide),qF (by lia)]
  congr 1
  lia
 have y:NF (ns.map V.int).length (((ns.length-1:Nat)):Int)=some (ns.length-1):=by rw[aH];exact Jq (by lia)
 unfold Iy at e⊢;rw[z];rw[y]at e;exact e
end L2
namespace L2
open PySem PySem.Spec PyProof.Rows
variable{X:Cx}{es:List Expr}{st:Stmt}{tc:TT}{te:TE}{x:Str}{pos:Pos}
section
variable{t:TA}
theorem AS{i:Int}{j}(hr:PA X es t):PA X (.Constant (.int i) j pos::es) (Ee (tC (.int i)) t):=AA AD hr (by rfl)
end
@[irreducible] def S0 (X:Cx) (st:Stmt) (t:TS):Prop:=PS X st t
@[irreducible] def Fl (X:Cx) (ss:List Stmt) (t:TS):Prop:=Ic X ss t
section
variable{rest ss:List Stmt}{t u:TS}
theorem S0.of(h:PS X st t):S0 X st t:=by unfold S0;exact h
theorem S0.out(h:S0 X st t):PS X st t:=by unfold S0 at h;exact h
theorem Fl.of(h:Ic X ss t):Fl X ss t:=by unfold Fl;exact h
theorem Fl.out(h:Fl X ss t):Ic X ss t:=by unfold Fl at h;exact h
theorem BP(h1:S0 X st t)(h2:Fl X rest u):Fl X (st::rest) (Lr t u):=.of (AB h1.out h2.out)
theorem Fm(h1:S0 X st t):Fl X [st] t:=.of (AF h1.out)
end
@[irreducible] def Ql (X:Cx) (e:Expr) (te:TE):Prop:=PE X e te
@[irreducible] def S5 (X:Cx) (es:List Expr) (t:TA):Prop:=PA X es t
section
variable{e a b:Expr}{ta tb:TE}{t:TA}
theorem Ql.of(h:PE X e te):Ql X e te:=by unfold Ql;exact h
theorem Ql.out(h:Ql X e te):PE X e te:=by unfold Ql at h;exact h
theorem S5.of(h:PA X es t):S5 X es t:=by unfold S5;exact h
theorem S5.out(h:S5 X es t):PA X es t:=by unfold S5 at h;exact h
theorem Fn:S5 X [] Ii:=.of AC
theorem AM{i:Int}{j}{p:Pos}(hr:S5 X es t):S5 X (.Constant (.int i) j p::es) (Ee (tC (.int i)) t):=.of (AS hr.out)
theorem Fo(h:S5 X es t):Ql X (.List es pos) (Vo t):=.of (BB h.out)
theorem Hs{r:R2}(hr:Uh X r)(ha:Ql X a ta)(hb:Ql X b tb)(hs:NI b):Ql X (.Subscript a b pos) (Xc r ta tb):=.of (AJ hr ha.out hb.out hs)
theorem B8{i:Nat}{pos':Pos}(hN:X.N.Nodup)(hi:X.N[i]?=some x)(hx:UX X.env.scope x)(he:Ql X e te)(hs:swapsWith e (some (.Name x pos')) pos.line X.env=pure false)(hf:X.fn x=true\/X.env.scope.names.lookup x=some .local):
  S0 X (.Assign [.Name x pos'] e pos) (Oc te (Fd i)):=.of (F8 hN hi hx he.out hs hf)
theorem MQ{c:Expr}{a b:List Stmt}{t u:TS}(hc:PT X c tc)(ha:Fl X a t)(hb:Fl X b u):S0 X (.If c a b pos) (TF tc t u):=.of (Ak hc ha.out hb.out)
theorem Jv:Fl X [] Pu:=.of AT
end
end L2
namespace L2
open PySem
variable{D:Fc}{H:Hp}{M' j:Nat}{low' z:Int}{dl:qW}{σ:St}
noncomputable def CQ(x:Int->Int)(lo:Int)(m:Nat):qW:=(List.range m).map λj:Nat=>x (lo+(j:Int))
theorem Bp(x:Int->Int)(lo:Int)(m:Nat):(CQ x lo m).length=m:=by unfold CQ;rw[List.length_map,List.length_range]
theorem Dw(x:Int->Int)(lo:Int){m:Nat}(h:j<m):(CQ x lo m).getD j 0=x (lo+(j:Int)):=by unfold CQ;exact Az h
def MR(g:Int)(x:Int->Int):Prop:=∀z,0<=x z/\x z<g
theorem Fp{g:Int}{x:Int->Int}(hx:MR g x)(lo:Int)(m:Nat):∀n∈CQ x lo m,0<=n/\n<g:=λn hn=>by unfold CQ at hn;obtain⟨j,_,rfl⟩:=ao.mp hn;exact hx _
noncomputable def F5(g lo:Int)(dl:qW)(m:Nat)(x:Int->Int):Int:=dl.getD (A5 g (CQ x lo m)).toNat 0
noncomputable def Gi(w:qW)(lo:Int):Int->Int:=λz=>sn w (z-lo)
theorem GO{g:Int}(hg:2<=g){w:qW}(hb:∀n∈w,0<=n/\n<g)(lo:Int):MR g (Gi w lo):=λz=>Us hg hb _
theorem Tl(w:qW)(low lo:Int)(m:Nat):CQ (Gi w low) lo m=F4 w (lo-low) m:=by unfold CQ F4 Gi;exact bG λj _=>by rw[show lo+(j:Int)-low=lo-low+(j:Int) by lia]
theorem Eo(w:qW)(lo:Int):CQ (Gi w lo) lo w.length=w:=by rw[Tl,Int.sub_self,Kl]
theorem Qm(x:Int->Int){lo low:Int}{m M:Nat}(h1:low<=lo)(h2:lo+(m:Int)<=low+(M:Int)):F4 (CQ x low M) (lo-low) m=CQ x lo m:=by
 refine BM (by rw[By,Bp]) λj hj=>?_;rw[By]at hj;rw[EF _ _ hj,Dw _ _ hj,show lo-low+(j:Int)=((((lo-low).toNat+j:Nat):Nat):Int) by lia,El (by rw[Bp];lia),Dw _ _ (by lia)]
 congr 1
 lia
theorem E2{g:Int}(hg:2<=g){lo low:Int}{m M:Nat}(hl:(dl.length:Int)=g^m)(hc:∀j,j<m->BI g dl (g^(m-1-j))=true->low<=lo+(j:Int)/\lo+(j:Int)<low+(M:Int)){x:Int->Int}(hx:MR g x):F5 g low (Dn g lo dl m low M) M x=F5 g lo dl m x:=by
 unfold F5;have z:=Em hg lo dl m low (v:=CQ x low M) (Fp hx low M);rw[Bp]at z;rw[z];refine Hg hg hl (FP hg (Fp hx low M) _ _) (Fp hx lo m) (By ..) (Bp ..) λj hj hcj=>?_;obtain⟨a,b⟩:=hc j hj hcj;rw[EF _ _ hj,Dw _ _ hj,show lo-low+(j:Int)=(((lo+(j:Int)-low).toNat:Nat):Int) by lia,El (by rw[Bp];lia),Dw _ _ (by lia)]
 congr 1
 lia
def Ut(g:Int)(f:(Int->Int)->Int)(z:Int):Prop:=∃x,MR g x/\f x≠f λy=>if y=z then 0 else x y
theorem ZU{g:Int}(hg:2<=g){x:Int->Int}(hx:MR g x)(z:Int):MR g λy=>if y=z then 0 else x y:=λy=>by
 show 0<=(if y=z then 0 else x y)/\(if y=z then 0 else x y)<g;split
 ·lia
 ·exact hx y
theorem Kq(x:Int->Int)(lo:Int){m:Nat}(hj:j<m):CQ (λy=>if y=lo+(j:Int) then 0 else x y) lo m=(CQ x lo m).set j 0:=by
 refine BM (by rw[dJ,Bp,Bp]) λk hk=>?_;rw[Bp]at hk;rw[Dw _ _ hk,Hf (by rw[Bp];exact hj),Dw _ _ hk]
 by_cases e:j=k
 ·subst e;rw[qF rfl,qF rfl]
 ·rw[qE e,qE (by lia)]
theorem G5{g:Int}(hg:2<=g){lo:Int}{m:Nat}(hl:(dl.length:Int)=g^m)(hj:j<m):BI g dl (g^(m-1-j))=true↔Ut g (F5 g lo dl m) (lo+(j:Int)):=by
 rw[MK hg hl hj];constructor
 ·rintro⟨w,wl,wb,ne⟩;subst wl;refine⟨Gi w lo,GO hg wb lo,?_⟩;unfold F5;rw[Kq _ _ hj,Eo];exact ne
 ·rintro⟨x,hx,ne⟩;unfold F5 at ne;rw[Kq _ _ hj]at ne;exact⟨_,Bp ..,Fp hx lo m,ne⟩
theorem Qn{g:Int}{lo:Int}{m:Nat}(h:Ut g (F5 g lo dl m) z):∃j:Nat,j<m/\z=lo+(j:Int):=by
 obtain⟨x,hx,ne⟩:=h
 by_cases e:lo<=z/\z<lo+(m:Int)
 ·exact⟨(z-lo).toNat,by lia,by lia⟩
 ·exfalso;apply ne;unfold F5
  congr 3
  unfold CQ;refine bG λj hj=>?_;have:=ak.mp hj;show x (lo+(j:Int))=if lo+(j:Int)=z then 0 else x (lo+(j:Int));rw[qE (by lia)]
structure MS(g:Int)(f:(Int->Int)->Int)(low:Int)(M:Nat):Prop where
 one:1<=M
 all:∀z,Ut g f z->low<=z/\z<low+(M:Int)
 ends:((∀z,¬Ut g f z)/\low=0/\M=1)\/(Ut g f low/\Ut g f (low+(M:Int)-1))
theorem Du.toF{g:Int}(hg:2<=g){lo:Int}{m:Nat}(hl:(dl.length:Int)=g^m){low:Int}{M:Nat}(h:Du g lo dl m low M):MS g (F5 g lo dl m) low M:=by
 refine⟨h.one,λz hz=>?_,?_⟩
 ·obtain⟨j,hj,rfl⟩:=Qn hz;exact h.all j hj ((G5 hg hl hj).mpr hz)
 ·rcases h.ends with⟨f,a,b⟩|⟨j0,j1,le,lt,a,b,c0,c1⟩
  ·refine .inl ⟨λz hz=>?_,a,b⟩;obtain⟨j,hj,rfl⟩:=Qn hz;rw[<-G5 hg hl hj,f j hj]at hz;cases hz
  ·have d0:=(G5 (lo:=lo) hg hl (show j0<m by lia)).mp c0;have d1:=(G5 (lo:=lo) hg hl lt).mp c1;refine .inr ⟨a▸d0,?_⟩;rw[show low+(M:Int)-1=lo+(j1:Int) by lia];exact d1
theorem MS.uniq{g:Int}{f:(Int->Int)->Int}{low:Int}{M:Nat}(h:MS g f low M)(h':MS g f low' M'):low=low'/\M=M':=by
 have o:=h.one;have o':=h'.one;rcases h.ends with⟨n,a,b⟩|⟨d0,d1⟩
 ·rcases h'.ends with⟨_,a',b'⟩|⟨d0',_⟩
  ·lia
  ·exact qG d0' (n _)
 ·rcases h'.ends with⟨n',_,_⟩|⟨d0',d1'⟩
  ·exact qG d0 (n' _)
  ·have:=h.all _ d0';have:=h.all _ d1';have:=h'.all _ d0;have:=h'.all _ d1;lia
theorem E3{g:Int}(hg:2<=g){f f':(Int->Int)->Int}(h:∀x,MR g x->f x=f' x)(d:Ut g f z):Ut g f' z:=by obtain⟨x,hx,ne⟩:=d;refine⟨x,hx,?_⟩;rw[<-h x hx,<-h _ (ZU hg hx z)];exact ne
theorem MS.congr{g:Int}(hg:2<=g){f f':(Int->Int)->Int}(h:∀x,MR g x->f x=f' x){low:Int}{M:Nat}(n:MS g f low M):MS g f' low M:=by
 have h2:∀x,MR g x->f' x=f x:=λx hx=>(h x hx).symm
 refine⟨n.one,λz d=>n.all z (E3 hg h2 d),?_⟩;rcases n.ends with⟨a,b,c⟩|⟨a,b⟩
 ·exact .inl ⟨λz d=>a z (E3 hg h2 d),b,c⟩
 ·exact .inr ⟨E3 hg h a,E3 hg h b⟩
def CO(g lo:Int)(dl:qW)(m:Nat)(lo':Int)(tab':qW)(m':Nat):Prop:=∀x,MR g x->F5 g lo dl m x=F5 g lo' tab' m' x
theorem V4{g:Int}(hg:2<=g){lo:Int}{a b:qW}{m:Nat}(la:(a.length:Int)=g^m)(lb:(b.length:Int)=g^m)(h:∀x,MR g x->F5 g lo a m x=F5 g lo b m x):a=b:=by refine MG hg la lb λw wl wb=>?_;subst wl;have z:=h (Gi w lo) (GO hg wb lo);unfold F5 at z;rw[Eo]at z;exact z
variable{lo':Int}{tab':qW}{m':Nat}
theorem C2{g:Int}(hg:2<=g){lo:Int}{m:Nat}(hl:(dl.length:Int)=g^m)(hl':(tab'.length:Int)=g^m'){low:Int}{M:Nat}(n:Du g lo dl m low M)(n':Du g lo' tab' m' low' M'):
  CO g lo dl m lo' tab' m'↔low=low'/\Dn g lo dl m low M=Dn g lo' tab' m' low' M':=by
 constructor
 ·intro h;obtain⟨e1,e2⟩:=((n.toF hg hl).congr hg h).uniq (n'.toF hg hl');subst e1 e2;refine⟨rfl,V4 hg (lo:=low) (BN hg ..) (BN hg ..) λx hx=>?_⟩;rw[E2 hg hl n.all hx,E2 hg hl' n'.all hx];exact h x hx
 ·rintro⟨rfl,e⟩ x hx;have hM:M=M':=by have a:=BN hg lo dl m low M;have b:=BN hg lo' tab' m' low M';rw[e,b]at a;exact EE hg a.symm
  subst hM;rw[<-E2 hg hl n.all hx,<-E2 hg hl' n'.all hx,e]
theorem Ht{g:Int}(hg:2<=g){lo low:Int}{m M:Nat}(hl:(dl.length:Int)=g^m)(h1:low<=lo)(h2:lo+(m:Int)<=low+(M:Int)){x:Int->Int}(hx:MR g x):F5 g low (Dn g lo dl m low M) M x=F5 g lo dl m x:=
 E2 hg hl (λj hj _=>by lia) hx
theorem An{t u:TS}(h:∀N:St->Hp->Prop,(∀σ' H',u D σ' H'->N σ' H')->t {D with nx:=N} σ H):Lr t u D σ H:=h (u D) λ_ _ z=>z
theorem Qo(ns:qW):∀ms:qW,(PyData.eqvAll (ns.map PyData.int) (ms.map PyData.int)=true)↔ns=ms:=by
 induction ns with
 |nil =>
  intro ms;cases ms with
  |nil=>simp[PyData.eqvAll]
  |cons b t=>simp[PyData.eqvAll]
 |cons x r ih =>
  intro ms;cases ms with
  |nil=>simp[PyData.eqvAll]
  |cons b t=>simp[PyData.eqvAll,PyData.eqv,ih]
inductive Qp(K:qV)(vs:List V)(H:Hp)(Q:VK)(z3_:XK):Prop
 |m (r a:qR) (g lo:Int) (dl:qW) (m:Nat) (low:Int) (ws:qW):vs=[.ref r,.int ((m:Nat):Int),.int low,.ref a]->Av H r g lo dl m->Af K H a (ws.map V.int)->(∀n∈ws,0<=n/\n<g)->low<=lo->lo+(m:Int)<=low+(ws.length:Int)->Q (.int (dl.getD (A5 g (F4 ws (lo-low) m)).toNat 0)) H->Qp K vs H Q z3_
end L2
namespace L2
open PySem PySem.Spec PyProof.Rows
variable{X:Cx}
theorem Oy(bs:List Bool):(List.range bs.length).all (λi=>bs.getD i false)=bs.all id:=by
 rw[fB,eg,eg];constructor
 ·intro h b hb;obtain⟨i,hi,e⟩:=List.getElem_of_mem hb;have z:=h i (ak.mpr hi);rw[aK,aJ hi,e]at z;exact z
 ·intro h i hi;have hi':=ak.mp hi;rw[aK,aJ hi'];exact h _ (bS hi')
theorem Kr(hc:X.calm=true):CT X (.builtin "all") (λxs H Q=>∃(p:qR) (bs:List Bool),xs=[.ref p]/\Af X.K H p (bs.map V.bl)/\Q (.bl (bs.all id)) H):=by
 intro ad s σ H xs us Q I r h;rcases h with⟨p,bs,rfl,hq,q⟩;obtain⟨u,rfl,rx⟩:=FH r;cases rx;rcases I.list hq with⟨its,rits,pl,hz⟩;have hlen:=rits.length;rw[aH]at hlen;have alt:p<s.heap.objs.size:=by obtain⟨o,e,_⟩:=pl.isList;exact aY e
 refine call_all_walk (wpAny_pyIter_list pl.isList ?_);have up:∀b o,s.heap.get? b=some o->(s.heap.push {cls:=.type "list_iterator",data:=.fields #[.ref p,.int 0 0]}).get? b=some o:=λb o e=>aO _ e
 refine⟨s.heap.objs.size,[s.heap.objs.size,p],[s.heap.objs.size],its.toArray.size,_,_,λi=>bs.getD i false,rfl,Walks.list (A:=X.A.in1) (I.ok.hd hc) _ p (bF alt) its.toArray,⟨⟨_,af _ rfl,rfl,rfl⟩,pl.isList.at λo e=>up p o e⟩,λi v Q' E' s' hv hq'=>?_,λh' tk kk=>?_⟩
 ·have hv':its[i]?=some v:=by simpa using hv
  have hi:=(aN.mp hv').1;obtain⟨u2,hu2,ru2⟩:=rits.get (x:=.bl (bs.getD i false)) (i:=i) (by rw[aQ,aJ (by lia),aK,aJ (by lia)];rfl);rw[hv']at hu2;cases hu2;cases ru2;exact wpAny_truthy_bool hq'
 ·refine⟨.bl (bs.all id),H,I.kept (t':=tk) λb o e=>kk b o (λz=>?_) (up b o e),?_,q⟩
  ·rw[aV.mp z]at e;exact qG (aY e) (bH _)
  ·rw[bV,<-hlen,Oy];rfl
end L2
namespace L2
theorem Na{i j:Int}:Lv (.int i) (.int j)=true:=rfl
theorem Nb{i j:Bool}:Lv (.bl i) (.bl j)=true:=rfl
theorem Nc:Lv .non .non=true:=rfl
theorem Nd{i:Int}:Lv (.int i) .non=true:=rfl
end L2
namespace L2
open PySem PySem.Spec PyProof.Rows
variable{E Q:qQ->qS->Prop}{H H':Hp}{T:String}{X:Cx}{a:qR}{h':Heap}{ad:List (qR×Obj)}{pos:Pos}{t':Nat}{u:qQ}{σ:St}
section
variable{κ:Type}[DecidableEq κ]
noncomputable def Bj(kvs:List (κ×V))(k:κ):Option V:=(kvs.find? λkv=>decide (kv.1=k)).map (·.2)
noncomputable def DE(kvs:List (κ×V))(k:κ)(v:V):List (κ×V):=
 if (kvs.any λkv=>decide (kv.1=k))=true then kvs.map (λkv=>if kv.1=k then (kv.1,v) else kv) else kvs++[(k,v)]
theorem Dx{p:κ×V}{r:List (κ×V)}{k:κ}(e:p.1=k):Bj (p::r) k=some p.2:=by simp[Bj,List.find?_cons,e]
theorem Cj{p:κ×V}{r:List (κ×V)}{k:κ}(e:¬p.1=k):Bj (p::r) k=Bj r k:=by simp[Bj,List.find?_cons,e]
theorem Hu(k:κ):∀kvs:List (κ×V),(kvs.any λkv=>decide (kv.1=k))=(Bj kvs k).isSome
 |[]=>rfl
 |p::r=>by
  rw[List.any_cons]
  by_cases e:p.1=k
  ·simp only[Dx e,qH e,Bool.true_or,Option.isSome_some]
  ·rw[Cj e,qI e,Bool.false_or];exact Hu k r
theorem Gj(kvs:List (κ×V))(k:κ)(v:V):(DE kvs k v).length<=kvs.length+1:=by
 unfold DE;split
 ·rw[aH];lia
 ·rw[aU,bD,dM];lia
theorem Ks{kvs:List (κ×V)}{k:κ}(v:V)(h:Bj kvs k=none):DE kvs k v=kvs++[(k,v)]:=by unfold DE;rw[Hu,h];exact qE (by decide)
theorem Ig.isSome_eq{o:Option V}{u:Option qQ}(r:Ig o u):o.isSome=u.isSome:=by
 cases o with
 |none=>cases u with
  |none=>rfl
  |some _=>exact (show False from r).elim
 |some _=>cases u with
  |none=>exact (show False from r).elim
  |some _=>rfl
theorem KV.val{kvs:List (κ×V)}{vs:List (κ×qQ)}(r:KV kvs vs)(k:κ):Ig (Bj kvs k) (valueAt vs k):=by
 unfold KV at r
 induction r with
 |nil=>exact True.intro
 | @cons p q ps qs h t ih =>
  obtain⟨h1,h2⟩:=h
  by_cases e:p.1=k
  ·have e':q.1=k:=h1.symm.trans e;have b:valueAt (q::qs) k=some q.2:=by simp[valueAt,List.find?_cons,e']
   rw[Dx e,b];exact h2
  ·have e':¬q.1=k:=λz=>e (h1.trans z)
   have b:valueAt (q::qs) k=valueAt qs k:=by simp[valueAt,List.find?_cons,e']
   rw[Cj e,b];exact ih
theorem KV.any{kvs:List (κ×V)}{vs:List (κ×qQ)}(r:KV kvs vs)(k:κ):(kvs.any λkv=>decide (kv.1=k))=vs.any λkv=>decide (kv.1=k):=by
 unfold KV at r
 induction r with
 |nil=>rfl
 |cons h t ih=>rw[List.any_cons,List.any_cons,ih,h.1]
theorem KV.repl{kvs:List (κ×V)}{vs:List (κ×qQ)}(r:KV kvs vs)(k:κ){y:V}(ry:A8 y u):
  KV (kvs.map λkv=>if kv.1=k then (kv.1,y) else kv) (vs.map λkv=>if kv.1=k then (kv.1,u) else kv):=by
 unfold KV at r⊢
 induction r with
 |nil=>exact .nil
 | @cons p q ps qs h t ih =>
  rw[bv,bv];refine .cons ?_ ih;obtain⟨h1,h2⟩:=h
  by_cases e:p.1=k
  ·rw[qF e,qF (h1.symm.trans e)];exact⟨h1,ry⟩
  ·rw[qE e,qE (λz=>e (h1.trans z))];exact⟨h1,h2⟩
theorem KV.put{kvs:List (κ×V)}{vs:List (κ×qQ)}(r:KV kvs vs)(k:κ){y:V}(ry:A8 y u):KV (DE kvs k y) (stored vs k u):=by
 unfold DE stored;rw[r.any k]
 by_cases e:(vs.any λkv=>decide (kv.1=k))=true
 ·rw[qF e,qF e];exact r.repl k ry
 ·rw[qE e,qE e];exact Paired.snoc r ⟨rfl,ry⟩
theorem KV.length{kvs:List (κ×V)}{vs:List (κ×qQ)}(r:KV kvs vs):kvs.length=vs.length:=Paired.length r
end
theorem Uu{P:qT}{w:qU}{k:Bf}(r:A8 (kV k) u):(A7 P w).is k u=true:=by
 cases k with
 |inl i=>obtain⟨t,e⟩:=(show ∃t,u=Value.int i t from r);subst e;exact KI P w i t
 |inr x=>obtain⟨t,e⟩:=(show ∃t,u=Value.str x t from r);subst e;exact KJ P w x t
theorem JF{P:qT}{w:qU}:∀{ks:List Bf} {us:List qQ},Au (ks.map kV) us->ItemsAre (A7 P w) ks us
 |[],_,r=>by rw[List.map_nil]at r;cases r;exact .nil
 |k::ks,_,r=>by
  rw[bv]at r;cases r with
  |cons h t=>exact .cons (Uu h) (JF t)
section
variable{P:qT}{w:qU}{h:Heap}
theorem X7{u:HO}(ok:Ea P w H h)(e:Rd H a u):Ap P w H h a u:=e.ok ok
theorem Uv{kvs:List (Bf×V)}(ok:Ea P w H h)(e:Rd H a (.dK kvs)):kvs.length<=sizeLine/\(a==sysModules)=false/\∃vs,KV kvs vs/\h.DictOf (A7 P w) a vs:=
 show Ap P w H h a (.dK kvs) from X7 ok e
theorem X8{kvs:List (Bf×V)}(ok:Ea P w H h)(e:H a=some (.dK kvs)):kvs.length<=sizeLine/\(a==sysModules)=false/\∃vs,KV kvs vs/\h.DictOf (A7 P w) a vs:=Uv ok (.inl e)
end
section
variable{s:qS}{y v:V}{r:qQ}{o:Option V}{A:Around}
theorem AW.big(I:AW X ad σ H s):sysModules<s.heap.objs.size:=by have h:mainGlobals<s.heap.objs.size:=(I.mod.glob.keeps I.bk).lt;exact Nat.lt_trans (by decide) h
theorem Nf{ob:HO}(I:AW X ad σ H s)(mu:Xg (H a))(hs:Heap.SameBut a s.heap h')(he:∃q,h'.get? a=some q)(new:Ap X.prog X.w (AV H a ob) h' a ob):
  AW X ad σ (AV H a ob) {s with heap:=h',toks:=t'}:=
 I.write (x:=a) (e:=a) mu (.inl rfl) (λb q hb z=>(hs.2 b hb).trans z) he new
theorem V5{P:qT}{w:qU}{kvs:List (Bf×V)}{vs:List (Bf×qQ)}(z:kvs.length<=sizeLine)(hd:(a==sysModules)=false)(rel:KV kvs vs)(dd:h'.DictOf (A7 P w) a vs):
  Ap P w H' h' a (.dK kvs):=⟨z,hd,vs,rel,dd⟩
end
def V6(i:Expr):Prop:=∀ov iv,subscripted i false ov iv=operate [ov,iv] (getItem ov iv)
theorem Tn{prog:qT}{w:qU}{A:Around}{s:qS}{env:Env}{value slice:Expr}{id:String}
  (hl:typeLookup (.type T) "__getitem__"=pure (some (.builtin id))) (hs:V6 slice)
  (h:wpAny (model prog w) A (eval value env) (λo s₁=>wpAny (model prog w) A (eval slice env) (λi s₂=>s₂.TypeIs o T/\wpAny (model prog w) A (getItem o i) Q E s₂) E s₁) E s):
  wpAny (model prog w) A (eval (.Subscript value slice pos) env) Q E s:=by
 refine Subscript_ (qM h (λo s₁ h₁=>qM h₁ (λi s₂ h₂=>?_) λ_ _ x=>x) λ_ _ x=>x);obtain⟨hT,h₂⟩:=h₂;unfold subscriptTail;refine qC ?_;rw[getitemInPython_of_ne hT.not_modules];refine qC (wpAny_specialOf hT hl ?_)
 have fin:wpAny (model prog w) A (subscripted slice false o i) (λr s₃=>wpAny (model prog w) A (letTemporaryGo value o r >>= λ_=>pure r) Q E s₃) E s₂:=by rw[hs o i];exact wpAny_operating (qM h₂ (λr s₃ h₃=>qC (wpAny_letTemporaryGo (qD h₃))) λ_ _ x=>x)
 first
  |exact qD (qC fin)
  |exact qC (qD (qC fin))
  |exact qC fin
theorem Qq{P:qT}{w:qU}(h:Heap)(hb:sysModules<h.objs.size):Ap P w H (h.push {cls:=.type "dict",data:=.dict #[]}) h.objs.size (.dK []):=
 ⟨az _,beq_eq_false_iff_ne.mpr (Ne.symm (bF hb)),[],.nil,Heap.DictOf.new h⟩
def V7:TE:=λ_ H Q=>∀p,H p=none->Q (.ref p) (AV H p (.dK []))
theorem Qr:PE X (.Dict [] [] pos) V7:=λad s σ H Q I h =>
 wpAny_Dict_empty ⟨.ref s.heap.objs.size,_,I.laid (a:=s.heap.objs.size) (o:=.dK []) (t':=s.toks) (λ_ _ q=>aO _ q) (aP _) (Qq s.heap I.big),rfl,h _ (I.hok.fresh (aP _))⟩
noncomputable def Qs:List (TE×TE)->St->Hp->(List (V×V)->Hp->Prop)->Prop
 |[],_,H,Q=>Q [] H
 | (tk,tv)::r,σ,H,Q=>tk σ H λx H1=>tv σ H1 λy H2=>Qs r σ H2 λps H3=>Q ((x,y)::ps) H3
abbrev VV:List (V×V)->List (qQ×qQ)->Prop:=Paired λp q=>A8 p.1 q.1/\A8 p.2 q.2
def ZV(X:Cx)(pos:Pos)(keys:List (Option Expr))(values:List Expr)(trs:List (TE×TE)):Prop:=
 ∀(ad:List (qR×Obj)) (s:qS) (σ:St) (H:Hp) (Q:List (V×V)->Hp->Prop),AW X ad σ H s->Qs trs σ H Q ->
  wpAny (model X.prog X.w) X.A (evalPairs (pairTrees keys values X.env pos)) (λvs s'=>∃ps H',AW X ad σ H' s'/\VV ps vs/\Q ps H') X.xe s
theorem To:ZV X pos [] [] []:=λad s σ H Q I h=>pairTrees_nil_walk ⟨[],H,I,.nil,h⟩
theorem Qt{k v:Expr}{ks:List (Option Expr)}{vs:List Expr}{tk tv:TE}{trs:List (TE×TE)}(hk:PE X k tk)(hv:PE X v tv)(hr:ZV X pos ks vs trs):
  ZV X pos (some k::ks) (v::vs) ((tk,tv)::trs):=λad s σ H Q I h =>
 pairTrees_cons_walk (BS (hk ad s σ H _ I h) λu s1 ⟨x,H1,I1,rx,q1⟩=>BS (hv ad s1 σ H1 _ I1 q1) λw2 s2 ⟨y,H2,I2,ry,q2⟩ =>
  BS (hr ad s2 σ H2 _ I2 q2) λws s3 ⟨ps,H3,I3,rel,q3⟩=>⟨(x,y)::ps,H3,I3,.cons ⟨rx,ry⟩ rel,q3⟩)
end L2
namespace PySem
section
variable{prog:qT}{w:qU}{K:Type}[DecidableEq K]{knd:HeapKind prog w K}{A:Around}{E:qQ->qS->Prop}{s:qS}
theorem setDef_heap{dd b:qR}{ents:List (K×qR×qQ)}{key:K}{dv:qQ}{Q:qQ->qS->Prop}(room:knd.room A)(isk:knd.is s.heap key b)(dof:s.heap.DictOfH knd dd ents)(few:ents.length<=sizeLine)
  (old:∀p,atKey ents key=some p->Q p.2 {s with toks:=s.toks+knd.draws key})
  (new:atKey ents key=none->∀hp,hp.DictOfH knd dd (storedH ents key b dv)->Heap.SameBut dd s.heap hp->Q dv {s with heap:=hp,toks:=s.toks+knd.draws key}):
  wpAny (model prog w) A (dictSetDefault dd (.ref b) dv) Q E s:=by
 rcases dof with⟨ob,rows,ep,got,cls,dat,rowsE,each,once⟩;unfold dictSetDefault
 try with_reducible refine qO ?_
 refine qC (knd.pyHash room isk (qC (wpAny_dictFind_heap (s:={s with toks:=s.toks+knd.draws key}) room isk got dat rowsE each once (λnowhere=>?_) (λj p there=>?_))))
 ·have none':=atKey_none_of_get nowhere;have newE:=storedH_new (a:=b) (v:=dv) none';have rz:=size_of_entries rowsE;refine qC (wpAny_rule (qC (wpAny_updateDictKeys (hz:=by lia) (s:={s with toks:=s.toks+knd.draws key}) got dat (qD ?_))));refine new none' _ ⟨_,_,ep+1,dQ _ got (Obj.isFreed_of_dict (Obj.data_mapDictKeys dat _)),cls.mapDictKeys _,Obj.data_mapDictKeys dat _,?_,?_,?_⟩ (Heap.SameBut.update ..)
  ·rw[newE];simp[rowsE,entryOfKey]
  ·rw[newE];intro x hx;rcases aR.mp hx with z|z
   ·exact knd.keeps (each x z) got dat (Heap.SameBut.update ..)
   ·rw[aV.mp z];exact knd.keeps isk got dat (Heap.SameBut.update ..)
  ·rw[newE,aZ,cD];refine⟨once,by simp,λx hx y hy e=>?_⟩;have:y=key:=by simpa using hy
   exact not_mem_keys_of_get nowhere (by rw[<-this,<-e];exact hx)
 ·refine qC (wpAny_dictEntries (s:={s with toks:=s.toks+knd.draws key}) got dat ?_);rw[entry_at rowsE j,there];exact qC (wpAny_rule (qD (old p (atKey_of_get once there))))
end
section
variable{prog:qT}{w:qU}{K:Type}[DecidableEq K](knd:HeapKind prog w K)(dd b:qR)
theorem meetsH_setDef(hm:(dd==sysModules)=false)(dv:qQ):
  MeetsIn prog w (Builtin.«dict.setdefault» ⟨[.ref dd,.ref b,dv],[]⟩) (λA R s=>knd.room A.in1/\∃key ents,knd.is s.heap key b/\s.heap.DictOfH knd dd ents/\ents.length<=sizeLine /\
   (∀p,atKey ents key=some p->R (.ok (.ret p.2)) {s with toks:=s.toks+knd.draws key}) /\
   (atKey ents key=none->∀hp,hp.DictOfH knd dd (storedH ents key b dv)->Heap.SameBut dd s.heap hp->R (.ok (.ret dv)) {s with heap:=hp,toks:=s.toks+knd.draws key})):=
 .of_wp λA R s h=>by obtain⟨room,key,ents,isk,dof,few,old,new⟩:=h;unfold Builtin.«dict.setdefault»;refine qC ?_;unfold Builtin.Dict.keyAndDefault;refine qC (wpAny_notOrdered_dict dof.typeIs ?_);show wpAny _ _ (pure (dd,Value.ref b,some dv)) _ _ s;refine qD ?_;show wpAny _ _ (if (dd==sysModules)=true then _ else (dictSetDefault dd (.ref b) dv >>= _)) _ _ s;rw[qE (by rw[hm];decide)];exact qC (setDef_heap room isk dof few (λp z=>qD ⟨_,rfl,old p z⟩) λz hp d2 sb=>qD ⟨_,rfl,new z hp d2 sb⟩)
end
end PySem
namespace L2
open PySem PySem.Spec PyProof.Rows
variable{X:Cx}{cl:List (Str×qR)}{es:List Expr}{fd:FuncData}{pos:Pos}{ps:List Str}{qual x:Str}{scope:Scope}{sp:Sp}{st:Stmt}{te:TE}{tt:TT}
section
variable{p:List qQ->Prop}
theorem b0(h:p []):∀us:List qQ,us.length=0->p us:=λus e=>by cases us with
 |nil=>exact h
 |cons a r=>cases e
theorem b1(h:∀a,p [a]):∀us:List qQ,us.length=1->p us:=λus e=>by cases us with
 |nil=>cases e
 |cons a r=>exact b0 (p:=λl=>p (a::l)) (h a) r (Nat.succ.inj e)
theorem b2(h:∀a b,p [a,b]):∀us:List qQ,us.length=2->p us:=λus e=>by cases us with
 |nil=>cases e
 |cons a r=>exact b1 (p:=λl=>p (a::l)) (h a) r (Nat.succ.inj e)
theorem b3(h:∀a b c,p [a,b,c]):∀us:List qQ,us.length=3->p us:=λus e=>by cases us with
 |nil=>cases e
 |cons a r=>exact b2 (p:=λl=>p (a::l)) (h a) r (Nat.succ.inj e)
theorem b4(h:∀a b c d,p [a,b,c,d]):∀us:List qQ,us.length=4->p us:=λus e=>by cases us with
 |nil=>cases e
 |cons a r=>exact b3 (p:=λl=>p (a::l)) (h a) r (Nat.succ.inj e)
end
noncomputable def Z7(N P:List Str)(sc:Scope):Bool:=decide (sc.kind=.function)&&!sc.isCoroutine&&!sc.isGenerator&&decide N.Nodup&&decide (N.take P.length=P) &&
 P.all (λx=>decide (sc.names.lookup x=some .local\/sc.names.lookup x=some .cell))&&sc.names.all λy=>decide (y.2≠.free)
theorem CS{N P:List Str}{sc:Scope}(h:Z7 N P sc=true:=by decide +kernel):AO N P sc:=by unfold Z7 at h;simp only[Bool.and_eq_true,decide_eq_true_eq,Bool.not_eq_true',List.all_eq_true]at h;obtain⟨⟨⟨⟨⟨⟨a,b⟩,c⟩,d⟩,e⟩,f⟩,g⟩:=h;exact⟨a,b,c,d,e,f,g⟩
section
variable{P:qT}{w:qU}{K:qV}{mg:Str->Option qQ}{base:Heap}{f:qR}{N:List Str}{k:Nat}
theorem NK.okY(F:NK K x qual st f fd)(S:AO N ps (AI st)) (h:∀vs H Q E,sp vs H Q E->vs.length=ps.length /\
  ∀(fi:qQ) (A:Around) (outer:List Env) (s:qS),B7 k (A.deeper (envOfC qual (AI st) s.heap.objs.size f fi)) ->
   ∃t,Ic (Gs (Lo P w) P w K mg base N qual (AI st) f fi A outer s H E).nox (Bx st) t/\t {nx:=λ_ H'=>Q .non H',rt:=Q} (DA N vs) H):GC P w K mg base (Lo P w) (k+1) f fd ps sp:=
 F.ok0 S (λvs H Q E q=>(h vs H Q E q).1) λfi A outer s H vs Q E hr q=>(h vs H Q E q).2 fi A outer s hr
theorem Am(D:∃fd,NK K x qual st f fd)(S:AO N ps (AI st)) (h:∀vs H Q E,sp vs H Q E->vs.length=ps.length /\
  ∀(fi:qQ) (A:Around) (outer:List Env) (s:qS),B7 k (A.deeper (envOfC qual (AI st) s.heap.objs.size f fi)) ->
   ∃t,Ic (Gs (Lo P w) P w K mg base N qual (AI st) f fi A outer s H E).nox (Bx st) t/\t {nx:=λ_ H'=>Q .non H',rt:=Q} (DA N vs) H) (bd:HR x qual st ps:=by first|exact λ_ _ _ _ _ _=>b1 λ_=>rfl|exact λ_ _ _ _ _ _=>b2 λ_ _=>rfl|exact λ_ _ _ _ _ _=>b3 λ_ _ _=>rfl|exact λ_ _ _ _ _ _=>b4 λ_ _ _ _=>rfl):CJ P w K mg base (k+1) f ps sp:=
 Tc D S bd (λvs H Q E q=>(h vs H Q E q).1) λfi A outer s H vs Q E hr q=>(h vs H Q E q).2 fi A outer s hr
end
section
variable{e elt iter:Expr}{t:TA}{pos' p px:Pos}{N:List Str}{sc:Scope}{i k k':Nat}{f:qR}{fv:List (Nat×Str)}{ifs:List Expr}{wi:TI}
theorem AR(hr:B7 k' X.A)(G:CJ X.prog X.w X.K X.mg X.base k f ps sp)(hm:X.mg x=some (.ref f))(ha:PA X (e::es) t)(hk:k<=k':=by decide)(hg:Gl X x:=by rfl)
  (hdb:(x==("__debug__":Str))=false:=by decide) (he:starEach (e::es) X.env=(false,eval e X.env)::starEach es X.env:=by rfl) (hpl:(backTo pos (starEach es X.env)).any (·.1)=false:=by rfl):
  PE X (.Call (.Name x p) (e::es) [] pos) (Jn sp [] (λ_=>E0) t):=QS G (hr.mono hk) hg hm X0 ha hdb he hpl
theorem AU(i:Nat)(S:AO X.N ps sc)(he:PE X e te)(hi:X.N[i]?=some x:=by rfl)(hx:UX X.env.scope x:=by first|exact Or.inl rfl|exact Or.inr rfl)(hs:swapsWith e (some (.Name x pos')) pos.line X.env=pure false:=by rfl)
  (hf:X.fn x=true\/X.env.scope.names.lookup x=some .local:=by first|exact .inl rfl|exact .inr rfl|assumption):PS X (.Assign [.Name x pos'] e pos) (Oc te (Fd i)):=F8 S.nd hi hx he hs hf
theorem A3(i:Nat)(S:AO X.N ps sc)(hi:X.N[i]?=some x:=by rfl)(hx:UX X.env.scope x:=by first|exact Or.inl rfl|exact Or.inr rfl)
  (hf:X.fn x=true\/X.env.scope.names.lookup x=some .local:=by first|exact .inl rfl|exact .inr rfl|assumption):PG X (.Name x pos) (Fd i):=Gz S.nd hi hx hf
theorem Ng(fv:List (Nat×Str))(cl:List (Str×qR))(hi:PI X (.Name x px) iter wi)(hf:∀s H C fp,PF (EV X s H (compEnvC scope cl C X.env) fp (x::fv.map (·.2))) ifs tt)(he:∀s H C fp,PE (EV X s H (compEnvC scope cl C X.env) fp (x::fv.map (·.2))) elt te)
  (hclos:closureFor scope X.env=pure cl:=by with_unfolding_all rfl) (hcell:∀y∈scope.names,y.2≠.cell:=by decide +kernel) (hk:scope.kind=.function:=by rfl) (hnames:∀z∈scope.names,z.2=.local->scope.names.lookup z.1=some .local:=by decide +kernel)
  (hx:scope.names.lookup x=some .local:=by rfl) (hcl:Gu X.env cl:=by repeat' first|exact trivial|with_unfolding_all rfl|constructor) (hhas:((relabel scope X.env).names.all λz=>!(z.2==.cell||z.2==.free)||(cl.lookup z.1).isSome)=true:=by with_unfolding_all rfl)
  (hfv:HV X scope cl fv:=by repeat' first|exact trivial|with_unfolding_all rfl|constructor) (hnd:(x::fv.map (·.2)).Nodup:=by decide) (hc:X.calm=true:=by rfl) (hs:∀x,foldedSetIterable iter X.env x=pure x:=by intro _;rfl):
  PE X (.ListComp elt [⟨.Name x px,iter,ifs,0⟩] scope pos) (QX wi fv tt te):=Tf hc hi hclos hcell hk hnames hx hcl hhas hfv hnd hf he hs
end
end L2
namespace PySem
open Sem (wp)
section
variable{prog:qT}{w:qU}{A:Around}{E:qQ->qS->Prop}{s:qS}
theorem collect_rng{Q:List qQ->qS->Prop}{r:qR}{a b c:Int}{t u v:Tok}{n:Nat}(hh:A.handled=none)(hr:IsRange s.heap r a b c t u v)(sm:Builtin.Range.small a b c=true)(hn:Builtin.Range.rangeSize a b c=n)(hz:n<=2^24)
  (q:∀(h':Heap) (tk:Nat) (fh:Array qQ),(∀b o,s.heap.get? b=some o->h'.get? b=some o)->ItemsOf (λi v=>∃t,v=.int (a+i*c) t) fh n->Q fh.toList {s with heap:=h',toks:=tk}):wpAny (model prog w) A (collect (.ref r)) Q E s:=by
 unfold collect;apply qC;apply wpAny_runValue;refine codeAny_builtin F.entry_proto_collect ?_;rw[A.under_plainId F.plain_proto_collect];show wpAny _ A.in1 (newList [] >>= λz=>again (.builtin "list.__iadd__" ⟨[z,.ref r],[]⟩)) _ _ s;apply qC;refine wpAny_newObj_type ?_;apply qD;refine⟨plainId_quiet F.plain_list_iadd _,?_⟩;refine codeAny_builtin F.entry_list_iadd ?_;rw[A.under_plainId F.plain_list_iadd];generalize hS:s.heap.objs.size=S;generalize hG:s.heap.push {cls:=.type "list",data:=.seq ([]:List qQ).toArray}=G;have gS:G.get? S=some {cls:=.type "list",data:=.seq #[] 0}:=by rw[<-hG,<-hS];exact af _ rfl
 have gk:∀b o,s.heap.get? b=some o->G.get? b=some o:=λb o e=>by rw[<-hG];exact aO _ e
 show wpAny _ A.in1 (Builtin.List.listExtendWith (.ref S) (.ref r) (.ref S)) _ _ _;refine qM (wpAny_extend_range (A:=A) (s:={s with heap:=G}) (R:=λx s'=>x=.ok (.ret (.ref S))/\∃(h':Heap) (tk:Nat) (fh:Array qQ) (c':Nat),s'={s with heap:=h',toks:=tk}/\(∀b o,s.heap.get? b=some o->h'.get? b=some o)/\h'.get? S=some {cls:=.type "list",dict:=none,data:=.seq fh c',slots:=#[]}/\ItemsOf (λi v=>∃t,v=.int (a+i*c) t) fh n) hh (gk _ _ hr) sm hn hz S (.ref S) 0 gS λh' tk fh c' hk hS' hacc=>⟨rfl,h',tk,fh,c',rfl,λb o e=>hk b o (λz=>?_) (gk b o e),hS',hacc⟩) (λfin s' h=>?_) (λe s' h=>?_)
 ·have:=aY e;rw[z,hS]at this;exact bH _ this
 ·have last:∀(x:Result) (s':qS),(x=.ok (.ret (.ref S))/\∃(h':Heap) (tk:Nat) (fh:Array qQ) (c':Nat),s'={s with heap:=h',toks:=tk}/\(∀b o,s.heap.get? b=some o->h'.get? b=some o)/\h'.get? S=some {cls:=.type "list",dict:=none,data:=.seq fh c',slots:=#[]}/\ItemsOf (λi v=>∃t,v=.int (a+i*c) t) fh n)->wpAny (model prog w) A (match Value.ref S with
    |Value.ref a=>do
     match (<-load a).data with
      |Data.seq xs _=>pure xs.toList
      |_=>unsupported "internal:collect"
    |_=>unsupported "internal:collect") Q E s':=by
   intro x s' hRq;rcases hRq with⟨rfl,h',tk,fh,c',rfl,hk,hS',hacc⟩;show wpAny _ A (load S >>= _) _ _ _;apply qC;refine wpAny_load hS' ?_;exact qD (q h' tk fh hk hacc)
  cases fin with
  |done f =>
   have e:=h.1;cases e;exact last _ _ h
  |again c'=>exact⟨h.1,codeAny_mono h.2 λx s2 hx=>by have e:=hx.1;subst e;exact last _ _ hx⟩
 ·exact nomatch h.1
end
end PySem
namespace L2
open PySem PySem.Spec PyProof.Rows RW
end L2
namespace L2
open PySem PySem.Spec PyProof.Rows
variable{D:Fc}{H:Hp}{X:Cx}{a:qR}{elts:List Expr}{h':Heap}{ad:List (qR×Obj)}{t':Nat}{ta:TA}{tpos:Pos}{xs ys:List V}{σ:St}
section
variable{s:qS}
theorem AW.turnedAll{ch:List qR}(I:AW X ad σ H s)(hf:∀b∈ch,Cp X ad H b)(k:∀b u,b∉ch->s.heap.get? b=some u->h'.get? b=some u):AW X ad σ H {s with heap:=h',toks:=t'}:=by
 have nit:∀b u,H b=some u->b∉ch:=λb u e z=>by rw[(hf b z).1]at e;cases e
 refine I.step (g':=s.gens) (d':=s.drawn) (ch:=ch) (λb hb=>⟨(hf b hb).2.2.2.1,(hf b hb).2.1,(hf b hb).2.2.2.2.1,(hf b hb).2.2.2.2.2⟩) (λb u _ _ hc e _=>k b u hc e) (λb u _ _ hc e _=>⟨u.slots,k b u hc e⟩)
  (λb u _ e n=>n) (λb u hc e=>⟨u,k b u hc e⟩) (λb xs e=>e) (λb u v e=>e) (λb ps e=>⟨#[],by rw[e];simp⟩) (λm hm=>?_) (λb u e=>?_) I.bare
 ·obtain⟨o,es,ep,ho,r⟩:=hm;exact⟨o,es,ep,k _ o (λz=>(hf _ z).2.1 rfl) ho,r⟩
 ·refine (I.hok b u e).stay (λc v hc q=>k c v ?_ q) (λc q=>q) λc xs q=>q
  rcases hc with y|y
  ·rw[y];exact nit b u e
  ·exact nit c _ y
end
noncomputable def X9(K:qV)(a b:qR):It:=
 ⟨λi H=>∃xs ys x y,Af K H a xs/\Af K H b ys/\xs[i]?=some x/\ys[i]?=some y,
   λi H v H'=>∃p x y,v=.ref p/\H p=none/\H'=AV H p (.tup [x,y])/\(∀xs,Af K H a xs->xs[i]?=some x)/\∀ys,Af K H b ys->ys[i]?=some y,
   λi H=>∃xs ys,Af K H a xs/\Af K H b ys/\(xs.length<=i\/ys.length<=i)⟩
theorem Qu{P:qT}{w:qU}{K:qV}{ctx}(a b z TI TO i1 i2:qR)(D:ZipApart z TI TO i1 i2 a b):
  HK P w K (.Tuple elts ctx tpos) (X9 K a b) [z,TI,TO,i1,i2] z (λi h=>IsZip h z TI TO .none/\IsPair h TI (.ref i1) (.ref i2)/\(∃p q,IsPair h TO p q)/\h.IsListIter i1 a i/\h.IsListIter i2 b i) where
 mem:=by simp
 obj:=λi h st c hc=>by
  rcases st with⟨q1,q2,⟨_,_,q3⟩,⟨o1,e1,c1,d1⟩,⟨o2,e2,c2,d2⟩⟩;simp only[List.mem_cons,List.not_mem_nil,or_false]at hc;rcases hc with rfl|rfl|rfl|rfl|rfl
  ·exact⟨_,q1,λv y=>by cases y⟩
  ·exact⟨_,q2,λv y=>by cases y⟩
  ·exact⟨_,q3,λv y=>by cases y⟩
  ·exact⟨o1,e1,λv y=>by rw[d1]at y;cases y⟩
  ·exact⟨o2,e2,λv y=>by rw[d2]at y;cases y⟩
 keep:=λi h h' st k=>by rcases st with⟨q1,q2,⟨p,q,q3⟩,l1,l2⟩;exact⟨k z (by simp) _ q1,k TI (by simp) _ q2,⟨p,q,k TO (by simp) _ q3⟩,l1.at λo y=>k i1 (by simp) o y,l2.at λo y=>k i2 (by simp) o y⟩
 item:=by
  intro X hP hw hK hc i ad s σ H E I hf st hg;subst hP hw hK;rcases hg with⟨xs,ys,x,y,hq1,hq2,hx,hy⟩;rcases I.list hq1 with⟨its1,rv1,p1,_⟩;rcases I.list hq2 with⟨its2,rv2,p2,_⟩;obtain⟨u1,hu1,ru1⟩:=rv1.get hx;obtain⟨u2,hu2,ru2⟩:=rv2.get hy;rcases st with⟨q1,q2,⟨p,q,q3⟩,l1,l2⟩;refine wpAny_pyNext_zip_item D q1 q2 q3 l1 l2 p1.isList p2.isList (x:=u1) (y:=u2) (by simpa using hu1) (by simpa using hu2) λh1 z1 t1 m1 m2 tt hsz k1=>?_;refine⟨_,rfl,wpAny_letOwnedTupleGo_zip z1 λh2 z2 sb=>?_⟩
  have k2:∀c o,c∉[z,TI,TO,i1,i2]->s.heap.get? c=some o->h2.get? c=some o:=λc o hc e=>by
   have n1:c≠z:=λy=>hc (by simp[y])
   exact (sb.2 c n1).trans (k1 c o n1 (λy=>hc (by simp[y])) (λy=>hc (by simp[y])) (λy=>hc (by simp[y])) e)
  have hpz:s.heap.objs.size≠z:=di (aY q1);have tt2:IsPair h2 s.heap.objs.size u1 u2:=(sb.2 _ hpz).trans tt;have hn:H s.heap.objs.size=none:=I.hok.fresh (aP _);have q2':IsPair h2 TI (.ref i1) (.ref i2):=(sb.2 TI D.TIz).trans (k1 TI _ D.TIz D.TITO D.TIi1 D.TIi2 q2);refine⟨.ref s.heap.objs.size,AV H s.heap.objs.size (.tup [x,y]),I.turnedNew (h':=h2) (t':=s.toks) hf k2 (aP _) ?_,rfl,⟨_,x,y,rfl,hn,rfl,λys' h=>by rw[I.list_inj h hq1];exact hx,λys' h=>by rw[I.list_inj h hq2];exact hy⟩,⟨z2,q2',⟨u1,u2,(sb.2 TO D.TOz).trans t1⟩,m1.at λo e=>(sb.2 i1 D.i1z).trans e,m2.at λo e=>(sb.2 i2 D.i2z).trans e⟩,λc hc=>?_⟩
  ·exact⟨by show 2<=sizeLine;decide,[u1,u2],.cons ru1 (.cons ru2 .nil),⟨_,tt2,rfl,_,rfl⟩⟩
  ·have c0:=(hf c hc).1;rw[AL λe=>?_]
   ·exact c0
   ·obtain⟨o1,e1,_⟩:=id l1;obtain⟨o2,e2,_⟩:=id l2;have bad:∀{o:Obj},s.heap.get? c=some o->False:=λg=>qG (aY g) (by rw[e];exact bH _)
    simp only[List.mem_cons,List.not_mem_nil,or_false]at hc;rcases hc with y|y|y|y|y
    ·exact bad (y▸q1)
    ·exact bad (y▸q2)
    ·exact bad (y▸q3)
    ·exact bad (y▸e1)
    ·exact bad (y▸e2)
 done:=by
  intro X hP hw hK hc i ad s σ H E I hf st hg;subst hP hw hK;rcases hg with⟨xs,ys,hq1,hq2,hend⟩;rcases I.list hq1 with⟨its1,rv1,p1,_⟩;rcases I.list hq2 with⟨its2,rv2,p2,_⟩;rcases st with⟨q1,q2,⟨p,q,q3⟩,l1,l2⟩;have hl1:=rv1.length;have hl2:=rv2.length;refine wpAny_pyNext_zip_end (I.ok.hd hc) D q1 q2 q3 l1 l2 p1.isList p2.isList (hend.imp (λz=>by simp;lia) λz=>by simp;lia) λh1 k1=>⟨rfl,I.turnedAll (t':=s.toks) hf λc o hc e=>?_⟩
  exact k1 c o (λy=>hc (by simp[y])) (λy=>hc (by simp[y])) (λy=>hc (by simp[y])) (λy=>hc (by simp[y])) e
 self:=λ_ _ _ _ _ st h=>wpAny_pyIter_zip st.1 h
section
variable{ctx}
def YA(K:qV)(ta:TA):TI:=λσ H R=>ta σ H λvs H1=>∃a b xs ys,vs=[.ref a,.ref b]/\Af K H1 a xs/\Af K H1 b ys/\R (X9 K a b) H1
theorem V8{l r:Expr}{p pos:Pos}(hg:Gl X "zip")(hm:X.mg "zip"=none)(ha:PA X [l,r] ta)(hs:starEach [l,r] X.env=[(false,eval l X.env),(false,eval r X.env)]:=by rfl)(hs2:starEach [r] X.env=[(false,eval r X.env)]:=by rfl):PI X (.Tuple elts ctx tpos) (.Call (.Name "zip" p) [l,r] [] pos) (YA X.K ta):=by
 intro ad s σ H R I h;refine Call_ (Co I hg hm boot_zip (bX (BS (ha pos ad s σ H _ I h) λus s1 z8=>?_) (by rw[hs,hs2]) (by rw[hs2];rfl)));rcases z8 with⟨vs,H1,I1,r1,q1⟩;rcases q1 with⟨a,b,xs,ys,e,hq1,hq2,q⟩;subst e;cases r1 with
 |cons ra rr =>
  cases rr with
  |cons rb rr =>
   cases rr;cases ra;cases rb;rcases I1.list hq1 with⟨its1,rv1,p1,_⟩;rcases I1.list hq2 with⟨its2,rv2,p2,_⟩;have alt:a<s1.heap.objs.size:=by obtain⟨o,e,_⟩:=p1.isList;exact aY e
   have blt:b<s1.heap.objs.size:=by obtain⟨o,e,_⟩:=p2.isList;exact aY e
   refine call_zip_2 p1.isList p2.isList λh1 z1 t1 t2 l1 l2 hsz k1=>?_;refine wpAny_pyIter_zip z1 ?_;have fr:∀k:Nat,Cp X ad H1 (s1.heap.objs.size+k):=λk=>I1.fpOk (eh _ _) (I1.hok.fresh (eh _ _))
   refine⟨s1.heap.objs.size+4,[s1.heap.objs.size+4,s1.heap.objs.size+2,s1.heap.objs.size+3,s1.heap.objs.size,s1.heap.objs.size+1],_,_,H1,rfl,I1.kept (t':=s1.toks) k1,Qu a b _ _ _ _ _ (zipApart_new alt blt),⟨z1,t1,⟨_,_,t2⟩,l1,l2⟩,λc hc=>?_,q⟩;simp only[List.mem_cons,List.not_mem_nil,or_false]at hc;rcases hc with rfl|rfl|rfl|rfl|rfl
   ·exact fr 4
   ·exact fr 2
   ·exact fr 3
   ·exact fr 0
   ·exact fr 1
theorem Tp{K:qV}{b:qR}{g:TG}{tb:TS}(hlen:xs.length=ys.length)(Pv:Nat->St->Hp->Prop)(h0:Pv 0 σ H)(hl:∀i σ H,i<=xs.length->Pv i σ H->Af K H a xs/\Af K H b ys)
  (hs:∀i x y p σ H,xs[i]?=some x->ys[i]?=some y->Pv i σ H->H p=none->g (.ref p) σ (AV H p (.tup [x,y])) λσ2 H2=>tb {D with nx:=Pv (i+1),ct:=Pv (i+1),bk:=D.nx} σ2 H2) (hd:∀σ H,Pv xs.length σ H->D.nx σ H):
  ∃W:Nat->Nat->St->Hp->Prop,(∃m,W 0 m σ H)/\∀i m σ H,W i m σ H ->
   ((X9 K a b).stop i H/\D.nx σ H)\/((X9 K a b).go i H/\∃N:St->Hp->Prop,(∀σ' H',N σ' H'->∃m',m'<m/\W (i+1) m' σ' H')/\∀x H',(X9 K a b).yld i H x H'->g x σ H' λσ2 H2=>tb {D with nx:=N,ct:=N,bk:=D.nx} σ2 H2):=by
 refine⟨λi m σ H=>m=xs.length-i/\i<=xs.length/\Pv i σ H,⟨xs.length,by simp,Nat.zero_le _,h0⟩,?_⟩;rintro i m σ H ⟨rfl,hi,p⟩;obtain⟨q1,q2⟩:=hl i σ H hi p
 by_cases hlt:i<xs.length
 ·refine .inr ⟨⟨xs,ys,xs[i],ys[i],q1,q2,by simp[hlt],by simp[hlen▸hlt]⟩,Pv (i+1),λσ' H' p'=>⟨xs.length-(i+1),by lia,rfl,hlt,p'⟩,λv H' y=>?_⟩;rcases y with⟨p2,x,y',e1,e2,e3,y1,y2⟩;subst e1 e3;exact hs i x y' p2 σ H (y1 xs q1) (y2 ys q2) p e2
 ·have e:i=xs.length:=by lia
  subst e;exact .inl ⟨⟨xs,ys,q1,q2,.inl (aP _)⟩,hd σ H p⟩
end
end L2
namespace L2
open PySem PySem.Spec PyProof.Rows RW
variable{G M' m':Nat}{lo' low':Int}{dl tab':qW}
theorem Oz(x:Int->Int)(lo:Int)(m:Nat):CQ x lo (m+1)=CQ x lo m++[x (lo+(m:Int))]:=by unfold CQ;rw[bP,aZ];rfl
theorem Kt{g lo:Int}{m:Nat}(hm:1<=m)(c0:BI g dl (g^(m-1))=true)(c1:BI g dl 1=true):Du g lo dl m lo m:=
 ⟨hm,λj hj _=>by lia,.inr ⟨0,m-1,by lia,by lia,by lia,by lia,by rw[Nat.sub_zero];exact c0,by rw[dU,bO];exact c1⟩⟩
theorem Qv{g:Int}(hg:2<=g){lo:Int}{m:Nat}(hl:(dl.length:Int)=g^m)(hl':(tab'.length:Int)=g^m')(al:CO g lo' tab' m' lo dl m)(n':Du g lo' tab' m' lo' m'){low:Int}{M:Nat}(n:Du g lo dl m low M):low=lo'/\M=m'/\Dn g lo dl m low M=tab':=by obtain⟨e1,e2⟩:=(C2 hg hl' hl n' n).mp al;rw[Qi hg lo' hl']at e2;refine⟨e1.symm,?_,e2.symm⟩;have a:=BN hg lo dl m low M;rw[<-e2,hl']at a;exact (EE hg a).symm
def BE(g lo:Int)(dl:qW)(m:Nat)(lf:Int)(tf:qW)(mf:Nat):Prop:=∃(low:Int) (M:Nat),Du g lo dl m low M/\lf=low/\((M=1/\mf=2/\tf=Dn g low (Dn g lo dl m low 1) 1 low 2)\/(2<=M/\mf=M/\tf=Dn g lo dl m low M))
theorem Qw{g:Int}(hg:2<=g){lo:Int}{m:Nat}(hl:(dl.length:Int)=g^m){low:Int}{M:Nat}(n:Du g lo dl m low M)(n':Du g lo dl m low' M'):low=low'/\M=M':=by
 obtain⟨e1,e2⟩:=(C2 hg hl hl n n').mp λ_ _=>rfl
 refine⟨e1,?_⟩;have a:=BN hg lo dl m low M;rw[e2,BN hg]at a;exact (EE hg a).symm
theorem Hv(g lo:Int)(dl:qW)(m:Nat):∃low M,Du g lo dl m low M:=by
 by_cases hc:BR g lo dl m=[]
 ·exact⟨0,1,Hi hc⟩
 ·obtain⟨M,_,_,hW⟩:=GN hc;exact⟨_,M,hW⟩
theorem MT{g:Int}(hg:2<=g){lo:Int}{m:Nat}(hl:(dl.length:Int)=g^m)(hl':(tab'.length:Int)=g^m')(al:CO g lo' tab' m' lo dl m)(h2:2<=m')(c0:BI g tab' (g^(m'-1))=true)(c1:BI g tab' 1=true):BE g lo dl m lo' tab' m':=by obtain⟨low,M,n⟩:=Hv g lo dl m;obtain⟨rfl,rfl,e⟩:=Qv hg hl hl' al (Kt (by lia) c0 c1) n;exact⟨_,_,n,rfl,.inr ⟨h2,rfl,e.symm⟩⟩
theorem O0{g:Int}(hg:2<=g){lo:Int}{m:Nat}(hl:(dl.length:Int)=g^m)(hl':(tab'.length:Int)=g^1)(al:CO g lo' tab' 1 lo dl m)(c1:BI g tab' 1=true):BE g lo dl m lo' (Dn g lo' tab' 1 lo' 2) 2:=by obtain⟨low,M,n⟩:=Hv g lo dl m;obtain⟨rfl,rfl,e⟩:=Qv hg hl hl' al (Kt (aP _) (by rw[dU,bO];exact c1) c1) n;exact⟨_,_,n,rfl,.inl ⟨rfl,rfl,by rw[e]⟩⟩
theorem MU{g:Int}(hg:2<=g)(hG:(G:Int)=g)(x:Int)(T:qW):Dn g x T 1 x 2=(List.range (G*G)).map λk=>T.getD (k/G) 0:=by
 have g22:g^2=((G*G:Nat):Int):=by rw[show (2:Nat)=0+1+1 from rfl,bA,bA,bO,cI,<-hG,cG]
 have hL:=BN hg x T 1 x 2;refine BM (by rw[aH,bI];lia) λk hk=>?_;have hk2:k<G*G:=by lia
 rw[Az hk2];unfold Dn;rw[Az (by lia)]
 congr 1
 have e:F4 (As g (k:Int) 2) (x-x) 1=[((k/G:Nat):Int)]:=by obtain⟨a,b,hw,ha,hb⟩:∃a b:Int,As g (k:Int) 2=[a,b]/\a=(k:Int)/g%g/\b=(k:Int)%g:=⟨_,_,rfl,rfl,rfl⟩;rw[hw];show[sn [a,b] (x-x+((0:Nat):Int))]=_;rw[show x-x+((0:Nat):Int)=0 by lia];show[a]=_;rw[ha,<-hG,<-cO,<-bM,cC (bj hk2)]
 rw[e,Js,aW]
variable{lf:Int}{tf:qW}{mf:Nat}
theorem BE.two{g lo:Int}{m:Nat}(h:BE g lo dl m lf tf mf):2<=mf:=by
 obtain⟨low,M,_,_,z|z⟩:=h
 ·lia
 ·lia
theorem BE.le{g:Int}(hg:2<=g){lo:Int}{m:Nat}(fw:BE g lo dl m lf tf mf)(hl:(dl.length:Int)=g^m)(hl':(tab'.length:Int)=g^m')(al:CO g lo dl m lo' tab' m'):mf<=max 2 m':=by
 obtain⟨low,M,n,rfl,z⟩:=fw;obtain⟨low',M',n'⟩:=Hv g lo' tab' m';obtain⟨e1,e2⟩:=(C2 hg hl hl' n n').mp al;have a:=BN hg lo dl m lf M;rw[e2,BN hg]at a;have eM:=EE hg a
 have:M'<=max 1 m':=by rcases n'.ends with⟨_,_,y⟩|⟨j0,j1,_,_,_,_,_,_⟩<;>lia
 rcases z with z|z<;>lia
theorem Qx{g:Int}(hg:2<=g)(lo:Int){m:Nat}:∃lf tf mf,BE g lo dl m lf tf mf:=by
 obtain⟨low,M,n⟩:=Hv g lo dl m;have:=n.one
 by_cases z:M=1
 ·subst z;exact⟨_,_,_,low,1,n,rfl,.inl ⟨rfl,rfl,rfl⟩⟩
 ·exact⟨_,_,_,low,M,n,rfl,.inr ⟨by lia,rfl,rfl⟩⟩
end L2
namespace L2
end L2
namespace L2
open PySem PySem.Spec PyProof.Rows RW
variable{M' m' mf:Nat}{lf lo' low':Int}{dl tab' tf:qW}{α β:Type}
theorem Ku{g:Int}(hg:2<=g){lo:Int}{m:Nat}(hl:(dl.length:Int)=g^m)(hl':(tab'.length:Int)=g^m')(al:CO g lo dl m lo' tab' m'){low:Int}{M:Nat}(n:Du g lo dl m low M)(n':Du g lo' tab' m' low' M'):low=low'/\M=M'/\Dn g lo dl m low M=Dn g lo' tab' m' low' M':=by obtain⟨e1,e2⟩:=(C2 hg hl hl' n n').mp al;have a:=BN hg lo dl m low M;rw[e2,BN hg]at a;exact⟨e1,(EE hg a).symm,e2⟩
theorem Kv{g:Int}(hg:2<=g){lo:Int}{m:Nat}(hl:(dl.length:Int)=g^m){low:Int}{M:Nat}(n:Du g lo dl m low M):CO g low (Dn g lo dl m low M) M lo dl m:=λx hx=>E2 hg hl n.all hx
theorem Fq{g:Int}(hg:2<=g){lo:Int}{m:Nat}(al:CO g lo dl m lo' tab' m'){ring:qW}(hb:∀n∈ring,0<=n/\n<g):Dq g lo dl m ring=Dq g lo' tab' m' ring:=by
 unfold Dq;refine bG λi _=>?_;have z:=al (λz=>Ek ring ((i:Int)+z)) λz=>C0 hg hb _
 unfold F5 at z
 have e:∀(l:Int) (k:Nat),CQ (λz=>Ek ring ((i:Int)+z)) l k=Ct ring k ((i:Int)+l):=λl k=>by
  unfold CQ Ct;refine bG λj _=>?_;show Ek ring ((i:Int)+(l+(j:Int)))=_
  congr 1;lia
 rw[e,e]at z;exact z
theorem EG{l:List α}{F G:α->List β}(h:∀a∈l,F a=G a):l.flatMap F=l.flatMap G:=by
 induction l with
 |nil=>rfl
 |cons a r ih=>rw[bg,bg,h a ai,ih λb hb=>h b (aa _ hb)]
theorem MV{g:Int}(hg:2<=g){a b:Nat}{i j:Int}(i0:0<=i)(i1:i<g^a)(j0:0<=j)(j1:j<g^b):As g (i*g^b+j) (a+b)=As g i a++As g j b:=by
 have hb:∀x∈As g i a++As g j b,0<=x/\x<g:=λx hx=>(aR.mp hx).elim (CK hg _ _ x) (CK hg _ _ x)
 have e:=Ds hg hb;rw[Bu,BG,Dr hg i0 i1,Dr hg j0 j1,aU,BG,BG]at e;exact e
theorem MW(A B:Nat):List.range (A*B)=(List.range A).flatMap λi=>(List.range B).map λj=>i*B+j:=by
 induction A with
 |zero=>rw[Nat.zero_mul];rfl
 |succ A ih =>
  rw[Nat.succ_mul,bP,cM,<-ih,List.range_add];simp
noncomputable def Cu(g:Int)(m:Nat):List (qW):=(List.range (g^m).toNat).map λn:Nat=>As g (n:Int) m
theorem MX(g:Int):Cu g 0=[[]]:=by unfold Cu;rw[bO];rfl
theorem Tq{g:Int}(hg:2<=g)(a b:Nat):(g^(a+b)).toNat=(g^a).toNat*(g^b).toNat:=by have pa:=RW.Ah hg a;have pb:=RW.Ah hg b;rw[Int.pow_add,Int.toNat_mul (bL pa) (bL pb)]
theorem JG{g:Int}(hg:2<=g)(a b:Nat):Cu g (a+b)=(Cu g a).flatMap λu=>(Cu g b).map (u++·):=by have pa:=RW.Ah hg a;have pb:=RW.Ah hg b;unfold Cu;rw[Tq hg,MW,List.map_flatMap,fQ];refine EG λi hi=>?_;rw[ce,ce];refine bG λj hj=>?_;have hi':=ak.mp hi;have hj':=ak.mp hj;show As g ((i*(g^b).toNat+j:Nat):Int) (a+b)=As g (i:Int) a++As g (j:Int) b;rw[<-MV hg (by lia) (by lia) (by lia) (by lia),cP,cG,ax (bL pb)]
theorem Qy{g:Int}(hg:2<=g){n:Nat}(h:(n:Int)<g):As g (n:Int) 1=[(n:Int)]:=by show[(n:Int)%g]=_;rw[bZ (by lia) h]
theorem MY{g:Int}(hg:2<=g)(n:Nat):Cu g (n+1)=(List.range g.toNat).flatMap λj:Nat=>(Cu g n).map ((j:Int)::·):=by rw[fb,JG hg];unfold Cu;rw[show g^1=g by rw[bA,bO,cI],fQ];refine EG λj hj=>?_;have hj':=ak.mp hj;rw[Qy hg (by lia)];rfl
noncomputable def Uw(G:Nat)(dl:qW):qW->Nat->List (qW)
 |[],_=>[[]]
 |s::r,h=>(Kn G dl h s).flatMap λf=>(Uw G dl r (f%(dl.length/G))).map (((f%G:Nat):Int)::·)
theorem Kw(l:List Nat):((l.sum:Nat):Int)=(l.map λn:Nat=>(n:Int)).sum:=by
 induction l with
 |nil=>rfl
 |cons a r ih=>rw[List.sum_cons,bv,List.sum_cons,cP,ih]
theorem Nh(G:Nat)(dl:qW):∀(r:qW) (h:Nat),((Uw G dl r h).length:Int)=Eb G dl r h
 |[],_=>rfl
 |s::r,h=>by
  rw[Uw,List.length_flatMap,Kw,ce,<-Qk]
  congr 1
  refine bG λf _=>?_;show (((Uw G dl r (f%(dl.length/G))).map _).length:Int)=_;rw[aH,Nh G dl r]
theorem O1{g:Int}(hg:2<=g){m:Nat}(hl:(dl.length:Int)=g^m)(hm:1<=m){w:qW}(hw:w.length=m-1){x:Int}(hb:∀n∈w++[x],0<=n/\n<g):∃w':qW,w'.length=m-1/\(∀n∈w',0<=n/\n<g)/\((A5 g w).toNat*g.toNat+x.toNat)%(dl.length/g.toNat)=(A5 g w').toNat/\∀r,C1 g dl m (w++x::r)=dl.getD ((A5 g w).toNat*g.toNat+x.toNat) 0::C1 g dl m (w'++r):=by
 have hx:=hb x (by simp)
 obtain⟨y,w',e⟩:∃y w',w++[x]=y::w':=by
  cases w with
  |nil=>exact⟨x,[],rfl⟩
  |cons a t=>exact⟨a,t++[x],rfl⟩
 have e2:∀r,w++x::r=y::(w'++r):=λr=>by rw[<-eW,<-e,a9];rfl
 have hw':w'.length=m-1:=by have:=qP List.length e;rw[aU,bD]at this;simp only[List.length_cons,List.length_nil]at this;lia
 have hbw:∀n∈w,0<=n/\n<g:=λn hn=>hb n (aR.mpr (.inl hn))
 have hbw':∀n∈w',0<=n/\n<g:=λn hn=>hb n (by rw[e];exact aa _ hn)
 have hd:=BC hg hl hm;have b1:=CG hg hbw;have b2:=CG hg hbw';rw[hw']at b2;have nx:A5 g [x]=x:=by show 0*g+x=x;rw[c9,bC]
 refine⟨w',hw',hbw',?_,λr=>?_⟩
 ·have z:A5 g w*g+x=A5 g w'+y*g^(m-1):=by
   have q:=qP (A5 g) e;rw[Bu,show y::w'=[y]++w' from rfl,Bu,hw']at q;have ny:A5 g [y]=y:=by show 0*g+y=y;rw[c9,bC]
   rw[nx,ny]at q;have g1:g^([x]:qW).length=g:=by show g^1=g;rw[bA,bO,cI]
   rw[g1]at q;lia
  apply Int.ofNat.inj;show (((A5 g w).toNat*g.toNat+x.toNat)%(dl.length/g.toNat):Nat)=(((A5 g w').toNat:Nat):Int);rw[bM,cP,cG,hd.1,ax b1.1,ax (by lia),ax hx.1,ax b2.1,z,cx y,dO,bZ b2.1 b2.2]
 ·rw[e2 r,JD (by rw[aU];lia)]
  congr 1
  unfold Kh
  have t1:(List.drop 0 (y::(w'++r))).take m=w++[x]:=by rw[List.drop_zero,<-List.cons_append,<-e,List.take_append_of_le_length (by simp only[List.length_append,List.length_cons,List.length_nil];lia),List.take_of_length_le (by simp only[List.length_append,List.length_cons,List.length_nil];lia)]
  rw[t1,Bu]
  congr 1
  show (A5 g w*g^1+A5 g [x]).toNat=_;rw[nx,bA,bO,cI,Int.toNat_add (Int.mul_nonneg b1.1 (by lia)) hx.1,Int.toNat_mul b1.1 (by lia)]
theorem Kx(p:α->Bool)(F:α->List β)(l:List α):(l.filter p).flatMap F=l.flatMap λa=>if p a then F a else[]:=by
 induction l with
 |nil=>rfl
 |cons a r ih =>
  rw[List.filter_cons,bg];split
  ·rw[bg,ih]
  ·rw[ih];rfl
theorem Gk(p:β->Bool)(F:α->List β)(l:List α):(l.flatMap F).filter p=l.flatMap λa=>(F a).filter p:=by
 induction l with
 |nil=>rfl
 |cons a r ih=>rw[bg,cA,ih,bg]
theorem Ky{g:Int}(hg:2<=g){m:Nat}(hl:(dl.length:Int)=g^m)(hm:1<=m):∀(row w:qW),w.length=m-1->(∀n∈w,0<=n/\n<g)->(Cu g row.length).filter (λc=>decide (C1 g dl m (w++c)=row))=Uw g.toNat dl row (A5 g w).toNat
 |[],w,hw,_=>by show (Cu g 0).filter _=[[]];rw[MX];have:C1 g dl m w=[]:=Hr (by lia);simp[this]
 |s::r,w,hw,hb=>by
  show (Cu g (r.length+1)).filter _=_;rw[MY hg,Gk,Uw];unfold Kn;rw[fQ,Kx];refine EG λj hj=>?_;have hj':=ak.mp hj;refine byG λGq hGq=>?_;obtain⟨w',hw',hbw',hmod,hled⟩:=O1 hg hl hm hw (x:=(j:Int)) (λn hn=>(aR.mp hn).elim (hb n) λz=>by rw[aV.mp z];lia);refine hGq ?_;clear hGq Gq;rw[aW]at hmod hled;have ih:=Ky hg hl hm r w' hw' hbw';rw[List.filter_map];have jm:((A5 g w).toNat*g.toNat+j)%g.toNat=j:=by rw[eQ,cC hj']
  by_cases e:dl.getD ((A5 g w).toNat*g.toNat+j) 0=s
  ·rw[qF (qH e),hmod,jm,<-ih]
   congr 1
   refine List.filter_congr λc _=>?_;show decide (C1 g dl m (w++(j:Int)::c)=s::r)=_;rw[hled,e];simp
  ·rw[qE (by rw[qI e];decide)];have:(Cu g r.length).filter ((λc=>decide (C1 g dl m (w++c)=s::r))∘λx=>(j:Int)::x)=[]:=by rw[List.filter_eq_nil_iff];intro c _;show ¬decide (C1 g dl m (w++(j:Int)::c)=s::r)=true;rw[decide_eq_true_iff,hled];exact λz=>e (List.cons.inj z).1
   rw[this];rfl
noncomputable def Qz(g:Int)(dl:qW)(m:Nat)(row:qW):List (qW):=(List.range (dl.length/g.toNat)).flatMap λh=>(Uw g.toNat dl row h).map (As g (h:Int) (m-1)++·)
theorem O2{g:Int}(hg:2<=g){m:Nat}(hl:(dl.length:Int)=g^m)(hm:1<=m)(row:qW):(Cu g (row.length+m-1)).filter (λw=>decide (C1 g dl m w=row))=Qz g dl m row:=by have hd:=BC hg hl hm;have hp:=RW.Ah hg (m-1);rw[show row.length+m-1=(m-1)+row.length by lia,JG hg,Gk];unfold Qz;show ((List.range (g^(m-1)).toNat).map λn:Nat=>As g (n:Int) (m-1)).flatMap _=_;rw[fQ,show (g^(m-1)).toNat=dl.length/g.toNat by lia];refine EG λh hh=>?_;have hh':=ak.mp hh;rw[List.filter_map];have e:=Ky hg hl hm row (As g (h:Int) (m-1)) (BG _ _ _) (CK hg _ _);rw[Dr hg (by lia) (by lia),aW]at e;rw[<-e];rfl
theorem Tr{g:Int}(dl:qW)(m:Nat)(row:qW):((Qz g dl m row).length:Int)=CY g.toNat dl row:=by
 unfold Qz;rw[List.length_flatMap,Kw,ce];show _=Ai _ _;unfold Ai
 congr 1
 refine bG λh _=>?_;show (((Uw g.toNat dl row h).map _).length:Int)=_;rw[aH,Nh]
theorem Hw(g x:Int)(r:qW):A5 g (x::r)=x*g^r.length+A5 g r:=by
 have e:=Bu g [x] r;have nx:A5 g [x]=x:=by show 0*g+x=x;rw[c9,bC]
 rw[nx]at e;exact e
theorem FQ{g:Int}(hg:2<=g):∀{a b:qW},a.length=b.length->(∀n∈a,0<=n/\n<g)->(∀n∈b,0<=n/\n<g)->A5 g a<A5 g b->HT.Cd a b=true
 |[],[],_,_,_,h=>qG h (Int.lt_irrefl _)
 |[],_::_,e,_,_,_=>by simp at e
 |_::_,[],e,_,_,_=>by simp at e
 |x::a,y::b,e,ha,hb,h=>by
  have e':a.length=b.length:=by simpa using e
  rw[HT.EC];have ba:=CG hg (ns:=a) λn hn=>ha n (aa _ hn)
  have bb:=CG hg (ns:=b) λn hn=>hb n (aa _ hn)
  rw[Hw,Hw,e']at h;rw[e']at ba;split
  ·rename_i exy
   subst exy;exact FQ hg e' (λn hn=>ha n (aa _ hn)) (λn hn=>hb n (aa _ hn)) (by lia)
  ·rename_i nxy
   refine qH ?_
   by_cases z:x<y
   ·exact z
   ·exfalso;have z1:y+1<=x:=by lia
    have z2:=Int.mul_le_mul_of_nonneg_right z1 (bL (RW.Ah hg b.length));rw[Int.add_mul,cI]at z2;lia
noncomputable def S6(G:Nat)(dl:qW)(h:Nat):qW->Nat->Nat->Int
 |[],u,v=>if u=v then 1 else 0
 |s::r,u,v=>Ai G λj=>DN (decide (dl.getD (u*G+j) 0=s)) (S6 G dl h r ((u*G+j)%h) v)
variable{c:qW}
theorem O3{g:Int}(hg:2<=g){n:Nat}:c∈Cu g n↔c.length=n/\∀x∈c,0<=x/\x<g:=by
 unfold Cu;constructor
 ·intro h;obtain⟨k,_,rfl⟩:=ao.mp h;exact⟨BG ..,CK hg _ _⟩
 ·rintro⟨rfl,hb⟩;have nb:=CG hg hb;refine ao.mpr ⟨(A5 g c).toNat,ak.mpr (by lia),?_⟩;rw[show (((A5 g c).toNat:Nat):Int)=A5 g c by lia];exact Ds hg hb
theorem Ts(p:Bool)(n:Nat)(f:Nat->Int):DN p (Ai n f)=Ai n λk=>DN p (f k):=by
 cases p with
 |true=>rfl
 |false =>
  show (0:Int)=Ai n λ_=>0
  rw[BK,fZ]
theorem BE.alike{g:Int}(hg:2<=g){lo:Int}{m:Nat}(hl:(dl.length:Int)=g^m)(fw:BE g lo dl m lf tf mf):CO g lf tf mf lo dl m/\(tf.length:Int)=g^mf:=by
 obtain⟨low,M,n,rfl,⟨rfl,rfl,rfl⟩|⟨h2,rfl,rfl⟩⟩:=fw
 ·refine⟨λx hx=>?_,BN hg ..⟩;rw[Ht hg (BN hg ..) (cB _) (by lia) hx];exact Kv hg hl n x hx
 ·exact⟨Kv hg hl n,BN hg ..⟩
theorem MZ{g:Int}(hg:2<=g){lo:Int}{m:Nat}(hl:(dl.length:Int)=g^m){lo0:Int}{tab0:qW}{m0:Nat}(hl0:(tab0.length:Int)=g^m0)(al:CO g lo dl m lo0 tab0 m0)(fw:BE g lo0 tab0 m0 lf tf mf):BE g lo dl m lf tf mf:=by
 rcases fw with⟨low0,M0,n0,rfl,z⟩;obtain⟨low,M,n⟩:=Hv g lo dl m;obtain⟨rfl,rfl,e⟩:=Ku hg hl hl0 al n n0;refine⟨_,_,n,rfl,?_⟩;rcases z with⟨rfl,rfl,rfl⟩|⟨h2,rfl,rfl⟩
 ·exact .inl ⟨rfl,rfl,by rw[e]⟩
 ·exact .inr ⟨h2,rfl,e.symm⟩
end L2
namespace L2
open PySem PySem.Spec PyProof.Rows
def GP(K:qV)(J:It)(tt:TT)(te:TE)(σf:List (Option V))(D:qR)(Q:VK)(H:Hp):Prop:=∃W:Nat->Nat->List V->Hp->Prop,(∃n,W n 0 [] (AV H D (.lst [])))/\∀n i fh H2,W n i fh H2 ->
 (J.stop i H2/\Q (.ref D) H2)\/(J.go i H2/\∃N:List V->Hp->Prop,(∀l H',N l H'->∃n',n'<n/\W n' (i+1) l H')/\∀v H3,J.yld i H2 v H3->∃(a:qR) (v1 v2:V),v=.ref a/\Aa K H3 a [v1,v2]/\tt (some v1::some v2::σf) H3 λb H4 =>
  if b=true then te (some v1::some v2::σf) H4 λy H5=>H5 D=some (.lst fh)/\fh.length<sizeLine/\N (fh++[y]) (AV H5 D (.lst (fh++[y]))) else N fh H4)
def V9(K:qV)(wi:TI)(fv:List (Nat×Str))(tt:TT)(te:TE):TE:=λσ H Q=>wi σ H λJ H1=>∀D,H1 D=none->GP K J tt te (Cz σ fv) D Q H1
end L2
namespace PySem
section
variable{prog:qT}{w:qU}{A:Around}{s:qS}{R:Result->qS->Prop}
theorem compLoop_own{elt tg iter:Expr}{ifs:List Expr}{scope:Scope}{pos:Pos}{it fh:qQ}{env:Env}(I:Nat->qS->Prop)
  (turn:∀n s,I n s->wpAny (model prog w) A (pyNext it) (λr s1=>match r with
   |none=>R (.ok .next) s1
   |some v=>wpAny (model prog w) A (letOwnedTupleGo tg it v) (λ_ s1b=>wpAny (model prog w) A (assign tg env v) (λ_ s2 =>
     wpAny (model prog w) A (forIn ifs true λc r=>if r=true then do let ok <-isTrue c env (eval c env);pure (ForInStep.yield ok) else pure (ForInStep.yield r)) (λok s3 =>
      if ok=true then wpAny (model prog w) A (eval elt env) (λx s4 =>
       wpAny (model prog w) A (call (.builtin "list.append") [fh,x]) (λ_ s5=>∃m,m<n/\I m s5) (notedBy (model prog w) A env λe s'=>R (.error e) s') s4) (notedBy (model prog w) A env λe s'=>R (.error e) s') s3
      else ∃m,m<n/\I m s3) (notedBy (model prog w) A env λe s'=>R (.error e) s') s2) (notedBy (model prog w) A env λe s'=>R (.error e) s') s1b) (notedBy (model prog w) A env λe s'=>R (.error e) s') s1) (notedBy (model prog w) A env λe s'=>R (.error e) s') s)
  (n:Nat) (h:I n s):codeAny (model prog w) A (.compLoop (.ListComp elt [⟨tg,iter,ifs,0⟩] scope pos) 0 it fh env) R s:=by
 refine codeAny_loop rfl I (λn s hI=>?_) n h;show wpAny _ A ((compTurn (.ListComp elt [⟨tg,iter,ifs,0⟩] scope pos) 0 it fh env).onRaise (λx=>do noteFrame x env;theTreesLotGoes x)) _ _ s;refine wpAny_noted ?_;rw[compTurn_list];refine qC (wpAny_standAt (qC (qM (turn n s hI) (λr s1 h1=>?_) λ_ _ h'=>h')));cases r with
 |none=>exact qD h1
 |some v =>
  refine qC (qM h1 (λ_ s1b h1b=>?_) λ_ _ h'=>h');refine qC (qM h1b (λ_ s2 h2=>qC (qM h2 (λok s3 h3=>?_) λ_ _ h'=>h')) λ_ _ h'=>h');cases ok with
  |false=>exact qD ⟨rfl,h3⟩
  |true =>
   exact qC (qC (qM h3 (λx s4 h4=>qC (qM h4 (λ_ s5 h5=>qD (qD ⟨rfl,h5⟩)) λ_ _ h'=>h')) λ_ _ h'=>h'))
end
end PySem
namespace L2
open PySem PySem.Spec PyProof.Rows
variable{C:qR}{E:qQ->qS->Prop}{T:String}{X:Cx}{es:List Expr}{h1:Heap}{name:Str}{to:TE}
section
variable{X:Cx}{x x2:Str}{px px2 pt pos:Pos}{kt:Nat}{elt iter:Expr}{ifs:List Expr}{scope:Scope}{cl:List (Str×qR)}{fv:List (Nat×Str)}{wi:TI}{tt:TT}{te:TE}
 {ad:List (qR×Obj)} {σ:St} {H2:Hp} {s2:qS} {fp:List qR} {it:qR} {tn:Nat->Heap->Prop} {J:It}
theorem Tt{D:qR}{t1:Nat}(I2:AW X ad σ H2 s2)(f2:∀b∈fp,Cp X ad H2 b)(o2:∀b∈fp,∃o,s2.heap.get? b=some o/\∀v,o.data≠.cell v)(hD:s2.heap.objs.size<=D)(hC:s2.heap.objs.size<=C)(hDC:D≠C)
  (old:∀b o,s2.heap.get? b=some o->h1.get? b=some o) (hl:h1.PlainList D #[]) (hn:h1.Ns C (λ_=>none)) (hk:scope.kind=.function) (hcl:Gu X.env cl)
  (hhas:((relabel scope X.env).names.all λz=>!(z.2==.cell||z.2==.free)||(cl.lookup z.1).isSome)=true) (hfv:HV X scope cl fv):
  AW (EV X s2 H2 (compEnvC scope cl C X.env) fp (x::x2::fv.map (·.2))) [] (none::none::Cz σ fv) (AV H2 D (.lst [])) {s2 with heap:=h1,toks:=t1} where
 ok:=QY I2 f2 o2 hC hk hcl hhas
 os:=rfl
 bare:=I2.bare
 base:=Un.laid old hD (I2.hok.fresh hD)
 loc:=by
  refine⟨_,hn,λi y v h1' h2' _=>?_⟩;cases i with
  |zero=>cases h2'
  |succ i =>
   cases i with
   |zero=>cases h2'
   |succ i =>
   have h1':(fv.map (·.2))[i]?=some y:=h1';have h2':(Cz σ fv)[i]?=some (some v):=h2'
   obtain⟨q,hq,e1⟩:∃q,fv[i]?=some q/\q.2=y:=by rw[aQ]at h1';exact aq.mp h1'
   subst e1;rcases hfv.at' q (ae hq) with⟨g1,g2,g3,g4⟩;unfold Cz at h2';rw[aQ,hq]at h2';have e2:(σ[q.1]?).join=some v:=Option.some.inj h2'
   have e3:σ[q.1]?=some (some v):=by
    cases z:σ[q.1]? with
    |none=>rw[z]at e2;cases e2
    |some w=>rw[z]at e2;exact qP some e2
   obtain⟨m,_,lk⟩:=I2.loc;have g2:=QW g2;obtain⟨u,ru,lu⟩:=lk q.1 q.2 v g1 e3 (.inr g2);refine⟨u,ru,.inr ⟨g2.imp (λz=>g3.trans z) (λz=>g3.trans z),?_⟩⟩;obtain⟨c,hc⟩:=dg.mp g4;refine⟨c,hc,?_⟩;rcases lu with⟨kk,_⟩|⟨_,c',e',⟨o,eo,d⟩⟩
   ·rcases g2 with z|z<;>(rw[show X.env.kindOf q.2=_ from z]at kk;cases kk)
   ·have e4:=hcl.at' hc;rw[e']at e4;cases e4;exact⟨o,old c o eo,d⟩
 cell:=λy c h=>by rcases I2.cell y c (hcl.at' h) with⟨v,o,eo,d⟩;exact⟨v,o,old c o eo,d⟩
 free:=by show AV H2 D _ C=none;rw[AL (Ne.symm hDC)];exact I2.hok.fresh hC
 freeC:=λy c h=>by rcases I2.cell y c (hcl.at' h) with⟨v,o,eo,d⟩;rw[AL (bF (ag (aY eo) hD))];exact I2.freeC y c (hcl.at' h)
 pin:=λp hp=>nomatch hp
 hok:=I2.hok.laid old hD (by obtain⟨n,e⟩:=hl;exact⟨Nat.zero_le _,[],n,.nil,by simpa using e⟩)
 len:=by simp[Cz,EV]
theorem Q0{RR:qQ->qR->Result->qS->Prop}{Q:VK}(hc:X.calm=true)(I2:AW X ad σ H2 s2)(T:HK X.prog X.w X.K (.Tuple [.Name x px,.Name x2 px2] kt pt) J fp it tn)(st2:tn 0 s2.heap)(f2:∀b∈fp,Cp X ad H2 b)
  (hcell:∀y∈scope.names,y.2≠.cell) (hk:scope.kind=.function) (hx:scope.names.lookup x=some .local) (hx2:scope.names.lookup x2=some .local) (hcl:Gu X.env cl) (hhas:((relabel scope X.env).names.all λz=>!(z.2==.cell||z.2==.free)||(cl.lookup z.1).isSome)=true) (hfv:HV X scope cl fv) (hnd:(x::x2::fv.map (·.2)).Nodup)
  (hf:∀s H C fp,PF (EV X s H (compEnvC scope cl C X.env) fp (x::x2::fv.map (·.2))) ifs tt) (he:∀s H C fp,PE (EV X s H (compEnvC scope cl C X.env) fp (x::x2::fv.map (·.2))) elt te)
  (hw:∀D,H2 D=none->GP X.K J tt te (Cz σ fv) D Q H2)
  (hRR:∀D C σ' H' s',s2.heap.objs.size<=C->AW (EV X s2 H2 (compEnvC scope cl C X.env) fp (x::x2::fv.map (·.2))) [] σ' H' s'->Q (.ref D) H'->RR (.ref D) C (.ok .next) s'):
  wpAny (model X.prog X.w) X.A (newList []) (λfh s3=>wpAny (model X.prog X.w) X.A (newFunctionEnv scope X.env.globals cl [] X.env.qual none .none (some X.env)) (λcenv s4 =>
   codeAny (model X.prog X.w) X.A (.compStart (.ListComp elt [⟨.Tuple [.Name x px,.Name x2 px2] kt pt,iter,ifs,0⟩] scope pos) 0 (.ref it) fh {cenv with scope:=relabel scope X.env}) (RR fh cenv.locals) s4) E s3) E s2:=by
 refine wpAny_newObj_type (wpAny_newFunctionEnv hcell (by intro y hy;simp at hy) (λh1 hns hsb=>?_) hk);dsimp only at hns hsb⊢;generalize hH:s2.heap.push {cls:=.type "list",dict:=none,data:=.seq ([]:List qQ).toArray}=HH at hns hsb⊢;have eC:HH.objs.size=s2.heap.objs.size+1:=by rw[<-hH,cV]
 have hDC:s2.heap.objs.size≠HH.objs.size:=by rw[eC];exact bF (d6 _)
 have hC:s2.heap.objs.size<=HH.objs.size:=by rw[eC];exact dW _
 have old:∀b o,s2.heap.get? b=some o->h1.get? b=some o:=λb o e=>hsb.extBut b o (by rw[eC];exact bF (cp (aY e))) (aO _ (hH▸aO _ e))
 have hacc:h1.PlainList s2.heap.objs.size #[]:=⟨_,hsb.extBut _ _ hDC (aO _ (hH▸af _ rfl))⟩;have o2:=T.obj _ _ st2;rcases hw s2.heap.objs.size (I2.hok.fresh (aP _)) with⟨W,⟨n0,w0⟩,turn⟩;generalize eD:s2.heap.objs.size=D at *;generalize eCC:HH.objs.size=C at *;have Ib:=Tt (x:=x) (x2:=x2) (t1:=s2.toks+([]:List (Str×qQ)).length) I2 f2 o2 (by rw[eD];exact aP _) (by rw[eD];exact hC) hDC old hacc hns hk hcl hhas hfv;have st1:tn 0 h1:=T.keep _ _ _ st2 λb _ o e=>old b o e
 have nD:∀b∈fp,b≠D:=λb hb=>by obtain⟨o,e,_⟩:=o2 b hb;rw[<-eD];exact bF (aY e)
 have fr1:∀b∈fp,AV H2 D (.lst []) b=none:=λb hb=>by rw[AL (nD b hb)];exact (f2 b hb).1
 have hxl:(relabel scope X.env).names.lookup x=some .local:=lookup_relabel_local hx;have hxl2:(relabel scope X.env).names.lookup x2=some .local:=lookup_relabel_local hx2
 have stat:∀{H':Hp},(∀b∈fp,H' b=none)->∀b∈fp,Cp (EV X s2 H2 (compEnvC scope cl C X.env) fp (x::x2::fv.map (·.2))) [] H' b:=λhn b hb=>by obtain⟨o,e,_⟩:=o2 b hb;exact⟨hn b hb,λz=>qG (aY e) (by rw[z,eD];exact Nat.not_lt.mpr hC),λz=>(aw.mp (I2.stkSub b z)).elim (f2 b hb).2.1 (f2 b hb).2.2.1,.inl hb,λy c h=>(f2 b hb).2.2.2.2.1 y c (hcl.at' h),λq hq=>nomatch hq⟩
 have loop:codeAny (model X.prog X.w) X.A (.compLoop (.ListComp elt [⟨.Tuple [.Name x px,.Name x2 px2] kt pt,iter,ifs,0⟩] scope pos) 0 (.ref it) (.ref D) (compEnvC scope cl C X.env)) (RR (.ref D) C) {s2 with heap:=h1,toks:=s2.toks+([]:List (Str×qQ)).length}:=by
  refine compLoop_own (λn s'=>∃i fh σb H',AW (EV X s2 H2 (compEnvC scope cl C X.env) fp (x::x2::fv.map (·.2))) [] σb H' s'/\σb.tail.tail=Cz σ fv/\tn i s'.heap/\(∀b∈fp,H' b=none)/\W n i fh H') ?_ n0 ⟨0,[],_,_,Ib,rfl,st1,fr1,w0⟩;intro n s3 hRq;rcases hRq with⟨i,fh,σ3,H3,I3,t3,st3,fr3,w3⟩;rcases turn n i fh H3 w3 with⟨stop,qn⟩|⟨go,NN,hNN,step⟩
  ·refine BS (T.done (EV X s2 H2 (compEnvC scope cl C X.env) fp (x::x2::fv.map (·.2))) rfl rfl rfl hc i [] s3 σ3 H3 _ I3 (stat fr3) st3 stop) λr s4 q4=>?_;obtain⟨hr,I4⟩:=q4;subst hr;exact hRR D C σ3 H3 s4 hC I4 qn
  ·refine BS (T.item (EV X s2 H2 (compEnvC scope cl C X.env) fp (x::x2::fv.map (·.2))) rfl rfl rfl hc i [] s3 σ3 H3 _ I3 (stat fr3) st3 go) λr s4 q4=>?_;obtain⟨u,hr,h4⟩:=q4;subst hr;refine BS h4 λ_ s5 q5=>?_;rcases q5 with⟨v,H5,I5,r5,y5,st5,fr5⟩;have I5':=I5.pinned (stat fr5) (T.obj _ _ st5);have again:∀{σ7:St} {H7:Hp} {s7:qS},AW (EV X s2 H2 (compEnvC scope cl C X.env) fp (x::x2::fv.map (·.2))) ([]++F9 fp s5.heap) σ7 H7 s7->tn (i+1) s7.heap/\∀b∈fp,H7 b=none:=λ{σ7 H7 s7} I7=>by refine⟨T.keep _ _ _ st5 λb hb o e=>(I7.pin (b,o) (aj _ (aj _ (Cf hb e)))).1,λb hb=>?_⟩;obtain⟨o,e,d⟩:=T.obj _ _ st5 b hb;exact (I7.pin (b,o) (aj _ (aj _ (Cf hb e)))).2.1
   rcases step v _ y5 with⟨a5,v1,v2,rfl,hq5,step5⟩
   have sσ:(σ3.set 0 (some v1)).set 1 (some v2)=some v1::some v2::Cz σ fv:=by
    have l3:=I3.len;rcases σ3 with _|⟨a,_|⟨b,r⟩⟩
    ·cases l3
    ·cases l3
    ·have z:r=Cz σ fv:=t3;rw[z];rfl
   have hnd2:=bu.mp hnd;have g1:=Gz (X:=EV X s2 H2 (compEnvC scope cl C X.env) fp (x::x2::fv.map (λq:Nat×Str=>q.2))) (pos:=px) (i:=0) (x:=x) hnd rfl (.inl hxl) (.inr hxl);have g2:=Gz (X:=EV X s2 H2 (compEnvC scope cl C X.env) fp (x::x2::fv.map (λq:Nat×Str=>q.2))) (pos:=px2) (i:=1) (x:=x2) hnd rfl (.inl hxl2) (.inr hxl2);have g:=Px (X:=EV X s2 H2 (compEnvC scope cl C X.env) fp (x::x2::fv.map (λq:Nat×Str=>q.2))) (pos:=pt) (k:=kt) hc (BH g1 (BH g2 Cy));refine wpAny_noRaise (BS (g _ s5 σ3 H5 (.ref a5) u (λσ' H'=>σ'=some v1::some v2::Cz σ fv/\H'=H5) I5' r5 ⟨a5,[v1,v2],rfl,hq5,rfl,v1,[v2],rfl,v2,[],rfl,rfl,sσ,rfl⟩) λ_ s6 q6=>?_);rcases q6 with⟨σ6,H6,I6,rfl,rfl⟩;refine wpAny_noRaise (BS (hf _ _ _ _ _ s6 _ _ _ I6 step5) λb s7 q7=>?_);obtain⟨H7,I7,q7⟩:=q7;cases b with
   |false =>
    rw[qE (by decide)]at q7⊢;obtain⟨n',hn',w7⟩:=hNN _ _ q7;exact⟨n',hn',i+1,fh,_,H7,I7.unpinned,rfl,(again I7).1,(again I7).2,w7⟩
   |true =>
    rw[qF rfl]at q7⊢;refine wpAny_noRaise (BS (he _ _ _ _ _ s7 _ _ _ I7 q7) λyv s8 q8=>?_);rcases q8 with⟨y,H8,I8,r8,e8,l8,q8⟩;obtain⟨n',hn',w8⟩:=hNN _ _ q8;refine wpAny_noRaise (BS (GG (X:=EV X s2 H2 (compEnvC scope cl C X.env) fp (x::x2::fv.map (·.2))) _ s8 _ H8 (.ref D) [y] (.ref D) [yv] (λ_ H'=>H'=AV H8 D (.lst (fh++[y]))) I8 rfl (.cons r8 .nil) ⟨D,fh,y,rfl,rfl,e8,l8,rfl⟩) λ_ s9 q9=>?_);rcases q9 with⟨_,H9,I9,_,rfl⟩;exact⟨n',hn',i+1,fh++[y],_,_,I9.unpinned,rfl,(again I9).1,(again I9).2,w8⟩
 exact codeAny_compStart_list loop (T.self X.A 0 _ _ _ st1 loop)
theorem Q3(hc:X.calm=true)(hi:PI X (.Tuple [.Name x px,.Name x2 px2] kt pt) iter wi)(hclos:closureFor scope X.env=pure cl)(hcell:∀y∈scope.names,y.2≠.cell)(hk:scope.kind=.function)(hnames:∀z∈scope.names,z.2=.local->scope.names.lookup z.1=some .local)
  (hx:scope.names.lookup x=some .local) (hx2:scope.names.lookup x2=some .local) (hcl:Gu X.env cl) (hhas:((relabel scope X.env).names.all λz=>!(z.2==.cell||z.2==.free)||(cl.lookup z.1).isSome)=true) (hfv:HV X scope cl fv) (hnd:(x::x2::fv.map (·.2)).Nodup)
  (hf:∀s H C fp,PF (EV X s H (compEnvC scope cl C X.env) fp (x::x2::fv.map (·.2))) ifs tt) (he:∀s H C fp,PE (EV X s H (compEnvC scope cl C X.env) fp (x::x2::fv.map (·.2))) elt te)
  (hs:∀x,foldedSetIterable iter X.env x=pure x:=by intro _;rfl):PE X (.ListComp elt [⟨.Tuple [.Name x px,.Name x2 px2] kt pt,iter,ifs,0⟩] scope pos) (V9 X.K wi fv tt te):=by
 intro ad s σ H Q I h;rw[eval_ListComp];refine wpAny_comprehension_free (use:=none) rfl hs hclos hk hnames (BS (hi ad s σ H _ I h) λv s1 h1=>BS h1 λitv s2 h2=>?_);rcases h2 with⟨it,fp,tn,J,H2,e,I2,T,st2,f2,hw⟩;subst e;refine Q0 (RR:=λfh C=>compPost (model X.prog X.w) X.A X.xe none (EP X ad σ Q) fh C) hc I2 T st2 f2 hcell hk hx hx2 hcl hhas hfv hnd hf he hw λD C σ' H' s' hC Ib q=>?_;obtain⟨m,hn,_⟩:=Ib.loc;exact⟨m,hn,λh' sb=>⟨.ref D,H',AW.letGo I2 (Ha I2 f2 Ib) hC Ib.free sb,rfl,q⟩⟩
end
theorem WA{K:qV}{id:String}{r:V->List V->Hp->VK->Prop}{o e:Expr}{t:TA}{apos cpos:Pos}(hK:X.K=K)(pa:PlainAttrs T)(slot:Slot T name id)(hty:typeOf (.builtin id)=pure (.type "method_descriptor"))(hm:TQ X id r)(ho:PE X o to)(ha:PA X (e::es) t)
  (hbase:attributeBase o name X.env (eval o X.env)=eval o X.env:=by rfl)
  (hfew:((backTo cpos (starEach (e::es) X.env)).all (λx=>!x.1)&&(backToKw cpos (keywordEach [] X.env)).all (λx=>x.1.isSome)&&decide ((e::es).length+([]:List Keyword).length+(if ([]:List Keyword).isEmpty then 0 else 1)<30))=true:=by rfl)
  (hline:(apos.endLine==cpos.line)=true:=by rfl) (hs:starEach (e::es) X.env=(false,eval e X.env)::starEach es X.env:=by rfl) (hplain:(backTo cpos (starEach es X.env)).any (·.1)=false:=by rfl):
  PE X (.Call (.Attribute o name apos) (e::es) [] cpos) (ZC K T r to t):=by
 subst hK;exact KT pa slot hty hm ho ha hbase hfew hline hs hplain
end L2
namespace PySem
section
variable{prog:qT}{w:qU}{A:Around}{E:qQ->qS->Prop}{s:qS}{it d:qR}{i ep:Nat}{od:Obj}{es:Array DictEntry}
theorem keys_item{Q:Option qQ->qS->Prop}(hit:s.heap.IsKeyIter it d i es.size ep)(hod:s.heap.get? d=some od)(hdd:od.data=.dict es ep)(hlt:i<es.size)
  (hQ:∀h',h'.IsKeyIter it d (i+1) es.size ep->Heap.SameBut it s.heap h'->Q (some es[i].key) {s with heap:=h'}):wpAny (model prog w) A (pyNext (.ref it)) Q E s:=by
 obtain⟨o,ho,hc,hd⟩:=id hit;have T:=hit.typeIs;unfold pyNext;refine qC (wpAny_attempt (wpAny_callSpecial?_slot (name:=Str.ofString "__next__") T F.slot_dict_keyiterator_next (wpAny_call_entry F.slot_dict_keyiterator_next T F.entry_dict_keyiterator_next ?_ (F.args_dict_keyiterator_next_1 _))));refine qC (qD (qC (qC ?_)));refine qC (wpAny_typeNameOfWhole_keyiter T (qD (qC (wpAny_fieldsOf ho hd ?_))));rw[show (if Builtin.Dict_items.ownsTuple "dict_keyiterator"=true then 2 else 0)=0 from qE (by decide)];show wpAny _ _ (if (Value.ref d==.none)=true then _ else _) _ _ s;rw[qE (show ¬((Value.ref d==.none)=true) from ap)];refine qC (qD (qC (wpAny_dictEntries hod hdd ?_)));rw[qE (by simp)];refine qC (qD (qC (wpAny_dictEpoch hod hdd ?_)));rw[qE (by simp)];refine qD ?_;simp only[show ¬((i:Int)<0) by lia,if_false,Int.toNat_natCast,Array.getElem?_eq_getElem hlt];refine qC (qC (wpAny_typeNameOfWhole_keyiter T (qD (qC (wpAny_isOneOf_keyiter T ?_)))));show wpAny _ _ (setField (.ref it) 1 (rawInt ((i:Int)+1)) >>= _) _ _ s;have hit':(s.heap.update it (Obj.mapFields (·.setIfInBounds 1 (rawInt ((i:Int)+1))))).IsKeyIter it d (i+1) es.size ep:=⟨_,Heap.get?_update_self _ ho (Obj.isFreed_of_fields (Obj.data_mapFields hd _)),(Obj.cls_mapFields ..).trans hc,by rw[Obj.data_mapFields hd];simp[rawInt]⟩;refine qC (wpAny_setField ho hd (by simp) (qC (qO (qC (wpAny_isOneOf_keyiter (s:={s with heap:=s.heap.update it (Obj.mapFields (·.setIfInBounds 1 (rawInt ((i:Int)+1))))}) hit'.typeIs ?_)))));show wpAny _ _ (pure es[i].key) _ _ _;exact qD (qD ⟨_,rfl,qD (hQ _ hit' (Heap.SameBut.update ..))⟩)
theorem keys_end{Q:Option qQ->qS->Prop}(hh:A.handled=none)(hit:s.heap.IsKeyIter it d i es.size ep)(hod:s.heap.get? d=some od)(hdd:od.data=.dict es ep)(hge:es.size<=i)
  (hQ:∀h',Heap.ExtBut it s.heap h'->Q none {s with heap:=h'}):wpAny (model prog w) A (pyNext (.ref it)) Q E s:=by
 obtain⟨o,ho,hc,hd⟩:=id hit;have T:=hit.typeIs;unfold pyNext;refine qC (wpAny_attempt (wpAny_callSpecial?_slot (name:=Str.ofString "__next__") T F.slot_dict_keyiterator_next (wpAny_call_entry F.slot_dict_keyiterator_next T F.entry_dict_keyiterator_next ?_ (F.args_dict_keyiterator_next_1 _))));refine qC (qD (qC (qC ?_)));refine qC (wpAny_typeNameOfWhole_keyiter T (qD (qC (wpAny_fieldsOf ho hd ?_))));rw[show (if Builtin.Dict_items.ownsTuple "dict_keyiterator"=true then 2 else 0)=0 from qE (by decide)];show wpAny _ _ (if (Value.ref d==.none)=true then _ else _) _ _ s;rw[qE (show ¬((Value.ref d==.none)=true) from ap)];refine qC (qD (qC (wpAny_dictEntries hod hdd ?_)));rw[qE (by simp)];refine qC (qD (qC (wpAny_dictEpoch hod hdd ?_)));rw[qE (by simp)];refine qD ?_;simp only[show ¬((i:Int)<0) by lia,if_false,Int.toNat_natCast,Array.getElem?_eq_none hge];refine qC (qC (wpAny_typeNameOfWhole_keyiter T (qD ?_)));show wpAny _ _ (setField (.ref it) 0 .none >>= _) _ _ s;refine qC (wpAny_setField ho hd (by simp) ?_);show wpAny _ _ (newExc (.type "StopIteration") [] >>= _) _ _ _;refine qC ?_;simp only[newExc,newTuple];refine qC (wpAny_newObj_type (qC (m:=firstArgMember _ _) (wpAny_of_eq (a:=Value.none) (by first|rfl|(simp only[firstArgMember];rfl)) (wpAny_newObj_type ?_ (by size_fits)))) (by size_fits));unfold raiseNew;refine qC (wpAny_handled ?_);rw[show A.in1.handled=none from hh];refine qC (qD (wpAny_throw ?_));exact qC (wpAny_isInstance (T:="StopIteration") (b:=true) ⟨_,af _ rfl,rfl⟩ isSubtype_stop (qD (hQ _ (((Heap.SameBut.update ..).extBut.push _).push _))))
theorem keys_iter{Q:qQ->qS->Prop}(hm:(d==sysModules)=false)(hT:s.TypeIs (.ref d) "dict")(hod:s.heap.get? d=some od)(hdd:od.data=.dict es ep)
  (hQ:Q (.ref s.heap.objs.size) {s with heap:=s.heap.push {cls:=.type "dict_keyiterator",data:=.fields #[.ref d,.int 0 0,.int es.size 0,.int ep 0]}}):wpAny (model prog w) A (pyIter (.ref d)) Q E s:=by
 refine wpAny_pyIter_slot hT F.slot_dict_iter (wpAny_call_entry F.slot_dict_iter hT F.entry_dict_iter ?_ (F.args_dict_iter_1 _));unfold Builtin.«dict.__iter__»;refine qC ?_;unfold Builtin.Dict.dictSlotNone;refine qC (wpAny_notOrdered_dict hT ?_);show wpAny _ _ (pure (Value.ref d)) _ _ s;refine qD ?_;show wpAny _ _ (Builtin.Dict.showsAll d >>= _) _ _ s;unfold Builtin.Dict.showsAll;rw[qE (by rw[hm];exact ap)];refine qC (qD (qC (wpAny_dictEntries hod hdd (qC (wpAny_dictEpoch hod hdd ?_)))));exact qC (wpAny_newObj_type (qD ⟨_,rfl,"dict_keyiterator",_,⟨_,Heap.get?_push_size _ rfl,rfl⟩,F.slot_dict_keyiterator_next.lookup,by simpa [rawInt] using hQ⟩))
end
end PySem
namespace L2
open PySem PySem.Spec PyProof.Rows
variable{E Q:qQ->qS->Prop}{H H':Hp}{X:Cx}{a:qR}{h' h1:Heap}{ad:List (qR×Obj)}{t':Nat}{tg:Expr}{u:qQ}{xs:List V}{α β:Type}{σ:St}
theorem Ar{F:α->β->Prop}:∀{l₁:List α} {l₂:List β} {i:Nat} {x:α},Paired F l₁ l₂->l₁[i]?=some x->∃y,l₂[i]?=some y/\F x y
 |_,_,_,_,.nil,e=>by simp at e
 |_,_,0,_,.cons r _,e=>by simp at e;subst e;exact⟨_,rfl,r⟩
 |_,_,i+1,x,.cons _ t,e=>by obtain⟨u,h1,h2⟩:=Ar (i:=i) (x:=x) t (by simpa using e);exact⟨u,by simpa using h1,h2⟩
theorem AW.freeze{s:qS}{d:qR}{u:HO}(I:AW X ad σ H s)(e:H d=some u)(nt:∀ys,u≠.tup ys)(nf:∀o v,u≠.frz o v)(nb:∀ps,u≠.tbl ps)(no:∀x,u≠.own x){o:Obj}(ho:s.heap.get? d=some o):AW X ad σ (AV H d (.frz o u)) s:=
 have up:∀{b:qR} {v:HO},H b=some v->v≠u->AV H d (.frz o u) b=some v:=λ{b v} z n=>by rw[AL λy=>n (by rw[y,e]at z;exact (Option.some.inj z).symm)];exact z
 have un:∀{b:qR},H b=none->AV H d (.frz o u) b=none:=λ{b} z=>by rw[AL λy=>by rw[y,e]at z;cases z];exact z
 {I with
  base:=⟨I.base.keep,I.base.slot,λb ob q n hx=>un (I.base.free b ob q n hx),I.base.there,λb xs q=>up (I.base.tups b xs q) λz=>nt _ z.symm,λb ob v q=>up (I.base.frzs b ob v q) λz=>nf _ _ z.symm,λb ps q=>by obtain⟨m,z⟩:=I.base.tbls b ps q;exact⟨m,up z λy=>nb _ y.symm⟩⟩
  free:=un I.free
  freeC:=λx c q=>un (I.freeC x c q)
  pin:=λp hp=>⟨(I.pin p hp).1,un (I.pin p hp).2.1,(I.pin p hp).2.2⟩
  hok:=λb v q=>by
   have st:∀{b:qR} {v:HO},H b=some v->Ap X.prog X.w (AV H d (.frz o u)) s.heap b v:=λ{b v} q=>(I.hok b v q).stay (λ_ _ _ z=>z) (λc z=>up z λy=>no _ y.symm) λc xs z=>up z λy=>nt _ y.symm
   by_cases hb:b=d
   ·subst hb;rw[AE]at q;cases q;exact⟨ho,st e⟩
   ·rw[AL hb]at q;exact st q}
theorem WB{d:qR}{u:HO}(e:H d=some u):AV H d u=H:=funext λb=>by
 by_cases z:b=d
 ·subst z;rw[AE,e]
 ·rw[AL z]
abbrev Ni:=List Bf×qR×V
noncomputable def Gw(p:Ni):List Bf×V:=(p.1,p.2.2)
def FR(p:Ni)(q:List Bf×qR×qQ):Prop:=p.1=q.1/\p.2.1=q.2.1/\A8 p.2.2 q.2.2
def S7(P:qT)(w:qU)(d:qR)(bs:List Ni)(h:Heap):Prop:=bs.length<=sizeLine/\(d==sysModules)=false/\∃xs:List (List Bf×qR×qQ),Paired FR bs xs /\
 ∃o es ep,h.get? d=some o/\o.ExactDict/\o.data=.dict es ep/\es.toList=xs.map (entryOfKey (tupleKind (A7 P w)))/\(xs.map (·.1)).Nodup
noncomputable def Q4(P:qT)(w:qU)(d:qR)(bs:List Ni):HO:=.ext (S7 P w d bs)
def Q5(K:qV)(H:Hp)(bs:List Ni):Prop:=∀p∈bs,Aa K H p.2.1 (p.1.map kV)
def DW(P:qT)(w:qU)(K:qV)(H:Hp)(d:qR)(kvs:List (List Bf×V)):Prop:=∃bs,H d=some (Q4 P w d bs)/\bs.map Gw=kvs/\Q5 K H bs
def DR(P:qT)(w:qU)(K:qV)(H:Hp)(d:qR)(u:HO)(kvs:List (List Bf×V)):Prop:=∃bs,H d=some u/\(u=Q4 P w d bs\/∃o,u=.frz o (Q4 P w d bs))/\bs.map Gw=kvs/\Q5 K H bs
section
variable{P:qT}{w:qU}{K:qV}{h:Heap}{d:qR}{u:HO}{kvs:List (List Bf×V)}
theorem Aa.same'(e:AG H H')(q:Aa K H a xs):Aa K H' a xs:=q.imp (λz=>z.imp (e _ _) λ⟨o,z⟩=>⟨o,e _ _ z⟩) id
theorem DR.same(e:AG H H')(r:DR P w K H d u kvs):DR P w K H' d u kvs:=by obtain⟨bs,h1,h2,h3,h4⟩:=r;exact⟨bs,e _ _ h1,h2,h3,λp hp=>(h4 p hp).same' e⟩
theorem DW.same(e:AG H H')(r:DW P w K H d kvs):DW P w K H' d kvs:=by obtain⟨bs,h1,h3,h4⟩:=r;exact⟨bs,e _ _ h1,h3,λp hp=>(h4 p hp).same' e⟩
theorem DW.r(r:DW P w K H d kvs):∃u,DR P w K H d u kvs:=by obtain⟨bs,h1,h3,h4⟩:=r;exact⟨_,bs,h1,.inl rfl,h3,h4⟩
theorem FR.val{bs:List Ni}{xs:List (List Bf×qR×qQ)}(r:Paired FR bs xs)(k:List Bf):Ig (Bj (bs.map Gw) k) ((atKey xs k).map (·.2)):=by
 induction r with
 |nil=>exact True.intro
 | @cons p q ps qs hh t ih =>
  obtain⟨h1,_,h2⟩:=hh
  by_cases e:p.1=k
  ·have e':q.1=k:=h1.symm.trans e;have b:atKey (q::qs) k=some q.2:=by simp[atKey,List.find?_cons,e']
   rw[bv,Dx (show (Gw p).1=k from e),b];exact h2
  ·have e':¬q.1=k:=λz=>e (h1.trans z)
   have b:atKey (q::qs) k=atKey qs k:=by simp[atKey,List.find?_cons,e']
   rw[bv,Cj (show ¬(Gw p).1=k from e),b];exact ih
end
section
variable{s:qS}{d b:qR}{u:HO}{kvs:List (List Bf×V)}{k:List Bf}
theorem Dc(I:AW X ad σ H s)(q:Aa X.K H b (k.map kV)):(tupleKind (A7 X.prog X.w)).is s.heap k b:=by obtain⟨its,rv,p,hz⟩:=I.tuple q;obtain⟨o,h1,h2,n,h3⟩:=p;exact⟨o,its.toArray,n,h1,h2,h3,by simpa using JF rv⟩
theorem DR.at(I:AW X ad σ H s)(r:DR X.prog X.w X.K H d u kvs):∃bs xs,bs.map Gw=kvs/\Q5 X.K H bs/\Paired FR bs xs/\bs.length<=sizeLine/\(d==sysModules)=false/\s.heap.DictOfH (tupleKind (A7 X.prog X.w)) d xs:=by
 rcases r with⟨bs,h1,h2,h3,h4⟩
 have ok:S7 X.prog X.w d bs s.heap:=by
  rcases h2 with e|⟨o,e⟩
  ·subst e;exact (show Ap X.prog X.w H s.heap d (.ext _) from I.hok d _ h1).1
  ·subst e;exact (show Ap X.prog X.w H s.heap d (.ext _) from (show Ap X.prog X.w H s.heap d (.frz o _) from I.hok d _ h1).2).1
 rcases ok with⟨z,hd,xs,rel,o,es,ep,e1,e2,e3,e4,e5⟩;refine⟨bs,xs,h3,h4,rel,z,hd,o,es,ep,e1,e2,e3,e4,λx hx=>?_,e5⟩;obtain⟨i,hi⟩:=ay.mp hx;have hl:=Paired.length rel;have hi':=(aN.mp hi).1;rcases Ar rel (i:=i) (x:=bs[i]) (by simp[show i<bs.length by lia]) with⟨y,hy,r1,r2,_⟩;rw[hi]at hy;cases hy;rw[<-r1,<-r2];exact Dc I (h4 _ (bS _))
variable{A:Around}{v:V}
theorem O4(hu:A.units+1<cLine)(I:AW X ad σ H s)(r:DR X.prog X.w X.K H d u kvs)(q:Aa X.K H b (k.map kV))(l:Bj kvs k=some v)(h:∀w' s',AW X ad σ H s'->A8 v w'->Q w' s'):
  wpAny (model X.prog X.w) A (getItem (.ref d) (.ref b)) Q E s:=by
 obtain⟨bs,xs,h3,h4,rel,z,hd,dd⟩:=r.at I;obtain⟨w',hw,rw'⟩:=Ig.some_of (v:=v) (o:=(atKey xs k).map (·.2)) (by rw[<-l,<-h3];exact FR.val rel k);obtain⟨p,hp,hp2⟩:=aq.mp hw;refine wpAny_getItem_heap (tupleKind_room_in1 hu) (Dc I q) dd hp ?_;rw[hp2];exact h w' _ (I.tok _) rw'
theorem ZW(hu:A.units+1<cLine)(I:AW X ad σ H s)(r:DR X.prog X.w X.K H d u kvs)(q:Aa X.K H b (k.map kV))(h:∀s',AW X ad σ H s'->Q (.bool (Bj kvs k).isSome) s'):
  wpAny (model X.prog X.w) A (compareOp .In (.ref b) (.ref d)) Q E s:=by
 rcases r.at I with⟨bs,xs,h3,h4,rel,z,hd,dd⟩;refine wpAny_in_heap (tupleKind_room_in1 hu) (Dc I q) hd dd ?_;have q:=(FR.val rel k).isSome_eq;rw[Option.isSome_map,h3]at q;rw[<-q];exact h _ (I.tok _)
theorem Tu(hu:A.units+1<cLine)(I:AW X ad σ H s)(r:DR X.prog X.w X.K H d u kvs)(q:Aa X.K H b (k.map kV))(h:∀s',AW X ad σ H s'->Q (.bool (!(Bj kvs k).isSome)) s'):
  wpAny (model X.prog X.w) A (compareOp .NotIn (.ref b) (.ref d)) Q E s:=by
 obtain⟨bs,xs,h3,h4,rel,z,hd,dd⟩:=r.at I;refine wpAny_notIn_heap (tupleKind_room_in1 hu) (Dc I q) hd dd ?_;have q:=(FR.val rel k).isSome_eq;rw[Option.isSome_map,h3]at q;rw[<-q];exact h _ (I.tok _)
end
noncomputable def Kz(bs:List Ni)(k:List Bf)(b:qR)(v:V):List Ni:=if (bs.any λp=>decide (p.1=k))=true then bs.map (λp=>if p.1=k then (p.1,p.2.1,v) else p) else bs++[(k,b,v)]
theorem Nj(bs:List Ni)(k:List Bf)(b:qR)(v:V):(Kz bs k b v).map Gw=DE (bs.map Gw) k v:=by
 unfold Kz DE;have e:((bs.map Gw).any λkv=>decide (kv.1=k))=bs.any λp=>decide (p.1=k):=by rw[List.any_map];rfl
 rw[e]
 by_cases z:(bs.any λp=>decide (p.1=k))=true
 ·rw[qF z,qF z,ce,ce];refine bG λp _=>?_;show Gw (if p.1=k then (p.1,p.2.1,v) else p)=if (Gw p).1=k then ((Gw p).1,v) else Gw p
  by_cases y:p.1=k
  ·rw[qF y,qF (show (Gw p).1=k from y)];rfl
  ·rw[qE y,qE (show ¬(Gw p).1=k from y)]
 ·rw[qE z,qE z,aZ];rfl
theorem FR.put{bs:List Ni}{xs:List (List Bf×qR×qQ)}(r:Paired FR bs xs)(k:List Bf)(b:qR){y:V}(ry:A8 y u):Paired FR (Kz bs k b y) (storedH xs k b u):=by
 have e:(bs.any λp=>decide (p.1=k))=(atKey xs k).isSome:=by have q:=(FR.val r k).isSome_eq;rw[Option.isSome_map]at q;rw[<-q,<-Hu,List.any_map];rfl
 unfold Kz storedH;rw[e]
 by_cases q:(atKey xs k).isSome=true
 ·rw[qF q,qF q];clear e q
  induction r with
  |nil=>exact .nil
  | @cons p q ps qs hh t ih =>
   rw[bv,bv];refine .cons ?_ ih;obtain⟨h1,h2,h3⟩:=hh;unfold putAt
   by_cases e:p.1=k
   ·rw[qF e,qF (h1.symm.trans e)];exact⟨h1,h2,ry⟩
   ·rw[qE e,qE (λz=>e (h1.trans z))];exact⟨h1,h2,h3⟩
 ·rw[qE q,qE q];exact Paired.snoc r ⟨rfl,rfl,ry⟩
theorem Q6{bs:List Ni}{k:List Bf}{b:qR}{v:V}{p:Ni}(h:p∈Kz bs k b v):(∃q∈bs,p.1=q.1/\p.2.1=q.2.1)\/(p.1=k/\p.2.1=b):=by
 unfold Kz at h
 split at h
 ·obtain⟨q,hq,e⟩:=ao.mp h;refine .inl ⟨q,hq,?_⟩
  by_cases z:q.1=k
  ·rw[qF z]at e;subst e;exact⟨rfl,rfl⟩
  ·rw[qE z]at e;subst e;exact⟨rfl,rfl⟩
 ·rcases aR.mp h with z|z
  ·exact .inl ⟨p,z,rfl,rfl⟩
  ·rw[aV.mp z];exact .inr ⟨rfl,rfl⟩
theorem S7.stay{P:qT}{w:qU}{d:qR}{bs:List Ni}{h2:Heap}(x:S7 P w d bs h1)(k:∀o,h1.get? d=some o->h2.get? d=some o):S7 P w d bs h2:=by rcases x with⟨z,hd,xs,rel,o,es,ep,e1,e2⟩;exact⟨z,hd,xs,rel,o,es,ep,k _ e1,e2⟩
theorem Aa.upd'{K:qV}{d:qR}{φ:Heap->Prop}{u:HO}(hd:H d=some (.ext φ))(q:Aa K H a xs):Aa K (AV H d u) a xs:=by
 rcases q with (z|⟨o,z⟩)|z
 ·exact .inl (.inl (by rw[AL (Cc z hd λy=>nomatch y)];exact z))
 ·exact .inl (.inr ⟨o,by rw[AL (Cc z hd λy=>nomatch y)];exact z⟩)
 ·exact .inr z
section
variable{s:qS}{d b:qR}{kvs:List (List Bf×V)}{k:List Bf}{A:Around}{v:V}{r:qQ}
theorem DW.put(I:AW X ad σ H s){bs:List Ni}{xs:List (List Bf×qR×qQ)}(h1:H d=some (Q4 X.prog X.w d bs))(h4:Q5 X.K H bs)(rel:Paired FR bs xs)(hd:(d==sysModules)=false)(q:Aa X.K H b (k.map kV))(hz:(bs.map Gw).length<sizeLine)(rv:A8 v r)
  (dd':h'.DictOfH (tupleKind (A7 X.prog X.w)) d (storedH xs k b r)) (sb:Heap.SameBut d s.heap h'):∃u',DW X.prog X.w X.K (AV H d u') d (DE (bs.map Gw) k v)/\AW X ad σ (AV H d u') {s with heap:=h',toks:=t'}:=by
 have hl:(Kz bs k b v).length<=sizeLine:=by have a:=Gj (bs.map Gw) k v;rw[<-Nj bs k b v,aH]at a;lia
 rcases dd' with⟨o,es,ep,g1,g2,g3,g4,_,g5⟩;refine⟨Q4 X.prog X.w d (Kz bs k b v),⟨_,AE,Nj ..,λp hp=>?_⟩,Nf I (by rw[h1];exact True.intro) sb ⟨o,g1⟩ ⟨⟨hl,hd,_,FR.put rel k b rv,o,es,ep,g1,g2,g3,g4,g5⟩,⟨o,g1⟩,λh1 h2 x k=>S7.stay x k⟩⟩;rcases Q6 hp with⟨p',hp',e1,e2⟩|⟨e1,e2⟩
 ·rw[e1,e2];exact (h4 p' hp').upd' h1
 ·rw[e1,e2];exact q.upd' h1
theorem DW.at(I:AW X ad σ H s)(w:DW X.prog X.w X.K H d kvs):∃bs xs,H d=some (Q4 X.prog X.w d bs)/\bs.map Gw=kvs/\Q5 X.K H bs/\Paired FR bs xs/\xs.length<=sizeLine/\(d==sysModules)=false/\s.heap.DictOfH (tupleKind (A7 X.prog X.w)) d xs:=by rcases w with⟨bs,h1,h3,h4⟩;rcases (show Ap X.prog X.w H s.heap d (.ext _) from I.hok d _ h1).1 with⟨z,hd,xs,rel,o,es,ep,e1,e2,e3,e4,e5⟩;refine⟨bs,xs,h1,h3,h4,rel,by rw[<-Paired.length rel];exact z,hd,o,es,ep,e1,e2,e3,e4,λx hx=>?_,e5⟩;obtain⟨i,hi⟩:=ay.mp hx;have hl:=Paired.length rel;have hi':=(aN.mp hi).1;rcases Ar rel (i:=i) (x:=bs[i]) (by simp[show i<bs.length by lia]) with⟨y,hy,r1,r2,_⟩;rw[hi]at hy;cases hy;rw[<-r1,<-r2];exact Dc I (h4 _ (bS _))
theorem O5{Q:Unit->qS->Prop}(hu:A.units+1<cLine)(I:AW X ad σ H s)(w:DW X.prog X.w X.K H d kvs)(q:Aa X.K H b (k.map kV))(hz:kvs.length<sizeLine)(rv:A8 v r)(h:∀u' s',DW X.prog X.w X.K (AV H d u') d (DE kvs k v)->AW X ad σ (AV H d u') s'->Q () s'):
  wpAny (model X.prog X.w) A (setItem (.ref d) (.ref b) r) Q E s:=by
 rcases w.at I with⟨bs,xs,h1,h3,h4,rel,hl,hd,dd⟩;subst h3;refine wpAny_setItem_heap (hsz:=hl) (tupleKind_room_in1 hu) (Dc I q) dd λh' dd' sb=>?_;obtain⟨u',w',I'⟩:=DW.put (t':=s.toks+(tupleKind (A7 X.prog X.w)).draws k) I h1 h4 rel hd q hz rv dd' sb;exact h u' _ w' I'
end
end L2
namespace PySem
section
variable{prog:qT}{w:qU}{A:Around}{E:qQ->qS->Prop}{s:qS}{d:qR}{o:Obj}{es:Array DictEntry}{ep:Nat}
theorem meets_lenR(hd:(d==sysModules)=false):MeetsIn prog w (Builtin.«dict.__len__» ⟨[.ref d],[]⟩) (λ_ R s=>∃o es ep,s.heap.get? d=some o/\o.data=.dict es ep/\R (.ok (.ret (.int es.size s.toks))) {s with toks:=s.toks+1}):=
 .of_wp λA R s ⟨o,es,ep,ho,hdat,h⟩=>by show wpAny _ _ (dictSize d >>= _) _ _ s;unfold dictSize;refine qC (qC (wpAny_dictEntries ho hdat (qD ?_)));show wpAny _ _ (Builtin.Dict.pendingCount d >>= _) _ _ s;refine qC (wpAny_pendingCount_other hd (wpAny_ret_mkInt ?_));rw[dj];exact h
theorem len_dictR{Q:qQ->qS->Prop}(hd:(d==sysModules)=false)(hT:s.TypeIs (.ref d) "dict")(ho:s.heap.get? d=some o)(hdat:o.data=.dict es ep)(hfit:(es.size:Int)<2^63)
  (h:Q (.int es.size (s.toks+1)) {s with toks:=s.toks+1+1}):wpAny (model prog w) A (call (.builtin "len") [.ref d]) Q E s:=by
 refine Calls.call_function_entry kind_len plain_len entry_len (args_len1 _) ?_;unfold Builtin.«len»
 refine qC (m:=oneArg "len" _) (qD (qC (m:=callSpecial? (.ref d) (Str.ofString "__len__")) (wpAny_callSpecial?_slot (name:=Str.ofString "__len__") hT F.slot_dict_len
  (call_meetsIn F.slot_dict_len hT F.entry_dict_len (F.args_dict_len_1 _) (meets_lenR hd) ⟨o,es,ep,ho,hdat,?_⟩))))
 show wpAny _ _ _ _ _ {s with toks:=s.toks+1};refine qC (qO (qD (qC (wpAny_letGo ?_))));show wpAny _ _ (if ((es.size:Nat):Int)<0 then _ else _) _ _ _;rw[qE (by lia)];show wpAny _ _ (if ((es.size:Nat):Int)≥2^63 then _ else _) _ _ _;rw[qE (by lia)];exact qC (wpAny_mkInt (qD ⟨_,rfl,h⟩))
end
end PySem
namespace L2
open PySem PySem.Spec PyProof.Rows
variable{D:Fc}{H:Hp}{X:Cx}{a it:qR}{es:List Expr}{name:Str}{pos:Pos}{te tl to:TE}{tg:Expr}{tt:TT}{σ:St}{σf:List (Option V)}
section
variable(P:qT)(w:qU)(K:qV)
def Ux(td ty:TE):TE:=λσ H Q=>td σ H λx H1=>ty σ H1 λy H2=>∃(d b:qR) (u:HO) (kvs:List (List Bf×V)) (k:List Bf) (v:V),x=.ref d/\y=.ref b/\DR P w K H2 d u kvs/\Aa K H2 b (k.map kV)/\Bj kvs k=some v/\Q v H2
def YB(ty td:TE):TE:=λσ H Q=>ty σ H λy H1=>td σ H1 λx H2=>∃(d b:qR) (u:HO) (kvs:List (List Bf×V)) (k:List Bf),x=.ref d/\y=.ref b/\DR P w K H2 d u kvs/\Aa K H2 b (k.map kV)/\Q (.bl (Bj kvs k).isSome) H2
def Nk(ty td:TE):TE:=λσ H Q=>ty σ H λy H1=>td σ H1 λx H2=>∃(d b:qR) (u:HO) (kvs:List (List Bf×V)) (k:List Bf),x=.ref d/\y=.ref b/\DR P w K H2 d u kvs/\Aa K H2 b (k.map kV)/\Q (.bl (!(Bj kvs k).isSome)) H2
def Uy(td ty tv:TE):TS:=λD σ H=>tv σ H λv H1=>td σ H1 λx H2=>ty σ H2 λy H3=>∃(d b:qR) (kvs:List (List Bf×V)) (k:List Bf),x=.ref d/\y=.ref b/\DW P w K H3 d kvs/\Aa K H3 b (k.map kV)/\kvs.length<sizeLine/\∀u',DW P w K (AV H3 d u') d (DE kvs k v)->D.nx σ (AV H3 d u')
def Uz:TE:=λ_ H Q=>∀p u',H p=none->DW P w K (AV H p u') p []->Q (.ref p) (AV H p u')
noncomputable def Xe(d:qR)(u:HO)(kvs:List (List Bf×V)):It:=
 ⟨λi H=>DR P w K H d u kvs/\i<kvs.length,λi H x H'=>H'=H/\∃(b:qR) (k:List Bf) (v:V),x=.ref b/\kvs[i]?=some (k,v)/\Aa K H b (k.map kV),λi H=>DR P w K H d u kvs/\kvs.length<=i⟩
def Q7(tl:TE):TI:=λσ H R=>tl σ H λx H1=>∃(d:qR) (u:HO) (kvs:List (List Bf×V)),x=.ref d/\DR P w K H1 d u kvs/\∀u',DR P w K (AV H1 d u') d u' kvs->R (Xe P w K d u' kvs) (AV H1 d u')
end
section
variable{o i value:Expr}{pos':Pos}{td ty tv:TE}
theorem Tv(hu:X.A.units+1<cLine)(ho:PE X o td)(hi:PE X i ty)(hs:V6 i):PE X (.Subscript o i pos) (Ux X.prog X.w X.K td ty):=by intro ad s σ H Q I h;refine Tn PySem.F.slot_dict_getitem.lookup hs (BS (ho ad s σ H _ I h) λu s1 z=>?_);rcases z with⟨x,H1,I1,rx,q1⟩;refine BS (hi ad s1 σ H1 _ I1 q1) λiv s2 z=>?_;rcases z with⟨y,H2,I2,ry,d,b,uu,kvs,k,v,ex,ey,r,q,l,q2⟩;subst ex ey;cases rx;cases ry;rcases r.at I2 with⟨bs,xs,_,_,_,_,_,dd⟩;exact⟨dd.typeIs,O4 hu I2 r q l λw' s3 I3 rw'=>⟨v,H2,I3,rw',q2⟩⟩
theorem WC(hu:X.A.units+1<cLine)(hi:PE X i ty)(ho:PE X o td):PC X .In i o (YB X.prog X.w X.K ty td):=by intro ad s σ H Q I h;refine BS (hi ad s σ H _ I h) λiv s1 z=>?_;obtain⟨y,H1,I1,ry,q1⟩:=z;refine BS (ho ad s1 σ H1 _ I1 q1) λu s2 z=>?_;obtain⟨x,H2,I2,rx,d,b,uu,kvs,k,ex,ey,r,q,q2⟩:=z;subst ex ey;cases rx;cases ry;exact ZW hu I2 r q λs3 I3=>⟨.bl (Bj kvs k).isSome,H2,I3,rfl,q2⟩
theorem O6(hu:X.A.units+1<cLine)(hi:PE X i ty)(ho:PE X o td):PC X .NotIn i o (Nk X.prog X.w X.K ty td):=by intro ad s σ H Q I h;refine BS (hi ad s σ H _ I h) λiv s1 z=>?_;obtain⟨y,H1,I1,ry,q1⟩:=z;refine BS (ho ad s1 σ H1 _ I1 q1) λu s2 z=>?_;obtain⟨x,H2,I2,rx,d,b,uu,kvs,k,ex,ey,r,q,q2⟩:=z;subst ex ey;cases rx;cases ry;exact Tu hu I2 r q λs3 I3=>⟨.bl (!(Bj kvs k).isSome),H2,I3,rfl,q2⟩
theorem Tw(hu:X.A.units+1<cLine)(ho:PE X o td)(hi:PE X i ty)(hv:PE X value tv)(hs:swapsWith value (some (.Subscript o i pos')) pos.line X.env=pure false):
  PS X (.Assign [.Subscript o i pos'] value pos) (Uy X.prog X.w X.K td ty tv):=by
 intro ad s σ H D I h;refine wpAny_Assign_Subscript (BS (hv ad s σ H _ I h) λr s1 z=>?_) hs;obtain⟨v,H1,I1,rv,q1⟩:=z;refine BS (ho ad s1 σ H1 _ I1 q1) λu s2 z=>?_;obtain⟨x,H2,I2,rx,q2⟩:=z;refine BS (hi ad s2 σ H2 _ I2 q2) λiv s3 z=>?_;obtain⟨y,H3,I3,ry,d,b,kvs,k,ex,ey,g,q,l,q3⟩:=z;subst ex ey;cases rx;cases ry;exact O5 hu I3 g q l rv λu' s4 w4 I4=>⟨σ,_,I4,q3 u' w4⟩
theorem Tx:PE X (.Dict [] [] pos) (Uz X.prog X.w X.K):=λad s σ H Q I h =>
 wpAny_Dict_empty ⟨.ref s.heap.objs.size,_,I.laid (a:=s.heap.objs.size) (o:=Q4 X.prog X.w s.heap.objs.size []) (t':=s.toks) (λ_ _ q=>aO _ q) (aP _)
  ⟨⟨az _,beq_eq_false_iff_ne.mpr (Ne.symm (bF I.big)),[],.nil,_,#[],0,af _ rfl,⟨rfl,rfl,rfl⟩,rfl,rfl,cQ⟩,⟨_,af _ rfl⟩,λh1 h2 x k=>S7.stay x k⟩,rfl,
  h _ _ (I.hok.fresh (aP _)) ⟨[],AE,rfl,λp hp=>nomatch hp⟩⟩
theorem O7:CT X (.builtin "len") (λxs H Q=>∃(d:qR) (u:HO) (kvs:List (List Bf×V)),xs=[V.ref d]/\DR X.prog X.w X.K H d u kvs/\Q (.int kvs.length) H):=by
 intro ad s σ H xs us Q I r h;rcases h with⟨d,u,kvs,rfl,ha,q⟩;obtain⟨uu,rfl,ru⟩:=FH r;cases ru;rcases ha.at I with⟨bs,ys,h3,_,rel,z,hd,dd⟩;have hT:s.TypeIs (.ref d) "dict":=dd.typeIs;rcases dd with⟨ob,es,ep,g1,g2,g3,g4,_⟩
 have hz:es.size=kvs.length:=by have a:=qP List.length g4;have b:=Paired.length rel;rw[<-h3];simp at a;simp;lia
 have l1:bs.length=kvs.length:=by rw[<-h3,aH]
 refine len_dictR hd hT g1 g3 (by rw[sizeLine_eq]at z;lia) ⟨.int kvs.length,H,I.tok _,⟨_,by rw[hz]⟩,q⟩
theorem Ma(hu:X.A.units+1<cLine):TQ X "dict.setdefault" (λx xs H Q=>∃(d b:qR) (kvs:List (List Bf×V)) (k:List Bf) (y:V),x=.ref d/\xs=[.ref b,y]/\DW X.prog X.w X.K H d kvs/\Aa X.K H b (k.map kV)/\kvs.length<sizeLine /\
  (∀z,Bj kvs k=some z->Q z H)/\(Bj kvs k=none->∀u',DW X.prog X.w X.K (AV H d u') d (DE kvs k y)->Q y (AV H d u'))):=by
 intro ad s σ H x xs v us Q I rx rs h;rcases h with⟨d,b,kvs,k,y,rfl,rfl,e,eb,hz,h1,h2⟩;rcases KP rs with⟨u1,u2,rfl,r1,r2⟩;cases rx;cases r1;rcases e.at I with⟨bs,es,g1,g3,g4,rel,hl,hd,dd⟩;subst g3;have rk:=FR.val rel k;refine call_meetsIn cJ dd.typeIs PySem.F.entry_dict_setdefault (PySem.F.args_dict_setdefault_3 _ _ _) (meetsH_setDef (tupleKind (A7 X.prog X.w)) d b hd u2) ⟨tupleKind_room_in1 hu,k,es,Dc I eb,dd,hl,λp hp=>?_,λhn hp dd' sb=>?_⟩
 ·rw[hp]at rk;cases hv:Bj (bs.map Gw) k with
  |none=>rw[hv]at rk;exact (show False from rk).elim
  |some t =>
   rw[hv]at rk;exact⟨t,H,I.tok _,rk,h1 t hv⟩
 ·have hv:Bj (bs.map Gw) k=none:=by
   cases hv:Bj (bs.map Gw) k with
   |none=>rfl
   |some t=>rw[hv,hn]at rk;exact (show False from rk).elim
  obtain⟨u',w',I'⟩:=DW.put (t':=s.toks+(tupleKind (A7 X.prog X.w)).draws k) I g1 g4 rel hd eb hz r2 dd' sb;exact⟨y,_,I',r2,h2 hv u' w'⟩
theorem Mb{P:qT}{w:qU}{K:qV}{d:qR}{ob:Obj}{φ:Heap->Prop}{kvs:List (List Bf×V)}{es:Array DictEntry}{ep:Nat}(ho:ob.data=.dict es ep)(hl:es.size=kvs.length):HK P w K tg (Xe P w K d (.frz ob (.ext φ)) kvs) [it] it (λi h=>h.IsKeyIter it d i es.size ep) where
 mem:=by simp
 obj:=λi h st b hb=>by
  have e:b=it:=by simpa using hb
  subst e;rcases st with⟨o,e,c,d⟩;exact⟨o,e,λv z=>by rw[d]at z;cases z⟩
 keep:=λi h h' st k=>st.at λo e=>k it (by simp) o e
 item:=by
  rintro X hP hw hK hc i ad s σ H E I hf st ⟨hg,hi⟩;subst hP hw hK;rcases hf it (by simp) with⟨f0,f1,f2,f3,f4,f5⟩;rcases hg with⟨bs,h1,h2,h3,h4⟩;obtain⟨g0,g1,_⟩:=(show Ap X.prog X.w H s.heap d (.frz ob (.ext φ)) from I.hok d _ h1)
  have dx:S7 X.prog X.w d bs s.heap:=by
   rcases h2 with e|⟨o',e⟩
   ·cases e
   ·cases e;exact g1
  rcases dx with⟨_,_,xs,rel,o2,es2,ep2,e2,_,d2,rows,_⟩;rw[g0]at e2;cases e2;rw[ho]at d2;cases d2;have hie:i<es.size:=by lia
  have hib:i<bs.length:=by rw[<-h3,aH]at hi;exact hi
  rcases Ar rel (i:=i) (x:=bs[i]) (by simp[hib]) with⟨q,hq,r1,r2,r3⟩
  have he:es[i].key=.ref bs[i].2.1:=by
   have z:es.toList[i]?=some es[i]:=by simp[hie]
   rw[rows,aQ,hq]at z;rw[r2];exact (qP DictEntry.key (Option.some.inj z)).symm
  refine keys_item st g0 ho hie λh' st' sb=>?_;have I1:AW X ad σ H {s with heap:=h'}:=I.turned (t':=s.toks) (λb o hb e=>(sb.2 b hb).trans e) f0 f1 f3 f4 f5;rcases id st' with⟨oo,e,c,dd⟩;exact⟨_,rfl,KN (s:={s with heap:=h'}) e c dd (by decide) ⟨.ref bs[i].2.1,H,I1,by rw[he];rfl,⟨rfl,bs[i].2.1,bs[i].1,bs[i].2.2,rfl,by rw[<-h3,List.getElem?_map];simp[hib,Gw],h4 _ (List.getElem_mem _)⟩,st',λb hb=>(hf b hb).1⟩⟩
 done:=by rintro X hP hw hK hc i ad s σ H E I hf st ⟨hg,hi⟩;subst hP hw hK;rcases hf it (by simp) with⟨f0,f1,f2,f3,f4,f5⟩;obtain⟨bs,h1,_⟩:=hg;obtain⟨g0,g1⟩:=(show Ap X.prog X.w H s.heap d (.frz ob (.ext φ)) from I.hok d _ h1);exact keys_end (I.ok.hd hc) st g0 ho (by lia) λh' eb=>⟨rfl,I.turned (t':=s.toks) (λb o hb e=>eb b o hb e) f0 f1 f3 f4 f5⟩
 self:=λ_ _ _ _ _ st h=>wpAny_pyIter_keyiter st h
theorem Q8{l:Expr}(hl:PE X l tl):PI X tg l (Q7 X.prog X.w X.K tl):=by
 intro ad s σ H R I h;refine BS (hl ad s σ H _ I h) λv s1 z9=>?_;obtain⟨x,H1,I1,r1,q1⟩:=z9;rcases q1 with⟨d,u,kvs,e,hq,q⟩;subst e;cases r1;rcases hq with⟨bs,h1,h2,h3,h4⟩
 have dx:S7 X.prog X.w d bs s1.heap:=by
  rcases h2 with e|⟨o,e⟩
  ·subst e;exact (show Ap X.prog X.w H1 s1.heap d (.ext _) from I1.hok d _ h1).1
  ·subst e;exact (show Ap X.prog X.w H1 s1.heap d (.ext _) from (show Ap X.prog X.w H1 s1.heap d (.frz o _) from I1.hok d _ h1).2).1
 rcases dx with⟨z,hm,xs,rel,o,es,ep,ho,hx,hd,rows,nd⟩
 have I2:AW X ad σ (AV H1 d (.frz o (Q4 X.prog X.w d bs))) s1:=by
  rcases h2 with e|⟨o',e⟩
  ·subst e;exact I1.freeze h1 (λ_ z=>nomatch z) (λ_ _ z=>nomatch z) (λ_ z=>nomatch z) (λ_ z=>nomatch z) ho
  ·subst e;obtain⟨g0,_⟩:=(show Ap X.prog X.w H1 s1.heap d (.frz o' _) from I1.hok d _ h1);rw[ho]at g0;cases g0;rw[WB h1];exact I1
 have hsz:es.size=kvs.length:=by have a:=qP List.length rows;have b:=Paired.length rel;rw[<-h3];simp at a;simp;lia
 have dr:DR X.prog X.w X.K (AV H1 d (.frz o (Q4 X.prog X.w d bs))) d (.frz o (Q4 X.prog X.w d bs)) kvs:=⟨bs,AE,.inr ⟨o,rfl⟩,h3,λp hp=>by
  have k:=h4 p hp;rcases h2 with e|⟨o',e⟩
  ·subst e;exact k.upd' h1
  ·subst e;rcases k with (z|⟨o2,z⟩)|z
   ·exact .inl (.inl (by rw[AL (Cc z h1 λy=>nomatch y)];exact z))
   ·exact .inl (.inr ⟨o2,by rw[AL (Cc z h1 λy=>by cases y)];exact z⟩)
   ·exact .inr z⟩
 refine keys_iter hm ⟨o,ho,hx.1⟩ ho hd ⟨s1.heap.objs.size,[s1.heap.objs.size],_,_,_,rfl,I2.kept (t':=s1.toks) λb o e=>aO _ e,Mb hd hsz,⟨_,af _ rfl,rfl,rfl⟩,λb hb=>?_,q _ dr⟩;have e:b=s1.heap.objs.size:=by simpa using hb
 subst e;exact I2.fpOk (aP _) (I2.hok.fresh (aP _))
theorem O8{P:qT}{w:qU}{K:qV}{d:qR}{u:HO}{kvs:List (List Bf×V)}{g:TG}{tb:TS}(Pv:Nat->St->Hp->Prop)(h0:Pv 0 σ H)(hl:∀i σ H,i<=kvs.length->Pv i σ H->DR P w K H d u kvs)
  (hs:∀i b k v σ H,kvs[i]?=some (k,v)->Aa K H b (k.map kV)->Pv i σ H->g (.ref b) σ H λσ2 H2=>tb {D with nx:=Pv (i+1),ct:=Pv (i+1),bk:=D.nx} σ2 H2) (hd:∀σ H,Pv kvs.length σ H->D.nx σ H):
  ∃W:Nat->Nat->St->Hp->Prop,(∃m,W 0 m σ H)/\∀i m σ H,W i m σ H ->
   ((Xe P w K d u kvs).stop i H/\D.nx σ H)\/((Xe P w K d u kvs).go i H/\∃N:St->Hp->Prop,(∀σ' H',N σ' H'->∃m',m'<m/\W (i+1) m' σ' H')/\∀x H',(Xe P w K d u kvs).yld i H x H'->g x σ H' λσ2 H2=>tb {D with nx:=N,ct:=N,bk:=D.nx} σ2 H2):=by
 refine⟨λi m σ H=>m=kvs.length-i/\i<=kvs.length/\Pv i σ H,⟨kvs.length,by simp,Nat.zero_le _,h0⟩,?_⟩;rintro i m σ H ⟨rfl,hi,p⟩;have q:=hl i σ H hi p
 by_cases hlt:i<kvs.length
 ·refine .inr ⟨⟨q,hlt⟩,Pv (i+1),λσ' H' p'=>⟨kvs.length-(i+1),by lia,rfl,hlt,p'⟩,λx H' y=>?_⟩;rcases y with⟨e,b,k,v,ex,hk,hb⟩;subst e ex;exact hs i b k v σ _ hk hb p
 ·have e:i=kvs.length:=by lia
  subst e;exact .inl ⟨⟨q,aP _⟩,hd σ H p⟩
theorem FS{P:qT}{w:qU}{K:qV}{d:qR}{u:HO}{kvs:List (List Bf×V)}{D:qR}{Q:VK}(Pv:Nat->List V->Hp->Prop)(h0:Pv 0 [] (AV H D (.lst [])))(hl:∀i fh H,i<=kvs.length->Pv i fh H->DR P w K H d u kvs)
  (hs:∀i b k v fh H2,kvs[i]?=some (k,v)->Aa K H2 b (k.map kV)->Pv i fh H2->tt (some (.ref b)::σf) H2 λt H4=>if t=true then te (some (.ref b)::σf) H4 λy H5=>H5 D=some (.lst fh)/\fh.length<sizeLine/\Pv (i+1) (fh++[y]) (AV H5 D (.lst (fh++[y]))) else Pv (i+1) fh H4)
  (hd:∀fh H2,Pv kvs.length fh H2->Q (.ref D) H2):Eh (Xe P w K d u kvs) tt te σf D Q H:=by
 refine⟨λk i fh H=>k=kvs.length-i/\i<=kvs.length/\Pv i fh H,⟨kvs.length,by simp,Nat.zero_le _,h0⟩,?_⟩;rintro k i fh H2 ⟨rfl,hi,p⟩;have q:=hl i fh H2 hi p
 by_cases hlt:i<kvs.length
 ·refine .inr ⟨⟨q,hlt⟩,Pv (i+1),λl H' p'=>⟨kvs.length-(i+1),by lia,rfl,hlt,p'⟩,λx H' y=>?_⟩;rcases y with⟨e,b,k,v,ex,hk,hb⟩;subst e ex;exact hs i b k v fh _ hk hb p
 ·have e:i=kvs.length:=by lia
  subst e;exact .inl ⟨⟨q,aP _⟩,hd fh H2 p⟩
section
variable{P:qT}{w:qU}{K:qV}
theorem B2(hP:X.prog=P)(hw:X.w=w)(hK:X.K=K)(hu:X.A.units+1<cLine)(ho:PE X o td)(hi:PE X i ty)(hs:V6 i):PE X (.Subscript o i pos) (Ux P w K td ty):=by subst hP hw hK;exact Tv hu ho hi hs
theorem Tz(hP:X.prog=P)(hw:X.w=w)(hK:X.K=K)(hu:X.A.units+1<cLine)(hi:PE X i ty)(ho:PE X o td):PC X .In i o (YB P w K ty td):=by subst hP hw hK;exact WC hu hi ho
theorem IA(hP:X.prog=P)(hw:X.w=w)(hK:X.K=K)(hu:X.A.units+1<cLine)(hi:PE X i ty)(ho:PE X o td):PC X .NotIn i o (Nk P w K ty td):=by subst hP hw hK;exact O6 hu hi ho
theorem IB(hP:X.prog=P)(hw:X.w=w)(hK:X.K=K)(hu:X.A.units+1<cLine)(ho:PE X o td)(hi:PE X i ty)(hv:PE X value tv)(hs:swapsWith value (some (.Subscript o i pos')) pos.line X.env=pure false):PS X (.Assign [.Subscript o i pos'] value pos) (Uy P w K td ty tv):=by subst hP hw hK;exact Tw hu ho hi hv hs
theorem Fs(hP:X.prog=P)(hw:X.w=w)(hK:X.K=K):PE X (.Dict [] [] pos) (Uz P w K):=by subst hP hw hK;exact Tx
theorem IC(hP:X.prog=P)(hw:X.w=w)(hK:X.K=K):CT X (.builtin "len") (λxs H Q=>∃(d:qR) (u:HO) (kvs:List (List Bf×V)),xs=[V.ref d]/\DR P w K H d u kvs/\Q (.int kvs.length) H):=by subst hP hw hK;exact O7
theorem Ep(hP:X.prog=P)(hw:X.w=w)(hK:X.K=K)(hu:X.A.units+1<cLine):TQ X "dict.setdefault" (λx xs H Q=>∃(d b:qR) (kvs:List (List Bf×V)) (k:List Bf) (y:V),x=.ref d/\xs=[.ref b,y]/\DW P w K H d kvs/\Aa K H b (k.map kV)/\kvs.length<sizeLine /\
  (∀z,Bj kvs k=some z->Q z H)/\(Bj kvs k=none->∀u',DW P w K (AV H d u') d (DE kvs k y)->Q y (AV H d u'))):=by subst hP hw hK;exact Ma hu
theorem E4(hP:X.prog=P)(hw:X.w=w)(hK:X.K=K){l:Expr}(hl:PE X l tl):PI X tg l (Q7 P w K tl):=by subst hP hw hK;exact Q8 hl
noncomputable def Nl(K:qV)(a:qR)(ns:qW):Bool:=match K.lookup a with
 |some o=>o.cls==.type "tuple"&&(match o.data with|.seq its _=>decide (its.size<=1000)&&decide (its.toList.map Vf=ns.map λn=>some (V.int n))|_=>false)
 |none=>false
end
end
theorem Q9:∀{ns:qW} {us:List qQ},us.map Vf=ns.map (λn=>some (V.int n))->Au (ns.map V.int) us:=by
 intro ns
 induction ns with
 |nil=>intro us h;cases us with|nil=>exact .nil|cons u us=>cases h
 |cons n ns ih =>
  intro us h;cases us with
  |nil=>cases h
  |cons u us =>
   rw[bv,bv]at h
   injection h with h1 h2
   refine .cons ?_ (ih h2);cases u with
   |int i t=>cases h1;exact⟨_,rfl⟩
   |_=>cases h1
theorem Ft{K:qV}{ns:qW}(h:Nl K a ns=true)(H:Hp):Aa K H a (ns.map V.int):=by
 delta Nl at h
 cases e:K.lookup a with
 |none=>rw[e]at h;cases h
 |some o =>
  rw[e]at h;obtain⟨h1,h2⟩:=(cg ..).mp h;cases ed:o.data with
  |seq its n =>
   rw[ed]at h2;have h2:=(cg ..).mp h2;have s:=qN h2.1;exact .inr ⟨o,its,n,e,eq_of_beq h1,ed,by rw[sizeLine_eq];lia,Q9 (qN h2.2)⟩
  |_=>rw[ed]at h2;cases h2
def ZX(P:qT)(w:qU)(K:qV)(r:V->List V->Hp->VK->Prop)(to:TE)(t:TA):TE:=λσ H Q=>to σ H λx H1=>(∃(d:qR) (u:HO) (kvs:List (List Bf×V)),x=.ref d/\DR P w K H1 d u kvs)/\t σ H1 λxs H2=>r x xs H2 Q
theorem Mc{P:qT}{w:qU}{K:qV}{o e:Expr}{t:TA}{apos cpos:Pos}{id:String}{r:V->List V->Hp->VK->Prop}(hP:X.prog=P)(hw:X.w=w)(hK:X.K=K)(slot:Slot "dict" name id)(hty:typeOf (.builtin id)=pure (.type "method_descriptor"))(hm:TQ X id r)(ho:PE X o to)(ha:PA X (e::es) t)(hbase:attributeBase o name X.env (eval o X.env)=eval o X.env:=by rfl)(hfew:((backTo cpos (starEach (e::es) X.env)).all (λx=>!x.1)&&(backToKw cpos (keywordEach [] X.env)).all (λx=>x.1.isSome)&&decide ((e::es).length+([]:List Keyword).length+(if ([]:List Keyword).isEmpty then 0 else 1)<30))=true:=by rfl)(hline:(apos.endLine==cpos.line)=true:=by rfl)
  (hs:starEach (e::es) X.env=(false,eval e X.env)::starEach es X.env:=by rfl) (hplain:(backTo cpos (starEach es X.env)).any (·.1)=false:=by rfl):PE X (.Call (.Attribute o name apos) (e::es) [] cpos) (ZX P w K r to t):=by
 subst hP hw hK;intro ad s σ H Q I h;refine wpAny_Call_method_late hbase hfew hline rfl (BS (ho ad s σ H _ I h) λv s1 z9=>?_);obtain⟨x,H1,I1,r1,⟨d,u,kvs,ex,dr⟩,q1⟩:=z9;subst ex;cases r1;rcases dr.at I1 with⟨bs,xs,_,_,_,_,_,dd⟩;have h1:s1.TypeIs (.ref d) "dict":=dd.typeIs
 refine⟨"dict",id,fD,slot,hty,h1,λb q=>by cases q;rcases dd with⟨ob,_,_,g1,g2,_⟩;exact⟨ob,g1,g2.2.1⟩,?_⟩
 have hA:=ha cpos ad s1 σ H1 _ I1 q1;rw[hs]at hA⊢;refine Calls.callWith_builtin (by show (false||(backTo cpos (starEach es X.env)).any (·.1))=false;rw[hplain]<;>rfl) (Calls.evalArgs_plain (BS hA λus s2 ⟨vs,H2,I2,r2,q2⟩=>hm ad s2 σ H2 (.ref d) vs (.ref d) us Q I2 rfl r2 q2))
theorem Md:TQ X "dict.setdefault" (λx xs H Q=>∃(d:qR) (kvs:List (Bf×V)) (k:Bf) (y:V),x=.ref d/\xs=[kV k,y]/\H d=some (.dK kvs)/\kvs.length<sizeLine /\
  (∀z,Bj kvs k=some z->Q z H)/\(Bj kvs k=none->Q y (AV H d (.dK (DE kvs k y))))):=by
 intro ad s σ H x xs v us Q I rx rs h;obtain⟨d,kvs,k,y,rfl,rfl,e,hz,h1,h2⟩:=h;obtain⟨u1,u2,rfl,r1,r2⟩:=KP rs;cases rx;obtain⟨z,hd,vs,rel,dd⟩:=X8 I.hok e;have hl:vs.length<=sizeLine:=by rw[<-rel.length];exact z
 have rk:=rel.val k;refine call_meetsIn cJ dd.typeIs PySem.F.entry_dict_setdefault (PySem.F.args_dict_setdefault_3 _ _ _) (kt_meets_setdefault (A7 X.prog X.w) d (Uu r1) hd u2) ⟨vs,dd,hl,λp hp=>?_,λhn h' dd' sb=>?_⟩
 ·rw[hp]at rk;cases hv:Bj kvs k with
  |none=>rw[hv]at rk;exact (show False from rk).elim
  |some t =>
   rw[hv]at rk;exact⟨t,H,I.tok _,rk,h1 t hv⟩
 ·have hv:Bj kvs k=none:=by
   cases hv:Bj kvs k with
   |none=>rfl
   |some t=>rw[hv,hn]at rk;exact (show False from rk).elim
  have hlen:(DE kvs k y).length<=sizeLine:=by have:=Gj kvs k y;lia
  have he:∃q,h'.get? d=some q:=by obtain⟨q,_,_,hq,_⟩:=dd';exact⟨q,hq⟩
  exact⟨y,_,Nf (ob:=.dK (DE kvs k y)) I (by rw[e];exact True.intro) sb he (V5 hlen hd (rel.put k r2) dd'),r2,h2 hv⟩
end L2
namespace PySem
open Sem (wp)
end PySem
namespace L2
open PySem PySem.Spec PyProof.Rows
variable{X:Cx}
theorem Nm{K:qV}(h:X.K=K)(hu:X.A.units+64<cLine):Fa X (compareOp .Eq) (X4 K):=h▸Vx hu
end L2
namespace PySem
open PyProof.Rows
end PySem
namespace L2
open PySem PySem.Spec PyProof.Rows
variable{D:Fc}{H:Hp}{T:String}{X:Cx}{es:List Expr}{it:qR}{name:Str}{pos:Pos}{ta:TA}{tg:Expr}{tl to:TE}{σ:St}
section
variable{P:qT}{w:qU}{K:qV}
theorem T0(hK:X.K=K)(hu:X.A.units+64<cLine):Fa X (compareOp .NotEq) (Vt K):=hK▸Vu hu
theorem T1{id:String}{o:Expr}{apos cpos:Pos}{r:V->List V->Hp->VK->Prop}(hK:X.K=K)(pa:PlainAttrs T)(slot:Slot T name id)(hty:typeOf (.builtin id)=pure (.type "method_descriptor"))(hm:TQ X id r)(ho:PE X o to)
  (hbase:attributeBase o name X.env (eval o X.env)=eval o X.env:=by rfl) (hline:(apos.endLine==cpos.line)=true:=by rfl):PE X (.Call (.Attribute o name apos) [] [] cpos) (Xv K T r to):=hK▸Vq pa slot hty hm ho hbase hline
theorem ZY{l r:Expr}{p pos tpos:Pos}{elts:List Expr}{ctx:Nat}(K:qV)(hg:Gl X "zip")(hm:X.mg "zip"=none)(ha:PA X [l,r] ta)(hK:X.K=K:=by rfl)(hs:starEach [l,r] X.env=[(false,eval l X.env),(false,eval r X.env)]:=by rfl)(hs2:starEach [r] X.env=[(false,eval r X.env)]:=by rfl):PI X (.Tuple elts ctx tpos) (.Call (.Name "zip" p) [l,r] [] pos) (YA K ta):=hK▸V8 hg hm ha hs hs2
theorem YC{k:Nat}{t:Pw}{pos:Pos}(K:qV)(n:Nat)(hc:X.calm=true)(h:Vg X es t)(hK:X.K=K:=by rfl)
  (hn:(assignEach es X.env).length=n:=by rfl) (hst:(assignEach es X.env).findIdx? (·.1)=none:=by rfl):PG X (.Tuple es k pos) (Xo K n t):=hK▸Px hc h hn hst
theorem ZZ{k:Nat}{t:Pw}{pos:Pos}(K:qV)(n:Nat)(hc:X.calm=true)(h:Vg X es t)(hK:X.K=K:=by rfl)
  (hn:(assignEach es X.env).length=n:=by rfl) (hst:(assignEach es X.env).findIdx? (·.1)=none:=by rfl):PG X (.Tuple es k pos) (X5 K n t):=hK▸Vz hc h hn hst
theorem Za(K:qV)(hK:X.K=K:=by rfl):CT X (.type "list") (λxs H Q=>∃p ys,xs=[.ref p]/\(Af K H p ys\/Aa K H p ys)/\∀l,H l=none->Q (.ref l) (AV H l (.lst ys))):=hK▸Jk
theorem Lp{a c:Expr}{ta tc:TE}{p pos:Pos}(K:qV)(hg:Gl X "isinstance")(hm:X.mg "isinstance"=none)(ha:PE X a ta)(hc:PE X c tc)(hK:X.K=K:=by rfl)(h1:starEach [a,c] X.env=(false,eval a X.env)::starEach [c] X.env:=by rfl)(h2:starEach [c] X.env=(false,eval c X.env)::starEach [] X.env:=by rfl)
  (h3:(backTo pos (starEach [c] X.env)).any (·.1)=false:=by rfl):PE X (.Call (.Name "isinstance" p) [a,c] [] pos) (Xd (TY K) (Ee ta (Ee tc Ii))):=hK▸Vv hg hm ha hc h1 h2 h3
theorem YD{l:Expr}{p1 p2 pos1 pos2:Pos}(K:qV)(hc:X.calm=true)(hg:Gl X "reversed")(hm:X.mg "reversed"=none)(hg2:Gl X "list")(hm2:X.mg "list"=none)(ha:PA X [l] ta)(hK:X.K=K:=by rfl)(hs:starEach [l] X.env=[(false,eval l X.env)]:=by rfl)
  (hs2:starEach [.Call (.Name "reversed" p1) [l] [] pos1] X.env=[(false,eval (.Call (.Name "reversed" p1) [l] [] pos1) X.env)]:=by rfl):PE X (.Call (.Name "list" p2) [.Call (.Name "reversed" p1) [l] [] pos1] [] pos2) (QI K ta):=hK▸TZ hc hg hm hg2 hm2 ha hs hs2
theorem U0{c:TT}{t u:TS}(Z:Bool->Hp->Prop)(hc:∀Q:Bool->Hp->Prop,(∀b H1,Z b H1->Q b H1)->c σ H Q)(h1:∀H1,Z true H1->t D σ H1)(h0:∀H1,Z false H1->u D σ H1):TF c t u D σ H:=
 hc _ λb H1 z=>by
  cases b with
  |true=>rw[qF rfl];exact h1 H1 z
  |false=>rw[qE ap];exact h0 H1 z
def WD(P:qT)(w:qU)(K:qV)(tk tv:TE):TE:=λσ H Q=>∀p u,H p=none->DW P w K (AV H p u) p []->tk σ (AV H p u) λx H1=>tv σ H1 λy H2=>∃(b:qR) (k:List Bf),x=.ref b/\DW P w K H2 p []/\Aa K H2 b (k.map kV)/\∀u',DW P w K (AV H2 p u') p [(k,y)]->Q (.ref p) (AV H2 p u')
theorem RA{k v:Expr}{tk tv:TE}(hP:X.prog=P)(hw:X.w=w)(hK:X.K=K)(hu:X.A.units<cLine)(hk:PE X k tk)(hv:PE X v tv):PE X (.Dict [some k] [v] pos) (WD P w K tk tv):=by
 subst hP hw hK;intro ad s σ H Q I q;have hn:=I.hok.fresh (aP s.heap.objs.size)
 have I1:=I.laid (a:=s.heap.objs.size) (o:=Q4 X.prog X.w s.heap.objs.size []) (h':=s.heap.push {cls:=.type "dict",data:=.dict #[]}) (t':=s.toks) (λ_ _ z=>aO _ z) (aP _)
  ⟨⟨az _,beq_eq_false_iff_ne.mpr (Ne.symm (bF I.big)),[],.nil,_,#[],0,af _ rfl,⟨rfl,rfl,rfl⟩,rfl,rfl,cQ⟩,⟨_,af _ rfl⟩,λh1 h2 x k=>S7.stay x k⟩
 have h:=Qt (pos:=pos) hk hv (To (X:=X) (pos:=pos));refine wpAny_Dict_any rfl rfl (by simp) (show 1<=15 by decide) (BS (h ad _ σ _ (λps H2=>List.casesOn (motive:=λ_=>Prop) ps False λp t=>List.casesOn (motive:=λ_=>Prop) t (∃(b:qR) (k:List Bf),p.1=.ref b/\DW X.prog X.w X.K H2 s.heap.objs.size []/\Aa X.K H2 b (k.map kV)/\∀u',DW X.prog X.w X.K (AV H2 s.heap.objs.size u') s.heap.objs.size [(k,p.2)]->Q (.ref s.heap.objs.size) (AV H2 s.heap.objs.size u')) λ_ _=>False) I1 (q _ _ hn ⟨[],AE,rfl,λp hp=>nomatch hp⟩)) λws s2 z8=>?_);obtain⟨ps,H2,I2,rel,z0⟩:=z8;cases ps with
 |nil=>exact (show False from z0).elim
 |cons p ps =>
 cases ps with
 |cons _ _=>exact (show False from z0).elim
 |nil =>
  obtain⟨x,y⟩:=p;obtain⟨b,k,ex,e,eb,q2⟩:=z0;subst ex;cases rel with
  | @cons p1 p2 r1 r2 hh t =>
  cases t;obtain⟨u1,u2⟩:=p2;obtain⟨ru,rw'⟩:=hh;cases ru;obtain⟨bs,xs,h1,h3,h4,rel,hl,hd,dd⟩:=e.at I2;cases bs with
  |cons _ _=>cases h3
  |nil =>
  unfold storeAll;rw[List.forIn_cons];refine qC (qC (wpAny_dictSet_heap (hsz:=hl) (knd:=tupleKind (A7 X.prog X.w)) hu (Dc I2 eb) dd λhp dd' sb=>qD ?_));show wpAny _ _ (forIn [] PUnit.unit _) _ _ _;rw[List.forIn_nil];refine qD ?_;obtain⟨u',w',I'⟩:=DW.put (t':=s2.toks+(tupleKind (A7 X.prog X.w)).draws k) I2 h1 h4 rel hd eb (show 0<sizeLine by decide) rw' dd' sb;exact⟨.ref s.heap.objs.size,_,I',rfl,q2 u' w'⟩
noncomputable def WE(p d:qR):HO:=.ext λh=>h.IsValuesView p d
theorem O9:TQ X "dict.values" (λx xs H Q=>∃(d:qR) (kvs:List (Bf×V)),x=.ref d/\xs=[]/\Rd H d (.dK kvs)/\∀p,H p=none->Q (.ref p) (AV H p (WE p d))):=by intro ad s σ H x xs v us Q I rx rs h;obtain⟨d,kvs,rfl,rfl,hq,q⟩:=h;cases rx;have hus:=rs.zero;subst hus;obtain⟨z,hd,vs,rel,dd⟩:=Uv I.hok hq;refine call_meetsIn PySem.F.slot_dict_values dd.typeIs PySem.F.entry_dict_values (PySem.F.args_dict_values_1 _) (meets_dict_values (A7 X.prog X.w) d hd) ⟨⟨vs,dd⟩,?_⟩;refine⟨.ref s.heap.objs.size,_,I.laid (a:=s.heap.objs.size) (o:=WE s.heap.objs.size d) (t':=s.toks) (λ_ _ z=>aO _ z) (aP _) ⟨⟨_,af _ rfl,rfl,rfl⟩,⟨_,af _ rfl⟩,λh1 h2 x k=>?_⟩,rfl,q _ (I.hok.fresh (aP _))⟩;obtain⟨o,e,c⟩:=x;exact⟨o,k o e,c⟩
noncomputable def RB(d:qR)(o:Obj)(kvs:List (Bf×V)):It:=
 ⟨λi H=>H d=some (.frz o (.dK kvs))/\i<kvs.length,λi H x H'=>H'=H/\∃(k:Bf) (v:V),x=v/\kvs[i]?=some (k,v),λi H=>H d=some (.frz o (.dK kvs))/\kvs.length<=i⟩
theorem Me{d:qR}{o:Obj}{kvs:List (Bf×V)}{es:Array DictEntry}{ep:Nat}(ho:o.data=.dict es ep):HK P w K tg (RB d o kvs) [it] it (λi h=>h.IsValIter it d i kvs.length ep) where
 mem:=by simp
 obj:=λi h st b hb=>by
  have e:b=it:=by simpa using hb
  subst e;obtain⟨o,e,c,d⟩:=st;exact⟨o,e,λv z=>by rw[d]at z;cases z⟩
 keep:=λi h h' st k=>by obtain⟨o,e,c⟩:=st;exact⟨o,k it (by simp) o e,c⟩
 item:=by rintro X hP hw hK hc i ad s σ H E I hf st ⟨hg,hi⟩;subst hP hw hK;obtain⟨f0,f1,f2,f3,f4,f5⟩:=hf it (by simp);obtain⟨g0,g1⟩:=(show Ap X.prog X.w H s.heap d (.frz o (.dK kvs)) from I.hok d _ hg);obtain⟨_,_,vs,r,o2,es2,ep2,e2,x2,d2,ks,prs,nd⟩:=(show Ap X.prog X.w H s.heap d (.dK kvs) from g1);rw[g0]at e2;cases e2;have ed:=d2;rw[ho]at ed;cases ed;obtain⟨p,hp⟩:∃p,kvs[i]?=some p:=⟨kvs[i],by simp[hi]⟩;obtain⟨q,hq,r1,r3⟩:=Ar r hp;have len:=Paired.length r;rw[len]at st;refine wpAny_pyNext_values_item (knd:=A7 X.prog X.w) st ⟨_,_,g0,x2,d2,ks,prs,nd⟩ hq λh' st' sb=>?_;have I1:AW X ad σ H {s with heap:=h'}:=I.turned (t':=s.toks) (λb o hb e=>(sb.2 b hb).trans e) f0 f1 f3 f4 f5;obtain⟨oo,e,c,dd⟩:=id st';exact⟨_,rfl,KN (s:={s with heap:=h'}) e c dd (by decide) ⟨p.2,H,I1,r3,⟨rfl,p.1,p.2,rfl,hp⟩,by rw[len];exact st',λb hb=>(hf b hb).1⟩⟩
 done:=by rintro X hP hw hK hc i ad s σ H E I hf st ⟨hg,hi⟩;subst hP hw hK;obtain⟨f0,f1,f2,f3,f4,f5⟩:=hf it (by simp);obtain⟨g0,g1⟩:=(show Ap X.prog X.w H s.heap d (.frz o (.dK kvs)) from I.hok d _ hg);obtain⟨_,_,vs,r,o2,es2,ep2,e2,x2,d2,ks,prs,nd⟩:=(show Ap X.prog X.w H s.heap d (.dK kvs) from g1);rw[g0]at e2;cases e2;have ed:=d2;rw[ho]at ed;cases ed;have len:=Paired.length r;rw[len]at st;exact wpAny_pyNext_values_end (knd:=A7 X.prog X.w) (I.ok.hd hc) st ⟨_,_,g0,x2,d2,ks,prs,nd⟩ (cu (by lia)) λh' eb=>⟨rfl,I.turned (t':=s.toks) (λb o hb e=>eb b o hb e) f0 f1 f3 f4 f5⟩
 self:=λ_ _ _ _ _ st h=>wpAny_pyIter_valiter st h
def WF(tl:TE):TI:=λσ H R=>tl σ H λx H1=>∃(p d:qR) (kvs:List (Bf×V)),x=.ref p/\H1 p=some (WE p d)/\H1 d=some (.dK kvs)/\∀o,R (RB d o kvs) (AV H1 d (.frz o (.dK kvs)))
theorem RC{l:Expr}(hl:PE X l tl):PI X tg l (WF tl):=by
 intro ad s σ H R I h;refine BS (hl ad s σ H _ I h) λv s1 z9=>?_;obtain⟨x,H1,I1,r1,q1⟩:=z9;obtain⟨p,d,kvs,e,hp,hq,q⟩:=q1;subst e;cases r1;obtain⟨z,hm,vs,r,o,es,ep,ho,hx,hd,ks,prs,nd⟩:=(show Ap X.prog X.w H1 s1.heap d (.dK kvs) from I1.hok d _ hq);have vw:s1.heap.IsValuesView p d:=(show Ap X.prog X.w H1 s1.heap p (.ext _) from I1.hok p _ hp).1;have I2:AW X ad σ (AV H1 d (.frz o (.dK kvs))) s1:=I1.freeze hq (λ_ z=>nomatch z) (λ_ _ z=>nomatch z) (λ_ z=>nomatch z) (λ_ z=>nomatch z) ho;refine wpAny_pyIter_values (knd:=A7 X.prog X.w) vw ⟨o,es,ho,hx,hd,ks,prs,nd⟩ ⟨s1.heap.objs.size,[s1.heap.objs.size],_,_,_,rfl,I2.kept (t':=s1.toks) λb o e=>aO _ e,Me hd,⟨_,af _ rfl,rfl,by rw[Paired.length r];rfl⟩,λb hb=>?_,q o⟩;have e:b=s1.heap.objs.size:=by simpa using hb
 subst e;exact I2.fpOk (aP _) (I2.hok.fresh (aP _))
theorem PB{d:qR}{o:Obj}{kvs:List (Bf×V)}{g:TG}{tb:TS}(Pv:Nat->St->Hp->Prop)(h0:Pv 0 σ H)(hl:∀i σ H,i<=kvs.length->Pv i σ H->H d=some (.frz o (.dK kvs)))
  (hs:∀i k v σ H,kvs[i]?=some (k,v)->Pv i σ H->g v σ H λσ2 H2=>tb {D with nx:=Pv (i+1),ct:=Pv (i+1),bk:=D.nx} σ2 H2) (hd:∀σ H,Pv kvs.length σ H->D.nx σ H):
  ∃W:Nat->Nat->St->Hp->Prop,(∃m,W 0 m σ H)/\∀i m σ H,W i m σ H ->
   ((RB d o kvs).stop i H/\D.nx σ H)\/((RB d o kvs).go i H/\∃N:St->Hp->Prop,(∀σ' H',N σ' H'->∃m',m'<m/\W (i+1) m' σ' H')/\∀x H',(RB d o kvs).yld i H x H'->g x σ H' λσ2 H2=>tb {D with nx:=N,ct:=N,bk:=D.nx} σ2 H2):=by
 refine⟨λi m σ H=>m=kvs.length-i/\i<=kvs.length/\Pv i σ H,⟨kvs.length,by simp,Nat.zero_le _,h0⟩,?_⟩;rintro i m σ H ⟨rfl,hi,p⟩;have q:=hl i σ H hi p
 by_cases hlt:i<kvs.length
 ·refine .inr ⟨⟨q,hlt⟩,Pv (i+1),λσ' H' p'=>⟨kvs.length-(i+1),by lia,rfl,hlt,p'⟩,λx H' y=>?_⟩;obtain⟨e,k,v,ex,hk⟩:=y;subst e ex;exact hs i k _ σ _ hk p
 ·have e:i=kvs.length:=by lia
  subst e;exact .inl ⟨⟨q,aP _⟩,hd σ H p⟩
end
end L2
namespace L2
open PySem PySem.Spec PyProof.Rows RW
variable{G j:Nat}{H H':Hp}{X:Cx}{a l:qR}{c dl:qW}{te tl:TE}{tg:Expr}{tt:TT}{xs ys:List V}{α β:Type}{σf:List (Option V)}
noncomputable def B5(p:qX):qX:=if p.1=p.2 then (0,0) else p
theorem CL(u:Nat):B5 (u,u)=(0,0):=qF rfl
def Ie(G h:Nat)(dl:qW)(p q:qX):Prop:=∃a b,a<h*G/\b<h*G/\a≠b/\dl.getD a 0=dl.getD b 0/\p=B5 (a/G,b/G)/\q=B5 (a%h,b%h)
def FE(G h:Nat)(dl:qW)(rk:qX->Nat):Prop:=∀p q,Ie G h dl p q->rk p<rk q
theorem Fu{n:Nat}{f:Nat->Int}(h:1<=Ai n f):∃j,j<n/\1<=f j:=by
 induction n with
 |zero=>rw[Bo]at h;lia
 |succ n ih =>
  rw[Ao]at h
  by_cases z:1<=f n
  ·exact⟨n,by lia,z⟩
  ·obtain⟨j,hj,hf⟩:=ih (by lia);exact⟨j,by lia,hf⟩
theorem RD{n:Nat}{f:Nat->Int}(h1:∀j,j<n->f j<=1)(h2:∀i j,i<n->j<n->i≠j->1<=f i->f j<=0):Ai n f<=1:=by
 induction n with
 |zero=>rw[Bo];lia
 |succ n ih =>
  rw[Ao];have a:=ih (λj hj=>h1 j (by lia)) λi j hi hj=>h2 i j (by lia) (by lia)
  have b:=h1 n (by lia)
  by_cases z:1<=f n
  ·have c:Ai n f<=0:=by
    by_cases y:1<=Ai n f
    ·obtain⟨j,hj,hf⟩:=Fu y;have:=h2 n j (by lia) (by lia) (by lia) z;lia
    ·lia
   lia
  ·lia
theorem GQ{n:Nat}{f g:Nat->Int}(h:∀k,k<n->f k<=g k):Ai n f<=Ai n g:=by
 induction n with
 |zero=>rw[Bo,Bo];lia
 |succ n ih =>
  rw[Ao,Ao];have:=ih λk hk=>h k (by lia)
  have:=h n (by lia);lia
theorem G6{p:Bool}{x:Int}(h:1<=DN p x):p=true/\1<=x:=by
 unfold DN at h
 split at h
 ·rename_i z;exact⟨z,h⟩
 ·lia
section
variable{h:Nat}
theorem Nn{s:Int}{r:qW}{u v:Nat}(hw:1<=S6 G dl h (s::r) u v):∃j,j<G/\dl.getD (u*G+j) 0=s/\1<=S6 G dl h r ((u*G+j)%h) v:=by obtain⟨j,hj,hf⟩:=Fu (show 1<=Ai G _ from hw);obtain⟨h1,h2⟩:=G6 hf;exact⟨j,hj,qN h1,h2⟩
theorem G7{u:Nat}(hu:u<h)(hj:j<G):u*G+j<h*G:=by have:=de G (show u+1<=h from hu);rw[dz,Nat.one_mul]at this;lia
theorem DF{u:Nat}(hj:j<G):(u*G+j)/G=u:=by rw[fb,Nat.add_mul_div_right _ _ (by lia),Nat.div_eq_of_lt hj,Nat.zero_add]
theorem U1{rk:qX->Nat}(hr:FE G h dl rk)(h0:0<h){v:Nat}:∀(r:qW) {u u':Nat},u<h->u'<h->1<=S6 G dl h r u v->1<=S6 G dl h r u' v->rk (B5 (u,u'))<=rk (0,0)
 |[],u,u',_,_,h1,h2=>by
  have e:∀{u:Nat},1<=S6 G dl h [] u v->u=v:=λ{u} z=>by
   have z:(1:Int)<=if u=v then 1 else 0:=z
   by_cases y:u=v
   ·exact y
   ·rw[qE y]at z;lia
  rw[e h1,e h2,CL];exact aP _
 |s::r,u,u',hu,hu',h1,h2=>by
  obtain⟨j,hj,hs,hw⟩:=Nn h1;obtain⟨j',hj',hs',hw'⟩:=Nn h2
  by_cases e:u*G+j=u'*G+j'
  ·have:u=u':=by rw[<-DF (u:=u) hj,e,DF hj']
   rw[this,CL];exact aP _
  ·have a:=hr _ _ ⟨u*G+j,u'*G+j',G7 hu hj,G7 hu' hj',e,hs.trans hs'.symm,rfl,rfl⟩;rw[DF hj,DF hj']at a;have b:=U1 hr h0 r (bT (u*G+j) h0) (bT (u'*G+j') h0) hw hw';lia
theorem RE{rk:qX->Nat}(hr:FE G h dl rk)(h0:0<h){v:Nat}:∀(r:qW) {u:Nat},u<h->S6 G dl h r u v<=1
 |[],u,_=>by
  show (if u=v then (1:Int) else 0)<=1
  split<;>lia
 |s::r,u,hu=>by
  refine RD (λj hj=>?_) λi j hi hj ne hp=>?_
  ·have a:=RE hr h0 (v:=v) r (bT (u*G+j) h0);unfold DN
   split<;>lia
  ·obtain⟨p1,p2⟩:=G6 hp
   by_cases z:1<=DN (decide (dl.getD (u*G+j) 0=s)) (S6 G dl h r ((u*G+j)%h) v)
   ·obtain⟨q1,q2⟩:=G6 z;have a:=hr _ _ ⟨u*G+i,u*G+j,G7 hu hi,G7 hu hj,by lia,(qN p1).trans (qN q1).symm,rfl,rfl⟩;rw[DF hi,DF hj,CL]at a;have b:=U1 hr h0 r (bT (u*G+i) h0) (bT (u*G+j) h0) p2 q2;lia
   ·lia
end
theorem RF(h0:0<dl.length/G):∀(r:qW) {u:Nat},u<dl.length/G->Eb G dl r u=Ai (dl.length/G) λv=>S6 G dl (dl.length/G) r u v
 |[],u,hu=>by
  have z:=Hl (dl.length/G) u hu 1;refine z.symm.trans (Aq λv _=>?_);show DN (decide (v=u)) 1=if u=v then 1 else 0;unfold DN
  by_cases e:v=u
  ·rw[qF (qH e),qF e.symm]
  ·rw[qE (by rw[decide_eq_true_iff];exact e),qE λy=>e y.symm]
 |s::r,u,hu=>by
  show Ai G (λj=>DN (decide (dl.getD (u*G+j) 0=s)) (Eb G dl r ((u*G+j)%(dl.length/G))))=Ai _ λv=>Ai G λj=>DN (decide (dl.getD (u*G+j) 0=s)) (S6 G dl (dl.length/G) r ((u*G+j)%(dl.length/G)) v)
  rw[C5];refine Aq λj _=>?_;rw[RF h0 r (bT _ h0),Ts]
theorem WG{rk:qX->Nat}(hr:FE G (dl.length/G) dl rk)(h0:0<dl.length/G)(r:qW):CY G dl r<=((dl.length/G:Nat):Int)*((dl.length/G:Nat):Int):=by unfold CY;refine bi (GQ (g:=λ_=>((dl.length/G:Nat):Int)) λu hu=>?_) (by rw[BK];exact cB _);rw[RF h0 r hu];refine bi (GQ (g:=λ_=>(1:Int)) λv _=>RE hr h0 r hu) ?_;rw[BK,dm];exact cB _
theorem K1(h0:0<dl.length/G)(c:qW):∀(r:qW) {u:Nat},u<dl.length/G->1<=Eb G dl (r++c) u->∃v,v<dl.length/G/\1<=Eb G dl c v
 |[],u,hu,h=>⟨u,hu,h⟩
 |s::r,u,hu,h=>by obtain⟨j,hj,hf⟩:=Fu (show 1<=Ai G _ from h);exact K1 h0 c r (bT _ h0) (G6 hf).2
theorem RG(h0:0<dl.length/G){r:qW}(h:1<=CY G dl (r++c)):1<=CY G dl c:=by obtain⟨u,hu,hc⟩:=Fu (show 1<=Ai _ _ from h);obtain⟨v,hv,hw⟩:=K1 h0 c r hu hc;exact bi hw (Ju (λk _=>DD G dl c k) hv)
theorem RH{n:Nat}{f:Nat->Int}{M:Int}(h:∀k,k<n->f k<=M)(e:(n:Int)*M<=Ai n f):∀k,k<n->f k=M:=by
 induction n with
 |zero=>intro k hk;lia
 |succ n ih =>
  rw[Ao]at e
  have a:Ai n f<=(n:Int)*M:=by rw[<-BK];exact GQ λk hk=>h k (by lia)
  have b:=h n (by lia);have c:((n+1:Nat):Int)*M=(n:Int)*M+M:=by rw[cP,Int.add_mul];lia
  intro k hk
  by_cases z:k=n
  ·subst z;lia
  ·exact ih (λk hk=>h k (by omega)) (by omega) k (by omega)
theorem K2(G2:2<=G)(hb:∀n∈dl,0<=n/\n<(G:Int)){rk:qX->Nat}(hr:FE G (dl.length/G) dl rk)(h0:0<dl.length/G)(hc:∀n∈c,0<=n/\n<(G:Int)):1<=CY G dl c:=by
 have bd:=WG hr h0;generalize ((dl.length/G:Nat):Int)*((dl.length/G:Nat):Int)=B at bd
 have top:∀(k:Nat) (r:qW),B-CY G dl r<=(k:Int)->∃r':qW,CY G dl r<=CY G dl r'/\∀s:qW,CY G dl s<=CY G dl r':=by
  intro k
  induction k with
  |zero =>
   intro r hk;exact⟨r,cB _,λs=>by have:=bd s;lia⟩
  |succ k ih =>
   intro r hk
   by_cases z:∃s,CY G dl r<CY G dl s
   ·obtain⟨s,hs⟩:=z;obtain⟨r',h1,h2⟩:=ih s (by lia);exact⟨r',by lia,h2⟩
   ·exact⟨r,cB _,λs=>by
     by_cases y:CY G dl s<=CY G dl r
     ·exact y
     ·exact qG ⟨s,by lia⟩ z⟩
 obtain⟨r,h1,h2⟩:=top (B-CY G dl []).toNat [] (by lia)
 have one:1<=CY G dl []:=by have z:CY G dl []=((dl.length/G:Nat):Int)*1:=BK _ _;rw[z];lia
 have ext:∀(k:Nat) (c:qW),c.length=k->(∀n∈c,0<=n/\n<(G:Int))->CY G dl (r++c)=CY G dl r:=by
  intro k
  induction k with
  |zero =>
   intro c hl _;rw[fE.mp hl,au]
  |succ k ih =>
   intro c hl hcb;have ne:c≠[]:=λz=>by rw[z]at hl;cases hl
   have e:=List.dropLast_concat_getLast ne;have lb:=hcb _ (List.getLast_mem ne);have a:=ih c.dropLast (by rw[List.length_dropLast];lia) λn hn=>hcb n ((List.dropLast_subset c) hn)
   have b:=Hq G2 hb (r++c.dropLast);rw[a]at b;have d:=RH (n:=G) (f:=λs=>CY G dl (r++c.dropLast++[(s:Int)])) (M:=CY G dl r) (λk _=>h2 _) (by rw[b,cx];exact cB _) (c.getLast ne).toNat (by lia);rw[show (((c.getLast ne).toNat:Nat):Int)=c.getLast ne by lia,a9,e]at d;exact d
 exact RG h0 (r:=r) (by rw[ext _ c rfl hc];lia)
def Ik(p:qX):List V:=[.int (p.1:Int),.int (p.2:Int)]
abbrev Br(K:qV)(H:Hp):List qR->List (qX)->Prop:=Paired λp x=>Aa K H p (Ik x)
variable{L:List (qX)}
theorem Br.same{K:qV}{ps:List qR}(e:AG H H')(h:Br K H ps L):Br K H' ps L:=Paired.mapP h λ_ _ z=>z.same' e
theorem Paired.app{F:α->β->Prop}{a:List α}{b:List β}{c:List α}{d:List β}(p:Paired F a b)(h:Paired F c d):Paired F (a++c) (b++d):=by
 induction p with
 |nil=>exact h
 |cons r _ ih=>exact .cons r ih
theorem Aa.updL{K:qV}{d:qR}{u:HO}(hd:H d=some (.lst ys))(q:Aa K H a xs):Aa K (AV H d u) a xs:=by
 rcases q with (z|⟨o,z⟩)|z
 ·exact .inl (.inl (by rw[AL (Cc z hd λy=>nomatch y)];exact z))
 ·exact .inl (.inr ⟨o,by rw[AL (Cc z hd λy=>nomatch y)];exact z⟩)
 ·exact .inr z
theorem Br.upd{K:qV}{ps:List qR}{d:qR}{u:HO}(hd:H d=some (.lst ys))(h:Br K H ps L):Br K (AV H d u) ps L:=Paired.mapP h λ_ _ z=>z.updL hd
inductive K3(K:qV)(vs:List V)(H:Hp)(Q:VK)(z3_:XK):Prop
 |m (a b:Nat):vs=[.int (a:Int),.int (b:Int)]->(∀p H',AG H H'->Aa K H' p (Ik (B5 (a,b)))->Q (.ref p) H')->K3 K vs H Q z3_
inductive No(K:qV)(vs:List V)(H:Hp)(Q:VK)(z3_:XK):Prop
 |m (r q:qR) (g lo:Int) (dl:qW) (m a b:Nat):vs=[.ref r,.ref q]->Av H r g lo dl m->Aa K H q (Ik (a,b))->(∀p H',AG H H'->Aa K H' p (Ik (B5 (a/g.toNat,b/g.toNat)))->Q (.ref p) H')->No K vs H Q z3_
inductive U2(K:qV)(vs:List V)(H:Hp)(Q:VK)(z3_:XK):Prop
 |m (r q:qR) (g lo:Int) (dl:qW) (m a b:Nat):vs=[.ref r,.ref q]->Av H r g lo dl m->Aa K H q (Ik (a,b))->(∀p H',AG H H'->Aa K H' p (Ik (B5 (a%(dl.length/g.toNat),b%(dl.length/g.toNat))))->Q (.ref p) H')->U2 K vs H Q z3_
noncomputable def ID(h n:Nat):List (qX):=((List.range h).filter λo=>decide (o≠n)).map λo=>(n,o)
theorem T2(h n:Nat):(ID h n).length<=h:=by unfold ID;rw[aH];exact bK (cE ..) (by rw[bI];exact aP _)
theorem Fv(h:Nat):∀i:Nat,((List.range i).flatMap (ID h)).length<=i*h
 |0=>az _
 |i+1=>by rw[bP,cM,aU,dz,bg,dD,au];have:=Fv h i;have:=T2 h i;lia
noncomputable def Be(h:Nat):List (qX):=(0,0)::(List.range h).flatMap (ID h)
noncomputable def RI(dl:qW)(a:Nat):List (qX):=((List.range dl.length).filter λb=>decide (dl.getD b 0=dl.getD a 0)&&decide (b≠a)).map λb=>(a,b)
noncomputable def Aj(dl:qW):List (qX):=(List.range dl.length).flatMap (RI dl)
inductive RJ(K:qV)(vs:List V)(H:Hp)(Q:VK)(z3_:XK):Prop
 |m (r:qR) (g lo:Int) (dl:qW) (m:Nat):vs=[.ref r]->Av H r g lo dl m->g^(m-1)<=9->(∀D H' ps,AG H H'->H D=none->H' D=some (.lst (ps.map V.ref))->Br K H' ps (Be (dl.length/g.toNat))->Q (.ref D) H')->RJ K vs H Q z3_
inductive RK(K:qV)(vs:List V)(H:Hp)(Q:VK)(z3_:XK):Prop
 |m (r:qR) (g lo:Int) (dl:qW) (m:Nat):vs=[.ref r]->Av H r g lo dl m->g^(m-1)<=9->(∀D H' ps,AG H H'->H D=none->H' D=some (.lst (ps.map V.ref))->Br K H' ps (Aj dl)->Q (.ref D) H')->RK K vs H Q z3_
theorem K4{K:qV}{D:qR}{Q:VK}(Pv:Nat->List V->Hp->Prop)(h0:Pv 0 [] (AV H D (.lst [])))(hl:∀i fh H,i<=xs.length->Pv i fh H->Aa K H a xs)
  (hs:∀i x p fh H2,xs[i]?=some x->Pv i fh H2->H2 p=none->tt (some (.int ((i:Nat):Int))::some x::σf) (AV H2 p (.tup [.int ((i:Nat):Int),x])) λb H4=>if b=true then te (some (.int ((i:Nat):Int))::some x::σf) H4 λy H5=>H5 D=some (.lst fh)/\fh.length<sizeLine/\Pv (i+1) (fh++[y]) (AV H5 D (.lst (fh++[y]))) else Pv (i+1) fh H4)
  (hd:∀fh H2,Pv xs.length fh H2->Q (.ref D) H2):GP K (Ot K a) tt te σf D Q H:=by
 refine⟨λk i fh H=>k=xs.length-i/\i<=xs.length/\Pv i fh H,⟨xs.length,by simp,Nat.zero_le _,h0⟩,?_⟩;rintro k i fh H2 ⟨rfl,hi,p⟩;have q:=hl i fh H2 hi p
 by_cases hlt:i<xs.length
 ·refine .inr ⟨⟨xs,xs[i],q,by simp[hlt]⟩,Pv (i+1),λl H' p'=>⟨xs.length-(i+1),by lia,rfl,hlt,p'⟩,λv H' y=>?_⟩;rcases y with⟨p2,x,e1,e2,e3,y⟩;subst e1 e3;exact⟨p2,_,_,rfl,Aa.of AE,hs i x p2 fh H2 (y xs q) p e2⟩
 ·have e:i=xs.length:=by lia
  subst e;exact .inl ⟨⟨xs,q,aP _⟩,hd fh H2 p⟩
theorem T3(dl:qW)(a:Nat):(RI dl a).length<=dl.length:=by unfold RI;rw[aH];exact bK (cE ..) (by rw[bI];exact aP _)
theorem Fw(dl:qW):∀i:Nat,((List.range i).flatMap (RI dl)).length<=i*dl.length
 |0=>az _
 |i+1=>by rw[bP,cM,aU,dz,bg,dD,au];have:=Fw dl i;have:=T3 dl i;lia
theorem IE{p:α->Bool}{j:α}(h:p j=true):[j].filter p=[j]:=by rw[List.filter_cons_of_pos h];rfl
theorem Gm{p:α->Bool}{j:α}(h:p j=false):[j].filter p=[]:=by rw[List.filter_cons_of_neg (by rw[h];decide)];rfl
noncomputable def BL(p:qX):List Bf:=[Sum.inl (p.1:Int),Sum.inl (p.2:Int)]
variable{p q:qX}
theorem IF(h:BL p=BL q):p=q:=by
 unfold BL at h
 injection h with h1 h2
 injection h2 with h2 _
 have a:=Sum.inl.inj h1;have b:=Sum.inl.inj h2;exact Prod.ext (by lia) (by lia)
noncomputable def Ae(A:List (qX))(vs:List V):List (List Bf×V):=List.zipWith (λa v=>(BL a,v)) A vs
theorem BD{A:List (qX)}{vs:List V}(h:vs.length=A.length):(Ae A vs).length=A.length:=by unfold Ae;rw[List.length_zipWith,h,Nat.min_self]
theorem C6:∀{A:List (qX)} {vs:List V} {a:qX},a∉A->Bj (Ae A vs) (BL a)=none
 |[],_,_,_=>rfl
 |_::_,[],_,_=>rfl
 |b::A,v::vs,a,h=>by
  have n1:¬BL b=BL a:=λe=>h (by rw[IF e];exact ai)
  show Bj ((BL b,v)::Ae A vs) (BL a)=none;rw[Cj (show ¬(BL b,v).1=BL a from n1)];exact C6 λe=>h (aa _ e)
theorem Bq:∀{A:List (qX)} {vs:List V} {i:Nat} {a:qX} {v:V},A.Nodup->A[i]?=some a->vs[i]?=some v->Bj (Ae A vs) (BL a)=some v
 |[],_,_,_,_,_,h,_=>by simp at h
 |_::_,[],_,_,_,_,_,h=>by simp at h
 |b::A,v::vs,0,a,w,nd,h1,h2=>by simp at h1 h2;subst h1 h2;exact Dx rfl
 |b::A,v::vs,i+1,a,w,nd,h1,h2=>by
  simp at h1 h2;have nd':=bu.mp nd;have n1:¬BL b=BL a:=λe=>nd'.1 (by rw[IF e];exact ae h1)
  show Bj ((BL b,v)::Ae A vs) (BL a)=some w;rw[Cj (show ¬(BL b,v).1=BL a from n1)];exact Bq nd'.2 h1 h2
theorem Er{A:List (qX)}{vs:List V}{a:qX}{v:V}(hl:vs.length=A.length)(h:a∉A):DE (Ae A vs) (BL a) v=Ae (A++[a]) (vs++[v]):=by rw[Ks _ (C6 h)];unfold Ae;rw[List.zipWith_append hl.symm];rfl
theorem Es{h:Nat}:p∈Be h↔p=(0,0)\/(p.1<h/\p.2<h/\p.1≠p.2):=by unfold Be;rw[aw,d7];refine or_congr Iff.rfl ⟨λz9=>?_,λ⟨h1,h2,h3⟩=>⟨p.1,ak.mpr h1,ao.mpr ⟨p.2,bB.mpr ⟨ak.mpr h2,qH (Ne.symm h3)⟩,rfl⟩⟩⟩;obtain⟨n,hn,hp⟩:=z9;obtain⟨o,ho,rfl⟩:=ao.mp hp;obtain⟨h1,h2⟩:=bB.mp ho;exact⟨ak.mp hn,ak.mp h1,Ne.symm (qN h2)⟩
theorem Jw{h a b:Nat}(ha:a<h)(hb:b<h):B5 (a,b)∈Be h:=by
 rw[Es];unfold B5;split
 ·exact .inl rfl
 ·rename_i e
  exact .inr ⟨ha,hb,e⟩
theorem IG(h:Nat):∀n:Nat,((List.range n).flatMap (ID h)).Nodup
 |0=>cQ
 |n+1=>by
  rw[bP,cM,bg,dD,au,cD];refine⟨IG h n,?_,λx hx y hy e=>?_⟩
  ·unfold ID;exact List.Pairwise.map _ (λa b e z=>e (Prod.mk.inj z).2) (List.nodup_range.filter _)
  ·obtain⟨k,hk,hx⟩:=d7.mp hx;obtain⟨_,_,e1⟩:=ao.mp hx;obtain⟨_,_,e2⟩:=ao.mp hy;have:=ak.mp hk;have a:=qP Prod.fst e1;have b:=qP Prod.fst e2;rw[e]at a;have a:k=y.1:=a;have b:n=y.1:=b;lia
theorem DG(h:Nat):(Be h).Nodup:=by unfold Be;refine bu.mpr ⟨λe=>?_,IG h h⟩;obtain⟨n,_,hp⟩:=d7.mp e;obtain⟨o,ho,e1⟩:=ao.mp hp;have h2:=qN (bB.mp ho).2;have a:=qP Prod.fst e1;have b:=qP Prod.snd e1;have a:n=0:=a;have b:o=0:=b;lia
theorem Et{a b:Nat}:(a,b)∈Aj dl↔a<dl.length/\b<dl.length/\a≠b/\dl.getD a 0=dl.getD b 0:=by
 unfold Aj;rw[d7];constructor
 ·rintro⟨n,hn,hp⟩;obtain⟨o,ho,e⟩:=ao.mp hp;obtain⟨h1,h2⟩:=bB.mp ho;rw[cg]at h2;cases e;exact⟨ak.mp hn,ak.mp h1,Ne.symm (qN h2.2),(qN h2.1).symm⟩
 ·rintro⟨h1,h2,h3,h4⟩;exact⟨a,ak.mpr h1,ao.mpr ⟨b,bB.mpr ⟨ak.mpr h2,by rw[cg];exact⟨qH h4.symm,qH (Ne.symm h3)⟩⟩,rfl⟩⟩
structure D9(K:qV)(H:Hp)(ls:List qR)(A:List (qX))(F:qX->List (qX)):Prop where
 n:ls.length=A.length
 nd:ls.Nodup
 e:∀(i:Nat) (a:qX) (l:qR),A[i]?=some a->ls[i]?=some l->∃ps:List qR,H l=some (.lst (ps.map V.ref))/\Br K H ps (F a)
variable{ls:List qR}{F:qX->List (qX)}
theorem D9.same{K:qV}{A:List (qX)}(e:AG H H')(g:D9 K H ls A F):D9 K H' ls A F:=
 ⟨g.n,g.nd,λi a l h1 h2=>by obtain⟨ps,h3,h4⟩:=g.e i a l h1 h2;exact⟨ps,e _ _ h3,Br.same e h4⟩⟩
theorem D9.snoc{K:qV}{A:List (qX)}(g:D9 K H ls A F){a:qX}(hl:l∉ls)(h:H l=some (.lst []))(hF:F a=[]):D9 K H (ls++[l]) (A++[a]) F:=by
 refine⟨by rw[aU,aU,g.n];rfl,cD.mpr ⟨g.nd,bu.mpr ⟨am,cQ⟩,λx hx y hy e=>hl (by rw[<-aV.mp hy,<-e];exact hx)⟩,λi b k h1 h2=>?_⟩
 by_cases z:i<A.length
 ·rw[bn z]at h1;rw[bn (by rw[g.n];exact z)]at h2;exact g.e i b k h1 h2
 ·rw[bE (by lia)]at h1;rw[bE (by rw[g.n];lia),g.n]at h2;have z0:i-A.length=0:=by have:=(aN.mp h1).1;simp at this;lia
  rw[z0]at h1 h2;cases h1;cases h2;exact⟨[],h,by rw[hF];exact .nil⟩
noncomputable def Gx(G h:Nat)(W:List (qX))(p:qX):List (qX):=(W.filter λx=>decide (B5 (x.1/G,x.2/G)=p)).map λx=>B5 (x.1%h,x.2%h)
inductive Np(P:qT)(w:qU)(K:qV)(vs:List V)(H:Hp)(Q:VK)(z3_:XK):Prop
 |m (r:qR) (g lo:Int) (dl:qW) (m:Nat):vs=[.ref r]->Av H r g lo dl m->g^(m-1)<=9->(∀d H' ls,AG H H'->H d=none->(∀l∈ls,H l=none)->DW P w K H' d (Ae (Be (dl.length/g.toNat)) (ls.map V.ref))->D9 K H' ls (Be (dl.length/g.toNat)) (Gx g.toNat (dl.length/g.toNat) (Aj dl))->Q (.ref d) H')->Np P w K vs H Q z3_
section
variable{P:qT}{w:qU}{K:qV}{d:qR}{kvs:List (List Bf×V)}
theorem DW.lst(z:DW P w K H d kvs){b:qR}(h:H b=some (.lst xs))(u:HO):AV H d u b=some (.lst xs):=by obtain⟨bs,h1,_⟩:=z;rw[AL (Cc h h1 λy=>nomatch y)];exact h
theorem DW.prv(z:DW P w K H d kvs){ps:List qR}(h:Br K H ps L)(u:HO):Br K (AV H d u) ps L:=by obtain⟨bs,h1,_⟩:=z;exact Paired.mapP h λ_ _ y=>y.upd' h1
theorem DW.grl(z:DW P w K H d kvs){A:List (qX)}(g:D9 K H ls A F)(u:HO):D9 K (AV H d u) ls A F:=
 ⟨g.n,g.nd,λi a l h1 h2=>by obtain⟨ps,h3,h4⟩:=g.e i a l h1 h2;exact⟨ps,z.lst h3 u,z.prv h4 u⟩⟩
theorem D9.out{A:List (qX)}(g:D9 K H ls A F)(h:H l=none):l∉ls:=λz=>by
 obtain⟨i,hi⟩:=ay.mp z;have hlt:=(aN.mp hi).1;have hA:i<A.length:=by rw[<-g.n];exact hlt
 obtain⟨ps,h3,_⟩:=g.e i A[i] l (aJ hA) hi;rw[h]at h3;cases h3
end
theorem EH{A:List (qX)}(nd:A.Nodup){i:Nat}{a:qX}(h:A[i]?=some a):a∉A.take i:=λz=>by
 obtain⟨j,hj⟩:=ay.mp z;rw[List.getElem?_take]at hj
 split at hj
 ·rename_i lt
  have a1:=aN.mp h;have a2:=aN.mp hj;have:=(dP (h₀:=a2.1) (h₁:=a1.1) nd).mp (by rw[a2.2,a1.2]);lia
 ·cases hj
section
variable{P:qT}{w:qU}{K:qV}{d:qR}{kvs:List (List Bf×V)}
theorem DW.updL(z:DW P w K H d kvs)(hl:H l=some (.lst xs))(u:HO):DW P w K (AV H l u) d kvs:=by obtain⟨bs,h1,h3,h4⟩:=z;exact⟨bs,by rw[AL (Cc h1 hl λy=>nomatch y)];exact h1,h3,λp hp=>Aa.updL hl (h4 p hp)⟩
theorem D9.push{A:List (qX)}{F':qX->List (qX)}(g:D9 K H ls A F)(nd:A.Nodup){a:qX}{ps:List qR}{q:qR}{x:qX}(hj:A[j]?=some a)(hl:ls[j]?=some l)(h:H l=some (.lst (ps.map V.ref)))(hp:Br K H ps (F a))(hq:Aa K H q (Ik x))
  (hF:∀b,F' b=if a=b then F b++[x] else F b):D9 K (AV H l (.lst ((ps++[q]).map V.ref))) ls A F':=by
 refine⟨g.n,g.nd,λi b k h1 h2=>?_⟩
 by_cases e:i=j
 ·subst e;rw[hj]at h1;rw[hl]at h2;cases h1;cases h2;refine⟨_,AE,?_⟩;rw[hF,qF rfl];exact Paired.app (Br.upd h hp) (.cons (Aa.updL h hq) .nil)
 ·have nk:k≠l:=λz=>by
   have a1:=aN.mp h2;have a2:=aN.mp hl;exact e ((dP (h₀:=a1.1) (h₁:=a2.1) g.nd).mp (by rw[a1.2,a2.2,z]))
  have nb:¬a=b:=λz=>by have a1:=aN.mp h1;have a2:=aN.mp hj;exact e ((dP (h₀:=a1.1) (h₁:=a2.1) nd).mp (by rw[a1.2,a2.2,z]))
  obtain⟨ps',h3,h4⟩:=g.e i b k h1 h2;refine⟨ps',by rw[AL nk];exact h3,?_⟩;rw[hF,qE nb];exact Br.upd h h4
end
theorem RL{h:Nat}{W:List (qX)}{i:Nat}{x:qX}(hx:W[i]?=some x)(b:qX):Gx G h (W.take (i+1)) b=if B5 (x.1/G,x.2/G)=b then Gx G h (W.take i) b++[B5 (x.1%h,x.2%h)] else Gx G h (W.take i) b:=by
 unfold Gx;rw[bo,hx,cA,aZ]
 by_cases e:B5 (x.1/G,x.2/G)=b
 ·rw[qF e,show (some x).toList=[x] from rfl,IE (p:=λx:Nat×Nat=>decide (B5 (x.1/G,x.2/G)=b)) (qH e)];rfl
 ·rw[qE e,show (some x).toList=[x] from rfl,Gm (p:=λx:Nat×Nat=>decide (B5 (x.1/G,x.2/G)=b)) (qI e)];exact au _
theorem Nq(G h:Nat)(W:List (qX))(p:qX):(Gx G h W p).length<=W.length:=by unfold Gx;rw[aH];exact cE ..
structure Nr(A:List (qX))(F:qX->List (qX))(A2:List (qX))(B:qX->List (qX)):Prop where
 nd:A2.Nodup
 all:∀p,p∈A2↔p∈A
 on:∀p q,q∈B p↔q∈A/\p∈F q
 len:∀p,(B p).length<=7000000
inductive Nt(P:qT)(w:qU)(K:qV)(vs:List V)(H:Hp)(Q:VK)(z3_:XK):Prop
 |m (d:qR) (u:HO) (ls:List qR) (A:List (qX)) (F:qX->List (qX)):vs=[.ref d]->DR P w K H d u (Ae A (ls.map V.ref))->D9 K H ls A F->A.Nodup->(∀a∈A,∀p∈F a,p∈A)->A.length<=100->(∀a∈A,(F a).length<=70000)->(∀u' H' d2 ls2 A2 B,AG (AV H d u') H'->DR P w K H' d u' (Ae A (ls.map V.ref))->H d2=none->(∀l∈ls2,H l=none)->DW P w K H' d2 (Ae A2 (ls2.map V.ref))->D9 K H' ls2 A2 B->Nr A F A2 B->Q (.ref d2) H')->Nt P w K vs H Q z3_
variable{d2:qR}
section
variable{P:qT}{w:qU}{K:qV}{d:qR}{u:HO}{kvs:List (List Bf×V)}
theorem DR.updL(z:DR P w K H d u kvs)(hl:H l=some (.lst xs))(v:HO):DR P w K (AV H l v) d u kvs:=by
 rcases z with⟨bs,h1,h2,h3,h4⟩
 have ne:d≠l:=by
  refine Cc h1 hl λy=>?_;rcases h2 with e|⟨o,e⟩
  ·rw[e]at y;cases y
  ·rw[e]at y;cases y
 exact⟨bs,by rw[AL ne];exact h1,h2,h3,λp hp=>Aa.updL hl (h4 p hp)⟩
theorem DR.updX(z:DR P w K H d u kvs){kvs2:List (List Bf×V)}(x:DW P w K H d2 kvs2)(ne:d≠d2)(v:HO):DR P w K (AV H d2 v) d u kvs:=by rcases z with⟨bs,h1,h2,h3,h4⟩;obtain⟨bs2,g1,_⟩:=x;exact⟨bs,by rw[AL ne];exact h1,h2,h3,λp hp=>(h4 p hp).upd' g1⟩
end
def U3(P:qT)(w:qU)(K:qV)(H HX:Hp)(d2:qR)(A2:List (qX))(B:qX->List (qX)):Prop:=∃ls2:List qR,(∀l∈ls2,H l=none)/\DW P w K HX d2 (Ae A2 (ls2.map V.ref))/\D9 K HX ls2 A2 B
variable{HX:Hp}{A2:List (qX)}{B:qX->List (qX)}{ls2:List qR}
theorem RM{P:qT}{w:qU}{K:qV}{k:qX}{u:HO}(ln:∀l∈ls2,H l=none)(w0:DW P w K HX d2 (Ae A2 (ls2.map V.ref)))(g:D9 K HX ls2 A2 B)(hl:HX l=some (.lst []))(nl:l∉ls2)(h0:H l=none)(hk:k∉A2)(hB:B k=[])
  (w1:DW P w K (AV HX d2 u) d2 (DE (Ae A2 (ls2.map V.ref)) (BL k) (.ref l))):(∀x∈ls2++[l],H x=none)/\DW P w K (AV HX d2 u) d2 (Ae (A2++[k]) ((ls2++[l]).map V.ref))/\D9 K (AV HX d2 u) (ls2++[l]) (A2++[k]) B:=by
 rw[Er (by rw[aH];exact g.n) hk]at w1;refine⟨λx hx=>?_,by rw[aZ];exact w1,(w0.grl g u).snoc nl (w0.lst hl u) hB⟩;rcases aR.mp hx with z|z
 ·exact ln x z
 ·rw[aV.mp z];exact h0
theorem U3.put{P:qT}{w:qU}{K:qV}{k:qX}{u:HO}(ln:∀l∈ls2,H l=none)(w0:DW P w K HX d2 (Ae A2 (ls2.map V.ref)))(g:D9 K HX ls2 A2 B)(hl:HX l=some (.lst []))(nl:l∉ls2)(h0:H l=none)(hk:k∉A2)(hB:B k=[])
  (w1:DW P w K (AV HX d2 u) d2 (DE (Ae A2 (ls2.map V.ref)) (BL k) (.ref l))):U3 P w K H (AV HX d2 u) d2 (A2++[k]) B:=⟨_,RM ln w0 g hl nl h0 hk hB w1⟩
structure Pm(A:List (qX))(F:qX->List (qX))(i:Nat)(D:(qX)->(qX)->Prop)(n:Nat)(A2:List (qX))(B:qX->List (qX)):Prop where
 nd:A2.Nodup
 sub:∀p∈A2,p∈A
 got:∀p∈A.take i,p∈A2
 no:∀p,p∉A2->B p=[]
 on:∀p q,q∈B p↔(q∈A.take i/\p∈F q)\/D p q
 len:∀p,(B p).length<=n
theorem Pm.key{A:List (qX)}{i n:Nat}{D:(qX)->(qX)->Prop}(t:Pm A F i D n A2 B){k:qX}(hk:k∉A2)(hA:k∈A):Pm A F i D n (A2++[k]) B where
 nd:=cD.mpr ⟨t.nd,bu.mpr ⟨am,cQ⟩,λx hx y hy e=>hk (by rw[<-aV.mp hy,<-e];exact hx)⟩
 sub:=λp hp=>(aR.mp hp).elim (t.sub p) λz=>by rw[aV.mp z];exact hA
 got:=λp hp=>aR.mpr (.inl (t.got p hp))
 no:=λp hp=>t.no p λz=>hp (aR.mpr (.inl z))
 on:=t.on
 len:=t.len
section
variable{P:qT}{w:qU}{K:qV}{d:qR}{u:HO}{kvs:List (List Bf×V)}
theorem DR.isX(z:DR P w K H d u kvs):∃φ,H d=some u/\(u=.ext φ\/∃o,u=.frz o (.ext φ)):=by rcases z with⟨bs,h1,h2,_⟩;exact⟨_,h1,h2⟩
theorem DR.sqt(z:DR P w K H d u kvs)(q:Aa K H a xs)(v:HO):Aa K (AV H d v) a xs:=by
 obtain⟨φ,h1,h2⟩:=z.isX;have ne:∀{b:qR} {y:HO},H b=some y->y≠u->b≠d:=λ{b y} hb n e=>n (by rw[e,h1]at hb;exact (Option.some.inj hb).symm)
 rcases q with (y|⟨o,y⟩)|y
 ·exact .inl (.inl (by rw[AL (ne y (by rcases h2 with e|⟨o',e⟩<;>rw[e]<;>exact λt=>nomatch t))];exact y))
 ·exact .inl (.inr ⟨o,by rw[AL (ne y (by rcases h2 with e|⟨o',e⟩<;>rw[e]<;>intro t<;>cases t))];exact y⟩)
 ·exact .inr y
theorem DR.lst(z:DR P w K H d u kvs){b:qR}(h:H b=some (.lst xs))(v:HO):AV H d v b=some (.lst xs):=by
 obtain⟨φ,h1,h2⟩:=z.isX
 have ne:b≠d:=λe=>by rw[e,h1]at h;have h:=Option.some.inj h;rcases h2 with t|⟨o,t⟩<;>rw[t]at h<;>cases h
 rw[AL ne];exact h
theorem DR.grl(z:DR P w K H d u kvs){A:List (qX)}(g:D9 K H ls A F)(v:HO):D9 K (AV H d v) ls A F:=
 ⟨g.n,g.nd,λi a l h1 h2=>by obtain⟨ps,h3,h4⟩:=g.e i a l h1 h2;exact⟨ps,z.lst h3 v,Paired.mapP h4 λ_ _ y=>z.sqt y v⟩⟩
theorem D9.keep{A:List (qX)}(g:D9 K H ls A F)(hl:H l=some (.lst xs))(nl:l∉ls)(v:HO):D9 K (AV H l v) ls A F:=
 ⟨g.n,g.nd,λi a k h1 h2=>by obtain⟨ps,h3,h4⟩:=g.e i a k h1 h2;exact⟨ps,by rw[AL λe=>nl (by rw[<-e];exact ae h2)];exact h3,Br.upd hl h4⟩⟩
theorem AG.both{H0:Hp}(e:AG H H0)(d:qR)(v:HO):AG (AV H d v) (AV H0 d v):=λb y h=>by
 by_cases z:b=d
 ·subst z;rw[AE]at h⊢;exact h
 ·rw[AL z]at h⊢;exact e b y h
end
theorem Jx{A:List (qX)}{i:Nat}{k:List Bf}{v:V}(h:(Ae A (ls.map V.ref))[i]?=some (k,v)):∃a l,A[i]?=some a/\ls[i]?=some l/\k=BL a/\v=.ref l:=by
 unfold Ae at h;rw[dA,aQ]at h;cases ha:A[i]? with
 |none=>rw[ha]at h;simp at h
 |some a =>
  cases hl:ls[i]? with
  |none=>rw[ha,hl]at h;simp at h
  |some l =>
   rw[ha,hl]at h;simp at h;exact⟨a,l,rfl,rfl,h.1.symm,h.2.symm⟩
theorem Pm.push{A:List (qX)}{i n:Nat}{a p0:qX}(t:Pm A F i (λp q=>q=a/\p∈L.take j) n A2 B)(hp:L[j]?=some p0)(m:p0∈A2):Pm A F i (λp q=>q=a/\p∈L.take (j+1)) (n+1) A2 (λp=>if p0=p then B p++[a] else B p) where
 nd:=t.nd
 sub:=t.sub
 got:=t.got
 no:=λp h=>by rw[qE λe=>h (by rw[<-e];exact m)];exact t.no p h
 on:=λp q=>by
  rw[bo,hp,show (some p0).toList=[p0] from rfl,aR,aV]
  by_cases e:p0=p
  ·rw[qF e,aR,aV,t.on];constructor
   ·rintro ((h|⟨h1,h2⟩)|h)
    ·exact .inl h
    ·exact .inr ⟨h1,.inl h2⟩
    ·exact .inr ⟨h,.inr e.symm⟩
   ·rintro (h|⟨h1,_⟩)
    ·exact .inl (.inl h)
    ·exact .inr h1
  ·rw[qE e,t.on];constructor
   ·rintro (h|⟨h1,h2⟩)
    ·exact .inl h
    ·exact .inr ⟨h1,.inl h2⟩
   ·rintro (h|⟨h1,h2|h2⟩)
    ·exact .inl h
    ·exact .inr ⟨h1,h2⟩
    ·exact qG h2.symm e
 len:=λp=>by
  have:=t.len p
  by_cases e:p0=p
  ·rw[qF e,aU,bW];lia
  ·rw[qE e];lia
structure Nu(A:List (qX))(B:qX->List (qX))(M:List (qX))(f:qX->Nat):Prop where
 nd:M.Nodup
 sub:∀p∈M,p∈A
 low:∀p∈M,∀q∈B p,q∈M/\f q<f p
 top:∀p∈M,f p=0\/∃q∈B p,q∈M/\f p=f q+1
 rest:∀p∈A,p∉M->∃q∈B p,q∉M
 few:∀p∈M,f p<=A.length
inductive RN(P:qT)(w:qU)(K:qV)(vs:List V)(H:Hp)(Q:VK)(z3_:XK):Prop
 |m (d:qR) (u:HO) (ls:List qR) (A:List (qX)) (B:qX->List (qX)):vs=[.ref d]->DR P w K H d u (Ae A (ls.map V.ref))->D9 K H ls A B->A.Nodup->(∀a∈A,∀p∈B a,p∈A)->A.length<=100->(∀a∈A,(B a).length<=7000000)->(∀u' H' d2 M f,AG (AV H d u') H'->DR P w K H' d u' (Ae A (ls.map V.ref))->H d2=none->DW P w K H' d2 (Ae M (M.map λp=>V.int (f p:Int)))->Nu A B M f->Q (.ref d2) H')->RN P w K vs H Q z3_
theorem Mf{K:qV}(h:X.K=K)(hc:X.calm=true):CT X (.builtin "all") (λxs H Q=>∃(p:qR) (bs:List Bool),xs=[.ref p]/\Af K H p (bs.map V.bl)/\Q (.bl (bs.all id)) H):=h▸Kr hc
theorem RO{K:qV}(h:X.K=K):Fa X (binaryOp .Add) (Ug K):=h▸TN
theorem Fx{K:qV}(h:X.K=K)(hu:X.A.units+64<cLine):Fa X (compareOp .NotEq) (V1 K):=h▸V2 hu
theorem RP{K:qV}{l:Expr}(h:X.K=K)(hl:PE X l tl):PI X tg l (P0 K tl):=h▸M7 hl
structure RQ(A:List (qX))(B:qX->List (qX))(M:List (qX))(f:qX->Nat)(FL:List (qX))(n:Nat):Prop where
 nd:M.Nodup
 sub:∀p∈M,p∈A
 ndF:FL.Nodup
 on:∀p,p∈FL↔p∈A/\p∉M/\∀q∈B p,q∈M
 lt:∀p∈M,f p<n
 low:∀p∈M,∀q∈B p,q∈M/\f q<f p
 top:∀p∈M,f p=0\/∃q∈B p,q∈M/\f p=f q+1
 due:∀p∈FL,n=0\/∃q∈B p,q∈M/\n=f q+1
 le:n<=M.length
theorem RS{A:List (qX)}(nd:A.Nodup)(f:qX->Nat):RQ A B [] f (A.filter λp=>decide (B p=[])) 0 where
 nd:=cQ
 sub:=λp hp=>qG hp am
 ndF:=nd.filter _
 on:=λp=>by
  rw[bB,decide_eq_true_eq];refine and_congr Iff.rfl ⟨λe=>⟨am,λq hq=>?_⟩,λ⟨_,e⟩=>?_⟩
  ·rw[e]at hq;exact hq
  ·exact List.eq_nil_iff_forall_not_mem.mpr λq hq=>qG (e q hq) am
 lt:=λp hp=>qG hp am
 low:=λp hp=>qG hp am
 top:=λp hp=>qG hp am
 due:=λ_ _=>.inl rfl
 le:=aP _
noncomputable def WH(M:List (qX))(f:qX->Nat)(n:Nat):qX->Nat:=λp=>if p∈M then f p else n
variable{M:List (qX)}{f:qX->Nat}
theorem EI{n:Nat}(h:p∈M):WH M f n p=f p:=qF h
theorem Fy{n:Nat}(h:p∉M):WH M f n p=n:=qE h
theorem RQ.step{A:List (qX)}{FL:List (qX)}{n:Nat}(m:RQ A B M f FL n)(ndA:A.Nodup)(h:FL≠[]):
  RQ A B (M++FL) (WH M f n) (A.filter λp=>decide (p∉M++FL)&&decide (∀q∈B p,q∈M++FL)) (n+1):=by
 have out:∀p∈FL,p∉M:=λp hp=>((m.on p).mp hp).2.1
 refine⟨cD.mpr ⟨m.nd,m.ndF,λx hx y hy e=>out y hy (by rw[<-e];exact hx)⟩,λp hp=>?_,ndA.filter _,λp=>?_,λp hp=>?_,λp hp q hq=>?_,λp hp=>?_,λp hp=>?_,?_⟩
 ·rcases aR.mp hp with z|z
  ·exact m.sub p z
  ·exact ((m.on p).mp z).1
 ·rw[bB,cg,decide_eq_true_eq,decide_eq_true_eq]
 ·rcases aR.mp hp with z|z
  ·rw[EI z];have:=m.lt p z;lia
  ·rw[Fy (out p z)];lia
 ·rcases aR.mp hp with z|z
  ·obtain⟨h1,h2⟩:=m.low p z q hq;rw[EI z,EI h1];exact⟨aR.mpr (.inl h1),h2⟩
  ·have h1:=((m.on p).mp z).2.2 q hq;rw[Fy (out p z),EI h1];exact⟨aR.mpr (.inl h1),m.lt q h1⟩
 ·rcases aR.mp hp with z|z
  ·rcases m.top p z with e|⟨q,hq,h1,e⟩
   ·rw[EI z];exact .inl e
   ·exact .inr ⟨q,hq,aR.mpr (.inl h1),by rw[EI z,EI h1];exact e⟩
  ·rw[Fy (out p z)];rcases m.due p z with e|⟨q,hq,h1,e⟩
   ·exact .inl e
   ·exact .inr ⟨q,hq,aR.mpr (.inl h1),by rw[EI h1];exact e⟩
 ·rw[bB,cg,decide_eq_true_eq,decide_eq_true_eq]at hp;obtain⟨pA,pn,pq⟩:=hp;refine .inr ?_
  by_cases all:∀q∈B p,q∈M
  ·exact qG (aR.mpr (.inr ((m.on p).mpr ⟨pA,λz=>pn (aR.mpr (.inl z)),all⟩))) pn
  ·obtain⟨q,hq⟩:=Classical.not_forall.mp all;obtain⟨hq,nq⟩:=Classical.not_imp.mp hq;exact⟨q,hq,pq q hq,by rw[Fy nq]⟩
 ·have:0<FL.length:=dN.mpr h;have:=m.le;rw[aU];lia
theorem RQ.few{A:List (qX)}{FL:List (qX)}{n:Nat}(m:RQ A B M f FL n):M.length+FL.length<=A.length:=by
 rw[<-aU];refine (cD.mpr ⟨m.nd,m.ndF,λx hx y hy e=>((m.on y).mp hy).2.1 (by rw[<-e];exact hx)⟩).length_le_of_subset λp hp=>?_;rcases aR.mp hp with z|z
 ·exact m.sub p z
 ·exact ((m.on p).mp z).1
theorem RQ.done{A:List (qX)}{n:Nat}(m:RQ A B M f [] n):Nu A B M f where
 nd:=m.nd
 sub:=m.sub
 low:=m.low
 top:=m.top
 rest:=λp hp np=>by
  by_cases all:∀q∈B p,q∈M
  ·exact qG ((m.on p).mpr ⟨hp,np,all⟩) am
  ·obtain⟨q,hq⟩:=Classical.not_forall.mp all;obtain⟨hq,nq⟩:=Classical.not_imp.mp hq;exact⟨q,hq,nq⟩
 few:=λp hp=>by have:=m.lt p hp;have:=m.le;have:=m.few;lia
def ZE(P:qT)(w:qU)(K:qV)(H:Hp)(d d2:qR)(ls:List qR)(A:List (qX))(B:qX->List (qX))(D:qR)(M:List (qX))(f:qX->Nat)(FL:List (qX))(HX:Hp):Prop:=
 ∃u' ps,AG (AV H d u') HX/\DR P w K HX d u' (Ae A (ls.map V.ref))/\D9 K HX ls A B/\H D=none/\HX D=some (.lst (ps.map V.ref))/\Br K HX ps FL/\DW P w K HX d2 (Ae M (M.map λp=>V.int (f p:Int)))
theorem FT:(Bj (Ae M (M.map λp=>V.int (f p:Int))) (BL p)).isSome=decide (p∈M):=by
 by_cases h:p∈M
 ·obtain⟨i,hi⟩:=ay.mp h;rw[qH h]
  suffices ∀(M:List (qX)),p∈M->(Bj (Ae M (M.map λp=>V.int (f p:Int))) (BL p)).isSome=true from this M h
  intro M
  induction M with
  |nil=>intro z;exact qG z am
  |cons a M ih =>
   intro z;show (Bj ((BL a,V.int (f a:Int))::Ae M (M.map λp=>V.int (f p:Int))) (BL p)).isSome=true
   by_cases e:a=p
   ·rw[Dx (show (BL a,V.int (f a:Int)).1=BL p by rw[e])];rfl
   ·rw[Cj (show ¬(BL a,V.int (f a:Int)).1=BL p from λy=>e (IF y))];exact ih ((aw.mp z).resolve_left λy=>e y.symm)
 ·rw[C6 h,qI h];rfl
theorem Dy{L:List α}{i:Nat}{a:α}{p:α->Bool}(h:L[i]?=some a):(L.take (i+1)).filter p=(L.take i).filter p++(if p a=true then[a] else[]):=by
 rw[bo,h,show (some a).toList=[a] from rfl,cA]
 by_cases e:p a=true
 ·rw[qF e,IE e]
 ·rw[qE e,Gm (by cases z:p a;rfl;exact qG z e)]
end L2
namespace L2
open PySem PySem.Spec PyProof.Rows
variable{E:qQ->qS->Prop}{j:Nat}{us:List qQ}{α β:Type}
theorem Mg(b:Bool)(x y:qQ):keyLt' (tuples' b) x y=(do
  let xs <-Builtin.List.listItems x
  let ys <-Builtin.List.listItems y
  for ((p,q),i) in (xs.toList.zip ys.toList).zipIdx do
   if !(<-eqBool p q) then return <-oneLt' (b&&i==0) p q
  return decide (xs.size<ys.size)):=rfl
variable{vs:List qQ}
section
variable{prog:qT}{w:qU}{A:Around}{s:qS}
theorem Mh(o:Bool){a b:Int}{t u:Tok}{Q:Bool->qS->Prop}(h:Q (decide (a<b)) s):wpAny (model prog w) A (oneLt' o (.int a t) (.int b u)) Q E s:=by
 cases o with
 |true=>exact oneLt_int h
 |false =>
  rw[oneLt'_eq];simp only[Bool.false_eq_true,if_false];refine qC ((lt_int ?_:wpAny (model prog w) A (compareOp .Lt (.int a t) (.int b u)) _ E s));exact wpAny_truthy_bool h
theorem PD(b:Bool){x y:qR}{ws:List qQ}{ns ms:qW}(hx:IsTup s.heap x vs.toArray)(hy:IsTup s.heap y ws.toArray)(iv:IntsAre vs ns)(iw:IntsAre ws ms){Q:Bool->qS->Prop}(h:Q (HT.Cd ns ms) s):
  wpAny (model prog w) A (keyLt' (tuples' b) (.ref x) (.ref y)) Q E s:=by
 rcases hx with⟨ox,gx,_,nx,dx⟩;rcases hy with⟨oy,gy,_,ny,dy⟩;rw[Mg];refine qC (listItems_at gx dx (qC (listItems_at gy dy ?_)));have l1:vs.length=ns.length:=iv.length;have l2:ws.length=ms.length:=iw.length
 refine qC (qM (wpAny_forIn_list _ (λrest c s'=>c=(none,())/\s'=s/\∃(k:Nat) (vs' ws':List qQ) (ns' ms':qW),rest=(vs'.zip ws').zipIdx k/\IntsAre vs' ns'/\IntsAre ws' ms'/\ns'.length+ms.length=ms'.length+ns.length/\HT.Cd ns' ms'=HT.Cd ns ms)
  (λc s'=>s'=s/\(c=(some (HT.Cd ns ms),())\/(c=(none,())/\decide (ns.length<ms.length)=HT.Cd ns ms))) ?_ ?_ _ _ ⟨rfl,rfl,0,vs,ws,ns,ms,by simp,iv,iw,Nat.add_comm ..,rfl⟩) ?_ λ_ _ e=>e)
 ·rintro⟨⟨p,q⟩,i⟩ rest c s' ⟨rfl,rfl,j,vs',ws',ns',ms',hz,hv,hw,hl,he⟩;cases hv with
  |nil=>simp at hz
  |cons a t hv' =>
   cases hw with
   |nil=>simp at hz
   |cons c u hw' =>
    rw[List.zip_cons_cons,List.zipIdx_cons]at hz
    injection hz with h1 h2
    injection h1 with h1 h3
    injection h1 with h4 h5
    subst h4 h5;rw[HT.EC]at he;refine qC (wpAny_eqBool_int ?_)
    by_cases e:a=c
    ·rw[qF e]at he;rw[show (a==c)=true by simp[e]];refine qD ⟨rfl,rfl,_,_,_,_,_,h2,hv',hw',?_,he⟩;simp only[List.length_cons]at hl;lia
    ·rw[qE e]at he;rw[show (a==c)=false by simp[e]];refine qC (Mh _ (qD ⟨rfl,.inl ?_⟩));rw[he]
 ·intro c s' hRq;rcases hRq with⟨rfl,rfl,j,vs',ws',ns',ms',hz,hv,hw,hl,he⟩;refine⟨rfl,.inr ⟨rfl,?_⟩⟩;rw[<-he];cases hv with
  |nil =>
   cases hw with
   |nil =>
    simp only[List.length_nil]at hl;rw[HT.Di,qI (by lia)]
   |cons c u hw' =>
    simp only[List.length_nil,List.length_cons]at hl;rw[HT.HL,qH (by lia)]
  |cons a t hv' =>
   cases hw with
   |nil =>
    simp only[List.length_nil,List.length_cons]at hl;rw[HT.DB,qI (by lia)]
   |cons c u hw'=>simp at hz
 ·rintro c s' ⟨rfl,z|⟨z,y⟩⟩
  ·subst z;exact qD h
  ·subst z;refine qD ?_;rw[show decide (vs.toArray.size<ws.toArray.size)=HT.Cd ns ms by rw[<-y,bV,bV,l1,l2]];exact h
theorem GR(v:qQ):firstOfTuple' v=(do
  if (<-typeOf v) != .type "tuple" then return none
  return (<-Builtin.List.listItems v)[0]?):=rfl
def RT(h:Heap)(v:qQ):Prop:=∃(t:qR) (vs:List qQ) (ns:qW),v=.ref t/\IsTup h t vs.toArray/\IntsAre vs ns/\ns≠[]
theorem PH{v:qQ}(h:RT s.heap v){Q:Option qQ->qS->Prop}(q:∀n t,Q (some (.int n t)) s):wpAny (model prog w) A (firstOfTuple' v) Q E s:=by
 rcases h with⟨t,vs,ns,rfl,⟨o,g,c,m,d⟩,i,ne⟩;rw[GR];refine qC (wpAny_typeOf (T:="tuple") ⟨o,g,c⟩ ?_);rw[qE (by simp)];refine qC (listItems_at g d (qD ?_));cases i with
 |nil=>exact qG rfl ne
 |cons n t i=>exact q n t
theorem IH{f:α->Sem β}{R:β->Prop}{Q:List β->qS->Prop}:∀(l:List α),(∀x∈l,∀Q':β->qS->Prop,(∀y,R y->Q' y s)->wpAny (model prog w) A (f x) Q' E s)->(∀ys,ys.length=l.length->(∀y∈ys,R y)->Q ys s)->wpAny (model prog w) A (l.mapM f) Q E s
 |[],_,q=>by rw[List.mapM_nil];exact qD (q [] rfl λ_ z=>qG z am)
 |x::l,h,q=>by
  rw[List.mapM_cons];refine qC (h x ai _ λy hy=>qC (IH l (λz hz=>h z (aa _ hz)) λys hl hys=>qD (q (y::ys) (by rw[bD,bD,hl]) λz hz=>?_)));rcases aw.mp hz with e|e
  ·rw[e];exact hy
  ·exact hys z e
theorem RU{v₁ v₂:qQ}(h:∀v∈v₁::v₂::vs,RT s.heap v){Q:SortKind->qS->Prop}(q:∀b,Q (tuples' b) s):wpAny (model prog w) A (keyKind' (v₁::v₂::vs).toArray) Q E s:=by
 rw[keyKind'_eq,List.mapM_toArray];refine qC (wpAny_map ?_);refine IH (R:=λy=>∃n t,y=some (.int n t)) (v₁::v₂::vs) (λv hv Q' q'=>PH (h v hv) λn t=>q' _ ⟨n,t,rfl⟩) λys hl hys=>?_
 have al:(ys.toArray.all λx=>x.isSome)=true:=by rw[List.all_toArray,eg];intro y hy;obtain⟨n,t,e⟩:=hys y hy;rw[e];rfl
 rw[qF al];refine qC (wpAny_rule (qC ?_));rw[oneTypeOnly'_eq,List.filterMap_toArray,List.mapM_toArray];refine qC (wpAny_map (IH (R:=λ_=>True) _ (λv hv Q' q'=>?_) λts _ _=>?_))
 ·obtain⟨y,hy,e⟩:=List.mem_filterMap.mp hv;obtain⟨n,t,e2⟩:=hys y hy;rw[e2]at e;have e:v=.int n t:=(Option.some.inj e).symm;rw[e];exact wpAny_typeOf (typeIs_int s n t) (q' _ True.intro)
 ·split
  ·exact qD (qD (q _))
  ·exact qD (qD (q _))
end
theorem PJ{ws:List qQ}(p:us.Perm ws):∀{xs:List V},Au xs ws->∃zs,zs.Perm xs/\Au zs us:=by
 induction p with
 |nil=>intro xs h;exact⟨xs,.refl _,h⟩
 |cons a _ ih =>
  intro xs h;cases h with
  |cons r h =>
   obtain⟨zs,p1,v1⟩:=ih h;exact⟨_::zs,p1.cons _,.cons r v1⟩
 |swap a b l =>
  intro xs h;cases h with
  |cons r h =>
   cases h with
   |cons r2 h=>exact⟨_,.swap ..,.cons r2 (.cons r h)⟩
 |trans _ _ ih1 ih2 =>
  intro xs h;obtain⟨zs,p2,v2⟩:=ih2 h;obtain⟨ys,p1,v1⟩:=ih1 v2;exact⟨ys,p1.trans p2,v1⟩
theorem EJ:∀{ns:qW} {us:List qQ},Au (ns.map V.int) us->IntsAre us ns:=by
 intro ns
 induction ns with
 |nil=>intro us h;cases h;exact .nil
 |cons n ns ih =>
  intro us h;cases h with
  |cons a b=>obtain⟨t,e⟩:=a;subst e;exact .cons n t (ih b)
noncomputable def Jy:Bool->Keyed->Array Keyed->Nat->Nat->Nat->StateT SortSt Sem (Option Nat):=sortPriv% PySem.Builtin.gallop
def WI(prog:qT)(w:qU)(A:Around)(s:qS)(k:SortKind)(a₀:Array Keyed)(L:Keyed->Keyed->Bool):Prop:=
 ∀x∈a₀.toList,∀y∈a₀.toList,∀(E:qQ->qS->Prop) (Q:Bool->qS->Prop),Q (L x y) s->wpAny (model prog w) A (keyLt' k x.1 y.1) Q E s
structure YE(b:Nat->Bool)(n k:Nat):Prop where
 le:k<=n
 lo:∀i,i<k->b i=true
 hi:∀i,k<=i->i<n->b i=false
variable{y:Keyed}{arr:Array Keyed}{hint:Nat}
section
variable{prog:qT}{w:qU}{A:Around}{s:qS}{k:SortKind}{a₀:Array Keyed}{L:Keyed->Keyed->Bool}{st:SortSt}
theorem RV(hc:WI prog w A s k a₀ L)(hk:kindOf st=k){x:Keyed}(mx:x∈a₀.toList)(my:y∈a₀.toList){Q:Option Bool->SortSt->Prop}(h:Q (some (L x y)) st):wpS (model prog w) A E s (lt' x y) Q st:=by rw[lt'_eq];refine qJ (wpS_get ?_);rw[hk];exact qJ (wpS_lift (wpAny_attempt (hc x mx y my _ _ ⟨rfl,qK h⟩)))
noncomputable def Jz(L:Keyed->Keyed->Bool)(left:Bool)(key:Keyed)(arr:Array Keyed)(base i:Nat):Bool:=
 match arr[base+i]? with
 |some x=>if left then L x key else !L key x
 |none=>false
theorem K5(hc:WI prog w A s k a₀ L)(hk:kindOf st=k){left:Bool}{key:Keyed}{base n:Nat}(mk:key∈a₀.toList)(ma:∀x∈arr.toList,x∈a₀.toList)(hb:base+n<=arr.size)(hh:hint<n)
  (mono:∀i j,i<j->j<n->Jz L left key arr base j=true->Jz L left key arr base i=true) {Q:Option Nat->SortSt->Prop} (h:∀r,YE (Jz L left key arr base) n r->Q (some r) st):wpS (model prog w) A E s (Jy left key arr base n hint) Q st:=by
 obtain⟨b,hbe⟩:∃b,b=Jz L left key arr base:=⟨_,rfl⟩
 have bey:∀{i:Nat} {Q:Option Bool->SortSt->Prop},i<n->Q (some (b i)) st->wpS (model prog w) A E s ((λi=>do
   let x <-elem' arr (base+i)
   if left=true then lt' x key else do
    let r <-lt' key x
    pure (Option.map (λx=>!x) r)) i) Q st:=λ{i Q} hi q=>by
  have hlt:base+i<arr.size:=by lia
  have ex:arr[base+i]?=some arr[base+i]:=getElem?_pos arr _ hlt;have mx:=ma arr[base+i] (by simp);have eb:b i=if left then L arr[base+i] key else !L key arr[base+i]:=by rw[hbe];unfold Jz;rw[ex]
  refine qJ ?_;rw[elem'_eq,ex];refine qK ?_;cases left
  ·rw[eb]at q;exact qJ (RV hc hk mk mx (qK q))
  ·rw[eb]at q;exact RV hc hk mx mk q
 rw[<-hbe]at mono h;clear hbe
 have half:∀{lo hi:Nat},lo<=hi->hi<=n->(∀i,i<lo->b i=true)->(∀i,hi<=i->i<n->b i=false)->∀{Q':Option (Option Nat)×Nat×Nat->SortSt->Prop},(∀r,YE b n r->Q' (none,r,r) st)->wpS (model prog w) A E s (forIn [:n] ((none,lo,hi):Option (Option Nat)×Nat×Nat) λ_ c=>if c.2.1≥c.2.2 then pure (ForInStep.done (none,c.2.1,c.2.2)) else do
   let m <-(λi=>do
    let x <-elem' arr (base+i)
    if left=true then lt' x key else do
     let r <-lt' key x
     pure (Option.map (λx=>!x) r)) (c.2.1+(c.2.2-c.2.1)/2)
   match m with
   |some more=>if more=true then pure (ForInStep.yield (none,c.2.1+(c.2.2-c.2.1)/2+1,c.2.2)) else pure (ForInStep.yield (none,c.2.1,c.2.1+(c.2.2-c.2.1)/2))
   |_=>pure (ForInStep.done (some none,c.2.1,c.2.2))) Q' st:=λ{lo hi} h1 h2 h3 h4 {Q'} q=>by
  refine qL (I:=λi c t=>t=st/\∃lo hi,c=(none,lo,hi)/\lo<=hi/\hi<=n/\hi-lo<=n-i/\(∀i,i<lo->b i=true)/\(∀i,hi<=i->i<n->b i=false)) ?_ ?_ ⟨rfl,lo,hi,rfl,h1,h2,by lia,h3,h4⟩
  ·rintro i c t _ hi' ⟨rfl,lo,hi,rfl,a1,a2,a3,a4,a5⟩;dsimp only
   by_cases z:lo≥hi
   ·rw[qF z];obtain rfl:lo=hi:=by lia
    exact qK (q lo ⟨a2,a4,a5⟩)
   rw[qE z];refine qJ (bey (by lia) ?_);dsimp only;cases e:b (lo+(hi-lo)/2)
   ·rw[qE (by decide)]
    exact qK ⟨rfl,_,_,rfl,by lia,by lia,by lia,a4,λj hj hn=>by
     cases e2:b j
     ·rfl
     ·by_cases w:j=lo+(hi-lo)/2
      ·rw[w,e]at e2;cases e2
      ·rw[mono _ _ (by lia) hn e2]at e;cases e⟩
   ·rw[qF rfl]
    exact qK ⟨rfl,_,_,rfl,by lia,by lia,by lia,λj hj=>by
     by_cases w:j=lo+(hi-lo)/2
     ·rw[w];exact e
     ·exact mono _ _ (by lia) (by lia) e,a5⟩
  ·rintro c t ⟨rfl,lo,hi,rfl,a1,a2,a3,a4,a5⟩;obtain rfl:lo=hi:=by lia
   exact q lo ⟨a2,a4,a5⟩
 refine qJ (bey hh ?_);dsimp only;cases e:b hint
 ·rw[qE (by decide)]
  have up:∀{la:Nat},la<=hint->b (hint-la)=false->∀i,hint-la<=i->i<n->b i=false:=λ{la} h1 h2 i h3 h4=>by
   cases e2:b i
   ·rfl
   ·by_cases w:hint-la=i
    ·rw[w,e2]at h2;cases h2
    ·rw[mono _ _ (by lia) h4 e2]at h2;cases h2
  refine qJ (qL (I:=λi c t=>t=st/\∃la fo,c=(none,la,fo)/\la<fo/\i+1<=fo/\la<=hint/\b (hint-la)=false) ?_ ?_ ⟨rfl,0,1,rfl,by decide,by decide,az _,e⟩)
  ·rintro i c t _ hi ⟨rfl,la,fo,rfl,a1,a2,a3,a4⟩;dsimp only
   by_cases z:fo≥hint+1
   ·rw[qF z];refine qK ?_;dsimp only;exact qJ (half (by lia) (by lia) (λj hj=>by lia) (up a3 a4) λr hr=>qK (h r hr))
   rw[qE z];refine qJ (bey (by lia) ?_);dsimp only;cases e2:b (hint-fo)
   ·rw[qE (by decide)];exact qK ⟨rfl,_,_,rfl,by lia,by lia,by lia,e2⟩
   ·rw[qF rfl];refine qK ?_;dsimp only;refine qJ (half (by lia) (by lia) (λj hj=>?_) (up a3 a4) λr hr=>qK (h r hr))
    by_cases w:j=hint-fo
    ·rw[w];exact e2
    ·exact mono _ _ (by lia) (by lia) e2
  ·rintro c t ⟨rfl,la,fo,rfl,a1,a2,a3,a4⟩;dsimp only;exact qJ (half (by lia) (by lia) (λj hj=>by lia) (up a3 a4) λr hr=>qK (h r hr))
 ·rw[qF rfl]
  have dn:∀{la:Nat},hint+la<n->b (hint+la)=true->∀i,i<hint+la+1->b i=true:=λ{la} h1 h2 i h3=>by
   by_cases w:i=hint+la
   ·rw[w];exact h2
   ·exact mono _ _ (by lia) h1 h2
  refine qJ (qL (I:=λi c t=>t=st/\∃la fo,c=(none,la,fo)/\la<fo/\i+1<=fo/\hint+la<n/\b (hint+la)=true) ?_ ?_ ⟨rfl,0,1,rfl,by decide,by decide,hh,e⟩)
  ·rintro i c t _ hi ⟨rfl,la,fo,rfl,a1,a2,a3,a4⟩;dsimp only
   by_cases z:fo≥n-hint
   ·rw[qF z];refine qK ?_;dsimp only;exact qJ (half (by lia) (by lia) (dn a3 a4) (λj hj hn=>by lia) λr hr=>qK (h r hr))
   rw[qE z];refine qJ (bey (by lia) ?_);dsimp only;cases e2:b (hint+fo)
   ·rw[qF (show (!false)=true from rfl)];refine qK ?_;dsimp only;refine qJ (half (by lia) (by lia) (dn a3 a4) (λj hj hn=>?_) λr hr=>qK (h r hr));cases e3:b j
    ·rfl
    ·by_cases w:hint+fo=j
     ·rw[<-w,e2]at e3;cases e3
     ·rw[mono _ _ (by lia) hn e3]at e2;cases e2
   ·rw[qE (show ¬(!true)=true by decide)];exact qK ⟨rfl,_,_,rfl,by lia,by lia,by lia,e2⟩
  ·rintro c t ⟨rfl,la,fo,rfl,a1,a2,a3,a4⟩;dsimp only;exact qJ (half (by lia) (by lia) (dn a3 a4) (λj hj hn=>by lia) λr hr=>qK (h r hr))
end
noncomputable def RX:Array Keyed->Array Keyed->StateT SortSt Sem (Array Keyed):=sortPriv% PySem.Builtin.mergeLo
noncomputable def RY:Array Keyed->Array Keyed->StateT SortSt Sem (Array Keyed):=sortPriv% PySem.Builtin.mergeHi
structure SX(k:SortKind)(xs:Array Keyed)(p:Array (Nat×Nat×Nat))(st:SortSt):Prop where
 kd:kindOf st=k
 ar:arrOf st=xs
 pd:pendingOf st=p
 fl:failedOf st=none
abbrev Up(κ:Keyed->Int)(l:List Keyed):Prop:=l.Pairwise λx y=>κ x<=κ y
structure MI(κ:Keyed->Int)(a b:Array Keyed)(out:Array Keyed)(ia ib:Nat):Prop where
 ua:Up κ (out.toList++a.toList.drop ia)
 ub:Up κ (out.toList++b.toList.drop ib)
 pm:(out.toList++(a.toList.drop ia++b.toList.drop ib)).Perm (a.toList++b.toList)
section
variable{κ:Keyed->Int}{a b out:Array Keyed}{ia ib:Nat}
theorem Bv{l1 l2:List Keyed}:Up κ (l1++l2)↔Up κ l1/\Up κ l2/\∀x∈l1,∀y∈l2,κ x<=κ y:=List.pairwise_append
theorem Eu(a:Array Keyed)(i k:Nat):(a.extract i (i+k)).toList=(a.toList.drop i).take k:=by
 rw[df,cq]
 congr 1
 lia
theorem MI.takeA(M:MI κ a b out ia ib){k:Nat}(h:∀x∈(a.toList.drop ia).take k,∀y∈b.toList.drop ib,κ x<=κ y):MI κ a b (out++a.extract ia (ia+k)) (ia+k) ib:=by
 have e:a.toList.drop ia=(a.extract ia (ia+k)).toList++a.toList.drop (ia+k):=by rw[Eu,<-List.drop_drop,bz]
 obtain⟨h1,h2,h3⟩:=M;rw[e]at h1 h3;refine⟨by rw[bN,a9];exact h1,?_,?_⟩
 ·rw[bN,a9];rw[Bv]at h1 h2⊢;refine⟨h1.1,?_,λx hx y hy=>?_⟩
  ·rw[Bv];exact⟨(Bv.mp h1.2.1).1,h2.2.1,λx hx y hy=>h x (by rw[<-Eu];exact hx) y hy⟩
  ·rcases aR.mp hy with z|z
   ·exact h1.2.2 x hx y (dE _ z)
   ·exact h2.2.2 x hx y z
 ·rw[bN];simp only[List.append_assoc]at h3⊢;exact h3
theorem MI.takeB(M:MI κ a b out ia ib){k:Nat}(h:∀x∈(b.toList.drop ib).take k,∀y∈a.toList.drop ia,κ x<=κ y):MI κ a b (out++b.extract ib (ib+k)) ia (ib+k):=by
 have e:b.toList.drop ib=(b.extract ib (ib+k)).toList++b.toList.drop (ib+k):=by rw[Eu,<-List.drop_drop,bz]
 obtain⟨h1,h2,h3⟩:=M;rw[e]at h2 h3;refine⟨?_,by rw[bN,a9];exact h2,?_⟩
 ·rw[bN,a9];rw[Bv]at h1 h2⊢;refine⟨h2.1,?_,λx hx y hy=>?_⟩
  ·rw[Bv];exact⟨(Bv.mp h2.2.1).1,h1.2.1,λx hx y hy=>h x (by rw[<-Eu];exact hx) y hy⟩
  ·rcases aR.mp hy with z|z
   ·exact h2.2.2 x hx y (dE _ z)
   ·exact h1.2.2 x hx y z
 ·rw[bN];refine List.Perm.trans ?_ h3;simp only[List.append_assoc];refine eK _ ?_;rw[<-a9,<-a9];exact fH _ eN
theorem Nv(a:Array Keyed)(i:Nat)(h:i<a.size):a.extract i (i+1)=#[a[i]]:=by apply Array.ext';rw[Eu];rw[List.drop_eq_getElem_cons (by simpa using h)];simp
theorem K6(out a:Array Keyed)(i:Nat)(h:i<a.size):out.push a[i]=out++a.extract i (i+1):=by rw[Nv a i h];simp
theorem CZ{l:List Keyed}{i:Nat}(h:y∈l.drop i):∃j,i<=j/\∃h:j<l.length,l[j]=y:=by obtain⟨j,hj,e⟩:=fU.mp h;rw[cN]at hj;exact⟨i+j,eh ..,by lia,by rw[<-e,List.getElem_drop]⟩
theorem EK{l:List Keyed}{i k:Nat}(h:y∈(l.drop i).take k):∃j,i<=j/\j<i+k/\∃h:j<l.length,l[j]=y:=by obtain⟨j,hj,e⟩:=fU.mp h;rw[bQ,cN]at hj;exact⟨i+j,eh ..,by lia,by lia,by rw[<-e,List.getElem_take,List.getElem_drop]⟩
theorem WJ{l:List Keyed}(h:Up κ l){i:Nat}(hij:i<=j)(hj:j<l.length):κ l[i]<=κ l[j]:=by
 rcases Nat.lt_or_eq_of_le hij with z|z
 ·exact List.pairwise_iff_getElem.mp h i j (by lia) hj z
 ·subst z;exact cB _
end
noncomputable def ky(κ:Keyed->Int)(xs:Array Keyed)(i:Nat):Int:=match xs[i]? with|some x=>κ x|none=>0
def DO(κ:Keyed->Int)(xs:Array Keyed)(i j:Nat):Prop:=∀x y,i<=x->x<=y->y<j->ky κ xs x<=ky κ xs y
section
variable{κ:Keyed->Int}{a b out:Array Keyed}{ia ib:Nat}
theorem A1(h:ia<a.size):ky κ a ia=κ a[ia]:=by unfold ky;rw[getElem?_pos a ia h]
theorem B3{i:Nat}(h:a[i]?=b[j]?):ky κ a i=ky κ b j:=by unfold ky;rw[h]
theorem II:Up κ a.toList↔DO κ a 0 a.size:=by
 constructor
 ·intro h x y _ hxy hy;rw[A1 (show x<a.size by lia),A1 hy];have z:=WJ h hxy (by simpa using hy);simpa using z
 ·intro h;unfold Up;rw[List.pairwise_iff_getElem];intro i j hi hj hij;have hi':i<a.size:=by simpa using hi
  have hj':j<a.size:=by simpa using hj
  have z:=h i j (az _) (by lia) hj';rw[A1 hi',A1 hj']at z;simpa using z
def Lq(κ:Keyed->Int)(a b out:Array Keyed):Prop:=out.toList.Perm (a.toList++b.toList)/\Up κ out.toList
theorem EL(a:Array Keyed)(i:Nat):(a.extract i a.size).toList=a.toList.drop i:=by rw[df,cq,bh];simp
theorem MI.doneB(M:MI κ a b out ia ib)(h:ib=b.size):Lq κ a b (out++a.extract ia a.size++b.extract ib b.size):=by have e:b.toList.drop ib=[]:=List.drop_eq_nil_of_le (by simp[h]);have z:=M.pm;rw[e]at z;unfold Lq;rw[bN,bN,EL,EL,e,au];rw[au]at z;exact⟨z,M.ua⟩
theorem MI.lastA(M:MI κ a b out ia ib)(h:ia+1=a.size)(hl:∀j,j<b.size->ky κ b j<=ky κ a (a.size-1)):Lq κ a b (out++b.extract ib b.size++a.extract ia a.size):=by
 unfold Lq;rw[bN,bN,EL,EL,a9];refine⟨List.Perm.trans (eK _ eN) M.pm,?_⟩;have u1:=Bv.mp M.ua;have u2:=Bv.mp M.ub;rw[Bv];refine⟨u1.1,?_,λx hx y hy=>?_⟩
 ·rw[Bv];refine⟨u2.2.1,u1.2.1,λx hx y hy=>?_⟩;obtain⟨j,h1,h2,e⟩:=CZ hy;rw[av]at h2;obtain⟨j',h1',h2',e'⟩:=CZ hx;rw[av]at h2';rw[<-e,<-e',cH,cH,<-A1 (κ:=κ) h2,<-A1 (κ:=κ) h2',show j=a.size-1 by lia];exact hl j' h2'
 ·rcases aR.mp hy with z|z
  ·exact u2.2.2 x hx y z
  ·exact u1.2.2 x hx y z
theorem MI.someA(M:MI κ a b out ia ib)(sb:DO κ b 0 b.size){k:Nat}(h:∀j,ia<=j->j<ia+k->j<a.size->ky κ a j<=ky κ b ib):MI κ a b (out++a.extract ia (ia+k)) (ia+k) ib:=by refine M.takeA λx hx y hy=>?_;obtain⟨j,h1,h2,h3,e⟩:=EK hx;obtain⟨j',h1',h2',e'⟩:=CZ hy;rw[av]at h3 h2';rw[<-e,<-e',cH,cH,<-A1 (κ:=κ) h3,<-A1 (κ:=κ) h2'];exact bi (h j h1 h2 h3) (sb _ _ (az _) h1' h2')
theorem MI.someB(M:MI κ a b out ia ib)(sa:DO κ a 0 a.size){k:Nat}(h:∀j,ib<=j->j<ib+k->j<b.size->ky κ b j<=ky κ a ia):MI κ a b (out++b.extract ib (ib+k)) ia (ib+k):=by refine M.takeB λx hx y hy=>?_;obtain⟨j,h1,h2,h3,e⟩:=EK hx;obtain⟨j',h1',h2',e'⟩:=CZ hy;rw[av]at h3 h2';rw[<-e,<-e',cH,cH,<-A1 (κ:=κ) h3,<-A1 (κ:=κ) h2'];exact bi (h j h1 h2 h3) (sa _ _ (az _) h1' h2')
theorem MI.oneA(M:MI κ a b out ia ib)(sb:DO κ b 0 b.size)(hi:ia<a.size)(h:ky κ a ia<=ky κ b ib):MI κ a b (out.push a[ia]) (ia+1) ib:=by rw[K6 out a ia hi];exact M.someA sb λj h1 h2 _=>by rw[show j=ia by lia];exact h
theorem MI.oneB(M:MI κ a b out ia ib)(sa:DO κ a 0 a.size)(hi:ib<b.size)(h:ky κ b ib<=ky κ a ia):MI κ a b (out.push b[ib]) ia (ib+1):=by rw[K6 out b ib hi];exact M.someB sa λj h1 h2 _=>by rw[show j=ib by lia];exact h
end
section
variable{prog:qT}{w:qU}{A:Around}{s:qS}{k:SortKind}{a₀ xs:Array Keyed}{p:Array (Nat×Nat×Nat)}{κ:Keyed->Int}{st:SortSt}
theorem Bh{i:Nat}(h:i<arr.size){Q:Keyed->SortSt->Prop}(q:Q arr[i] st):wpS (model prog w) A E s (elem' arr i) Q st:=by rw[elem'_eq,getElem?_pos arr i h];exact qK q
abbrev GS(prog:qT)(w:qU)(A:Around)(s:qS)(k:SortKind)(a₀:Array Keyed)(κ:Keyed->Int):Prop:=WI prog w A s k a₀ λx y=>decide (κ x<κ y)
theorem WK(hc:GS prog w A s k a₀ κ)(hk:kindOf st=k){key:Keyed}{base n:Nat}(mk:key∈a₀.toList)(ma:∀x∈arr.toList,x∈a₀.toList)(hb:base+n<=arr.size)(hh:hint<n)
  (hs:DO κ arr base (base+n)) {Q:Option Nat->SortSt->Prop} (h:∀r,r<=n->(∀j,base<=j->j<base+r->ky κ arr j<=κ key)->(∀j,base+r<=j->j<base+n->κ key<ky κ arr j)->Q (some r) st):wpS (model prog w) A E s (Jy false key arr base n hint) Q st:=by
 have e:∀i,i<n->Jz (λx y=>decide (κ x<κ y)) false key arr base i=!decide (κ key<ky κ arr (base+i)):=λi hi=>by unfold Jz ky;rw[getElem?_pos arr (base+i) (by lia)];rfl
 refine K5 hc hk mk ma hb hh (λi j hij hj z=>?_) λr hr=>h r hr.le (λj h1 h2=>?_) λj h1 h2=>?_
 ·rw[e i (by lia)];rw[e j hj]at z;have z1:=hs (base+i) (base+j) (by lia) (by lia) (by lia);simp only[Bool.not_eq_true',decide_eq_false_iff_not,Int.not_lt]at z⊢;lia
 ·have z:=hr.lo (j-base) (by lia);rw[e _ (by have:=hr.le;lia),show base+(j-base)=j by lia]at z;simp only[Bool.not_eq_true',decide_eq_false_iff_not,Int.not_lt]at z;exact z
 ·have z:=hr.hi (j-base) (by lia) (by lia);rw[e _ (by lia),show base+(j-base)=j by lia]at z;simp only[Bool.not_eq_false',decide_eq_true_eq]at z;exact z
theorem WL(hc:GS prog w A s k a₀ κ)(hk:kindOf st=k){key:Keyed}{base n:Nat}(mk:key∈a₀.toList)(ma:∀x∈arr.toList,x∈a₀.toList)(hb:base+n<=arr.size)(hh:hint<n)
  (hs:DO κ arr base (base+n)) {Q:Option Nat->SortSt->Prop} (h:∀r,r<=n->(∀j,base<=j->j<base+r->ky κ arr j<κ key)->(∀j,base+r<=j->j<base+n->κ key<=ky κ arr j)->Q (some r) st):wpS (model prog w) A E s (Jy true key arr base n hint) Q st:=by
 have e:∀i,i<n->Jz (λx y=>decide (κ x<κ y)) true key arr base i=decide (ky κ arr (base+i)<κ key):=λi hi=>by unfold Jz ky;rw[getElem?_pos arr (base+i) (by lia)];rfl
 refine K5 hc hk mk ma hb hh (λi j hij hj z=>?_) λr hr=>h r hr.le (λj h1 h2=>?_) λj h1 h2=>?_
 ·rw[e i (by lia)];rw[e j hj]at z;have z1:=hs (base+i) (base+j) (by lia) (by lia) (by lia);simp only[decide_eq_true_eq]at z⊢;lia
 ·have z:=hr.lo (j-base) (by lia);rw[e _ (by have:=hr.le;lia),show base+(j-base)=j by lia]at z;simp only[decide_eq_true_eq]at z;exact z
 ·have z:=hr.hi (j-base) (by lia) (by lia);rw[e _ (by lia),show base+(j-base)=j by lia]at z;simp only[decide_eq_false_iff_not,Int.not_lt]at z;exact z
noncomputable def T4:Nat->StateT SortSt Sem Unit:=sortPriv% PySem.Builtin.setMinGallop
theorem Fz(X:SX k xs p st){g:Nat}{Q:Unit->SortSt->Prop}(h:∀t,SX k xs p t->Q () t):wpS (model prog w) A E s (T4 g) Q st:=
 wpS_modify (h _ ⟨X.kd,X.ar,X.pd,X.fl⟩)
end
structure K7(κ:Keyed->Int)(a b:Array Keyed)(P:Nat)(out:Array Keyed)(ia ib:Nat):Prop where
 mi:MI κ a b out ia ib
 la:ia+1<a.size
 lb:ib<b.size
 ge:P<=ia+ib
section
variable{prog:qT}{w:qU}{A:Around}{s:qS}{k:SortKind}{a₀ xs:Array Keyed}{p:Array (Nat×Nat×Nat)}{κ:Keyed->Int}{st:SortSt}
theorem AZ{c:Prop}[Decidable c]{m n:StateT SortSt Sem α}{Q:α->SortSt->Prop}(h1:c->wpS (model prog w) A E s m Q st)(h2:¬c->wpS (model prog w) A E s n Q st):wpS (model prog w) A E s (if c then m else n) Q st:=by
 split
 ·exact h1 ‹_›
 ·exact h2 ‹_›
theorem DH{m n:Nat}(h:¬(m==n)=true):m≠n:=λe=>h (by simp[e])
theorem Nw{c:Prop}[Decidable c]{f:β->StateT SortSt Sem α}{x y:β}{Q:α->SortSt->Prop}(J:∀g,wpS (model prog w) A E s (f g) Q st):wpS (model prog w) A E s (if c then f x else f y) Q st:=by
 split
 ·exact J _
 ·exact J _
theorem G8{γ:Type}{f:β->γ->StateT SortSt Sem α}{m:StateT SortSt Sem α}{Q:α->SortSt->Prop}(R:β->γ->Prop)(J:∀x y,R x y->wpS (model prog w) A E s (f x y) Q st)(h:(∀x y,R x y->wpS (model prog w) A E s (f x y) Q st)->wpS (model prog w) A E s m Q st):wpS (model prog w) A E s m Q st:=h J
theorem RZ(hc:GS prog w A s k a₀ κ)(X:SX k xs p st){x:Keyed}(mx:x∈a₀.toList)(my:y∈a₀.toList){Q:Option Bool->SortSt->Prop}(h1:κ x<κ y->Q (some true) st)(h2:κ y<=κ x->Q (some false) st):wpS (model prog w) A E s (lt' x y) Q st:=by
 refine RV hc X.kd mx my ?_
 by_cases z:κ x<κ y
 ·rw[show decide (κ x<κ y)=true by simpa using z];exact h1 z
 ·rw[show decide (κ x<κ y)=false by simpa using z];exact h2 (by lia)
theorem PL(hc:GS prog w A s k a₀ κ)(X:SX k xs p st){a b:Array Keyed}(ma:∀x∈a.toList,x∈a₀.toList)(mb:∀x∈b.toList,x∈a₀.toList)(sA:DO κ a 0 a.size)(sB:DO κ b 0 b.size)(ha:0<a.size)(hb:0<b.size)
  (h0:ky κ b 0<ky κ a 0) (hl:∀j,j<b.size->ky κ b j<ky κ a (a.size-1)) {Q:Array Keyed->SortSt->Prop} (h:∀out t,SX k xs p t->Lq κ a b out->Q out t):wpS (model prog w) A E s (RX a b) Q st:=by
 have ga:∀{i:Nat} (hi:i<a.size),a[i]∈a₀.toList:=λ{i} hi=>ma _ (by simp)
 have gb:∀{i:Nat} (hi:i<b.size),b[i]∈a₀.toList:=λ{i} hi=>mb _ (by simp)
 have hl':∀j,j<b.size->ky κ b j<=ky κ a (a.size-1):=λj hj=>bL (hl j hj)
 refine qJ (wpS_lift (wpAny_rule ⟨rfl,?_⟩));refine qJ (Bh hb ?_)
 have M0:MI κ a b #[b[0]] 0 1:=by have z:MI κ a b #[] 0 0:=⟨by simpa using II.mpr sA,by simpa using II.mpr sB,by simp⟩;have z:=z.oneB sA hb (bL h0);simpa using z
 refine AZ (λe=>?_) λe=>AZ (λe2=>?_) λe2=>?_
 ·exact qK (h _ _ X (M0.doneB (by simpa using e)))
 ·exact qK (h _ _ X (M0.lastA (by simpa using e2) hl'))
 have e:b.size≠1:=λz=>e (by simp[z])
 have e2:a.size≠1:=λz=>e2 (by simp[z])
 refine qJ (wpS_get ?_);refine qJ (qL (I:=λi c t=>SX k xs p t/\∃out ia ib mg,c=(none,out,ia,ib,mg)/\K7 κ a b (i+1) out ia ib) ?_ ?_ ⟨X,_,_,_,_,rfl,M0,by lia,by lia,by lia⟩)
 ·rintro i c t _ hi ⟨X,out,ia,ib,mg,rfl,M⟩;refine qJ (wpS_mono (qL (I:=λ_ c t=>SX k xs p t/\∃out ia ib ac bc,c=(none,out,ia,ib,ac,bc)/\K7 κ a b (i+1) out ia ib) (Q:=λc t=>SX k xs p t/\((∃r o,c=(some r,o)/\Lq κ a b r)\/∃out ia ib ac bc,c=(none,out,ia,ib,ac,bc)/\K7 κ a b (i+1) out ia ib)) ?_ ?_ ⟨X,out,ia,ib,0,0,rfl,M⟩) ?_)
  ·clear M X;rintro j c t _ hj ⟨X,out,ia,ib,ac,bc,rfl,M⟩;have la:=M.la;have lb:=M.lb;have ge:=M.ge;refine qJ (Bh M.lb (qJ (Bh (show ia<a.size by lia) (qJ (RZ hc X (gb lb) (ga (by lia)) (λz=>?_) λz=>?_)))))
   ·refine AZ (λ_=>?_) (λz=>qG rfl z);rw[<-A1 (κ:=κ),<-A1 (κ:=κ)]at z;have M2:=M.mi.oneB sA lb (bL z);have M3:ib+1<b.size->K7 κ a b (i+1) (out.push b[ib]) ia (ib+1):=λq=>⟨M2,la,q,by lia⟩
    refine qJ (Bh M.lb (AZ (λz=>?_) λz=>AZ (λ_=>?_) λ_=>?_))
    ·exact qK ⟨X,.inl ⟨_,_,rfl,M2.doneB (by simpa using z)⟩⟩
    ·exact qK ⟨X,.inr ⟨_,_,_,_,_,rfl,M3 (cW lb (DH z))⟩⟩
    ·exact qK ⟨X,_,_,_,_,_,rfl,M3 (cW lb (DH z))⟩
   ·refine AZ (λz=>qG z (by decide)) (λ_=>?_);rw[<-A1 (κ:=κ),<-A1 (κ:=κ)]at z;have M2:=M.mi.oneA sB (by lia) z;have M3:ia+1+1<a.size->K7 κ a b (i+1) (out.push (a[ia]'(by lia))) (ia+1) ib:=λq=>⟨M2,q,lb,by lia⟩
    refine qJ (Bh (show ia<a.size by lia) (AZ (λz=>?_) λz=>AZ (λ_=>?_) λ_=>?_))
    ·exact qK ⟨X,.inl ⟨_,_,rfl,M2.lastA (by simpa using z) hl'⟩⟩
    ·exact qK ⟨X,.inr ⟨_,_,_,_,_,rfl,M3 (cW la (DH z))⟩⟩
    ·exact qK ⟨X,_,_,_,_,_,rfl,M3 (cW la (DH z))⟩
  ·rintro c t ⟨X,out,ia,ib,ac,bc,rfl,M⟩;exact⟨X,.inr ⟨out,ia,ib,ac,bc,rfl,M⟩⟩
  clear M X;rintro c t ⟨X,⟨r,o,rfl,R⟩|⟨out,ia,ib,ac,bc,rfl,M⟩⟩
  ·exact qK (qK (h _ _ X R))
  refine qJ (wpS_lift (wpAny_rule ⟨rfl,?_⟩));refine qJ (wpS_mono (qL (I:=λj c t=>SX k xs p t/\∃out ia ib mg ac bc,c=(none,out,ia,ib,mg,ac,bc)/\K7 κ a b (i+1+j) out ia ib) (Q:=λc t=>SX k xs p t/\((∃r o,c=(some r,o)/\Lq κ a b r)\/∃out ia ib mg ac bc,c=(none,out,ia,ib,mg,ac,bc)/\K7 κ a b (i+1+1) out ia ib)) ?_ ?_ ⟨X,_,_,_,_,_,_,rfl,M⟩) ?_)
  ·clear M X;rintro j c t _ hj ⟨X,out,ia,ib,mg,ac,bc,rfl,M⟩;dsimp (config:={zeta:=false,zetaHave:=false}) only
   extract_lets c1 out1 c2 ia1 c3 ib1 c4 mg1 c5 ac1 bc1 ib2 jp mg2
   have la:=M.la;have lb:=M.lb;have ge:=M.ge;refine Nw (f:=jp ()) λg=>?_;refine qJ (Fz X λt X=>qJ (Bh lb (qJ (WK hc X.kd (gb lb) ma (by dsimp only[ia1,c2,c1];lia) (by dsimp only[ia1,c2,c1];lia) (λx y h1 h2 h3=>sA x y (Nat.zero_le _) h2 (by dsimp only[ia1,c2,c1]at h3;lia)) λr hr r1 r2=>?_))));dsimp (config:={zeta:=false,zetaHave:=false}) only;rw[<-A1 (κ:=κ)]at r1 r2
   extract_lets ac2 jp2 out2 ia2
   refine G8 (f:=jp2 ()) (λout' ia'=>MI κ a b out' ia' ib/\ia'+1<a.size/\ia<=ia'/\ky κ b ib<=ky κ a ia') (λout' ia' R=>?_) λJ=>?_
   ·obtain⟨R1,R2,R3,R4⟩:=R;have MB:=R1.oneB sA lb R4;refine qJ (Bh lb (AZ (λz=>qK ⟨X,.inl ⟨_,_,rfl,MB.doneB (eq_of_beq z)⟩⟩) λz=>?_));have lb2:ib+1<b.size:=cW lb (DH z);have la2:ia'<a.size:=by lia
    refine qJ (Bh la2 (qJ (WL hc X.kd (ga la2) mb (show ib+1+(b.size-(ib+1))<=b.size by lia) (show 0<b.size-(ib+1) by lia) (λx y h1 h2 (h3:y<ib+1+(b.size-(ib+1)))=>sB x y (az _) h2 (by lia)) λr' (hr':r'<=b.size-(ib+1)) (r1':∀j,ib+1<=j->j<ib+1+r'->ky κ b j<κ a[ia']) (r2':∀j,ib+1+r'<=j->j<ib+1+(b.size-(ib+1))->κ a[ia']<=ky κ b j)=>?_)));rw[<-A1 (κ:=κ)]at r1' r2';dsimp (config:={zeta:=false,zetaHave:=false}) only
    extract_lets bc2 ia4 jp3 out3 ib3
    have MC:MI κ a b ((out'.push b[ib])++b.extract (ib+1) (ib+1+r')) ia' (ib+1+r'):=MB.someB sA λj h1 h2 _=>bL (r1' j h1 h2)
    refine G8 (f:=jp3 ()) (λout' ib'=>MI κ a b out' ia' ib'/\ib'<b.size/\ib+1<=ib'/\ky κ a ia'<=ky κ b ib') (λout' ib' R=>?_) λJ=>?_
    ·obtain⟨S1,S2,S3,S4⟩:=R;have MA:=S1.oneA sB la2 S4;have MD:∀P,P<=i+1+(j+1)->ia'+1+1<a.size->K7 κ a b P (out'.push a[ia']) (ia'+1) ib':=λP hP q=>⟨MA,q,S2,by lia⟩
     refine qJ (Bh la2 (AZ (λz=>qK ⟨X,.inl ⟨_,_,rfl,MA.lastA (eq_of_beq z) hl'⟩⟩) λz=>AZ (λ_=>?_) λ_=>?_))
     ·exact qK ⟨X,.inr ⟨_,_,_,_,_,_,rfl,MD _ (by lia) (cW R2 (DH z))⟩⟩
     ·exact qK ⟨X,_,_,_,_,_,_,rfl,MD _ (aP _) (cW R2 (DH z))⟩
    ·refine AZ (λz1=>AZ (λz=>qK ⟨X,.inl ⟨_,_,rfl,MC.doneB (eq_of_beq z)⟩⟩) λz=>J _ _ ?_) λz1=>J _ _ ?_
     ·have q:ib+1+r'≠b.size:=DH z;exact⟨MC,show ib+1+r'<b.size by lia,show ib+1<=ib+1+r' by lia,r2' (ib+1+r') (aP _) (by lia)⟩
     ·obtain rfl:r'=0:=by lia
      exact⟨MB,lb2,aP _,r2' (ib+1) (aP _) (by lia)⟩
   ·have r1:∀j,ia<=j->j<ia+r->ky κ a j<=ky κ b ib:=r1;have r2:∀j,ia+r<=j->j<ia+(a.size-ia)->ky κ b ib<ky κ a j:=r2;have hr:r<=a.size-ia:=hr
    have lt:ia+r<a.size:=by
     rcases Nat.lt_or_ge (ia+r) a.size with z|z
     ·exact z
     ·have z1:=r1 (a.size-1) (by lia) (by lia);have z2:=hl ib lb;lia
    have MC:MI κ a b (out++a.extract ia (ia+r)) (ia+r) ib:=M.mi.someA sB λj h1 h2 _=>r1 j h1 h2
    refine AZ (λz1=>AZ (λz=>qK ⟨X,.inl ⟨_,_,rfl,MC.lastA (eq_of_beq z) hl'⟩⟩) λz=>AZ (λy=>?_) λ_=>J _ _ ?_) λz1=>J _ _ ?_
    ·have y:ia+r=a.size:=eq_of_beq y;lia
    ·have q:ia+r+1≠a.size:=DH z;exact⟨MC,show ia+r+1<a.size by lia,eh _ _,bL (r2 (ia+r) (aP _) (by lia))⟩
    ·obtain rfl:r=0:=by lia
     exact⟨M.mi,la,aP _,bL (r2 ia (aP _) (by lia))⟩
  ·rintro c t ⟨X,out,ia,ib,mg,ac,bc,rfl,M⟩;have:=M.la;have:=M.lb;have:=M.ge;lia
  clear M X;rintro c t ⟨X,⟨r,o,rfl,R⟩|⟨out,ia,ib,mg,ac,bc,rfl,M⟩⟩
  ·exact qK (qK (h _ _ X R))
  exact qJ (Fz X λt X=>qK ⟨X,_,_,_,_,rfl,M⟩)
 ·rintro c t ⟨X,out,ia,ib,mg,rfl,M⟩;have:=M.la;have:=M.lb;have:=M.ge;lia
end
structure MJ(κ:Keyed->Int)(a b:Array Keyed)(out:Array Keyed)(na nb:Nat):Prop where
 ua:Up κ (a.toList.take na++out.toList.reverse)
 ub:Up κ (b.toList.take nb++out.toList.reverse)
 pm:(a.toList.take na++(b.toList.take nb++out.toList.reverse)).Perm (a.toList++b.toList)
structure U4(κ:Keyed->Int)(a b:Array Keyed)(P:Nat)(out:Array Keyed)(na nb:Nat):Prop where
 mi:MJ κ a b out na nb
 la:1<=na
 lb:2<=nb
 za:na<=a.size
 zb:nb<=b.size
 ge:na+nb+P<=a.size+b.size
section
variable{κ:Keyed->Int}{a b out:Array Keyed}{na nb at':Nat}
theorem IJ(a:Array Keyed)(i j:Nat):(a.extract i j).toList=(a.toList.take j).drop i:=by rw[df,cq,List.drop_take]
theorem IK(a:Array Keyed){i:Nat}(h:i<=j):a.toList.take j=a.toList.take i++(a.extract i j).toList:=by
 rw[IJ];have e:a.toList.take i=(a.toList.take j).take i:=by rw[List.take_take,Nat.min_eq_left h]
 rw[e,bz]
theorem Nx{a:Array Keyed}{i:Nat}(h:y∈(a.extract i j).toList):∃x,i<=x/\x<j/\x<a.size/\κ y=ky κ a x:=by rw[IJ]at h;obtain⟨x,h1,h2,e⟩:=CZ h;rw[bQ,av]at h2;refine⟨x,h1,by lia,by lia,?_⟩;rw[<-e,List.getElem_take,cH,A1]
theorem J0{a:Array Keyed}(h:y∈a.toList.take j):∃x,x<j/\x<a.size/\κ y=ky κ a x:=by obtain⟨x,h2,e⟩:=fU.mp h;rw[bQ,av]at h2;refine⟨x,by lia,by lia,?_⟩;rw[<-e,List.getElem_take,cH,A1]
theorem MJ.someA(M:MJ κ a b out na nb)(hn:at'<=na)(h:∀x y,at'<=x->x<na->x<a.size->y<nb->y<b.size->ky κ b y<=ky κ a x):MJ κ a b (out++(a.extract at' na).reverse) at' nb:=by
 obtain⟨h1,h2,h3⟩:=M;have e:(out++(a.extract at' na).reverse).toList.reverse=(a.extract at' na).toList++out.toList.reverse:=by simp
 rw[IK a hn,a9]at h1 h3;refine⟨by rw[e];exact h1,?_,?_⟩
 ·rw[e];have z1:=Bv.mp h1;have z2:=Bv.mp h2;rw[Bv];refine⟨z2.1,z1.2.1,λx hx y hy=>?_⟩;rcases aR.mp hy with z|z
  ·obtain⟨x',q1,q2,e1⟩:=J0 (κ:=κ) hx;obtain⟨y',q3,q4,q5,e2⟩:=Nx (κ:=κ) z;rw[e1,e2];exact h _ _ q3 q4 q5 q1 q2
  ·exact z2.2.2 x hx y z
 ·rw[e];refine List.Perm.trans (eK _ ?_) h3;rw[<-a9,<-a9];exact fH _ eN
theorem MJ.someB(M:MJ κ a b out na nb)(hn:at'<=nb)(h:∀x y,at'<=x->x<nb->x<b.size->y<na->y<a.size->ky κ a y<=ky κ b x):MJ κ a b (out++(b.extract at' nb).reverse) na at':=by
 obtain⟨h1,h2,h3⟩:=M;have e:(out++(b.extract at' nb).reverse).toList.reverse=(b.extract at' nb).toList++out.toList.reverse:=by simp
 rw[IK b hn,a9]at h2 h3;refine⟨?_,by rw[e];exact h2,by rw[e];exact h3⟩;rw[e];have z1:=Bv.mp h1;have z2:=Bv.mp h2;rw[Bv];refine⟨z1.1,z2.2.1,λx hx y hy=>?_⟩;rcases aR.mp hy with z|z
 ·obtain⟨x',q1,q2,e1⟩:=J0 (κ:=κ) hx;obtain⟨y',q3,q4,q5,e2⟩:=Nx (κ:=κ) z;rw[e1,e2];exact h _ _ q3 q4 q5 q1 q2
 ·exact z1.2.2 x hx y z
theorem K8(out a:Array Keyed)(i:Nat)(h:i<a.size):out.push a[i]=out++(a.extract i (i+1)).reverse:=by rw[Nv a i h];simp
theorem MJ.oneA(M:MJ κ a b out (na+1) nb)(sB:DO κ b 0 b.size)(hn:na<a.size)(h1:1<=nb)(h2:nb<=b.size)(h:ky κ b (nb-1)<=ky κ a na):MJ κ a b (out.push a[na]) na nb:=by
 rw[K8 out a na hn];refine M.someA (dW _) λx y q1 q2 _ q3 q4=>?_;obtain rfl:x=na:=by lia
 exact bi (sB y (nb-1) (az _) (by lia) (by lia)) h
theorem MJ.oneB(M:MJ κ a b out na (nb+1))(sA:DO κ a 0 a.size)(hn:nb<b.size)(h1:1<=na)(h2:na<=a.size)(h:ky κ a (na-1)<=ky κ b nb):MJ κ a b (out.push b[nb]) na nb:=by
 rw[K8 out b nb hn];refine M.someB (dW _) λx y q1 q2 _ q3 q4=>?_;obtain rfl:x=nb:=by lia
 exact bi (sA y (na-1) (az _) (by lia) (by lia)) h
theorem F0(a:Array Keyed)(i:Nat):(a.extract 0 i).toList=a.toList.take i:=by rw[IJ,List.drop_zero]
theorem MJ.doneA(M:MJ κ a b out na nb)(h:na=0):Lq κ a b (a.extract 0 na++b.extract 0 nb++out.reverse):=by unfold Lq;rw[bN,bN,F0,F0,Array.toList_reverse,a9];refine⟨M.pm,?_⟩;rw[h,List.take_zero,fW];exact M.ub
theorem MJ.firstB(M:MJ κ a b out na nb)(h:nb=1)(h0:∀j,j<a.size->ky κ b 0<=ky κ a j):Lq κ a b (b.extract 0 nb++a.extract 0 na++out.reverse):=by
 unfold Lq;rw[bN,bN,F0,F0,Array.toList_reverse,a9];refine⟨List.Perm.trans ?_ M.pm,?_⟩
 ·rw[<-a9,<-a9];exact fH _ eN
 have z1:=Bv.mp M.ua;have z2:=Bv.mp M.ub;rw[Bv];refine⟨z2.1,M.ua,λx hx y hy=>?_⟩;rcases aR.mp hy with z|z
 ·obtain⟨x',q1,q2,e1⟩:=J0 (κ:=κ) hx;obtain⟨y',q3,q4,e2⟩:=J0 (κ:=κ) z;rw[e1,e2];obtain rfl:x'=0:=by lia
  exact h0 _ q4
 ·exact z2.2.2 x hx y z
end
section
variable{prog:qT}{w:qU}{A:Around}{s:qS}{k:SortKind}{a₀ xs:Array Keyed}{p:Array (Nat×Nat×Nat)}{κ:Keyed->Int}{st:SortSt}
theorem PM(hc:GS prog w A s k a₀ κ)(X:SX k xs p st){a b:Array Keyed}(ma:∀x∈a.toList,x∈a₀.toList)(mb:∀x∈b.toList,x∈a₀.toList)(sA:DO κ a 0 a.size)(sB:DO κ b 0 b.size)(ha:0<a.size)(hb:0<b.size)
  (h0:ky κ b 0<ky κ a 0) (hl:ky κ b (b.size-1)<ky κ a (a.size-1)) {Q:Array Keyed->SortSt->Prop} (h:∀out t,SX k xs p t->Lq κ a b out->Q out t):wpS (model prog w) A E s (RY a b) Q st:=by
 have ga:∀{i:Nat} (hi:i<a.size),a[i]∈a₀.toList:=λ{i} hi=>ma _ (by simp)
 have gb:∀{i:Nat} (hi:i<b.size),b[i]∈a₀.toList:=λ{i} hi=>mb _ (by simp)
 have hf:∀j,j<a.size->ky κ b 0<ky κ a j:=λj hj=>Int.lt_of_lt_of_le h0 (sA 0 j (az _) (az _) hj)
 have hf':∀j,j<a.size->ky κ b 0<=ky κ a j:=λj hj=>bL (hf j hj)
 refine qJ (wpS_lift (wpAny_rule ⟨rfl,?_⟩));refine qJ (Bh (show a.size-1<a.size by lia) ?_)
 have M0:MJ κ a b #[a[a.size-1]] (a.size-1) b.size:=by
  have z:MJ κ a b #[] (a.size-1+1) b.size:=by rw[show a.size-1+1=a.size by lia];have e1:a.toList.take a.size=a.toList:=List.take_of_length_le (by simp);have e2:b.toList.take b.size=b.toList:=List.take_of_length_le (by simp);exact⟨by rw[e1];simpa using II.mpr sA,by rw[e2];simpa using II.mpr sB,by rw[e1,e2];simp⟩
  have z:=z.oneA sB (by lia) hb (aP _) (bL hl);simpa using z
 refine AZ (λe=>?_) λe=>AZ (λe2=>?_) λe2=>?_
 ·exact qK (h _ _ X (M0.doneA (eq_of_beq e)))
 ·exact qK (h _ _ X (M0.firstB (eq_of_beq e2) hf'))
 have e:a.size-1≠0:=DH e;have e2:b.size≠1:=DH e2;refine qJ (wpS_get ?_);refine qJ (qL (I:=λi c t=>SX k xs p t/\∃na nb out mg,c=(none,na,nb,out,mg)/\U4 κ a b (i+1) out na nb) ?_ ?_ ⟨X,_,_,_,_,rfl,M0,by lia,by lia,by lia,aP _,by lia⟩)
 ·rintro i c t _ hi ⟨X,na,nb,out,mg,rfl,M⟩;refine qJ (wpS_mono (qL (I:=λ_ c t=>SX k xs p t/\∃na nb out ac bc,c=(none,na,nb,out,ac,bc)/\U4 κ a b (i+1) out na nb) (Q:=λc t=>SX k xs p t/\((∃r o,c=(some r,o)/\Lq κ a b r)\/∃na nb out ac bc,c=(none,na,nb,out,ac,bc)/\U4 κ a b (i+1) out na nb)) ?_ ?_ ⟨X,na,nb,out,0,0,rfl,M⟩) ?_)
  ·clear M X;rintro j c t _ hj ⟨X,na,nb,out,ac,bc,rfl,M⟩;obtain⟨M,la,lb,za,zb,ge⟩:=M;obtain⟨m,rfl⟩:∃m,na=m+1:=⟨na-1,by lia⟩;obtain⟨n,rfl⟩:∃n,nb=n+1:=⟨nb-1,by lia⟩;have lm:m<a.size:=za;have ln:n<b.size:=zb;refine qJ (Bh ln (qJ (Bh lm (qJ (RZ hc X (gb ln) (ga lm) (λz=>?_) λz=>?_)))))
   ·refine AZ (λ_=>?_) (λz=>qG rfl z);rw[<-A1 (κ:=κ),<-A1 (κ:=κ)]at z;have M2:=M.oneA sB lm (by lia) zb (bL z);have M3:m≠0->U4 κ a b (i+1) (out.push a[m]) m (n+1):=λq=>⟨M2,by lia,lb,by lia,zb,by lia⟩
    refine qJ (Bh lm (AZ (λz=>?_) λz=>AZ (λ_=>?_) λ_=>?_))
    ·exact qK ⟨X,.inl ⟨_,_,rfl,M2.doneA (eq_of_beq z)⟩⟩
    ·exact qK ⟨X,.inr ⟨_,_,_,_,_,rfl,M3 (DH z)⟩⟩
    ·exact qK ⟨X,_,_,_,_,_,rfl,M3 (DH z)⟩
   ·refine AZ (λz=>qG z (by decide)) (λ_=>?_);rw[<-A1 (κ:=κ),<-A1 (κ:=κ)]at z;have M2:=M.oneB sA ln la za z;have M3:n≠1->U4 κ a b (i+1) (out.push b[n]) (m+1) n:=λq=>⟨M2,la,by lia,za,by lia,by lia⟩
    refine qJ (Bh ln (AZ (λz=>?_) λz=>AZ (λ_=>?_) λ_=>?_))
    ·exact qK ⟨X,.inl ⟨_,_,rfl,M2.firstB (eq_of_beq z) hf'⟩⟩
    ·exact qK ⟨X,.inr ⟨_,_,_,_,_,rfl,M3 (DH z)⟩⟩
    ·exact qK ⟨X,_,_,_,_,_,rfl,M3 (DH z)⟩
  ·rintro c t ⟨X,na,nb,out,ac,bc,rfl,M⟩;exact⟨X,.inr ⟨na,nb,out,ac,bc,rfl,M⟩⟩
  clear M X;rintro c t ⟨X,⟨r,o,rfl,R⟩|⟨na,nb,out,ac,bc,rfl,M⟩⟩
  ·exact qK (qK (h _ _ X R))
  refine qJ (wpS_lift (wpAny_rule ⟨rfl,?_⟩));refine qJ (wpS_mono (qL (I:=λj c t=>SX k xs p t/\∃na nb out mg ac bc,c=(none,na,nb,out,mg,ac,bc)/\U4 κ a b (i+1+j) out na nb) (Q:=λc t=>SX k xs p t/\((∃r o,c=(some r,o)/\Lq κ a b r)\/∃na nb out mg ac bc,c=(none,na,nb,out,mg,ac,bc)/\U4 κ a b (i+1+1) out na nb)) ?_ ?_ ⟨X,_,_,_,_,_,_,rfl,M⟩) ?_)
  ·clear M X;rintro j c t _ hj ⟨X,na,nb,out,mg,ac,bc,rfl,M⟩;obtain⟨M,la,lb,za,zb,ge⟩:=M;obtain⟨n,rfl⟩:∃n,nb=n+1:=⟨nb-1,by lia⟩;have ln:n<b.size:=zb;dsimp (config:={zeta:=false,zetaHave:=false}) only
   extract_lets c1 na1 c2 nb1 c3 out1 c4 mg1 c5 ac1 bc1 nb2 jp mg2
   refine Nw (f:=jp ()) λg=>?_;refine qJ (Fz X λt X=>qJ (Bh ln (qJ (WK hc X.kd (gb ln) ma (show 0+na<=a.size by lia) (show na-1<na by lia) (λx y h1 h2 (h3:y<0+na)=>sA x y (az _) h2 (by lia)) λr (hr:r<=na) (r1:∀j,0<=j->j<0+r->ky κ a j<=κ b[n]) (r2:∀j,0+r<=j->j<0+na->κ b[n]<ky κ a j)=>?_))));rw[<-A1 (κ:=κ)]at r1 r2;simp only[Nat.zero_add]at r1 r2;dsimp (config:={zeta:=false,zetaHave:=false}) only
   extract_lets k1 ac2 jp2 out2 na2
   refine G8 (f:=jp2 ()) (λna' out'=>MJ κ a b out' na' (n+1)/\1<=na'/\na'<=na/\ky κ a (na'-1)<=ky κ b n) (λna' out' R=>?_) λJ=>?_
   ·obtain⟨R1,R2,R3,R4⟩:=R;have MB:=R1.oneB sA ln R2 (by lia) R4;refine qJ (Bh ln (AZ (λz=>qK ⟨X,.inl ⟨_,_,rfl,MB.firstB (eq_of_beq z) hf'⟩⟩) λz=>?_));have lb2:n≠1:=DH z;obtain⟨m,rfl⟩:∃m,na'=m+1:=⟨na'-1,by lia⟩;have lm:m<a.size:=by lia
    refine qJ (Bh lm (qJ (WL hc X.kd (ga lm) mb (show 0+n<=b.size by lia) (show n-1<n by lia) (λx y h1 h2 (h3:y<0+n)=>sB x y (az _) h2 (by lia)) λr' (hr':r'<=n) (r1':∀j,0<=j->j<0+r'->ky κ b j<κ a[m]) (r2':∀j,0+r'<=j->j<0+n->κ a[m]<=ky κ b j)=>?_)));rw[<-A1 (κ:=κ)]at r1' r2';simp only[Nat.zero_add]at r1' r2'
    have r0:1<=r':=by
     rcases Nat.eq_zero_or_pos r' with z|z
     ·have z1:=r2' 0 (by lia) (by lia);have z2:=hf m lm;lia
     ·exact z
    dsimp (config:={zeta:=false,zetaHave:=false}) only
    extract_lets k2 bc2 na4 jp3 out3 nb3
    have MC:MJ κ a b (out'.push b[n]++(b.extract r' n).reverse) (m+1) r':=MB.someB hr' λx y q1 q2 _ q3 q4=>bi (sA y m (az _) (by lia) lm) (r2' x q1 q2)
    refine G8 (f:=jp3 ()) (λnb' out'=>MJ κ a b out' (m+1) nb'/\2<=nb'/\nb'<=n/\ky κ b (nb'-1)<=ky κ a m) (λnb' out' R=>?_) λJ=>?_
    ·obtain⟨S1,S2,S3,S4⟩:=R;have MA:=S1.oneA sB lm (by lia) (by lia) S4;have MD:∀P,P<=i+1+(j+1)->m≠0->U4 κ a b P (out'.push a[m]) m nb':=λP hP q=>⟨MA,by lia,S2,by lia,by lia,by lia⟩
     refine qJ (Bh lm (AZ (λz=>qK ⟨X,.inl ⟨_,_,rfl,MA.doneA (eq_of_beq z)⟩⟩) λz=>AZ (λ_=>?_) λ_=>?_))
     ·exact qK ⟨X,.inr ⟨_,_,_,_,_,_,rfl,MD _ (by lia) (DH z)⟩⟩
     ·exact qK ⟨X,_,_,_,_,_,_,rfl,MD _ (aP _) (DH z)⟩
    ·refine AZ (λz1=>AZ (λz=>qK ⟨X,.inl ⟨_,_,rfl,MC.firstB (eq_of_beq z) hf'⟩⟩) λz=>AZ (λy=>?_) λ_=>J _ _ ?_) λz1=>J _ _ ?_
     ·have y:r'=0:=eq_of_beq y;lia
     ·have q:r'≠1:=DH z;exact⟨MC,show 2<=r' by lia,hr',bL (r1' (r'-1) (az _) (by lia))⟩
     ·have z1:¬n-r'>0:=z1;exact⟨MB,show 2<=n by lia,aP _,bL (r1' (n-1) (az _) (by lia))⟩
   ·have MC:MJ κ a b (out++(a.extract r na).reverse) r (n+1):=M.someA hr λx y q1 q2 _ q3 q4=>bi (sB y n (az _) (by lia) ln) (bL (r2 x q1 q2))
    refine AZ (λz1=>AZ (λz=>qK ⟨X,.inl ⟨_,_,rfl,MC.doneA (eq_of_beq z)⟩⟩) λz=>J _ _ ?_) λz1=>J _ _ ?_
    ·have q:r≠0:=DH z;exact⟨MC,show 1<=r by lia,hr,r1 (r-1) (az _) (by lia)⟩
    ·have z1:¬na-r>0:=z1;exact⟨M,la,aP _,r1 (na-1) (az _) (by lia)⟩
  ·rintro c t ⟨X,na,nb,out,mg,ac,bc,rfl,M⟩;have:=M.la;have:=M.lb;have:=M.ge;lia
  clear M X;rintro c t ⟨X,⟨r,o,rfl,R⟩|⟨na,nb,out,mg,ac,bc,rfl,M⟩⟩
  ·exact qK (qK (h _ _ X R))
  exact qJ (Fz X λt X=>qK ⟨X,_,_,_,_,rfl,M⟩)
 ·rintro c t ⟨X,na,nb,out,mg,rfl,M⟩;have:=M.la;have:=M.lb;have:=M.ge;lia
end
structure ZF(κ:Keyed->Int)(xs xs':Array Keyed)(lo hi:Nat):Prop where
 pm:xs'.toList.Perm xs.toList
 ot:∀j,j<lo\/hi<=j->xs'[j]?=xs[j]?
 up:DO κ xs' lo hi
section
variable{κ:Keyed->Int}{xs xs':Array Keyed}
theorem Mi:∀(l:List Keyed) (off at':Nat) (xs:Array Keyed),at'+off+l.length<=xs.size->∀j:Nat,((l.zipIdx off).foldl (λa x=>a.setIfInBounds (at'+x.2) x.1) xs)[j]?=if at'+off<=j/\j<at'+off+l.length then l[j-(at'+off)]? else xs[j]?
 |[],off,at',xs,_,j=>by rw[qE (by simp only[List.length_nil];lia)];rfl
 |y::l,off,at',xs,h,j=>by
  rw[bD]at h;rw[List.zipIdx_cons,List.foldl_cons,Mi l _ _ _ (by rw[Array.size_setIfInBounds];lia)];dsimp only;rw[bD]
  by_cases e:j=at'+off
  ·subst e;rw[qE (by lia),qF (by lia),dU,Array.getElem?_setIfInBounds_self_of_lt (by lia)];rfl
  ·by_cases e2:at'+off<=j/\j<at'+off+(l.length+1)
   ·rw[qF (by lia),qF e2,show j-(at'+off)=(j-(at'+(off+1)))+1 by lia];rfl
   ·rw[qE (by lia),qE e2,Array.getElem?_setIfInBounds_ne (by lia)]
theorem T5{l:List Keyed}{at' n:Nat}(h:at'+n<=xs.size)(hp:l.Perm ((xs.toList.drop at').take n)):((l.zipIdx 0).foldl (λa x=>a.setIfInBounds (at'+x.2) x.1) xs).toList.Perm xs.toList:=by
 have ln:l.length=n:=by rw[hp.length_eq,bQ,cN,av];lia
 have e:((l.zipIdx 0).foldl (λa x=>a.setIfInBounds (at'+x.2) x.1) xs).toList=xs.toList.take at'++(l++xs.toList.drop (at'+n)):=by
  apply List.ext_getElem?;intro j;have zl:xs.toList.length=xs.size:=av;have lt:(xs.toList.take at').length=at':=by rw[bQ];lia
  rw[dB,Mi l 0 at' xs (by lia),dj,ln]
  by_cases e1:j<at'
  ·rw[bn (by lia),qE (by lia),List.getElem?_take_of_lt e1,dB]
  ·rw[bE (by lia),lt]
   by_cases e2:j<at'+n
   ·rw[bn (by lia),qF (by lia)]
   ·rw[bE (by lia),qE (by lia),List.getElem?_drop,dB]
    congr 1
    lia
 rw[e]
 have e3:xs.toList=xs.toList.take at'++((xs.toList.drop at').take n++xs.toList.drop (at'+n)):=by rw[<-List.drop_drop,bz,bz]
 exact (eK _ (hp.append_right _)).trans (List.Perm.of_eq e3.symm)
theorem ZF.refl{lo hi:Nat}(h:DO κ xs lo hi):ZF κ xs xs lo hi:=⟨.refl _,λ_ _=>rfl,h⟩
theorem Mj{sa n1 k sb nb nb':Nat}{m:Array Keyed}(hz:sb+nb<=xs.size)(hk:sa+k<sb)(hn:nb'<=nb)(h1:DO κ xs sa sb)(h2:DO κ xs sb (sb+nb))
  (ha:∀j,sa<=j->j<sa+k->ky κ xs j<=ky κ xs sb) (hb:∀j,sb+nb'<=j->j<sb+nb->ky κ xs (sb-1)<=ky κ xs j) (hnb:1<=nb)
  (hm:Lq κ (xs.extract (sa+k) sb) (xs.extract sb (sb+nb')) m):ZF κ xs ((m.toList.zipIdx 0).foldl (λa x=>a.setIfInBounds (sa+k+x.2) x.1) xs) sa (sb+nb):=by
 have e:(xs.extract (sa+k) sb).toList++(xs.extract sb (sb+nb')).toList=(xs.toList.drop (sa+k)).take (sb+nb'-(sa+k)):=by
  rw[df,df,cq,cq]
  have:(xs.toList.drop (sa+k)).take (sb+nb'-(sa+k))=(xs.toList.drop (sa+k)).take (sb-(sa+k))++((xs.toList.drop (sa+k)).drop (sb-(sa+k))).take (sb+nb'-sb):=by
   rw[<-List.take_add]
   congr 1
   lia
  rw[this,List.drop_drop]
  congr 3
  lia
 have pm:=hm.1;rw[e]at pm;have ln:m.toList.length=sb+nb'-(sa+k):=by rw[pm.length_eq,bQ,cN,av];lia
 have g:∀j,((m.toList.zipIdx 0).foldl (λa x=>a.setIfInBounds (sa+k+x.2) x.1) xs)[j]?=if sa+k<=j/\j<sb+nb' then m.toList[j-(sa+k)]? else xs[j]?:=λj=>by rw[Mi _ _ _ _ (by rw[ln];lia),ln];rw[dj,show sa+k+(sb+nb'-(sa+k))=sb+nb' by lia]
 refine⟨T5 (by lia) pm,λj hj=>by rw[g,qE (by lia)],?_⟩;have k1:∀j,¬(sa+k<=j/\j<sb+nb')->ky κ ((m.toList.zipIdx 0).foldl (λa x=>a.setIfInBounds (sa+k+x.2) x.1) xs) j=ky κ xs j:=λj hj=>B3 (by rw[g,qE hj])
 have k2:∀j,sa+k<=j->j<sb+nb'->ky κ ((m.toList.zipIdx 0).foldl (λa x=>a.setIfInBounds (sa+k+x.2) x.1) xs) j=ky κ m (j-(sa+k)):=λj h1 h2=>B3 (by rw[g,qF ⟨h1,h2⟩,dB])
 have k3:∀j,sa+k<=j->j<sb+nb'->∃i,sa+k<=i/\i<sb+nb'/\ky κ m (j-(sa+k))=ky κ xs i:=λj h1 h2=>by
  have hl:j-(sa+k)<m.size:=by rw[<-av,ln];lia
  have mem:m[j-(sa+k)]∈m.toList:=by simp
  obtain⟨i,q1,q2,q3,e⟩:=EK (pm.mem_iff.mp mem);rw[av]at q3;refine⟨i,q1,by lia,?_⟩;rw[A1 hl,A1 q3,<-e,cH]
 have sm:=II.mp hm.2;have zm:m.size=sb+nb'-(sa+k):=by rw[<-av,ln]
 intro x y hx hxy hy
 by_cases c1:x<sa+k
 ·rw[k1 x (by lia)]
  by_cases c2:y<sa+k
  ·rw[k1 y (by lia)];exact h1 x y hx hxy (by lia)
  ·by_cases c3:y<sb+nb'
   ·rw[k2 y (by lia) c3];obtain⟨i,q1,q2,e⟩:=k3 y (by lia) c3;rw[e]
    by_cases c4:i<sb
    ·exact h1 x i hx (by lia) c4
    ·exact bi (ha x hx c1) (h2 sb i (aP _) (by lia) (by lia))
   ·rw[k1 y (by lia)];exact bi (ha x hx c1) (h2 sb y (aP _) (by lia) hy)
 ·by_cases c3:x<sb+nb'
  ·rw[k2 x (by lia) c3]
   by_cases c4:y<sb+nb'
   ·rw[k2 y (by lia) c4];exact sm _ _ (az _) (by lia) (by lia)
   ·rw[k1 y (by lia)];obtain⟨i,q1,q2,e⟩:=k3 x (by lia) c3;rw[e]
    by_cases c5:i<sb
    ·exact bi (h1 i (sb-1) (by lia) (by lia) (by lia)) (hb y (by lia) hy)
    ·exact h2 i y (by lia) (by lia) hy
  ·rw[k1 x (by lia),k1 y (by lia)];exact h2 x y (by lia) hxy hy
end
section
variable{prog:qT}{w:qU}{A:Around}{s:qS}{k:SortKind}{a₀ xs:Array Keyed}{p:Array (Nat×Nat×Nat)}{κ:Keyed->Int}{st:SortSt}
theorem T6{t:SortSt}{Q:PUnit->SortSt->Prop}(h:Q ⟨⟩ t):wpS (model prog w) A E s (set t:StateT SortSt Sem PUnit) Q st:=by unfold wpS;rw[StateT.run_set];exact qD ⟨rfl,h⟩
theorem PN(hc:GS prog w A s k a₀ κ)(X:SX k xs p st)(mx:∀x∈xs.toList,x∈a₀.toList){i sa na pw nb pw2:Nat}(e1:p[i]?=some (sa,na,pw))(e2:p[i+1]?=some (sa+na,nb,pw2))(hna:1<=na)(hnb:1<=nb)(hz:sa+na+nb<=xs.size)
  (s1:DO κ xs sa (sa+na)) (s2:DO κ xs (sa+na) (sa+na+nb)) {Q:Bool->SortSt->Prop} (h:∀xs' t,ZF κ xs xs' sa (sa+na+nb)->SX k xs' ((p.setIfInBounds i (sa,na+nb,pw)).eraseIdxIfInBounds (i+1)) t->Q true t):wpS (model prog w) A E s (mergeAt' i) Q st:=by
 have gx:∀{i:Nat} (hi:i<xs.size),xs[i]∈a₀.toList:=λ{i} hi=>mx _ (by simp)
 have zx:DO κ xs sa (sa+na+nb)->∀t,SX k xs ((p.setIfInBounds i (sa,na+nb,pw)).eraseIdxIfInBounds (i+1)) t->Q true t:=λz t T=>h xs t (.refl z) T
 obtain⟨k',xs',p',gm,fl⟩:=st;have ek:=X.kd;have ex:=X.ar;have ep:=X.pd;have ef:=X.fl;dsimp only[kindOf,arrOf,pendingOf,failedOf]at ek ex ep ef;subst ek ex ep ef;refine qJ (wpS_get ?_);dsimp (config:={zeta:=false,zetaHave:=false}) only;rw[e1,e2];obtain⟨sb,hsb⟩:∃sb,sb=sa+na:=⟨_,rfl⟩;rw[<-hsb]at s1 s2 hz h zx⊢;have X2:SX k' xs' ((p'.setIfInBounds i (sa,na+nb,pw)).eraseIdxIfInBounds (i+1)) (SortSt.mk' k' xs' ((p'.setIfInBounds i (sa,na+nb,pw)).eraseIdxIfInBounds (i+1)) gm none):=⟨rfl,rfl,rfl,rfl⟩;have lsb:sb<xs'.size:=by lia
 refine qJ (T6 ?_);refine qJ (Bh lsb (qJ (WK hc rfl (gx lsb) mx (by lia) (by lia) (by rw[<-hsb];exact s1) λr hr r1 r2=>?_)));rw[<-A1 (κ:=κ),<-hsb]at r2;rw[<-A1 (κ:=κ)]at r1;refine AZ (λz=>?_) λz=>?_
 ·have z:na-r=0:=eq_of_beq z;refine qK (zx (λx y hx hxy hy=>?_) _ X2)
  by_cases c1:y<sb
  ·exact s1 x y hx hxy c1
  ·by_cases c2:x<sb
   ·exact bi (r1 x hx (by lia)) (s2 sb y (aP _) (by lia) hy)
   ·exact s2 x y (by lia) hxy hy
 have z:na-r≠0:=DH z;have ll:sb-1<xs'.size:=by lia
 have e3:sa+r+(na-r)-1=sb-1:=by lia
 rw[e3];refine qJ (Bh ll (qJ (WL hc rfl (gx ll) mx (by lia) (by lia) s2 λr' hr' r1' r2'=>?_)));rw[<-A1 (κ:=κ)]at r1' r2';refine AZ (λz=>?_) λz=>?_
 ·have z:r'=0:=eq_of_beq z;subst z;refine qK (zx (λx y hx hxy hy=>?_) _ X2)
  by_cases c1:y<sb
  ·exact s1 x y hx hxy c1
  ·by_cases c2:x<sb
   ·exact bi (s1 x (sb-1) hx (by lia) (by lia)) (r2' y (by lia) hy)
   ·exact s2 x y (by lia) hxy hy
 have z2:r'≠0:=DH z
 extract_lets x y jp
 have zx1:(xs'.extract (sa+r) sb).size=sb-(sa+r):=by rw[Array.size_extract];lia
 have zy1:(xs'.extract sb (sb+r')).size=r':=by rw[Array.size_extract];lia
 have kx:∀j,j<sb-(sa+r)->ky κ (xs'.extract (sa+r) sb) j=ky κ xs' (sa+r+j):=λj hj=>B3 (by rw[Array.getElem?_extract,qF (by lia)])
 have ky1:∀j,j<r'->ky κ (xs'.extract sb (sb+r')) j=ky κ xs' (sb+j):=λj hj=>B3 (by rw[Array.getElem?_extract,qF (by lia)])
 have mx1:∀q∈(xs'.extract (sa+r) sb).toList,q∈a₀.toList:=λq hq=>mx q (by rw[IJ]at hq;exact dc (fT hq))
 have my1:∀q∈(xs'.extract sb (sb+r')).toList,q∈a₀.toList:=λq hq=>mx q (by rw[IJ]at hq;exact dc (fT hq))
 have sx1:DO κ (xs'.extract (sa+r) sb) 0 (xs'.extract (sa+r) sb).size:=λx y _ hxy hy=>by rw[zx1]at hy;rw[kx _ (by lia),kx _ (by lia)];exact s1 _ _ (by lia) (by lia) (by lia)
 have sy1:DO κ (xs'.extract sb (sb+r')) 0 (xs'.extract sb (sb+r')).size:=λx y _ hxy hy=>by rw[zy1]at hy;rw[ky1 _ (by lia),ky1 _ (by lia)];exact s2 _ _ (by lia) (by lia) (by lia)
 have h0:ky κ (xs'.extract sb (sb+r')) 0<ky κ (xs'.extract (sa+r) sb) 0:=by rw[kx _ (by lia),ky1 _ (by lia)];exact r2 _ (by lia) (by lia)
 have hl:∀j,j<r'->ky κ (xs'.extract sb (sb+r')) j<ky κ (xs'.extract (sa+r) sb) ((xs'.extract (sa+r) sb).size-1):=λj hj=>by rw[kx _ (by lia),ky1 _ hj,zx1,show sa+r+(sb-(sa+r)-1)=sb-1 by lia];exact r1' _ (by lia) (by lia)
 have J:∀m t,SX k' xs' ((p'.setIfInBounds i (sa,na+nb,pw)).eraseIdxIfInBounds (i+1)) t->Lq κ (xs'.extract (sa+r) sb) (xs'.extract sb (sb+r')) m->wpS (model prog w) A E s (jp m) Q t:=λm t T R=>by refine qJ (wpS_modify (qJ (wpS_get (qK ?_))));have sw:=Mj (n1:=0) hz (by lia) hr' s1 s2 (λj h1 h2=>r1 j h1 h2) (λj h1 h2=>r2' j h1 h2) hnb R;have tf:=T.fl;have ta:=T.ar;have q:=h _ (SortSt.mk' (kindOf t) ((m.toList.zipIdx 0).foldl (λa x=>a.setIfInBounds (sa+r+x.2) x.1) (arrOf t)) (pendingOf t) (gallopOf t) (failedOf t)) sw ⟨T.kd,by show List.foldl _ (arrOf t) _=_;rw[ta],T.pd,T.fl⟩;show Q (failedOf t).isNone _;rw[tf];exact q
 refine AZ (λ_=>qJ (PL hc X2 mx1 my1 sx1 sy1 (by lia) (by lia) h0 (λj hj=>hl j (by lia)) λm t T R=>J m t T R)) λ_=>qJ (PM hc X2 mx1 my1 sx1 sy1 (by lia) (by lia) h0 (hl _ (by lia)) λm t T R=>J m t T R)
end
structure K9(xs ys:Array Keyed)(lo:Nat):Prop where
 pm:ys.toList.Perm xs.toList
 ot:∀j,j<lo->ys[j]?=xs[j]?
def Xf(κ:Keyed->Int)(xs:Array Keyed)(i j:Nat):Prop:=∀x y,i<=x->x<=y->y<j->ky κ xs y<=ky κ xs x
section
variable{κ:Keyed->Int}{xs ys:Array Keyed}{lo:Nat}
theorem K9.size(h:K9 xs ys lo):ys.size=xs.size:=by have z:=h.pm.length_eq;simpa using z
theorem K9.mirror(h:K9 xs ys lo){i:Nat}(hi:lo<=i)(hj:j<=ys.size):K9 xs (mirror ys i j ((j-i)/2)) lo:=
 ⟨(Array.perm_iff_toList_perm.mp (mirror_perm ..)).trans h.pm,λx hx=>by rw[getElem?_mirror_all hj,qE (by lia)];exact h.ot x hx⟩
theorem K9.bubble(h:K9 xs ys lo){src d:Nat}(hs:src<ys.size)(hd:lo+d<=src):K9 xs (bubble ys src d) lo:=
 ⟨(Array.perm_iff_toList_perm.mp (bubble_perm ..)).trans h.pm,λx hx=>by rw[getElem?_bubble hs _ (by lia),qE (by lia),qE (by lia)];exact h.ot x hx⟩
theorem GU{i:Nat}(hj:j<=xs.size)(x:Nat):ky κ (mirror xs i j ((j-i)/2)) x=if i<=x/\x<j then ky κ xs (i+j-1-x) else ky κ xs x:=by
 have e:=getElem?_mirror_all (i:=i) hj x;split
 ·rw[qF ‹_›]at e;exact B3 e
 ·rw[qE ‹_›]at e;exact B3 e
theorem Ca{i:Nat}(hj:j<=xs.size)(h:∀x,i<=x->x<j->ky κ xs x=ky κ xs (j-1))(x:Nat):ky κ (mirror xs i j ((j-i)/2)) x=ky κ xs x:=by
 rw[GU hj];split
 ·rw[h _ (by lia) (by lia),h x (by lia) (by lia)]
 ·rfl
end
section
variable{prog:qT}{w:qU}{A:Around}{s:qS}{k:SortKind}{a₀ xs ys:Array Keyed}{p:Array (Nat×Nat×Nat)}{κ:Keyed->Int}{st:SortSt}{lo:Nat}
theorem E5(hc:GS prog w A s k a₀ κ)(X:SX k ys p st)(my:∀x∈ys.toList,x∈a₀.toList){i:Nat}(hi:i<ys.size)(hj:j<ys.size){Q:Option Bool->SortSt->Prop}(h1:ky κ ys i<ky κ ys j->Q (some true) st)(h2:ky κ ys j<=ky κ ys i->Q (some false) st):wpS (model prog w) A E s (ltAt' i j) Q st:=by
 rw[ltAt'_eq];refine qJ (wpS_get ?_);dsimp only;rw[X.ar];refine qJ (Bh hi (qJ (Bh hj (RZ hc X (my _ (by simp)) (my _ (by simp)) ?_ ?_))))
 ·rw[<-A1 (κ:=κ),<-A1 (κ:=κ)];exact h1
 ·rw[<-A1 (κ:=κ),<-A1 (κ:=κ)];exact h2
theorem Ny(X:SX k ys p st){i:Nat}{Q:Unit->SortSt->Prop}(h:∀t,SX k (mirror ys i j ((j-i)/2)) p t->Q () t):wpS (model prog w) A E s (reverseSlice' i j) Q st:=by rw[reverseSlice'_eq];exact wpS_modify (h _ ⟨X.kd,by show mirror (arrOf st) _ _ _=_;rw[X.ar],X.pd,X.fl⟩)
theorem WM(X:SX k ys p st){i:Nat}{Q:Unit->SortSt->Prop}(h:∀t,SX k (bubble ys i (i-j)) p t->Q () t):wpS (model prog w) A E s (moveDown' i j) Q st:=by rw[moveDown'_eq];exact wpS_modify (h _ ⟨X.kd,by show bubble (arrOf st) _ _=_;rw[X.ar],X.pd,X.fl⟩)
theorem Ml(hc:GS prog w A s k a₀ κ)(X:SX k xs p st)(mx:∀x∈xs.toList,x∈a₀.toList){nrem:Nat}(h1:1<=nrem)(hz:lo+nrem<=xs.size){Q:Option Nat->SortSt->Prop}
  (h:∀r ys t,1<=r->r<=nrem->SX k ys p t->K9 xs ys lo->DO κ ys lo (lo+r)->Q (some r) t):wpS (model prog w) A E s (countRun' lo nrem) Q st:=by
 have one:∀{ys:Array Keyed},DO κ ys lo (lo+1):=λ{ys} x y h1 h2 h3=>by
  obtain rfl:x=y:=by lia
  exact cB _
 have grow:∀{ys:Array Keyed} {n:Nat},1<=n->DO κ ys lo (lo+n)->ky κ ys (lo+n-1)<=ky κ ys (lo+n)->DO κ ys lo (lo+(n+1)):=λ{ys n} n1 hs hle x y q1 q2 q3=>by
  by_cases c:y<lo+n
  ·exact hs x y q1 q2 c
  ·obtain rfl:y=lo+n:=by lia
   by_cases c2:x=lo+n
   ·subst c2;exact cB _
   ·exact bi (hs x (lo+n-1) q1 (by lia) (by lia)) hle
 have K0:K9 xs xs lo:=⟨.refl _,λ_ _=>rfl⟩;refine qJ (wpS_mono (qL (I:=λn c t=>t=st/\c=(none,n)/\DO κ xs lo (lo+n)) (Q:=λc t=>t=st/\∃n,c=(none,n)/\1<=n/\n<=nrem/\DO κ xs lo (lo+n)/\(n=nrem\/ky κ xs (lo+n)<ky κ xs (lo+n-1))) ?_ ?_ ⟨rfl,rfl,one⟩) ?_)
 ·rintro n c t q1 q2 ⟨rfl,rfl,hs⟩;refine qJ (E5 hc X mx (show lo+n<xs.size by lia) (show lo+n-1<xs.size by lia) (λz=>?_) λz=>?_)
  ·exact AZ (λ_=>qK ⟨rfl,n,rfl,q1,by lia,hs,.inr z⟩) λz=>qG rfl z
  ·exact AZ (λz=>qG z (by decide)) λ_=>qK ⟨rfl,rfl,grow q1 hs z⟩
 ·rintro c t ⟨rfl,rfl,hs⟩;rw[show max 1 nrem=nrem by lia]at hs⊢;exact⟨rfl,nrem,rfl,h1,aP _,hs,.inl rfl⟩
 rintro c t ⟨rfl,n,rfl,n1,nn,hs,hor⟩;refine AZ (λz=>qK (h n xs _ n1 nn X K0 hs)) λz=>?_;have z:n≠nrem:=DH z;have hlt:=hor.resolve_left z
 extract_lets n2 n3 jp
 have J:∀ys t,SX k ys p t->K9 xs ys lo->Xf κ ys lo (lo+(n+1))->wpS (model prog w) A E s (jp ()) Q t:=λys t X K D=>by
  refine qJ (wpS_lift (wpAny_rule ⟨rfl,?_⟩));have zy:=K.size
  refine qJ (wpS_mono (qL (I:=λm c t=>∃q zs,c=(none,m,q)/\SX k zs p t/\K9 xs zs lo/\Xf κ zs lo (lo+m)/\q+1<=m/\∀x,lo+m-(q+1)<=x->x<lo+m->ky κ zs x=ky κ zs (lo+m-1))
   (Q:=λc t=>∃m q zs,c=(none,m,q)/\1<=m/\m<=nrem/\SX k zs p t/\K9 xs zs lo/\Xf κ zs lo (lo+m)/\q+1<=m/\∀x,lo+m-(q+1)<=x->x<lo+m->ky κ zs x=ky κ zs (lo+m-1)) ?_ ?_ ⟨0,ys,rfl,X,K,D,Nat.le_add_left _ _,λx q1 q2=>by
    have q1:lo+(n+1)-(0+1)<=x:=q1;have q2:x<lo+(n+1):=q2;show ky κ ys x=ky κ ys (lo+(n+1)-1)
    congr 1;lia⟩) ?_)
  ·rintro m c t (q1:n+1<=m) q2 ⟨q,zs,rfl,X,K,D,hq,he⟩;have zz:=K.size;have mz:∀x∈zs.toList,x∈a₀.toList:=λx hx=>mx x (K.pm.mem_iff.mp hx)
   refine qJ (E5 hc X mz (show lo+m<zs.size by lia) (show lo+m-1<zs.size by lia) (λz=>?_) λz=>?_)
   ·have dn:∀us:Array Keyed,(∀x,ky κ us x=ky κ zs x)->Xf κ us lo (lo+(m+1)):=λus hu x y r1 r2 r3=>by
     rw[hu,hu]
     by_cases c:y<lo+m
     ·exact D x y r1 r2 c
     ·obtain rfl:y=lo+m:=by lia
      by_cases c2:x=lo+m
      ·subst c2;exact cB _
      ·exact bi (bL z) (D x (lo+m-1) r1 (by lia) (by lia))
    have last:∀us:Array Keyed,∀x,lo+(m+1)-(0+1)<=x->x<lo+(m+1)->ky κ us x=ky κ us (lo+(m+1)-1):=λus x r1 r2=>by congr 1;lia
    refine AZ (λ_=>AZ (λg=>?_) λg=>?_) λz=>qG rfl z
    ·refine qJ (Ny X λt X=>qK ⟨0,_,rfl,X,K.mirror (show lo<=lo+m-(q+1) by lia) (show lo+m<=zs.size by lia),dn _ (Ca (show lo+m<=zs.size by lia) he),by lia,last _⟩)
    ·exact qK ⟨0,_,rfl,X,K,dn _ λ_=>rfl,by lia,last _⟩
   ·refine AZ (λz=>qG z (by decide)) λ_=>?_;refine qJ (E5 hc X mz (show lo+m-1<zs.size by lia) (show lo+m<zs.size by lia) (λz2=>?_) λz2=>?_)
    ·exact AZ (λ_=>qK ⟨m,q,zs,rfl,by lia,by lia,X,K,D,hq,he⟩) λz=>qG rfl z
    ·have ee:ky κ zs (lo+m)=ky κ zs (lo+m-1):=by lia
     refine AZ (λz=>qG z (by decide)) λ_=>qK ⟨q+1,zs,rfl,X,K,λx y r1 r2 r3=>?_,by lia,λx r1 r2=>?_⟩
     ·by_cases c:y<lo+m
      ·exact D x y r1 r2 c
      ·obtain rfl:y=lo+m:=by lia
       by_cases c2:x=lo+m
       ·subst c2;exact cB _
       ·rw[ee];exact D x (lo+m-1) r1 (by lia) (by lia)
     ·rw[show lo+(m+1)-1=lo+m by lia]
      by_cases c:x=lo+m
      ·subst c;rfl
      ·rw[ee];exact he x (by lia) (by lia)
  ·rintro c t ⟨q,zs,rfl,X,K,D,hq,he⟩;have em:max (n+1) nrem=nrem:=by lia
   have D:Xf κ zs lo (lo+max (n+1) nrem):=D;have hq:q+1<=max (n+1) nrem:=hq;have he:∀x,lo+max (n+1) nrem-(q+1)<=x->x<lo+max (n+1) nrem->ky κ zs x=ky κ zs (lo+max (n+1) nrem-1):=he;rw[em]at D hq he;exact⟨nrem,q,zs,by show (none,max (n+1) nrem,q)=_;rw[em],h1,aP _,X,K,D,hq,he⟩
  rintro c t ⟨m,q,zs,rfl,m1,mn,X,K,D,hq,he⟩
  extract_lets c1 c2 c3 c4 jp2
  have J2:∀us t,SX k us p t->K9 xs us lo->Xf κ us lo (lo+m)->wpS (model prog w) A E s (jp2 ()) Q t:=λus t X K D=>by
   have zu:=K.size;refine qJ (Ny X λt X=>?_);have K:=K.mirror (aP lo) (show lo+m<=us.size by lia)
   have S:DO κ (mirror us lo (lo+m) ((lo+m-lo)/2)) lo (lo+m):=λx y r1 r2 r3=>by rw[GU (by lia),GU (by lia),qF (by lia),qF (by lia)];exact D _ _ (by lia) (by lia) (by lia)
   have zv:=K.size;have X:SX k (mirror us lo (lo+m) ((lo+m-lo)/2)) p t:=X;obtain⟨vs,hv⟩:∃vs,vs=mirror us lo (lo+m) ((lo+m-lo)/2):=⟨_,rfl⟩;rw[<-hv]at X K S zv;clear hv;have mv:∀x∈vs.toList,x∈a₀.toList:=λx hx=>mx x (K.pm.mem_iff.mp hx)
   refine qJ (wpS_mono (qL (I:=λn c u=>u=t/\c=(none,n)/\DO κ vs lo (lo+n)) (Q:=λc u=>u=t/\∃n,c=(none,n)/\1<=n/\n<=nrem/\DO κ vs lo (lo+n)) ?_ ?_ ⟨rfl,rfl,S⟩) ?_)
   ·rintro n c t (q1:m<=n) q2 ⟨rfl,rfl,hs⟩;refine qJ (E5 hc X mv (show lo+n<vs.size by lia) (show lo+n-1<vs.size by lia) (λz=>?_) λz=>?_)
    ·exact AZ (λ_=>qK ⟨rfl,n,rfl,by lia,by lia,hs⟩) λz=>qG rfl z
    ·exact AZ (λz=>qG z (by decide)) λ_=>qK ⟨rfl,rfl,grow (by lia) hs z⟩
   ·rintro c u ⟨rfl,rfl,hs⟩;have em:max m nrem=nrem:=by lia
    have hs:DO κ vs lo (lo+max m nrem):=hs;rw[em]at hs;exact⟨rfl,nrem,by show (none,max m nrem)=_;rw[em],h1,aP _,hs⟩
   ·rintro c u ⟨rfl,n,rfl,q1,q2,hs⟩;exact qK (h n vs _ q1 q2 X K hs)
  have zz:=K.size;refine AZ (λg=>?_) λg=>J2 _ _ X K D
  refine qJ (Ny X λt X=>J2 _ _ X (K.mirror (show lo<=lo+m-(q+1) by lia) (show lo+m<=zs.size by lia)) λx y r1 r2 r3=>?_);rw[Ca (by lia) he,Ca (by lia) he];exact D x y r1 r2 r3
 refine AZ (λg=>?_) λg=>?_
 ·have g:n>1:=g;refine qJ (E5 hc X mx (show lo<xs.size by lia) (show lo+n-1<xs.size by lia) (λz=>?_) λz=>?_)
  ·exact AZ (λ_=>qK (h n xs _ n1 nn X K0 hs)) λz=>qG rfl z
  ·have al:∀x,lo<=x->x<lo+n->ky κ xs x=ky κ xs (lo+n-1):=λx q1 q2=>by
    have a1:=hs lo x (aP _) q1 q2;have a2:=hs x (lo+n-1) q1 (by lia) (by lia);lia
   refine AZ (λz=>qG z (by decide)) λ_=>qJ (Ny X λt X=>J _ _ X (K0.mirror (aP _) (show lo+n<=xs.size by lia)) λx y r1 r2 r3=>?_)
   rw[Ca (by lia) al,Ca (by lia) al]
   by_cases c:y<lo+n
   ·rw[al x r1 (by lia),al y (by lia) c];exact cB _
   ·obtain rfl:y=lo+n:=by lia
    by_cases c2:x=lo+n
    ·subst c2;exact cB _
    ·rw[al x r1 (by lia)];exact bL hlt
 ·have g:¬n>1:=g;obtain rfl:n=1:=by lia
  refine J xs _ X K0 λx y r1 r2 r3=>?_
  by_cases c2:x=y
  ·subst c2;exact cB _
  ·obtain rfl:y=lo+1:=by lia
   obtain rfl:x=lo:=by lia
   exact bL hlt
end
noncomputable def Rl(κ:Keyed->Int)(xs:Array Keyed):Nat->List (Nat×Nat×Nat)->Nat->Prop
 |at',[],lo=>at'=lo
 |at',x::l,lo=>x.1=at'/\1<=x.2.1/\DO κ xs at' (at'+x.2.1)/\Rl κ xs (at'+x.2.1) l lo
section
variable{κ:Keyed->Int}{xs ys:Array Keyed}
theorem Rl.len:∀{l:List (Nat×Nat×Nat)} {at' lo:Nat},Rl κ xs at' l lo->at'+l.length<=lo
 |[],_,_,h=>fe h
 |x::l,at',lo,⟨_,h2,_,h4⟩=>by have z:=Rl.len h4;rw[bD];lia
theorem JH{i:Nat}(h:∀x,i<=x->x<j->ys[x]?=xs[x]?)(s:DO κ xs i j):DO κ ys i j:=λx y h1 h2 h3=>by rw[B3 (h x h1 (by lia)),B3 (h y (by lia) h3)];exact s x y h1 h2 h3
theorem Rl.congr:∀{l:List (Nat×Nat×Nat)} {at' lo:Nat},(∀x,at'<=x->x<lo->ys[x]?=xs[x]?)->Rl κ xs at' l lo->Rl κ ys at' l lo
 |[],_,_,_,h=>h
 |x::l,at',lo,hx,⟨h1,h2,h3,h4⟩=>by have z:=Rl.len h4;exact⟨h1,h2,JH (λy q1 q2=>hx y q1 (by lia)) h3,Rl.congr (λy q1 q2=>hx y (by lia) q2) h4⟩
theorem Rl.app:∀{l1 l2:List (Nat×Nat×Nat)} {at' lo:Nat},Rl κ xs at' (l1++l2) lo↔∃m,Rl κ xs at' l1 m/\Rl κ xs m l2 lo
 |[],l2,at',lo=>⟨λh=>⟨at',rfl,h⟩,λ⟨m,h1,h2⟩=>by rw[show at'=m from h1];exact h2⟩
 |x::l1,l2,at',lo=>⟨λ⟨h1,h2,h3,h4⟩=>by obtain⟨m,q1,q2⟩:=Rl.app.mp h4;exact⟨m,⟨h1,h2,h3,q1⟩,q2⟩,λ⟨m,⟨h1,h2,h3,h4⟩,q⟩=>⟨h1,h2,h3,Rl.app.mpr ⟨m,h4,q⟩⟩⟩
theorem Rl.same:∀{l l':List (Nat×Nat×Nat)} {at' lo:Nat},l'.map (λx=>(x.1,x.2.1))=l.map (λx=>(x.1,x.2.1))->Rl κ xs at' l lo->Rl κ xs at' l' lo
 |[],[],_,_,_,h=>h
 |x::l,y::l',at',lo,e,⟨h1,h2,h3,h4⟩=>by
  rw[bv,bv]at e
  injection e with e1 e2
  injection e1 with e3 e4
  refine⟨e3.trans h1,?_,?_,?_⟩
  ·rw[e4];exact h2
  ·rw[e4];exact h3
  ·rw[e4];exact Rl.same e2 h4
 |[],_::_,_,_,e,_=>by simp at e
 |_::_,[],_,_,e,_=>by simp at e
theorem Ra(p:Array (Nat×Nat×Nat))(i pw:Nat):(p.modify i λx=>(x.1,x.2.1,pw)).toList.map (λx=>(x.1,x.2.1))=p.toList.map (λx=>(x.1,x.2.1)):=by
 apply List.ext_getElem?;intro j;rw[aQ,aQ,dB,dB,Array.getElem?_modify];split
 ·cases p[j]?<;>rfl
 ·rfl
end
section
variable{prog:qT}{w:qU}{A:Around}{s:qS}{k:SortKind}{a₀ xs ys:Array Keyed}{p:Array (Nat×Nat×Nat)}{κ:Keyed->Int}{st:SortSt}{lo:Nat}
theorem LA(hc:GS prog w A s k a₀ κ)(X:SX k xs p st)(mx:∀x∈xs.toList,x∈a₀.toList)(R:Rl κ xs 0 p.toList lo)(hz:lo<=xs.size){i:Nat}(hi:i+1<p.size){Q:Bool->SortSt->Prop}
  (h:∀ys q t,SX k ys q t->ys.toList.Perm xs.toList->(∀j,lo<=j->ys[j]?=xs[j]?)->Rl κ ys 0 q.toList lo->q.size+1=p.size->Q true t):wpS (model prog w) A E s (mergeAt' i) Q st:=by
 have e0:p.toList=p.toList.take i++(p[i]::p[i+1]::p.toList.drop (i+2)):=by
  conv=>lhs;rw[<-bz i p.toList]
  congr 1
  rw[List.drop_eq_getElem_cons (by simp;lia),List.drop_eq_getElem_cons (by simp;lia)];simp
 rw[e0]at R;obtain⟨m,R1,R2,R3,R4,R5,R6,R7,R8⟩:=Rl.app.mp R;have z1:=R1.len;have z2:=R8.len;rcases ep:p[i] with⟨sa,na,pw⟩;rcases ep2:p[i+1] with⟨sb,nb,pw2⟩;rw[ep]at R2 R3 R4 R5 R7 R8 z2;rw[ep2]at R5 R6 R7 R8 z2;dsimp only at R2 R3 R4 R5 R6 R7 R8 z2;subst R2;subst R5;refine PN hc X mx (by rw[getElem?_pos p i (by lia),ep]) (by rw[getElem?_pos p (i+1) hi,ep2]) R3 R6 (by lia) R4 R7 λys t sw T=>?_
 have e1:((p.setIfInBounds i (sa,na+nb,pw)).eraseIdxIfInBounds (i+1)).toList=p.toList.take i++((sa,na+nb,pw)::p.toList.drop (i+2)):=by
  rw[Array.toList_eraseIdxIfInBounds,Array.toList_setIfInBounds]
  conv=>lhs;rw[e0]
  have ll:(p.toList.take i).length=i:=by rw[bQ,av];lia
  rw[List.set_append_right _ _ (by lia),ll,dU,List.set_cons_zero,List.eraseIdx_append_of_length_le (by lia),ll,show i+1-i=1 by lia];rfl
 refine h ys _ t T sw.pm (λj hj=>sw.ot j (.inr (by lia))) ?_ ?_
 ·rw[e1];refine Rl.app.mpr ⟨sa,R1.congr λx q1 q2=>sw.ot x (.inl q2),rfl,by show 1<=na+nb;lia,?_,?_⟩
  ·show DO κ ys sa (sa+(na+nb));rw[<-eO];exact sw.up
  ·show Rl κ ys (sa+(na+nb)) _ lo;rw[<-eO];exact R8.congr λx q1 q2=>sw.ot x (.inr q1)
 ·have z:=qP List.length e1;have z0:=qP List.length e0;simp only[Array.length_toList,List.length_append,List.length_cons]at z z0;lia
theorem Rb(hc:GS prog w A s k a₀ κ)(X:SX k xs p st)(mx:∀x∈xs.toList,x∈a₀.toList){n ok:Nat}(h1:1<=ok)(h2:ok<=n)(hz:lo+n<=xs.size)(hs:DO κ xs lo (lo+ok)){Q:Bool->SortSt->Prop}
  (h:∀ys t,SX k ys p t->K9 xs ys lo->DO κ ys lo (lo+n)->Q true t):wpS (model prog w) A E s (binarySort' lo n ok) Q st:=by
 refine qJ (wpS_mono (qL (I:=λx c t=>∃ys,c=(none,())/\SX k ys p t/\K9 xs ys lo/\DO κ ys lo (lo+x)) (Q:=λc t=>∃ys,c=(none,())/\SX k ys p t/\K9 xs ys lo/\DO κ ys lo (lo+n)) ?_ ?_ ⟨xs,rfl,X,⟨.refl _,λ_ _=>rfl⟩,by rw[show max ok 1=ok by lia];exact hs⟩) ?_)
 ·rintro x c t q1 q2 ⟨ys,rfl,X,K,S⟩;have zy:=K.size;have my:∀x∈ys.toList,x∈a₀.toList:=λx hx=>mx x (K.pm.mem_iff.mp hx)
  refine qJ (wpS_mono (qL (I:=λi c u=>u=t/\∃l r,c=(none,l,r)/\l<=r/\r<=x/\r-l<=x-i/\(∀j,j<l->ky κ ys (lo+j)<=ky κ ys (lo+x))/\(∀j,r<=j->j<x->ky κ ys (lo+x)<ky κ ys (lo+j)))
   (Q:=λc u=>u=t/\∃l r,c=(none,l,r)/\l<=x/\(∀j,j<l->ky κ ys (lo+j)<=ky κ ys (lo+x))/\(∀j,l<=j->j<x->ky κ ys (lo+x)<ky κ ys (lo+j))) ?_ ?_ ⟨rfl,0,x,rfl,by lia,by lia,by lia,λj hj=>by lia,λj a b=>by lia⟩) ?_)
  ·rintro i c u _ ix ⟨rfl,l,r,rfl,a1,a2,a3,a4,a5⟩;refine AZ (λz=>?_) λz=>?_
   ·obtain rfl:l=r:=Nat.le_antisymm a1 z;exact qK ⟨rfl,l,l,rfl,a2,a4,a5⟩
   ·have z:¬l≥r:=z;refine qJ (E5 hc X my (show lo+x<ys.size by lia) (show lo+(l+r)/2<ys.size by lia) (λy=>?_) λy=>?_)
    ·have y:ky κ ys (lo+x)<ky κ ys (lo+(l+r)/2):=y;refine AZ (λ_=>qK ⟨rfl,l,(l+r)/2,rfl,by lia,by lia,by lia,a4,λj b1 b2=>?_⟩) λz=>qG rfl z
     exact Int.lt_of_lt_of_le y (S _ _ (by lia) (by lia) (by lia))
    ·have y:ky κ ys (lo+(l+r)/2)<=ky κ ys (lo+x):=y;refine AZ (λz=>qG z (by decide)) λ_=>qK ⟨rfl,(l+r)/2+1,r,rfl,by lia,by lia,by lia,λj b1=>?_,a5⟩
     exact bi (S _ _ (by lia) (by lia) (by lia)) y
  ·rintro c u ⟨rfl,l,r,rfl,a1,a2,a3,a4,a5⟩;obtain rfl:l=r:=by lia
   exact⟨rfl,l,l,rfl,a2,a4,a5⟩
  ·rintro c u ⟨rfl,l,r,rfl,a1,a4,a5⟩;refine qJ (WM X λt X=>qK ⟨_,rfl,X,K.bubble (show lo+x<ys.size by lia) (show lo+(lo+x-(lo+l))<=lo+x by lia),?_⟩)
   have kb:∀j,ky κ (bubble ys (lo+x) (lo+x-(lo+l))) j=if j=lo+l then ky κ ys (lo+x) else if lo+l<j/\j<=lo+x then ky κ ys (j-1) else ky κ ys j:=λj=>by
    have e:=getElem?_bubble (xs:=ys) (show lo+x<ys.size by lia) (lo+x-(lo+l)) (by lia) j;rw[show lo+x-(lo+x-(lo+l))=lo+l by lia]at e;split
    ·rw[qF ‹_›]at e;exact B3 e
    ·rw[qE ‹_›]at e;split
     ·rw[qF ‹_›]at e;exact B3 e
     ·rw[qE ‹_›]at e;exact B3 e
   intro a b b1 b2 b3;show ky κ (bubble ys (lo+x) (lo+x-(lo+l))) a<=ky κ (bubble ys (lo+x) (lo+x-(lo+l))) b
   have a4':∀j,lo<=j->j<lo+l->ky κ ys j<=ky κ ys (lo+x):=λj q1 q2=>by have z:=a4 (j-lo) (by lia);rw[show lo+(j-lo)=j by lia]at z;exact z
   have a5':∀j,lo+l<=j->j<lo+x->ky κ ys (lo+x)<ky κ ys j:=λj q1 q2=>by have z:=a5 (j-lo) (by lia) (by lia);rw[show lo+(j-lo)=j by lia]at z;exact z
   rw[kb,kb]
   repeat' split
   all_goals first
    | (exfalso;lia)
    |exact cB _
    |exact a4' _ (by lia) (by lia)
    |exact bL (a5' _ (by lia) (by lia))
    |exact S _ _ (by lia) (by lia) (by lia)
 ·rintro c t ⟨ys,rfl,X,K,S⟩;rw[show max (max ok 1) n=n by lia]at S;exact⟨ys,rfl,X,K,S⟩
 ·rintro c t ⟨ys,rfl,X,K,S⟩;exact qK (h ys t X K S)
end
section
variable{prog:qT}{w:qU}{A:Around}{s:qS}{k:SortKind}{a₀ xs ys:Array Keyed}{p:Array (Nat×Nat×Nat)}{κ:Keyed->Int}{st:SortSt}{lo:Nat}
theorem Rc{f:β->StateT SortSt Sem α}{m:StateT SortSt Sem α}{Q:α->SortSt->Prop}(R:β->SortSt->Prop)(J:∀x t,R x t->wpS (model prog w) A E s (f x) Q t)(h:(∀x t,R x t->wpS (model prog w) A E s (f x) Q t)->wpS (model prog w) A E s m Q st):wpS (model prog w) A E s m Q st:=h J
theorem Nz(hc:GS prog w A s k a₀ κ)(X:SX k a₀ #[] st){Q:Unit->SortSt->Prop}(h:∀ys q t,SX k ys q t->ys.toList.Perm a₀.toList->DO κ ys 0 a₀.size->Q () t):wpS (model prog w) A E s sortRuns' Q st:=by
 have sz:∀{ys:Array Keyed},ys.toList.Perm a₀.toList->ys.size=a₀.size:=λ{ys} z=>by have z:=z.length_eq;simpa using z
 refine qJ (wpS_get ?_);have ea:(arrOf st).size=a₀.size:=by rw[X.ar]
 extract_lets n0 mr lo0
 obtain⟨n,hn⟩:∃n,n=n0:=⟨_,rfl⟩;have en:n=a₀.size:=hn.trans ea;clear_value mr;rw[<-hn];clear_value n0;refine qJ (wpS_mono (qL (I:=λi c t=>∃lo ys p,c=(none,lo)/\SX k ys p t/\ys.toList.Perm a₀.toList/\Rl κ ys 0 p.toList lo/\lo<=n/\i<=lo) (Q:=λc t=>∃ys p,c=(none,n)/\SX k ys p t/\ys.toList.Perm a₀.toList/\Rl κ ys 0 p.toList n) ?_ ?_ ⟨0,a₀,#[],rfl,X,.refl _,rfl,az _,az _⟩) ?_)
 ·rintro i c t _ hi ⟨lo,ys,p,rfl,X,P,R,ln,li⟩;have zy:=sz P;have my:∀x∈ys.toList,x∈a₀.toList:=λx hx=>P.mem_iff.mp hx
  refine AZ (λz=>?_) λz=>?_
  ·have z:lo≥n:=z;obtain rfl:lo=n:=by lia
   exact qK ⟨ys,p,rfl,X,P,R⟩
  have z:¬lo≥n:=z;refine qJ (Ml hc X my (show 1<=n-lo by lia) (show lo+(n-lo)<=ys.size by lia) λr ys t r1 r2 X K S=>?_);dsimp (config:={zeta:=false,zetaHave:=false}) only
  extract_lets f jp fc
  have P:=K.pm.trans P;have R:=R.congr λx _ q=>K.ot x q
  have zy:=sz P;refine Rc (f:=jp ()) (λm t=>∃ys,1<=m/\lo+m<=n/\SX k ys p t/\ys.toList.Perm a₀.toList/\Rl κ ys 0 p.toList lo/\DO κ ys lo (lo+m)) (λm t z8=>?_) λJ=>?_
  ·obtain⟨ys,m1,m2,X,P,R,S⟩:=z8;refine qJ (wpS_get ?_)
   extract_lets lo1 jp2
   refine Rc (f:=jp2) (λ_ t=>∃ys p,SX k ys p t/\ys.toList.Perm a₀.toList/\Rl κ ys 0 p.toList lo/\DO κ ys lo (lo+m)) (λ_ t z8=>?_) λJ2=>?_
   ·obtain⟨ys,p,X,P,R,S⟩:=z8;refine qJ (wpS_modify (qK ⟨lo+m,ys,p.push (lo,m,0),rfl,⟨X.kd,X.ar,by show (pendingOf t).push _=_;rw[X.pd],X.fl⟩,P,?_,m2,by lia⟩));rw[Array.toList_push];exact Rl.app.mpr ⟨lo,R,rfl,m1,S,rfl⟩
   have ep:(sortPriv% PySem.Builtin.SortState.pending) t=p:=X.pd;rw[ep];rcases eb:p.back? with _|⟨s1,n1,w1⟩
   ·exact J2 () t ⟨ys,p,X,P,R,S⟩
   refine qJ (wpS_mono (qL (I:=λ_ c t=>∃ys p,c=(none,())/\SX k ys p t/\ys.toList.Perm a₀.toList/\Rl κ ys 0 p.toList lo/\DO κ ys lo (lo+m)) (Q:=λc t=>∃ys p,c=(none,())/\SX k ys p t/\ys.toList.Perm a₀.toList/\Rl κ ys 0 p.toList lo/\DO κ ys lo (lo+m)) ?_ (λ_ _ z=>z) ⟨ys,p,rfl,X,P,R,S⟩) ?_)
   ·rintro j c t _ _ ⟨ys,p,rfl,X,P,R,S⟩;refine qJ (wpS_get ?_);have ep:(sortPriv% PySem.Builtin.SortState.pending) t=p:=X.pd;rw[ep]
    extract_lets p2
    by_cases c1:p.size>1
    ·rw[qF c1,getElem?_pos p (p.size-2) (by lia)];obtain⟨a1,a2,a3⟩:=p[p.size-2];refine AZ (λ_=>qK ⟨ys,p,rfl,X,P,R,S⟩) λ_=>?_;have zy:=sz P;refine qJ (LA hc X (λx hx=>P.mem_iff.mp hx) R (by lia) (show p.size-2+1<p.size by lia) λzs q t X P' O R' _=>?_);exact AZ (λz=>qG z (by decide)) λ_=>qK ⟨zs,q,rfl,X,P'.trans P,R',JH (λx q1 _=>O x q1) S⟩
    ·rw[qE c1];exact qK ⟨ys,p,rfl,X,P,R,S⟩
   ·rintro c t ⟨ys,p,rfl,X,P,R,S⟩;exact qJ (wpS_modify (J2 () _ ⟨ys,p.modify (p.size-1) λx=>(x.1,x.2.1,power' n (2*s1+n1) (2*s1+n1+n1+m) n),⟨X.kd,X.ar,qP (λz:Array (Nat×Nat×Nat)=>z.modify (z.size-1) λx=>(x.1,x.2.1,power' n (2*s1+n1) (2*s1+n1+n1+m) n)) X.pd,X.fl⟩,P,R.same (Ra p (p.size-1) _),S⟩))
  refine AZ (λg=>?_) λg=>J r t ⟨ys,r1,by lia,X,P,R,S⟩
  have g:r<mr:=g;refine qJ (wpS_lift (wpAny_rule ⟨rfl,?_⟩));refine qJ (Rb hc X (λx hx=>P.mem_iff.mp hx) r1 (show r<=min (n-lo) mr by lia) (show lo+min (n-lo) mr<=ys.size by lia) S λzs t X K S=>?_);exact AZ (λz=>qG z (by decide)) λ_=>J _ t ⟨zs,show 1<=min (n-lo) mr by lia,show lo+min (n-lo) mr<=n by lia,X,K.pm.trans P,R.congr λx _ q=>K.ot x q,S⟩
 ·rintro c t ⟨lo,ys,p,rfl,X,P,R,ln,li⟩;obtain rfl:lo=n:=by lia
  exact⟨ys,p,rfl,X,P,R⟩
 rintro c t ⟨ys,p,rfl,X,P,R⟩
 have fin:∀ys p t,SX k ys p t->ys.toList.Perm a₀.toList->Rl κ ys 0 p.toList n->p.size<=1->Q () t:=λys p t X P R h1=>by
  refine h ys p t X P ?_;obtain⟨l⟩:=p;rw[<-en]
  match l,R,h1 with
  |[],R,_=>intro x y _ _ hy;have:0=n:=R;lia
  |[x],⟨_,_,S,R⟩,_ =>
   have e:0+x.2.1=n:=R;rw[e]at S;exact S
  |x::y::l,_,h1=>simp at h1
 have zp:=R.len;refine qJ (wpS_mono (qL (I:=λj c t=>∃ys p,c=(none,())/\SX k ys p t/\ys.toList.Perm a₀.toList/\Rl κ ys 0 p.toList n/\p.size+j<=n) (Q:=λc t=>c=(none,())/\Q () t) ?_ ?_ ⟨ys,p,rfl,X,P,R,by simp at zp;lia⟩) ?_)
 ·rintro j c t _ hj ⟨ys,p,rfl,X,P,R,pj⟩;refine qJ (wpS_get ?_);have ep:(sortPriv% PySem.Builtin.SortState.pending) t=p:=X.pd;rw[ep];refine AZ (λz=>?_) λz=>?_
  ·exact qK ⟨rfl,fin ys p t X P R z⟩
  have z:¬p.size<=1:=z;have zy:=sz P;refine qJ (LA hc X (λx hx=>P.mem_iff.mp hx) R (by lia) ?_ λzs q t X P' O R' e=>?_)
  ·(repeat' split)<;>lia
  ·exact AZ (λz=>qG z (by decide)) λ_=>qK ⟨zs,q,rfl,X,P'.trans P,R',by lia⟩
 ·rintro c t ⟨ys,p,rfl,X,P,R,pj⟩;exact⟨rfl,fin ys p t X P R (by lia)⟩
 ·rintro c t ⟨rfl,q⟩;exact qK q
end
end L2
namespace PySem
open Sem (wp)
open PyProof.Rows
end PySem
namespace L2
open PySem PySem.Spec PyProof.Rows
variable{E:qQ->qS->Prop}
section
variable{prog:qT}{w:qU}{A:Around}{s:qS}
theorem Re{s:qS}{a₀:Array Keyed}(h:∀x∈a₀.toList,∃n t,x.1=.int n t):GS prog w A s oneType' a₀ (λx=>numOf x.1):=λx hx y hy E Q q=>by
 obtain⟨n,t,e⟩:=h x hx;obtain⟨m,u,e2⟩:=h y hy;have e3:(λx y:Keyed=>decide ((λx:Keyed=>numOf x.1) x<(λx:Keyed=>numOf x.1) y)) x y=decide (n<m):=by simp only[e,e2];rfl
 rw[e3]at q;rw[keyLt'_oneType,e,e2];exact oneLt_int q
end
end L2
namespace L2
open PySem PySem.Spec PyProof.Rows RW
variable{B:qX->List (qX)}{E Q:qQ->qS->Prop}{G m':Nat}{H:Hp}{M:List (qX)}{X:Cx}{a l:qR}{f:qX->Nat}{h':Heap}{lo':Int}{p q:qX}{dl tab':qW}{vs:List qQ}{α β:Type}
theorem T7{l:List α}(h:2<=l.length):∃x y r,l=x::y::r:=by
 rcases l with _|⟨x,_|⟨y,l⟩⟩
 ·exact qG h (by rw[dM];decide)
 ·exact qG h (by rw[bW];decide)
 ·exact⟨_,_,_,rfl⟩
noncomputable def Cq(h:Heap):qQ->Int
 |.ref t=>match h.get? t with
  |some o=>match o.data with
   |.seq xs _=>A5 1000 (xs.toList.map numOf)
   |_=>0
  |none=>0
 |_=>0
def J1(n:Nat)(h:Heap)(v:qQ):Prop:=∃(t:qR) (vs:List qQ) (ns:qW),v=.ref t/\IsTup h t vs.toArray/\IntsAre vs ns/\ns.length=n/\∀x∈ns,0<=x/\x<1000
theorem J1.i{n:Nat}{h:Heap}{v:qQ}(n0:n≠0)(x:J1 n h v):RT h v:=by obtain⟨t,vs,ns,e,g,i,l,_⟩:=x;exact⟨t,vs,ns,e,g,i,λz=>n0 (by rw[<-l,z];rfl)⟩
theorem J1.at{n:Nat}{h:Heap}{v:qQ}(x:J1 n h v)(k:∀t o,h.get? t=some o->o.cls=.type "tuple"->h'.get? t=some o):J1 n h' v:=by obtain⟨t,vs,ns,e,⟨o,g,c,d⟩,i,ne⟩:=x;exact⟨t,vs,ns,e,⟨o,k t o g c,c,d⟩,i,ne⟩
theorem Dd{h:Heap}{t:qR}{ns:qW}(g:IsTup h t vs.toArray)(i:IntsAre vs ns):Cq h (.ref t)=A5 1000 ns:=by obtain⟨o,e,_,_,d⟩:=g;unfold Cq;simp only[e,d];rw[i.nums]
theorem T8{g:Int}(hg:2<=g){a b:qW}(l:a.length=b.length)(ha:∀n∈a,0<=n/\n<g)(hb:∀n∈b,0<=n/\n<g):HT.Cd a b=decide (A5 g a<A5 g b):=by
 by_cases z:A5 g a<A5 g b
 ·rw[qH z];exact FQ hg l ha hb z
 ·rw[qI z]
  have irr:∀a:qW,HT.Cd a a=false:=λa=>by
   induction a with
   |nil=>exact HT.Di
   |cons x a ih=>rw[HT.EC,qF rfl];exact ih
  have asy:∀{a b:qW},HT.Cd a b=true->HT.Cd b a=false:=by
   intro a
   induction a with
   |nil =>
    intro b h;cases b with
    |nil=>exact h▸(by rw[HT.Di]at h;cases h)
    |cons y b=>exact HT.DB ..
   |cons x a ih =>
    intro b h;cases b with
    |nil=>rw[HT.DB]at h;cases h
    |cons y b =>
     rw[HT.EC]at h⊢
     by_cases e:x=y
     ·rw[qF e]at h;rw[qF e.symm];exact ih h
     ·rw[qE e]at h;rw[qE (Ne.symm e)];have:=qN h;exact qI (by lia)
  by_cases y:A5 g b<A5 g a
  ·exact asy (FQ hg l.symm hb ha y)
  ·have e:a=b:=by
    have e1:=Ds hg ha;have e2:=Ds hg hb;rw[show A5 g a=A5 g b by lia,l]at e1;exact e1.symm.trans e2
   rw[e];exact irr b
theorem Rf{F:α->β->Prop}{l₁:List α}{l₂:List β}(p:Paired F l₁ l₂):∀b∈l₂,∃a∈l₁,F a b:=by
 induction p with
 |nil=>intro _ h;cases h
 |cons r _ ih =>
  intro b h;rcases aw.mp h with rfl|h
  ·exact⟨_,ai,r⟩
  ·obtain⟨a,h1,h2⟩:=ih b h;exact⟨a,aa _ h1,h2⟩
theorem LB{F:α->β->Prop}{l l':List α}(p:l'.Perm l):∀{m:List β},Paired F l m->∃m',m'.Perm m/\Paired F l' m':=by
 induction p with
 |nil=>intro m h;exact⟨m,.refl _,h⟩
 |cons a _ ih =>
  intro m h;cases h with
  |cons r h =>
   obtain⟨m',p1,v1⟩:=ih h;exact⟨_::m',p1.cons _,.cons r v1⟩
 |swap a b l =>
  intro m h;cases h with
  |cons r h =>
   cases h with
   |cons r2 h=>exact⟨_,.swap ..,.cons r2 (.cons r h)⟩
 |trans _ _ ih1 ih2 =>
  intro m h;obtain⟨zs,p2,v2⟩:=ih2 h;obtain⟨ys,p1,v1⟩:=ih1 v2;exact⟨ys,p1.trans p2,v1⟩
theorem Rg{F:α->β->Prop}{l₁:List α}{l₂:List β}(p:Paired F l₁ l₂):∀a∈l₁,∃b,F a b:=by
 induction p with
 |nil=>intro _ h;cases h
 |cons r _ ih =>
  intro a h;rcases aw.mp h with rfl|h
  ·exact⟨_,r⟩
  ·exact ih a h
section
variable{prog:qT}{w:qU}{A:Around}{s:qS}
theorem Rh{n:Nat}{b:Bool}{a₀:Array Keyed}(h:∀x∈a₀.toList,J1 n s.heap x.1):GS prog w A s (tuples' b) a₀ (λx=>Cq s.heap x.1):=λx hx y hy E Q q=>by
 obtain⟨tx,vx,nx,ex,gx,ix,lx,bx⟩:=h x hx;obtain⟨ty,vy,ny,ey,gy,iy,ly,by_⟩:=h y hy
 have e3:(λx y:Keyed=>decide ((λx:Keyed=>Cq s.heap x.1) x<(λx:Keyed=>Cq s.heap x.1) y)) x y=HT.Cd nx ny:=by show decide (Cq s.heap x.1<Cq s.heap y.1)=_;rw[ex,ey,Dd gx ix,Dd gy iy,T8 (by decide) (lx.trans ly.symm) bx by_]
 rw[e3]at q;rw[ex,ey];exact PD b gx gy ix iy q
theorem LC{m:Nat}(m0:m≠0){n:Nat}{P:Fin->qS->Prop}(ho:s.heap.get? a=some (seqObj "list" vs.toArray n))(hT:∀v∈vs,J1 m s.heap v)(hz:vs.length<=100000)
  (h:∀out:Array qQ,out.toList.Perm vs->out.toList.Pairwise (λu v=>Cq s.heap u<=Cq s.heap v)->P (.done (.ret .none)) {s with heap:=sortedHeap s.heap a vs out}):wpAny (model prog w) A (Builtin.«list.sort» ⟨[.ref a],[]⟩) P E s:=by
 rw[list_sort_plain];have lt:=aY ho;obtain⟨e1,ho1⟩:∃e1,(s.heap.update a (Obj.mapSeq λ_=>#[])).get? a=some (seqObj "list" #[] e1):=⟨_,get?_update_seq ho (λ_=>#[])⟩;refine qC (listItems_at ho rfl (qC (listUpdate_at ho rfl (qC (seqEpoch_at ho1 rfl (qC (wpAny_newTuple (qC (wpAny_newList (qO ?_))))))))))
 have up:∀t o,t≠a->s.heap.get? t=some o->(((s.heap.update a (Obj.mapSeq λ_=>#[])).push (seqObj "tuple" vs.toArray 0)).push (seqObj "list" #[] 0)).get? t=some o:=λt o ne g =>
  aO _ (aO _ (by rw[cT _ _ _ _ ne];exact g))
 have hl:(((s.heap.update a (Obj.mapSeq λ_=>#[])).push (seqObj "tuple" vs.toArray 0)).push (seqObj "list" #[] 0)).get? a=some (seqObj "list" #[] e1):=aO _ (aO _ ho1);show wpAny (model prog w) A _ P E {s with heap:=((s.heap.update a (Obj.mapSeq λ_=>#[])).push (seqObj "tuple" vs.toArray 0)).push (seqObj "list" #[] 0)};dsimp only;have sz:vs.toArray.size=vs.length:=by simp
 have line:vs.length<=sizeLine+1:=by rw[sizeLine_eq];lia
 have hT6:∀v∈vs,J1 m (((s.heap.update a (Obj.mapSeq λ_=>#[])).push (seqObj "tuple" vs.toArray 0)).push (seqObj "list" #[] 0)) v:=λv hv=>(hT v hv).at λt o g c=>up t o (λz=>by rw[z,ho]at g;cases g;exact qG (Value.type.inj c) (by decide)) g
 by_cases h2:vs.toArray.size<2
 ·rw[qF h2,qF h2];refine qC (qD ?_);rw[StateT.run_pure];refine qC (qD (qC (seqEpoch_at hl rfl (qC (listUpdate_at hl rfl ?_ (hsz2:=by rw[Array.size_map];show (pairsOf vs).size<=_;rw[pairsOf_size];exact line))))));simp only[bne_self_eq_false,Bool.false_eq_true,if_false]
  exact qD (h _ (by simp[List.map_snd_zip]) (by
   have l1:((pairsOf vs).map (·.2)).toList.length<2:=by rw[av,Array.size_map,pairsOf_size];lia
   have one:∀(l:List qQ),l.length<2->l.Pairwise (λu v=>Cq s.heap u<=Cq s.heap v):=λl hl=>by
    rcases l with _|⟨x,_|⟨y,l⟩⟩
    ·exact .nil
    ·exact List.pairwise_singleton ..
    ·rw[bD,bD]at hl;lia
   exact one _ l1))
 ·rw[qE h2,qE h2];obtain⟨v₁,v₂,rest,rfl⟩:∃v₁ v₂ rest,vs=v₁::v₂::rest:=by rw[bV]at h2;exact T7 (fP h2)
  refine qC (RU (λv hv=>(hT6 v hv).i m0) λb=>?_);obtain⟨h6,hh6⟩:∃h6,h6=((s.heap.update a (Obj.mapSeq λ_=>#[])).push (seqObj "tuple" (v₁::v₂::rest).toArray 0)).push (seqObj "list" #[] 0):=⟨_,rfl⟩;rw[<-hh6]at hT6 hl⊢
  have kk:∀v∈v₁::v₂::rest,Cq h6 v=Cq s.heap v:=λv hv=>by obtain⟨t,vs,ns,rfl,g,i,_⟩:=hT v hv;obtain⟨o,g1,c,d⟩:=id g;have g6:IsTup h6 t vs.toArray:=⟨o,by rw[hh6];exact up t o (λz=>by rw[z,ho]at g1;cases g1;exact qG (Value.type.inj c) (by decide)) g1,c,d⟩;rw[Dd g i,Dd g6 i]
  have pm:∀x∈(pairsOf (v₁::v₂::rest)).toList,x.1=x.2/\x.2∈v₁::v₂::rest:=λx hx=>by rw[pairsOf_toList]at hx;have z:=mem_zip_self hx;exact⟨z.1,by rw[<-z.1];exact z.2⟩
  refine qC (qM (Nz (s:={s with heap:=h6}) (k:=tuples' b) (a₀:=pairsOf (v₁::v₂::rest)) (κ:=λx=>Cq h6 x.1) (st:=SortSt.mk' (tuples' b) (pairsOf (v₁::v₂::rest)) #[] 7 none)
   (Q:=λ_ t=>(arrOf t).toList.Perm (pairsOf (v₁::v₂::rest)).toList/\failedOf t=none/\DO (λx=>Cq h6 x.1) (arrOf t) 0 (pairsOf (v₁::v₂::rest)).size) (Rh λx hx=>by rw[(pm x hx).1];exact hT6 _ (pm x hx).2) ⟨rfl,rfl,rfl,rfl⟩ λys q t X p S=>⟨by rw[X.ar];exact p,X.fl,by rw[X.ar];exact S⟩) ?_ λ_ _ e=>e)
  rintro⟨⟨⟩,t⟩ s' ⟨rfl,hp,hf,hs⟩
  have pl:((arrOf t).map (·.2)).toList.Perm (v₁::v₂::rest):=by have z:=hp.map (·.2);rw[pairsOf_toList,List.map_snd_zip (aP _)]at z;rw[Array.toList_map];exact z
  have ln:((arrOf t).map (·.2)).size<=sizeLine+1:=by have z:=pl.length_eq;rw[av]at z;rw[z];exact line
  have so:((arrOf t).map (·.2)).toList.Pairwise (λu v=>Cq s.heap u<=Cq s.heap v):=by
   rw[Array.toList_map,cU,List.pairwise_iff_getElem];intro i j hi hj hij;have sz2:(arrOf t).size=(pairsOf (v₁::v₂::rest)).size:=by have z:=hp.length_eq;simpa using z
   have z:=hs i j (Nat.zero_le _) (Nat.le_of_lt hij) (by rw[<-sz2];simpa using hj);rw[A1 (by simpa using hi),A1 (by simpa using hj)]at z;have m1:=pm _ (hp.mem_iff.mp (bS hi));have m2:=pm _ (hp.mem_iff.mp (bS hj));rw[<-kk _ m1.2,<-kk _ m2.2,<-m1.1,<-m2.1];simpa using z
  dsimp only;refine qC (seqEpoch_at hl rfl (qC (listUpdate_at hl rfl ?_ (hsz2:=ln))));rw[hf];simp only[bne_self_eq_false,Bool.false_eq_true,if_false];rw[hh6];exact qD (h _ pl so)
theorem PP{m:Nat}(m0:m≠0)(hl:s.heap.IsList l vs.toArray)(hT:∀v∈vs,J1 m s.heap v)(hz:vs.length<=100000)
  (h:∀out:Array qQ,out.toList.Perm vs->out.toList.Pairwise (λu v=>Cq s.heap u<=Cq s.heap v)->Q (.ref (s.heap.objs.size+1)) {s with heap:=sortedAll s.heap vs out}):wpAny (model prog w) A (call (.builtin "sorted") [.ref l]) Q E s:=by
 refine Calls.call_function_entry kind_sorted plain_sorted entry_sorted (args_sorted1 _) ?_;unfold Builtin.«sorted»;refine qC (m:=checkCount "sorted" 1 1 _) (qD (qC (collect_list hl (qC (wpAny_newList ?_)))));have sz:((s.heap.push (seqObj "list" #[] 0)).update s.heap.objs.size (Obj.mapSeq (·++vs.toArray))).objs.size=s.heap.objs.size+1:=by rw[Heap.size_update,size_push']
 have gL:(((s.heap.push (seqObj "list" #[] 0)).update s.heap.objs.size (Obj.mapSeq (·++vs.toArray))).push (seqObj "list" vs.toArray 0)).get? (s.heap.objs.size+1)=some (seqObj "list" vs.toArray 0):=by rw[<-sz];exact af _ rfl
 show wpAny _ _ _ _ _ {s with heap:=((s.heap.push (seqObj "list" #[] 0)).update s.heap.objs.size (Obj.mapSeq (·++vs.toArray))).push (seqObj "list" vs.toArray 0)};rw[sz];refine qC (qO (wpAny_call_entry slot_list_sort ⟨_,gL,rfl⟩ entry_list_sort (LC m0 gL (λv hv=>(hT v hv).at λt o g _=>?_) hz λout p so=>⟨_,rfl,qD ⟨_,rfl,h out p (so.imp_of_mem λ{u v} hu hv z=>?_)⟩⟩) (args_list_sort _)))
 ·exact aO _ (by rw[cT _ _ _ _ (bF (aY g))];exact aO _ g)
 ·have kk:∀v∈vs,Cq (((s.heap.push (seqObj "list" #[] 0)).update s.heap.objs.size (Obj.mapSeq (·++vs.toArray))).push (seqObj "list" vs.toArray 0)) v=Cq s.heap v:=λv hv=>by
   obtain⟨t,vs',ns,rfl,g,i,_⟩:=hT v hv;obtain⟨o,g1,c,d⟩:=id g;rw[Dd g i,Dd (show IsTup _ t vs'.toArray from⟨o,aO _ (by rw[cT _ _ _ _ (bF (aY g1))];exact aO _ g1),c,d⟩) i]
  have z:=z;rw[show Cq _ u=_ from kk u (p.mem_iff.mp hu),show Cq _ v=_ from kk v (p.mem_iff.mp hv)]at z;exact z
end
noncomputable def WN:qQ->qR
 |.ref t=>t
 |_=>0
theorem Mm:CT X (.builtin "sorted") (λxs H Q=>∃(a:qR) (ts:List qR) (ws:List (qW)) (n:Nat),xs=[.ref a]/\Af X.K H a (ts.map V.ref)/\n≠0/\ts.length<=100000/\Paired (λt ns=>Aa X.K H t (ns.map V.int)/\ns.length=n/\∀x∈ns,0<=x/\x<1000) ts ws /\
  ∀D (ts':List qR) (ws':List (qW)),H D=none->ts'.Perm ts->ws'.Perm ws->Paired (λt ns=>Aa X.K H t (ns.map V.int)) ts' ws'->ws'.Pairwise (λu v=>A5 1000 u<=A5 1000 v)->Q (.ref D) (AV H D (.lst (ts'.map V.ref)))):=by
 intro ad s σ H xs us Q I r h;obtain⟨a,ts,ws,n,rfl,ha,n0,l64,ht,q⟩:=h;obtain⟨u,rfl,ru⟩:=FH r;cases ru;obtain⟨its,rv,pl,hz⟩:=I.list ha;have ln:=rv.length;rw[aH]at ln
 have its_is:its=ts.map Value.ref:=by
  have go:∀{ts:List qR} {its:List qQ},Au (ts.map V.ref) its->its=ts.map Value.ref:=by
   intro ts
   induction ts with
   |nil=>intro its h;cases h;rfl
   |cons t ts ih =>
    intro its h;cases h with
    |cons r h =>
     rw[ih h];have r:_=Value.ref t:=r;rw[r];rfl
  exact go rv
 have tup:∀{t:qR} {ns:qW},Aa X.K H t (ns.map V.int)->∃tv,IsTup s.heap t tv.toArray/\IntsAre tv ns:=λst=>by obtain⟨tv,rt,pt,_⟩:=I.tuple st;exact⟨tv,pt,EJ rt⟩
 have each:∀t∈ts,∃ns:qW,Aa X.K H t (ns.map V.int)/\ns.length=n/\∀x∈ns,0<=x/\x<1000:=λt h=>Rg ht t h
 refine PP n0 (vs:=its) pl.isList (λv hv=>?_) (by lia) λout p so=>?_
 ·rw[its_is]at hv;obtain⟨t,h1,rfl⟩:=ao.mp hv;obtain⟨ns,st,l,b⟩:=each t h1;obtain⟨tv,pt,it⟩:=tup st;exact⟨t,tv,ns,rfl,pt,it,l,b⟩
 ·rw[its_is]at p
  obtain⟨ts',e1,p1⟩:∃ts':List qR,out.toList=ts'.map Value.ref/\ts'.Perm ts:=by
   refine⟨out.toList.map WN,?_,?_⟩
   ·rw[ce];refine (List.map_id _).symm.trans (bG λv hv=>?_);obtain⟨t,_,rfl⟩:=ao.mp (p.mem_iff.mp hv);rfl
   ·have z:=p.map WN;rw[ce]at z;exact z.trans (by rw[show ts.map (WN∘Value.ref)=ts from (bG λ_ _=>rfl).trans (List.map_id _)])
  obtain⟨ws',p2,hw⟩:∃ws',ws'.Perm ws/\Paired (λt ns=>Aa X.K H t (ns.map V.int)/\ns.length=n/\∀x∈ns,0<=x/\x<1000) ts' ws':=LB p1 ht;obtain⟨e,he⟩:=sortedAll_at s.heap its out
  have vz:Au (ts'.map V.ref) out.toList:=by
   rw[e1]
   have go:∀ts:List qR,Au (ts.map V.ref) (ts.map Value.ref):=λts=>by
    induction ts with
    |nil=>exact .nil
    |cons t ts ih=>exact .cons rfl ih
   exact go ts'
  refine⟨.ref (s.heap.objs.size+1),_,I.laid (a:=s.heap.objs.size+1) (o:=.lst (ts'.map V.ref)) (t':=s.toks) (λb o g=>sortedAll_old g) (dW _) ⟨by rw[aH,p1.length_eq];rw[aH]at hz;exact hz,out.toList,e,vz,by rw[Array.toArray_toList];exact he⟩,rfl,q _ ts' ws' (I.hok.fresh (dW _)) p1 p2 (Paired.mapP hw λ_ _ z=>z.1) ?_⟩;rw[e1,cU]at so
  have go:∀{ts:List qR} {ws:List (qW)},Paired (λt ns=>Aa X.K H t (ns.map V.int)/\ns.length=n/\∀x∈ns,0<=x/\x<1000) ts ws->ts.Pairwise (λa b=>Cq s.heap (.ref a)<=Cq s.heap (.ref b))->ws.Pairwise (λu v=>A5 1000 u<=A5 1000 v):=by
   intro ts ws h1
   induction h1 with
   |nil=>intro _;exact .nil
   |cons r t ih =>
    intro h2;obtain⟨h3,h4⟩:=eI.mp h2;refine eI.mpr ⟨λw hw=>?_,ih h4⟩;obtain⟨b,hb,st,_⟩:=Rf t w hw;have z:=h3 b hb;obtain⟨tv,pt,it⟩:=tup r.1;obtain⟨tv2,pt2,it2⟩:=tup st;rw[Dd pt it,Dd pt2 it2]at z;exact z
  exact go hw so
theorem LD{K:qV}(h:X.K=K):CT X (.builtin "sorted") (λxs H Q=>∃(a:qR) (ts:List qR) (ws:List (qW)) (n:Nat),xs=[.ref a]/\Af K H a (ts.map V.ref)/\n≠0/\ts.length<=100000/\Paired (λt ns=>Aa K H t (ns.map V.int)/\ns.length=n/\∀x∈ns,0<=x/\x<1000) ts ws /\
  ∀D (ts':List qR) (ws':List (qW)),H D=none->ts'.Perm ts->ws'.Perm ws->Paired (λt ns=>Aa K H t (ns.map V.int)) ts' ws'->ws'.Pairwise (λu v=>A5 1000 u<=A5 1000 v)->Q (.ref D) (AV H D (.lst (ts'.map V.ref)))):=h▸Mm
theorem C7{g:Int}(hg:2<=g){m:Nat}(hl:(dl.length:Int)=g^m)(m1:1<=m):dl.length=dl.length/g.toNat*g.toNat:=by
 have z:dl.length%g.toNat=0:=by
  have e:g^m=g^(m-1)*g:=by rw[<-bA];congr 1;lia
  have:((dl.length%g.toNat:Nat):Int)=0:=by rw[bM,hl,e,ax (by lia)];exact Int.mul_emod_left ..
  lia
 have:=cR dl.length g.toNat;rw[z,dj,br]at this;exact this.symm
structure KC(h:Nat)(S:qX->qX->Prop)(M:List (qX))(f:qX->Nat):Prop where
 nd:M.Nodup
 sub:∀p∈M,p∈Be h
 low:∀p∈M,∀q,S q p->q∈M/\f q<f p
 top:∀p∈M,f p=0\/∃q,S q p/\q∈M/\f p=f q+1
 rest:∀p∈Be h,p∉M->∃q,S q p/\q∈Be h/\q∉M
 few:∀p∈M,f p<=100
theorem Dz{h:Nat}(h9:h<=9):(Be h).length<=100:=by have a:=Fv h h;have b:=cS h9 h9;unfold Be;rw[bD];lia
variable{S:qX->qX->Prop}
theorem Nu.rk{h:Nat}(h9:h<=9){A:List (qX)}(hA:∀p,p∈A↔p∈Be h)(nA:A.Nodup)(hB:∀p∈Be h,∀q,q∈B p↔S q p)(hS:∀p q,S q p->q∈Be h)(m:Nu A B M f):KC h S M f where
 nd:=m.nd
 sub:=λp hp=>(hA p).mp (m.sub p hp)
 low:=λp hp q hq=>m.low p hp q ((hB p ((hA p).mp (m.sub p hp)) q).mpr hq)
 top:=λp hp=>(m.top p hp).imp id λ⟨q,h1,h2,h3⟩=>⟨q,(hB p ((hA p).mp (m.sub p hp)) q).mp h1,h2,h3⟩
 rest:=λp hp np=>by obtain⟨q,h1,h2⟩:=m.rest p ((hA p).mpr hp) np;have z:=(hB p hp q).mp h1;exact⟨q,z,hS p q z,h2⟩
 few:=λp hp=>by
  have a:=m.few p hp;have b:=nA.length_le_of_subset λq hq=>(hA q).mp hq
  have:=Dz h9;lia
theorem KC.all{h:Nat}(m:KC h S M f){rk:qX->Nat}(hr:∀p q,S p q->rk p<rk q):∀p∈Be h,p∈M:=by
 suffices ∀(n:Nat) (p:qX),p∈Be h->rk p<=n->p∈M from λp hp=>this _ p hp (aP _)
 intro n
 induction n with
 |zero =>
  intro p hp hn
  by_cases z:p∈M
  ·exact z
  ·obtain⟨q,hq,_⟩:=m.rest p hp z;have:=hr q p hq;lia
 |succ n ih =>
  intro p hp hn
  by_cases z:p∈M
  ·exact z
  ·obtain⟨q,hq,qa,nq⟩:=m.rest p hp z;have:=hr q p hq;exact qG (ih q qa (by lia)) nq
theorem N0{h:Nat}(hl:dl.length=h*G):q∈Gx G h (Aj dl) p↔Ie G h dl p q:=by
 unfold Gx Ie;rw[ao];constructor
 ·intro hRq;rcases hRq with⟨⟨a,b⟩,hx,rfl⟩;obtain⟨h1,h2⟩:=bB.mp hx;rcases Et.mp h1 with⟨ha,hb,ne,e⟩;exact⟨a,b,by lia,by lia,ne,e,(qN h2).symm,rfl⟩
 ·intro hRq;rcases hRq with⟨a,b,ha,hb,ne,e,h1,h2⟩;exact⟨(a,b),bB.mpr ⟨Et.mpr ⟨by lia,by lia,ne,e⟩,qH h1.symm⟩,h2.symm⟩
theorem B9{h:Nat}(h0:0<h)(s:Ie G h dl p q):p∈Be h/\q∈Be h:=by
 rcases s with⟨a,b,ha,hb,ne,e,h1,h2⟩;have c:∀{x:Nat},x<h*G->x/G<h:=λ{x} hx=>bj (by rw[br];exact hx)
 rw[h1,h2];exact⟨Jw (c ha) (c hb),Jw (bT _ h0) (bT _ h0)⟩
theorem Mn[DecidableEq α]{M A:List α}(nM:M.Nodup)(sub:∀p∈M,p∈A)(le:A.length<=M.length):∀p∈A,p∈M:=λp hp=>by
 by_cases z:p∈M
 ·exact z
 ·have:=(bu.mpr ⟨z,nM⟩).length_le_of_subset (l₂:=A) λx hx=>(aw.mp hx).elim (λe=>by rw[e];exact hp) (sub x)
  rw[bD]at this;lia
theorem E6(nd:M.Nodup)(hp:p∈M):Bj (Ae M (M.map λp=>V.int (f p:Int))) (BL p)=some (.int (f p:Int)):=by obtain⟨i,hi⟩:=ay.mp hp;exact Bq nd hi (by rw[aQ,hi];rfl)
theorem Ri{i:Nat}{k:List Bf}{v:V}(h:(Ae M (M.map λp=>V.int (f p:Int)))[i]?=some (k,v)):∃a,M[i]?=some a/\k=BL a/\v=.int (f a:Int):=by
 unfold Ae at h;rw[dA,aQ]at h;cases ha:M[i]? with
 |none=>rw[ha]at h;simp at h
 |some a =>
  rw[ha]at h;simp at h;exact⟨a,rfl,h.1.symm,h.2.symm⟩
theorem Dj{K:qV}{ns:qW}(h:Aa K H a (ns.map V.int)):FD K H (.ref a) (.tuple (ns.map PyData.int)):=.tup h (Fi ns)
inductive LF(P:qT)(w:qU)(K:qV)(vs:List V)(H:Hp)(Q:VK)(z3_:XK):Prop
 |m (r:qR) (g lo:Int) (dl:qW) (m:Nat):vs=[.ref r]->Av H r g lo dl m->g^(m-1)<=9->(∀d H' M f,AG H H'->H d=none->DW P w K H' d (Ae M (M.map λp=>V.int (f p:Int)))->KC (dl.length/g.toNat) (Ie g.toNat (dl.length/g.toNat) dl) M f->Q (.ref d) H')->LF P w K vs H Q z3_
noncomputable def DI(G:Nat):Nat->(qW->Int)->Int
 |0,f=>f []
 |l+1,f=>Ai G λs=>DI G l λc=>f ((s:Int)::c)
theorem IL:∀{l:Nat} {f h:qW->Int},(∀c,(∀n∈c,0<=n/\n<(G:Int))->f c=h c)->DI G l f=DI G l h
 |0,_,_,e=>e [] λn hn=>by cases hn
 |l+1,f,h,e=>Aq λs hs=>IL λc hc=>e _ λn hn=>by
  rcases aw.mp hn with z|z
  ·rw[z];lia
  ·exact hc n z
theorem FU(G:Nat)(p:Int):∀l:Nat,DI G l (λ_=>p)=((G^l:Nat):Int)*p
 |0=>by show p=((1:Nat):Int)*p;lia
 |l+1=>by show Ai G (λ_=>DI G l λ_=>p)=_;rw[BK,FU G p l,fM,br,cG,Int.mul_assoc]
theorem E7(n:Nat):∀{l:Nat} {f:Nat->qW->Int},DI G l (λc=>Ai n λj=>f j c)=Ai n λj=>DI G l (f j)
 |0,_=>rfl
 |l+1,f=>by
  show Ai G (λs=>DI G l λc=>Ai n λj=>f j ((s:Int)::c))=Ai n λj=>Ai G λs=>DI G l λc=>f j ((s:Int)::c)
  rw[C5 n G];exact Aq λs _=>E7 n (f:=λj c=>f j ((s:Int)::c))
theorem LG(b:Bool):∀{l:Nat} {f:qW->Int},DI G l (λc=>DN b (f c))=DN b (DI G l f):=λ{l f}=>by
 cases b
 ·show DI G l (λ_=>(0:Int))=0;rw[FU,fZ]
 ·rfl
theorem LH(G2:2<=G)(hb:∀n∈dl,0<=n/\n<(G:Int))(w:qW):∀(l u:Nat),DI G l (λc=>Eb G dl (c++w) u)=(Ai (G^l) λe=>Eb G dl w ((u*G^l+e)%(dl.length/G)))\/l=0
 |0,u=>.inr rfl
 |l+1,u=>.inl (by
  have step:DI G (l+1) (λc=>Eb G dl (c++w) u)=Ai G λj=>DI G l λc=>Eb G dl (c++w) ((u*G+j)%(dl.length/G)):=by
   show Ai G (λs=>DI G l λc=>Ai G λj=>DN (decide (dl.getD (u*G+j) 0=(s:Int))) (Eb G dl (c++w) ((u*G+j)%(dl.length/G))))=_
   rw[Aq (g:=λs=>Ai G λj=>DN (decide (dl.getD (u*G+j) 0=(s:Int))) (DI G l λc=>Eb G dl (c++w) ((u*G+j)%(dl.length/G)))) λs _=>by rw[E7];exact Aq λj _=>LG _]
   rw[C5];refine Aq λj _=>?_;have b:0<=dl.getD (u*G+j) 0/\dl.getD (u*G+j) 0<(G:Int):=C0 (by lia) hb _;exact JC b.1 b.2 _
  rw[step];have md:∀a b N:Nat,(a%N*b)%N=(a*b)%N:=λa b N=>by rw[Nat.mul_mod,Nat.mod_mod,<-Nat.mul_mod]
  have e2:∀j,j<G->DI G l (λc=>Eb G dl (c++w) ((u*G+j)%(dl.length/G)))=Ai (G^l) λe=>Eb G dl w ((u*G^(l+1)+(j*G^l+e))%(dl.length/G)):=λj _=>by
   rcases LH G2 hb w l ((u*G+j)%(dl.length/G)) with z|z
   ·rw[z];refine Aq λe _=>?_
    congr 1
    rw[fX,md,<-fX,dz,Nat.mul_assoc,fM,br G (G^l),eO]
   ·subst z;show Eb G dl ([]++w) _=Ai 1 λe=>Eb G dl w ((u*G^1+(j*1+e))%_)
    rw[Ao,Bo,bC,Nat.pow_one,Nat.mul_one,dj];rfl
  rw[Aq e2,fM,br (G^l) G,<-JB G (G^l) (λn=>Eb G dl w ((u*(G*G^l)+n)%(dl.length/G)))])
theorem T9(G2:2<=G)(hb:∀n∈dl,0<=n/\n<(G:Int)){l:Nat}(hN:dl.length/G=G^l)(w:qW)(u:Nat)(hu:u<dl.length/G):DI G l (λc=>Eb G dl (c++w) u)=CY G dl w:=by
 rcases LH G2 hb w l u with z|z
 ·rw[z];unfold CY;rw[<-hN];refine Aq λe he=>?_;rw[br,Nat.mul_add_mod,cC he]
 ·subst z;have e:dl.length/G=1:=hN;unfold CY;rw[e,Ao,Bo,bC];obtain rfl:u=0:=by lia
  rfl
theorem N1(G2:2<=G)(hb:∀n∈dl,0<=n/\n<(G:Int)){l:Nat}(hN:dl.length/G=G^l)(w:qW):∀(r:qW) (u:Nat),u<dl.length/G->DI G l (λc=>Eb G dl (r++(c++w)) u)=Eb G dl r u*CY G dl w
 |[],u,hu=>by rw[show Eb G dl [] u=1 from rfl,cI];exact T9 G2 hb hN w u hu
 |s::r,u,hu=>by
  show DI G l (λc=>Ai G λj=>DN (decide (dl.getD (u*G+j) 0=s)) (Eb G dl (r++(c++w)) ((u*G+j)%(dl.length/G))))=(Ai G λj=>DN (decide (dl.getD (u*G+j) 0=s)) (Eb G dl r ((u*G+j)%(dl.length/G))))*CY G dl w;rw[E7,<-Fj];refine Aq λj _=>?_;rw[LG,N1 G2 hb hN w r _ (bT _ (by lia))];unfold DN;split
  ·rfl
  ·rw[c9]
theorem UA(G2:2<=G)(hb:∀n∈dl,0<=n/\n<(G:Int)){l:Nat}(hN:dl.length/G=G^l)(r w:qW):DI G l (λc=>CY G dl (r++(c++w)))=CY G dl r*CY G dl w:=by show DI G l (λc=>Ai (dl.length/G) λu=>Eb G dl (r++(c++w)) u)=_;rw[E7];show _=Ai (dl.length/G) (Eb G dl r)*_;rw[<-Fj];exact Aq λu hu=>N1 G2 hb hN w r u hu
theorem PQ{n:Nat}{f:Nat->Int}{M:Int}(h:∀k,k<n->M<=f k)(e:Ai n f=M*(n:Int)):∀k,k<n->f k=M:=by
 induction n with
 |zero=>intro k hk;lia
 |succ n ih =>
  rw[Ao]at e
  have a:(n:Int)*M<=Ai n f:=by
   have z:=DV (n:=n) (f:=λk=>f k+(-M)) λk hk=>by have:=h k (by lia);lia
   rw[Hj,BK,Int.mul_neg]at z;lia
  have b:=h n (by lia);have c:M*((n+1:Nat):Int)=(n:Int)*M+M:=by rw[cP,Int.mul_add,cx];lia
  have d:M*(n:Int)=(n:Int)*M:=cx ..;intro k hk
  by_cases z:k=n
  ·subst z;lia
  ·exact ih (λk hk=>h k (by omega)) (by omega) k (by omega)
abbrev Sg(G:Nat)(r:qW):Prop:=∀n∈r,0<=n/\n<(G:Int)
theorem Sg.snoc{r:qW}(h:Sg G r){s:Nat}(hs:s<G):Sg G (r++[(s:Int)]):=λn hn=>by
 rcases aR.mp hn with z|z
 ·exact h n z
 ·rw[aV.mp z];lia
theorem IM:∀n:Nat,∀w,Sg G w->CY G dl w<=(n:Int)->∃w,Sg G w/\∀r,Sg G r->CY G dl w<=CY G dl r
 |0,w,hw,h=>⟨w,hw,λr _=>bi h (Hm G dl r)⟩
 |n+1,w,hw,h=>by
  by_cases z:∃r,Sg G r/\CY G dl r<=(n:Int)
  ·obtain⟨r,hr,q⟩:=z;exact IM n r hr q
  ·refine⟨w,hw,λr hr=>?_⟩;rcases Int.lt_or_le (CY G dl r) (CY G dl w) with y|y
   ·exact qG ⟨r,hr,by lia⟩ z
   ·exact y
theorem Rj(G2:2<=G)(hb:∀n∈dl,0<=n/\n<(G:Int)){l:Nat}(hN:dl.length/G=G^l)(on:∀r,Sg G r->1<=CY G dl r):∀r,Sg G r->CY G dl r=((dl.length/G:Nat):Int):=by
 obtain⟨w,hw,lw⟩:=IM (G:=G) (dl:=dl) (CY G dl []).toNat [] (λn hn=>by cases hn) (by have:=Hm G dl [];lia)
 have ext:∀(r c:qW),Sg G r->Sg G c->CY G dl r=CY G dl w->CY G dl (r++c)=CY G dl w:=by
  intro r c
  induction c generalizing r with
  |nil=>intro _ _ e;rw[au];exact e
  |cons s c ih =>
   intro hr hc e;have hs:=hc s ai;have z:=PQ (λk hk=>by rw[e];exact lw _ (hr.snoc hk)) (Hq G2 hb r) s.toNat (by lia);rw[show ((s.toNat:Nat):Int)=s by lia]at z
   have hr2:Sg G (r++[s]):=λn hn=>by
    rcases aR.mp hn with y|y
    ·exact hr n y
    ·rw[aV.mp y];exact hs
   have y:=ih (r++[s]) hr2 (λn hn=>hc n (aa _ hn)) (z.trans e);rw[a9]at y;exact y
 have g1:=UA G2 hb hN w w;rw[IL (h:=λ_=>CY G dl w) λc hc=>ext w (c++w) hw (λn hn=>(aR.mp hn).elim (hc n) (hw n)) rfl,FU,<-hN]at g1;have p1:=on w hw;have e1:((dl.length/G:Nat):Int)=CY G dl w:=Int.eq_of_mul_eq_mul_right (by lia) g1
 have all:∀(c r:qW),Sg G r->Sg G c->CY G dl r=((dl.length/G:Nat):Int)->CY G dl (r++c)=((dl.length/G:Nat):Int):=λc r hr hc e=>by rw[e1]at e⊢;exact ext r c hr hc e
 intro r hr
 have e0:CY G dl []=((dl.length/G:Nat):Int):=by show Ai (dl.length/G) (λ_=>(1:Int))=_;rw[BK,dm]
 exact all r [] (λn hn=>by cases hn) hr e0
theorem N3(x:Int->Int){lo:Int}{k m n:Nat}(h:k+m<=n):CQ x (lo+(k:Int)) m=((CQ x lo n).drop k).take m:=by rw[<-Qm x (lo:=lo+(k:Int)) (low:=lo) (M:=n) (by lia) (by lia),show lo+(k:Int)-lo=(k:Int) by lia,MM (by rw[Bp];exact h)]
theorem JI{g:Int}(hg:2<=g)(lo:Int){m:Nat}(hl:(dl.length:Int)=g^m)(hm:1<=m){row:qW}:1<=CY g.toNat dl row↔∃x,MR g x/\∀k:Nat,k<row.length->F5 g (lo+(k:Int)) dl m x=row.getD k 0:=by
 constructor
 ·intro h;have ne:Qz g dl m row≠[]:=λz=>by rw[<-Tr dl m row,z]at h;simp at h
  obtain⟨w,hw⟩:=List.exists_mem_of_ne_nil _ ne;rw[<-O2 hg hl hm]at hw;obtain⟨h1,h2⟩:=bB.mp hw;have h2:=qN h2;obtain⟨wl,wb⟩:=(O3 hg).mp h1;refine⟨Gi w lo,GO hg wb lo,λk hk=>?_⟩;have hl2:=qP List.length h2;rw[Ki]at hl2;rw[<-h2];unfold C1;rw[Az (by lia)];unfold F5 Kh
  congr 3
  rw[N3 (Gi w lo) (show k+m<=w.length by lia),Eo]
 ·rintro⟨x,hx,h⟩
  have e:C1 g dl m (CQ x lo (row.length+m-1))=row:=by
   have ll:(C1 g dl m (CQ x lo (row.length+m-1))).length=row.length:=by rw[Ki,Bp];lia
   refine List.ext_getElem ll λk h1 h2=>?_;have z:=h k h2;rw[aK,aJ h2,Option.getD_some]at z;rw[<-z]
   have e2:(C1 g dl m (CQ x lo (row.length+m-1))).getD k 0=F5 g (lo+(k:Int)) dl m x:=by unfold C1;rw[Az (by rw[Bp];lia)];unfold F5 Kh;rw[N3 x (show k+m<=row.length+m-1 by lia)]
   rw[aK,aJ h1,Option.getD_some]at e2;exact e2
  rw[<-e];exact Tk hg hl hm (Fp hx _ _)
theorem LI{g:Int}(hg:2<=g){lo:Int}{m:Nat}(hl:(dl.length:Int)=g^m)(hm:1<=m)(hl':(tab'.length:Int)=g^m')(hm':1<=m')(al:CO g lo dl m lo' tab' m'){row:qW}(h:1<=CY g.toNat dl row):1<=CY g.toNat tab' row:=by
 obtain⟨x,hx,q⟩:=(JI hg lo hl hm).mp h;refine (JI hg lo' hl' hm').mpr ⟨x,hx,λk hk=>?_⟩;rw[<-q k hk];have z:=al (λz=>x (z+(k:Int))) λz=>hx _
 have e:∀(lo:Int) (dl:qW) (m:Nat),F5 g lo dl m (λz=>x (z+(k:Int)))=F5 g (lo+(k:Int)) dl m x:=λlo dl m=>by
  unfold F5 CQ
  congr 4
  funext j
  show x (lo+(j:Int)+(k:Int))=x (lo+(k:Int)+(j:Int))
  congr 1
  lia
 rw[e,e]at z;exact z.symm
end L2
namespace L2
open PySem PySem.Spec PyProof.Rows
variable{E:qQ->qS->Prop}{H H' H1 H2:Hp}{X:Cx}{a:qR}{an od:Option qR}{fi doc oc:qQ}{cl:List (Str×qR)}{name qual x:Str}{o:HO}{osl:Array (Option qQ)}{params:Arguments}{pos:Pos}{ps:List Str}{scope:Scope}{sp:Sp}{st:Stmt}{vs:List qQ}{α β:Type}
def Gn(mg:Str->Option qQ)(h:Heap):Prop:=∃bm ob,mg "__builtins__"=some (.ref bm)/\bm≠builtinsNs/\h.get? bm=some ob/\ob.cls=.type "module"/\ob.dict=some builtinsNs/\ob.data=.plain
def U5(ts:List qR)(H:Hp):Prop:=(∀b,H b=none\/(∃o xs,H b=some (.frz o (.lst xs)))\/(b∈ts/\H b=some (.tbl #[])))/\∀b∈ts,H b=some (.tbl #[])
def Rk(K:qV)(cts:List (qR×qR)):Prop:=∀q∈cts,PySem.W.codeHdIn K q.1 q.2=true/\K.lookup q.2=none
theorem PR{P:qT}{w:qU}{K:qV}{mg mb:Str->Option qQ}{CX:Sy}{k:Nat}{fa:qR}{fd:FuncData}{sp:Sp}{s₁:qS}{ns:qW}{cts:List (qR×qR)}
  (KX:K.In s₁.heap) (hns:s₁.heap.Ns mainGlobals mg) (hb:s₁.heap.Ns builtinsNs mb) (hbb:∀x:Str,x≠"__name__"->mb x=bootBuiltins x) (hlim:s₁.heap.NoLimit) (hbm:Gn mg s₁.heap) (hg:s₁.gens=#[])
  (hT:Rk K cts) (hT2:∀q∈cts,s₁.heap.get? q.2=some (PySem.W.tabObj #[]))
  (ha:s₁.heap.get? a=some {cls:=.type "list",data:=.seq vs.toArray}) (hi:IntsAre vs ns) (hl:ns.length<=sizeLine) (hr:B7 k callerA)
  (F:∀base:Heap,K.In base->base.Ns mainGlobals mg->Gn mg base->GC P w K mg base CX k fa fd [x] sp) (hbind:∀(s:qS) (u:qQ),BindsTo s fd ⟨[u],[]⟩ [(x,u)])
  (hsp:∀H:Hp,U5 (cts.map (·.2)) H->Af K H a (ns.map V.int)->sp [.ref a] H (λv _=>v=.bl true) λ_ _ _=>False)
  (hCX:∀H e s',CX [] H s₁ (λ_ _ _=>False) e s'->False):
  codeAny (model P w) callerA (.call (.ref fa) ⟨[.ref a],[]⟩) (λr s'=>r=.ok (.ret (.bool true))/\OldK s₁.heap s'.heap/\s'.os=s₁.os/\AllBare s'.gens) s₁:=by
 have rv:=Ol hi;have lenV:=hi.length
 have atT:∀b∈cts.map (·.2),s₁.heap.get? b=some (PySem.W.tabObj #[])/\K.lookup b=none/\isCodeTable s₁.heap b:=λb hb=>by obtain⟨q,hq,rfl⟩:=ao.mp hb;exact⟨hT2 q hq,(hT q hq).2,((PySem.W.codeHd_of_K KX (hT q hq).1).tab (hT2 q hq)).isCodeTable⟩
 have aT:a∉cts.map (·.2):=λz=>by have e:=(atT a z).1;rw[ha]at e;cases e
 have core:∀H:Hp,U5 (cts.map (·.2)) H->Af K H a (ns.map V.int)->Ea P w H s₁.heap->(∀b,H b≠none->b=a\/b∈cts.map (·.2))->(H a≠none->K.lookup a=none) ->
   codeAny (model P w) callerA (.call (.ref fa) ⟨[.ref a],[]⟩) (λr s'=>r=.ok (.ret (.bool true))/\OldK s₁.heap s'.heap/\s'.os=s₁.os/\AllBare s'.gens) s₁:=by
  intro H hO hS hok hA hK;have base_of:∀{b:qR} {o:Obj},s₁.heap.get? b=some o->H b=none->(Ih s₁.heap H).get? b=some o:=λe n=>Pq e n
  have noA:∀{b:qR} {o:Obj},s₁.heap.get? b=some o->(∀xs n,o.data≠.seq xs n)->(∀xs,o.data≠.fields xs)->H b=none:=λ{b o} e d d2=>by
   cases q:H b with
   |none=>rfl
   |some u =>
    rcases hA b (by rw[q];simp) with e'|e'
    ·subst e';rw[ha]at e;cases e;exact (d _ _ rfl).elim
    ·rw[(atT b e').1]at e;cases e;exact (d2 _ rfl).elim
  have nsK:∀{b:qR} {m:Str->Option qQ},s₁.heap.Ns b m->(Ih s₁.heap H).Ns b m:=λ{b m} ⟨o,es,ep,e,d,r⟩=>⟨o,es,ep,base_of e (noA e (λ_ _ z=>by rw[d]at z;cases z) (λ_ z=>by rw[d]at z;cases z)),d,r⟩
  have hKb:K.In (Ih s₁.heap H):=λb o e=>base_of (KX b o e) (by
   cases q:H b with
   |none=>rfl
   |some u =>
    rcases hA b (by rw[q];simp) with e'|e'
    ·subst e';rw[hK (by rw[q];simp)]at e;cases e
    ·rw[(atT b e').2.1]at e;cases e)
  have hM:Y9 K mg (Ih s₁.heap H):=⟨hKb,nsK hns,⟨mb,nsK hb,hbb⟩,by obtain⟨mc,h1,h2⟩:=hlim;exact⟨mc,nsK h1,h2⟩⟩
  have hB:Gn mg (Ih s₁.heap H):=by rcases hbm with⟨bm,ob,b1,b2,b3,b4,b5,b6⟩;exact⟨bm,ob,b1,b2,base_of b3 (noA b3 (λ_ _ z=>by rw[b6]at z;cases z) (λ_ z=>by rw[b6]at z;cases z)),b4,b5,b6⟩
  have e0:P5 P w K mg (Ih s₁.heap H) callerA [] s₁ H:=⟨rfl,hM,λb o e=>TC e,Nat.le_of_eq (Ob _ _),trivial,λb hb=>qG (show b∈([]:List qR) from hb) (by simp),hok,.of_eq hg⟩;refine codeAny_mono ((F _ hKb (nsK hns) hB).run callerA [] s₁ H ⟨[.ref a],[]⟩ [.ref a] [.ref a] _ _ hr e0 (hbind s₁ (.ref a)) (.cons rfl .nil) (hsp H hO hS)) λr s' h=>?_;cases r with
  |error e=>exact (hCX H e s' h).elim
  |ok fl =>
   cases fl with
   |next=>exact False.elim h
   |brk=>exact False.elim h
   |cont=>exact False.elim h
   |ret u =>
    rcases h with⟨v,H',os,bare,un,hok',r',q⟩;have q':v=.bl true:=q;subst q';obtain rfl:u=Value.bool true:=r'
    have keep:∀b o,s₁.heap.get? b=some o->b∉cts.map (·.2)->s'.heap.get? b=some o:=λb o e nb=>by
     cases q:H b with
     |none=>exact un.keep b o e q (by intro z;exact qG (show b∈([]:List qR) from z) (by simp)) (by simp)
     |some u =>
      rcases hO.1 b with z|⟨ob,xs,z⟩|⟨z,_⟩
      ·rw[q]at z;cases z
      ·have z2:=un.frzs b ob _ z;obtain⟨e1,_⟩:=hok b _ z;obtain⟨e2,_⟩:=hok' b _ z2;rw[e]at e1;cases e1;exact e2
      ·exact qG z nb
    have tabs:∀b∈cts.map (·.2),∃more,s'.heap.get? b=some {cls:=.none,data:=.fields ((#[]:Array qQ)++more)}:=λb hb=>by obtain⟨more,z⟩:=un.tbls b #[] (hO.2 b hb);exact⟨more,hok' b _ z⟩
    refine⟨rfl,⟨λb o e=>?_,λb o e=>?_⟩,os,bare⟩
    ·by_cases hb:b∈cts.map (·.2)
     ·obtain⟨more,z⟩:=tabs b hb;have e1:=(atT b hb).1;rw[e]at e1;cases e1;exact .inr (.inl ⟨(atT b hb).2.2,rfl,#[],more,rfl,z⟩)
     ·exact .inl (keep b o e hb)
    ·by_cases hb:b∈cts.map (·.2)
     ·obtain⟨more,z⟩:=tabs b hb;exact⟨_,z⟩
     ·exact⟨o,keep b o e hb⟩
 cases hk:K.lookup a with
 |some o =>
  have e:=KX a o hk;rw[ha]at e;cases e;refine core (λb=>if b∈cts.map (·.2) then some (.tbl #[]) else none) ⟨λb=>?_,λb hb=>qF hb⟩ (.inr ⟨_,vs.toArray,_,hk,rfl,rfl,rfl,by rw[List.size_toArray,lenV];exact hl,by simpa using rv⟩) (λb u z=>?_) (λb z=>?_) λz=>qG (qE aT) z
  ·by_cases hb:b∈cts.map (·.2)
   ·exact .inr (.inr ⟨hb,qF hb⟩)
   ·exact .inl (qE hb)
  ·by_cases hb:b∈cts.map (·.2)
   ·have z':=(qF hb).symm.trans z;cases z';exact (atT b hb).1
   ·have z':=(qE hb).symm.trans z;cases z'
  ·by_cases hb:b∈cts.map (·.2)
   ·exact .inr hb
   ·exact qG (qE hb) z
 |none =>
  have at1:∀b,b∉cts.map (·.2)->b=a->(if b∈cts.map (·.2) then some (HO.tbl #[]) else if b=a then some (.frz {cls:=.type "list",data:=.seq vs.toArray} (.lst (ns.map V.int))) else none)=some (.frz {cls:=.type "list",data:=.seq vs.toArray} (.lst (ns.map V.int))):=λb h1 h2=>by rw[qE h1,qF h2]
  have at2:∀b,b∉cts.map (·.2)->b≠a->(if b∈cts.map (·.2) then some (HO.tbl #[]) else if b=a then some (.frz {cls:=.type "list",data:=.seq vs.toArray} (.lst (ns.map V.int))) else none)=none:=λb h1 h2=>by rw[qE h1,qE h2]
  refine core (λb=>if b∈cts.map (·.2) then some (.tbl #[]) else if b=a then some (.frz {cls:=.type "list",data:=.seq vs.toArray} (.lst (ns.map V.int))) else none) ⟨λb=>?_,λb hb=>qF hb⟩ (.inl (.inr ⟨{cls:=.type "list",data:=.seq vs.toArray},at1 a aT rfl⟩)) (λb u z=>?_) (λb z=>?_) λ_=>hk
  ·by_cases hb:b∈cts.map (·.2)
   ·exact .inr (.inr ⟨hb,qF hb⟩)
   ·by_cases hba:b=a
    ·exact .inr (.inl ⟨_,_,at1 b hb hba⟩)
    ·exact .inl (at2 b hb hba)
  ·by_cases hb:b∈cts.map (·.2)
   ·have z':=(qF hb).symm.trans z;cases z';exact (atT b hb).1
   ·by_cases hba:b=a
    ·have z':=(at1 b hb hba).symm.trans z;cases z';subst hba;exact⟨ha,by rw[aH];exact hl,vs,_,rv,ha⟩
    ·have z':=(at2 b hb hba).symm.trans z;cases z'
  ·by_cases hb:b∈cts.map (·.2)
   ·exact .inr hb
   ·by_cases hba:b=a
    ·exact .inl hba
    ·exact qG (at2 b hb hba) z
abbrev C3:HO:=.ext λ_=>True
theorem IN{P:qT}{w:qU}{h:Heap}{o:Obj}(e:h.get? a=some o):Ap P w H h a (.frz o C3):=⟨e,trivial,⟨o,e⟩,λ_ _ _ _=>trivial⟩
def Rm(oc:Obj)(q:Str):Prop:=∃vs t,oc.data=.fields vs/\vs[1]?=some (.str q t)
def Ck(pos:Pos)(q:Str)(P:qR)(H:Hp):Prop:=∃ps:Array qQ,H P=some (.tbl ps)/\TriplesOk ps.toList /\
 ∀cv,codeAmong pos ps.toList=some cv->∃c' oc,cv=.ref c'/\H c'=some (.frz oc C3)/\Rm oc q
theorem Ck.same{q:Str}{P:qR}(t:Ck pos q P H)(e:AG H H'):Ck pos q P H':=by obtain⟨ps,h1,h2,h3⟩:=t;refine⟨ps,e _ _ h1,h2,λcv hc=>?_⟩;obtain⟨c',oc,h4,h5,h6⟩:=h3 cv hc;exact⟨c',oc,h4,e _ _ h5,h6⟩
theorem Ck.start{q:Str}{P:qR}(h:H P=some (.tbl #[])):Ck pos q P H:=⟨#[],h,trivial,λ_ z=>by cases z⟩
def De(P:qR)(H H':Hp):Prop:=∀b o,b≠P->H b=some o->H' b=some o
theorem AG.t{P:qR}(e:AG H H'):De P H H':=λb o _ h=>e b o h
theorem De.trans{P:qR}(a:De P H H1)(b:De P H1 H2):De P H H2:=λc o n h=>b c o n (a c o n h)
abbrev UB(q:Str)(params:Arguments)(body:Expr)(scope:Scope)(clos:List (Str×qR))(pm:qQ)(c':qR)(ctv:qQ):Obj:=PySem.W.kla_obj "<lambda>" q params body scope clos pm c' ctv
def U6(q:Str)(params:Arguments)(body:Expr)(scope:Scope)(clos:List (Str×qR))(f:qR)(H:Hp):Prop:=
 ∃pm c' ctv oc,H f=some (.frz (UB q params body scope clos pm c' ctv) C3)/\H c'=some (.frz oc C3)/\Rm oc q
def Zb(P:qR)(pos:Pos)(q:Str)(params:Arguments)(body:Expr)(scope:Scope)(clos:List (Str×qR)):TE:=λ_ H Q=>Ck pos q P H /\
 ∀f H',De P H H'->Ck pos q P H'->H f=none->U6 q params body scope clos f H'->Q (.ref f) H'
theorem WO{c P:qR}{body:Expr}{clos:List (Str×qR)}(hB:Gn X.mg X.base)(hcode:X.env.code=.ref c)(hc:PySem.W.codeHdIn X.K c P=true)
  (hcl:closureFor scope X.env=pure clos) (hdef:defaultsOf params X.env=([],[])):PE X (.Lambda params body scope pos) (Zb P pos (X.env.qual++"<lambda>") params body scope clos):=by
 intro ad s σ H Q I h;rcases h with⟨⟨ps,hP,ht,hh⟩,hq⟩;refine PySem.W.kla_eval hdef ?_;have hPh:s.heap.get? P=some (PySem.W.tabObj ps):=I.hok P _ hP;have hPl:P<s.heap.objs.size:=aY hPh;have C:PySem.W.CodeHd s.heap c P:=PySem.W.codeHd_of_K I.kIn hc;have hgs:s.heap.Ns mainGlobals X.mg:=I.ok.mod.glob.keeps I.bk;rcases hB with⟨bm,ob,b1,b2,b3,b4,b5,b6⟩;have b3':=I.bk _ _ b3
 have hgP:mainGlobals≠P:=λq=>by rcases hgs with⟨o,es,ep,e,hd,_⟩;rw[q,hPh]at e;cases e;cases hd
 have hbP:bm≠P:=λq=>by rw[q,hPh]at b3';cases b3';cases b4
 have hbG:bm≠mainGlobals:=λq=>by rcases hgs with⟨o,es,ep,e,hd,_⟩;rw[q,e]at b3';cases b3';rw[hd]at b6;cases b6
 have BA:s.heap.BuiltinsAt X.mg P:=⟨bm,ob,b1,b2,hbG,hbP,b3',b4,b5,b6⟩;have nP:∀b,H b=none->b≠P:=λb e z=>by rw[z,hP]at e;cases e
 have fresh:∀b,s.heap.objs.size<=b->H b=none:=λb hb=>I.hok.fresh hb
 cases hca:codeAmong pos ps.toList with
 |none =>
  refine PySem.W.kla_makeFunction (mg:=X.mg) hcl I.ok.glob hgs hcode C hPh ht hca hgP BA λc' ctv h' tk hx hge hlt hrec htb=>?_;rcases hrec with⟨c₂,oc,vs,t,e2,hoc,hd,hv⟩;cases e2;have hsz:s.heap.objs.size<=h'.objs.size:=bK hge (cr hlt);obtain⟨f,hf⟩:∃f,f=h'.objs.size:=⟨_,rfl⟩;obtain⟨fo,hfo⟩:∃fo,fo=UB (X.env.qual++"<lambda>") params body scope clos ((X.mg "__name__").getD .none) c' ctv:=⟨_,rfl⟩;obtain⟨H',hH'⟩:∃H',H'=AV (AV (AV H P (.tbl (ps++#[rawInt pos.line,rawInt pos.col,.ref c']))) c' (.frz oc C3)) f (.frz fo C3):=⟨_,rfl⟩;have cf:c'≠f:=λz=>by rw[z,hf]at hlt;exact qG hlt (bH _)
  have Pc:P≠c':=λz=>qG (ag hPl hge) (by rw[<-z];exact bH _)
  have Pf:P≠f:=λz=>qG (ag hPl hsz) (by rw[<-hf,<-z];exact bH _)
  have nf:H f=none:=fresh f (by rw[hf];exact hsz);have nc:H c'=none:=fresh c' hge;have oth:∀b,b≠P->b≠c'->b≠f->H' b=H b:=λb h1 h2 h3=>by rw[hH',AL h3,AL h2,AL h1]
  have atP:H' P=some (.tbl (ps++#[rawInt pos.line,rawInt pos.col,.ref c'])):=by rw[hH',AL Pf,AL Pc];exact AE
  have atc:H' c'=some (.frz oc C3):=by rw[hH',AL cf];exact AE
  have atf:H' f=some (.frz fo C3):=by rw[hH'];exact AE
  have keep:∀b o,b≠P->s.heap.get? b=some o->(h'.push fo).get? b=some o:=λb o hb e=>aO _ (hx b o hb e)
  have trk:∀b u,H b=some u->b≠c'/\b≠f:=λb u e=>⟨λz=>(by rw[z,nc]at e;cases e),λz=>(by rw[z,nf]at e;cases e)⟩
  have sm:De P H H':=λb o hb e=>by rw[oth b hb (trk b o e).1 (trk b o e).2];exact e
  have un:Un (KB X.stack) [] H H' s.heap (h'.push fo):=by
   refine⟨λb o e n _ _=>keep b o (nP b n) e,λb o e n _ _=>⟨o.slots,keep b o (nP b n) e⟩,λb o e n _=>?_,λb o e _=>?_,λb xs e=>?_,λb o u e=>?_,λb qs e=>?_⟩
   ·have hl:=aY e;rw[oth b (nP b n) (λz=>qG (ag hl hge) (by rw[z];exact bH _)) (λz=>qG (ag hl hsz) (by rw[z,hf];exact bH _))];exact n
   ·by_cases hb:b=P
    ·rw[hb];exact⟨_,aO _ htb⟩
    ·exact⟨o,keep b o hb e⟩
   ·exact sm b _ (λz=>by rw[z,hP]at e;cases e) e
   ·exact sm b _ (λz=>by rw[z,hP]at e;cases e) e
   ·by_cases hb:b=P
    ·subst hb;rw[hP]at e;cases e;exact⟨_,atP⟩
    ·exact⟨#[],by rw[Array.append_empty];exact sm b _ hb e⟩
  have hok:Ea X.prog X.w H' (h'.push fo):=λb u e=>by
   by_cases hbf:b=f
   ·subst hbf;rw[atf]at e;cases e;exact IN (by rw[hf];exact af _ (by rw[hfo];rfl))
   ·by_cases hbc:b=c'
    ·subst hbc;rw[atc]at e;cases e;exact IN (aO _ hoc)
    ·by_cases hb:b=P
     ·subst hb;rw[atP]at e;cases e;exact aO _ htb
     ·rw[oth b hb hbc hbf]at e;refine (I.hok b u e).stay (λd o hd q=>keep d o ?_ q) (λd q=>?_) λd xs q=>?_
      ·rcases hd with z|z
       ·rw[z];exact hb
       ·intro y;rw[y,hP]at z;cases z
      ·exact sm d _ (λy=>by rw[y,hP]at q;cases q) q
      ·exact sm d _ (λy=>by rw[y,hP]at q;cases q) q
  have I':AW X ad σ H' {s with heap:=h'.push fo,toks:=tk}:=I.call (g':=s.gens) (d':=s.drawn) (ch:=[]) un hok I.bare (λb z=>qG z (by simp));refine⟨.ref f,H',?_,by rw[hf];rfl,hq f H' sm ⟨_,atP,?_,λcv hcv=>?_⟩ nf ⟨(X.mg "__name__").getD .none,c',ctv,oc,by rw[atf,hfo],atc,vs,t,hd,hv⟩⟩
  ·subst hfo;exact I'
  ·rw[bN];exact TriplesOk_snoc _ _ _ _ ht
  ·rw[bN]at hcv;have e:=codeAmong_snoc (c:=.ref c') ps.toList ht hca;have hcv':codeAmong pos (ps.toList++[rawInt pos.line,rawInt pos.col,.ref c'])=some cv:=hcv;rw[e]at hcv';cases hcv';exact⟨c',oc,rfl,atc,vs,t,hd,hv⟩
 |some cv =>
  rcases hh cv hca with⟨c',oc,rfl,hc',co⟩;refine PySem.W.kla_makeFunctionHit (mg:=X.mg) hcl I.ok.glob hgs hcode C hPh ht hca BA λctv h' tk hk hsz=>?_;obtain⟨f,hf⟩:∃f,f=h'.objs.size:=⟨_,rfl⟩;obtain⟨fo,hfo⟩:∃fo,fo=UB (X.env.qual++"<lambda>") params body scope clos ((X.mg "__name__").getD .none) c' ctv:=⟨_,rfl⟩;have nf:H f=none:=fresh f (by rw[hf];exact hsz);have keep:∀b o,s.heap.get? b=some o->(h'.push fo).get? b=some o:=λb o e=>aO _ (hk b o e)
  have sm:AG H (AV H f (.frz fo C3)):=AG.new nf _;have hok:Ea X.prog X.w (AV H f (.frz fo C3)) (h'.push fo):=I.hok.laid keep (by rw[hf];exact hsz) (IN (by rw[hf];exact af _ (by rw[hfo];rfl)))
  have un:Un (KB X.stack) [] H (AV H f (.frz fo C3)) s.heap (h'.push fo):=by refine⟨λb o e n _ _=>keep b o e,λb o e n _ _=>⟨o.slots,keep b o e⟩,λb o e n _=>?_,λb o e _=>⟨o,keep b o e⟩,λb xs e=>sm _ _ e,λb o u e=>sm _ _ e,λb qs e=>⟨#[],by rw[Array.append_empty];exact sm _ _ e⟩⟩;rw[AL (λz=>qG (ag (aY e) hsz) (by rw[z,hf];exact bH _))];exact n
  have I':AW X ad σ (AV H f (.frz fo C3)) {s with heap:=h'.push fo,toks:=tk}:=I.call (g':=s.gens) (d':=s.drawn) (ch:=[]) un hok I.bare (λb z=>qG z (by simp));refine⟨.ref f,AV H f (.frz fo C3),?_,by rw[hf];rfl,hq f _ sm.t (Ck.same ⟨ps,hP,ht,hh⟩ sm) nf ⟨(X.mg "__name__").getD .none,c',ctv,oc,by rw[AE,hfo],sm _ _ hc',co⟩⟩;subst hfo;exact I'
abbrev Bk(cl:List (Str×qR)):List qR:=cl.map (·.2)
noncomputable def JJ(cl:List (Str×qR))(H:Hp):Hp:=λb=>if b∈Bk cl then none else H b
noncomputable def YF(cl:List (Str×qR))(H H':Hp):Hp:=λb=>if b∈Bk cl then H b else H' b
def Dk(cl:List (Str×qR))(vs:List V)(H:Hp):Prop:=Paired (λ(p:Str×qR) (v:V)=>∃u o,A8 v u/\o.data=.cell (some u)/\H p.2=some (.frz o C3)) cl vs
theorem CA{b:qR}(h:b∉Bk cl):JJ cl H b=H b:=qE h
theorem IP{b:qR}(h:b∈Bk cl):JJ cl H b=none:=qF h
theorem Df{b:qR}(h:b∉Bk cl):YF cl H H' b=H' b:=qE h
theorem Mo{b:qR}(h:b∈Bk cl):YF cl H H' b=H b:=qF h
theorem Paired.left{F:α->β->Prop}{l₁:List α}{l₂:List β}(p:Paired F l₁ l₂):∀a∈l₁,∃b,F a b:=by
 induction p with
 |nil=>intro _ h;cases h
 |cons r _ ih =>
  intro a h;rcases aw.mp h with rfl|h
  ·exact⟨_,r⟩
  ·exact ih a h
theorem Paired.at{F:α->β->Prop}{l₁:List α}{l₂:List β}(p:Paired F l₁ l₂):∀{i:Nat} {b:β},l₂[i]?=some b->∃a,l₁[i]?=some a/\F a b:=by
 induction p with
 |nil=>intro _ _ h;cases h
 |cons r _ ih =>
  intro i b h;cases i with
  |zero=>cases h;exact⟨_,rfl,r⟩
  |succ i=>exact ih h
theorem Paired.lens{F:α->β->Prop}{l₁:List α}{l₂:List β}(p:Paired F l₁ l₂):l₁.length=l₂.length:=by
 induction p with
 |nil=>rfl
 |cons _ _ ih=>exact qP Nat.succ ih
section
variable{vs:List V}
theorem Dk.at(c:Dk cl vs H){b:qR}(h:b∈Bk cl):∃u o,o.data=.cell (some u)/\H b=some (.frz o C3):=by obtain⟨p,hp,rfl⟩:=ao.mp h;obtain⟨v,u,o,_,h1,h2⟩:=Paired.left c p hp;exact⟨u,o,h1,h2⟩
theorem Dk.out(c:Dk cl vs H){b:qR}{u:HO}(h:H b=some u)(n:∀o,u≠.frz o C3):b∉Bk cl:=λz=>by obtain⟨_,o,_,e⟩:=c.at z;rw[h]at e;exact n o (Option.some.inj e)
theorem Rn(h0:∀b∈Bk cl,H b=none)(e:AG H H'):AG H (JJ cl H'):=λb o q=>by rw[CA (λz=>by rw[h0 b z]at q;cases q)];exact e b o q
theorem DJ{b:qR}(h:H b=none):JJ cl H b=none:=by
 unfold JJ;split
 ·rfl
 ·exact h
theorem Ro(e:AG (JJ cl H) H'):AG H (YF cl H H'):=λb o q=>by
 by_cases hb:b∈Bk cl
 ·rw[Mo hb];exact q
 ·rw[Df hb];exact e b o (by rw[CA hb];exact q)
theorem Ea.unC{P:qT}{w:qU}{h:Heap}(x:Ea P w H h)(n:∀b∈Bk cl,∀u,H b=some u->∃o,u=.frz o C3):Ea P w (JJ cl H) h:=λb u e=>by
 have hb:b∉Bk cl:=λz=>by rw[IP z]at e;cases e
 rw[CA hb]at e;refine (x b u e).stay (λ_ _ _ q=>q) (λc q=>?_) λc xs q=>?_
 ·rw[CA (λz=>by obtain⟨o,y⟩:=n c z _ q;cases y)];exact q
 ·rw[CA (λz=>by obtain⟨o,y⟩:=n c z _ q;cases y)];exact q
end
def At(σ:St)(is:List Nat)(vs:List V):Prop:=Paired (λ(i:Nat) (v:V)=>σ[i]?=some (some v)) is vs
theorem Dl(cl:List (Str×qR)):∀(names:List (Str×NameKind)) (n:Nat) (fh:List (Str×qR)),cellsFrom n names (fh++cl)=cellsFrom n names fh++cl
 |[],_,_=>rfl
 | (name,kind)::r,n,fh=>by
  unfold cellsFrom;split
  ·exact Dl cl r (n+1) ((name,n)::fh)
  ·exact Dl cl r n fh
theorem Ci:∀{l r:List (Str×α)},(l++r).lookup x=(l.lookup x).or (r.lookup x)
 |[],r=>by simp
 | (k,v)::l,r=>by
  rw[eW,d5,d5];split
  ·rfl
  ·exact Ci
theorem IQ{f g:α->PUnit->Sem (ForInStep PUnit)}:∀{l:List α},(∀x∈l,f x ⟨⟩=g x ⟨⟩)->forIn l (⟨⟩:PUnit) f=forIn l (⟨⟩:PUnit) g
 |[],_=>by rw[List.forIn_nil,List.forIn_nil]
 |x::r,h=>by
  rw[List.forIn_cons,List.forIn_cons,h x ai];refine bind_congr λy=>?_;cases y with
  |done b=>rfl
  |yield b=>exact IQ λz hz=>h z (aa _ hz)
theorem Mp{e1 e2:Env}{v:qQ}(h1:e1.scope=e2.scope)(h2:e1.locals=e2.locals)(h3:e1.globals=e2.globals)(h4:e1.cells.lookup x=e2.cells.lookup x)(hk:e1.scope.kind=.function)(hx:e1.kindOf x=some .local\/e1.kindOf x=some .cell):storeName e1 x v=storeName e2 x v:=by
 have k2:e2.kindOf x=e1.kindOf x:=by unfold Env.kindOf;rw[h1]
 have c2:cellOf e1 x=cellOf e2 x:=by unfold cellOf;rw[h4]
 unfold storeName;rw[k2];have hk2:e2.scope.kind=.function:=by rw[<-h1];exact hk
 rcases hx with hx|hx<;>rw[hx]<;>simp[h1,h2,h3,c2,hk2]
theorem Il{M:Model}{A:Around}{s:qS}{globals:qR}{binds:List (Str×qQ)}{func:Option qR}{code:qQ}{builtins:qR}{Q:Env->qS->Prop}
  (hk:scope.kind=.function)
  (hkind:∀x∈binds,scope.names.lookup x.1=some .local\/(scope.names.lookup x.1=some .cell/\((cellsFrom (s.heap.objs.size+1) scope.names []).lookup x.1).isSome=true))
  (hout:∀x∈binds,∀c,(cellsFrom (s.heap.objs.size+1) scope.names []).lookup x.1=none->cl.lookup x.1≠some c)
  (hQ:∀s',InCallC s s.heap.objs.size (bindL (λx=>scope.names.lookup x) binds λ_=>none) (cellsFrom (s.heap.objs.size+1) scope.names []) (bindC (λx=>scope.names.lookup x) binds λ_=>none) s' ->
   Q (newEnv scope s.heap.objs.size globals (cellsFrom (s.heap.objs.size+1) scope.names []++cl) qual func code none builtins) s'):
  wpAny M A (newFunctionEnv scope globals cl binds qual func code none builtins) Q E s:=by
 simp only[newFunctionEnv,Option.isSome_none,Bool.false_eq_true,if_false];refine qC (wpAny_alloc ?_);refine qC (wpAny_layCells _ (λname kind cells=>by cases hkc:kind==NameKind.cell<;>simp[hkc]) _ _ _ _ ?_);have ok:=cellsFrom_ok scope.names (s.heap.push {cls:=.type "frame",data:=.dict #[]}) (s.heap.objs.size+1) [] ⟨λ_ _ hm=>(nomatch hm),List.Pairwise.nil⟩ (by rw[cV];exact aP _);rw[cV]at ok;rw[show ({s with heap:=s.heap.push {cls:=.type "frame",data:=.dict #[]}}:qS).heap.objs.size=s.heap.objs.size+1 from cV ..];have ca:=Dl cl scope.names (s.heap.objs.size+1) [];rw[fW]at ca;rw[ca]
 have env2:∀x∈binds,(cellsFrom (s.heap.objs.size+1) scope.names []++cl).lookup x.1=(cellsFrom (s.heap.objs.size+1) scope.names []).lookup x.1:=λx hx=>by
  rw[Ci];cases e:(cellsFrom (s.heap.objs.size+1) scope.names []).lookup x.1 with
  |some c=>rfl
  |none =>
   cases e2:cl.lookup x.1 with
   |none=>rfl
   |some c=>exact qG e2 (hout x hx c e)
 refine qC ?_
 rw[IQ (g:=λ(x:Str×qQ) _=>(do storeName (newEnv scope s.heap.objs.size globals (cellsFrom (s.heap.objs.size+1) scope.names []) qual func code none builtins) x.1 x.2;pure (.yield ⟨⟩):Sem (ForInStep PUnit))) (λx hx=>by
  exact qP (λz:Sem Unit=>(do z;pure (ForInStep.yield PUnit.unit):Sem (ForInStep PUnit))) (Mp (e1:=newEnv scope s.heap.objs.size globals (cellsFrom (s.heap.objs.size+1) scope.names []++cl) qual func code none builtins) (e2:=newEnv scope s.heap.objs.size globals (cellsFrom (s.heap.objs.size+1) scope.names []) qual func code none builtins) rfl rfl rfl (env2 x hx) hk (by
   rcases hkind x hx with z|z
   ·exact .inl z
   ·exact .inr z.1)))]
 exact wpAny_bindParams (s₀:=s) (env:=newEnv scope s.heap.objs.size globals (cellsFrom (s.heap.objs.size+1) scope.names []) qual func code none builtins)
  _ (λ_ _ _=>rfl) hk binds (λ_=>none) (λ_=>none) _ _
  ⟨⟨⟨_,_,rfl⟩,(Heap.Ns.new s.heap (.type "frame")).keeps (pushCells_keeps _ _),λb o e=>pushCells_keeps _ _ b o (aO _ e),aP _⟩,
   λn c hc=>(ok.empty n c (mem_of_lookup hc)).1,ok.apart,λn c hm=>(ok.empty n c hm).2⟩
  hkind λs' x=>qD (hQ s' x)
structure LJ(ps fns:List Str)(sc:Scope):Prop where
 kind:sc.kind=.function
 co:sc.isCoroutine=false
 gen:sc.isGenerator=false
 nd:(ps++fns).Nodup
 par:∀x∈ps,sc.names.lookup x=some .local\/sc.names.lookup x=some .cell
 fre:∀x∈fns,sc.names.lookup x=some .free
 all:∀y∈sc.names,y.2=.free->y.1∈fns
 own:∀y∈sc.names,y.2=.cell->y.1∉fns
noncomputable def ZG(P:qT)(w:qU)(K:qV)(mg:Str->Option qQ)(base:Heap)(N:List Str)(qual:Str)(scope:Scope)(f:qR)(cd:qQ)(cl:List (Str×qR))(A:Around)(outer:List Env)(s:qS)(H:Hp):Cx where
 prog:=P
 w:=w
 K:=K
 mg:=mg
 base:=base
 A:=A.deeper (PySem.W.envX qual scope s.heap.objs.size f cd (cellsFrom (s.heap.objs.size+1) scope.names []++cl))
 N:=N
 s₀:=s
 H₀:=JJ cl H
 env:=PySem.W.envX qual scope s.heap.objs.size f cd (cellsFrom (s.heap.objs.size+1) scope.names []++cl)
 outer:=outer
 stack:=PySem.W.envX qual scope s.heap.objs.size f cd (cellsFrom (s.heap.objs.size+1) scope.names []++cl)::outer
 ex:=[]
 calm:=true
 fn:=λx=>((cellsFrom (s.heap.objs.size+1) scope.names []).lookup x).isSome
 pn:=[]
 xe:=λ_ _=>False
theorem GV{c:qR}:∀{names:List (Str×NameKind)} {n:Nat} {fh:List (Str×qR)},(cellsFrom n names fh).lookup x=some c->(∃k,(x,k)∈names/\k=.cell)\/fh.lookup x=some c
 |[],_,_,h=>.inr h
 | (name,kind)::r,n,fh,h=>by
  unfold cellsFrom at h
  split at h
  ·rename_i hk
   rcases GV h with⟨k,h1,h2⟩|h
   ·exact .inl ⟨k,aa _ h1,h2⟩
   ·rw[d5]at h
    split at h
    ·rename_i hx
     exact .inl ⟨kind,by rw[beq_iff_eq.mp hx];exact ai,beq_iff_eq.mp hk⟩
    ·exact .inr h
  ·rcases GV h with⟨k,h1,h2⟩|h
   ·exact .inl ⟨k,aa _ h1,h2⟩
   ·exact .inr h
theorem Cr{c:α}:∀{l:List (Str×α)},(l.map (·.1)).Nodup->(x,c)∈l->l.lookup x=some c
 |[],_,h=>by cases h
 | (k,v)::r,nd,h=>by
  rw[d5];rcases aw.mp h with e|h
  ·cases e;simp
  ·have:x≠k:=λz=>(bu.mp nd).1 (by rw[<-z];exact ao.mpr ⟨(x,c),h,rfl⟩)
   rw[beq_eq_false_iff_ne.mpr this];exact Cr (bu.mp nd).2 h
theorem WP{P:qT}{w:qU}{K:qV}{mg:Str->Option qQ}{base:Heap}{k:Nat}{f c':qR}{q:Str}{body:Expr}{pm ctv:qQ}{fns:List Str}
  (S:LJ ps fns scope) (hcl:cl.map (·.1)=fns) (hnd:(Bk cl).Nodup) (len:∀vs H Q E,sp vs H Q E->vs.length=ps.length)
  (hbody:∀(A:Around) (outer:List Env) (s:qS) (H:Hp) (vs:List V) (Q:VK) (E:XK),B7 k (A.deeper (PySem.W.envX q scope s.heap.objs.size f (.ref c') (cellsFrom (s.heap.objs.size+1) scope.names []++cl)))->sp vs H Q E ->
   ∃Cz oc,H f=some (.frz (UB q params body scope cl pm c' ctv) C3)/\H c'=some (.frz oc C3)/\Rm oc q/\Dk cl Cz H /\
   ∃t,PE (ZG P w K mg base (ps++fns) q scope f (.ref c') cl A outer s H) body t/\t ((vs++Cz).map some) (JJ cl H) (λv H'=>(∀b∈Bk cl,H' b=none)->Q v (YF cl H H'))):
  GC P w K mg base (Lo P w) (k+1) f (PySem.W.kla_fn "<lambda>" q params body scope cl pm (.ref c') ctv) ps sp:=by
 refine⟨len,λA outer s H args us vs Q E hr e0 hb r hsp=>?_⟩;have hl:=len _ _ _ _ hsp;have KX:K.In s.heap:=e0.mod.kin.keeps λb o e=>(e0.bs b o e).1
 have lim:s.heap.NoLimit:=e0.mod.nolimit.keeps λb o e=>(e0.bs b o e).1
 rcases hbody A outer s H vs Q E (hr.deeper _) hsp with⟨Cz,oc,hf,hc',⟨cvs,ctk,hcd,hcv⟩,hck,t,ht,hq⟩
 have hkind:∀y∈ps.zip us,scope.names.lookup y.1=some .local\/(scope.names.lookup y.1=some .cell/\((cellsFrom (s.heap.objs.size+1) scope.names []).lookup y.1).isSome=true):=λ⟨n,v⟩ hy=>by
  rcases S.par n (eJ hy).1 with q|q
  ·exact .inl q
  ·exact .inr ⟨q,fF _ _ _ (.inl q)⟩
 have clin:∀{x:Str} {c:qR},cl.lookup x=some c->x∈fns/\c∈Bk cl:=λ{x c} e=>by have m:=bp e;exact⟨by rw[<-hcl];exact ao.mpr ⟨_,m,rfl⟩,ao.mpr ⟨_,m,rfl⟩⟩
 have ndf:fns.Nodup:=(cD.mp S.nd).2.1;have ndp:ps.Nodup:=(cD.mp S.nd).1;have apart:∀x∈ps,x∉fns:=λx h1 h2=>(cD.mp S.nd).2.2 x h1 x h2 rfl
 have old:∀b∈Bk cl,∃u o,o.data=.cell (some u)/\H b=some (.frz o C3)/\s.heap.get? b=some o:=λb hb=>by rcases hck.at hb with⟨u,o,h1,h2⟩;exact⟨u,o,h1,h2,(e0.hok b _ h2).1⟩
 refine PySem.W.kla_callFunE hr.depth (e0.hok f _ hf).1 rfl S.co S.gen rfl ⟨c',oc,cvs,ctk,rfl,(e0.hok c' _ hc').1,hcd,hcv⟩ (hb _ _ _ _ ?_);refine Il S.kind hkind (λy hy c _ z=>apart y.1 (eJ (a:=y.1) (b:=y.2) hy).1 (clin z).1) λs1 x=>?_;refine⟨lim.keeps x.toInCall.keep,PySem.W.kla_codeExpr ?_⟩;rcases x.done with⟨h1,tk,rfl,hk⟩;obtain⟨own,hown⟩:∃own,own=cellsFrom (s.heap.objs.size+1) scope.names []:=⟨_,rfl⟩
 have ownk:∀{y:Str} {c:qR},own.lookup y=some c->∃k,(y,k)∈scope.names/\k=.cell:=λ{y c} h=>by
  rw[hown]at h;rcases GV h with z|z
  ·exact z
  ·cases z
 have noA:∀b:qR,b∉(ZG P w K mg base (ps++fns) q scope f (.ref c') cl A outer s H).ex:=λb z=>qG (show b∈([]:List qR) from z) (by simp)
 have lk:∀{y:Str} {c:qR},(own++cl).lookup y=some c->(own.lookup y=some c)\/(own.lookup y=none/\cl.lookup y=some c):=λ{y c} h=>by
  rw[Ci]at h;cases e:own.lookup y with
  |some d=>rw[e]at h;left;exact h
  |none=>rw[e]at h;right;exact⟨rfl,h⟩
 have above:∀{y:Str} {c:qR},own.lookup y=some c->s.heap.objs.size<c:=λ{y c} h=>x.above y c (by rw[hown]at h;exact bp h)
 have ltc:∀b∈Bk cl,b<s.heap.objs.size:=λb hb=>by rcases old b hb with⟨_,_,_,_,e⟩;exact aY e
 have I:AW (ZG P w K mg base (ps++fns) q scope f (.ref c') cl A outer s H) [] ((vs++Cz).map some) (JJ cl H) {s with heap:=h1,toks:=tk}:=by
  refine⟨⟨e0.mod,S.kind,rfl,rfl,aP _,λy z c h1 h2=>?_,λy hy=>?_,λy c h h2=>?_,λ_=>hr.hd,Around.frames_deeper e0.frames,.inr ⟨rfl,rfl⟩,λb z=>qG z (noA b),λb o e=>⟨(e0.bs b o e).1,DJ (e0.bs b o e).2⟩,e0.bsz,λb _ _=>noA b,λb z=>qG z (noA b),e0.funs,λb hb=>DJ (e0.frf b hb)⟩,
   rfl,e0.bare,Un.kept hk,⟨_,x.toInCall.ns,λi y v h1 h2 h3=>?_⟩,λy c h=>?_,DJ (e0.hok.fresh (Nat.le_refl _)),λy c h=>?_,λp hp=>qG (show p∈([]:List (qR×Obj)) from hp) (by simp),?_,?_⟩
  ·have h1:(own++cl).lookup y=some c:=by rw[hown];exact h1
   have h2:(own++cl).lookup z=some c:=by rw[hown];exact h2
   rcases lk h1 with a|⟨_,a⟩<;>rcases lk h2 with b|⟨_,b⟩
   ·rw[hown]at a b;exact name_of_addr x.apart (bp a) (bp b)
   ·exact qG (Nat.lt_trans (above a) (ltc c (clin b).2)) (bH _)
   ·exact qG (Nat.lt_trans (above b) (ltc c (clin a).2)) (bH _)
   ·refine name_of_addr ?_ (bp a) (bp b);have z:=hnd;unfold Bk List.Nodup at z;rw[cU]at z;exact z
  ·have hy:scope.names.lookup y=some .cell\/scope.names.lookup y=some .free:=hy;show ∃c,(cellsFrom (s.heap.objs.size+1) scope.names []++cl).lookup y=some c;rw[Ci];rcases hy with hy|hy
   ·obtain⟨c,e⟩:=Ff (n:=s.heap.objs.size+1) hy;rw[e];exact⟨c,rfl⟩
   ·cases e:(cellsFrom (s.heap.objs.size+1) scope.names []).lookup y with
    |some c=>exact⟨c,rfl⟩
    |none =>
     have m:=S.all _ (bp hy) rfl;rw[<-hcl]at m;obtain⟨p,hp,rfl⟩:=ao.mp m;exact⟨p.2,by rw[Option.none_or];exact Cr (by rw[hcl];exact ndf) hp⟩
  ·have h:((cellsFrom (s.heap.objs.size+1) scope.names []).lookup y).isSome=true:=h;have h2:(own++cl).lookup y=some c:=by rw[hown];exact h2
   rcases lk h2 with a|⟨a,_⟩
   ·exact cr (above a)
   ·rw[hown]at a;rw[a]at h;cases h
  ·have h1:(ps++fns)[i]?=some y:=h1;rw[aQ]at h2;cases e:(vs++Cz)[i]? with
   |none=>rw[e]at h2;cases h2
   |some v' =>
    rw[e]at h2;cases h2
    by_cases hi:i<vs.length
    ·rw[bn hi]at e;rw[bn (by lia)]at h1;obtain⟨u,hu,rv⟩:=r.get e;refine⟨u,rv,?_⟩;rcases S.par y (ae h1) with k|k
     ·exact .inl ⟨k,GD ndp h1 hu k⟩
     ·obtain⟨c,e⟩:=Ff (n:=s.heap.objs.size+1) k;refine .inr ⟨.inl k,c,?_,?_⟩
      ·show (cellsFrom (s.heap.objs.size+1) scope.names []++cl).lookup y=some c;rw[Ci,e];rfl
      ·have q:=x.cell y c e;rw[GF ndp h1 hu (by show scope.names.lookup y≠_;rw[k];decide)]at q;exact q
    ·rw[bE (by lia)]at e;rw[bE (by lia)]at h1;rcases Paired.at hck e with⟨p,hp,u,o,rv,hd,hH⟩;have hp1:p.1=y:=by rw[<-hcl,aQ,<-hl,hp]at h1;exact Option.some.inj h1
     have hy:=S.fre y (ae h1);refine⟨u,rv,.inr ⟨.inr hy,p.2,?_,o,hk _ _ (e0.hok _ _ hH).1,hd⟩⟩;show (cellsFrom (s.heap.objs.size+1) scope.names []++cl).lookup y=some p.2;rw[Ci];cases ee:(cellsFrom (s.heap.objs.size+1) scope.names []).lookup y with
     |none=>rw[Option.none_or];exact Cr (by rw[hcl];exact ndf) (by rw[<-hp1];exact ae hp)
     |some c =>
      obtain⟨kk,m1,m2⟩:=ownk (y:=y) (c:=c) (by rw[hown];exact ee);exact qG (ae h1) (S.own _ m1 m2)
  ·have h:(own++cl).lookup y=some c:=by rw[hown];exact h
   rcases lk h with a|⟨_,a⟩
   ·rw[hown]at a;exact⟨_,x.cell y c a⟩
   ·rcases old c (clin a).2 with⟨u,o,hd,_,ho⟩;exact⟨some u,o,hk _ _ ho,hd⟩
  ·have h:(own++cl).lookup y=some c:=by rw[hown];exact h
   rcases lk h with a|⟨_,a⟩
   ·exact DJ (e0.hok.fresh (cr (above a)))
   ·exact IP (clin a).2
  ·refine Ea.unC (e0.hok.kept hk) λb hb u e=>?_;rcases old b hb with⟨_,o,_,h2,_⟩;rw[h2]at e;cases e;exact⟨o,rfl⟩
  ·show ((vs++Cz).map some).length=(ps++fns).length;rw[aH,aU,aU,hl,<-hcl,aH,Paired.lens hck]
 refine qM (ht [] _ _ _ _ I hq) (λu s' hs=>?_) λe s' hs=>hs.elim
 rcases hs with⟨v,H',J,rv,qq⟩
 have frn:∀b∈KB outer,b∉Bk cl:=λb hb z=>by rcases old b z with⟨_,_,_,h2,_⟩;rw[e0.frf b hb]at h2;cases h2
 have nC:∀{b:qR} {u:HO},H b=some u->(∀o,u≠.frz o C3)->b∉Bk cl:=λh n=>hck.out h n
 have cz:∀b∈Bk cl,H' b=none:=λb hb=>by rcases old b hb with⟨_,o,_,_,ho⟩;exact J.base.free b o ho (IP hb) (noA b)
 refine⟨v,YF cl H H',J.os,J.bare,⟨λb o e n h1 h2=>J.base.keep b o e (DJ n) h1 h2,λb o e n h1 h2=>J.base.slot b o e (DJ n) h1 h2,λb o e n h2=>?_,J.base.there,λb xs e=>?_,λb o u e=>?_,λb qs e=>?_⟩,λb u e=>?_,rv,qq cz⟩
 ·have hb:b∉Bk cl:=λz=>by
   rcases old b z with⟨_,_,_,h2,_⟩;rw[n]at h2;cases h2
  rw[Df hb];exact J.base.free b o e (DJ n) h2
 ·have hb:=nC e (by intro o z;cases z);rw[Df hb];exact J.base.tups b xs (by show JJ cl H b=_;rw[CA hb];exact e)
 ·by_cases hb:b∈Bk cl
  ·rw[Mo hb];exact e
  ·rw[Df hb];exact J.base.frzs b o u (by show JJ cl H b=_;rw[CA hb];exact e)
 ·have hb:=nC e (by intro o z;cases z);rw[Df hb];exact J.base.tbls b qs (by show JJ cl H b=_;rw[CA hb];exact e)
 ·by_cases hb:b∈Bk cl
  ·rw[Mo hb]at e;rcases old b hb with⟨_,o,_,h2,ho⟩;rw[h2]at e;cases e;refine IN (J.base.keep b o ho (IP hb) (λz=>frn b z hb) (noA b))
  ·rw[Df hb]at e;refine (J.hok b u e).stay (λ_ _ _ q=>q) (λc q=>?_) λc xs q=>?_
   ·rw[Df (λz=>by rw[cz c z]at q;cases q)];exact q
   ·rw[Df (λz=>by rw[cz c z]at q;cases q)];exact q
structure WQ(K:qV)(x qual:Str)(st:Stmt)(f c Pt:qR)(fd:FuncData):Prop where
 ex:∃(oc:qQ) (od:Option qR) (kV doc pm:qQ) (an:Option qR) (ct:qQ) (osl:Array (Option qQ)),
  fd=PySem.W.fnOf x qual (DQ st) (Bx st) (AI st) .none kV doc pm an (.ref c) ct/\K.lookup f=some ⟨oc,od,.func fd,osl⟩/\PySem.W.codeIn K (.ref c) qual=true
 kp:PySem.W.keepIn K (.ref f)=true
 hd:PySem.W.codeHdIn K c Pt=true
section
variable{P:qT}{w:qU}{K:qV}{mg:Str->Option qQ}{base:Heap}{f c Pt:qR}{N:List Str}{k:Nat}
theorem YG(D:∃fd,WQ K x qual st f c Pt fd)(S:AO N ps (AI st))(bd:HR x qual st ps) (h:∀vs H Q E,sp vs H Q E->vs.length=ps.length /\
  ∀(A:Around) (outer:List Env) (s:qS),B7 k (A.deeper (envOfC qual (AI st) s.heap.objs.size f (.ref c))) ->
   ∃t,Ic (Gs (Lo P w) P w K mg base N qual (AI st) f (.ref c) A outer s H E) (Bx st) t/\t {nx:=λ_ H'=>Q .non H',rt:=Q} (DA N vs) H):CJ P w K mg base (k+1) f ps sp:=by
 rcases D with⟨fd,⟨oc,od,kV,doc,pm,an,ct,osl,rfl,lk,hcd⟩,kp,hd⟩;exact⟨⟨_,Ue lk hcd S (λvs H Q E q=>(h vs H Q E q).1) λA outer s H vs Q E hr q=>(h vs H Q E q).2 A outer s hr,.all (bd kV doc pm an (.ref c) ct)⟩,kp⟩
def N4(K:qV)(x:Str)(st:Stmt)(f c Pt:qR):Prop:=(∃fd,WQ K x x st f c Pt fd)/\PySem.W.nsIn K mainGlobals x=some (some (.ref f))
theorem UC{kV pm ct:qQ}(a:PySem.W.nsIn K mainGlobals x=some (some (.ref f)))
  (l:K.lookup f=some ⟨oc,od,.func (PySem.W.fnOf x x (DQ st) (Bx st) (AI st) .none kV doc pm an (.ref c) ct),osl⟩) (e:PySem.W.codeIn K (.ref c) x=true) (k:PySem.W.keepIn K (.ref f)=true) (h:PySem.W.codeHdIn K c Pt=true):N4 K x st f c Pt:=
 ⟨⟨_,⟨⟨oc,od,kV,doc,pm,an,ct,osl,rfl,l,e⟩,k,h⟩⟩,a⟩
end
section
variable{P:qR}{q:Str}
theorem Ck.at(t:Ck pos q P H):∃ps,H P=some (.tbl ps):=by obtain⟨ps,h,_⟩:=t;exact⟨ps,h⟩
theorem De.get(e:De P H H')(t:Ck pos q P H){b:qR}(h:H b=some o)(n:∀ps,o≠.tbl ps):H' b=some o:=by obtain⟨ps,hp⟩:=t.at;exact e b o (λz=>by rw[z,hp]at h;cases h;exact n _ rfl) h
end
theorem PU{K:qV}{q:Str}{body:Expr}{pm ct:qQ}
  (h:∀us:List qQ,us.length=ps.length->bindArgs (PySem.W.kla_fn name q params body scope cl pm fi ct) ⟨us,[]⟩=pure (ps.zip us)):Ge K (PySem.W.kla_fn name q params body scope cl pm fi ct) ps []:=.all h
theorem N5{K:qV}:∀{ts:List qR},(∀P∈ts,∃c,PySem.W.codeHdIn K c P=true)->(∀P∈ts,K.lookup P=none)->∃cts:List (qR×qR),cts.map (·.2)=ts/\Rk K cts
 |[],_,_=>⟨[],rfl,λq hq=>qG hq am⟩
 |P::ts,h1,h2=>by
  obtain⟨c,hc⟩:=h1 P ai;obtain⟨cts,e,h⟩:=N5 (λP hP=>h1 P (aa _ hP)) λP hP=>h2 P (aa _ hP)
  refine⟨(c,P)::cts,by rw[bv,e],λq hq=>?_⟩;rcases aw.mp hq with z|z
  ·rw[z];exact⟨hc,h2 P ai⟩
  ·exact h q z
inductive J3(K:qV)(ts:List qR)(vs:List V)(H:Hp)(Q:VK)(z3_:XK):Prop
 |m (a:qR) (ns:qW):vs=[.ref a]->Af K H a (ns.map V.int)->ns.length<=63->(∀P∈ts,H P=some (.tbl #[]))->(∀H',Q (.bl true) H')->J3 K ts vs H Q z3_
theorem PV{l:PySem.W.OpenLaw}{n k:Nat}{q:qT}{loose:List Str}{XP:(Str->Option qQ)->Heap->Prop}{YP:qU->Heap->Prop}{d:DefRec}{K:Params->qV}{ts:List qR}
  (hn:l.most=some 63) (hdf:d.params.defaults=[]) (hr:B7 k callerA)
  (hY:∀(w:qU) (h:Heap),YP w h->(K w.params).In h/\∀P∈ts,h.get? P=some (PySem.W.tabObj #[])) (hT:∀w:qU,∀P∈ts,(K w.params).lookup P=none)
  (F:∀(w:qU) (mg:Str->Option qQ) (fa:qR) (h:Heap),(K w.params).In h->h.Ns mainGlobals mg->mg d.name=some (.ref fa) ->
   (∀P∈ts,∃c,PySem.W.codeHdIn (K w.params) c P=true)/\∃fd:FuncData,(∀(s:qS) (u:qQ),BindsTo s fd ⟨[u],[]⟩ [(x,u)]) /\
    ∀base:Heap,(K w.params).In base->base.Ns mainGlobals mg->Gn mg base->GC l.prog w (K w.params) mg base (Lo l.prog w) k fa fd [x] (J3 (K w.params) ts)):
  PySem.W.WalkO q loose XP YP l.row.toRowW d [] (λf vs=>PySem.call f vs):=by
 refine Att.attach_call hn hdf λw s₀ s₁ mg mb fa o pm cd doc a vs ns G Y ho hd hcd hmg hobj hints hlen hg=>?_;obtain⟨KX,TX⟩:=hY w _ Y;rcases F w mg fa _ KX G.T.g hmg with⟨hc,fd,hb,hF⟩;obtain⟨cts,rfl,hT'⟩:=N5 hc (hT w);exact PR KX G.T.g G.T.b G.T.builtins G.T.nolimit G.T.bmain hg hT' (λq hq=>TX _ (ao.mpr ⟨q,hq,rfl⟩)) hobj hints (bK hlen (by decide)) hr hF hb (λH hO hS=>⟨a,ns,rfl,hS,hlen,hO.2,λ_=>rfl⟩) (by rintro H e s' ⟨_,_,_,_,_,_,_,_,z⟩;exact z)
end L2
namespace L2
open PySem PySem.Spec PyProof.Rows RW
variable{H H' HX:Hp}{d2 l:qR}{j:Nat}{ls ls2:List qR}{α β:Type}
noncomputable def B4(A:qW)(vs:List V):List (Bf×V):=List.zipWith (λa v=>(Sum.inl a,v)) A vs
theorem JK{A:qW}{vs:List V}(h:vs.length=A.length):(B4 A vs).length=A.length:=by unfold B4;rw[List.length_zipWith,h,Nat.min_self]
theorem Rp{a b:Int}(h:a≠b):¬(Sum.inl a:Bf)=Sum.inl b:=λe=>h (Sum.inl.inj e)
theorem E8:∀{A:qW} {vs:List V} {a:Int},a∉A->Bj (B4 A vs) (Sum.inl a)=none
 |[],_,_,_=>rfl
 |_::_,[],_,_=>rfl
 |b::A,v::vs,a,h=>by show Bj ((Sum.inl b,v)::B4 A vs) (Sum.inl a)=none;rw[Cj (show ¬(Sum.inl b,v).1=Sum.inl a from Rp λe=>h (by rw[e];exact ai))];exact E8 λe=>h (aa _ e)
theorem GW:∀{A:qW} {vs:List V} {i:Nat} {a:Int} {v:V},A.Nodup->A[i]?=some a->vs[i]?=some v->Bj (B4 A vs) (Sum.inl a)=some v
 |[],_,_,_,_,_,h,_=>by simp at h
 |_::_,[],_,_,_,_,_,h=>by simp at h
 |b::A,v::vs,0,a,w,nd,h1,h2=>by simp at h1 h2;subst h1 h2;exact Dx rfl
 |b::A,v::vs,i+1,a,w,nd,h1,h2=>by simp at h1 h2;have nd':=bu.mp nd;show Bj ((Sum.inl b,v)::B4 A vs) (Sum.inl a)=some w;rw[Cj (show ¬(Sum.inl b,v).1=Sum.inl a from Rp λe=>nd'.1 (by rw[e];exact ae h1))];exact GW nd'.2 h1 h2
theorem Rq{A:qW}{vs:List V}{a:Int}{v:V}(hl:vs.length=A.length)(h:a∉A):DE (B4 A vs) (Sum.inl a) v=B4 (A++[a]) (vs++[v]):=by rw[Ks _ (E8 h)];unfold B4;rw[List.zipWith_append hl.symm];rfl
theorem UD{A:qW}{vs:List V}{i:Nat}{k:Bf}{v:V}(h:(B4 A vs)[i]?=some (k,v)):∃a,A[i]?=some a/\vs[i]?=some v/\k=Sum.inl a:=by
 unfold B4 at h;rw[dA]at h;cases ha:A[i]? with
 |none=>rw[ha]at h;simp at h
 |some a =>
  cases hl:vs[i]? with
  |none=>rw[ha,hl]at h;simp at h
  |some l =>
   rw[ha,hl]at h;simp at h;exact⟨a,rfl,by rw[h.2],h.1.symm⟩
theorem Rr{A:List α}{a:α}(h:a∈A):∃i:Nat,A[i]?=some a:=ay.mp h
theorem U7{A:List α}{ls:List β}(n:ls.length=A.length){i:Nat}{a:α}(h:A[i]?=some a):∃l,ls[i]?=some l:=
 ⟨ls[i]'(by rw[n];exact (aN.mp h).1),aJ _⟩
theorem Rs{A:qW}{vs:List V}{a:Int}(n:vs.length=A.length)(nd:A.Nodup):(Bj (B4 A vs) (Sum.inl a)).isSome=decide (a∈A):=by
 by_cases h:a∈A
 ·obtain⟨i,hi⟩:=Rr h;obtain⟨v,hv⟩:=U7 n hi;rw[GW nd hi hv,qH h];rfl
 ·rw[E8 h,qI h];rfl
structure F1(H:Hp)(ls:List qR)(A:qW)(F:Int->qW):Prop where
 n:ls.length=A.length
 nd:ls.Nodup
 e:∀(i:Nat) (a:Int) (l:qR),A[i]?=some a->ls[i]?=some l->H l=some (.lst ((F a).map V.int))
section
variable{A:qW}{F:Int->qW}
theorem F1.nil:F1 H [] [] F:=⟨rfl,List.nodup_nil,λi a l z=>by simp at z⟩
theorem F1.same(e:AG H H')(g:F1 H ls A F):F1 H' ls A F:=⟨g.n,g.nd,λi a l h1 h2=>e _ _ (g.e i a l h1 h2)⟩
theorem F1.snoc(g:F1 H ls A F){a:Int}(hl:l∉ls)(h:H l=some (.lst ((F a).map V.int))):F1 H (ls++[l]) (A++[a]) F:=by
 refine⟨by rw[aU,aU,g.n];rfl,cD.mpr ⟨g.nd,bu.mpr ⟨am,cQ⟩,λx hx y hy e=>hl (by rw[<-aV.mp hy,<-e];exact hx)⟩,λi b k h1 h2=>?_⟩
 by_cases z:i<A.length
 ·rw[bn z]at h1;rw[bn (by rw[g.n];exact z)]at h2;exact g.e i b k h1 h2
 ·rw[bE (by lia)]at h1;rw[bE (by rw[g.n];lia),g.n]at h2;have z0:i-A.length=0:=by have:=(aN.mp h1).1;simp at this;lia
  rw[z0]at h1 h2;cases h1;cases h2;exact h
theorem F1.out(g:F1 H ls A F)(h:∀xs,H l≠some (.lst xs)):l∉ls:=λz=>by obtain⟨i,hi⟩:=Rr z;obtain⟨a,ha⟩:=U7 g.n.symm hi;exact h _ (g.e i a l ha hi)
theorem F1.new(g:F1 H ls A F)(h:H l=none):l∉ls:=g.out λxs z=>by rw[h]at z;cases z
theorem F1.keep(g:F1 H ls A F)(nl:l∉ls)(v:HO):F1 (AV H l v) ls A F:=
 ⟨g.n,g.nd,λi a k h1 h2=>by rw[AL λe=>nl (by rw[<-e];exact ae h2)];exact g.e i a k h1 h2⟩
theorem F1.congr{G:Int->qW}(g:F1 H ls A F)(h:∀a∈A,G a=F a):F1 H ls A G:=
 ⟨g.n,g.nd,λi a k h1 h2=>by rw[h a (ae h1)];exact g.e i a k h1 h2⟩
theorem F1.push(g:F1 H ls A F)(nd:A.Nodup){p0 x:Int}(hj:A[j]?=some p0)(hl:ls[j]?=some l):F1 (AV H l (.lst ((F p0++[x]).map V.int))) ls A (λp=>if p0=p then F p++[x] else F p):=
 ⟨g.n,g.nd,λi a k h1 h2=>by
  by_cases e:p0=a
  ·subst e;have ij:i=j:=by have a1:=aN.mp h1;have a2:=aN.mp hj;exact (dP (h₀:=a1.1) (h₁:=a2.1) nd).mp (by rw[a1.2,a2.2])
   subst ij;rw[hl]at h2;cases h2;rw[AE,qF rfl]
  ·have kl:k≠l:=λz=>by
    subst z;have b1:=aN.mp h2;have b2:=aN.mp hl;have ij:i=j:=(dP (h₀:=b1.1) (h₁:=b2.1) g.nd).mp (by rw[b1.2,b2.2]);subst ij;rw[hj]at h1;exact e (Option.some.inj h1)
   rw[AL kl,qE e];exact g.e i a k h1 h2⟩
end
theorem AhI.put{A2:qW}{B:Int->qW}{k:Int}(ln:∀l∈ls2,H l=none)(w0:HX d2=some (.dK (B4 A2 (ls2.map V.ref))))(g:F1 HX ls2 A2 B)(hl:HX l=some (.lst []))(nl:l∉ls2)(h0:H l=none)(hk:k∉A2)(hB:B k=[]):
  (∀x∈ls2++[l],H x=none)/\AV HX d2 (.dK (DE (B4 A2 (ls2.map V.ref)) (Sum.inl k) (.ref l))) d2=some (.dK (B4 (A2++[k]) ((ls2++[l]).map V.ref)))/\F1 (AV HX d2 (.dK (DE (B4 A2 (ls2.map V.ref)) (Sum.inl k) (.ref l)))) (ls2++[l]) (A2++[k]) B:=by
 have d2n:d2∉ls2:=g.out λxs z=>by rw[w0]at z;cases z
 refine⟨λx hx=>?_,by rw[AE,Rq (by rw[aH];exact g.n) hk,aZ];rfl,(g.keep d2n _).snoc nl ?_⟩
 ·rcases aR.mp hx with z|z
  ·exact ln x z
  ·rw[aV.mp z];exact h0
 ·rw[AL (Cc hl w0 λz=>by cases z),hB];exact hl
end L2
namespace L2
open PySem PySem.Spec PyProof.Rows
variable{D:Fc}{E:qQ->qS->Prop}{H:Hp}{X:Cx}{a:qR}{cl:List (Str×qR)}{es:List Expr}{fd:FuncData}{o:HO}{params:Arguments}{ad:List (qR×Obj)}{pos:Pos}{ps:List Str}{scope:Scope}{sp:Sp}{ta:TA}{us vs:List qQ}{α:Type}{σ:St}
theorem WR{l:List α}(h:2<=l.length):∃x y r,l=x::y::r:=by
 rcases l with _|⟨x,_|⟨y,l⟩⟩
 ·exact qG h (by rw[dM];decide)
 ·exact qG h (by rw[bW];decide)
 ·exact⟨_,_,_,rfl⟩
theorem Cb:∀{vs:List qQ} {ns:qW},IntsAre vs ns->Au (ns.map V.int) vs
 |_,_,.nil=>.nil
 |_,_,.cons n t h=>.cons ⟨t,rfl⟩ (Cb h)
theorem Im(a f:qR):Builtin.«list.sort» ⟨[.ref a],[(Str.ofString "key",.ref f)]⟩=(do
  let items <-Builtin.List.listItems (.ref a)
  Builtin.List.listUpdate (.ref a) λ_=>#[]
  let before <-seqEpoch a
  let held <-newTuple items.toList
  let keyStore <-newList []
  holding [held,keyStore] do
   rule "list.sort.key"
   for x in items do
    match <-(call (.ref f) [x]).attempt with
    |.ok k=>Builtin.List.listUpdate keyStore (·.push k)
    |.error e =>
     rule "list.sort.key-raised"
     let made <-Builtin.List.listItems keyStore
     Builtin.List.listUpdate keyStore λ_=>#[]
     letGo made.toList.reverse [e]
     Builtin.List.listUpdate (.ref a) λ_=>items;throw e
   let keys <-Builtin.List.listItems keyStore
   let kind <-if items.size<2 then pure general' else keyKind' keys
   let ((),s) <-(if items.size<2 then pure () else sortRuns').run (SortSt.mk' kind (keys.zip items) #[] 7 none)
   let sorted:=(arrOf s).map (·.2)
   Builtin.List.listUpdate keyStore λ_=>#[]
   letGo ((arrOf s).map (·.1)).toList (failedOf s).toList
   let touched:=(<-seqEpoch a) != before
   Builtin.List.listUpdate (.ref a) λ_=>sorted
   if let some e:=failedOf s then rule "list.sort.comparison-raised";throw e
   if touched then rule "list.sort.modified";raiseError "ValueError" "list modified during sort"
   ret .none):=by
 first|rfl|(fail "not by rfl")
theorem Gy(a v:qQ):argsOk "sorted" ⟨[a],[(Str.ofString "key",v)]⟩:=by unfold argsOk;kernel_rfl
theorem FV(a v:qQ):argsOk "list.sort" ⟨[a],[(Str.ofString "key",v)]⟩:=by unfold argsOk;kernel_rfl
theorem AW.adopt{s:qS}(I:AW X ad σ H s)(f:Cp X ad H a)(hx:a∉X.ex)(hn:X.s₀.heap.objs.size<=a)(new:Ap X.prog X.w (AV H a o) s.heap a o):AW X ad σ (AV H a o) s:=by
 rcases f with⟨f0,f1,f2,f3,f4,f5⟩;have ne:∀{b:qR} {u:HO},H b=some u->b≠a:=λ{b u} e z=>by rw[z,f0]at e;cases e
 have old:∀{b:qR} {u:Obj},X.s₀.heap.get? b=some u->b≠a:=λ{b u} e z=>qG (ag (aY e) hn) (by rw[z];exact bH _)
 refine⟨I.ok,I.os,I.bare,⟨I.base.keep,I.base.slot,λb u e n h=>?_,I.base.there,λb xs e=>?_,λb u v e=>?_,λb ps e=>?_⟩,I.loc,I.cell,?_,λx c e=>?_,λp hp=>?_,λb u e=>?_,I.len⟩
 ·rw[AL (old e)];exact I.base.free b u e n h
 ·have z:=I.base.tups b xs e;rw[AL (ne z)];exact z
 ·have z:=I.base.frzs b u v e;rw[AL (ne z)];exact z
 ·obtain⟨more,z⟩:=I.base.tbls b ps e;exact⟨more,by rw[AL (ne z)];exact z⟩
 ·rw[AL (Ne.symm f1)];exact I.free
 ·rw[AL (f4 x c e)];exact I.freeC x c e
 ·obtain⟨p1,p2,p3⟩:=I.pin p hp;exact⟨p1,by rw[AL (f5 p hp)];exact p2,p3⟩
 ·by_cases z:b=a
  ·subst z;rw[AE]at e;cases e;exact new
  ·rw[AL z]at e;exact (I.hok b u e).stay (λ_ _ _ q=>q) (λc q=>by rw[AL (ne q)];exact q) λc xs q=>by rw[AL (ne q)];exact q
theorem PX{k:Nat}{f:qR}{is:List Nat}{Cz:List V}{s:qS}{A:Around}{vs:List V}{Q':VK}{R:qQ->qS->Prop}
  (F:GC X.prog X.w X.K X.mg X.base (Lo X.prog X.w) k f fd ps sp) (hb:Ge X.K fd ps []) (hr:B7 k A) (hA:A.frames=X.A.frames)
  (hcl:Paired (λ(i:Nat) (q:Str×qR)=>X.N[i]?=some q.1/\X.env.kindOf q.1=some .cell/\X.env.cells.lookup q.1=some q.2/\X.fn q.1=true) is cl) (hAt:At σ is Cz) (I:AW X ad σ H s) (r:Au vs us)
  (q:∀HC,AG H HC->(∀b∈Bk cl,H b=none)->Dk cl Cz HC->(∀b,b∉Bk cl->HC b=H b)->sp vs HC Q' E0)
  (hR:∀v u H2 s2,A8 v u->AW X ad σ (JJ cl H2) s2->Q' v H2->R u s2):wpAny (model X.prog X.w) A (call (.ref f) us) R E s:=by
 have each:∀{is:List Nat} {cl:List (Str×qR)} {Cz:List V},Paired (λ(i:Nat) (q:Str×qR)=>X.N[i]?=some q.1/\X.env.kindOf q.1=some .cell/\X.env.cells.lookup q.1=some q.2/\X.fn q.1=true) is cl->At σ is Cz ->
   Paired (λ(p:Str×qR) (v:V)=>∃u o,A8 v u/\o.data=.cell (some u)/\s.heap.get? p.2=some o/\X.s₀.heap.objs.size<=p.2/\H p.2=none/\X.env.locals≠p.2) cl Cz:=by
  intro is cl Cz h1 h2
  induction h1 generalizing Cz with
  |nil=>cases h2;exact .nil
  |cons a _ ih =>
   cases h2 with
   |cons b h2 =>
    refine .cons ?_ (ih h2);rcases a with⟨n1,n2,n3,n4⟩;obtain⟨m,hn,hl⟩:=I.loc;obtain⟨u,ru,l⟩:=hl _ _ _ n1 b (.inr (.inl n2));rcases l with⟨hk,_⟩|⟨_,c,hc,o,ho,hd⟩
    ·rw[n2]at hk;cases hk
    ·rw[n3]at hc;cases hc;exact⟨u,o,ru,hd,ho,I.ok.cab _ _ n4 n3,I.freeC _ _ n3,(I.cne _ _ n3).symm⟩
 have cells:=each hcl hAt
 have cin:∀b∈Bk cl,∃u o,o.data=.cell (some u)/\s.heap.get? b=some o/\X.s₀.heap.objs.size<=b/\H b=none/\X.env.locals≠b:=λb hb=>by obtain⟨p,hp,rfl⟩:=ao.mp hb;rcases Paired.left cells p hp with⟨v,u,o,_,h1,h2,h3,h4,h5⟩;exact⟨u,o,h1,h2,h3,h4,h5⟩
 obtain⟨HC,hH⟩:∃HC:Hp,HC=λb=>if b∈Bk cl then (s.heap.get? b).map (λo=>HO.frz o C3) else H b:=⟨_,rfl⟩
 have hin:∀b∈Bk cl,∀o,s.heap.get? b=some o->HC b=some (.frz o C3):=λb hb o e=>by rw[hH];show (if _ then _ else _)=_;rw[qF hb,e];rfl
 have hout:∀b,b∉Bk cl->HC b=H b:=λb hb=>by rw[hH];exact qE hb
 have sm:AG H HC:=λb o q=>by rw[hout b (λz=>by obtain⟨_,_,_,_,_,n,_⟩:=cin b z;rw[n]at q;cases q)];exact q
 have ck:Dk cl Cz HC:=by
  have go:∀{cl':List (Str×qR)} {fv:List V},Paired (λ(p:Str×qR) (v:V)=>∃u o,A8 v u/\o.data=.cell (some u)/\s.heap.get? p.2=some o/\X.s₀.heap.objs.size<=p.2/\H p.2=none/\X.env.locals≠p.2) cl' fv->(∀q∈cl',q.2∈Bk cl)->Dk cl' fv HC:=by
   intro cl' fv h1 h2
   induction h1 with
   |nil=>exact .nil
   |cons a _ ih =>
    rcases a with⟨u,o,r1,r2,r3,_⟩;exact .cons ⟨u,o,r1,r2,hin _ (h2 _ ai) o r3⟩ (ih λq hq=>h2 q (aa _ hq))
  exact go cells λq hq=>ao.mpr ⟨q,hq,rfl⟩
 have q1:=q HC sm (λb hb=>by obtain⟨_,_,_,_,_,n,_⟩:=cin b hb;exact n) ck hout;have hl:us.length=ps.length:=by rw[<-r.length];exact F.len _ _ _ _ q1
 have bd:=hb s us I.kIn (by rw[au];exact hl);rw[au]at bd
 have stk:∀b∈KB X.stack,b∉Bk cl:=λb hb z=>by
  rcases cin b z with⟨_,o,_,ho,hs,_,hL⟩;rcases aw.mp (I.stkSub b hb) with y|y
  ·exact hL y.symm
  ·rcases I.ok.funs.mem y with⟨_,o',ho',_⟩;exact qG (ag (aY ho') hs) (bH _)
 have hok1:Ea X.prog X.w HC s.heap:=λb u e=>by
  by_cases hb:b∈Bk cl
  ·rcases cin b hb with⟨_,o,_,ho,_⟩;rw[hin b hb o ho]at e;cases e;exact IN ho
  ·rw[hout b hb]at e;exact (I.hok b u e).stay (λ_ _ _ q=>q) (λc q=>sm _ _ q) λc xs q=>sm _ _ q
 have e0:P5 X.prog X.w X.K X.mg X.base A X.stack s HC:=by
  have e:=I.env0;refine⟨hA.trans e.frames,e.mod,λb o q=>⟨(e.bs b o q).1,?_⟩,e.bsz,e.funs,λb hb=>?_,hok1,e.bare⟩
  ·rw[hout b (λz=>by
    rcases cin b z with⟨_,_,_,_,hs,_⟩;exact qG (ag (aY q) (bK I.ok.bsz hs)) (bH _))]
   exact (e.bs b o q).2
  ·rw[hout b (stk b hb)];exact e.frf b hb
 refine wpAny_call (codeAny_mono (F.run A X.stack s HC ⟨us,[]⟩ us vs _ E0 hr e0 bd r q1) λrs s2 hq=>?_);rcases rs with er|fl
 ·rcases hq with⟨_,_,_,_,_,_,_,_,z⟩;exact z.elim
 ·cases fl with
  |next=>exact False.elim hq
  |brk=>exact False.elim hq
  |cont=>exact False.elim hq
  |ret u =>
   rcases hq with⟨v,H2,os,bare,un,hok,rv,q2⟩
   have fz:∀b∈Bk cl,∃o,s.heap.get? b=some o/\H2 b=some (.frz o C3)/\s2.heap.get? b=some o:=λb hb=>by rcases cin b hb with⟨_,o,_,ho,_⟩;have z:=un.frzs b o _ (hin b hb o ho);exact⟨o,ho,z,(hok b _ z).1⟩
   have nC:∀{b:qR} {o:HO},H b=some o->b∉Bk cl:=λ{b o} e z=>by rcases cin b z with⟨_,_,_,_,_,n,_⟩;rw[n]at e;cases e
   have un':Un (KB X.stack) [] H (JJ cl H2) s.heap s2.heap:=by
    refine⟨λb o e n h1 h2=>?_,λb o e n h1 h2=>?_,λb o e n h2=>?_,un.there,λb xs e=>?_,λb o u e=>?_,λb qs e=>?_⟩
    ·by_cases hb:b∈Bk cl
     ·rcases fz b hb with⟨o',e1,_,e2⟩;rw[e]at e1;cases e1;exact e2
     ·exact un.keep b o e (by rw[hout b hb];exact n) h1 h2
    ·exact un.slot b o e (by rw[hout b (stk b h1)];exact n) h1 h2
    ·by_cases hb:b∈Bk cl
     ·exact IP hb
     ·rw[CA hb];exact un.free b o e (by rw[hout b hb];exact n) h2
    ·rw[CA (nC e)];exact un.tups b xs (sm _ _ e)
    ·rw[CA (nC e)];exact un.frzs b o u (sm _ _ e)
    ·rw[CA (nC e)];exact un.tbls b qs (sm _ _ e)
   have hok':Ea X.prog X.w (JJ cl H2) s2.heap:=hok.unC λb hb u e=>by rcases fz b hb with⟨o,_,z,_⟩;rw[z]at e;cases e;exact⟨o,rfl⟩
   exact hR v u H2 s2 rv (I.call' (ch:=[]) os un' hok' bare (λb z=>qG z (by simp))) q2
def YH(P:qT)(w:qU)(K:qV)(mg:Str->Option qQ)(base:Heap)(k:Nat)(f:qR)(cl:List (Str×qR))(Cz:List V)(κ:Nat->Int)(n:Nat)(H:Hp):Prop:=∃fd ps sp,GC P w K mg base (Lo P w) k f fd ps sp/\Ge K fd ps [] /\
 ∀x:Nat,x<n->∀(HA HC:Hp) (Q:VK),AG H HA->AG HA HC->Dk cl Cz HC->(∀b,b∉Bk cl->HC b=HA b)->(∀b∈Bk cl,HA b=none)->(∀HE,AG HC HE->Q (.int (κ x)) HE)->sp [.int (x:Int)] HC Q E0
variable{κ:Nat->Int}
theorem PY{P:qT}{w:qU}{K:qV}{mg:Str->Option qQ}{base:Heap}{k:Nat}{f:qR}{q:Str}{body:Expr}{n:Nat}{Cz:List V}{x1:Str}{fns:List Str}
  (la:U6 q params body scope cl f H) (S:LJ [x1] fns scope) (hcl:cl.map (·.1)=fns) (hnd:(Bk cl).Nodup) (hbind:∀(pm fi ct:qQ) (us:List qQ),us.length=1->bindArgs (PySem.W.kla_fn "<lambda>" q params body scope cl pm fi ct) ⟨us,[]⟩=pure ([x1].zip us))
  (hbody:∀(c':qR) (A:Around) (outer:List Env) (s:qS) (HC:Hp) (x:Nat),B7 k (A.deeper (PySem.W.envX q scope s.heap.objs.size f (.ref c') (cellsFrom (s.heap.objs.size+1) scope.names []++cl)))->x<n->AG H (JJ cl HC) ->
   ∃t,PE (ZG P w K mg base (x1::fns) q scope f (.ref c') cl A outer s HC) body t/\∀Q:VK,(∀H',AG (JJ cl HC) H'->Q (.int (κ x)) H')->t (some (.int (x:Int))::Cz.map some) (JJ cl HC) Q):
  YH P w K mg base (k+1) f cl Cz κ n H:=by
 rcases la with⟨pm,c',ctv,oc,l1,l2,l3⟩;refine⟨_,[x1],λvs HC QA _=>∃(x:Nat) (HA:Hp),vs=[.int (x:Int)]/\x<n/\AG H HA/\AG HA HC/\Dk cl Cz HC/\(∀b,b∉Bk cl->HC b=HA b)/\(∀b∈Bk cl,HA b=none)/\∀HE,AG HC HE->QA (.int (κ x)) HE,WP (q:=q) (params:=params) (body:=body) (scope:=scope) (cl:=cl) (fns:=fns) (pm:=pm) (ctv:=ctv) (c':=c') S hcl hnd ?_ ?_,PU (hbind pm (.ref c') ctv),λx hx HA HC QA e1 e2 c o z q=>⟨x,HA,rfl,hx,e1,e2,c,o,z,q⟩⟩
 ·intro vs HA QA _ hRq;rcases hRq with⟨x,_,rfl,_⟩;rfl
 ·intro A outer s HC vs QA EA hr hRq;rcases hRq with⟨x,HA,rfl,hx,e1,e2,ck,ho,hz,qA⟩
  obtain⟨t,ht,hq⟩:=hbody c' A outer s HC x hr hx λb o h=>by
   have y:=e1 _ _ h;have nb:b∉Bk cl:=λz=>by rw[hz b z]at y;cases y
   rw[CA nb,ho b nb];exact y
  exact⟨Cz,oc,e2 _ _ (e1 _ _ l1),e2 _ _ (e1 _ _ l2),l3,ck,t,ht,hq _ λH' e cz=>qA _ (Ro e)⟩
theorem IR{h:Heap}{xs:Array qQ}{n:Nat}(ho:h.get? a=some (seqObj "list" xs n))(g:Array qQ->Array qQ):∃e,(h.update a (Obj.mapSeq g)).get? a=some (seqObj "list" (g xs) e):=⟨_,get?_update_seq ho g⟩
section
variable{s:qS}{A:Around}
theorem WS{f L ks:qR}{oL:Obj}{n:Nat}{R:PUnit->qS->Prop}{e:Nat}(I:AW X ((L,oL)::ad) σ H s)(hk:Cp X ((L,oL)::ad) H ks)(hks:s.heap.get? ks=some (seqObj "list" #[] e))(hv:IntsAre vs (FC n))(hn:n<=1000)
  (hcall:∀(pins':List (qR×Obj)) (H':Hp) (s':qS) (x:Nat) (t:Tok) (R':qQ->qS->Prop),AW X pins' σ H' s'->AG H H'->x<n->(∀u H2 s2,A8 (.int (κ x)) u->AW X pins' σ H2 s2->AG H H2->R' u s2)->wpAny (model X.prog X.w) A (call (.ref f) [.int (x:Int) t]) R' (λ_ _=>False) s')
  (hR:∀H' s' keys e',AW X ((L,oL)::ad) σ H' s'->AG H H'->Cp X ((L,oL)::ad) H' ks->s'.heap.get? ks=some (seqObj "list" keys e')->IntsAre keys.toList ((List.range n).map κ)->R ⟨⟩ s'):
  wpAny (model X.prog X.w) A (forIn vs PUnit.unit λx _=>do
    match <-(call (.ref f) [x]).attempt with
    |.ok k=>Builtin.List.listUpdate (.ref ks) (·.push k)
    |.error e =>
     rule "list.sort.key-raised"
     let made <-Builtin.List.listItems (.ref ks)
     Builtin.List.listUpdate (.ref ks) λ_=>#[]
     letGo made.toList.reverse [e]
     Builtin.List.listUpdate (.ref L) λ_=>vs.toArray;throw e
    pure (ForInStep.yield PUnit.unit)) R E s:=by
 have vl:vs.length=n:=by have:=hv.length;rw[this,CV]
 refine wpAny_forIn_list _ (λrest _ s'=>∃(i:Nat) (H':Hp) (keys:Array qQ) (e':Nat),rest=vs.drop i/\i<=n/\AW X ((L,oL)::ad) σ H' s'/\AG H H'/\Cp X ((L,oL)::ad) H' ks/\s'.heap.get? ks=some (seqObj "list" keys e')/\IntsAre keys.toList ((List.range i).map κ)) _ ?_ ?_ vs PUnit.unit ⟨0,H,#[],e,rfl,az _,I,AG.refl _,hk,hks,.nil⟩
 ·intro x rest _ s' hRq;rcases hRq with⟨i,H',keys,e',hr,hi,I',hS,hk',hg,hK⟩;have hlt:i<vs.length:=by apply Decidable.byContradiction;intro z;rw[List.drop_of_length_le (by lia)]at hr;cases hr
  obtain⟨t,ht⟩:∃t,vs[i]?=some (.int (i:Int) t):=by refine byG λGq hGq=>?_;obtain⟨u,hu,t,rt⟩:=(Cb hv).get (i:=i) (x:=.int (i:Int)) (by rw[aQ,HP (by lia)];rfl);refine hGq ?_;clear hGq Gq;exact⟨t,by rw[hu,rt]⟩
  have hx:x=.int (i:Int) t/\rest=vs.drop (i+1):=by
   rw[eS hlt]at hr
   injection hr with h1 h2
   rw[aJ hlt]at ht;exact⟨h1.trans (Option.some.inj ht),h2⟩
  obtain⟨rfl,hr2⟩:=hx;rcases hk' with⟨f0,f1,f2,f3,f4,f5⟩
  have Ip:AW X ((ks,seqObj "list" keys e')::(L,oL)::ad) σ H' s':=I'.pins_of λp hp=>by
   rcases aw.mp hp with z|z
   ·rw[z];exact⟨hg,f0,f1,f2,λv h=>by cases h⟩
   ·exact I'.pin p (aj _ z)
  refine qC (wpAny_attempt (qM (hcall _ H' s' i t (λu s2=>A8 (.int (κ i)) u/\∃H2,AW X ((ks,seqObj "list" keys e')::(L,oL)::ad) σ H2 s2/\AG H H2) Ip hS (by lia) λu H2 s2 ru I2 hS2=>⟨ru,H2,I2,hS2⟩) ?_ λ_ _ z=>z.elim));intro u s2 hRq;rcases hRq with⟨⟨t2,rfl⟩,H2,I2,hS2⟩;rcases I2.pin _ (aj _ ai) with⟨g2,n2,l2,x2,_⟩;have I2':AW X ((L,oL)::ad) σ H2 s2:=I2.pins_of λp hp=>I2.pin p (aj _ (aa _ hp))
  have kl:keys.size=i:=by have z:=hK.length;rw[List.length_map,List.length_range]at z;simpa using z
  refine qC (listUpdate_at g2 rfl (qD ?_) (by rw[kl,sizeLine_eq];lia) (by rw[Array.size_push,kl,sizeLine_eq];lia));obtain⟨e3,g3⟩:=IR g2 (λxs=>xs.push (.int (κ i) t2));refine⟨i+1,H2,_,e3,hr2,by lia,I2'.turned (t':=s2.toks) (λb o hb q=>by rw[cT _ _ _ _ hb];exact q) n2 l2 f3 f4 f5,hS2,⟨n2,l2,x2,f3,f4,f5⟩,g3,?_⟩;rw[Array.toList_push,bP,aZ];exact hK.append (.cons _ _ .nil)
 ·intro _ s' hRq;rcases hRq with⟨i,H',keys,e',hr,hi,I',hS,hk',hg,hK⟩;have:i=n:=by have z:=qP List.length hr;rw[cN,dM]at z;lia
  subst this;exact hR H' s' keys e' I' hS hk' hg hK
theorem LK{f L:qR}{n:Nat}{P:Fin->qS->Prop}{e:Nat}(I:AW X ad σ H s)(hL:Cp X ad H L)(hg:s.heap.get? L=some (seqObj "list" vs.toArray e))(hv:IntsAre vs (FC n))(hn:n<=1000)
  (hcall:∀(pins':List (qR×Obj)) (H':Hp) (s':qS) (x:Nat) (t:Tok) (R':qQ->qS->Prop),AW X pins' σ H' s'->AG H H'->x<n->(∀u H2 s2,A8 (.int (κ x)) u->AW X pins' σ H2 s2->AG H H2->R' u s2)->wpAny (model X.prog X.w) A (call (.ref f) [.int (x:Int) t]) R' (λ_ _=>False) s')
  (hP:∀H' s' out ns e',AW X ad σ H' s'->AG H H'->Cp X ad H' L->s'.heap.get? L=some (seqObj "list" out e')->IntsAre out.toList ns->ns.Perm (FC n)->P (.done (.ret .none)) s'):
  wpAny (model X.prog X.w) A (Builtin.«list.sort» ⟨[.ref L],[(Str.ofString "key",.ref f)]⟩) P E s:=by
 have vl:vs.length=n:=by have:=hv.length;rw[this,CV]
 rw[Im];obtain⟨e1,g1⟩:=IR hg (λ_=>#[]);refine qC (listItems_at hg rfl (qC (listUpdate_at hg rfl (qC (seqEpoch_at g1 rfl (qC (wpAny_newTuple (qC (wpAny_newList (qO ?_))) (by rw[vl,sizeLine_eq];lia))))) (by rw[bV,vl,sizeLine_eq];lia) (by rw[sizeLine_eq];decide))));rcases hL with⟨f0,f1,f2,f3,f4,f5⟩;have lt:=aY hg;obtain⟨h3,hh3⟩:∃h3,h3=((s.heap.update L (Obj.mapSeq λ_=>#[])).push (seqObj "tuple" vs.toArray 0)).push (seqObj "list" #[] 0):=⟨_,rfl⟩;obtain⟨ks,hks⟩:∃ks,ks=((s.heap.update L (Obj.mapSeq λ_=>#[])).push (seqObj "tuple" vs.toArray 0)).objs.size:=⟨_,rfl⟩;have gL:h3.get? L=some (seqObj "list" #[] e1):=by rw[hh3];exact aO _ (aO _ g1)
 have gk:h3.get? ks=some (seqObj "list" #[] 0):=by rw[hh3,hks];exact af _ rfl
 have sk:s.heap.objs.size<=ks:=by rw[hks,size_push',Heap.size_update];exact dW _
 have ko:∀b o,b≠L->s.heap.get? b=some o->h3.get? b=some o:=λb o hb q=>by rw[hh3];exact aO _ (aO _ (by rw[cT _ _ _ _ hb];exact q))
 have I3:AW X ad σ H {s with heap:=h3}:=I.turned (t':=s.toks) ko f0 f1 f3 f4 f5
 have I4:AW X ((L,seqObj "list" #[] e1)::ad) σ H {s with heap:=h3}:=I3.pins_of λp hp=>by
  rcases aw.mp hp with z|z
  ·rw[z];exact⟨gL,f0,f1,f2,λv h=>by cases h⟩
  ·exact I3.pin p (aj _ z)
 have fk:Cp X ((L,seqObj "list" #[] e1)::ad) H ks:=by
  rcases I.fpOk sk (I.hok.fresh sk) with⟨k0,k1,k2,k3,k4,k5⟩;refine⟨k0,k1,k2,k3,k4,λp hp=>?_⟩;rcases aR.mp hp with z|z
  ·exact k5 p (dE _ z)
  ·rcases aw.mp z with y|y
   ·rw[y];exact bF (ag lt sk)
   ·exact k5 p (aj _ y)
 have kne:ks≠L:=λz=>fk.2.2.2.2.2 _ (aj _ ai) z.symm
 show wpAny (model X.prog X.w) A _ P E {s with heap:=((s.heap.update L (Obj.mapSeq λ_=>#[])).push (seqObj "tuple" vs.toArray 0)).push (seqObj "list" #[] 0)};rw[<-hh3,<-hks];refine qC (wpAny_rule (qC ?_));rw[<-Array.forIn_toList];refine WS I4 fk gk hv hn hcall λH5 s5 keys e5 I5 hS5 fk5 gk5 hK=>?_;have kl:keys.size=n:=by have z:=hK.length;rw[List.length_map,List.length_range]at z;simpa using z
 rcases I5.pin _ (aj _ ai) with⟨gL5,nL5,lL5,xL5,_⟩;have I5':AW X ad σ H5 s5:=I5.pins_of λp hp=>I5.pin p (aj _ (aa _ hp))
 rcases fk5 with⟨n5,l5,x5,y5,c5,p5⟩;refine qC (listItems_at gk5 rfl ?_)
 have fin:∀(st:SortSt),(arrOf st).toList.Perm (keys.zip vs.toArray).toList->failedOf st=none->wpAny (model X.prog X.w) A (do
   Builtin.List.listUpdate (.ref ks) λ_=>#[]
   letGo ((arrOf st).map (·.1)).toList (failedOf st).toList
   let touched:=(<-seqEpoch L) != e1
   Builtin.List.listUpdate (.ref L) λ_=>(arrOf st).map (·.2)
   if let some e:=failedOf st then rule "list.sort.comparison-raised";throw e
   if touched then rule "list.sort.modified";raiseError "ValueError" "list modified during sort"
   ret .none) P E s5:=λst hp hf=>by
  have pl:((arrOf st).map (·.2)).toList.Perm vs:=by have z:=hp.map (·.2);rw[Array.toList_zip,List.map_snd_zip (by simp[kl,vl])]at z;rw[Array.toList_map];exact z
  have al:((arrOf st).map (·.2)).size=n:=by have z:=pl.length_eq;rw[vl]at z;simpa using z
  refine qC (listUpdate_at gk5 rfl (qC (wpAny_letGo ?_)) (by rw[kl,sizeLine_eq];lia) (by rw[sizeLine_eq];decide));have I6:AW X ad σ H5 {s5 with heap:=s5.heap.update ks (Obj.mapSeq λ_=>#[])}:=I5'.turned (t':=s5.toks) (λb o hb q=>by rw[cT _ _ _ _ hb];exact q) n5 l5 y5 c5 λp hp=>p5 p ((aR.mp hp).elim (dE _) λz=>aj _ (aa _ z))
  have gL6:(s5.heap.update ks (Obj.mapSeq λ_=>#[])).get? L=some (seqObj "list" #[] e1):=by rw[cT _ _ _ _ (Ne.symm kne)];exact gL5
  refine qC (seqEpoch_at gL6 rfl (qC (listUpdate_at gL6 rfl ?_ (by rw[sizeLine_eq];decide) (by rw[al,sizeLine_eq];lia))));rw[hf];simp only[bne_self_eq_false,Bool.false_eq_true,if_false];obtain⟨e7,g7⟩:=IR gL6 (λ_=>(arrOf st).map (·.2));have I7:AW X ad σ H5 {s5 with heap:=(s5.heap.update ks (Obj.mapSeq λ_=>#[])).update L (Obj.mapSeq λ_=>(arrOf st).map (·.2))}:=I6.turned (t':=s5.toks) (λb o hb q=>by rw[cT _ _ _ _ hb];exact q) nL5 f1 f3 f4 f5
  obtain⟨ns,hns,pn⟩:∃ns,IntsAre ((arrOf st).map (·.2)).toList ns/\ns.Perm (FC n):=by
   obtain⟨zs,pz,vz⟩:=PJ pl (Cb hv);refine⟨zs.map λv=>match v with|.int a=>a|_=>0,?_,?_⟩
   ·refine EJ ?_;rw[ce,show zs.map (V.int∘λv=>match v with|.int a=>a|_=>0)=zs from ?_]
    ·exact vz
    ·refine (bG λv hv=>?_).trans (List.map_id _);obtain⟨a,_,rfl⟩:=ao.mp (pz.mem_iff.mp hv);rfl
   ·have z:=pz.map λv=>match v with|.int a=>a|_=>(0:Int)
    rw[ce]at z;exact z.trans (by rw[show (FC n).map ((λv=>match v with|V.int a=>a|_=>(0:Int))∘V.int)=FC n from (bG λ_ _=>rfl).trans (List.map_id _)])
  exact qD (hP H5 _ _ ns e7 I7 hS5 ⟨nL5,f1,f2,f3,f4,f5⟩ g7 hns pn)
 by_cases h2:vs.toArray.size<2
 ·rw[qF h2,qF h2];refine qC (qD ?_);dsimp only;rw[StateT.run_pure];exact qC (qD (fin _ (.refl _) rfl))
 ·rw[qE h2,qE h2];rw[bV,vl]at h2
  obtain⟨v₁,v₂,rest,hke⟩:∃v₁ v₂ rest,keys.toList=v₁::v₂::rest:=by
   have kl2:keys.toList.length=n:=by rw[av];exact kl
   exact WR (by lia)
  have hka:keys=(v₁::v₂::rest).toArray:=by rw[<-hke]
  have kk:keyKind' keys=pure oneType':=by rw[hka];exact keyKind_ints (by rw[<-hke];exact hK)
  rw[kk];refine qC (qD ?_);obtain⟨a₀,ea⟩:∃a₀,a₀=keys.zip vs.toArray:=⟨_,rfl⟩;rw[<-ea]at fin⊢
  refine qC (qM (Nz (k:=oneType') (a₀:=a₀) (κ:=λx=>numOf x.1) (st:=SortSt.mk' oneType' a₀ #[] 7 none)
   (Q:=λ_ t=>(arrOf t).toList.Perm a₀.toList/\failedOf t=none) (Re λx hx=>?_) ⟨rfl,rfl,rfl,rfl⟩ λys q t X p S=>⟨by rw[X.ar];exact p,X.fl⟩) ?_ λ_ _ e=>e)
  ·rw[ea,Array.toList_zip]at hx;exact hK.all x.1 (eJ (show (x.1,x.2)∈_ from hx)).1
  ·rintro⟨⟨⟩,t⟩ s' ⟨rfl,hp,hf⟩;exact fin t hp hf
end
noncomputable def UE(x:Str):Str:=x++".<locals>."++"<lambda>"
def UF(P:qT)(w:qU)(K:qV)(mg:Str->Option qQ)(base:Heap)(k:Nat)(cl:List (Str×qR))(is:List Nat)(ta tl:TA):TE:=λσ H Q=>ta σ H λvs H1=>∃n:Nat,vs=[.int (n:Int)]/\n<=1000/\tl σ H1 λws H2=>∃(f:qR) (Cz:List V) (κ:Nat->Int),ws=[.ref f]/\At σ is Cz/\YH P w K mg base k f cl Cz κ n H2 /\
 ∀(D:qR) (zs:qW) (H':Hp),AG H2 H'->H2 D=none->H' D=some (.lst (zs.map V.int))->zs.Perm (FC n)->Q (.ref D) H'
theorem PZ{k:Nat}{l v:Expr}{tl:TA}{p1 p2 pos1 pos2 kpos:Pos}{is:List Nat}(hc:X.calm=true)(hx:X.ex=[])(hr:B7 (k+2) X.A)(hg:Gl X "range")(hm:X.mg "range"=none)(hg2:Gl X "sorted")(hm2:X.mg "sorted"=none)(ha:PA X [l] ta)(hk:PK X [⟨some "key",v,kpos⟩] tl)
  (hcl:Paired (λ(i:Nat) (q:Str×qR)=>X.N[i]?=some q.1/\X.env.kindOf q.1=some .cell/\X.env.cells.lookup q.1=some q.2/\X.fn q.1=true) is cl)
  (hs:starEach [l] X.env=[(false,eval l X.env)]:=by rfl)
  (hs1:backTo pos2 (starEach [.Call (.Name "range" p1) [l] [] pos1] X.env)=(false,eval (.Call (.Name "range" p1) [l] [] pos1) X.env)::backTo pos2 (starEach [] X.env):=by rfl) (hs2:(backTo pos2 (starEach [.Call (.Name "range" p1) [l] [] pos1] X.env)).any (·.1)=false:=by rfl) (hall:(backToKw pos2 (keywordEach [⟨some "key",v,kpos⟩] X.env)).all (·.1.isSome)=true:=by rfl) (hks:(backToKw pos2 (keywordEach [⟨some "key",v,kpos⟩] X.env)).filterMap (·.1)=[Str.ofString "key"]:=by rfl)
  (hkw:(backToKw pos2 (keywordEach [⟨some "key",v,kpos⟩] X.env)).any (·.1.isNone)=false:=by rfl):
  PE X (.Call (.Name "sorted" p2) [.Call (.Name "range" p1) [l] [] pos1] [⟨some "key",v,kpos⟩] pos2) (UF X.prog X.w X.K X.mg X.base k cl is ta tl):=by
 intro ad s σ H Q I h;refine wpAny_Call_Name_kw (Co I hg2 hm2 PyProof.Rows.boot_sorted ?_);refine callWith_kw ?_ hs1 hs2 hall hkw;rw[hs1];refine Calls.spliced_cons (Call_ (Co I hg hm boot_range (bX (BS (ha pos1 ad s σ H _ I h) λus s1 z9=>?_) hs rfl)));obtain⟨vs,H1,I1,r1,q1⟩:=z9;rcases q1 with⟨n,e,n1,q⟩;subst e;cases r1 with
 |cons r rr =>
  cases rr;obtain⟨t,rfl⟩:=r;refine call_range_1 (Calls.spliced_nil ?_);have sm:Builtin.Range.small 0 (n:Int) 1=true:=small_one (by lia) (by lia) (by lia) (by lia);obtain⟨ro,hro⟩:∃ro:Obj,ro={cls:=.type "range",data:=.fields #[.int 0 s1.toks,.int (n:Int) t,.int 1 (s1.toks+1)]}:=⟨_,rfl⟩;rw[<-hro];obtain⟨a,ha0⟩:∃a,a=s1.heap.objs.size:=⟨_,rfl⟩;have I1':AW X ad σ H1 {s1 with heap:=s1.heap.push ro,toks:=s1.toks+1+1}:=I1.kept (t':=s1.toks+1+1) λb o z=>aO _ z
  have ga:(s1.heap.push ro).get? a=some ro:=by rw[ha0,hro];exact af _ rfl
  rcases I1.fpOk (fe ha0.symm) (I1.hok.fresh (fe ha0.symm)) with⟨b0,b1,b2,b3,b4,b5⟩
  have Ip:AW X ((a,ro)::ad) σ H1 {s1 with heap:=s1.heap.push ro,toks:=s1.toks+1+1}:=I1'.pins_of λp hp=>by
   rcases aw.mp hp with z|z
   ·rw[z];exact⟨ga,b0,b1,b2,λv h=>by rw[hro]at h;cases h⟩
   ·exact I1'.pin p (aj _ z)
  refine BS (hk pos2 _ _ σ H1 _ Ip q) λws s2 z9=>?_;obtain⟨zs,H2,I2p,rz,f,Cz,κ,hz,hAt,hF,qf⟩:=z9;subst hz;obtain⟨u,rfl,ru⟩:=FH rz;obtain rfl:u=Value.ref f:=ru;rw[hks];obtain⟨ga2,_⟩:=I2p.pin _ (aj _ ai);have I2:AW X ad σ H2 s2:=I2p.pins_of λp hp=>I2p.pin p (aj _ (aa _ hp))
  rw[<-ha0];show wpAny _ _ (call (.builtin "sorted") [.ref a] [(Str.ofString "key",.ref f)]) _ _ _;refine call_function_entry_kw kind_sorted plain_sorted entry_sorted (Gy _ _) ?_;unfold Builtin.«sorted»
  have ir:IsRange s2.heap a 0 (n:Int) 1 s1.toks t (s1.toks+1):=by have z:=ga2;rw[hro]at z;exact z
  refine qC (m:=checkCount "sorted" 1 1 _) (qD (qC (collect_rng (A:=X.A.in1) (I.ok.hd hc) ir sm (n:=n) (by rw[rangeSize_one];split<;>lia) (by lia) λh3 tk fh k3 hacc=>?_)))
  have hv:IntsAre fh.toList (FC n):=EJ (NL (by rw[aH,CV,av,hacc.1]) λi x u e1 e2=>by
   have hi:i<n:=by have z:=(aN.mp e1).1;rw[aH,CV]at z;exact z
   rw[aQ,HP hi]at e1;cases e1;obtain⟨t',z⟩:=hacc.2 i u (by simpa using e2);exact⟨t',by rw[z,bC,dm]⟩)
  refine qC (wpAny_newList ?_ (by rw[av,hacc.1,sizeLine_eq];lia));have gL:(h3.push (seqObj "list" fh.toList.toArray 0)).get? h3.objs.size=some (seqObj "list" fh.toList.toArray 0):=af _ rfl;obtain⟨L,hL0⟩:∃L,L=h3.objs.size:=⟨_,rfl⟩;have I3:AW X ad σ H2 {s2 with heap:=h3,toks:=tk}:=I2.kept (t':=tk) k3;have I4:AW X ad σ H2 {s2 with heap:=h3.push (seqObj "list" fh.toList.toArray 0),toks:=tk}:=I3.kept (t':=tk) λb o z=>aO _ z
  have fL:Cp X ad H2 L:=I3.fpOk (fe hL0.symm) (I3.hok.fresh (fe hL0.symm));have nL:X.s₀.heap.objs.size<=L:=by rw[hL0];exact I3.sz
  rw[<-hL0]at gL;show wpAny _ _ (holding [.ref h3.objs.size] (call (.builtin "list.sort") [.ref h3.objs.size] [(Str.ofString "key",.ref f)]) >>= _) _ _ {s2 with heap:=h3.push (seqObj "list" fh.toList.toArray 0),toks:=tk};rw[<-hL0];rcases hF with⟨fd,ps,sp,F,hb,hsp⟩;refine qC (qO (wpAny_call_entry_kw slot_list_sort ⟨_,gL,rfl⟩ entry_list_sort (LK (A:=X.A.in1.in1) (κ:=κ) (n:=n) I4 fL gL hv n1 (λpins' H' s' x t' R' I' hS hx hR'=>?_) λH' s' out ns e' I' hS fL' gL' hns hp=>⟨_,rfl,qD ⟨_,rfl,?_⟩⟩) (FV _ _)))
  ·have rm:B7 k X.A.in1.in1:=B7.in1 (B7.in1 hr);refine PX F hb rm rfl hcl hAt I' (vs:=[.int (x:Int)]) (.cons ⟨t',rfl⟩ .nil) (Q':=λv HE=>v=.int (κ x)/\AG H2 (JJ cl HE)) (λHC e1 hn ck ho=>hsp x hx H' HC _ hS e1 ck ho hn λHE eE=>⟨rfl,hS.trans (Rn hn (e1.trans eE))⟩) ?_;rintro v u HE s3 rv I3' ⟨rfl,hE⟩;exact hR' u _ s3 rv I3' hE
  ·have z:=hns.length;rw[hp.length_eq,CV,av]at z;have nx:L∉X.ex:=by rw[hx];exact am
   refine⟨.ref L,AV H' L (.lst (ns.map V.int)),I'.adopt fL' nx nL ⟨by rw[aH,hp.length_eq,CV,sizeLine_eq];lia,out.toList,e',Cb hns,by rw[Array.toArray_toList];exact gL'⟩,rfl,qf L ns _ (hS.into fL.1) fL.1 AE hp⟩
noncomputable def Rt:Expr->Option Int
 |.Constant (.int i) _ _=>some i
 |_=>none
noncomputable def GX:List Expr->Option (qW)
 |[]=>some []
 |e::es=>(Rt e).bind λi=>(GX es).map (i::·)
def YI(ns:qW):TA:=λ_ H Q=>Q (ns.map V.int) H
theorem Ru{e:Expr}{i:Int}(h:Rt e=some i):∃j pos,e=.Constant (.int i) j pos:=by
 cases e with
 |Constant c j pos =>
  cases c with
  |int k=>cases h;exact⟨_,_,rfl⟩
  |_=>cases h
 |_=>cases h
theorem UG:∀{ns:qW},GX es=some ns->PA X es (YI ns):=by
 induction es with
 |nil =>
  intro ns h;cases h;exact AC
 |cons e es ih =>
  intro ns h;obtain⟨i,h0,h⟩:=Option.bind_eq_some_iff.mp (show (Rt e).bind _=some ns from h);obtain⟨j,pos,rfl⟩:=Ru h0;obtain⟨ms,h1,rfl⟩:=aq.mp h;intro p ad s σ H Q I hq;exact AA (X:=X) (e:=.Constant (.int i) j pos) (AD (X:=X)) (ih h1) (by rfl) p ad s σ H Q I hq
def WT(ns:qW):TE:=λ_ H Q=>ns.length<=sizeLine/\∀p,H p=none->Q (.ref p) (AV H p (.lst (ns.map V.int)))
theorem UH{ns:qW}(h:GX es=some ns):PE X (.List es pos) (WT ns):=λad s σ H Q I hq =>
 BB (UG h) ad s σ H Q I (by show (ns.map V.int).length<=sizeLine/\_;rw[aH];exact hq)
theorem U8{ss:List Stmt}(h:∃t,Fl X ss t/\t D σ H):∃t,Ic X ss t/\t D σ H:=by obtain⟨t,a,b⟩:=h;exact⟨t,Fl.out a,b⟩
end L2
namespace L2
open PySem PySem.Spec PyProof.Rows RW
variable{G j mf:Nat}{H H':Hp}{M:List (qX)}{X:Cx}{a:qR}{f:qX->Nat}{lf low':Int}{p q:qX}{st:Stmt}{dl tf:qW}
def WU:TS:=λ_ _ _=>False
theorem D1:PS X st WU:=λ_ _ _ _ _ _ h=>h.elim
inductive LL(K:qV)(vs:List V)(H:Hp)(Q:VK)(z3_:XK):Prop
 |m (a:qR) (xs:List V) (g:Int):vs=[.ref a,.int g]->Af K H a xs->(∀x∈xs,Kd H x)->(match Ce g xs with|none=>∀H',AG H H'->Q .non H'|some _=>False)->LL K vs H Q z3_
inductive Go(K:qV)(vs:List V)(H:Hp)(Q:VK)(z3_:XK):Prop
 |m (a:qR) (xs:List V) (g:Int) (m:Nat):vs=[.ref a,.int g,.int ((m:Nat):Int)]->Af K H a xs->(∀x∈xs,Kd H x)->(match Ej g m xs with|none=>∀H',AG H H'->Q .non H'|some _=>False)->Go K vs H Q z3_
inductive JL(K:qV)(vs:List V)(H:Hp)(Q:VK)(z3_:XK):Prop
 |m (a:qR) (xs:List V) (g:Int):vs=[.ref a,.int g]->2<=g->g<=9->Af K H a xs->(∀x∈xs,Kd H x)->(match Ce g xs with|none=>∀ns:qW,xs=ns.map V.int->∀H',AG H H'->Q (.int (A5 g ns)) H'|some _=>False)->JL K vs H Q z3_
inductive N6(K:qV)(vs:List V)(H:Hp)(Q:VK)(z3_:XK):Prop
 |m (r a:qR) (g lo:Int) (dl:qW) (m:Nat) (xs:List V):vs=[.ref r,.ref a]->2<=g->g<=9->Ba H r g lo dl->(dl.length:Int)=g^m->Af K H a xs->(∀x∈xs,Kd H x)->(match Ej g m xs with|none=>∀ns:qW,xs=ns.map V.int->∀H',AG H H'->Q (.int (dl.getD (A5 g ns).toNat 0)) H'|some _=>False)->N6 K vs H Q z3_
inductive N7(vs:List V)(H:Hp)(Q:VK)(z3_:XK):Prop
 |m (n g m:Int):vs=[.int n,.int g,.int m]->2<=g->g<=9->0<=m->m<=300->((n<0\/g^m.toNat<=n)->False)->(0<=n->n<g^m.toNat->∀r H',Qc H H' r (RW.DC g n m.toNat).reverse->Q (.ref r) H')->N7 vs H Q z3_
inductive N8(vs:List V)(H:Hp)(Q:VK)(z3_:XK):Prop
 |m (g lo:Int):vs=[.int g,.int lo]->2<=g->g<=9->Q .non H->N8 vs H Q z3_
inductive Rv(vs:List V)(H:Hp)(Q:VK)(z3_:XK):Prop
 |m (g:Int) (a:qR) (dl:qW) (m:Nat):vs=[.int g,.ref a]->2<=g->g<=9->1<=m->(dl.length:Int)=g^m->g^m<=256->(∀n∈dl,0<=n/\n<g)->H a=some (.lst (dl.map V.int))->(∀H',AG H H'->Q .non H')->Rv vs H Q z3_
inductive Mq(vs:List V)(H:Hp)(Q:VK)(z3_:XK):Prop
 |m (g lo:Int) (a:qR) (dl:qW) (m:Nat):vs=[.int g,.int lo,.ref a]->2<=g->g<=9->1<=m->(dl.length:Int)=g^m->g^m<=256->(∀n∈dl,0<=n/\n<g)->H a=some (.lst (dl.map V.int))->(∀r' H',AG H H'->Ba H' r' g lo dl->Q (.ref r') H')->Mq vs H Q z3_
theorem Mr{g lo:Int}{m:Nat}{Q:VK}{E:XK}(g2:2<=g)(g9:g<=9)(m1:1<=m)(len:(dl.length:Int)=g^m)(sz:g^m<=256)(tb:∀n∈dl,0<=n/\n<g)(hs:H a=some (.lst (dl.map V.int))\/False)
  (q:∀r' H',AG H H'->Ba H' r' g lo dl->Q (.ref r') H'):Mq [.int g,.int lo,.ref a] H Q E:=by
 obtain hs|z:=hs
 ·exact⟨g,lo,a,dl,m,rfl,g2,g9,m1,len,sz,tb,hs,q⟩
 ·exact z.elim
noncomputable def FF(k g s h t:Nat):Nat:=
 if k=1 then h/s*s+t%s
 else if k=2 then (if h=g-1\/t≠g-1 then h else (h+s)%(g-1))
 else if k=4 then (s/16*h+s%16*t)%g
 else if k=5 then (h/4+t/2)%2*4+(h/2+t)%2*2+h%2
 else if h<2 then (h+if t=3 then 1 else 0)%2 else if h<g-1/\t=g-1 then 2+(h-1)%(g-3) else h
noncomputable def Cs(k g s d a:Nat):Nat:=
 if k=3 then
  if s%2=0 then (a/4%2+if a/8%2=s/2/\a/2%2=1-s/2/\a%2=s/2 then 1 else 0)%2
  else (a/2%2+if a/8%2=s/2/\a/4%2=1-s/2/\a%2=s/2 then 1 else 0)%2
 else if d=0 then FF k g s (a/g) (a%g) else FF k g s (a%g) (a/g)
structure Bt where
 k:Nat
 g:Nat
 s:Nat
 d:Nat
 h:Nat
 R:Nat
 e:Nat
 top:Nat
 ch:List (qX)
noncomputable def Ms (n:Nat) (f:Nat->Bool):Bool:=Nat.rec true (λi r=>cond (f i) r false) n
noncomputable def EM (n:Nat) (f:Nat->Bool):Bool:=Nat.rec false (λi r=>cond (f i) true r) n
theorem EN{f:Nat->Bool}:∀{n:Nat},Ms n f=true->∀i,i<n->f i=true
 |n+1,h,i,hi=>by
  have h:cond (f n) (Ms n f) false=true:=h;cases e:f n with
  |false=>rw[e]at h;cases h
  |true =>
   rw[e]at h;rcases Nat.lt_succ_iff_lt_or_eq.mp hi with z|z
   ·exact EN h i z
   ·rw[z];exact e
theorem J4{f:Nat->Bool}:∀{n:Nat},EM n f=true->∃i,i<n/\f i=true
 |0,h=>by cases h
 |n+1,h=>by
  have h:cond (f n) true (EM n f)=true:=h;cases e:f n with
  |true=>exact⟨n,d6 n,e⟩
  |false =>
   rw[e]at h;obtain⟨i,hi,z⟩:=J4 h;exact⟨i,cp hi,z⟩
noncomputable def Bt.tab (c:Bt):Nat:=Nat.rec 0 (λi r=>Nat.lor r (Nat.shiftLeft (Cs c.k c.g c.s c.d i) (4*i))) (c.h*c.g)
noncomputable def Bt.t (c:Bt) (a:Nat):Nat:=Nat.land (Nat.shiftRight c.tab (4*a)) 15
noncomputable def Bt.r (c:Bt) (x y:Nat):Nat:=cond (Nat.beq x y) c.e (Nat.land (Nat.shiftRight c.R (3*(x*c.h+y))) 7)
noncomputable def Bt.on (c:Bt):List (qX)->Bool
 |[]=>true
 |[_]=>true
 |p::q::l=>Nat.beq (p.1%c.h) (q.1/c.g)&&Nat.beq (p.2%c.h) (q.2/c.g)&&c.on (q::l)
noncomputable def Bt.ok (c:Bt):Bool:=
 Ms (c.h*c.g) (λa=>Nat.beq (c.t a) (Cs c.k c.g c.s c.d a)&&Nat.blt (c.t a) c.g) &&
 EM (c.h*c.g) (λa=>!(Nat.beq (c.t a) (c.t (a%c.h))))&&EM (c.h*c.g) (λa=>!(Nat.beq (c.t a) (c.t (a/c.g*c.g)))) &&
 Ms (c.h*c.g) (λa=>Ms (c.h*c.g) λb=>Nat.beq a b||!(Nat.beq (c.t a) (c.t b))||Nat.blt (c.r (a/c.g) (b/c.g)) (c.r (a%c.h) (b%c.h))) &&
 Ms c.h (λx=>Ms c.h λy=>Nat.ble (c.r x y) c.top)&&Nat.ble c.e c.top &&
 c.ch.all (λp=>Nat.blt p.1 (c.h*c.g)&&Nat.blt p.2 (c.h*c.g)&&!(Nat.beq p.1 p.2)&&Nat.beq (c.t p.1) (c.t p.2))&&c.on c.ch
noncomputable def EO:List Bt:=[
 ⟨1,4,2,0,4,0x10002400080,1,2,[]⟩,
 ⟨1,4,2,1,4,0x80400002010,1,2,[]⟩,
 ⟨1,6,2,0,6,0x10400082400402002410002080,1,2,[]⟩,
 ⟨1,6,2,1,6,0x80010000002000400000080010,1,2,[]⟩,
 ⟨1,6,3,0,6,0x2000010000090000080000400,1,2,[]⟩,
 ⟨1,6,3,1,6,0x90010400480000012002080090,1,2,[]⟩,
 ⟨1,8,2,0,8,0x10410002082400410080082410010082002410400082080,1,2,[]⟩,
 ⟨1,8,2,1,8,0x80000400000002000010000000080000400000002000010,1,2,[]⟩,
 ⟨1,8,4,0,8,0x400000080000010000002400000080000010000002000,1,2,[]⟩,
 ⟨1,8,4,1,8,0x92000412000482000490000000092000412000482000490,1,2,[]⟩,
 ⟨1,9,3,0,9,0x10080000402000010090000400400010010000480400002010000080400,1,2,[]⟩,
 ⟨1,9,3,1,9,0x480000410000090000000012000010400002400000000480000410000090,1,2,[]⟩,
 ⟨2,3,1,0,3,0x490288,0,2,[]⟩,
 ⟨2,3,1,1,3,0x208,2,2,[]⟩,
 ⟨2,4,1,0,4,0x92409441448,0,2,[]⟩,
 ⟨2,4,1,1,4,0x9041048,2,2,[]⟩,
 ⟨2,4,2,0,4,0x92409441448,0,2,[]⟩,
 ⟨2,4,2,1,4,0x9041048,2,2,[]⟩,
 ⟨2,5,1,0,5,0x49240928825120a248,0,2,[]⟩,
 ⟨2,5,1,1,5,0x8208200208208,2,2,[]⟩,
 ⟨2,5,2,0,5,0x49240928825120a248,0,2,[]⟩,
 ⟨2,5,2,1,5,0x1000041000040,2,2,[]⟩,
 ⟨2,5,3,0,5,0x49240928825120a248,0,2,[]⟩,
 ⟨2,5,3,1,5,0x8208200208208,2,2,[]⟩,
 ⟨2,6,1,0,6,0x92490249441251209449051248,0,2,[]⟩,
 ⟨2,6,1,1,6,0x201041000208001041008,2,2,[]⟩,
 ⟨2,6,2,0,6,0x92490249441251209449051248,0,2,[]⟩,
 ⟨2,6,2,1,6,0x48000241001048000240,2,2,[]⟩,
 ⟨2,6,3,0,6,0x92490249441251209449051248,0,2,[]⟩,
 ⟨2,6,3,1,6,0x48000241001048000240,2,2,[]⟩,
 ⟨2,6,4,0,6,0x92490249441251209449051248,0,2,[]⟩,
 ⟨2,6,4,1,6,0x201041000208001041008,2,2,[]⟩,
 ⟨2,7,1,0,7,0x49249024928824944824a248251248289248,0,2,[]⟩,
 ⟨2,7,1,1,7,0x200208200008200008200008208008,2,2,[]⟩,
 ⟨2,7,2,0,7,0x49249024928824944824a248251248289248,0,2,[]⟩,
 ⟨2,7,2,1,7,0x41000041040040040041040001040,2,2,[]⟩,
 ⟨2,7,3,0,7,0x49249024928824944824a248251248289248,0,2,[]⟩,
 ⟨2,7,3,1,7,0x8000008000008200000200000200,2,2,[]⟩,
 ⟨2,7,4,0,7,0x49249024928824944824a248251248289248,0,2,[]⟩,
 ⟨2,7,4,1,7,0x41000041040040040041040001040,2,2,[]⟩,
 ⟨2,7,5,0,7,0x49249024928824944824a248251248289248,0,2,[]⟩,
 ⟨2,7,5,1,7,0x200208200008200008200008208008,2,2,[]⟩,
 ⟨4,9,19,0,9,0x48a45241229149048a44a41229229048a48a41225229049148a412452290,0,2,[]⟩,
 ⟨4,9,19,1,9,0x8040000201000008048000200200008008000240200001008000040200,2,2,[]⟩,
 ⟨4,9,22,0,9,0x48a45241229149048a44a41229229048a48a41225229049148a412452290,0,2,[]⟩,
 ⟨4,9,22,1,9,0x8040000201000008048000200200008008000240200001008000040200,2,2,[]⟩,
 ⟨4,9,35,0,9,0x48a45241229149048a44a41229229048a48a41225229049148a412452290,0,2,[]⟩,
 ⟨4,9,35,1,9,0x8040000201000008048000200200008008000240200001008000040200,2,2,[]⟩,
 ⟨4,9,38,0,9,0x48a45241229149048a44a41229229048a48a41225229049148a412452290,0,2,[]⟩,
 ⟨4,9,38,1,9,0x8040000201000008048000200200008008000240200001008000040200,2,2,[]⟩,
 ⟨4,9,67,0,9,0x48a45241229149048a44a41229229048a48a41225229049148a412452290,0,2,[]⟩,
 ⟨4,9,67,1,9,0x8040000201000008048000200200008008000240200001008000040200,2,2,[]⟩,
 ⟨4,9,70,0,9,0x48a45241229149048a44a41229229048a48a41225229049148a412452290,0,2,[]⟩,
 ⟨4,9,70,1,9,0x8040000201000008048000200200008008000240200001008000040200,2,2,[]⟩,
 ⟨4,9,83,0,9,0x48a45241229149048a44a41229229048a48a41225229049148a412452290,0,2,[]⟩,
 ⟨4,9,83,1,9,0x8040000201000008048000200200008008000240200001008000040200,2,2,[]⟩,
 ⟨4,9,86,0,9,0x48a45241229149048a44a41229229048a48a41225229049148a412452290,0,2,[]⟩,
 ⟨4,9,86,1,9,0x8040000201000008048000200200008008000240200001008000040200,2,2,[]⟩,
 ⟨4,9,115,0,9,0x48a45241229149048a44a41229229048a48a41225229049148a412452290,0,2,[]⟩,
 ⟨4,9,115,1,9,0x8040000201000008048000200200008008000240200001008000040200,2,2,[]⟩,
 ⟨4,9,118,0,9,0x48a45241229149048a44a41229229048a48a41225229049148a412452290,0,2,[]⟩,
 ⟨4,9,118,1,9,0x8040000201000008048000200200008008000240200001008000040200,2,2,[]⟩,
 ⟨4,9,131,0,9,0x48a45241229149048a44a41229229048a48a41225229049148a412452290,0,2,[]⟩,
 ⟨4,9,131,1,9,0x8040000201000008048000200200008008000240200001008000040200,2,2,[]⟩,
 ⟨4,9,134,0,9,0x48a45241229149048a44a41229229048a48a41225229049148a412452290,0,2,[]⟩,
 ⟨4,9,134,1,9,0x8040000201000008048000200200008008000240200001008000040200,2,2,[]⟩,
 ⟨4,8,18,0,8,0xd32d361a65a4c34cb6986992d30d365a61a4cb4c3699698,0,3,[(0,4),(0,34),(0,19)]⟩,
 ⟨4,8,18,1,8,0x8408001081200210040042408008081001210200042040,3,3,[(0,14),(0,52),(0,32)]⟩,
 ⟨4,8,20,0,8,0x8a28a41145128228a45045128a08a45141128a282451450,0,2,[]⟩,
 ⟨4,8,20,1,8,0x200000040000008000001200000040000008000001000,2,2,[]⟩,
 ⟨4,8,22,0,8,0xd32d361a65a4c34cb6986992d30d365a61a4cb4c3699698,0,3,[(0,4),(0,34),(0,17)]⟩,
 ⟨4,8,22,1,8,0x8408001081200210040042408008081001210200042040,3,3,[(0,10),(0,20),(0,32)]⟩,
 ⟨4,8,50,0,8,0xd32d361a65a4c34cb6986992d30d365a61a4cb4c3699698,0,3,[(0,4),(0,34),(0,17)]⟩,
 ⟨4,8,50,1,8,0x8408001081200210040042408008081001210200042040,3,3,[(0,10),(0,20),(0,32)]⟩,
 ⟨4,8,52,0,8,0x8a28a41145128228a45045128a08a45141128a282451450,0,2,[]⟩,
 ⟨4,8,52,1,8,0x200000040000008000001200000040000008000001000,2,2,[]⟩,
 ⟨4,8,54,0,8,0xd32d361a65a4c34cb6986992d30d365a61a4cb4c3699698,0,3,[(0,4),(0,34),(0,19)]⟩,
 ⟨4,8,54,1,8,0x8408001081200210040042408008081001210200042040,3,3,[(0,14),(0,52),(0,32)]⟩,
 ⟨4,8,82,0,8,0xd32d361a65a4c34cb6986992d30d365a61a4cb4c3699698,0,3,[(0,4),(0,34),(0,19)]⟩,
 ⟨4,8,82,1,8,0x8408001081200210040042408008081001210200042040,3,3,[(0,14),(0,52),(0,32)]⟩,
 ⟨4,8,84,0,8,0x8a28a41145128228a45045128a08a45141128a282451450,0,2,[]⟩,
 ⟨4,8,84,1,8,0x200000040000008000001200000040000008000001000,2,2,[]⟩,
 ⟨4,8,86,0,8,0xd32d361a65a4c34cb6986992d30d365a61a4cb4c3699698,0,3,[(0,4),(0,34),(0,17)]⟩,
 ⟨4,8,86,1,8,0x8408001081200210040042408008081001210200042040,3,3,[(0,10),(0,20),(0,32)]⟩,
 ⟨4,8,114,0,8,0xd32d361a65a4c34cb6986992d30d365a61a4cb4c3699698,0,3,[(0,4),(0,34),(0,17)]⟩,
 ⟨4,8,114,1,8,0x8408001081200210040042408008081001210200042040,3,3,[(0,10),(0,20),(0,32)]⟩,
 ⟨4,8,116,0,8,0x8a28a41145128228a45045128a08a45141128a282451450,0,2,[]⟩,
 ⟨4,8,116,1,8,0x200000040000008000001200000040000008000001000,2,2,[]⟩,
 ⟨4,8,118,0,8,0xd32d361a65a4c34cb6986992d30d365a61a4cb4c3699698,0,3,[(0,4),(0,34),(0,19)]⟩,
 ⟨4,8,118,1,8,0x8408001081200210040042408008081001210200042040,3,3,[(0,14),(0,52),(0,32)]⟩,
 ⟨4,4,18,0,4,0x8a411282450,0,2,[]⟩,
 ⟨4,4,18,1,4,0x8001200040,2,2,[]⟩,
 ⟨4,4,50,0,4,0x8a411282450,0,2,[]⟩,
 ⟨4,4,50,1,4,0x8001200040,2,2,[]⟩,
 ⟨5,8,0,0,8,0xd32d361a65a4c34cb6986992d30d365a61a4cb4c3699698,0,3,[(0,4),(0,34),(0,17)]⟩,
 ⟨5,8,0,1,8,0x8408001081200210040042408008081001210200042040,3,3,[(0,10),(0,20),(0,32)]⟩,
 ⟨6,5,0,0,5,0x6db6124d025a20b448,0,3,[]⟩,
 ⟨6,5,0,1,5,0x8008000010010,3,3,[]⟩,
 ⟨6,6,0,0,6,0xdb6d8449682499409651059448,0,3,[]⟩,
 ⟨6,6,0,1,6,0x240041001200000080010,3,3,[]⟩,
 ⟨6,7,0,0,7,0x6db6d82892c84496904932502592882c9448,0,3,[(0,1),(2,10),(20,21)]⟩,
 ⟨6,7,0,1,7,0x208008200008200208000000400010,3,3,[(3,44),(21,15),(0,7)]⟩,
 ⟨3,2,0,0,8,0xf6140636a6dd83180d981801400e4a76624140903140918,2,6,[]⟩,
 ⟨3,2,1,0,8,0x146240a3225218501bca825b241140241a0009b00509b028,4,6,[]⟩,
 ⟨3,2,2,0,8,0xe4028624028903d8d9180280300f6030636b4dd83028d98,2,6,[]⟩,
 ⟨3,2,3,0,8,0x1406d0a006d00052090282096c91566c0a30489585009c28,4,6,[]⟩]
theorem Rw:∀c∈EO,c.ok=true:=by decide +kernel
structure U9(g h:Nat)(T:Nat->Nat)(top:Nat):Prop where
 lt:∀a,a<h*g->T a<g
 first:∃a,a<h*g/\T a≠T (a%h)
 last:∃a,a<h*g/\T a≠T (a/g*g)
 rise:∃rk:qX->Nat,(∀a b,a<h*g->b<h*g->a≠b->T a=T b->rk (B5 (a/g,b/g))<rk (B5 (a%h,b%h)))/\∀p,rk p<=top
theorem Bt.fam{c:Bt}(hc:c.ok=true)(h0:0<c.h):U9 c.g c.h (Cs c.k c.g c.s c.d) c.top:=by
 unfold Bt.ok at hc;simp only[Bool.and_eq_true]at hc;obtain⟨⟨⟨⟨⟨⟨⟨c1,c2⟩,c3⟩,c4⟩,c5⟩,c6⟩,c7⟩,c8⟩:=hc
 have eT:∀a,a<c.h*c.g->c.t a=Cs c.k c.g c.s c.d a/\c.t a<c.g:=λa ha=>by have z:=EN c1 a ha;rw[cg]at z;exact⟨Nat.eq_of_beq_eq_true z.1,by simpa [Nat.blt_eq] using z.2⟩
 have nb:∀{x y:Nat},(!(Nat.beq x y))=true->x≠y:=λ{x y} z e=>by rw[e,Nat.beq_refl]at z;cases z
 refine⟨λa ha=>by rw[<-(eT a ha).1];exact (eT a ha).2,?_,?_,?_⟩
 ·obtain⟨a,ha,z⟩:=J4 c2;exact⟨a,ha,by rw[<-(eT a ha).1,<-(eT (a%c.h) (dR (Nat.mod_le ..) ha)).1];exact nb z⟩
 ·obtain⟨a,ha,z⟩:=J4 c3;exact⟨a,ha,by rw[<-(eT a ha).1,<-(eT (a/c.g*c.g) (dR (Nat.div_mul_le_self ..) ha)).1];exact nb z⟩
 ·have rr:∀x y,x<c.h->y<c.h->(λp:Nat×Nat=>if p.1<c.h/\p.2<c.h then c.r p.1 p.2 else 0) (B5 (x,y))=c.r x y:=λx y hx hy=>by
   by_cases e:x=y
   ·subst e;rw[CL];show (if 0<c.h/\0<c.h then c.r 0 0 else 0)=_;rw[qF ⟨h0,h0⟩];unfold Bt.r;rw[Nat.beq_refl,Nat.beq_refl];rfl
   ·have:B5 (x,y)=(x,y):=qE e;rw[this];exact qF ⟨hx,hy⟩
  refine⟨λp=>if p.1<c.h/\p.2<c.h then c.r p.1 p.2 else 0,λa b ha hb ne e=>?_,λp=>?_⟩
  ·have dv:∀{a:Nat},a<c.h*c.g->a/c.g<c.h:=λ{a} ha=>bj (by rw[br];exact ha)
   rw[rr _ _ (dv ha) (dv hb),rr _ _ (bT _ h0) (bT _ h0)];have z:=EN (EN c4 a ha) b hb;rw[Bool.or_eq_true,Bool.or_eq_true]at z;rcases z with (z|z)|z
   ·exact qG (cF z) ne
   ·exact qG (by rw[(eT a ha).1,(eT b hb).1];exact e) (nb z)
   ·simpa [Nat.blt_eq] using z
  ·show (if p.1<c.h/\p.2<c.h then c.r p.1 p.2 else 0)<=c.top;split
   ·rename_i hp
    exact Nat.le_of_ble_eq_true (EN (EN c5 p.1 hp.1) p.2 hp.2)
   ·exact az _
def UI(g h:Nat)(T:Nat->Nat)(n:Nat)(al bl:Nat->Nat):Prop:=(∀i,i<n->al i<h*g/\bl i<h*g/\al i≠bl i/\T (al i)=T (bl i))/\∀i,i+1<n->al i%h=al (i+1)/g/\bl i%h=bl (i+1)/g
theorem Bt.way{c:Bt}(hc:c.ok=true):UI c.g c.h (Cs c.k c.g c.s c.d) c.ch.length (λi=>(c.ch.getD i (0,0)).1) (λi=>(c.ch.getD i (0,0)).2):=by
 unfold Bt.ok at hc;simp only[Bool.and_eq_true]at hc;rcases hc with⟨⟨⟨⟨⟨⟨⟨c1,c2⟩,c3⟩,c4⟩,c5⟩,c6⟩,c7⟩,c8⟩
 have eT:∀a,a<c.h*c.g->c.t a=Cs c.k c.g c.s c.d a:=λa ha=>by have z:=EN c1 a ha;rw[cg]at z;exact cF z.1
 refine⟨λi hi=>?_,λi hi=>?_⟩
 ·have m:c.ch.getD i (0,0)∈c.ch:=by rw[aK,aJ hi];exact bS hi
  have z:=eg.mp c7 _ m;simp only[Bool.and_eq_true]at z;rcases z with⟨⟨⟨z1,z2⟩,z3⟩,z4⟩;have l1:(c.ch.getD i (0,0)).1<c.h*c.g:=by simpa [Nat.blt_eq] using z1
  have l2:(c.ch.getD i (0,0)).2<c.h*c.g:=by simpa [Nat.blt_eq] using z2
  exact⟨l1,l2,(λ(e:(c.ch.getD i (0,0)).1=(c.ch.getD i (0,0)).2)=>by rw[e,Nat.beq_refl]at z3;cases z3),by rw[<-eT _ l1,<-eT _ l2];exact cF z4⟩
 ·have go:∀(l:List (qX)),c.on l=true->∀i,i+1<l.length->(l.getD i (0,0)).1%c.h=(l.getD (i+1) (0,0)).1/c.g/\(l.getD i (0,0)).2%c.h=(l.getD (i+1) (0,0)).2/c.g:=by
   intro l
   induction l with
   |nil=>intro _ i hi;simp at hi
   |cons p l ih =>
    intro h i hi;cases l with
    |nil=>simp at hi
    |cons q l =>
     have h:(Nat.beq (p.1%c.h) (q.1/c.g)&&Nat.beq (p.2%c.h) (q.2/c.g)&&c.on (q::l))=true:=h;simp only[Bool.and_eq_true]at h;cases i with
     |zero=>exact⟨cF h.1.1,cF h.1.2⟩
     |succ i=>exact ih h.2 i (by simpa using hi)
  exact go c.ch c8 i hi
structure Mt(g:Nat)(ν:Nat->Int):Prop where
 lt:∀x,x<g->0<=ν x/\ν x<(g:Int)
 inj:∀x y,x<g->y<g->ν x=ν y->x=y
noncomputable def BU(n:Nat)(ν:Nat->Int)(T:Nat->Nat):qW:=(List.range n).map λa=>ν (T a)
theorem CM(n:Nat)(ν:Nat->Int)(T:Nat->Nat):(BU n ν T).length=n:=by unfold BU;rw[List.length_map,List.length_range]
variable{ν:Nat->Int}
theorem Bw{n:Nat}{T:Nat->Nat}{a:Nat}(h:a<n):(BU n ν T).getD a 0=ν (T a):=Az h
section
variable{g h:Nat}{T:Nat->Nat}{top:Nat}
theorem UJ(f:∀a,a<h*g->T a<g)(n:Mt g ν):∀x∈BU (h*g) ν T,0<=x/\x<(g:Int):=λx hx=>by unfold BU at hx;obtain⟨a,ha,rfl⟩:=ao.mp hx;exact n.lt _ (f a (ak.mp ha))
theorem U9.stp(f:U9 g h T top)(n:Mt g ν)(g0:0<g)(s:Ie g ((BU (h*g) ν T).length/g) (BU (h*g) ν T) p q):∃a b,a<h*g/\b<h*g/\a≠b/\T a=T b/\p=B5 (a/g,b/g)/\q=B5 (a%h,b%h):=by
 have hh:(BU (h*g) ν T).length/g=h:=by rw[CM,fC _ g0]
 rw[hh]at s;rcases s with⟨a,b,ha,hb,ne,e,h1,h2⟩;rw[Bw ha,Bw hb]at e;exact⟨a,b,ha,hb,ne,n.inj _ _ (f.lt a ha) (f.lt b hb) e,h1,h2⟩
theorem U9.rises(f:U9 g h T top)(n:Mt g ν)(g0:0<g):∃rk:qX->Nat,FE g ((BU (h*g) ν T).length/g) (BU (h*g) ν T) rk/\∀p,rk p<=top:=by obtain⟨rk,h1,h2⟩:=f.rise;refine⟨rk,λp q s=>?_,h2⟩;obtain⟨a,b,ha,hb,ne,e,rfl,rfl⟩:=f.stp n g0 s;exact h1 a b ha hb ne e
theorem UI.stps{k:Nat}{al bl:Nat->Nat}(w:UI g h T k al bl)(g0:0<g)(i:Nat)(hi:i<k):Ie g ((BU (h*g) ν T).length/g) (BU (h*g) ν T) (B5 (al i/g,bl i/g)) (B5 (al i%h,bl i%h)):=by
 have hh:(BU (h*g) ν T).length/g=h:=by rw[CM,fC _ g0]
 rw[hh];rcases w.1 i hi with⟨h1,h2,h3,h4⟩;exact⟨al i,bl i,h1,h2,h3,by rw[Bw h1,Bw h2,h4],rfl,rfl⟩
end
structure EQ(g:Int)(dl:qW)(m:Nat)(tw:Bool)(d:Int)(tf:qW)(mf top:Nat):Prop where
 g2:2<=g
 g9:g<=9
 m1:1<=m
 m4:m<=4
 m3:3<=g->m<=2
 len:(dl.length:Int)=g^m
 sz:g^m<=256
 nd:g^(m-1)<=9
 tb:∀n∈dl,0<=n/\n<g
 tfl:(tf.length:Int)=g^mf
 mf2:2<=mf
 al:∀lo,CO g (lo+d) tf mf lo dl m
 fr:∀lo lo' tab' m',(tab'.length:Int)=g^m'->CO g lo dl m lo' tab' m'->BE g lo' tab' m' (lo+d) tf mf
 sm:g^(mf-1)<=9
 rise:∃rk:qX->Nat,FE g.toNat (tf.length/g.toNat) tf rk/\∀p,rk p<=top
 thin:tw=false->g^(top+2-mf)<=256/\mf<=top+2
 wide:tw=true->∃(q:Nat->qX) (n:Nat),(q 0=(0,0)\/q n=(0,0))/\(∀i,i<n->Ie g.toNat (tf.length/g.toNat) tf (q i) (q (i+1)))/\256<g^(n+2-mf)/\mf<=n+2
theorem J5{g:Int}{w:Int}{k k':Nat}(hk:k<dl.length)(e:(k:Int)-(k:Int)/w%g*w=(k':Int))(ne:dl.getD k 0≠dl.getD k' 0):BI g dl w=true:=by unfold BI;rw[List.any_eq_true];refine⟨k,ak.mpr hk,?_⟩;rw[e,aW,qI ne];rfl
section
variable{h:Nat}{T:Nat->Nat}{top:Nat}
theorem U9.cnt(f:U9 G h T top)(n:Mt G ν)(G2:2<=G)(h0:0<h):BI (G:Int) (BU (h*G) ν T) (h:Int)=true/\BI (G:Int) (BU (h*G) ν T) 1=true:=by
 refine⟨?_,?_⟩
 ·obtain⟨a,ha,ne⟩:=f.first;have hb:a%h<h*G:=dR (Nat.mod_le ..) ha;refine J5 (k:=a) (k':=a%h) (by rw[CM];exact ha) ?_ (by rw[Bw ha,Bw hb];exact λz=>ne (n.inj _ _ (f.lt a ha) (f.lt _ hb) z));have e1:(a:Int)/(h:Int)%(G:Int)*(h:Int)=((a/h*h:Nat):Int):=by rw[<-cO,<-bM,cC (bj ha),cG]
  rw[e1];have:=cR a h;rw[br]at this;lia
 ·obtain⟨a,ha,ne⟩:=f.last;have hb:a/G*G<h*G:=dR (Nat.div_mul_le_self ..) ha;refine J5 (k:=a) (k':=a/G*G) (by rw[CM];exact ha) ?_ (by rw[Bw ha,Bw hb];exact λz=>ne (n.inj _ _ (f.lt a ha) (f.lt _ hb) z));have e1:(a:Int)/1%(G:Int)*1=((a%G:Nat):Int):=by rw[Int.ediv_one,dm,bM]
  rw[e1];have:=cR a G;rw[br]at this;lia
theorem Rx(f:U9 G h T top)(n:Mt G ν)(G2:2<=G)(G9:G<=9){m:Nat}(m2:2<=m)(m4:m<=4)(m3:3<=G->m<=2)(hh:h=G^(m-1))(h9:h<=9){tw:Bool}(thin:tw=false->(G:Int)^(top+2-m)<=256/\m<=top+2)
  (wide:tw=true->∃al bl k,UI G h T k al bl/\0<k/\(al 0/G=bl 0/G\/al (k-1)%h=bl (k-1)%h)/\256<(G:Int)^(k+2-m)/\m<=k+2):
  EQ (G:Int) (BU (h*G) ν T) m tw 0 (BU (h*G) ν T) m top:=by
 have hp:h*G=G^m:=by rw[hh,<-fM];congr 1;lia
 have h0:0<h:=by rw[hh];exact Nat.pow_pos (by lia)
 have len:((BU (h*G) ν T).length:Int)=(G:Int)^m:=by rw[CM,hp,cc]
 have hi:(G:Int)^(m-1)=(h:Int):=by rw[hh,cc]
 have g2:(2:Int)<=(G:Int):=by lia
 obtain⟨c0,c1⟩:=f.cnt n G2 h0;rw[<-hi]at c0;have gn:(G:Int).toNat=G:=aW G;refine⟨g2,by lia,by lia,m4,λz=>m3 (by lia),len,?_,by rw[hi];lia,UJ f.lt n,len,m2,λlo x hx=>by rw[dH],λlo lo' tab' m' hl' al=>by rw[dH];exact MT g2 hl' len al m2 c0 c1,by rw[hi];lia,?_,thin,λz=>?_⟩
 ·have:=cS h9 G9;rw[<-cc,<-hp];lia
 ·rw[gn];exact f.rises n (by lia)
 ·rcases wide z with⟨al,bl,k,w,k0,ends,big,le⟩;rw[gn];have st:=λi hi=>w.stps (ν:=ν) (show 0<G by lia) i hi
  refine⟨λi=>if i<k then B5 (al i/G,bl i/G) else B5 (al (k-1)%h,bl (k-1)%h),k,?_,λi hi=>?_,big,le⟩
  ·rcases ends with z|z
   ·left
    show (if 0<k then B5 (al 0/G,bl 0/G) else _)=_;rw[qF k0,z,CL]
   ·right
    show (if k<k then _ else B5 (al (k-1)%h,bl (k-1)%h))=_;rw[qE (bH _),z,CL]
  ·show Ie _ _ _ (if i<k then B5 (al i/G,bl i/G) else _) (if i+1<k then B5 (al (i+1)/G,bl (i+1)/G) else B5 (al (k-1)%h,bl (k-1)%h));rw[qF hi]
   by_cases y:i+1<k
   ·rw[qF y];have e:=w.2 i y;rw[<-e.1,<-e.2];exact st i hi
   ·rw[qE y,show k-1=i by lia];exact st i hi
theorem Ry(n:Mt G ν)(G2:2<=G)(x:Int):∃rk:qX->Nat,FE G ((Dn (G:Int) x (BU G ν id) 1 x 2).length/G) (Dn (G:Int) x (BU G ν id) 1 x 2) rk/\∀p,rk p<=1:=by
 have e:=MU (g:=(G:Int)) (by lia) (G:=G) rfl x (BU G ν id);rw[e,aH,bI,fC _ (by lia)];refine⟨λp=>if p=(0,0) then 0 else 1,?_,λp=>by dsimp only;split<;>lia⟩;rintro p q ⟨a,b,ha,hb,ne,ee,rfl,rfl⟩;rw[Az ha,Az hb]at ee;have da:a/G<G:=bj ha;have db:b/G<G:=bj hb;rw[Bw da,Bw db]at ee;have e2:a/G=b/G:=n.inj _ _ da db ee;have e3:a%G≠b%G:=λz=>ne (by rw[<-cR a G,<-cR b G,e2,z])
 rw[e2,CL];show (if ((0,0):qX)=(0,0) then 0 else 1)<(if B5 (a%G,b%G)=(0,0) then 0 else 1);rw[qF rfl,show B5 (a%G,b%G)=(a%G,b%G) from qE e3,qE (λz=>e3 (by injection z with z1 z2;lia))];exact Nat.zero_lt_one
theorem IS(n:Mt G ν)(G2:2<=G)(G9:G<=9){m:Nat}(m1:1<=m)(m2:m<=2)(len:(dl.length:Int)=(G:Int)^m)(tb:∀n∈dl,0<=n/\n<(G:Int)){d:Int}(al:∀lo,CO (G:Int) (lo+d) (BU G ν id) 1 lo dl m):EQ (G:Int) dl m false d (Dn (G:Int) 0 (BU G ν id) 1 0 2) 2 1:=by
 have g2:(2:Int)<=(G:Int):=by lia
 have l1:((BU G ν id).length:Int)=(G:Int)^1:=by rw[CM,bA,bO,cI]
 have bw:∀x,Dn (G:Int) x (BU G ν id) 1 x 2=Dn (G:Int) 0 (BU G ν id) 1 0 2:=λx=>by rw[MU g2 rfl,MU g2 rfl]
 have p2:(G:Int)^2=((G*G:Nat):Int):=by rw[show (2:Nat)=0+1+1 from rfl,bA,bA,bO,cI,cG]
 have p1:(G:Int)^1=(G:Int):=by rw[bA,bO,cI]
 have gg:=cS G9 G9
 have c1:BI (G:Int) (BU G ν id) 1=true:=by refine J5 (k:=1) (k':=0) (by rw[CM];lia) ?_ (by rw[Bw (by lia),Bw (by lia)];exact λz=>qG (n.inj 1 0 (by lia) (by lia) z) (by decide));rw[Int.ediv_one,dm,bZ (by decide) (by lia)];rfl
 have tfl:((Dn (G:Int) 0 (BU G ν id) 1 0 2).length:Int)=(G:Int)^2:=BN g2 ..;have mm:m=1\/m=2:=by lia
 refine⟨g2,by lia,m1,by lia,λ_=>m2,len,?_,?_,tb,tfl,aP _,λlo=>?_,λlo lo' tab' m' hl' al'=>?_,?_,?_,λ_=>?_,λz=>nomatch z⟩
 ·rcases mm with rfl|rfl
  ·rw[p1];lia
  ·rw[p2];lia
 ·rcases mm with rfl|rfl
  ·rw[dU,bO];decide
  ·rw[show 2-1=1 from rfl,p1];lia
 ·intro x hx;rw[<-bw (lo+d),Ht g2 l1 (cB _) (by lia) hx];exact al lo x hx
 ·rw[<-bw (lo+d)];exact O0 g2 hl' l1 (λx hx=>(al lo x hx).trans (al' x hx)) c1
 ·rw[show 2-1=1 from rfl,p1];lia
 ·rw[aW];exact Ry n G2 0
 ·rw[show 1+2-2=1 from rfl,p1];lia
end
theorem UK(hl:dl.length=dl.length/G*G)(s:Int):CY G dl [s]=Ai dl.length λa=>DN (decide (dl.getD a 0=s)) 1:=by have e:=JB (dl.length/G) G (λa=>DN (decide (dl.getD a 0=s)) 1);rw[<-hl]at e;rw[e];rfl
theorem JM{g:Int}(hg:2<=g){lo:Int}{m:Nat}(hl:(dl.length:Int)=g^m)(m1:1<=m)(fw:BE g lo dl m lf tf mf)(tb:∀n∈tf,0<=n/\n<g){rk:qX->Nat}(hr:FE g.toNat (tf.length/g.toNat) tf rk)(r:qW)(hb:∀n∈r,0<=n/\n<g):1<=CY g.toNat dl r:=by
 obtain⟨al,tfl⟩:=fw.alike hg hl;have mf2:=fw.two;have hG:(g.toNat:Int)=g:=by lia
 have hd:=BC hg tfl (show 1<=mf by lia);have hp:=RW.Ah hg (mf-1);have z:=K2 (G:=g.toNat) (by lia) (by rw[hG];exact tb) hr (by lia) (c:=r) (by rw[hG];exact hb);exact LI hg tfl (by lia) hl m1 al z
theorem GY{g:Int}(hg:2<=g){lo:Int}{m:Nat}(tb:∀n∈dl,0<=n/\n<g)(fw:BE g lo dl m lf tf mf):∀n∈tf,0<=n/\n<g:=by
 obtain⟨low,M,_,_,⟨_,_,rfl⟩|⟨_,_,rfl⟩⟩:=fw
 ·exact Hh hg _ (Hh hg _ tb _ _ _) _ _ _
 ·exact Hh hg _ tb _ _ _
theorem LM{g:Int}(hg:2<=g){lo:Int}{m:Nat}(hl:(dl.length:Int)=g^m)(m1:1<=m)(tb:∀n∈dl,0<=n/\n<g)(fw:BE g lo dl m lf tf mf){rk:qX->Nat}(hr:FE g.toNat (tf.length/g.toNat) tf rk)
  {at':Nat} (ha:at'<dl.length) {v:Int} (hv:0<=v/\v<g) (ne:v≠dl.getD at' 0) {lo' lf':Int} {tf':qW} {mf':Nat} (fw':BE g lo' (dl.set at' v) m lf' tf' mf'):∀rk,¬FE g.toNat (tf'.length/g.toNat) tf' rk:=λrk' hr'=>by
 have hl':((dl.set at' v).length:Int)=g^m:=by rw[dJ];exact hl
 have tb':∀n∈dl.set at' v,0<=n/\n<g:=λn hn=>(eU hn).elim (tb n) λe=>by rw[e];exact hv
 have hG:(g.toNat:Int)=g:=by lia
 have bal:∀{dl:qW},(dl.length:Int)=g^m->(∀n∈dl,0<=n/\n<g)->(∀r:qW,(∀n∈r,0<=n/\n<g)->1<=CY g.toNat dl r)->∀s:Int,0<=s->s<g->Ai dl.length (λa=>DN (decide (dl.getD a 0=s)) 1)=g^(m-1):=λ{dl} hl tb on s s0 s1=>by
  obtain⟨h1,h2⟩:=BC hg hl m1;rw[<-UK h2,Rj (G:=g.toNat) (by lia) (by rw[hG];exact tb) (l:=m-1) ?_ (λr hr=>on r λn hn=>by have:=hr n hn;rw[hG]at this;exact this) [s] (λn hn=>by rw[aV.mp hn,hG];exact⟨s0,s1⟩),h1];have:((dl.length/g.toNat:Nat):Int)=((g.toNat^(m-1):Nat):Int):=by rw[h1,cc,hG]
  lia
 obtain⟨s0,s1⟩:=tb (dl.getD at' 0) (by rw[aK,aJ ha];exact bS ha);have b1:=bal hl tb (JM hg hl m1 fw (GY hg tb fw) hr) _ s0 s1;have b2:=bal hl' tb' (JM hg hl' m1 fw' (GY hg tb' fw') hr') (dl.getD at' 0) s0 s1;rw[dJ]at b2
 have e:Ai dl.length (λa=>DN (decide (dl.getD a 0=dl.getD at' 0)) 1)=Ai dl.length (λa=>DN (decide ((dl.set at' v).getD a 0=dl.getD at' 0)) 1)+1:=by
  have o:=Hl dl.length at' ha 1;have s:=Hj dl.length (λa=>DN (decide ((dl.set at' v).getD a 0=dl.getD at' 0)) 1) (λk=>DN (decide (k=at')) 1);rw[o]at s;rw[<-s];refine Aq λa h=>?_;rw[Hf ha];unfold DN
  by_cases z:at'=a
  ·subst z;rw[qF rfl,qH rfl,qI ne,qH rfl];rfl
  ·rw[qE z,qI (Ne.symm z)];simp
 lia
def GZ(g:Int)(tf:qW)(mf:Nat):Prop:=g^(mf-1)<=9/\∀rk,¬FE g.toNat (tf.length/g.toNat) tf rk
noncomputable def Pa(c:Int):Nat->Int
 |0=>c%2147483647+48271
 |k+1=>(Pa c k*48271+(k:Int)*(k:Int)+11)%2147483647
noncomputable def Ga(c:Int)(m:Nat):qW:=(List.range m).map λk=>Pa c (k+1)/7
theorem Ev(c:Int)(m:Nat):(Ga c m).length=m:=by unfold Ga;rw[List.length_map,List.length_range]
theorem N9(c:Int)(m:Nat):∀x∈Ga c m,0<=x/\x<2147483647:=λx hx=>by unfold Ga at hx;obtain⟨k,_,rfl⟩:=ao.mp hx;show 0<=(Pa c k*48271+(k:Int)*(k:Int)+11)%2147483647/7/\(Pa c k*48271+(k:Int)*(k:Int)+11)%2147483647/7<2147483647;generalize Pa c k*48271+(k:Int)*(k:Int)+11=u;lia
inductive Rz(vs:List V)(H:Hp)(Q:VK)(z3_:XK):Prop
 |m (c m:Int):vs=[.int c,.int m]->0<=m->m<=300->(∀(r:qR) (H':Hp),AG H H'->H r=none->H' r=some (.lst ((Ga c m.toNat).map V.int))->Q (.ref r) H')->Rz vs H Q z3_
abbrev xn(l:qW)(i:Nat):Nat:=(l.getD i 0).toNat
noncomputable def EZ(k G:Nat)(l:qW):Nat:=
 if k=1 then (if G=9\/(G=6/\xn l 10%2=1) then 3 else if G=8/\xn l 10%2=1 then 4 else 2)
 else if k=2 then 1+xn l 10%(G-2)
 else if k=3 then xn l 10%2+2*(xn l 11%2)
 else if k=4 then (if G=9 then (1+xn l 10%2+xn l 11%3*3)*16+xn l 12%3*3 else (1+xn l 10%4*2)%G*16+xn l 12%(G/2)*2)
 else 0
noncomputable def Io(k:Nat)(l:qW):Nat:=if k=3 then 0 else xn l 14%2
noncomputable def DK(k G:Nat)(l:qW)(a:Nat):Nat:=if k=0 then a else if k=4 then (Cs 4 G (EZ 4 G l) (Io 4 l) a+xn l 13)%G else Cs k G (EZ k G l) (Io k l) a
def KG(k G:Nat):Prop:=(k=0/\2<=G/\G<=9)\/(k=1/\(G=4\/G=6\/G=8\/G=9))\/(k=2/\3<=G/\G<=7)\/(k=3/\G=2)\/(k=4/\(G=4\/G=8\/G=9))\/(k=5/\G=8)\/(k=6/\5<=G/\G<=7)
noncomputable def mK(k:Nat):Nat:=if k=0 then 1 else if k=3 then 4 else 2
noncomputable def VA(k G:Nat)(l:qW):Bool:=decide (k=5\/(k=6/\G=7)\/(k=4/\G=8/\xn l 12%2=1))
noncomputable def Bt.tw(c:Bt):Bool:=decide (c.k=5\/(c.k=6/\c.g=7)\/(c.k=4/\c.g=8/\c.s%16%4=2))
noncomputable def Bt.fits(c:Bt):Bool:=decide (c.h=(if c.k=3 then 8 else c.g)/\2<=c.g/\c.g<=9/\(c.k=3->c.g=2) /\
 (if c.tw=true then c.ch.length=3/\((c.ch.getD 0 (0,0)).1/c.g=(c.ch.getD 0 (0,0)).2/c.g\/(c.ch.getD 2 (0,0)).1%c.h=(c.ch.getD 2 (0,0)).2%c.h)/\256<c.g^3/\c.k≠3 else c.g^(c.top+2-(if c.k=3 then 4 else 2))<=256/\(if c.k=3 then 4 else 2)<=c.top+2))
theorem JN:∀c∈EO,c.fits=true:=by decide +kernel
theorem JO{c:Bt}(hc:c∈EO)(n:Mt c.g ν):EQ (c.g:Int) (BU (c.h*c.g) ν (Cs c.k c.g c.s c.d)) (if c.k=3 then 4 else 2) c.tw 0 (BU (c.h*c.g) ν (Cs c.k c.g c.s c.d)) (if c.k=3 then 4 else 2) c.top:=by
 have f:=qN (JN c hc);obtain⟨f1,f2,f3,f4,f5⟩:=f;have ok:=Rw c hc;have h0:0<c.h:=by rw[f1];split<;>lia
 have m2:2<=(if c.k=3 then 4 else 2):=by split<;>lia
 have hh:c.h=c.g^((if c.k=3 then 4 else 2)-1):=by
  rw[f1];split
  ·rename_i z;rw[f4 z]
  ·exact (Nat.pow_one c.g).symm
 have m3:3<=c.g->(if c.k=3 then 4 else 2)<=2:=λz=>by
  split
  ·rename_i y
   have:=f4 y;lia
  ·lia
 refine Rx (Bt.fam ok h0) n f2 f3 m2 (by split<;>lia) m3 hh (by rw[f1];split<;>lia) (λz=>?_) λz=>?_
 ·rw[qE (by rw[z];exact ap)]at f5;refine⟨?_,f5.2⟩;have:=f5.1;rw[<-cc];lia
 ·rw[qF z]at f5;obtain⟨c1,c2,c3,c4⟩:=f5;refine⟨_,_,c.ch.length,Bt.way ok,by lia,?_,?_,by rw[qE c4];lia⟩
  ·rw[c1];exact c2
  ·rw[c1,qE c4];show 256<(c.g:Int)^3;rw[<-cc];lia
noncomputable def J6(k G s d:Nat):Bool:=EO.any λc=>Nat.beq c.k k&&Nat.beq c.g G&&Nat.beq c.s s&&Nat.beq c.d d
theorem Dg{k s d:Nat}(e:J6 k G s d=true):∃c∈EO,c.k=k/\c.g=G/\c.s=s/\c.d=d:=by obtain⟨c,hc,z⟩:=List.any_eq_true.mp e;simp only[Bool.and_eq_true]at z;exact⟨c,hc,cF z.1.1.1,cF z.1.1.2,cF z.1.2,cF z.2⟩
theorem UL{k:Nat}(h:KG k G)(k0:k≠0)(l:qW)(p0:k=4->EZ 4 G l%16≠0):∃c∈EO,c.k=k/\c.g=G/\c.s=EZ k G l/\c.d=Io k l:=by
 have md:∀{n m:Nat},0<m->n%m<m:=λh=>bT _ h
 rcases h with⟨rfl,_⟩|⟨rfl,h⟩|⟨rfl,h⟩|⟨rfl,rfl⟩|⟨rfl,h⟩|⟨rfl,rfl⟩|⟨rfl,h⟩
 ·exact qG rfl k0
 ·have z:∀G∈[4,6,8,9],∀a<2,∀d<2,J6 1 G (if G=9\/(G=6/\a=1) then 3 else if G=8/\a=1 then 4 else 2) d=true:=by decide +kernel
  exact Dg (z G (by rcases h with rfl|rfl|rfl|rfl<;>decide) _ (md (by decide)) _ (md (by decide)))
 ·have z:∀G<8,3<=G->∀r<G-2,∀d<2,J6 2 G (1+r) d=true:=by decide +kernel
  exact Dg (z G (by lia) h.1 _ (md (by lia)) _ (md (by decide)))
 ·have z:∀a<2,∀b<2,J6 3 2 (a+2*b) 0=true:=by decide +kernel
  exact Dg (z _ (md (by decide)) _ (md (by decide)))
 ·have p0:=p0 rfl;rcases h with rfl|rfl|rfl
  ·have z:∀a<4,∀t<2,∀d<2,((1+a*2)%4*16+t*2)%16≠0->J6 4 4 ((1+a*2)%4*16+t*2) d=true:=by decide +kernel
   exact Dg (z _ (md (by decide)) _ (md (by decide)) _ (md (by decide)) p0)
  ·have z:∀a<4,∀t<4,∀d<2,((1+a*2)%8*16+t*2)%16≠0->J6 4 8 ((1+a*2)%8*16+t*2) d=true:=by decide +kernel
   exact Dg (z _ (md (by decide)) _ (md (by decide)) _ (md (by decide)) p0)
  ·have z:∀a<2,∀b<3,∀t<3,∀d<2,((1+a+b*3)*16+t*3)%16≠0->J6 4 9 ((1+a+b*3)*16+t*3) d=true:=by decide +kernel
   exact Dg (z _ (md (by decide)) _ (md (by decide)) _ (md (by decide)) _ (md (by decide)) p0)
 ·have z:∀d<2,J6 5 8 0 d=true:=by decide +kernel
  exact Dg (z _ (md (by decide)))
 ·have z:∀G<8,5<=G->∀d<2,J6 6 G 0 d=true:=by decide +kernel
  exact Dg (z G (by lia) h.1 _ (md (by decide)))
theorem FW{n:Nat}{ν':Nat->Int}{T T':Nat->Nat}(h:∀a,a<n->ν (T a)=ν' (T' a)):BU n ν T=BU n ν' T':=bG λa ha=>h a (ak.mp ha)
theorem UM(g a b:Int):A5 g [a,b]=a*g+b:=by rw[show[a,b]=[a]++[b] from rfl,Fh,Js]
theorem R0(G2:2<=G){f:Nat->Nat}{x:Int->Int}(hx:MR (G:Int) x)(lo:Int):F5 (G:Int) lo (BU (G^2) ν f) 2 x=ν (f ((x lo).toNat*G+(x (lo+1)).toNat)):=by
 have a:=hx lo;have b:=hx (lo+1)
 have e:CQ x lo 2=[x lo,x (lo+1)]:=by show[x (lo+((0:Nat):Int)),x (lo+((1:Nat):Int))]=_;rw[show lo+((0:Nat):Int)=lo by lia];rfl
 have e2:(x lo*(G:Int)+x (lo+1)).toNat=(x lo).toNat*G+(x (lo+1)).toNat:=by
  have z:x lo*(G:Int)+x (lo+1)=(((x lo).toNat*G+(x (lo+1)).toNat:Nat):Int):=by rw[cP,cG,ax a.1,ax b.1]
  rw[z,aW]
 have lt:(x lo).toNat*G+(x (lo+1)).toNat<G^2:=by have:=de G (show (x lo).toNat+1<=G by lia);rw[Nat.succ_mul]at this;rw[Nat.pow_two];lia
 unfold F5;rw[e,UM,e2,Bw lt]
theorem R9{x:Int->Int}(hx:MR (G:Int) x)(lo:Int):F5 (G:Int) lo (BU G ν id) 1 x=ν (x lo).toNat:=by
 have a:=hx lo
 have e:CQ x lo 1=[x lo]:=by show[x (lo+((0:Nat):Int))]=_;rw[show lo+((0:Nat):Int)=lo by lia]
 unfold F5;rw[e,Js,Bw (by lia)];rfl
theorem UN{u:Nat}(h:(G=4/\(u=1\/u=3))\/(G=8/\(u=1\/u=3\/u=5\/u=7))\/(G=9/\(u=1\/u=2\/u=4\/u=5\/u=7\/u=8))):∀x y,x<G->y<G->u*x%G=u*y%G->x=y:=by
 rcases h with⟨rfl,h⟩|⟨rfl,h⟩|⟨rfl,h⟩
 ·rcases h with rfl|rfl<;>lia
 ·rcases h with rfl|rfl|rfl|rfl<;>lia
 ·rcases h with rfl|rfl|rfl|rfl|rfl|rfl<;>lia
theorem OA(G0:0<G)(n:Mt G ν)(c:Nat):Mt G λv=>ν ((v+c)%G):=by
 refine⟨λx _=>n.lt _ (bT _ G0),λx y hx hy e=>?_⟩;have z:=n.inj _ _ (bT _ G0) (bT _ G0) e;have c1:=bT c G0;rw[fX x c,fX y c,cC hx,cC hy]at z;generalize c%G=r at z c1
 have f:∀x,x<G->(x+r)%G=if x+r<G then x+r else x+r-G:=λx hx=>by
  split
  ·exact cC ‹_›
  ·rw[Nat.mod_eq_sub_mod (by lia),cC (by lia)]
 rw[f x hx,f y hy]at z
 split at z<;>split at z<;>lia
theorem JP:∀c∈EO,decide (c.k<=4->(c.k=4->c.g≠8)->c.top+2<=2*if c.k=3 then 4 else 2)=true:=by decide +kernel
theorem WV{k:Nat}(h:KG k G)(l:qW)(n:Mt G ν):∃d tf mf top,EQ (G:Int) (BU (G^mK k) ν (DK k G l)) (mK k) (VA k G l) d tf mf top/\(k<=4->(k=4->G≠8)->top+2<=mf+mf):=by
 have G2:2<=G:=by unfold KG at h;lia
 have G9:G<=9:=by unfold KG at h;lia
 by_cases k0:k=0
 ·subst k0;have e:BU (G^mK 0) ν (DK 0 G l)=BU G ν id:=by rw[show G^mK 0=G from Nat.pow_one G];exact FW λa _=>rfl
  have z:=IS (G:=G) n G2 G9 (dl:=BU G ν id) (m:=1) (aP _) (by decide) (by rw[CM,bA,bO,cI]) (λx hx=>by unfold BU at hx;obtain⟨a,ha,rfl⟩:=ao.mp hx;exact n.lt _ (ak.mp ha)) (d:=0) (λlo x hx=>by rw[dH])
  exact⟨_,_,_,_,by rw[e];exact z,λ_ _=>by decide⟩
 by_cases p0:k=4/\EZ 4 G l%16=0
 ·obtain⟨rfl,p0⟩:=p0;have hG:G=4\/G=8\/G=9:=by unfold KG at h;lia
  obtain⟨u,hu⟩:∃u,u=EZ 4 G l/16:=⟨_,rfl⟩
  have uo:(G=4/\(u=1\/u=3))\/(G=8/\(u=1\/u=3\/u=5\/u=7))\/(G=9/\(u=1\/u=2\/u=4\/u=5\/u=7\/u=8)):=by
   have dv:∀{A t:Nat},t<16->u=(A*16+t)/16->u=A:=λh1 h2=>by lia
   rcases hG with rfl|rfl|rfl
   ·have e:=dv (t:=xn l 12%2*2) (by lia) hu;have z:∀r<4,(1+r*2)%4=1\/(1+r*2)%4=3:=by decide
    rw[e];exact .inl ⟨rfl,z _ (bT _ (by decide))⟩
   ·have e:=dv (t:=xn l 12%4*2) (by lia) hu;have z:∀r<4,(1+r*2)%8=1\/(1+r*2)%8=3\/(1+r*2)%8=5\/(1+r*2)%8=7:=by decide
    rw[e];exact .inr (.inl ⟨rfl,z _ (bT _ (by decide))⟩)
   ·have e:=dv (t:=xn l 12%3*3) (by lia) hu;have z:∀r<2,∀q<3,1+r+q*3=1\/1+r+q*3=2\/1+r+q*3=4\/1+r+q*3=5\/1+r+q*3=7\/1+r+q*3=8:=by decide
    rw[e];exact .inr (.inr ⟨rfl,z _ (bT _ (by decide)) _ (bT _ (by decide))⟩)
  have tw:VA 4 G l=false:=by
   unfold VA;refine qI λz=>?_;rcases z with z|⟨z,_⟩|⟨_,rfl,z⟩
   ·lia
   ·lia
   ·have p:EZ 4 8 l=(1+xn l 10%4*2)%8*16+xn l 12%4*2:=rfl;rw[p,eQ]at p0;clear p hu uo h hG n;lia
  have nu:Mt G λv=>ν ((u*v%G+xn l 13)%G):=by have na:=OA (show 0<G by lia) n (xn l 13);exact⟨λx _=>na.lt _ (bT _ (by lia)),λx y hx hy e=>UN uo x y hx hy (na.inj _ _ (bT _ (by lia)) (bT _ (by lia)) e)⟩
  have tl:((BU (G^2) ν (DK 4 G l)).length:Int)=(G:Int)^2:=by rw[CM,cc]
  have tv:∀a,DK 4 G l a=((if Io 4 l=0 then u*(a/G) else u*(a%G))%G+xn l 13)%G:=λa=>by
   show (Cs 4 G (EZ 4 G l) (Io 4 l) a+xn l 13)%G=_;unfold Cs FF;simp only[show ¬(4:Nat)=3 by decide,show ¬(4:Nat)=1 by decide,show ¬(4:Nat)=2 by decide,if_false,if_true];rw[p0,<-hu]
   by_cases c:Io 4 l=0
   ·rw[qF c,qF c,Nat.zero_mul,dj]
   ·rw[qE c,qE c,Nat.zero_mul,dj]
  have tb:∀x∈BU (G^2) ν (DK 4 G l),0<=x/\x<(G:Int):=λx hx=>by unfold BU at hx;obtain⟨a,ha,rfl⟩:=ao.mp hx;rw[tv];exact n.lt _ (bT _ (by lia))
  rw[tw];clear uo hG hu p0 h tw k0
  by_cases c:Io 4 l=0
  ·refine⟨0,_,_,_,IS nu G2 G9 (m:=2) (by decide) (aP _) tl tb (λlo x hx=>?_),λ_ _=>by decide⟩;have a:=hx lo;have b:=hx (lo+1);rw[dH,R9 hx,R0 G2 hx,tv,qF c,DF (G:=G) (u:=(x lo).toNat) (by lia)]
  ·refine⟨1,_,_,_,IS nu G2 G9 (m:=2) (by decide) (aP _) tl tb (λlo x hx=>?_),λ_ _=>by decide⟩;have a:=hx lo;have b:=hx (lo+1);rw[R9 hx,R0 G2 hx,tv,qE c,show ((x lo).toNat*G+(x (lo+1)).toNat)%G=(x (lo+1)).toNat by rw[fb,Nat.add_mul_mod_self_right,cC (by lia)]]
 ·obtain⟨c,hc,rfl,rfl,e3,e4⟩:=UL h k0 l λe z=>p0 ⟨e,z⟩
  have fit:=qN (JN c hc);have mm:mK c.k=if c.k=3 then 4 else 2:=by unfold mK;rw[qE k0]
  have hp:c.h*c.g=c.g^mK c.k:=by
   rw[mm,fit.1];split
   ·rename_i z;rw[fit.2.2.2.1 z]
   ·exact (Nat.pow_two c.g).symm
  have tw:c.tw=VA c.k c.g l:=by
   unfold Bt.tw VA;refine decide_eq_decide.mpr (or_congr Iff.rfl (or_congr Iff.rfl (and_congr_right λy1=>and_congr_right λy2=>?_)));have p:EZ c.k c.g l=(1+xn l 10%4*2)%8*16+xn l 12%4*2:=by rw[y1,y2];rfl
   rw[e3,p,eQ];generalize xn l 12=t;clear p y1 y2 hp mm fit;lia
  by_cases k4:c.k=4
  ·have na:=OA (show 0<c.g by lia) n (xn l 13);have z:=JO hc na;rw[hp,tw,<-mm]at z;have e:BU (c.g^mK c.k) ν (DK c.k c.g l)=BU (c.g^mK c.k) (λv=>ν ((v+xn l 13)%c.g)) (Cs c.k c.g c.s c.d):=FW λa _=>by show ν (DK c.k c.g l a)=ν ((Cs c.k c.g c.s c.d a+xn l 13)%c.g);unfold DK;rw[qE k0,qF k4,e3,e4,k4]
   rw[e];exact⟨_,_,_,_,z,λa b=>by rw[mm];have:=qN (JP c hc) a b;lia⟩
  ·have z:=JO hc n;rw[hp,tw,<-mm]at z;have e:BU (c.g^mK c.k) ν (DK c.k c.g l)=BU (c.g^mK c.k) ν (Cs c.k c.g c.s c.d):=FW λa _=>by unfold DK;rw[qE k0,qE k4,e3,e4]
   rw[e];exact⟨_,_,_,_,z,λa b=>by rw[mm];have:=qN (JP c hc) a b;lia⟩
theorem SA{k:Nat}(h:KG k G)(l:qW)(n:Mt G ν):∃d tf mf top,EQ (G:Int) (BU (G^mK k) ν (DK k G l)) (mK k) (VA k G l) d tf mf top:=by obtain⟨d,tf,mf,top,z,_⟩:=WV h l n;exact⟨d,tf,mf,top,z⟩
def S8(H:Hp)(p:qR)(l:qW):Prop:=H p=some (.lst (l.map V.int))/\l.length=15/\∀x∈l,0<=x/\x<2147483647
theorem S8.same{p:qR}{l:qW}(e:AG H H')(x:S8 H p l):S8 H' p l:=⟨e _ _ x.1,x.2⟩
theorem S8.at{p:qR}{l:qW}(x:S8 H p l){i:Nat}(hi:i<15):Iy (l.map V.int) ((i:Nat):Int)=some (.int ((xn l i:Nat):Int)):=by
 have hl:i<l.length:=by rw[x.2.1];exact hi
 have b:=x.2.2 (l.getD i 0) (by rw[aK,aJ hl];exact bS hl);rw[FI hl,ax b.1]
inductive F2(k:Nat)(vs:List V)(H:Hp)(Q:VK)(z3_:XK):Prop
 |m (G:Nat) (p:qR) (l:qW) (h t:Nat):vs=[.int (G:Int),.ref p,.int (h:Int),.int (t:Int)]->KG k G->S8 H p l->h<G->t<G->(∀H',AG H H'->Q (.int ((if k=4 then (FF 4 G (EZ 4 G l) h t+xn l 13)%G else FF k G (EZ k G l) h t:Nat):Int)) H')->F2 k vs H Q z3_
inductive JQ(vs:List V)(H:Hp)(Q:VK)(z3_:XK):Prop
 |m (h t:Nat):vs=[.int (h:Int),.int (t:Int)]->Q (.int ((FF 5 8 0 h t:Nat):Int)) H->JQ vs H Q z3_
inductive LN(vs:List V)(H:Hp)(Q:VK)(z3_:XK):Prop
 |m (G h t:Nat):vs=[.int (G:Int),.int (h:Int),.int (t:Int)]->5<=G->G<=7->h<G->t<G->Q (.int ((FF 6 G 0 h t:Nat):Int)) H->LN vs H Q z3_
inductive LO(vs:List V)(H:Hp)(Q:VK)(z3_:XK):Prop
 |m (p a:qR) (l:qW) (n:Nat):vs=[.ref p,.ref a]->S8 H p l->H a=some (.lst ((As 2 (n:Int) 4).map V.int))->(∀H',AG H H'->Q (.int ((Cs 3 2 (EZ 3 2 l) 0 n:Nat):Int)) H')->LO vs H Q z3_
inductive LQ(vs:List V)(H:Hp)(Q:VK)(z3_:XK):Prop
 |m (k G:Nat) (p a:qR) (l:qW) (n:Nat):vs=[.int (k:Int),.int (G:Int),.ref p,.ref a]->KG k G->S8 H p l->H a=some (.lst ((As (G:Int) (n:Int) (mK k)).map V.int))->n<G^mK k->(∀H',AG H H'->Q (.int ((DK k G l n:Nat):Int)) H')->LQ vs H Q z3_
noncomputable def OB(c:Int):Nat:=([0,1,1,2,2,3,4,5,6,6,3,4,6,1]:List Nat).getD (c%14).toNat 0
noncomputable def gF(c:Int):Nat:=if OB c=0 then (2+c/14%8).toNat else if OB c=1 then ([4,4,6,4,4,8,6,9]:List Nat).getD (c/14%8).toNat 0 else if OB c=2 then ([3,4,5,3,4,3,6,7]:List Nat).getD (c/14%8).toNat 0 else if OB c=3 then 2 else if OB c=4 then ([4,4,8,9]:List Nat).getD (c/14%4).toNat 0 else if OB c=5 then 8 else ([5,6,5,7]:List Nat).getD (c/14%4).toNat 0
theorem SB(c:Int):OB c<=6:=by
 unfold OB;have h:(c%14).toNat<14:=by lia
 generalize (c%14).toNat=i at h;have z:∀i<14,([0,1,1,2,2,3,4,5,6,6,3,4,6,1]:List Nat).getD i 0<=6:=by decide
 exact z i h
theorem aG(c:Int):KG (OB c) (gF c):=by
 have k6:=SB c;have a8:(c/14%8).toNat<8:=by lia
 have a4:(c/14%4).toNat<4:=by lia
 unfold KG gF;generalize OB c=k at *;generalize (c/14%8).toNat=i at *;generalize (c/14%4).toNat=j at *;obtain rfl|rfl|rfl|rfl|rfl|rfl|rfl:k=0\/k=1\/k=2\/k=3\/k=4\/k=5\/k=6:=by lia
 ·left
  refine⟨rfl,?_⟩;rw[qF rfl];lia
 ·have z:∀i<8,([4,4,6,4,4,8,6,9]:List Nat).getD i 0=4\/([4,4,6,4,4,8,6,9]:List Nat).getD i 0=6\/([4,4,6,4,4,8,6,9]:List Nat).getD i 0=8\/([4,4,6,4,4,8,6,9]:List Nat).getD i 0=9:=by decide
  exact .inr (.inl ⟨rfl,z i a8⟩)
 ·have z:∀i<8,3<=([3,4,5,3,4,3,6,7]:List Nat).getD i 0/\([3,4,5,3,4,3,6,7]:List Nat).getD i 0<=7:=by decide
  exact .inr (.inr (.inl ⟨rfl,z i a8⟩))
 ·exact .inr (.inr (.inr (.inl ⟨rfl,rfl⟩)))
 ·have z:∀i<4,([4,4,8,9]:List Nat).getD i 0=4\/([4,4,8,9]:List Nat).getD i 0=8\/([4,4,8,9]:List Nat).getD i 0=9:=by decide
  exact .inr (.inr (.inr (.inr (.inl ⟨rfl,z j a4⟩))))
 ·exact .inr (.inr (.inr (.inr (.inr (.inl ⟨rfl,rfl⟩)))))
 ·have z:∀i<4,5<=([5,6,5,7]:List Nat).getD i 0/\([5,6,5,7]:List Nat).getD i 0<=7:=by decide
  exact .inr (.inr (.inr (.inr (.inr (.inr ⟨rfl,z j a4⟩)))))
noncomputable def Z8(c c2:Int):Bool:=VA (OB c) (gF c) (Ga c2 15)
theorem SC{zs:qW}(p:zs.Perm (FC G)):Mt G λv=>zs.getD v 0:=by
 have hl:zs.length=G:=by rw[p.length_eq,CV]
 have nd:(FC G).Nodup:=by unfold FC;rw[List.Nodup,cU];exact (List.nodup_range (n:=G)).imp λh e=>h (by lia)
 have ndz:zs.Nodup:=p.nodup_iff.mpr nd;refine⟨λx hx=>?_,λx y hx hy e=>?_⟩
 ·have hx':x<zs.length:=by lia
  have m:zs.getD x 0∈FC G:=p.mem_iff.mp (by rw[aK,aJ hx'];exact bS hx');obtain⟨i,hi⟩:=ay.mp m;have il:i<G:=by have:=(aN.mp hi).1;rwa [CV]at this
  rw[HP il]at hi;have:=Option.some.inj hi;lia
 ·have hx':x<zs.length:=by lia
  have hy':y<zs.length:=by lia
  have e:zs.getD x 0=zs.getD y 0:=e;rw[aK,aK,aJ hx',aJ hy']at e;exact (dP ndz).mp e
theorem UO{k:Nat}(h:KG k G)(l:qW){n:Nat}(hn:n<G^mK k):DK k G l n<G:=by
 have na:Mt G λv=>(v:Int):=⟨λx hx=>by lia,λx y _ _ e=>by lia⟩
 obtain⟨d,tf,mf,top,c⟩:=SA h l na;have z:=c.tb ((BU (G^mK k) (λv=>(v:Int)) (DK k G l)).getD n 0) (by rw[aK,aJ (by rw[CM];exact hn)];exact bS _);rw[Bw hn]at z;lia
noncomputable def Ew(h:Nat):List (qX):=(List.range h).flatMap (ID h)
theorem DL{h:Nat}:p∈Ew h↔p.1<h/\p.2<h/\p.1≠p.2:=by
 unfold Ew ID;rw[d7];constructor
 ·rintro⟨n,hn,hp⟩;obtain⟨o,ho,rfl⟩:=ao.mp hp;obtain⟨h1,h2⟩:=bB.mp ho;exact⟨ak.mp hn,ak.mp h1,λe=>qN h2 e.symm⟩
 ·rintro⟨h1,h2,h3⟩;exact⟨p.1,ak.mpr h1,ao.mpr ⟨p.2,bB.mpr ⟨ak.mpr h2,qH λe=>h3 e.symm⟩,rfl⟩⟩
theorem J7(h:Nat):(Ew h).Pairwise λp q=>p.1<q.1\/(p.1=q.1/\p.2<q.2):=by
 unfold Ew;refine List.pairwise_flatMap.mpr ⟨λn _=>?_,List.Pairwise.imp (R:=(·<·)) (λ{a b} lt x hx y hy=>?_) cn⟩
 ·unfold ID;rw[cU];exact (List.Pairwise.filter _ cn).imp λz=>.inr ⟨rfl,z⟩
 ·unfold ID at hx hy;obtain⟨_,_,rfl⟩:=ao.mp hx;obtain⟨_,_,rfl⟩:=ao.mp hy;exact .inl lt
theorem FX(h:Nat):(Ew h).Nodup:=(J7 h).imp λ{a b} z e=>by rw[e]at z;lia
noncomputable def WW(f:qX->Nat)(p:qX):qW:=[(p.1:Int),(p.2:Int),((f p:Nat):Int)]
theorem UP(a b c:Int):A5 1000 [a,b,c]=(a*1000+b)*1000+c:=by show ((0*1000+a)*1000+b)*1000+c=_;rw[c9,bC]
theorem SD{h:Nat}{ws:List (qW)}(h9:h<=9)(few:∀p∈M,f p<=100)(nd:M.Nodup)(sub:∀p∈M,p∈Be h)(all:∀p∈Be h,p∈M)(hp:ws.Perm ((M.filter λp=>decide (p≠(0,0))).map (WW f)))(so:ws.Pairwise λu v=>A5 1000 u<=A5 1000 v):ws=(Ew h).map (WW f):=by
 have ma:∀p,p∈Ew h↔p∈M/\p≠(0,0):=λp=>by
  rw[DL];constructor
  ·rintro⟨h1,h2,h3⟩;exact⟨all p (Es.mpr (.inr ⟨h1,h2,h3⟩)),λe=>by rw[e]at h3;exact h3 rfl⟩
  ·rintro⟨h1,h2⟩;rcases Es.mp (sub p h1) with z|z
   ·exact qG z h2
   ·exact z
 have pm:(M.filter λp=>decide (p≠(0,0))).Perm (Ew h):=(List.perm_ext_iff_of_nodup (nd.filter _) (FX h)).mpr λp=>by rw[bB,ma,decide_eq_true_eq]
 refine List.Perm.eq_of_pairwise (le:=λu v=>A5 1000 u<=A5 1000 v) (λa b ha hb le ge=>?_) so ?_ (hp.trans (pm.map _))
 ·obtain⟨p,pp,rfl⟩:=ao.mp (hp.mem_iff.mp ha);obtain⟨q,qq,rfl⟩:=ao.mp hb;have z1:=pm.mem_iff.mp pp;have z2:=few p ((ma p).mp z1).1;have y2:=few q ((ma q).mp qq).1;have z3:=DL.mp z1;have y3:=DL.mp qq;unfold WW at le ge;rw[UP,UP]at le ge;have e:p=q:=Prod.ext (by lia) (by lia);rw[e]
 ·rw[cU];refine (fN.mp (J7 h)).imp λ{p q} ⟨hp,hq,z⟩=>?_;have p2:=few p ((ma p).mp hp).1;have q2:=few q ((ma q).mp hq).1;have p3:=DL.mp hp;have q3:=DL.mp hq;unfold WW;rw[UP,UP];lia
theorem YJ(p q:qX):PyData.eqv (.tuple (([(p.1:Int),(p.2:Int)]).map PyData.int)) (.tuple (([(q.1:Int),(q.2:Int)]).map PyData.int))=decide (p=q):=by
 by_cases e:p=q
 ·rw[e,Tg,qH rfl]
 ·rw[qI e,Bool.eq_false_iff];intro h;have z:=(Qo [(p.1:Int),(p.2:Int)] [(q.1:Int),(q.2:Int)]).mp h
  injection z with z1 z2
  injection z2 with z2 _
  exact e (Prod.ext (by lia) (by lia))
theorem OC{g:Int}(hg:2<=g){lo low:Int}{m:Nat}(hl:(dl.length:Int)=g^m)(hc:∀j,j<m->BI g dl (g^(m-1-j))=true->lo+(j:Int)=low/\low'=low):Dn g low (Dn g lo dl m low 1) 1 low 2=Dn g lo dl m low' 2:=by refine MG hg (BN hg _ _ _ _ _) (BN hg _ _ _ _ _) λw hw hb=>?_;have e1:=Em hg low (Dn g lo dl m low 1) 1 low hb;have e2:=Em hg lo dl m low' hb;rw[hw]at e1 e2;rw[e1,e2];have b1:=FP hg hb (low-low) 1;have e3:=Em hg lo dl m low b1;rw[By]at e3;rw[e3];refine Hg hg hl (FP hg b1 _ _) (FP hg hb _ _) (By ..) (By ..) λj hj hcj=>?_;obtain⟨a,b⟩:=hc j hj hcj;rw[EF _ _ hj,EF _ _ hj,show lo-low+(j:Int)=((0:Nat):Int) by lia,show lo-low'+(j:Int)=((0:Nat):Int) by lia,El (by rw[By];decide),El (by lia),EF _ _ (by decide),Int.sub_self,show (0:Int)+((0:Nat):Int)=((0:Nat):Int) from rfl,El (by lia)]
theorem Pb{g:Int}(hg:2<=g){lo:Int}{m:Nat}(hl:(dl.length:Int)=g^m)(fw:BE g lo dl m lf tf mf){l:List Nat}(e:((List.range m).filter λj=>BI g dl (g^(m-1-j)))=l):
  (l=[]->mf=2/\tf=Dn g lo dl m lo 2)/\(l≠[]->mf=max 2 (l.getD (l.length-1) 0-l.getD 0 0+1)/\tf=Dn g lo dl m (lo+((l.getD 0 0:Nat):Int)) mf/\l.getD 0 0<=l.getD (l.length-1) 0/\l.getD (l.length-1) 0<m):=by
 obtain⟨low,M,n,e1,z⟩:=fw;refine⟨λh=>?_,λh=>?_⟩
 ·have cl:BR g lo dl m=[]:=by unfold BR;rw[e,h];rfl
  obtain⟨rfl,rfl⟩:=n.uniq (Hi cl);rcases z with⟨_,z1,z2⟩|z
  ·rw[z2];refine⟨z1,OC hg hl λj hj hc=>?_⟩;have:j∈([]:List Nat):=by rw[<-h,<-e];exact bB.mpr ⟨ak.mpr hj,hc⟩
   exact qG this am
  ·lia
 ·have hne:0<l.length:=dN.mpr h;have hp:l.Pairwise (·<·):=by rw[<-e];exact FJ _ _
  have hm:∀j,j∈l↔j<m/\BI g dl (g^(m-1-j))=true:=λj=>by rw[<-e,bB,ak]
  have le:=E1 hp _ (En hne);have m1:=(hm _).mp (En (show l.length-1<l.length by lia));have cl:BR g lo dl m≠[]:=by unfold BR;rw[e];exact λz=>h (List.map_eq_nil_iff.mp z)
  obtain⟨M',eM,_,n'⟩:=GN cl;obtain⟨rfl,rfl⟩:=n.uniq n';have el:BR g lo dl m=l.map λj:Nat=>lo+(j:Int):=by unfold BR;rw[e]
  rw[el,aH,B1 (show l.length-1<l.length by lia),B1 hne]at eM;have e0:(BR g lo dl m).getD 0 0=lo+((l.getD 0 0:Nat):Int):=by rw[el,B1 hne]
  rw[e0]at z n;rcases z with⟨z0,z1,z2⟩|⟨z0,z1,z2⟩
  ·subst z1;refine⟨by lia,?_,le,m1.1⟩;rw[z2];exact OC hg hl λj hj hc=>⟨by have:=n.all j hj hc;lia,rfl⟩
  ·subst z1;exact⟨by lia,z2,le,m1.1⟩
noncomputable def Pn(tf:qW)(i:Nat)(v:Int):List Nat:=(List.range i).filter λk=>decide (tf.getD k 0=v)
noncomputable def KD(tf:qW)(i:Nat)(v:Int):qW:=(Pn tf i v).map λk:Nat=>(k:Int)
theorem UQ(tf:qW)(i:Nat)(v:Int):KD tf (i+1) v=if tf.getD i 0=v then KD tf i v++[((i:Nat):Int)] else KD tf i v:=by
 unfold KD Pn;rw[bP,cA]
 by_cases z:tf.getD i 0=v
 ·rw[qF z,IE (p:=λk=>decide (tf.getD k 0=v)) (qH z),aZ];rfl
 ·rw[qE z,Gm (p:=λk=>decide (tf.getD k 0=v)) (qI z),au]
theorem Mu(tf:qW)(i:Nat)(v:Int):(Pn tf i v).length<=i:=by unfold Pn;exact bK (cE ..) (by rw[bI];exact aP _)
theorem HB{i:Nat}{v:Int}{k:Nat}:k∈Pn tf i v↔k<i/\tf.getD k 0=v:=by unfold Pn;rw[bB,ak,decide_eq_true_eq]
noncomputable def VB(G h l r:Nat):(qX)×(qX):=(B5 (l/G,r/G),B5 (l%h,r%h))
noncomputable def WX(s:(qX)×(qX)):Bool:=decide (s.1≠(0,0)\/s.2≠(0,0))
noncomputable def S9(G h:Nat)(ws:List Nat)(l:Nat):List ((qX)×(qX)):=(ws.map (VB G h l)).filter WX
theorem SE{h:Nat}{ws:List Nat}{l k r:Nat}(hr:ws[k]?=some r):S9 G h (ws.take (k+1)) l=S9 G h (ws.take k) l++(if WX (VB G h l r)=true then[VB G h l r] else[]):=by
 unfold S9;rw[bo,hr,show (some r).toList=[r] from rfl,aZ,cA]
 by_cases z:WX (VB G h l r)=true
 ·rw[qF z];exact qP _ (IE z)
 ·rw[qE z];exact qP _ (Gm (by cases y:WX (VB G h l r);rfl;exact qG y z))
noncomputable def Pd(G h:Nat)(ws:List Nat)(j:Nat):List ((qX)×(qX)):=(ws.take j).flatMap (S9 G h ws)
theorem LR{h:Nat}{ws:List Nat}{l:Nat}(hl:ws[j]?=some l):Pd G h ws (j+1)=Pd G h ws j++S9 G h ws l:=by unfold Pd;rw[bo,hl,show (some l).toList=[l] from rfl,cM,bg,dD,au]
noncomputable def Pe(G h:Nat)(tf A:qW)(i:Nat):List ((qX)×(qX)):=(A.take i).flatMap λv=>Pd G h (Pn tf tf.length v) (Pn tf tf.length v).length
theorem LS{h:Nat}{A:qW}{i:Nat}{v:Int}(hv:A[i]?=some v):Pe G h tf A (i+1)=Pe G h tf A i++Pd G h (Pn tf tf.length v) (Pn tf tf.length v).length:=by unfold Pe;rw[bo,hv,show (some v).toList=[v] from rfl,cM,bg,dD,au]
theorem Cm{a b:Nat}:B5 (a,b)=(0,0)↔a=b:=by
 unfold B5;constructor
 ·intro z
  by_cases e:a=b
  ·exact e
  ·rw[qE e]at z;cases z;rfl
 ·intro e;rw[qF e]
theorem UR{h:Nat}{A:qW}(G1:1<=G)(gh:h%G=0)(hl:tf.length=h*G)(hA:∀v,v∈A↔v∈tf)(a b:qX):(a,b)∈Pe G h tf A A.length↔Ie G h tf a b:=by
 unfold Pe Pd S9 Ie;rw[bR,<-hl];simp only[List.take_length,List.mem_flatMap,List.mem_filter,List.mem_map];constructor
 ·rintro⟨v,hv,l,hl',⟨r,hr,e⟩,ok⟩;obtain⟨l1,l2⟩:=HB.mp hl';obtain⟨r1,r2⟩:=HB.mp hr;unfold VB at e;cases e;refine⟨l,r,l1,r1,λe=>?_,by rw[l2,r2],rfl,rfl⟩;subst e;unfold WX at ok;rw[CL,CL]at ok;exact qG ok (by decide)
 ·rintro⟨l,r,l1,r1,ne,e,rfl,rfl⟩;refine⟨tf.getD l 0,(hA _).mpr ?_,l,HB.mpr ⟨l1,rfl⟩,⟨r,HB.mpr ⟨r1,e.symm⟩,rfl⟩,qH ?_⟩
  ·rw[aK,aJ l1];exact bS _
  ·by_cases z:B5 (l/G,r/G)=(0,0)
   ·refine .inr λy=>ne ?_
    have z1:=Cm.mp z;have y1:=Cm.mp y;have d:G∣h:=Nat.dvd_of_mod_eq_zero gh
    have e1:l%G=r%G:=by have:=qP (·%G) y1;simp only[Nat.mod_mod_of_dvd _ d]at this;exact this
    have:=cR l G;have:=cR r G;rw[z1,e1]at *;lia
   ·exact .inl z
theorem OD(G h:Nat)(ws:List Nat)(l:Nat):(S9 G h ws l).length<=ws.length:=by unfold S9;exact bK (cE ..) (by rw[aH];exact aP _)
theorem OE(G h:Nat)(ws:List Nat):∀j,(Pd G h ws j).length<=j*ws.length:=by
 intro j
 induction j with
 |zero=>exact az _
 |succ j ih =>
  by_cases z:j<ws.length
  ·rw[LR (aJ z),aU,dz,Nat.one_mul];exact Nat.add_le_add ih (OD ..)
  ·have:Pd G h ws (j+1)=Pd G h ws j:=by
    unfold Pd;rw[bh (by lia),bh (by lia)]
   rw[this,dz];lia
theorem US(G h:Nat)(tf A:qW)(n:Nat)(hn:tf.length<=n):∀i,(Pe G h tf A i).length<=i*(n*n):=by
 intro i
 induction i with
 |zero=>exact az _
 |succ i ih =>
  by_cases z:i<A.length
  ·rw[LS (aJ z),aU,dz,Nat.one_mul];refine Nat.add_le_add ih (bK (OE ..) ?_);have:=Mu tf tf.length A[i];exact cS (by lia) (by lia)
  ·have:Pe G h tf A (i+1)=Pe G h tf A i:=by
    unfold Pe;rw[bh (by lia),bh (by lia)]
   rw[this,dz];lia
noncomputable def Po(h i:Nat):List (qX):=((List.range i).filter λk=>decide (k/h≠k%h)).map λk=>(k/h,k%h)
theorem SF(h i:Nat):Po h (i+1)=if i/h=i%h then Po h i else Po h i++[(i/h,i%h)]:=by
 unfold Po;rw[bP,cA]
 by_cases z:i/h=i%h
 ·rw[qF z,Gm (p:=λk=>decide (k/h≠k%h)) (qI λy=>y z),au]
 ·rw[qE z,IE (p:=λk=>decide (k/h≠k%h)) (qH z),aZ];rfl
theorem J8(h i:Nat):(Po h i).length<=i:=by unfold Po;rw[aH];exact bK (cE ..) (by rw[bI];exact aP _)
theorem Mv{h:Nat}(h0:0<h):Po h (h*h)=Ew h:=by
 have pw:(Po h (h*h)).Pairwise λp q=>p.1<q.1\/(p.1=q.1/\p.2<q.2):=by
  unfold Po;rw[cU];refine (List.Pairwise.filter _ cn).imp λ{a b} lt=>?_;show a/h<b/h\/a/h=b/h/\a%h<b%h;have d:=Nat.div_le_div_right (c:=h) (cr lt);rcases Nat.lt_or_ge (a/h) (b/h) with z|z
  ·exact .inl z
  ·have e:a/h=b/h:=by lia
   have x:=cR a h;have y:=cR b h;rw[e]at x;exact .inr ⟨e,by lia⟩
 have nd:(Po h (h*h)).Nodup:=pw.imp λ{a b} z e=>by rw[e]at z;lia
 refine List.Perm.eq_of_pairwise (le:=λp q=>p.1<q.1\/(p.1=q.1/\p.2<q.2)) (λa b _ _ x y=>by lia) pw (J7 h) ((List.perm_ext_iff_of_nodup nd (FX h)).mpr λp=>?_);rw[DL];unfold Po;rw[ao];constructor
 ·rintro⟨k,hk,rfl⟩;obtain⟨h1,h2⟩:=bB.mp hk;exact⟨bj (ak.mp h1),bT _ h0,qN h2⟩
 ·rintro⟨h1,h2,h3⟩;have e1:(p.1*h+p.2)/h=p.1:=by rw[br,Nat.mul_add_div h0,Nat.div_eq_of_lt h2,dj]
  have e2:(p.1*h+p.2)%h=p.2:=by rw[br,Nat.mul_add_mod,cC h2]
  have e3:p.1*h+p.2<h*h:=by have:=de h (show p.1+1<=h from h1);rw[dz,Nat.one_mul]at this;lia
  exact⟨p.1*h+p.2,bB.mpr ⟨ak.mpr e3,qH (by rw[e1,e2];exact h3)⟩,by rw[e1,e2]⟩
end L2
namespace PySem
open Sem (wp)
open Calls PyProof.Rows PySem.W
section
variable{prog:qT}{w:qU}{A:Around}{E:qQ->qS->Prop}{s:qS}
noncomputable def ltL:qW->qW->Bool
 |x::xs,y::ys=>if x=y then ltL xs ys else decide (x<y)
 |xs,ys=>decide (xs.length<ys.length)
def TupI(h:Heap)(a:qR)(ns:qW):Prop:=∃(o:Obj) (xs:Array qQ) (n:Nat),h.get? a=some o/\o.cls=.type "tuple"/\o.data=.seq xs n/\IntsAre xs.toList ns
theorem TupI.at{h h':Heap}{a:qR}{ns:qW}(x:TupI h a ns)(k:∀o,h.get? a=some o->h'.get? a=some o):TupI h' a ns:=by obtain⟨o,xs,n,e,c⟩:=x;exact⟨o,xs,n,k o e,c⟩
theorem rc_ltT{a b:qR}{ns ms:qW}(ha:TupI s.heap a ns)(hb:TupI s.heap b ms){Q:qQ->qS->Prop}(hu:A.units<cLine)(h:Q (.bool (ltL ns ms)) s):wpAny (model prog w) A (richCompare .Lt (.ref a) (.ref b)) Q E s:=by
 obtain⟨oa,xs,na,hoa,ca,hda,ia⟩:=ha;obtain⟨ob,ys,nb,hob,cb,hdb,ib⟩:=hb;have hTb:s.TypeIs (.ref b) "tuple":=⟨ob,hob,cb⟩;refine wpAny_richCompare_same_room (op:=.Lt) ⟨oa,hoa,ca⟩ hTb F.slot_tuple_lt (wpAny_call_entry F.slot_tuple_lt ⟨oa,hoa,ca⟩ F.entry_tuple_lt ?_ (F.args_tuple_lt_2 _ _)) hu;show wpAny _ _ (isInstance (.ref b) (.type "tuple") >>= _) _ _ s;refine qC (wpAny_isInstance hTb isSubtype_tuple_tuple ?_);simp only[Bool.not_true,Bool.false_eq_true,if_false];refine qC (wpAny_tupleItemsOf hoa hda ?_);refine qC (wpAny_tupleItemsOf hob hdb ?_);refine qC ?_;refine wpAny_forIn_list _ (λrest r s'=>r.1=none/\s'=s/\∃us vs ns' ms',rest=List.zip us vs/\IntsAre us ns'/\IntsAre vs ms'/\ltL ns' ms'=ltL ns ms/\xs.size+vs.length=ys.size+us.length) _ ?_ ?_ _ _ ⟨rfl,rfl,xs.toList,ys.toList,ns,ms,rfl,ia,ib,rfl,by rw[av,av,fb]⟩
 ·rintro⟨u,v⟩ rest r s' ⟨hr,rfl,us,vs,ns',ms',hz,iu,iv,el,sz⟩;cases iu with
  |nil=>simp at hz
  |cons i t iu =>
   rename_i us' ns''
   cases iv with
   |nil=>simp at hz
   |cons j t' iv =>
    rename_i vs' ms''
    simp only[List.zip_cons_cons,List.cons.injEq,Prod.mk.injEq]at hz;obtain⟨⟨rfl,rfl⟩,rfl⟩:=hz;refine qC (SeqAt.EqAt.int_int i t j t' prog w _ _ ?_);cases z:i==j with
    |true =>
     simp only[Bool.not_true,Bool.false_eq_true,if_false];rw[ltL,qF (beq_iff_eq.mp z)]at el;exact qD ⟨rfl,rfl,us',vs',ns'',ms'',rfl,iu,iv,el,by rw[bD,bD]at sz;lia⟩
    |false =>
     simp only[Bool.not_false,if_true];rw[ltL,qE (λy=>by rw[y,beq_self_eq_true]at z;cases z)]at el;rw[<-el]at h;refine qC (wpAny_rule ?_);refine qC (richCompare_gives (op:=.Lt) (typeIs_int _ _ t) (typeIs_int _ _ t') F.slot_int_lt F.entry_int_lt (F.args_int_lt_2 _ _) (gives_int_lt _ _ t t') (λx=>nomatch x) ?_);exact qC (qD (qD (qD ⟨_,rfl,(λx=>nomatch x),h⟩)))
 ·rintro⟨r1,r2⟩ s' ⟨hr,rfl,us,vs,ns',ms',hz,iu,iv,el,sz⟩;simp only at hr;subst hr;refine qD ⟨_,rfl,(λx=>by unfold Builtin.Tuple.tupleCompareSizes at x;cases x),?_⟩
  have e:ltL ns' ms'=decide (xs.size<ys.size):=by
   have l1:=iu.length;have l2:=iv.length;cases ns' with
   |nil =>
    rw[ltL]
    ·exact decide_eq_decide.mpr (by rw[dM]at *;lia)
    ·intro x xs' _ _ y;cases y
   |cons n ns'' =>
    cases ms' with
    |nil =>
     rw[ltL]
     ·exact decide_eq_decide.mpr (by rw[dM,bD]at *;lia)
     ·intro x xs' y ys' _ z;cases z
    |cons m ms'' =>
     cases iu;cases iv;simp at hz
  rw[<-el,e]at h;exact h
variable{I d S:qR}{od:Obj}{es:Array DictEntry}{ep:Nat}{R:Result->qS->Prop}
theorem min_loopX(hh:A.handled=none)(hdd:od.data=.dict es ep)(hu:A.in1.units<cLine)(SI:S≠I)(dI:d≠I)(dS:d≠S)(ks:Nat->qR)(kn:Nat->qW)(hk:∀i (h:i<es.size),es[i].key=.ref (ks i)/\ks i≠I/\ks i≠S):
  ∀(k j:Nat) (s:qS) (b:Nat) (c:Nat),es.size-(j+1)=k->j+1<=es.size->s.heap.IsKeyIter I d (j+1) es.size ep->s.heap.get? d=some od->(∀i,i<es.size->TupI s.heap (ks i) (kn i))->b<es.size->b=argBest (λi j=>ltL (kn i) (kn j)) j ->
  s.heap.get? S=some {cls:=.type "list",dict:=none,data:=.seq #[.ref (ks b),.ref (ks b)] c,slots:=#[]} ->
  (∀h' tk,argBest (λi j=>ltL (kn i) (kn j)) (es.size-1)<es.size->(∀a o,a≠I->a≠S->s.heap.get? a=some o->h'.get? a=some o)->R (.ok (.ret (.ref (ks (argBest (λi j=>ltL (kn i) (kn j)) (es.size-1)))))) {s with heap:=h',toks:=tk}) ->
  codeAny (model prog w) A (.builtin "min.loop" ⟨[.ref I,.none,.ref S],[]⟩) R s:=by
 have hname:(toString "min"++toString ".loop":String)="min.loop":=by decide
 intro k
 induction k with
 |zero =>
  intro j s b c hk0 hj hst hod tp hb eb hS hR;refine codeAny_builtin F.entry_min_loop ?_;rw[Around.under_plainId F.plain_min_loop _];show wpAny _ A.in1 (seqItems? (.ref S) >>= _) _ _ s;refine qC (wpAny_seqItems hS rfl ?_);show wpAny _ A.in1 (tryCatch (pyNext (.ref I)) _ >>= _) _ _ s;refine qC (wpAny_tryCatch (keys_end (show A.in1.handled=none from hh) hst hod hdd (by lia) λh' ex=>?_));have hS':=ex S _ SI hS;show wpAny _ A.in1 (updateSeq S (λ_=>#[]) >>= _) _ _ _;refine qC ?_;refine wpAny_updateSeq hS' rfl (qC (wpAny_letGo (qD ?_)));have en:es.size-1=j:=by lia
  rw[en,<-eb]at hR;exact hR _ s.toks hb λa o aI aS e=>(cj _ _ (Ne.symm aS)).trans (ex a o aI e)
 |succ k ih =>
  intro j s b c hk0 hj hst hod tp hb eb hS hR;have hlt:j+1<es.size:=by lia
  refine codeAny_builtin F.entry_min_loop ?_;rw[Around.under_plainId F.plain_min_loop _];show wpAny _ A.in1 (seqItems? (.ref S) >>= _) _ _ s;refine qC (wpAny_seqItems hS rfl ?_);show wpAny _ A.in1 (tryCatch (pyNext (.ref I)) _ >>= _) _ _ s;refine qC (wpAny_tryCatch (keys_item hst hod hdd hlt λh' st' sb=>?_));have up:∀a o,a≠I->s.heap.get? a=some o->h'.get? a=some o:=λa o aI e=>(sb.2 a aI).trans e
  have hS':=up S _ SI hS;rw[(hk _ hlt).1];have tp':∀i,i<es.size->TupI h' (ks i) (kn i):=λi hi=>(tp i hi).at λo e=>up _ o (hk i hi).2.1 e
  show wpAny _ A.in1 (tryCatch (holding [.ref (ks (j+1)),.ref (ks (j+1))] (richCompare .Lt (.ref (ks (j+1))) (.ref (ks b)) >>= _)) _ >>= _) _ _ _;refine qC (wpAny_tryCatch (qO (qC (rc_ltT (s:={s with heap:=h'}) (tp' _ hlt) (tp' _ hb) hu ?_))));refine qC (qO (wpAny_truthy_bool ?_));refine qC (wpAny_letGo (qD ?_));cases hr:ltL (kn (j+1)) (kn b) with
  |true =>
   simp only[if_true];refine qC ?_;refine wpAny_updateSeq hS' rfl (qC (wpAny_letGo ?_));rw[hname];have o2:∀a o,a≠S->h'.get? a=some o->(h'.update S (Obj.mapSeq λ_=>#[.ref (ks (j+1)),.ref (ks (j+1))])).get? a=some o:=λa o aS e=>(cj _ _ (Ne.symm aS)).trans e
   refine qD ⟨plainId_quiet F.plain_min_loop _,ih (j+1) _ (j+1) _ (by lia) hlt (st'.at λo e=>o2 I o (Ne.symm SI) e) (o2 _ _ dS (up _ _ dI hod)) (λi hi=>(tp' i hi).at λo e=>o2 _ o (hk i hi).2.2 e) hlt (by rw[argBest,<-eb,qF hr]) (dQ _ hS' rfl) λh'' tk'' hb' hk''=>?_⟩;exact hR h'' tk'' hb' λa o aI aS e=>hk'' a o aI aS (o2 a o aS (up a o aI e))
  |false =>
   simp only[Bool.false_eq_true,if_false];refine qC (wpAny_letGo ?_);rw[hname];refine qD ⟨plainId_quiet F.plain_min_loop _,ih (j+1) _ b c (by lia) hlt st' (up _ _ dI hod) tp' hb (by rw[argBest,<-eb,qE (by rw[hr];decide)]) hS' λh'' tk'' hb' hk''=>?_⟩;exact hR h'' tk'' hb' λa o aI aS e=>hk'' a o aI aS (up a o aI e)
theorem min_dictX{Q:qQ->qS->Prop}(hh:A.handled=none)(hm:(d==sysModules)=false)(hT:s.TypeIs (.ref d) "dict")(hod:s.heap.get? d=some od)(hdd:od.data=.dict es ep)(hu:A.in1.units<cLine)(n0:0<es.size)(ks:Nat->qR)(kn:Nat->qW)(hk:∀i (h:i<es.size),es[i].key=.ref (ks i))(tp:∀i,i<es.size->TupI s.heap (ks i) (kn i))
  (hQ:∀h' tk,argBest (λi j=>ltL (kn i) (kn j)) (es.size-1)<es.size->(∀a o,s.heap.get? a=some o->h'.get? a=some o)->Q (.ref (ks (argBest (λi j=>ltL (kn i) (kn j)) (es.size-1)))) {s with heap:=h',toks:=tk}):wpAny (model prog w) A (call (.builtin "min") [.ref d]) Q E s:=by
 have hname:(toString "min"++toString ".loop":String)="min.loop":=by decide
 refine call_function_tree F.kind_min F.plain_min F.entry_min (F.args_min1 _) ?_;show wpAny _ A.in1 (Builtin.Builtins.bindParams "min" ["key","default"] 0 ⟨[],[]⟩ >>= _) _ _ s;refine qC (wpAny_of_eq (show Builtin.Builtins.bindParams "min" ["key","default"] 0 ⟨[],[]⟩=pure [none,none] from rfl) ?_);refine qC (qD ?_);refine qC (keys_iter hm hT hod hdd ?_);refine qC (wpAny_newObj_type ?_);rw[hname];have ld:=aY hod
 have tl:∀i,i<es.size->ks i<s.heap.objs.size:=λi hi=>by obtain⟨o,_,_,e,_⟩:=tp i hi;exact aY e
 have lt1:∀{x:qR},x<s.heap.objs.size->x≠s.heap.objs.size/\x≠(s.heap.push {cls:=.type "dict_keyiterator",data:=.fields #[.ref d,.int 0 0,.int es.size 0,.int ep 0]}).objs.size:=λ{x} hx=>⟨bF hx,by rw[cV];exact bF (cp hx)⟩
 have SI:(s.heap.push {cls:=.type "dict_keyiterator",data:=.fields #[.ref d,.int 0 0,.int es.size 0,.int ep 0]}).objs.size≠s.heap.objs.size:=by rw[cV];exact Nat.succ_ne_self _
 have u1:∀a o,s.heap.get? a=some o->(s.heap.push {cls:=.type "dict_keyiterator",data:=.fields #[.ref d,.int 0 0,.int es.size 0,.int ep 0]}).get? a=some o:=λa o e=>aO _ e
 have i1:(s.heap.push {cls:=.type "dict_keyiterator",data:=.fields #[.ref d,.int 0 0,.int es.size 0,.int ep 0]}).IsKeyIter s.heap.objs.size d 0 es.size ep:=⟨_,af _ rfl,rfl,rfl⟩;generalize s.heap.push {cls:=.type "dict_keyiterator",data:=.fields #[.ref d,.int 0 0,.int es.size 0,.int ep 0]}=h1 at lt1 SI u1 i1⊢;have szl:∀a o,s.heap.get? a=some o->a<s.heap.objs.size:=λa o e=>aY e
 generalize s.heap.objs.size=I at *;refine qD ⟨plainId_quiet F.plain_min_loop _,?_⟩;refine codeAny_builtin F.entry_min_loop ?_;rw[Around.under_plainId F.plain_min_loop _];have hS:=af h1 (o:={cls:=.type "list",data:=.seq #[]}) rfl;have u2:∀a o,h1.get? a=some o->(h1.push {cls:=.type "list",data:=.seq #[]}).get? a=some o:=λa o e=>aO _ e
 have hk':∀i (h:i<es.size),es[i].key=.ref (ks i)/\ks i≠I/\ks i≠h1.objs.size:=λi hi=>⟨hk i hi,lt1 (tl i hi)⟩
 show wpAny _ A.in1 (seqItems? (.ref h1.objs.size) >>= _) _ _ _;refine qC (wpAny_seqItems hS rfl ?_);show wpAny _ A.in1 (tryCatch (pyNext (.ref I)) _ >>= _) _ _ _;refine qC (wpAny_tryCatch (keys_item (i1.at λo e=>u2 _ o e) (u2 _ _ (u1 _ _ hod)) hdd n0 λh' st' sb=>?_));have up:∀a o,a≠I->(h1.push {cls:=.type "list",data:=.seq #[]}).get? a=some o->h'.get? a=some o:=λa o aI e=>(sb.2 a aI).trans e
 have hS':=up _ _ SI hS;rw[hk 0 n0];show wpAny _ A.in1 (updateSeq h1.objs.size (λ_=>#[.ref (ks 0),.ref (ks 0)]) >>= _) _ _ _;refine qC ?_;refine wpAny_updateSeq hS' rfl ?_;rw[hname];have o2:∀a o,a≠h1.objs.size->h'.get? a=some o->(h'.update h1.objs.size (Obj.mapSeq λ_=>#[.ref (ks 0),.ref (ks 0)])).get? a=some o:=λa o aS e=>(cj _ _ (Ne.symm aS)).trans e
 have all:∀a o,a<I->s.heap.get? a=some o->(h'.update h1.objs.size (Obj.mapSeq λ_=>#[.ref (ks 0),.ref (ks 0)])).get? a=some o:=λa o aI e=>o2 a o (lt1 aI).2 (up a o (lt1 aI).1 (u2 a o (u1 a o e)))
 refine qD ⟨plainId_quiet F.plain_min_loop _,min_loopX hh hdd hu SI (lt1 ld).1 (lt1 ld).2 ks kn hk' _ 0 _ 0 _ rfl n0 (st'.at λo e=>o2 _ o (Ne.symm SI) e) (all _ _ ld hod) (λi hi=>(tp i hi).at λo e=>all _ o (tl i hi) e) n0 rfl (dQ _ hS' rfl) λh'' tk hb hk''=>?_⟩;exact hQ h'' tk hb λa o e=>hk'' a o (lt1 (szl a o e)).1 (lt1 (szl a o e)).2 (all a o (szl a o e) e)
end
end PySem
namespace L2
open PySem PySem.Spec PyProof.Rows
variable{X:Cx}
section
variable{P:qT}{w:qU}{K:qV}
noncomputable def VC(kvs:List (List Bf×V))(i:Nat):qW:=(kvs.getD i ([],.non)).1.map λk=>match k with|Sum.inl n=>n|_=>0
noncomputable def ZH(kvs:List (List Bf×V)):Nat:=argBest (λi j=>ltL (VC kvs i) (VC kvs j)) (kvs.length-1)
theorem Pg(hP:X.prog=P)(hw:X.w=w)(hK:X.K=K)(hc:X.calm=true)(hu:X.A.units+1<cLine):CT X (.builtin "min") (λxs H Q=>∃(d:qR) (u:HO) (kvs:List (List Bf×V)),xs=[.ref d]/\DR P w K H d u kvs/\kvs≠[]/\(∀p∈kvs,∀k∈p.1,∃n:Int,k=Sum.inl n)/\∀b p,kvs[ZH kvs]?=some p->Aa K H b (p.1.map kV)->Q (.ref b) H):=by
 subst hP hw hK;intro ad s σ H xs us Q I r h;obtain⟨d,u,kvs,rfl,ha,ne,ki,q⟩:=h;obtain⟨uu,rfl,ru⟩:=FH r;cases ru;obtain⟨bs,ys,h3,h4,rel,z,hd,dd⟩:=ha.at I;have hT:s.TypeIs (.ref d) "dict":=dd.typeIs;obtain⟨ob,es,ep,g1,g2,g3,g4,g5,g6⟩:=dd;have l1:=Paired.length rel;have l2:es.size=ys.length:=by rw[<-av,g4,aH]
 have ky:∀i (hi:i<es.size),es[i].key=.ref ((ys.getD i ([],0,.none)).2.1):=λi hi=>by have:=entry_at g4 i;rw[Array.getElem?_eq_getElem hi,aJ (by lia)]at this;have e:=Option.some.inj this;rw[e,aK,aJ (by lia)];rfl
 have at':∀i,i<es.size->∃p,p∈bs/\p.1=(ys.getD i ([],0,.none)).1/\p.2.1=(ys.getD i ([],0,.none)).2.1/\ys.getD i ([],0,.none)∈ys:=λi hi=>by obtain⟨y,hy,r1,r2,_⟩:=Ar rel (i:=i) (x:=bs[i]'(by lia)) (aJ _);rw[aK,hy];exact⟨_,bS _,r1,r2,ae hy⟩
 have l3:es.size=kvs.length:=by rw[<-h3,aH];lia
 have kg:∀i,i<es.size->kvs[i]?=some ((ys.getD i ([],0,.none)).1,(bs[i]?.map (·.2.2)).getD .non)/\VC kvs i=(ys.getD i ([],0,.none)).1.map λk=>match k with|Sum.inl n=>n|_=>0:=λi hi=>by
  obtain⟨y,hy,r1,r2,_⟩:=Ar rel (i:=i) (x:=bs[i]'(by lia)) (aJ _)
  have e:kvs[i]?=some ((ys.getD i ([],0,.none)).1,(bs[i]?.map (·.2.2)).getD .non):=by rw[<-h3,aQ,aJ (by lia),aK,hy];show some ((bs[i]'(by lia)).1,_)=some (y.1,_);rw[r1];rfl
  refine⟨e,?_⟩;unfold VC;rw[aK,e];rfl
 refine min_dictX (I.ok.hd hc) hd hT g1 g3 (show X.A.in1.units<cLine from tupleKind_room_in1 (knd:=A7 X.prog X.w) hu) ?_ (λi=>(ys.getD i ([],0,.none)).2.1) (VC kvs) ky (λi hi=>?_) λh' tk hj kk=>?_
 ·rw[l3];exact dN.mpr ne
 ·obtain⟨p,pm,e1,e2,ym⟩:=at' i hi;obtain⟨o,its,n,k1,k2,k3,k4⟩:=g5 _ ym;refine⟨o,its,n,k1,k2,k3,?_⟩;have ki':=ki (Gw p) (by rw[<-h3];exact List.mem_map_of_mem pm);rw[show (Gw p).1=(ys.getD i ([],0,.none)).1 from e1]at ki';rw[(kg i hi).2];generalize (ys.getD i ([],0,.none)).1=kk at k4 ki';generalize its.toList=vs at k4
  induction k4 with
  |nil=>exact .nil
  |cons h1 _ ih =>
   obtain⟨m,em⟩:=ki' _ ai;rcases BW h1 with⟨i',t',e0,e'⟩|⟨x,t',e0,_⟩
   ·subst e0 e';exact .cons _ _ (ih λk hk=>ki' k (aa _ hk))
   ·rw[em]at e0;cases e0
 ·obtain⟨p,pm,e1,e2,ym⟩:=at' _ hj;rw[l3]at hj;have kq:=(kg _ (by rw[l3];exact hj)).1;rw[l3]at e1 e2 ym⊢;refine⟨.ref _,H,I.kept (t':=tk) kk,rfl,q _ _ kq ?_⟩;show Aa X.K H _ ((ys.getD _ ([],0,.none)).1.map kV);rw[<-e1,<-e2];exact h4 p pm
end
end L2
namespace L2
open PySem PySem.Spec PyProof.Rows RW
variable{G t':Nat}{L M:List (qX)}{S:qX->qX->Prop}{c dl tf:qW}{f:qX->Nat}{p q:qX}{xs:List V}{α β:Type}
noncomputable def Ec(G h:Nat):Nat->qW->List Nat
 |_,[]=>[]
 |v,s::r=>(v*G+s.toNat)::Ec G h ((v*G+s.toNat)%h) r
noncomputable def JR(G h:Nat):Nat->qW->Nat
 |v,[]=>v
 |v,s::r=>JR G h ((v*G+s.toNat)%h) r
variable{v':Nat}
section
variable{h:Nat}
theorem OF(c d:qW):∀v,Ec G h v (c++d)=Ec G h v c++Ec G h (JR G h v c) d:=by
 induction c with
 |nil=>intro v;rfl
 |cons s r ih=>intro v;exact qP ((v*G+s.toNat)::·) (ih _)
theorem OG(c d:qW):∀v,JR G h v (c++d)=JR G h (JR G h v c) d:=by
 induction c with
 |nil=>intro v;rfl
 |cons s r ih=>intro v;exact ih _
theorem E9(c:qW):∀v,(Ec G h v c).length=c.length:=by
 induction c with
 |nil=>intro v;rfl
 |cons s r ih=>intro v;exact qP (·+1) (ih _)
theorem UT(h0:0<h)(c:qW)(hb:∀x∈c,0<=x):∀v,v<h->(JR G h v c:Int)=((v:Int)*(G:Int)^c.length+A5 (G:Int) c)%(h:Int):=by
 induction c with
 |nil =>
  intro v hv;show (v:Int)=((v:Int)*(G:Int)^0+0)%(h:Int);rw[bO,dm,dH,bZ (by lia) (by lia)]
 |cons s r ih =>
  intro v hv;have s0:=hb s ai;show (JR G h ((v*G+s.toNat)%h) r:Int)=_;rw[ih (λx hx=>hb x (aa _ hx)) _ (bT _ h0),Hw,bD,bM,cP,cG,ax s0,bA];rw[Int.add_emod,Int.mul_emod,Int.emod_emod,<-Int.mul_emod,<-Int.add_emod]
  congr 1
  grind
theorem JS(hc:0<c.length)(hb:∀x∈c,0<=x/\x<(G:Int))(v:Nat):(Ec G h v c).getD 0 0/G=v:=by
 cases c with
 |nil=>exact qG hc (by decide)
 |cons s r =>
  have:=hb s ai;show (v*G+s.toNat)/G=v;rw[br,Nat.mul_add_div (by lia),Nat.div_eq_of_lt (by lia),dj]
theorem SG(c:qW)(hb:∀x∈c,0<=x/\x<(G:Int)):∀v i,i<c.length->(((Ec G h v c).getD i 0%G:Nat):Int)=c.getD i 0:=by
 induction c with
 |nil=>intro v i hi;exact qG hi (dL _)
 |cons s r ih =>
  intro v i hi;have:=hb s ai;cases i with
  |zero =>
   show (((v*G+s.toNat)%G:Nat):Int)=s;rw[br,Nat.mul_add_mod,cC (by lia)];lia
  |succ i=>exact ih (λx hx=>hb x (List.mem_cons_of_mem _ hx)) _ i (by simpa using hi)
theorem SH(c:qW)(hb:∀x∈c,0<=x/\x<(G:Int)):∀v i,i+1<c.length->(Ec G h v c).getD i 0%h=(Ec G h v c).getD (i+1) 0/G:=by
 induction c with
 |nil=>intro v i hi;exact qG hi (dL _)
 |cons s r ih =>
  intro v i hi;have hr:∀x∈r,0<=x/\x<(G:Int):=λx hx=>hb x (aa _ hx)
  cases i with
  |zero=>exact (JS (by simpa using hi) hr _).symm
  |succ i=>exact ih hr _ i (by simpa using hi)
theorem SJ(c:qW):∀v,0<c.length->(Ec G h v c).getD (c.length-1) 0%h=JR G h v c:=by
 induction c with
 |nil=>intro v hv;exact qG hv (by decide)
 |cons s r ih =>
  intro v _;cases r with
  |nil=>rfl
  |cons s' r'=>exact ih _ (Nat.succ_pos _)
theorem WY(h0:0<h)(c:qW)(hb:∀x∈c,0<=x/\x<(G:Int)):∀v,v<h->∀x∈Ec G h v c,x<h*G:=by
 induction c with
 |nil=>intro v _ x hx;exact qG hx am
 |cons s r ih =>
  intro v hv x hx;have:=hb s ai;rcases aw.mp hx with e|e
  ·have:=de G (show v+1<=h from hv);rw[dz,Nat.one_mul]at this;lia
  ·exact ih (λx hx=>hb x (aa _ hx)) _ (bT _ h0) x e
theorem SK{m:Nat}(hh:h=G^m){X:Int->Nat}(st:∀j,X j%h=X (j+1)/G):∀k,k<=m+1->∀z:Int,A5 (G:Int) (CQ (λj=>((X j%G:Nat):Int)) z k)=((X (z+(k:Int)-1)%G^k:Nat):Int):=by
 intro k
 induction k with
 |zero =>
  intro _ z;rw[Nat.pow_zero,Nat.mod_one];rfl
 |succ k ih =>
  intro hk z;rw[Oz,Fh,ih (by lia) z];have e:=st (z+(k:Int)-1);rw[show z+(k:Int)-1+1=z+(k:Int) by lia]at e
  have d:X (z+(k:Int))/G%G^k=X (z+(k:Int)-1)%G^k:=by rw[<-e,hh];exact Nat.mod_mod_of_dvd _ (Nat.pow_dvd_pow _ (by lia))
  rw[show z+((k+1:Nat):Int)-1=z+(k:Int) by lia,fM,br (G^k),Nat.mod_mul,d];have:((X (z+(k:Int)-1)%G^k:Nat):Int)*(G:Int)=((G*(X (z+(k:Int)-1)%G^k):Nat):Int):=by rw[br,cG]
  lia
noncomputable def SL(G h v:Nat)(c:qW)(z:Int):Nat:=(Ec G h v c).getD (z%(c.length:Int)).toNat 0
theorem ER{g:Int}(hG:(G:Int)=g){m:Nat}(hh:h=G^m)(h0:0<h)(n1:0<c.length)(hb:∀x∈c,0<=x/\x<g){v:Nat}(hv:v<h)(cl:JR G h v c=v)(z:Int):A5 g (Ct c (m+1) z)=((SL G h v c (z+(m:Int)):Nat):Int):=by
 subst hG
 have nx:∀j,SL G h v c j%h=SL G h v c (j+1)/G:=λj=>by
  unfold SL;have a:=bq j (show (c.length:Int)≠0 by lia);have b:=bU j (show (0:Int)<(c.length:Int) by lia)
  by_cases e:(j%(c.length:Int)).toNat+1<c.length
  ·have:((j+1)%(c.length:Int)).toNat=(j%(c.length:Int)).toNat+1:=by
    have:=Int.emod_emod_of_dvd j (Int.dvd_refl (c.length:Int));have z1:(j+1)%(c.length:Int)=(j%(c.length:Int)+1)%(c.length:Int):=by rw[Int.emod_add_emod]
    rw[z1,bZ (by lia) (by lia)];lia
   rw[this];exact SH c hb v _ e
  ·have e1:(j%(c.length:Int)).toNat=c.length-1:=by lia
   have z1:(j+1)%(c.length:Int)=0:=by rw[<-Int.emod_add_emod,show j%(c.length:Int)+1=(c.length:Int) by lia,Int.emod_self]
   rw[e1,z1,SJ c v n1,cl];exact (JS n1 hb v).symm
 have sg:∀j,((SL G h v c j%G:Nat):Int)=Ek c j:=λj=>by unfold SL Ek;have a:=bq j (show (c.length:Int)≠0 by lia);have b:=bU j (show (0:Int)<(c.length:Int) by lia);exact SG c hb v _ (by lia)
 have y:=SK (m:=m) hh nx (m+1) (aP _) z;rw[show (λj=>((SL G h v c j%G:Nat):Int))=Ek c from funext sg,show z+((m+1:Nat):Int)-1=z+(m:Int) by lia]at y
 have lt:SL G h v c (z+(m:Int))<G^(m+1):=by have a:=bq (z+(m:Int)) (show (c.length:Int)≠0 by lia);have b:=bU (z+(m:Int)) (show (0:Int)<(c.length:Int) by lia);rw[fM,<-hh];refine WY h0 c hb v hv _ ?_;unfold SL;rw[aK,aJ (by rw[E9];lia)];exact bS _
 rw[cC lt]at y;exact y
theorem SM{g:Int}(hG:(G:Int)=g){m:Nat}(hh:h=G^m)(h0:0<h){c':qW}(n1:0<c.length)(len:c.length=c'.length)(hb:∀x∈c,0<=x/\x<g)(hb':∀x∈c',0<=x/\x<g){v:Nat}(hv:v<h)(hv':v'<h)(cl:JR G h v c=v)(cl':JR G h v' c'=v')(lo:Int)
  (al:∀i,i<c.length->tf.getD ((Ec G h v c).getD i 0) 0=tf.getD ((Ec G h v' c').getD i 0) 0):Dq g lo tf (m+1) c=Dq g lo tf (m+1) c':=by
 unfold Dq;rw[<-len];refine bG λi _=>?_;rw[ER hG hh h0 n1 hb hv cl,ER hG hh h0 (by lia) hb' hv' cl',aW,aW];unfold SL;rw[<-len];have a:=bq ((i:Int)+lo+(m:Int)) (show (c.length:Int)≠0 by lia);have b:=bU ((i:Int)+lo+(m:Int)) (show (0:Int)<(c.length:Int) by lia);exact al _ (by lia)
theorem Ph{g:Int}(hG:(G:Int)=g){m:Nat}(hh:h=G^m)(h0:0<h)(n1:0<c.length)(hb:∀x∈c,0<=x/\x<g){v:Nat}(hv:v<h)(hv':v'<h)(cl:JR G h v c=v)(cl':JR G h v' c=v'){i:Nat}(hi:i<c.length):(Ec G h v c).getD i 0=(Ec G h v' c).getD i 0:=by have a:=ER hG hh h0 n1 hb hv cl ((i:Int)-(m:Int));have b:=ER hG hh h0 n1 hb hv' cl' ((i:Int)-(m:Int));rw[a]at b;unfold SL at b;rw[show (i:Int)-(m:Int)+(m:Int)=(i:Int) by lia,bZ (by lia) (by lia),aW]at b;lia
end
theorem Paired.rev{F:α->β->Prop}{a:List α}{b:List β}(p:Paired F a b):Paired F a.reverse b.reverse:=by
 induction p with
 |nil=>exact .nil
 |cons r _ ih=>rw[dh,dh];exact Paired.app ih (.cons r .nil)
theorem UU{v:V}(h:xs[xs.length-1]?=some v):Iy xs (-1)=some v:=by
 have l:=(aN.mp h).1
 have z:NF xs.length (-1)=some (xs.length-1):=by
  unfold NF;rw[qE (by decide),qF (by lia)]
  congr 1
  lia
 unfold Iy;rw[z];exact h
noncomputable def Gb(g:Int)(G m:Nat)(w:qX->Nat)(p:qX):qW:=(if B5 (p.1/G,p.2/G)=(0,0) then As g ((w p/G:Nat):Int) m else[])++[((w p%G:Nat):Int)]
noncomputable def CB(g:Int)(G m:Nat)(w:qX->Nat)(way:List (qX)):qW:=way.flatMap (Gb g G m w)
noncomputable def YK(G h:Nat):Nat->Nat->List (qX)->Prop
 |_,_,[]=>True
 |v,v',p::r=>B5 (v,v')=B5 (p.1/G,p.2/G)/\YK G h (p.1%h) (p.2%h) r
noncomputable def Pi(h:Nat)(w:qX->Nat):Nat->List (qX)->Nat
 |v,[]=>v
 |_,p::r=>Pi h w (w p%h) r
theorem SN{a b c d:Nat}(e:B5 (a,b)=B5 (c,d)):(c=d/\a=b)\/(c≠d/\a=c/\b=d):=by
 unfold B5 at e;dsimp only at e
 by_cases z:c=d
 ·rw[qF z]at e;refine .inl ⟨z,?_⟩
  by_cases y:a=b
  ·exact y
  ·rw[qE y]at e;cases e;rfl
 ·rw[qE z]at e
  by_cases y:a=b
  ·rw[qF y]at e;cases e;exact qG rfl z
  ·rw[qE y]at e;cases e;exact .inr ⟨z,rfl,rfl⟩
structure Gp(G h:Nat)(tf:qW)(v v':Nat)(c c':qW)(way:List (qX))(u u':Nat):Prop where
 len:c.length=c'.length
 al:∀z∈(Ec G h v c).zip (Ec G h v' c'),tf.getD z.1 0=tf.getD z.2 0
 on:∀p∈way,p∈(Ec G h v c).zip (Ec G h v' c')
 r:JR G h v c=u
 r':JR G h v' c'=u'
theorem Gp.app{h:Nat}{v u u' x x':Nat}{c' d d':qW}{w1 w2:List (qX)}(a:Gp G h tf v v' c c' w1 u u')(b:Gp G h tf u u' d d' w2 x x'):Gp G h tf v v' (c++d) (c'++d') (w1++w2) x x':=by
 have zl:(Ec G h v c).length=(Ec G h v' c').length:=by rw[E9,E9,a.len]
 have ze:(Ec G h v (c++d)).zip (Ec G h v' (c'++d'))=(Ec G h v c).zip (Ec G h v' c')++(Ec G h u d).zip (Ec G h u' d'):=by rw[OF,OF,a.r,a.r',List.zip_append zl]
 refine⟨by rw[aU,aU,a.len,b.len],λz hz=>?_,λp hp=>?_,by rw[OG,a.r,b.r],by rw[OG,a.r',b.r']⟩
 ·rw[ze]at hz;rcases aR.mp hz with y|y
  ·exact a.al z y
  ·exact b.al z y
 ·rw[ze];rcases aR.mp hp with y|y
  ·exact aR.mpr (.inl (a.on p y))
  ·exact aR.mpr (.inr (b.on p y))
theorem JT{h:Nat}(al:tf.getD p.1 0=tf.getD p.2 0):Gp G h tf (p.1/G) (p.2/G) [((p.1%G:Nat):Int)] [((p.2%G:Nat):Int)] [p] (p.1%h) (p.2%h):=by
 have e1:p.1/G*G+((p.1%G:Nat):Int).toNat=p.1:=by rw[aW,br];exact cR p.1 G
 have e2:p.2/G*G+((p.2%G:Nat):Int).toNat=p.2:=by rw[aW,br];exact cR p.2 G
 refine⟨rfl,λz hz=>?_,λq hq=>?_,?_,?_⟩
 ·unfold Ec Ec at hz;rw[e1,e2]at hz;rw[aV.mp hz];exact al
 ·unfold Ec Ec;rw[e1,e2,aV.mp hq];exact aV.mpr rfl
 ·unfold JR JR;rw[e1]
 ·unfold JR JR;rw[e2]
theorem Mw{h:Nat}{g:Int}(hG:(G:Int)=g)(g2:2<=g){m:Nat}(hh:h=G^m)(h0:0<h){v u:Nat}(hv:v<h)(hu:u<h):Gp G h tf v v (As g (u:Int) m) (As g (u:Int) m) [] u u:=by
 have r:JR G h v (As g (u:Int) m)=u:=by
  have e:=UT (G:=G) h0 (As g (u:Int) m) (λx hx=>(CK g2 _ _ x hx).1) v hv;have hg:((h:Nat):Int)=g^m:=by rw[hh,cc,hG]
  rw[BG,hG,Dr g2 (by lia) (by lia),<-hg,Int.add_emod,Int.mul_emod_left,bC,Int.emod_emod,bZ (by lia) (by lia)]at e;lia
 refine⟨rfl,λz hz=>?_,λp hp=>qG hp am,r,r⟩
 have:z.1=z.2:=by obtain⟨i,hi⟩:=ay.mp hz;rw[eV]at hi;have:=hi.1.symm.trans hi.2;exact Option.some.inj this
 rw[this]
theorem YL{G h:Nat}{tf:qW}{g:Int}(hG:(G:Int)=g)(g2:2<=g){m:Nat}(hh:h=G^m)(h0:0<h):∀(way:List (qX)) (v v':Nat),v<h->v'<h->YK G h v v' way->(∀p∈way,p.1<h*G/\p.2<h*G/\tf.getD p.1 0=tf.getD p.2 0)->Gp G h tf v v' (CB g G m Prod.fst way) (CB g G m Prod.snd way) way (Pi h Prod.fst v way) (Pi h Prod.snd v' way):=by
 intro way
 induction way with
 |nil=>intro v v' _ _ _ _;exact⟨rfl,λz hz=>qG hz am,λz hz=>qG hz am,rfl,rfl⟩
 |cons p r ih =>
  intro v v' hv hv' ch hp;obtain⟨e,ch⟩:=ch;obtain⟨p1,p2,pt⟩:=hp p ai;have b:=ih (p.1%h) (p.2%h) (bT _ h0) (bT _ h0) ch λq hq=>hp q (aa _ hq)
  have one:Gp G h tf v v' (Gb g G m Prod.fst p) (Gb g G m Prod.snd p) [p] (p.1%h) (p.2%h):=by
   unfold Gb;rcases SN e with⟨e1,e2⟩|⟨e1,e2,e3⟩
   ·rw[qF (Cm.mpr e1),qF (Cm.mpr e1),e2];subst e2;have u1:p.1/G<h:=bj (by rw[br];exact p1);have a:=Mw (tf:=tf) hG g2 hh h0 hv u1;have c:=JT (G:=G) (h:=h) pt;rw[<-e1]at c⊢;exact a.app c
   ·rw[qE (λz=>e1 (Cm.mp z)),qE (λz=>e1 (Cm.mp z)),fW,fW,e2,e3];exact JT pt
  exact one.app b
theorem HD{g:Int}(hG:(G:Int)=g)(g2:2<=g)(m:Nat)(w:qX->Nat)(way:List (qX)):∀x∈CB g G m w way,0<=x/\x<g:=λx hx=>by
 unfold CB at hx;obtain⟨p,_,hx⟩:=d7.mp hx;unfold Gb at hx;rcases aR.mp hx with z|z
 ·by_cases y:B5 (p.1/G,p.2/G)=(0,0)
  ·rw[qF y]at z;exact CK g2 _ _ x z
  ·rw[qE y]at z;exact qG z am
 ·rw[aV.mp z];have:=bT (w p) (show 0<G by lia);lia
theorem SO{h:Nat}{g:Int}(hG:(G:Int)=g)(g2:2<=g){m:Nat}(hh:h=G^m)(h0:0<h){way:List (qX)}{p0:qX}{r:List (qX)}(e:way=p0::r){v:Nat}(hv:v<h)(hv':v'<h)(ch:YK G h v v' way)(cl:Pi h Prod.fst v way=v)(cl':Pi h Prod.snd v' way=v')(hp:∀p∈way,p.1<h*G/\p.2<h*G/\tf.getD p.1 0=tf.getD p.2 0)(ne:p0.1≠p0.2)(lo:Int):
  (CB g G m Prod.fst way).length=(CB g G m Prod.snd way).length/\CB g G m Prod.fst way≠CB g G m Prod.snd way/\Dq g lo tf (m+1) (CB g G m Prod.fst way)=Dq g lo tf (m+1) (CB g G m Prod.snd way):=by
 have a:=YL (tf:=tf) hG g2 hh h0 way v v' hv hv' ch hp;rw[cl,cl']at a;have b1:=HD hG g2 m Prod.fst way;have b2:=HD hG g2 m Prod.snd way
 have n1:0<(CB g G m Prod.fst way).length:=by rw[e];unfold CB;rw[bg,aU];unfold Gb;rw[aU,bW];lia
 generalize CB g G m Prod.fst way=c at a b1 n1⊢;generalize CB g G m Prod.snd way=c' at a b2⊢
 have zi:∀i,i<c.length->((Ec G h v c).getD i 0,(Ec G h v' c').getD i 0)∈(Ec G h v c).zip (Ec G h v' c'):=λi hi=>by
  refine ay.mpr ⟨i,eV.mpr ⟨?_,?_⟩⟩
  ·dsimp only;rw[aK,aJ (by rw[E9];exact hi)];rfl
  ·dsimp only;rw[aK,aJ (by rw[E9,<-a.len];exact hi)];rfl
 refine⟨a.len,λec=>?_,SM hG hh h0 n1 a.len b1 b2 hv hv' a.r a.r' lo λi hi=>a.al _ (zi i hi)⟩;subst ec;obtain⟨i,hi⟩:=ay.mp (a.on p0 (by rw[e];exact ai));rw[eV]at hi;have il:i<c.length:=by have:=(aN.mp hi.1).1;rw[E9]at this;exact this
 have s:=Ph hG hh h0 n1 b1 hv hv' a.r a.r' il;rw[aK,aK,hi.1,hi.2]at s;exact ne s
noncomputable def Cv{α:Type}(f:α->α):Nat->α->α
 |0,p=>p
 |k+1,p=>f (Cv f k p)
theorem FB(f:α->α)(b:Nat)(p:α):∀a,Cv f a (Cv f b p)=Cv f (a+b) p
 |0=>by rw[Nat.zero_add];rfl
 |a+1=>by rw[Nat.add_right_comm];exact qP f (FB f b p a)
theorem ES{f:α->α}{U:List α}(hU:∀p∈U,f p∈U){p:α}(hp:p∈U):∀k,Cv f k p∈U
 |0=>hp
 |k+1=>hU _ (ES hU hp k)
theorem SQ{P:Nat->Prop}:∀n,P n->∃t,t<=n/\P t/\∀k,k<t->¬P k:=by
 intro n
 induction n using Nat.strongRecOn with
 |_ n ih =>
  intro h
  by_cases z:∃k,k<n/\P k
  ·obtain⟨k,hk,hp⟩:=z;obtain⟨t,h1,h2,h3⟩:=ih k hk hp;exact⟨t,by lia,h2,h3⟩
  ·exact⟨n,aP _,h,λk hk hp=>z ⟨k,hk,hp⟩⟩
theorem WZ[DecidableEq α]{f:α->α}{U:List α}(hU:∀p∈U,f p∈U){p0:α}(h0:p0∈U):∃t,1<=t/\t<=U.length/\Cv f t (Cv f U.length p0)=Cv f U.length p0/\∀k,1<=k->k<t->Cv f k (Cv f U.length p0)≠Cv f U.length p0:=by
 have pig:∃i j,i<j/\j<=U.length/\Cv f i p0=Cv f j p0:=by
  apply Classical.byContradiction;intro no
  have nd:((List.range (U.length+1)).map λk=>Cv f k p0).Nodup:=by
   unfold List.Nodup;rw[cU];refine (fN.mp cn).imp λ{a b} ⟨_,hb,lt⟩ e=>no ⟨a,b,lt,?_,e⟩
   have:=ak.mp hb;lia
  have:=nd.length_le_of_subset (l₂:=U) λx hx=>by obtain⟨k,_,rfl⟩:=ao.mp hx;exact ES hU h0 k
  rw[aH,bI]at this;lia
 obtain⟨i,j,lt,le,e⟩:=pig
 have back:Cv f (j-i) (Cv f U.length p0)=Cv f U.length p0:=by rw[FB,show j-i+U.length=U.length-i+j by lia,<-FB,<-e,FB,show U.length-i+i=U.length by lia]
 obtain⟨t,h1,⟨h2,h3⟩,h4⟩:=SQ (P:=λt=>1<=t/\Cv f t (Cv f U.length p0)=Cv f U.length p0) (j-i) ⟨by lia,back⟩;exact⟨t,h2,by lia,h3,λk k1 kt z=>h4 k kt ⟨k1,z⟩⟩
noncomputable def TB(S:qX->qX)(f:qX->qX)(q:qX):Nat->List (qX)
 |0=>[]
 |k+1=>S (Cv f k q)::TB S f q k
theorem Mx(S f:qX->qX)(q:qX):∀t,((List.range t).map λk=>S (Cv f k q)).reverse=TB S f q t
 |0=>rfl
 |t+1=>by rw[bP,aZ,List.reverse_append,Mx S f q t];rfl
variable{U:List (qX)}
theorem SR{h:Nat}{S f:qX->qX}(hU:∀p∈U,f p∈U)(hb:∀p∈U,B5 ((S p).1/G,(S p).2/G)=f p)(he:∀p∈U,B5 ((S p).1%h,(S p).2%h)=p)(hq:q∈U):∀k v v',B5 (v,v')=Cv f k q->YK G h v v' (TB S f q k)
 |0,_,_,_=>trivial
 |k+1,v,v',e=>by have m:=ES hU hq k;exact⟨by rw[hb _ m];exact e,SR hU hb he hq k _ _ (he _ m)⟩
theorem J9(h:Nat)(w:qX->Nat)(S f:qX->qX)(q:qX):∀k v,Pi h w v (TB S f q (k+1))=w (S q)%h
 |0,_=>rfl
 |k+1,_=>J9 h w S f q k (w (S (Cv f (k+1) q))%h)
theorem My{S f:qX->qX}{x:qX}:∀{t},x∈TB S f q t->∃k,k<t/\x=S (Cv f k q)
 |0,h=>qG h am
 |t+1,h=>by
  rcases aw.mp h with z|z
  ·exact⟨t,d6 t,z⟩
  ·obtain⟨k,hk,e⟩:=My z;exact⟨k,by lia,e⟩
theorem SS{g:Int}{m:Nat}(w:qX->Nat){S f:qX->qX}(hU:∀p∈U,f p∈U)(hb:∀p∈U,B5 ((S p).1/G,(S p).2/G)=f p)(hq:q∈U):∀k,(CB g G m w (TB S f q k)).length=k+m*((List.range k).map λj=>Cv f (j+1) q).count (0,0)
 |0=>by rw[show (List.range 0).map (λj=>Cv f (j+1) q)=[] from rfl,List.count_nil];rfl
 |k+1=>by
  have ih:=SS (g:=g) (m:=m) w hU hb hq k;have e:=hb _ (ES hU hq k)
  have l:(Gb g G m w (S (Cv f k q))).length=1+(if Cv f (k+1) q=(0,0) then m else 0):=by
   unfold Gb;rw[aU,bW,e,fb];show 1+List.length (if Cv f (k+1) q=(0,0) then _ else _)=_
   by_cases z:Cv f (k+1) q=(0,0)
   ·rw[qF z,qF z,BG]
   ·rw[qE z,qE z];rfl
  show ((Gb g G m w (S (Cv f k q)))++CB g G m w (TB S f q k)).length=_;rw[aU,l,ih,bP,aZ,List.count_append,show[k].map (λj=>Cv f (j+1) q)=[Cv f (k+1) q] from rfl,List.count_singleton,Nat.mul_add]
  by_cases z:Cv f (k+1) q=(0,0)
  ·rw[qF z,qF (by rw[z];rfl)];lia
  ·rw[qE z,qE (by rw[beq_iff_eq];exact z)];lia
theorem Wa{g:Int}{m:Nat}(w:qX->Nat){S f:qX->qX}(hU:∀p∈U,f p∈U)(hb:∀p∈U,B5 ((S p).1/G,(S p).2/G)=f p)(hq:q∈U){t:Nat}(cy:Cv f t q=q)(no:∀k,1<=k->k<t->Cv f k q≠q):t<=(CB g G m w (TB S f q t)).length/\(CB g G m w (TB S f q t)).length<=t+m:=by
 rw[SS w hU hb hq t]
 have nd:((List.range t).map λj=>Cv f (j+1) q).Nodup:=by unfold List.Nodup;rw[cU];refine (fN.mp cn).imp λ{a b} ⟨_,hb,lt⟩ e=>?_;have bt:=ak.mp hb;have:=qP (Cv f (t-(b+1))) e;rw[FB,FB,show t-(b+1)+(b+1)=t by lia,cy]at this;exact no _ (by lia) (by lia) this
 have c:=List.nodup_iff_count.mp nd (0,0);have:=Nat.mul_le_mul_left m c;lia
noncomputable def LU(G:Nat)(wd:qX):qX:=B5 (wd.1/G,wd.2/G)
noncomputable def C4(h:Nat)(wd:qX):qX:=B5 (wd.1%h,wd.2%h)
noncomputable def Bs(G:Nat)(M L:List (qX)):List (qX):=L.filter λwd=>decide (LU G wd∉M)
noncomputable def CH(h:Nat)(L:List (qX)):List (qX):=L.foldl (λA wd=>if C4 h wd∈A then A else A++[C4 h wd]) []
noncomputable def HI(h:Nat)(L:List (qX))(e:qX):qX:=(L.find? λwd=>decide (C4 h wd=e)).getD (0,0)
theorem F3(h:Nat)(L:List (qX))(wd:qX):CH h (L++[wd])=if C4 h wd∈CH h L then CH h L else CH h L++[C4 h wd]:=by unfold CH;rw[fK];rfl
theorem LV{P:List α->Prop}(h0:P [])(hs:∀l a,P l->P (l++[a]))(l:List α):P l:=by
 rw[<-fS l]
 induction l.reverse with
 |nil=>exact h0
 |cons a r ih=>rw[dh];exact hs _ _ ih
theorem ET{h:Nat}:∀e,e∈CH h L↔∃wd∈L,C4 h wd=e:=by
 refine LV (P:=λL=>∀e,e∈CH h L↔∃wd∈L,C4 h wd=e) (λe=>⟨λz=>qG z am,λ⟨_,z,_⟩=>qG z am⟩) (λL a ih e=>?_) L;rw[F3];constructor
 ·intro z
  by_cases y:C4 h a∈CH h L
  ·rw[qF y]at z;obtain⟨wd,h1,h2⟩:=(ih e).mp z;exact⟨wd,aR.mpr (.inl h1),h2⟩
  ·rw[qE y]at z;rcases aR.mp z with x|x
   ·obtain⟨wd,h1,h2⟩:=(ih e).mp x;exact⟨wd,aR.mpr (.inl h1),h2⟩
   ·exact⟨a,aR.mpr (.inr ai),(aV.mp x).symm⟩
 ·rintro⟨wd,h1,h2⟩
  by_cases y:C4 h a∈CH h L
  ·rw[qF y];rcases aR.mp h1 with x|x
   ·exact (ih e).mpr ⟨wd,x,h2⟩
   ·rw[<-h2,aV.mp x];exact y
  ·rw[qE y];rcases aR.mp h1 with x|x
   ·exact aR.mpr (.inl ((ih e).mpr ⟨wd,x,h2⟩))
   ·exact aR.mpr (.inr (by rw[<-h2,aV.mp x];exact ai))
theorem D7{h:Nat}(L:List (qX)):(CH h L).Nodup:=by
 refine LV (P:=λL=>(CH h L).Nodup) cQ (λL a ih=>?_) L;rw[F3]
 by_cases y:C4 h a∈CH h L
 ·rw[qF y];exact ih
 ·rw[qE y];exact cD.mpr ⟨ih,bu.mpr ⟨am,cQ⟩,λx hx z hz e=>y (by rw[<-aV.mp hz,<-e];exact hx)⟩
theorem OH{h:Nat}{e:qX}(he:e∈CH h L):∃wd,(L.find? λwd=>decide (C4 h wd=e))=some wd/\wd∈L/\C4 h wd=e:=by
 obtain⟨wd,h1,h2⟩:=(ET e).mp he;cases z:L.find? λwd=>decide (C4 h wd=e) with
 |none=>exact qG (qH h2) (List.find?_eq_none.mp z wd h1)
 |some x=>exact⟨x,rfl,List.mem_of_find?_eq_some z,qN (List.find?_some (p:=λwd=>decide (C4 h wd=e)) z)⟩
theorem Ex{h:Nat}{e:qX}(he:e∈CH h L):HI h L e∈L/\C4 h (HI h L e)=e:=by obtain⟨wd,z,h1,h2⟩:=OH he;unfold HI;rw[z];exact⟨h1,h2⟩
theorem OI{h:Nat}{e:qX}(he:e∈CH h L)(wd:qX):HI h (L++[wd]) e=HI h L e:=by obtain⟨x,z,_⟩:=OH he;unfold HI;rw[List.find?_append,z];rfl
variable{wd:qX}
theorem UV{h:Nat}{e:qX}(he:e∉CH h L)(hw:C4 h wd=e):HI h (L++[wd]) e=wd:=by
 have z:(L.find? λwd=>decide (C4 h wd=e))=none:=List.find?_eq_none.mpr λx hx y=>he ((ET e).mpr ⟨x,hx,qN y⟩)
 unfold HI;rw[List.find?_append,z,List.find?_cons_of_pos (p:=λwd=>decide (C4 h wd=e)) (qH hw)];rfl
theorem SU{i:Nat}(h:L[i]?=some wd):Bs G M (L.take (i+1))=Bs G M (L.take i)++(if LU G wd∉M then[wd] else[]):=by
 unfold Bs;rw[Dy h]
 by_cases z:LU G wd∈M
 ·rw[qE (by rw[decide_eq_true_eq];exact λy=>y z),qE (λy=>y z)]
 ·rw[qF (qH z),qF z]
noncomputable def OJ(G h:Nat)(L:List (qX))(e:qX):qX:=LU G (HI h L e)
noncomputable def Pj(A:List (qX)):Nat:=ZH (Ae A (A.map λ_=>V.non))
theorem YM{A:List (qX)}{vs:List V}(h:vs.length=A.length):ZH (Ae A vs)=Pj A:=by
 have e:VC (Ae A vs)=VC (Ae A (A.map λ_=>V.non)):=by
  funext i
  unfold VC
  by_cases z:i<A.length
  ·have g:∀vs:List V,vs.length=A.length->((Ae A vs).getD i ([],.non)).1=BL (A[i]):=λvs hv=>by
    rw[aK];unfold Ae;rw[dA,aJ z,aJ (by lia)];rfl
   rw[g vs h,g _ (by rw[aH])]
  ·rw[aK,aK,cu (by rw[BD h];lia),cu (by rw[BD (by rw[aH])];lia)]
 unfold Pj ZH;rw[e,BD h,BD (by rw[aH])]
noncomputable def Iq(G h:Nat)(L:List (qX)):qX:=Cv (OJ G h L) (CH h L).length ((CH h L).getD (Pj (CH h L)) (0,0))
structure LW(G h:Nat)(L:List (qX))(t:Nat):Prop where
 one:1<=t
 le:t<=(CH h L).length
 cy:Cv (OJ G h L) t (Iq G h L)=Iq G h L
 no:∀k,1<=k->k<t->Cv (OJ G h L) k (Iq G h L)≠Iq G h L
theorem LW.uniq{h:Nat}{t:Nat}(a:LW G h L t)(b:LW G h L t'):t=t':=by
 rcases Nat.lt_trichotomy t t' with z|z|z
 ·exact qG a.cy (b.no t a.one z)
 ·exact z
 ·exact qG b.cy (a.no t' b.one z)
noncomputable def KE(G h:Nat)(L:List (qX))(t:Nat):List (qX):=TB (HI h L) (OJ G h L) (Iq G h L) t
theorem KC.same{h:Nat}{M':List (qX)}{f':qX->Nat}(r:KC h S M f)(r':KC h S M' f'):∀(n:Nat) (p:qX),p∈M->f p<=n->p∈M':=by
 intro n
 induction n with
 |zero =>
  intro p hp hn;apply Classical.byContradiction;intro z;obtain⟨q,s,qa,nq⟩:=r'.rest p (r.sub p hp) z;have:=(r.low p hp q s).2;lia
 |succ n ih =>
  intro p hp hn;apply Classical.byContradiction;intro z;obtain⟨q,s,qa,nq⟩:=r'.rest p (r.sub p hp) z;obtain⟨h1,h2⟩:=r.low p hp q s;exact nq (ih q h1 (by lia))
theorem SV{h:Nat}{M':List (qX)}{f':qX->Nat}(r:KC h S M f)(r':KC h S M' f')(L:List (qX)):Bs G M L=Bs G M' L:=by unfold Bs;refine List.filter_congr λwd _=>decide_eq_decide.mpr (not_congr ⟨λz=>r.same r' _ _ z (aP _),λz=>r'.same r _ _ z (aP _)⟩)
section
variable{h:Nat}
theorem FY(hl:dl.length=h*G):wd∈Bs G M (Aj dl)↔wd.1<h*G/\wd.2<h*G/\wd.1≠wd.2/\dl.getD wd.1 0=dl.getD wd.2 0/\LU G wd∉M:=by
 unfold Bs;obtain⟨a,b⟩:=wd;rw[bB,Et,decide_eq_true_eq,hl];constructor
 ·rintro⟨⟨h1,h2,h3,h4⟩,h5⟩;exact⟨h1,h2,h3,h4,h5⟩
 ·rintro⟨h1,h2,h3,h4,h5⟩;exact⟨⟨h1,h2,h3,h4⟩,h5⟩
theorem VD(h0:0<h)(hl:dl.length=h*G)(rk:KC h (Ie G h dl) M f)(pa:p∈Be h)(np:p∉M):p∈CH h (Bs G M (Aj dl)):=by obtain⟨q,s,qa,nq⟩:=rk.rest p pa np;obtain⟨a,b,ha,hb,ne,e,h1,h2⟩:=s;refine (ET p).mpr ⟨(a,b),(FY hl).mpr ⟨ha,hb,ne,e,?_⟩,h2.symm⟩;unfold LU;rw[<-h1];exact nq
theorem LX(h0:0<h)(hl:dl.length=h*G)(rk:KC h (Ie G h dl) M f):∀p∈CH h (Bs G M (Aj dl)),OJ G h (Bs G M (Aj dl)) p∈CH h (Bs G M (Aj dl)):=λp hp=>by obtain⟨h1,h2⟩:=Ex hp;obtain⟨k1,k2,k3,k4,k5⟩:=(FY hl).mp h1;exact VD h0 hl rk (B9 h0 ⟨_,_,k1,k2,k3,k4,rfl,rfl⟩).1 k5
theorem OK(h0:0<h)(hl:dl.length=h*G)(rk:KC h (Ie G h dl) M f)(mn:Pj (CH h (Bs G M (Aj dl)))<(CH h (Bs G M (Aj dl))).length):Iq G h (Bs G M (Aj dl))∈CH h (Bs G M (Aj dl)):=by refine ES (LX h0 hl rk) ?_ _;rw[aK,aJ mn];exact bS _
theorem Wc(h0:0<h)(hl:dl.length=h*G)(rk:KC h (Ie G h dl) M f)(mn:Pj (CH h (Bs G M (Aj dl)))<(CH h (Bs G M (Aj dl))).length):∃t,LW G h (Bs G M (Aj dl)) t:=by
 have m:(CH h (Bs G M (Aj dl))).getD (Pj (CH h (Bs G M (Aj dl)))) (0,0)∈CH h (Bs G M (Aj dl)):=by rw[aK,aJ mn];exact bS _
 obtain⟨t,h1,h2,h3,h4⟩:=WZ (LX h0 hl rk) m;exact⟨t,h1,h2,h3,h4⟩
end
end L2
namespace L2
open PySem PySem.Spec PyProof.Rows
variable{D:Fc}{H:Hp}{X:Cx}{a:qR}{dl:qW}{tl to:TE}{xs:List V}{α β:Type}{σ:St}
section
variable(K:qV)
theorem C8(h:X.K=K:=by rfl):Uh X (TR K):=h▸NJ
theorem Bi(h:X.K=K:=by rfl):Uh X (TU K):=h▸P6
theorem Gc(h:X.K=K:=by rfl):CT X (.builtin "len") (λxs H Q=>∃p ys,xs=[V.ref p]/\(Af K H p ys\/Aa K H p ys)/\Q (.int ((ys.length:Nat):Int)) H):=h▸Fg
theorem Mz{tg l:Expr}(hl:PE X l tl)(h:X.K=K:=by rfl):PI X tg l (P0 K tl):=h▸M7 hl
theorem Pk{o e:Expr}{t:TA}{apos cpos:Pos}(ho:PE X o to)(ha:PA X [e] t)(hK:X.K=K:=by rfl)
  (hbase:attributeBase o "append" X.env (eval o X.env)=eval o X.env:=by rfl)
  (hfew:((backTo cpos (starEach [e] X.env)).all (λx=>!x.1)&&(backToKw cpos (keywordEach [] X.env)).all (λx=>x.1.isSome)&&decide (([e]:List Expr).length+([]:List Keyword).length+(if ([]:List Keyword).isEmpty then 0 else 1)<30))=true:=by rfl)
  (hline:(apos.endLine==cpos.line)=true:=by rfl) (hs:starEach [e] X.env=(false,eval e X.env)::starEach [] X.env:=by rfl) (hplain:(backTo cpos (starEach [] X.env)).any (·.1)=false:=by rfl):
  PE X (.Call (.Attribute o "append" apos) [e] [] cpos) (ZC K "list" Jl to t):=by
 subst hK;exact KT d4 PySem.F.slot_list_append PySem.F.type_list_append GG ho ha hbase hfew hline hs hplain
end
theorem CC{t u:TS}(Z:St->Hp->Prop)(h1:∀N:St->Hp->Prop,(∀σ' H',Z σ' H'->N σ' H')->t {D with nx:=N} σ H)(h2:∀G:St->Hp->Prop,(∀σ H,u D σ H->G σ H)->∀σ' H',Z σ' H'->G σ' H'):Lr t u D σ H:=Z6 Z h1 (h2 _ λ_ _ z=>z)
theorem IT{Pv:Nat->St->Hp->Prop}{g:TG}{tb:TS}{R:VK}{B0:St->Hp->Prop}
  (h:∀(C B:St->Hp->Prop) i x,∀G:St->Hp->Prop,(∀σ H,(g x σ H λσ2 H2=>tb {nx:=Pv (i+1),rt:=R,bk:=B,ct:=C} σ2 H2)->G σ H)->∀σ H,xs[i]?=some x->Pv i σ H->G σ H):
  ∀i x σ H,xs[i]?=some x->Pv i σ H->g x σ H λσ2 H2=>tb {nx:=Pv (i+1),rt:=R,bk:=B0,ct:=Pv (i+1)} σ2 H2:=λi x σ H hx p=>h _ _ i x _ (λ_ _ z=>z) σ H hx p
theorem DM{n:Nat}{f:Nat->V}{Pv:Nat->St->Hp->Prop}{g:TG}{tb:TS}{R:VK}{B0:St->Hp->Prop}
  (h:∀(C B:St->Hp->Prop) i,∀G:St->Hp->Prop,(∀σ H,(g (f i) σ H λσ2 H2=>tb {nx:=Pv (i+1),rt:=R,bk:=B,ct:=C} σ2 H2)->G σ H)->∀σ H,i<n->Pv i σ H->G σ H):
  ∀i σ H,i<n->Pv i σ H->g (f i) σ H λσ2 H2=>tb {nx:=Pv (i+1),rt:=R,bk:=B0,ct:=Pv (i+1)} σ2 H2:=λi σ H hx p=>h _ _ i _ (λ_ _ z=>z) σ H hx p
theorem M4{A:Nat->V->α->β->Prop}{c:Nat->V->Prop}{Pv:Nat->α->β->Prop}(h:∀i x,∀G:α->β->Prop,(∀a b,A i x a b->G a b)->∀a b,c i x->Pv i a b->G a b):∀i x a b,c i x->Pv i a b->A i x a b:=λi x a b hc p=>h i x _ (λ_ _ z=>z) a b hc p
theorem Gd{A:Nat->α->β->Prop}{c:Nat->Prop}{Pv:Nat->α->β->Prop}(h:∀i,∀G:α->β->Prop,(∀a b,A i a b->G a b)->∀a b,c i->Pv i a b->G a b):∀i a b,c i->Pv i a b->A i a b:=λi a b hc p=>h i _ (λ_ _ z=>z) a b hc p
theorem Ba.el{r:qR}{g lo:Int}{P:Prop}(h:Ba H r g lo dl)(k:∀tb,H r=some (.tup [.int g,.int lo,.ref tb])->H tb=some (.tup (dl.map V.int))->P):P:=by obtain⟨tb,h1,h2⟩:=h;exact k tb h1 h2
theorem Dh{K:qV}{i:Int}{v:V}{Q:VK}(h:Af K H a xs)(hi:Iy xs i=some v)(q:Q v H):TR K (.ref a) (.int i) H Q:=⟨a,xs,i,v,rfl,rfl,h,hi,q⟩
theorem B6{K:qV}{i:Int}{v:V}{Q:VK}(h:Aa K H a xs)(hi:Iy xs i=some v)(q:Q v H):TU K (.ref a) (.int i) H Q:=⟨a,xs,i,v,rfl,rfl,h,hi,q⟩
theorem LY{g:Int}(hg:2<=g)(lo:Int){m:Nat}{P:Prop}(k:∀lf tf mf,BE g lo dl m lf tf mf->P):P:=by obtain⟨lf,tf,mf,fw⟩:=Qx hg lo (dl:=dl) (m:=m);exact k lf tf mf fw
end L2
set_option hygiene false in
local macro_rules|`(tactic|walk_at "")=>`(tactic| ((try dsimp only[L2.QJ,L2.Lr,L2.Pu,L2.TF,L2.Ud,L2.Xc,L2.Z0,L2.Vc,L2.tC,L2.Ee,L2.Ii,L2.Vo,L2.Vn,L2.Oc,L2.Fd,L2.Ua,L2.ZC,L2.ZB,L2.Jl,L2.Xl,L2.QI,L2.Ur,L2.Te,L2.Cz,Option.join_some,L2.Xd,L2.Jn,L2.QO,L2.ZT,L2.Xz,L2.Vt,L2.Xi,L2.Xh,L2.Zy,L2.tB,L2.UY,L2.Xj,L2.UZ,L2.rI,L2.TJ,L2.rU,L2.TY,L2.QE,L2.Z4,L2.Uf,L2.NE,L2.DA,L2.Vk,L2.P1,L2.Vl,L2.Z1,L2.Z2,L2.Na,L2.Nc,L2.Nd,L2.Nb,List.map_cons,List.map_nil,List.length_cons,List.length_nil,List.cons_append,List.nil_append,List.replicate,List.getElem?_cons_zero,List.getElem?_cons_succ,List.set_cons_zero,List.set_cons_succ,Nat.reduceAdd,Nat.reduceSub]);try simp only[L2.QJ,L2.Ur,L2.Cz,Option.join_some,L2.ZT,L2.QE,L2.DA,L2.Vk,L2.P1,L2.Vl,L2.Na,L2.Nc,L2.Nd,L2.Nb,List.map_cons,List.map_nil,List.length_cons,List.length_nil,List.cons_append,List.nil_append,List.replicate,List.getElem?_cons_zero,List.getElem?_cons_succ,List.set_cons_zero,List.set_cons_succ,Nat.reduceAdd,Nat.reduceSub,Option.some.injEq,L2.V.int.injEq,L2.V.bl.injEq,L2.V.ref.injEq,L2.V.str.injEq,List.cons.injEq,and_true,true_and,exists_eq_left',exists_eq_left,exists_eq_right,exists_and_left,exists_and_right,exists_eq,and_assoc,if_true,if_false,reduceIte,reduceCtorEq,not_true_eq_false,not_false_eq_true,Bool.false_eq_true,Bool.not_true,Bool.not_false,decide_eq_true_eq,Bool.not_eq_true',decide_eq_false_iff_not]))
namespace K52
open PySem L2 RW
def top(i:Nat):Stmt:=PySem.Challenge.pw_rowrules_k52_whole_one_to_one_or_twins.main.body.getD i (.Pass ⟨0,0,0,0⟩)
abbrev Wd:Stmt:=top 8
abbrev We:Stmt:=top 9
abbrev Wf:Stmt:=top 10
abbrev Zc:Stmt:=top 11
abbrev Wg:Stmt:=top 12
abbrev Wh:Stmt:=top 13
abbrev Wi:Stmt:=top 16
abbrev Wj:Stmt:=top 17
abbrev Zd:Stmt:=top 18
abbrev Ze:Stmt:=top 19
abbrev Wk:Stmt:=top 20
abbrev Wm:Stmt:=top 21
abbrev Wn:Stmt:=top 22
abbrev Wo:Stmt:=top 23
abbrev Wp:Stmt:=top 25
abbrev Wq:Stmt:=top 26
abbrev Zf:Stmt:=top 27
abbrev Wr:Stmt:=top 28
abbrev Ws:Stmt:=top 29
abbrev Wt:Stmt:=top 30
abbrev Wu:Stmt:=top 33
abbrev Wv:Stmt:=top 35
abbrev Ww:Stmt:=top 36
abbrev Wx:Stmt:=top 39
abbrev Wy:Stmt:=top 40
abbrev Wz:Stmt:=top 41
abbrev W0:Stmt:=top 42
abbrev W1:Stmt:=top 43
abbrev W2:Stmt:=top 44
abbrev W3:Stmt:=top 45
abbrev W4:Stmt:=top 46
abbrev W5:Stmt:=top 47
abbrev W6:Stmt:=top 48
abbrev W7:Stmt:=top 49
abbrev W8:Stmt:=top 50
abbrev W9:Stmt:=top 52
abbrev Zg:Stmt:=top 53
abbrev Zh:Stmt:=top 54
abbrev XA:Stmt:=top 55
abbrev XB:Stmt:=top 56
abbrev Zi:Stmt:=top 57
abbrev XC:Stmt:=top 58
abbrev XD:Stmt:=top 59
abbrev XE:Stmt:=top 60
abbrev Zj:Stmt:=top 61
abbrev XF:Stmt:=top 62
abbrev XG:Stmt:=top 63
abbrev XH:Stmt:=top 64
abbrev XI:Stmt:=top 65
abbrev XJ:Stmt:=top 66
abbrev XM:Stmt:=top 67
abbrev Zk:Stmt:=top 68
abbrev XN:Stmt:=top 69
abbrev XO:Stmt:=top 70
abbrev XQ:Stmt:=top 71
abbrev XR:Stmt:=top 72
abbrev Zl:Stmt:=top 73
abbrev XS:Stmt:=top 74
abbrev XT:Stmt:=top 75
abbrev XU:Stmt:=top 76
abbrev UW:Stmt:=top 77
set_option genInjectivity false
def DX(K:qV)(mg:Str->Option qQ)(x:Str)(st:Stmt)(f:qR):Prop:=mg x=some (.ref f)/\∃fd,NK K x x st f fd
theorem dX{K:qV}{h:Heap}{mg:Str->Option qQ}{x:Str}{st:Stmt}{f:qR}(X:K.In h)(G:h.Ns mainGlobals mg)(z:AX K x st f):DX K mg x st f:=⟨PySem.W.mg_of X G z.2,z.1⟩
structure Z9 where
 (f_46 f_47 f_21 f_4 f_40 f_50 f_20 f_26 f_5 f_9 f_59 f_54 f_39 f_56 f_51 f_45 f_1 f_38 f_53 f_49 f_55 f_10 f_22 f_48 f_37 f_28 f_44 f_52 f_24 f_25 f_57 f_23 f_41 f_27 f_58 f_19 f_2 f_7 f_13 f_36 f_8 f_12 f_33 f_17 f_0 f_30 f_34 f_29 f_43 f_32 f_35 f_6 f_11 f_16 f_14 f_42 f_3 f_15 f_31 f_18 f_60:qR)
 (k_EVEN:qR)
 (cc_29 p_29:qR)
structure CP(K:qV)(mg:Str->Option qQ)(t:Z9):Prop where
 m_EVEN:mg "EVEN"=some (.ref t.k_EVEN)
 q_EVEN:Nl K t.k_EVEN [0,0]=true
 d_46:DX K mg "is_whole" Wd t.f_46
 d_47:DX K mg "is_sign" We t.f_47
 d_21:DX K mg "check_word" Wf t.f_21
 d_4:DX K mg "check_length" Zc t.f_4
 d_40:DX K mg "number_of" Wg t.f_40
 d_50:DX K mg "word_of" Wh t.f_50
 d_20:DX K mg "check_head" Wi t.f_20
 d_26:DX K mg "places_for" Wj t.f_26
 d_5:DX K mg "table_length" Zd t.f_5
 d_9:DX K mg "check_table" Ze t.f_9
 d_59:DX K mg "rule" Wk t.f_59
 d_54:DX K mg "places" Wm t.f_54
 d_39:DX K mg "next_sign" Wn t.f_39
 d_56:DX K mg "heads" Wo t.f_56
 d_51:DX K mg "counts" Wp t.f_51
 d_45:DX K mg "counting" Wq t.f_45
 d_1:DX K mg "sign_or_nought" Zf t.f_1
 d_38:DX K mg "by_window" Wr t.f_38
 d_53:DX K mg "narrow" Ws t.f_53
 d_49:DX K mg "widened" Wt t.f_49
 d_55:DX K mg "frame" Wu t.f_55
 d_10:DX K mg "turned_back" Wv t.f_10
 d_22:DX K mg "most_steps" Ww t.f_22
 d_48:DX K mg "pair_of" Wx t.f_48
 d_37:DX K mg "all_pairs" Wy t.f_37
 d_28:DX K mg "word_pairs" Wz t.f_28
 d_44:DX K mg "begin_of" W0 t.f_44
 d_52:DX K mg "end_of" W1 t.f_52
 d_24:DX K mg "pair_nexts" W2 t.f_24
 d_25:DX K mg "pair_ranks" W3 t.f_25
 d_57:DX K mg "ranks" W4 t.f_57
 d_23:DX K mg "one_to_one" W5 t.f_23
 d_41:DX K mg "way_round" W6 t.f_41
 d_27:DX K mg "ring_along" W7 t.f_27
 d_58:DX K mg "twins" W8 t.f_58
 d_19:DX K mg "_law_whole" W9 t.f_19
 d_2:DX K mg "_law_cell_at" Zg t.f_2
 d_7:DX K mg "_law_stream" Zh t.f_7
 d_13:DX K mg "_law_power" XA t.f_13
 d_36:DX K mg "_law_word" XB t.f_36
 d_8:DX K mg "_law_tracks" Zi t.f_8
 d_12:DX K mg "_law_marks" XC t.f_12
 d_33:DX K mg "_law_sums" XD t.f_33
 d_17:DX K mg "_law_three" XE t.f_17
 d_0:DX K mg "_law_steps_down" Zj t.f_0
 d_30:DX K mg "_law_flip" XF t.f_30
 d_34:DX K mg "_law_told" XG t.f_34
 m_29:mg "_law_core"=some (.ref t.f_29)
 d_29:∃fd,WQ K "_law_core" "_law_core" XH t.f_29 t.cc_29 t.p_29 fd
 hd_29:PySem.W.codeHdIn K t.cc_29 t.p_29=true
 d_43:DX K mg "_law_low" XI t.f_43
 d_32:DX K mg "_law_seen" XJ t.f_32
 d_35:DX K mg "_law_wide" XM t.f_35
 d_6:DX K mg "_law_counts" Zk t.f_6
 d_11:DX K mg "_law_frame" XN t.f_11
 d_16:DX K mg "_law_steps" XO t.f_16
 d_14:DX K mg "_law_ranks" XQ t.f_14
 d_42:DX K mg "_law_any" XR t.f_42
 d_3:DX K mg "_law_spoiled" Zl t.f_3
 d_15:DX K mg "_law_rises" XS t.f_15
 d_31:DX K mg "_law_once" XT t.f_31
 d_18:DX K mg "_law_twins" XU t.f_18
 d_60:DX K mg "law" UW t.f_60
 z_len:mg "len"=none
 z_list:mg "list"=none
 z_reversed:mg "reversed"=none
 z_isinstance:mg "isinstance"=none
 z_range:mg "range"=none
 z_int:mg "int"=none
 z_bool:mg "bool"=none
 z_ValueError:mg "ValueError"=none
 z_tuple:mg "tuple"=none
 z_enumerate:mg "enumerate"=none
 z_min:mg "min"=none
 z_max:mg "max"=none
 z_sorted:mg "sorted"=none
 z_all:mg "all"=none
 z_zip:mg "zip"=none
 g_LONGEST_TABLE:∃k,mg "LONGEST_TABLE"=some (.int 256 k)
 g_MOST_NODES:∃k,mg "MOST_NODES"=some (.int 9 k)
abbrev LP:Pos:=⟨303,47,303,91⟩
inductive IU(vs:List V)(H:Hp)(Q:VK)(z3_:XK):Prop
 |m (r:qR) (g lo:Int) (dl:qW) (m j:Nat):vs=[.ref r,.int ((m:Nat):Int),.int ((j:Nat):Int)]->2<=g->g<=9->Ba H r g lo dl->(dl.length:Int)=g^m->j<m->m<=8->g^m<=256->Q (.bl (BI g dl (g^(m-1-j)))) H->IU vs H Q z3_
inductive OL(vs:List V)(H:Hp)(Q:VK)(z3_:XK):Prop
 |m (c:Int):vs=[.int c]->(∀lo:Int,Q (.int lo) H)->OL vs H Q z3_
inductive LZ(pos:Pos)(Pt:qR)(vs:List V)(H:Hp)(Q:VK)(z3_:XK):Prop
 |m (c1 c2 lo:Int):vs=[.int c1,.int c2,.int lo]->Ck pos (UE "_law_core") Pt H->(∀(p r:qR) (H':Hp) (g:Int) (dl:qW) (m:Nat) (d:Int) (tf:qW) (mf top:Nat),De Pt H H'->Ck pos (UE "_law_core") Pt H'->H' p=some (.lst [.ref r,.int ((m:Nat):Int)])->Av H' r g lo dl m->EQ g dl m (Z8 c1 c2) d tf mf top->Q (.ref p) H')->LZ pos Pt vs H Q z3_
noncomputable def Dm(g:Int):Int:=([6,4,3,3,3,2,2,2]:qW).getD (g-2).toNat 0
theorem JU{g:Int}(g2:2<=g)(g9:g<=9):2<=Dm g/\Dm g<=7/\(g<3->4<=Dm g)/\g^(Dm g).toNat<=256:=by
 obtain rfl|rfl|rfl|rfl|rfl|rfl|rfl|rfl:g=2\/g=3\/g=4\/g=5\/g=6\/g=7\/g=8\/g=9:=by lia
 all_goals exact⟨by decide,by decide,by decide,by decide⟩
inductive JV(vs:List V)(H:Hp)(Q:VK)(z3_:XK):Prop
 |m (r:qR) (g lo:Int) (dl:qW) (m:Nat) (c:Int):vs=[.ref r,.int c]->Av H r g lo dl m->0<=c->(∀(r':qR) (at':Nat) (v:Int) (H':Hp),AG H H'->at'<dl.length->0<=v->v<g->v≠dl.getD at' 0->Av H' r' g lo (dl.set at' v) m->Q (.ref r') H')->JV vs H Q z3_
theorem EQ.spoil{g:Int}{dl:qW}{m:Nat}{tw:Bool}{d:Int}{tf:qW}{mf top:Nat}(c:EQ g dl m tw d tf mf top)(lo:Int){at':Nat}(ha:at'<dl.length){v:Int}(hv:0<=v/\v<g)(ne:v≠dl.getD at' 0):∃lf' tf' mf',BE g lo (dl.set at' v) m lf' tf' mf'/\GZ g tf' mf':=by
 obtain⟨rk,hr,ht⟩:=c.rise;refine LY c.g2 lo (dl:=dl.set at' v) (m:=m) λlf' tf' mf' fw'=>?_;have hl':((dl.set at' v).length:Int)=g^m:=by rw[dJ];exact c.len
 refine⟨lf',tf',mf',fw',?_,LM c.g2 c.len c.m1 c.tb (c.fr lo lo dl m c.len (λ_ _=>rfl)) hr ha hv ne fw'⟩;have l:=fw'.le c.g2 hl' hl' (λ_ _=>rfl);have t2:=fw'.two
 by_cases z:mf'<=m
 ·have:=Bn c.g2 (show mf'-1<=m-1 by lia);have:=c.nd;lia
 ·obtain rfl:mf'=2:=by lia
  show g^1<=9;rw[bA,bO,cI];exact c.g9
theorem De.seq{K:qV}{P:qR}{H H':Hp}{pos:Pos}{q:Str}(e:De P H H')(t:Ck pos q P H){a:qR}{xs:List V}(h:Af K H a xs):Af K H' a xs:=by
 rcases h with (h|⟨o,h⟩)|h
 ·exact .inl (.inl (e.get t h λ_ z=>by cases z))
 ·exact .inl (.inr ⟨o,e.get t h λ_ z=>by cases z⟩)
 ·exact .inr h
def Zm(K:qV)(H:Hp)(p D:qR)(h:Nat)(f:qX->Nat):Prop:=H p=some (.tup [.int ((f (0,0):Nat):Int),.ref D])/\∃ts:List qR,H D=some (.lst (ts.map V.ref))/\Paired (λt ns=>Aa K H t (ns.map V.int)) ts ((Ew h).map (WW f))/\∀t∈ts,∃ys,H t=some (.tup ys)
inductive SW(vs:List V)(H:Hp)(Q:VK)(z3_:XK):Prop
 |m (r:qR) (g lo:Int) (dl:qW):vs=[.ref r,.int lo,.int (lo+1)]->Av H r g lo dl 1->(∀r' H',AG H H'->Av H' r' g lo (Dn g lo dl 1 lo 2) 2->Q (.ref r') H')->SW vs H Q z3_
inductive La(vs:List V)(H:Hp)(Q:VK)(z3_:XK):Prop
 |m (r:qR) (g lo:Int) (dl:qW) (m:Nat) (lf:Int) (tf:qW) (mf:Nat):vs=[.ref r]->Av H r g lo dl m->BE g lo dl m lf tf mf->g^(mf-1)<=9->(∀r' H',AG H H'->Av H' r' g lf tf mf->Q (.ref r') H')->La vs H Q z3_
inductive JW(K:qV)(vs:List V)(H:Hp)(Q:VK)(z3_:XK):Prop
 |m (r:qR) (g lo:Int) (dl:qW) (m:Nat) (lf:Int) (tf:qW) (mf:Nat):vs=[.ref r]->Av H r g lo dl m->BE g lo dl m lf tf mf->g^(mf-1)<=9->(GZ g tf mf->∀H',AG H H'->Q .non H')->(∀p D H' M f,AG H H'->H p=none->H D=none->Zm K H' p D (tf.length/g.toNat) f->KC (tf.length/g.toNat) (Ie g.toNat (tf.length/g.toNat) tf) M f->(∀p∈Be (tf.length/g.toNat),p∈M)->Q (.ref p) H')->JW K vs H Q z3_
inductive OM(vs:List V)(H:Hp)(Q:VK)(z3_:XK):Prop
 |m (r:qR) (g lo:Int) (dl:qW) (m:Nat) (lf:Int) (tf:qW) (mf:Nat):vs=[.ref r]->Av H r g lo dl m->BE g lo dl m lf tf mf->g^(mf-1)<=9->(GZ g tf mf->∀H',AG H H'->Q (.bl false) H')->(∀rk,FE g.toNat (tf.length/g.toNat) tf rk->∀H',AG H H'->Q (.bl true) H')->OM vs H Q z3_
inductive JX(vs:List V)(H:Hp)(Q:VK)(z3_:XK):Prop
 |m (r:qR) (g lo:Int) (dl:qW) (m:Nat) (lf:Int) (tf:qW) (mf:Nat):vs=[.ref r,.int ((m:Nat):Int)]->Av H r g lo dl m->BE g lo dl m lf tf mf->(∀p D H',AG H H'->H' p=some (.lst [.ref D,.int ((mf:Nat):Int)])->H' D=some (.lst (tf.map V.int))->Q (.ref p) H')->JX vs H Q z3_
abbrev FZ(K:qV)(H:Hp):List qR->List ((qX)×(qX))->Prop:=Paired λt s=>∃a b:qR,H t=some (.tup [.ref a,.ref b])/\Aa K H a (Ik s.1)/\Aa K H b (Ik s.2)
theorem FZ.same{K:qV}{H H':Hp}{ts:List qR}{L:List ((qX)×(qX))}(e:AG H H')(h:FZ K H ts L):FZ K H' ts L:=Paired.mapP h λ_ _ ⟨a,b,z1,z2,z3⟩=>⟨a,b,e _ _ z1,z2.same' e,z3.same' e⟩
theorem FZ.updL{K:qV}{H:Hp}{ts:List qR}{L:List ((qX)×(qX))}{d:qR}{ys:List V}{u:HO}(hd:H d=some (.lst ys))(h:FZ K H ts L):FZ K (AV H d u) ts L:=Paired.mapP h λ_ _ ⟨a,b,z1,z2,z3⟩=>⟨a,b,by rw[AL (Cc z1 hd λy=>nomatch y)];exact z1,z2.updL hd,z3.updL hd⟩
theorem FZ.updX{P:qT}{w:qU}{K:qV}{H:Hp}{ts:List qR}{L:List ((qX)×(qX))}{d:qR}{kvs:List (List Bf×V)}(z:DW P w K H d kvs)(h:FZ K H ts L)(u:HO):FZ K (AV H d u) ts L:=by obtain⟨bs,h1,_⟩:=z;exact Paired.mapP h λ_ _ ⟨a,b,z1,z2,z3⟩=>⟨a,b,by rw[AL (Cc z1 h1 λy=>nomatch y)];exact z1,z2.upd' h1,z3.upd' h1⟩
inductive JY(K:qV)(vs:List V)(H:Hp)(Q:VK)(z3_:XK):Prop
 |m (D:qR) (g:Int) (tf:qW) (mf:Nat):vs=[.ref D,.int g,.int ((mf:Nat):Int)]->2<=g->g<=9->2<=mf->mf<=8->(tf.length:Int)=g^mf->g^mf<=256->(∀n∈tf,0<=n/\n<g)->H D=some (.lst (tf.map V.int))->(∀p H' ts L,AG H H'->H p=none->H' p=some (.lst (ts.map V.ref))->FZ K H' ts L->(∀a b,(a,b)∈L↔Ie g.toNat (tf.length/g.toNat) tf a b)->Q (.ref p) H')->JY K vs H Q z3_
noncomputable def Sa(h:Nat)(f:qX->Nat):List (List Bf×V):=Ae (Be h) ((Be h).map λp=>V.int ((f p:Nat):Int))
inductive Sb(P:qT)(w:qU)(K:qV)(vs:List V)(H:Hp)(Q:VK)(z3_:XK):Prop
 |m (p D:qR) (h:Nat) (f:qX->Nat):vs=[.ref p,.int ((h:Nat):Int)]->1<=h->h<=9->Zm K H p D h f->(∀d H',AG H H'->H d=none->DW P w K H' d (Sa h f)->Q (.ref d) H')->Sb P w K vs H Q z3_
theorem Lb{g:Int}(g2:2<=g)(g9:g<=9){m:Nat}(m4:m<=4)(m3:3<=g->m<=2):(m:Int)<=Dm g:=by
 have z:=JU g2 g9
 by_cases c:3<=g
 ·have:=m3 c;lia
 ·have:=z.2.2.1 (by lia);lia
inductive Lc(vs:List V)(H:Hp)(Q:VK)(z3_:XK):Prop
 |m (r:qR) (g lo:Int) (dl:qW) (m:Nat) (c:Int):vs=[.ref r,.int ((m:Nat):Int),.int c]->Av H r g lo dl m->(m:Int)<=Dm g->(∀(r':qR) (lo':Int) (tab':qW) (M:Nat) (H':Hp),AG H H'->Av H' r' g lo' tab' M->CO g lo' tab' M lo dl m->Q (.ref r') H')->Lc vs H Q z3_
inductive Sc(K:qV)(vs:List V)(H:Hp)(Q:VK)(z3_:XK):Prop
 |m (r:qR) (g lo:Int) (tf:qW) (mf:Nat):vs=[.ref r]->Av H r g lo tf mf->g^(mf-1)<=9->(∀rk,¬FE g.toNat (tf.length/g.toNat) tf rk)->(∀p ps H' M f t,AG H H'->H p=none->H' p=some (.lst (ps.map V.ref))->Br K H' ps (KE g.toNat (tf.length/g.toNat) (Bs g.toNat M (Aj tf)) t)->KC (tf.length/g.toNat) (Ie g.toNat (tf.length/g.toNat) tf) M f->Pj (CH (tf.length/g.toNat) (Bs g.toNat M (Aj tf)))<(CH (tf.length/g.toNat) (Bs g.toNat M (Aj tf))).length->LW g.toNat (tf.length/g.toNat) (Bs g.toNat M (Aj tf)) t->Q (.ref p) H')->Sc K vs H Q z3_
noncomputable def KH(k:Nat):qX->Nat:=if k=0 then Prod.fst else Prod.snd
inductive ON(K:qV)(vs:List V)(H:Hp)(Q:VK)(z3_:XK):Prop
 |m (r p:qR) (g lo:Int) (tf:qW) (mf k:Nat) (ps:List qR) (way:List (qX)):vs=[.ref r,.ref p,.int ((k:Nat):Int)]->Av H r g lo tf mf->k<2->H p=some (.lst (ps.map V.ref))->Br K H ps way->way.length<=100->(∀q∈way,q.1<tf.length/\q.2<tf.length)->(∀D H',AG H H'->H D=none->H' D=some (.lst ((CB g g.toNat (mf-1) (KH k) way).map V.int))->Q (.ref D) H')->ON K vs H Q z3_
inductive JZ(vs:List V)(H:Hp)(Q:VK)(z3_:XK):Prop
 |m (r:qR) (g lo:Int) (dl:qW) (m:Nat) (lf:Int) (tf:qW) (mf:Nat):vs=[.ref r]->Av H r g lo dl m->BE g lo dl m lf tf mf->g^(mf-1)<=9->((∃rk,FE g.toNat (tf.length/g.toNat) tf rk)->∀H',AG H H'->Q .non H')->(∀p a b H' M f t,AG H H'->H a=none->H b=none->a≠b->H' p=some (.tup [.ref a,.ref b])->H' a=some (.lst ((CB g g.toNat (mf-1) Prod.fst (KE g.toNat (tf.length/g.toNat) (Bs g.toNat M (Aj tf)) t)).map V.int))->H' b=some (.lst ((CB g g.toNat (mf-1) Prod.snd (KE g.toNat (tf.length/g.toNat) (Bs g.toNat M (Aj tf)) t)).map V.int))->KC (tf.length/g.toNat) (Ie g.toNat (tf.length/g.toNat) tf) M f->Pj (CH (tf.length/g.toNat) (Bs g.toNat M (Aj tf)))<(CH (tf.length/g.toNat) (Bs g.toNat M (Aj tf))).length->LW g.toNat (tf.length/g.toNat) (Bs g.toNat M (Aj tf)) t->Q (.ref p) H')->JZ vs H Q z3_
inductive OO(K:qV)(vs:List V)(H:Hp)(Q:VK)(z3_:XK):Prop
 |m (a:qR) (ns:qW) (lo:Int):vs=[.ref a,.int lo]->Af K H a (ns.map V.int)->ns.length<=63->(∀(p r:qR) (H':Hp) (g:Int) (dl:qW) (m:Nat),AG H H'->H' p=some (.lst [.ref r,.int ((m:Nat):Int)])->Av H' r g lo dl m->(m:Int)<=Dm g->g^(m-1)<=9->Q (.ref p) H')->OO K vs H Q z3_
inductive Ja(K:qV)(vs:List V)(H:Hp)(Q:VK)(z3_:XK):Prop
 |m (p D DT:qR) (g:Int) (tf:qW) (mf:Nat) (M:List (qX)) (f:qX->Nat):vs=[.ref p,.ref DT,.int g,.int ((mf:Nat):Int)]->2<=g->g<=9->2<=mf->mf<=8->(tf.length:Int)=g^mf->g^mf<=256->g^(mf-1)<=9->(∀n∈tf,0<=n/\n<g)->H DT=some (.lst (tf.map V.int))->Zm K H p D (tf.length/g.toNat) f->KC (tf.length/g.toNat) (Ie g.toNat (tf.length/g.toNat) tf) M f->(∀p∈Be (tf.length/g.toNat),p∈M)->(∀H',AG H H'->Q (.bl true) H')->Ja K vs H Q z3_
inductive Se(vs:List V)(H:Hp)(Q:VK)(z3_:XK):Prop
 |m (p a b r:qR) (g lo:Int) (dl:qW) (m:Nat) (c c':qW):vs=[.ref p,.ref r,.int ((m:Nat):Int)]->H p=some (.tup [.ref a,.ref b])->H a=some (.lst (c.map V.int))->H b=some (.lst (c'.map V.int))->Av H r g lo dl m->1<=c.length->c.length<=100->c.length=c'.length->(∀x∈c,0<=x/\x<g)->(∀x∈c',0<=x/\x<g)->c≠c'->Dq g lo dl m c=Dq g lo dl m c'->(∀H',AG H H'->Q (.bl true) H')->Se vs H Q z3_
noncomputable def EM(g:Int):Int:=([4,3,2,2,2,2,2,2]:qW).getD (g-2).toNat 0
theorem YN{g:Int}(g2:2<=g)(g9:g<=9):1<=EM g/\EM g<=4/\EM g<=Dm g/\g^(EM g).toNat<=256/\g^((EM g).toNat-1)<=9:=by
 obtain rfl|rfl|rfl|rfl|rfl|rfl|rfl|rfl:g=2\/g=3\/g=4\/g=5\/g=6\/g=7\/g=8\/g=9:=by lia
 all_goals exact⟨by decide,by decide,by decide,by decide,by decide⟩
theorem XV{h:Nat}(h0:0<h)(h9:h<=9){G:Nat}{tf:qW}{M:List (qX)}(hl:tf.length=h*G):(CH h (Bs G M (Aj tf))).length<=82:=by
 refine bK ((D7 _).length_le_of_subset (l₂:=Be h) λe he=>?_) ?_
 ·obtain⟨wd,h1,h2⟩:=(ET e).mp he;obtain⟨k1,k2,k3,k4,_⟩:=(FY hl).mp h1;rw[<-h2];exact (B9 h0 ⟨wd.1,wd.2,k1,k2,k3,k4,rfl,rfl⟩).2
 ·show ((0,0)::Ew h).length<=82;rw[bD,<-Mv h0];have:=J8 h (h*h);have:=cS h9 h9;lia
theorem Pl{g lo:Int}{dl:qW}{m:Nat}(g2:2<=g)(len:(dl.length:Int)=g^m){lf:Int}{tf:qW}{mf:Nat}(fw:BE g lo dl m lf tf mf)(sm:g^(mf-1)<=9)(mf8:mf<=8){M:List (qX)}{f:qX->Nat}{t:Nat}(rk:KC (tf.length/g.toNat) (Ie g.toNat (tf.length/g.toNat) tf) M f)(mn:Pj (CH (tf.length/g.toNat) (Bs g.toNat M (Aj tf)))<(CH (tf.length/g.toNat) (Bs g.toNat M (Aj tf))).length)(per:LW g.toNat (tf.length/g.toNat) (Bs g.toNat M (Aj tf)) t){c c':qW}(ec:c=CB g g.toNat (mf-1) Prod.fst (KE g.toNat (tf.length/g.toNat) (Bs g.toNat M (Aj tf)) t))(ec':c'=CB g g.toNat (mf-1) Prod.snd (KE g.toNat (tf.length/g.toNat) (Bs g.toNat M (Aj tf)) t)):
  1<=c.length/\c.length<=100/\c.length=c'.length/\(∀x∈c,0<=x/\x<g)/\(∀x∈c',0<=x/\x<g)/\c≠c'/\Dq g lo dl m c=Dq g lo dl m c':=by
 obtain⟨al,tl⟩:=BE.alike g2 len fw;have mf2:=fw.two;have hd9:=BC g2 tl (show 1<=mf by lia);have hl:=C7 g2 tl (show 1<=mf by lia);have gp:=RW.Ah g2 (mf-1);have hG:((g.toNat:Nat):Int)=g:=by lia
 obtain⟨h,hh⟩:∃h:Nat,h=tf.length/g.toNat:=⟨_,rfl⟩;rw[<-hh]at rk mn per ec ec' hd9 hl;have h0:0<h:=by lia
 have h9:h<=9:=by lia
 have hp:h=g.toNat^(mf-1):=by
  have:((h:Nat):Int)=((g.toNat^(mf-1):Nat):Int):=by rw[cc,hG];exact hd9.1
  lia
 have hU:=LX h0 hl rk;have sU:=OK h0 hl rk mn;have hb:∀p∈CH h (Bs g.toNat M (Aj tf)),B5 ((HI h (Bs g.toNat M (Aj tf)) p).1/g.toNat,(HI h (Bs g.toNat M (Aj tf)) p).2/g.toNat)=OJ g.toNat h (Bs g.toNat M (Aj tf)) p:=λp _=>rfl
 have he:∀p∈CH h (Bs g.toNat M (Aj tf)),B5 ((HI h (Bs g.toNat M (Aj tf)) p).1%h,(HI h (Bs g.toNat M (Aj tf)) p).2%h)=p:=λp hp=>(Ex hp).2
 have t1:=per.one;obtain⟨t',rfl⟩:∃t',t=t'+1:=⟨t-1,by lia⟩
 have mem:∀p∈KE g.toNat h (Bs g.toNat M (Aj tf)) (t'+1),p.1<h*g.toNat/\p.2<h*g.toNat/\tf.getD p.1 0=tf.getD p.2 0/\p.1≠p.2:=λp hp=>by obtain⟨k,_,rfl⟩:=My hp;obtain⟨a1,a2,a3,a4,_⟩:=(FY hl).mp (Ex (ES hU sU k)).1;exact⟨a1,a2,a4,a3⟩
 have ch:YK g.toNat h ((HI h (Bs g.toNat M (Aj tf)) (Iq g.toNat h (Bs g.toNat M (Aj tf)))).1%h) ((HI h (Bs g.toNat M (Aj tf)) (Iq g.toNat h (Bs g.toNat M (Aj tf)))).2%h) (KE g.toNat h (Bs g.toNat M (Aj tf)) (t'+1)):=SR hU hb he sU (t'+1) _ _ (by rw[he _ sU];exact per.cy.symm);have tw:=SO (tf:=tf) hG g2 hp h0 (way:=KE g.toNat h (Bs g.toNat M (Aj tf)) (t'+1)) (p0:=HI h (Bs g.toNat M (Aj tf)) (Cv (OJ g.toNat h (Bs g.toNat M (Aj tf))) t' (Iq g.toNat h (Bs g.toNat M (Aj tf))))) rfl (bT _ h0) (bT _ h0) ch (J9 ..) (J9 ..) (λp hp=>⟨(mem p hp).1,(mem p hp).2.1,(mem p hp).2.2.1⟩) (mem _ ai).2.2.2 lf;have few:=Wa (g:=g) (m:=mf-1) Prod.fst hU hb sU per.cy per.no;have k82:=XV (M:=M) h0 h9 hl;have le:=per.le;rw[show mf-1+1=mf by lia]at tw;have b1:=HD hG g2 (mf-1) Prod.fst (KE g.toNat h (Bs g.toNat M (Aj tf)) (t'+1));have b2:=HD hG g2 (mf-1) Prod.snd (KE g.toNat h (Bs g.toNat M (Aj tf)) (t'+1));have few':t'+1<=(CB g g.toNat (mf-1) Prod.fst (KE g.toNat h (Bs g.toNat M (Aj tf)) (t'+1))).length/\(CB g g.toNat (mf-1) Prod.fst (KE g.toNat h (Bs g.toNat M (Aj tf)) (t'+1))).length<=t'+1+(mf-1):=few;rw[<-ec]at tw b1 few';rw[<-ec']at tw b2;refine⟨by lia,by lia,tw.1,b1,b2,tw.2.1,?_⟩;rw[<-Fq g2 al b1,<-Fq g2 al b2];exact tw.2.2
noncomputable def Ld(c c':qW):PyData:=.tuple [.list (c.map PyData.int),.list (c'.map PyData.int)]
theorem IV:∀ns:qW,PyData.depthAll (ns.map PyData.int)=0
 |[]=>by simp only[List.map_nil,PyData.depthAll]
 |n::ns=>by simp only[List.map_cons,PyData.depthAll,PyData.depth,IV ns,Nat.max_self]
theorem IW(c c':qW):(Ld c c').canLay0=true:=by unfold Ld;simp only[PyData.canLay0,PyData.canLayAll0,HU,Bool.and_self]
theorem Sf(c c':qW):(Ld c c').depth<=60:=by unfold Ld;simp only[PyData.depth,PyData.depthAll,IV];lia
theorem Sh(c c':qW):PyData.eqv (Ld c c') (Ld c c')=true:=by have:=IW c c';unfold Ld at this⊢;simp only[PyData.canLay0]at this;exact SeqAt.eqvAll_refl _ this
theorem OP{K:qV}{H:Hp}{p a b:qR}{c c':qW}(h:H p=some (.tup [.ref a,.ref b]))(ha:H a=some (.lst (c.map V.int)))(hb:H b=some (.lst (c'.map V.int))):FD K H (.ref p) (Ld c c'):=.tup (Aa.of h) (.cons (.lst (Af.of ha) (Fi c)) (.cons (.lst (Af.of hb) (Fi c')) .nil))
section
variable{P:qT}{w:qU}{K:qV}{mg:Str->Option qQ}{base:Heap}{t:Z9}
theorem YO:AO ["thing"] ["thing"] (AI Wd):=CS
theorem Fb{α:Type}{Z F:α->Hp->Prop}(h:∀G:α->Hp->Prop,(∀σ H,F σ H->G σ H)->∀σ H,Z σ H->G σ H):∀σ H,Z σ H->F σ H:=h F λ_ _ y=>y
theorem Pp{α:Type}{A Z F:α->Hp->Prop}(h:∀G:α->Hp->Prop,(∀σ H,F σ H->G σ H)->∀σ H,A σ H->Z σ H->G σ H):∀σ H,A σ H->Z σ H->F σ H:=h F λ_ _ y=>y
theorem YQ{α:Type}{A B Z F:α->Hp->Prop}(h:∀G:α->Hp->Prop,(∀σ H,F σ H->G σ H)->∀σ H,A σ H->B σ H->Z σ H->G σ H):∀σ H,A σ H->B σ H->Z σ H->F σ H:=h F λ_ _ y=>y
theorem Si(T:CP K mg t) :CJ P w K mg base 1 t.f_46 ["thing"] (Jo):=by
 refine Am T.d_46.2 YO λvs H Q E h=>?_;obtain⟨x,rfl,kd,q⟩:=h;refine⟨rfl,λfi A outer s hr=>?_⟩;refine⟨_,(AF (AN (F7 (Lp K rfl T.z_isinstance (pv 0) (EU rfl T.z_int PyProof.Rows.boot_int)) (F6 (Ps (Lp K rfl T.z_isinstance (pv 0) (EU rfl T.z_bool PyProof.Rows.boot_bool))))))),?_⟩;walk_at "";cases x with
 |int i =>
  refine⟨_,.of (.int i),_,Ui,?_⟩;rw[qF rfl];exact⟨_,.of (.int i),_,Uj,q⟩
 |bl b =>
  refine⟨_,.of (.bl b),_,Uk,?_⟩;rw[qF rfl];exact⟨_,.of (.bl b),_,QP,q⟩
 |non =>
  refine⟨_,.of .non,_,Ul,?_⟩;rw[qE (by decide)];exact q
 |str y =>
  refine⟨_,.of (.str y),_,Um,?_⟩;rw[qE (by decide)];exact q
 |ref a =>
  obtain⟨xs,z|z⟩:=kd
  ·refine⟨_,.of (.lst z),_,Uo,?_⟩;rw[qE (by decide)];exact q
  ·refine⟨_,.of (.tup z),_,Uq,?_⟩;rw[qE (by decide)];exact q
 |byt _=>exact kd.elim
 |flt _=>exact kd.elim
 |ty _=>exact kd.elim
theorem YR:AO ["thing","signs"] ["thing","signs"] (AI We):=CS
theorem VE(T:CP K mg t):CJ P w K mg base 2 t.f_47 ["thing","signs"] (QU):=by
 refine Am T.d_47.2 YR λvs H Q E h=>?_;obtain⟨x,g,rfl,kd,q⟩:=h;refine⟨rfl,λfi A outer s hr=>?_⟩;refine⟨_,(AF (AN (F7 (AR hr (Si T) T.d_46.1 (AA (pv 0) AC)) (F7 (CU NC AD (pv 0) (AQ _)) (F6 (CU DP (pv 0) (pv 1) (AQ _))))))),?_⟩;walk_at "";refine⟨x,rfl,kd,?_⟩;cases x with
 |int i =>
  walk_at "";simp only[Sz]at q
  by_cases h:0<=i
  ·rw[qH h,Bool.true_and]at q;rw[qF h];exact q
  ·rw[qI h,Bool.false_and]at q;rw[qE h];exact q
 |_=>exact⟨false,rfl,Vs q⟩
theorem Sj:AO ["word","signs","at","thing"] ["word","signs"] (AI Wf):=CS
theorem VF(T:CP K mg t):CJ P w K mg base 3 t.f_21 ["word","signs"] (LL K):=by
 refine Am T.d_21.2 Sj λvs H Q E h=>?_;obtain⟨a,xs,g,rfl,hS,kd,h⟩:=h;refine⟨rfl,λfi A outer s hr=>?_⟩;refine⟨_,(AF (Ay PassesOwn.never rfl (Ta rfl T.z_enumerate (AA (pv 0) AC)) (YC K 2 rfl (BH (A3 2 Sj) (BH (A3 3 Sj) Cy))) (AF (Ak (Bz (Bg (AR hr (VE T) T.d_47.1 (AA (pv 3) (AA (pv 1) AC))))) (AF D1) AT)))),?_⟩;refine⟨_,rfl,a,xs,rfl,hS,?_⟩;refine QN (xs:=xs) (λi σ H1=>Ce g (xs.take i)=none/\(∃x2 x3,σ=[some (.ref a),some (.int g),x2,x3])/\AG H H1) ⟨rfl,⟨none,none,rfl⟩,AG.refl _⟩ (λi σ H1 _ z=>z.2.2.seq hS) ?_ ?_
 ·intro i x p;refine Pp ?_;rintro _ hGo σ H1 hx ⟨hb,⟨x2,x3,rfl⟩,e⟩;refine hGo _ _ λhp=>?_;clear hGo;have e2:AG H (AV H1 p (.tup [.int ((i:Nat):Int),x])):=e.trans (AG.new hp _);refine⟨p,_,rfl,Aa.of AE,rfl,_,_,rfl,_,_,rfl,rfl,?_⟩;walk_at "";refine⟨x,g,rfl,(kd x (ae hx)).same e2,?_⟩;cases hs:Sz g x with
  |true =>
   walk_at "";exact⟨L5 hb hx hs,⟨_,rfl⟩,e2⟩
  |false =>
   walk_at "";rw[L6 hb hx hs]at h;exact h
 ·refine Fb ?_;rintro _ hGo σ H1 ⟨hb,_,e⟩;refine hGo _ _ ?_;clear hGo;rw[bR]at hb;rw[hb]at h;exact h H1 e
theorem Zn:AO ["word","signs","many"] ["word","signs","many"] (AI Zc):=CS
theorem Zo(T:CP K mg t):CJ P w K mg base 4 t.f_4 ["word","signs","many"] (Go K):=by
 refine Am T.d_4.2 Zn λvs H Q E h=>?_;obtain⟨a,xs,g,m,rfl,hS,kd,h⟩:=h;refine⟨rfl,λfi A outer s hr=>?_⟩
 refine⟨_,(AB (BF (AR hr (VF T) T.d_21.1 (AA (HM Jj (pv 0) Jf (Jg (pv 2))) (AA (pv 1) AC))))
  (AF (Ak (AK Do (Ad (Gc K) rfl T.z_len bJ (AA (pv 0) AC)) (pv 2) (AQ _)) (AF D1) AT))),?_⟩
 walk_at "";refine L9 hS λp H1 e1 _ h1=>?_;rw[NS]at h1;refine⟨p,_,g,rfl,Af.of h1,λx hx=>(kd x (dc hx)).same e1,?_⟩;unfold Ej at h;cases hb:Ce g (xs.take m) with
 |some i =>
  rw[hb]at h;exact h
 |none =>
  rw[hb]at h;dsimp only at h;intro H2 e2;refine⟨xs,.inl ((e1.trans e2).seq hS),?_⟩
  by_cases hl:xs.length=m
  ·rw[qF hl]at h;rw[qE (by lia)];exact h _ (e1.trans e2)
  ·rw[qE hl]at h;exact h.elim
theorem OQ:AO ["word","signs","number","sign"] ["word","signs"] (AI Wg):=CS
theorem YS(T:CP K mg t):CJ P w K mg base 4 t.f_40 ["word","signs"] (JL K):=by
 refine Am T.d_40.2 OQ λvs H Q E h=>?_;obtain⟨a,xs,g,rfl,g2,g9,hS,kd,h⟩:=h;refine⟨rfl,λfi A outer s hr=>?_⟩
 refine⟨_,(AB (BF (AR hr (VF T) T.d_21.1 (AA (pv 0) (AA (pv 1) AC))))
  (AB (AU 2 OQ AD)
  (AB (Ay PassesOwn.never rfl (Mz K (pv 0)) (A3 3 OQ) (AF (AU 2 OQ (AH Ag (AH BO (pv 2) (pv 1)) (pv 3)))))
  (AF (AN (pv 2)))))),?_⟩
 walk_at "";refine⟨a,xs,g,rfl,hS,kd,?_⟩;cases hb:Ce g xs with
 |some i =>
  rw[hb]at h;exact h
 |none =>
  rw[hb]at h;obtain⟨ns,rfl,hns⟩:=HS hb;intro H1 e;refine⟨_,rfl,a,rfl,⟨_,e.seq hS⟩,?_⟩;refine Bl (xs:=ns.map V.int) (λi σ H2=>(∃x3,σ=[some (.ref a),some (.int g),some (.int (A5 g (ns.take i))),x3])/\H2=H1) ⟨⟨none,rfl⟩,rfl⟩ (λi σ H2 _ z=>by rw[z.2];exact e.seq hS) ?_ ?_
  ·refine IT ?_;rintro _ _ i x _ hGo σ H2 hx ⟨⟨x3,rfl⟩,rfl⟩;refine hGo _ _ ?_;obtain⟨n,hn,rfl⟩:=Eg hx;walk_at "";refine⟨.inr ⟨by lia,by lia⟩,?_⟩;rw[Dp hn];exact⟨rfl,_,rfl⟩
  ·refine Fb ?_;rintro _ hGo σ H2 ⟨⟨x3,rfl⟩,rfl⟩;refine hGo _ _ ?_;clear hGo;walk_at "";rw[aH,bR];exact h ns rfl _ e
theorem OR:AO ["number","signs","many","backwards","rest"] ["number","signs","many"] (AI Wh):=CS
theorem VG(T:CP K mg t) :CJ P w K mg base 1 t.f_50 ["number","signs","many"] (N7):=by
 refine Am T.d_50.2 OR λvs H Q E h=>?_;obtain⟨n,g,m,rfl,g2,g9,m0,m3,hbad,hgood⟩:=h;refine⟨rfl,λfi A outer s hr=>?_⟩
 refine⟨_,(AB (Ak (AK DP (pv 0) AD (AQ _)) (AF D1) AT)
  (AB (AU 3 OR (BB AC))
  (AB (AU 4 OR (pv 0))
  (AB (Ed PassesOwn.never (AK DP (Ad (Gc K) rfl T.z_len bJ (AA (pv 3) AC)) (pv 2) (AQ _)) (AB (BF (Pk K (pv 3) (AA (AH Ab (pv 4) (pv 1)) AC)))
  (AF (AU 4 OR (AH Ax (pv 4) (pv 1))))))
  (AB (Ak (AK FG (pv 4) AD (AQ _)) (AF D1) AT)
  (AF (AN (YD K rfl rfl T.z_reversed rfl T.z_list (AA (pv 3) AC))))))))),?_⟩
 walk_at ""
 by_cases hn:n<0
 ·rw[qF hn];exact hbad (.inl hn)
 rw[qE hn];refine⟨az _,λp hp=>?_⟩
 refine Fe (λσ H1=>∃i:Nat,i<=m.toNat/\σ=[some (.int n),some (.int g),some (.int m),some (.ref p),some (.int (dr g n i))]/\H1=AV H p (.lst ((DC g n i).map V.int)))
  (λσ H1=>match H1 p with|some (.lst xs)=>m.toNat-xs.length|_=>0) ⟨0,az _,rfl,rfl⟩ ?_ ?_
 ·refine Fb ?_;rintro _ hGo σ H1 ⟨i,hi,rfl,rfl⟩;refine hGo _ _ ?_;clear hGo;walk_at "";have hl:((DC g n i).map V.int).length=i:=by rw[aH,DU]
  refine⟨_,.inl (Af.of AE),?_⟩;rw[hl]
  by_cases hlt:(i:Int)<m
  ·rw[qF hlt];refine⟨.inl ⟨_,Af.of AE⟩,by lia,_,AE,by rw[hl];exact Ac (by lia),by lia,by lia,⟨i+1,by lia,rfl,?_⟩,?_⟩
   ·rw[Ey,DC,aZ];rfl
   ·rw[AE,AE];show m.toNat-(List.map V.int (DC g n i)++[V.int (dr g n i%g)]).length<m.toNat-(List.map V.int (DC g n i)).length;rw[aU,hl];simp only[List.length_cons,List.length_nil];lia
  ·rw[qE hlt];have ei:i=m.toNat:=by lia
   by_cases hd:0<dr g n i
   ·rw[qF hd];refine hbad (.inr (Int.not_lt.mp λz=>?_));rw[ei,NQ g2 (by lia) z]at hd;lia
   ·rw[qE hd];refine⟨_,Af.of AE,λr hr'=>hgood (by lia) (Int.not_le.mp λz=>?_) r _ ⟨(AG.new hp _).trans (AG.new hr' _),(QK hr').2,?_⟩⟩
    ·rw[ei]at hd;exact hd (V3 g2 z)
    ·rw[AE,ei,List.map_reverse]
 ·intro σ H1 Q1 Q2 hq;walk_at "";rintro⟨v,h1,p,h2,x,h3,v2,h4,x1,h5,h6⟩;exact⟨v,h1,p,h2,x,h3,v2,h4,x1,h5,hq _ _ h6⟩
theorem YT:AO ["signs","low"] ["signs","low"] (AI Wi):=CS
theorem YU(T:CP K mg t):CJ P w K mg base 2 t.f_20 ["signs","low"] (N8):=by
 refine Am T.d_20.2 YT λvs H Q E h=>?_;obtain⟨g,lo,rfl,g2,g9,q⟩:=h;refine⟨rfl,λfi A outer s hr=>?_⟩
 refine⟨_,(AB (Ak (PW.pt (CD (Bz (Bg (AR hr (Si T) T.d_46.1 (AA (pv 0) AC)))) (CD (AK DP (pv 0) AD (AQ _)) (CN (AK FG (pv 0) AD (AQ _)))))) (AF D1) AT)
  (AF (Ak (Bz (Bg (AR hr (Si T) T.d_46.1 (AA (pv 1) AC)))) (AF D1) AT))),?_⟩
 walk_at "";refine⟨.int g,rfl,trivial,true,rfl,?_⟩;rw[qE (by decide)];rw[qE (by lia),qE (by lia)];refine⟨.int lo,rfl,trivial,true,rfl,?_⟩;rw[qE (by decide)];exact q
theorem Le:AO ["signs","length","many","words"] ["signs","length"] (AI Wj):=CS
theorem VH(T:CP K mg t) :CJ P w K mg base 1 t.f_26 ["signs","length"] (Gg):=by
 refine Am T.d_26.2 Le λvs H Q E h=>?_;obtain⟨g,n,rfl,g2,g9,hy,hn⟩:=h;refine⟨rfl,λfi A outer s hr=>?_⟩
 refine⟨_,(AB (AU 2 Le AD)
  (AB (AU 3 Le AD)
  (AB (Ed PassesOwn.never (AK DP (pv 3) (pv 1) (AQ _)) (AB (AU 3 Le (AH BO (pv 3) (pv 0)))
  (AF (AU 2 Le (AH Ag (pv 2) AD)))))
  (AB (Ak (AK Bb (pv 3) (pv 1) (AQ _)) (AF (AN (pv 2))) AT)
  (AF (AN AD)))))),?_⟩
 walk_at ""
 refine Fe (λσ H1=>∃i:Nat,σ=[some (.int g),some (.int n),some (.int ((i:Nat):Int)),some (.int (g^i))]/\H1=H/\∀j,j<i->g^j<n)
  (λ(σ:St) (H1:Hp)=>match σ[3]? with|some (some (V.int x))=>(n-x).toNat|_=>0) ⟨0,by rw[bO];rfl,rfl,λj hj=>qG hj (dL _)⟩ ?_ ?_
 ·refine Fb ?_;rintro _ hGo σ H1 ⟨i,rfl,rfl,hj⟩;refine hGo _ _ ?_;clear hGo;have gp:=RW.Ah g2 i;walk_at ""
  by_cases hlt:g^i<n
  ·rw[qF hlt];refine⟨.inr ⟨by lia,by lia⟩,⟨i+1,rfl,?_,λj hj2=>?_⟩,?_⟩
   ·rw[bA]
   ·by_cases z:j=i
    ·rw[z];exact hlt
    ·exact hj j (by lia)
   ·have:g^i<g^i*g:=by
     have:=dC g2 (bL gp);lia
    lia
  ·rw[qE hlt]
   by_cases he:g^i=n
   ·rw[qF he];exact hy i he.symm
   ·rw[qE he];refine hn λm z=>?_
    by_cases hm:m<i
    ·have:=hj m hm;lia
    ·have:=Bn g2 (fP hm);lia
 ·intro σ H1 Q1 Q2 hq;walk_at "";rintro⟨v,h1,v2,h2,i,h3,x,h4,h5⟩;exact⟨v,h1,v2,h2,i,h3,x,h4,hq _ _ h5⟩
theorem Sk:AO ["signs","many","length","done"] ["signs","many"] (AI Zd):=CS
theorem YV(T:CP K mg t) :CJ P w K mg base 1 t.f_5 ["signs","many"] (Qd):=by
 refine Am T.d_5.2 Sk λvs H Q E h=>?_;obtain⟨g,m,rfl,g2,g9,m1,hy,hn⟩:=h;refine⟨rfl,λfi A outer s hr=>?_⟩
 refine⟨_,(AB (AU 2 Sk AD)
  (AB (AU 3 Sk AD)
  (AB (Ed PassesOwn.never (PW.pt (FK (AK DP (pv 3) (pv 1) (AQ _)) (EB (AK NC (pv 2) (Ez rfl T.g_LONGEST_TABLE) (AQ _))))) (AB (AU 2 Sk (AH BO (pv 2) (pv 0)))
  (AF (AU 3 Sk (AH Ag (pv 3) AD)))))
  (AF (AN (pv 2)))))),?_⟩
 walk_at ""
 refine Fe (λσ H1=>∃i:Nat,i<=m.toNat/\σ=[some (.int g),some (.int m),some (.int (g^i)),some (.int ((i:Nat):Int))]/\H1=H)
  (λ(σ:St) (H1:Hp)=>match σ[3]? with|some (some (V.int x))=>(m-x).toNat|_=>0) ⟨0,az _,by rw[bO];rfl,rfl⟩ ?_ ?_
 ·refine Fb ?_;rintro _ hGo σ H1 ⟨i,hi,rfl,rfl⟩;refine hGo _ _ ?_;clear hGo;have gp:=RW.Ah g2 i;walk_at ""
  by_cases hlt:(i:Int)<m
  ·rw[qF hlt]
   by_cases hle:g^i<=256
   ·rw[qF hle];exact⟨.inr ⟨by lia,by lia⟩,⟨i+1,by lia,by rw[bA],by lia⟩,by lia⟩
   ·rw[qE hle];have:=Bn g2 hi;exact hn (by lia) _ (by lia)
  ·rw[qE hlt];have ei:i=m.toNat:=by lia
   subst ei
   by_cases hle:g^m.toNat<=256
   ·exact hy hle
   ·exact hn (by lia) _ (by lia)
 ·intro σ H1 Q1 Q2 hq;walk_at "";rintro⟨v,h1,v2,h2,i,h3,x,h4,h5⟩;refine⟨v,h1,v2,h2,i,h3,x,h4,?_⟩
  by_cases z:i<x
  ·rw[qF z]at h5⊢;obtain⟨v3,h6,j,h7,h8⟩:=h5;exact⟨v3,h6,j,h7,hq _ _ h8⟩
  ·rw[qE z]at h5⊢;exact hq _ _ h5
theorem YW:AO ["signs","table","told"] ["signs","table"] (AI Ze):=CS
theorem Zp(T:CP K mg t):CJ P w K mg base 3 t.f_9 ["signs","table"] (Rv):=by
 refine Am T.d_9.2 YW λvs H Q E h=>?_;obtain⟨g,a,dl,m,rfl,g2,g9,m1,len,sz,tb,ha,q⟩:=h;refine⟨rfl,λfi A outer s hr=>?_⟩
 refine⟨_,(AB (Ak (Bz (Bg (Tb rfl T.z_isinstance (pv 1) (AA (EU rfl T.z_list PyProof.Rows.boot_list) (AA (EU rfl T.z_tuple PyProof.Rows.boot_tuple) AC))))) (AF D1) AT)
  (AB (Ak (PW.pt (CD (AK FG (Ad (Gc K) rfl T.z_len bJ (AA (pv 1) AC)) (Ez rfl T.g_LONGEST_TABLE) (AQ _)) (CN (AK Bb (AR hr (VH T) T.d_26.1 (AA (pv 0) (AA (Ad (Gc K) rfl T.z_len bJ (AA (pv 1) AC)) AC))) AD (AQ _))))) (AF D1) AT)
  (AF (Ay PassesOwn.never rfl (Mz K (pv 1)) (A3 2 YW) (AF (Ak (Bz (Bg (AR hr (VE T) T.d_47.1 (AA (pv 2) (AA (pv 0) AC))))) (AF D1) AT)))))),?_⟩
 walk_at "";refine⟨by decide,λp hp=>?_⟩;have e1:=AG.new hp (.tup [V.ty "list",V.ty "tuple"]);have h1:AV H p (.tup [V.ty "list",V.ty "tuple"]) p=some (.tup [V.ty "list",V.ty "tuple"]):=AE;generalize AV H p (HO.tup [V.ty "list",V.ty "tuple"])=H1 at e1 h1⊢;have ha1:=e1 _ _ ha;refine⟨_,.of (.lst ha1),_,h1,[.type "list",.type "tuple"],rfl,true,aE QQ _,?_⟩;rw[qE (by decide)];refine⟨_,.inl (Af.of ha1),?_⟩;rw[aH,qE (by lia)];refine⟨_,.inl (Af.of ha1),g,_,rfl,g2,g9,λm' hm=>⟨rfl,?_⟩,λno=>qG (by rw[aH];exact len) (no m)⟩;rw[aH,len]at hm;have:=EE g2 hm;rw[qE (by intro z;injection z with z;lia)];refine⟨_,rfl,a,rfl,⟨_,Af.of ha1⟩,?_⟩;refine Bl (xs:=dl.map V.int) (λi σ H2=>(∃x2,σ=[some (.int g),some (.ref a),x2])/\H2=H1) ⟨⟨none,rfl⟩,rfl⟩ (λi σ H2 _ z=>by rw[z.2];exact Af.of ha1) ?_ ?_
 ·refine IT ?_;rintro _ _ i x _ hGo σ H2 hx ⟨⟨x2,rfl⟩,rfl⟩;refine hGo _ _ ?_;obtain⟨n,hn,rfl⟩:=Eg hx;have b:=tb n (ae hn);walk_at "";refine⟨.int n,g,rfl,trivial,?_⟩;rw[show Sz g (.int n)=true by show (decide (0<=n)&&decide (n<g))=true;rw[qH b.1,qH b.2];rfl];walk_at "";exact⟨_,rfl⟩
 ·refine Fb ?_;rintro _ hGo σ H2 ⟨_,rfl⟩;refine hGo _ _ ?_;clear hGo;exact q _ e1
theorem YX:AO ["signs","low","table"] ["signs","low","table"] (AI Wk):=CS
theorem YY(T:CP K mg t):CJ P w K mg base 4 t.f_59 ["signs","low","table"] (Mq):=by
 refine Am T.d_59.2 YX λvs H Q E h=>?_;obtain⟨g,lo,a,dl,m,rfl,g2,g9,m1,len,sz,tb,ha,q⟩:=h;refine⟨rfl,λfi A outer s hr=>?_⟩
 refine⟨_,(AB (BF (AR hr (YU T) T.d_20.1 (AA (pv 0) (AA (pv 1) AC))))
  (AB (BF (AR hr (Zp T) T.d_9.1 (AA (pv 0) (AA (pv 2) AC))))
  (AF (AN (Bc (AA (pv 0) (AA (pv 1) (AA (Bm CI rfl T.z_tuple dF (AA (pv 2) AC)) AC)))))))),?_⟩
 walk_at "";refine⟨g,lo,rfl,g2,g9,g,a,dl,m,rfl,g2,g9,m1,len,sz,tb,ha,λH1 e1=>?_⟩;refine⟨_,.inl ⟨Af.of (e1 _ _ ha),λl hl=>⟨by decide,λp hp=>?_⟩⟩⟩;have e2:=AG.new hl (.tup (dl.map V.int));have e3:=AG.new hp (.tup [.int g,.int lo,.ref l]);exact q p _ ((e1.trans e2).trans e3) ⟨l,AE,e3 _ _ AE⟩
theorem YZ:AO ["one"] ["one"] (AI Wm):=CS
theorem Lf(T:CP K mg t):CJ P w K mg base 2 t.f_54 ["one"] (Kc):=by
 refine Am T.d_54.2 YZ λvs H Q E h=>?_;obtain⟨r,g,lo,dl,m,rfl,g2,g9,⟨tb,h1,h2⟩,hl,q⟩:=h;refine⟨rfl,λfi A outer s hr=>?_⟩;refine⟨_,(AF (AN (AR hr (VH T) T.d_26.1 (AA (AJ (Bi K) (pv 0) AD (λ_ _=>rfl)) (AA (Ad (Gc K) rfl T.z_len bJ (AA (AJ (Bi K) (pv 0) AD (λ_ _=>rfl)) AC)) AC))))),?_⟩;walk_at "";refine (B6 (v:=.int g) (Aa.of h1) (G3 rfl) (B6 (v:=.ref tb) (Aa.of h1) (G3 rfl) ?_));walk_at "";refine⟨_,.inr (Aa.of h2),g,_,rfl,g2,g9,λm' e=>?_,λz=>?_⟩
 ·rw[aH,hl]at e;rw[<-EE g2 e];exact q
 ·exact qG (by rw[aH,hl]) (z m)
theorem Ya:AO ["one","word"] ["one","word"] (AI Wn):=CS
theorem Yb(T:CP K mg t):CJ P w K mg base 5 t.f_39 ["one","word"] (N6 K):=by
 refine Am T.d_39.2 Ya λvs H Q E h=>?_;obtain⟨r,a,g,lo,dl,m,xs,rfl,g2,g9,hR,hl,hS,kd,h⟩:=h;refine⟨rfl,λfi A outer s hr=>?_⟩
 refine⟨_,(AB (BF (AR hr (Zo T) T.d_4.1 (AA (pv 1) (AA (AJ (Bi K) (pv 0) AD (λ_ _=>rfl)) (AA (AR hr (Lf T) T.d_54.1 (AA (pv 0) AC)) AC)))))
  (AF (AN (AJ (Bi K) (AJ (Bi K) (pv 0) AD (λ_ _=>rfl)) (AR hr (YS T) T.d_40.1 (AA (pv 1) (AA (AJ (Bi K) (pv 0) AD (λ_ _=>rfl)) AC))) (λ_ _=>rfl))))),?_⟩
 refine Ba.el hR λtb h1 h2=>?_;walk_at "";refine (B6 (Aa.of h1) rfl ⟨r,g,lo,dl,m,rfl,g2,g9,hR,hl,a,xs,g,m,rfl,hS,kd,?_⟩);cases hb:Ej g m xs with
 |some i =>
  rw[hb]at h;exact h
 |none =>
  rw[hb]at h;obtain⟨hlen,hbi⟩:=Ke hb;obtain⟨ns,rfl,hns⟩:=HS hbi;rw[aH]at hlen;intro H1 e1;refine (B6 (Aa.of (e1 _ _ h1)) rfl (B6 (Aa.of (e1 _ _ h1)) rfl ⟨a,_,g,rfl,g2,g9,e1.seq hS,NM,?_⟩));rw[hbi];intro ms hms H2 e2;have:=KZ hms;subst this;have nb:=CG g2 hns;rw[hlen,<-hl]at nb;refine (B6 (v:=.int (dl.getD (A5 g ns).toNat 0)) (Aa.of (e2 _ _ (e1 _ _ h2))) ?_ (h ns rfl _ (e1.trans e2)));have z:=FI (ns:=dl) (k:=(A5 g ns).toNat) (by lia);rw[show (((A5 g ns).toNat:Nat):Int)=A5 g ns by lia]at z;exact z
theorem Yc:AO ["one"] ["one"] (AI Wo):=CS
theorem Lg(T:CP K mg t) :CJ P w K mg base 1 t.f_56 ["one"] (NY):=by
 refine Am T.d_56.2 Yc λvs H Q E h=>?_;obtain⟨r,g,lo,dl,m,rfl,ok,q⟩:=h;refine⟨rfl,λfi A outer s hr=>?_⟩;refine⟨_,(AF (AN (AH Ax (Ad (Gc K) rfl T.z_len bJ (AA (AJ (Bi K) (pv 0) AD (λ_ _=>rfl)) AC)) (AJ (Bi K) (pv 0) AD (λ_ _=>rfl))))),?_⟩;refine Ba.el ok.v λtb h1 h2=>?_;have g2:=ok.g2;have g9:=ok.g9;have m1:=ok.m1;have m8:=ok.m8;have hl:=ok.len;have sz:=ok.sz;have hlm:(dl.map V.int).length=dl.length:=aH ..;walk_at "";refine (B6 (Aa.of h1) rfl ?_);walk_at "";refine⟨_,.inr (Aa.of h2),B6 (Aa.of h1) rfl ⟨g,rfl,by lia,by lia,?_⟩⟩
 have e:(((dl.map V.int).length:Nat):Int)/g=((dl.length/g.toNat:Nat):Int):=by rw[hlm,cO,ax (by lia)]
 rw[e];exact q
theorem Lh:AO ["one","weight","table","number","told","there"] ["one","weight"] (AI Wp):=CS
theorem Yd(T:CP K mg t) :CJ P w K mg base 1 t.f_51 ["one","weight"] (Kj):=by
 refine Am T.d_51.2 Lh λvs H Q E h=>?_;obtain⟨r,g,lo,dl,wt,rfl,g2,g9,hR,w0,w3,tl,q⟩:=h;refine⟨rfl,λfi A outer s hr=>?_⟩
 refine⟨_,(AB (AU 2 Lh (AJ (Bi K) (pv 0) AD (λ_ _=>rfl)))
  (AB (Ay PassesOwn.never rfl (Hb rfl T.z_enumerate (AA (pv 2) AC)) (YC K 2 rfl (BH (A3 3 Lh) (BH (A3 4 Lh) Cy))) (AB (AU 5 Lh (AH Ab (AH Ax (pv 3) (pv 1)) (AJ (Bi K) (pv 0) AD (λ_ _=>rfl))))
  (AF (Ak (AK Do (pv 4) (AJ (Bi K) (pv 2) (AH A4 (pv 3) (AH BO (pv 5) (pv 1))) (λ_ _=>rfl)) (AQ _)) (AF (AN C9)) AT))))
  (AF (AN C9)))),?_⟩
 refine Ba.el hR λtb h1 h2=>?_;walk_at "";refine (B6 (Aa.of h1) rfl ?_);walk_at "";refine⟨_,rfl,tb,_,rfl,Aa.of h2,?_⟩;refine Iz (xs:=dl.map V.int) (λi σ H1=>(∃x3 x4 x5,σ=[some (.ref r),some (.int wt),some (.ref tb),x3,x4,x5])/\AG H H1/\∀k,k<i->dl.getD k 0=dl.getD ((k:Int)-(k:Int)/wt%g*wt).toNat 0) ⟨⟨none,none,none,rfl⟩,AG.refl _,λk hk=>qG hk (dL _)⟩ (λi σ H1 _ z=>Aa.of (z.2.1 _ _ h2)) ?_ ?_
 ·intro i x p2;refine Pp ?_;rintro _ hGo σ H1 hx ⟨⟨x3,x4,x5,rfl⟩,e,hall⟩;refine hGo _ _ λhp2=>?_;clear hGo;obtain⟨n,hn,rfl⟩:=Eg hx;have hi:i<dl.length:=(aN.mp hn).1;have e2:AG H (AV H1 p2 (.tup [.int ((i:Nat):Int),.int n])):=e.trans (AG.new hp2 _);refine⟨p2,_,rfl,Aa.of AE,rfl,_,_,rfl,_,_,rfl,rfl,?_⟩;walk_at "";have ix:=Qh (k:=(i:Int)) (w:=wt) (g:=g) (by lia) w0 g2;have gA:=BV (ns:=dl) ix.1 (by lia);have ng:n=dl.getD i 0:=by rw[aK,hn];rfl
  refine⟨w0,by lia,B6 (Aa.of (e2 _ _ h1)) rfl ⟨g,rfl,by lia,.inr ⟨by lia,by lia⟩,B6 (Aa.of (e2 _ _ h2)) gA ⟨rfl,?_⟩⟩⟩
  by_cases hd:V.int n=V.int (dl.getD ((i:Int)-(i:Int)/wt%g*wt).toNat 0)
  ·rw[qE (λz=>z hd)];refine⟨⟨_,rfl⟩,e2,λk hk=>?_⟩
   by_cases z:k=i
   ·subst z;rw[<-ng];exact V.int.inj hd
   ·exact hall k (by lia)
  ·rw[qF hd];have z:BI g dl wt=true:=Dt.mpr ⟨i,hi,λy=>hd (by rw[ng,y])⟩;rw[z]at q;exact q _ e2
 ·refine Fb ?_;rintro _ hGo σ H1 ⟨⟨x3,x4,x5,rfl⟩,e,hall⟩;refine hGo _ _ ?_;clear hGo;walk_at "";rw[aH]at hall
  have z:BI g dl wt=false:=by
   cases z:BI g dl wt with
   |false=>rfl
   |true =>
    obtain⟨k,hk,h⟩:=Dt.mp z;exact qG (hall k hk) h
  rw[z]at q;exact q H1 e
theorem Li:AO ["one","found","weight","at"] ["one"] (AI Wq):=CS
theorem VI(T:CP K mg t):CJ P w K mg base 3 t.f_45 ["one"] (Hd):=by
 refine Am T.d_45.2 Li λvs H Q E h=>?_;obtain⟨r,g,lo,dl,m,rfl,g2,g9,hR,hl,m1,m8,gm,q⟩:=h;refine⟨rfl,λfi A outer s hr=>?_⟩
 refine⟨_,(AB (AU 1 Li (BB AC))
  (AB (AU 2 Li (Ad (Gc K) rfl T.z_len bJ (AA (AJ (Bi K) (pv 0) AD (λ_ _=>rfl)) AC)))
  (AB (Ay PassesOwn.never rfl (Aw rfl T.z_range (AA (AR hr (Lf T) T.d_54.1 (AA (pv 0) AC)) AC)) (A3 3 Li) (AB (AU 2 Li (AH Ax (pv 2) (AJ (Bi K) (pv 0) AD (λ_ _=>rfl))))
  (AF (Ak (Bg (AR hr (Yd T) T.d_51.1 (AA (pv 0) (AA (pv 2) AC)))) (AF (BF (Pk K (pv 1) (AA (AH Ag (AJ (Bi K) (pv 0) AD (λ_ _=>rfl)) (pv 3)) AC)))) AT))))
  (AF (AN (pv 1)))))),?_⟩
 refine Ba.el hR λtb h1 h2=>?_;walk_at "";refine⟨az _,λp hp=>?_⟩;have e0:=AG.new hp (.lst []);refine (B6 (Aa.of (e0 _ _ h1)) rfl ?_);walk_at "";refine⟨_,.inr (Aa.of (e0 _ _ h2)),?_⟩;rw[aH];refine⟨_,rfl,r,g,lo,dl,m,rfl,g2,g9,hR.same e0,hl,_,rfl,by lia,by lia,?_⟩;refine BJ (n:=m) (λi σ H1=>∃x3,σ=[some (.ref r),some (.ref p),some (.int (g^(m-i))),x3]/\AG H H1/\H1 p=some (.lst ((((List.range i).filter λj=>BI g dl (g^(m-1-j))).map λj:Nat=>lo+(j:Int)).map V.int))) ⟨none,by rw[hl,Nat.sub_zero],e0,AE⟩ ?_ ?_
 ·refine DM ?_;rintro _ _ i _ hGo σ H1 hi ⟨x3,rfl,e,hp1⟩;refine hGo _ _ ?_;have dv:g^(m-i)/g=g^(m-1-i):=by rw[show m-i=(m-1-i)+1 by lia,bA,Int.mul_ediv_cancel _ (by lia)]
  have gp:=RW.Ah g2 (m-1-i);have gb:=Bn g2 (show m-1-i<=m by lia);walk_at "";refine (B6 (Aa.of (e _ _ h1)) rfl ?_);walk_at "";rw[dv];refine⟨by lia,by lia,r,g,lo,dl,_,rfl,g2,g9,hR.same e,gp,by lia,by lia,λH2 e2=>?_⟩;have e3:=e.trans e2;refine⟨_,rfl,?_⟩;cases hc:BI g dl (g^(m-1-i)) with
  |true =>
   rw[qF rfl];refine⟨.inl ⟨_,Af.of (e2 _ _ hp1)⟩,B6 (Aa.of (e3 _ _ h1)) rfl ⟨lo,rfl,_,e2 _ _ hp1,?_,by rw[show m-(i+1)=m-1-i by lia],e3.into hp,?_⟩⟩
   ·rw[aH,aH];have:=cE (λj=>BI g dl (g^(m-1-j))) (List.range i);rw[bI]at this;exact Ac (by lia)
   ·rw[AE,bP,cA,aZ,aZ,bC];simp[List.filter,hc]
  |false =>
   rw[qE (by decide)];refine⟨by rw[show m-(i+1)=m-1-i by lia],e3,?_⟩;rw[e2 _ _ hp1,bP,cA];simp[List.filter,hc]
 ·refine Fb ?_;rintro _ hGo σ H1 ⟨x3,rfl,e,hp1⟩;refine hGo _ _ ?_;clear hGo;walk_at "";exact q p H1 ⟨e,hp,hp1⟩
theorem Zq:AO ["word","at"] ["word","at"] (AI Zf):=CS
theorem Zr(T:CP K mg t) :CJ P w K mg base 1 t.f_1 ["word","at"] (Ko K):=by
 refine Am T.d_1.2 Zq λvs H Q E h=>?_;obtain⟨a,v,z,rfl,hS,q⟩:=h;refine⟨rfl,λfi A outer s hr=>?_⟩
 refine⟨_,(AB (Ak (PW.pt (CD (AK DP (pv 1) AD (AQ _)) (CN (AK Uc (pv 1) (Ad (Gc K) rfl T.z_len bJ (AA (pv 0) AC)) (AQ _))))) (AF (AN AD)) AT)
  (AF (AN (AJ (C8 K) (pv 0) (pv 1) (λ_ _=>rfl))))),?_⟩
 have hlm:(v.map V.int).length=v.length:=aH ..;unfold sn at q;walk_at ""
 by_cases h0:z<0
 ·rw[qF (.inl h0)]at q;rw[qF h0];exact q
 rw[qE h0];refine⟨_,.inl hS,?_⟩;rw[hlm]
 by_cases h1:(v.length:Int)<=z
 ·rw[qF (.inr h1)]at q;rw[qF h1];exact q
 rw[qE h1];rw[qE (by lia)]at q;exact⟨a,_,_,_,rfl,rfl,hS,BV (by lia) (by lia),q⟩
theorem Lj:AO ["one","low","many","ahead","table","number","word"] ["one","low","many"] (AI Wr):=CS
theorem Sl(T:CP K mg t):CJ P w K mg base 6 t.f_38 ["one","low","many"] (NZ):=by
 refine Am T.d_38.2 Lj λvs H Q E h=>?_;obtain⟨r,g,lo,dl,m,low,M,rfl,ok,M1,gM,q⟩:=h;refine⟨rfl,λfi A outer s hr=>?_⟩
 refine⟨_,(AB (AU 3 Lj (AH A4 (AJ (Bi K) (pv 0) AD (λ_ _=>rfl)) (pv 1)))
  (AB (AU 4 Lj (BB AC))
  (AB (Ay PassesOwn.never rfl (Aw rfl T.z_range (AA (AR hr (YV T) T.d_5.1 (AA (AJ (Bi K) (pv 0) AD (λ_ _=>rfl)) (AA (pv 2) AC))) AC)) (A3 5 Lj) (AB (AU 6 Lj (AR hr (VG T) T.d_50.1 (AA (pv 5) (AA (AJ (Bi K) (pv 0) AD (λ_ _=>rfl)) (AA (pv 2) AC)))))
  (AF (BF (Pk K (pv 4) (AA (AR hr (Yb T) T.d_39.1 (AA (pv 0) (AA (Ng [(6,"word"),(3,"ahead")] [("word",_),("ahead",_)] (Aw rfl T.z_range (AA (AR hr (Lf T) T.d_54.1 (AA (pv 0) AC)) AC)) (λ_ _ _ _=>GJ) (λ_ _ _ _=>(AR hr (Zr T) T.d_1.1 (AA (pv 1) (AA (AH Ag (pv 2) (pv 0)) AC))))) AC))) AC))))))
  (AF (AN (AR hr (YY T) T.d_59.1 (AA (AJ (Bi K) (pv 0) AD (λ_ _=>rfl)) (AA (pv 1) (AA (pv 4) AC))))))))),?_⟩
 refine Ba.el ok.v λtb h1 h2=>?_;have g2:=ok.g2;have g9:=ok.g9;have m8:=ok.m8;have hl:=ok.len;have gp:=RW.Ah g2 M;have M8:=Fk g2 gM;walk_at "";refine (B6 (Aa.of h1) rfl ⟨lo,rfl,az _,λp hp=>?_⟩);have e0:=AG.new hp (.lst []);refine⟨_,rfl,r,_,0,_,rfl,rfl,Aa.of (e0 _ _ h1),rfl,_,rfl,?_⟩;refine⟨g,_,rfl,g2,g9,by lia,λ_=>?_,λz=>qG z (by rw[aW];lia)⟩;rw[aW];refine⟨_,rfl,by lia,by lia,?_⟩;refine BJ (n:=(g^M).toNat) (λi σ H1=>∃x5 x6,σ=[some (.ref r),some (.int low),some (.int ((M:Nat):Int)),some (.int (lo-low)),some (.ref p),x5,x6]/\AG H H1/\H1 p=some (.lst (((List.range i).map λn:Nat=>dl.getD (A5 g (F4 (As g (n:Int) M) (lo-low) m)).toNat 0).map V.int))) ⟨none,none,rfl,e0,AE⟩ ?_ ?_
 ·refine DM ?_;rintro _ _ i _ hGo σ H1 hi ⟨x5,x6,rfl,e,hp1⟩;refine hGo _ _ ?_;walk_at "";refine (B6 (Aa.of (e _ _ h1)) rfl ⟨_,g,_,rfl,g2,g9,by lia,by lia,λz=>qG z (by rw[aW];lia),λ_ _ pw H2 hN2=>?_⟩);rw[aW,bC]at hN2;have e2:=e.trans hN2.1;have hp2:=hN2.1 _ _ hp1;refine⟨.inl ⟨_,Af.of hp2⟩,?_⟩;refine⟨_,rfl,r,g,lo,dl,m,rfl,g2,g9,ok.v.same e2,hl,_,rfl,by lia,by lia,λD hD=>?_⟩;rw[aW];have hw2:H2 pw=some (.lst ((As g (i:Int) M).map V.int)):=hN2.2.2;refine Cg (n:=m) (λj fh Hx=>fh=((List.range j).map λk:Nat=>sn (As g (i:Int) M) (lo-low+(k:Int))).map V.int/\Hx=AV H2 D (.lst fh)) ⟨rfl,rfl⟩ ?_ ?_
  ·refine Gd ?_;rintro j _ hGo fh Hx hj ⟨rfl,rfl⟩;refine hGo _ _ ?_;walk_at "";rw[bC];refine⟨pw,_,_,rfl,Af.of (AG.new hD _ _ _ hw2),AE,?_,?_,by rw[Ey]⟩
   ·rw[aH,aH,bI];exact Ac (by lia)
   ·rw[Bd,aZ];rfl
  ·refine Fb ?_;rintro _ hGo fh Hx ⟨rfl,rfl⟩;refine hGo _ _ ?_;clear hGo;have en:=AG.new hD (.lst ((F4 (As g (i:Int) M) (lo-low) m).map V.int));have bb:=FP g2 (CK g2 (i:Int) M) (lo-low) m;have bl:=Kf bb;rw[By]at bl;refine⟨r,D,g,lo,dl,m,(F4 (As g (i:Int) M) (lo-low) m).map V.int,rfl,g2,g9,(ok.v.same e2).same en,hl,Af.of AE,NM,?_⟩;rw[bl];intro ms hms H4 e4;have:=KZ hms;subst this;have e24:=en.trans e4;refine⟨_,e24 _ _ hp2,?_,(e2.trans e24).into hp,?_⟩
   ·rw[aH,aH,bI];exact Ac (by lia)
   ·rw[AE,Bd,aZ];rfl
 ·refine Fb ?_;rintro _ hGo σ H1 ⟨x5,x6,rfl,e,hp1⟩;refine hGo _ _ ?_;clear hGo;walk_at "";refine (B6 (Aa.of (e _ _ h1)) rfl ?_);exact Mr (E:=E0) (dl:=Dn g lo dl m low M) g2 g9 M1 (BN g2 _ _ _ _ _) gM (Hh g2 _ ok.tb _ _ _) (.inl hp1) λr' H' e' hR=>q r' H' (e.trans e') (ok.bw M1 gM hR)
theorem VJ:AO ["one","found"] ["one"] (AI Ws):=CS
theorem Ye(T:CP K mg t):CJ P w K mg base 7 t.f_53 ["one"] (Kp):=by
 refine Am T.d_53.2 VJ λvs H Q E h=>?_;obtain⟨r,g,lo,dl,m,rfl,ok,q⟩:=h;refine⟨rfl,λfi A outer s hr=>?_⟩
 refine⟨_,(AB (AU 1 VJ (AR hr (VI T) T.d_45.1 (AA (pv 0) AC)))
  (AB (Ak (AK Bb (Ad (Gc K) rfl T.z_len bJ (AA (pv 1) AC)) AD (AQ _)) (AF (AN (AR hr (Sl T) T.d_38.1 (AA (pv 0) (AS (AS AC)))))) AT)
  (AF (AN (AR hr (Sl T) T.d_38.1 (AA (pv 0) (AA (AJ (C8 K) (pv 1) AD (λ_ _=>rfl)) (AA (AH Ag (AH A4 (AJ (C8 K) (pv 1) (Iv GA AD) (λ_ _=>rfl)) (AJ (C8 K) (pv 1) AD (λ_ _=>rfl))) AD) AC)))))))),?_⟩
 have g2:=ok.g2;have g9:=ok.g9;have m1:=ok.m1;have m8:=ok.m8;have sz:=ok.sz;walk_at "";refine⟨r,g,lo,dl,m,rfl,g2,g9,ok.v,ok.len,m1,m8,sz,λp H1 hN1=>?_⟩;have hcl:((BR g lo dl m).map V.int).length=(BR g lo dl m).length:=aH ..;walk_at "";refine⟨_,.inl (Af.of hN1.2.2),?_⟩;rw[hcl]
 by_cases hc:BR g lo dl m=[]
 ·rw[qF (by rw[hc];rfl)];have g1:g^1=g:=by rw[bA,bO,cI]
  exact⟨r,g,lo,dl,m,0,1,rfl,ok.same hN1.1,aP _,by lia,λr' H' e' ok'=>q 0 1 (Hi hc) r' H' (hN1.1.trans e') ok'⟩
 ·obtain⟨M,hM,hMm,hW⟩:=GN hc;have hp0:0<(BR g lo dl m).length:=dN.mpr hc;rw[qE (by lia)];have gM:=Bn g2 hMm;refine (Dh (Af.of hN1.2.2) (BV (by decide) (by show 0<_;lia)) (Dh (Af.of hN1.2.2) (JE hp0) (Dh (Af.of hN1.2.2) (BV (by decide) (by show 0<_;lia)) ⟨_,rfl,_,rfl,?_⟩)));refine⟨r,g,lo,dl,m,(BR g lo dl m).getD 0 0,M,?_,ok.same hN1.1,hW.one,by lia,λr' H' e' ok'=>q _ M hW r' H' (hN1.1.trans e') ok'⟩;rw[hM];rfl
theorem VL:AO ["one","low","high","place"] ["one","low","high"] (AI Wt):=CS
theorem Yf(T:CP K mg t):CJ P w K mg base 7 t.f_49 ["one","low","high"] (SW):=by
 refine Am T.d_49.2 VL λvs H Q E h=>?_;obtain⟨r,g,lo,dl,rfl,ok,hok⟩:=h;refine⟨rfl,λfi A outer s hr=>?_⟩
 refine⟨_,(AB (Ak (AK FG (pv 1) (pv 2) (AQ _)) (AF D1) AT)
  (AB (Ay PassesOwn.never rfl (Mz K (AR hr (VI T) T.d_45.1 (AA (pv 0) AC))) (A3 3 VL) (AF (Ak (PW.pt (CD (AK DP (pv 3) (pv 1) (AQ _)) (CN (AK FG (pv 3) (pv 2) (AQ _))))) (AF D1) AT)))
  (AB (Ak (AK FG (AR hr (YV T) T.d_5.1 (AA (AJ (Bi K) (pv 0) AD (λ_ _=>rfl)) (AA (AH Ag (AH A4 (pv 2) (pv 1)) AD) AC))) (Ez rfl T.g_LONGEST_TABLE) (AQ _)) (AF D1) AT)
  (AF (AN (AR hr (Sl T) T.d_38.1 (AA (pv 0) (AA (pv 1) (AA (AH Ag (AH A4 (pv 2) (pv 1)) AD) AC))))))))),?_⟩
 refine Ba.el ok.v λtb h1 h2=>?_;have g2:=ok.g2;have g9:=ok.g9;have e2:(lo+1-lo+1).toNat=2:=by lia
 have sq:g^2<=256:=by have:g*g<=9*9:=d8 g9 g9 (by lia) (by lia);rw[show g^2=g*g by rw[show (2:Nat)=0+1+1 from rfl,bA,bA,bO,cI]];lia
 walk_at "";rw[qE (show ¬lo+1<lo by lia)];refine⟨_,rfl,r,g,lo,dl,1,rfl,g2,g9,ok.v,ok.len,by decide,by decide,ok.sz,λp H1 hN1=>?_⟩;refine⟨p,rfl,⟨_,Af.of hN1.2.2⟩,?_⟩;refine Bl (xs:=(BR g lo dl 1).map V.int) (λi σ H2=>(∃x3,σ=[some (.ref r),some (.int lo),some (.int (lo+1)),x3])/\H2=H1) ⟨⟨none,rfl⟩,rfl⟩ (λi σ H2 _ z=>by rw[z.2];exact Af.of hN1.2.2) ?_ ?_
 ·refine IT ?_;rintro _ _ i x _ hGo σ H2 hx ⟨⟨x3,rfl⟩,rfl⟩;refine hGo _ _ ?_;obtain⟨n,hn,rfl⟩:=Eg hx;have nm:=ae hn;unfold BR at nm;obtain⟨j,hj,rfl⟩:=ao.mp nm;have:=ak.mp (bB.mp hj).1;walk_at "";rw[qE (show ¬lo+(j:Int)<lo by lia),qE (show ¬lo+1<lo+(j:Int) by lia)];exact⟨_,rfl⟩
 ·refine Fb ?_;rintro _ hGo σ H2 ⟨⟨x3,rfl⟩,rfl⟩;refine hGo _ _ ?_;clear hGo;walk_at "";refine (B6 (Aa.of (hN1.1 _ _ h1)) rfl ⟨g,_,rfl,g2,g9,by lia,λhle=>?_,λhgt rr hrr=>?_⟩)
  ·refine⟨_,rfl,?_⟩;rw[e2]at hle⊢;rw[qE (by lia)];exact⟨r,g,lo,dl,1,lo,2,by rw[show (((2:Nat):Nat):Int)=lo+1-lo+1 by lia],ok.same hN1.1,by decide,sq,λr' H' e' ok'=>hok r' H' (hN1.1.trans e') ok'⟩
  ·rw[e2]at hgt;lia
theorem VM:AO ["one","least"] ["one"] (AI Wu):=CS
theorem VN(T:CP K mg t):CJ P w K mg base 8 t.f_55 ["one"] (La):=by
 refine Am T.d_55.2 VM λvs H Q E h=>?_;obtain⟨r,g,lo,dl,m,lf,tf,mf,rfl,ok,fw,sm,hok⟩:=h;refine⟨rfl,λfi A outer s hr=>?_⟩
 refine⟨_,(AB (AU 1 VM (AR hr (Ye T) T.d_53.1 (AA (pv 0) AC)))
  (AB (Ak (AK Bb (AR hr (Lf T) T.d_54.1 (AA (pv 1) AC)) AD (AQ _)) (AF (AN (AR hr (Yf T) T.d_49.1 (AA (pv 1) (AA (AJ (Bi K) (pv 1) AD (λ_ _=>rfl)) (AA (AH Ag (AJ (Bi K) (pv 1) AD (λ_ _=>rfl)) AD) AC)))))) AT)
  (AB (Ak (AK FG (AR hr (Lg T) T.d_56.1 (AA (pv 1) AC)) (Ez rfl T.g_MOST_NODES) (AQ _)) (AF D1) AT)
  (AF (AN (pv 1)))))),?_⟩
 have g2:=ok.g2;have g9:=ok.g9;refine An λN hN=>?_;walk_at "";refine⟨r,g,lo,dl,m,rfl,ok,λlow M hW r1 H1 e1 ok1=>hN _ _ ?_⟩;clear hN N;walk_at "";refine⟨r1,g,low,_,M,rfl,g2,g9,ok1.v,ok1.len,rfl,?_⟩;obtain⟨low',M',hW',elf,hc⟩:=id fw;obtain⟨rfl,rfl⟩:=Qw g2 ok.len hW hW';subst elf;refine Ba.el ok1.v λtb h1 h2=>?_;rcases hc with⟨rfl,rfl,rfl⟩|⟨hM,rfl,rfl⟩
 ·rw[qF (show V.int ((1:Nat):Int)=V.int 1 from rfl)];refine (B6 (Aa.of h1) rfl (B6 (Aa.of h1) rfl ⟨lf,rfl,?_⟩));exact⟨r1,g,lf,_,rfl,ok1,λr2 H2 f2 ok2=>hok r2 H2 (e1.trans f2) ok2⟩
 ·rw[qE (λz=>by have:=V.int.inj z;lia)];refine⟨r1,g,lf,_,mf,rfl,ok1,_,rfl,?_⟩;rw[(BC g2 ok1.len ok1.m1).1,qE (by lia)];exact hok r1 H1 e1 ok1
theorem OS:AO ["nexts","ahead","here","come"] ["nexts"] (AI Wv):=CS
theorem Yg(T:CP K mg t) :CJ P w K mg base 1 t.f_10 ["nexts"] (Nt P w K):=by
 refine Am T.d_10.2 OS λvs H Q E h=>?_;obtain⟨d,u,ls,A0,F,rfl,dr,gr,nd,cl,lA,lF,q⟩:=h;refine⟨rfl,λfi A outer s hr=>?_⟩
 refine⟨_,(AB (F8 (i:=1) OS.nd rfl (Or.inl rfl) (Fs (P:=P) (w:=w) (K:=K) rfl rfl rfl))
  (AB (Ay PassesOwn.never rfl (E4 (P:=P) (w:=w) (K:=K) rfl rfl rfl (pv 0)) (A3 2 OS) (AB (BF (Mc (P:=P) (w:=w) (K:=K) rfl rfl rfl cJ dG (Ep (P:=P) (w:=w) (K:=K) rfl rfl rfl (CF hr)) (pv 1) (AA (pv 2) (AA (BB AC) AC))))
  (AF (Ay PassesOwn.never rfl (Mz K (B2 (P:=P) (w:=w) (K:=K) rfl rfl rfl (CF hr) (pv 0) (pv 2) (λ_ _=>rfl))) (A3 3 OS) (AF (BF (Pk K (Mc (P:=P) (w:=w) (K:=K) rfl rfl rfl cJ dG (Ep (P:=P) (w:=w) (K:=K) rfl rfl rfl (CF hr)) (pv 1) (AA (pv 3) (AA (BB AC) AC))) (AA (pv 2) AC))))))))
  (AF (AN (pv 1))))),?_⟩
 refine An λN hN=>?_;walk_at "";intro d2 u2 hd2 dw;refine hN _ _ ?_;clear hN N;have e0:=AG.new hd2 u2;generalize AV H d2 u2=H0 at dw e0⊢;refine CC (λσ HX=>(∃x2 x3,σ=[some (.ref d),some (.ref d2),x2,x3])/\∃u' ls2 A2 B,AG (AV H d u') HX/\DR P w K HX d u' (Ae A0 (ls.map V.ref))/\(∀l∈ls2,H l=none)/\DW P w K HX d2 (Ae A2 (ls2.map V.ref))/\D9 K HX ls2 A2 B/\Nr A0 F A2 B) (λN hN=>?_) ?_
 ·refine⟨_,rfl,d,u,_,rfl,dr.same e0,λu' dr'=>?_⟩;have nd2:d≠d2:=λe=>by obtain⟨φ,h1,_⟩:=dr.isX;rw[e,hd2]at h1;cases h1
  have eF:=AG.both e0 d u';have gF:=(dr.same e0).grl (gr.same e0) u'
  have aF:U3 P w K H (AV H0 d u') d2 [] (λ_=>[]):=by obtain⟨bs,h1,h3,h4⟩:=dw;have hb:bs=[]:=List.map_eq_nil_iff.mp h3;subst hb;exact⟨[],λl hl=>qG hl List.not_mem_nil,⟨[],by rw[AL (Ne.symm nd2)];exact h1,rfl,λp hp=>qG hp List.not_mem_nil⟩,⟨rfl,List.nodup_nil,λi a l z=>by simp at z⟩⟩
  generalize AV H0 d u'=HF at dr' eF gF aF⊢;refine O8 (P:=P) (w:=w) (K:=K) (d:=d) (u:=u') (kvs:=Ae A0 (ls.map V.ref)) (λi σ HX=>(∃x2 x3,σ=[some (.ref d),some (.ref d2),x2,x3])/\AG (AV H d u') HX/\DR P w K HX d u' (Ae A0 (ls.map V.ref))/\D9 K HX ls A0 F/\∃A2 B,U3 P w K H HX d2 A2 B/\Pm A0 F i (λ_ _=>False) (i*70000) A2 B) ⟨⟨none,none,rfl⟩,eF,dr',gF,[],λ_=>[],aF,⟨List.nodup_nil,λp hp=>qG hp List.not_mem_nil,λp hp=>qG hp (by simp),λ_ _=>rfl,λp q=>by simp,λ_=>Nat.zero_le _⟩⟩ (λi σ HX _ z=>z.2.2.1) ?_ ?_
  ·intro i b k v;refine YQ ?_;rintro _ hGo σ HX hk sb ⟨⟨x2,x3,rfl⟩,eX,dX,gX,A2,B,aX,tX⟩;refine hGo _ _ ?_;clear hGo;obtain⟨a,l,ha,hl,rfl,rfl⟩:=Jx hk;dsimp only[Fd];have aA:a∈A0:=ae ha;have lA2:∀{A2:List (qX)} {B:qX->List (qX)} {D:(qX)->(qX)->Prop} {n:Nat},Pm A0 F i D n A2 B->A2.length<=100:=λt=>bK (t.nd.length_le_of_subset t.sub) lA
   have Hn:∀{HX:Hp} {l:qR},AG (AV H d u') HX->HX l=none->H l=none:=λ{HX l} e z=>by have y:=e.free z;rw[AL λx=>by rw[x,AE]at y;cases y]at y;exact y
   have hd2':AV H d u' d2=none:=by rw[AL (Ne.symm nd2)];exact hd2
   refine CC (λσ HY=>(∃x3,σ=[some (.ref d),some (.ref d2),some (.ref b),x3])/\AG (AV H d u') HY/\DR P w K HY d u' (Ae A0 (ls.map V.ref))/\D9 K HY ls A0 F/\Aa K HY b (Ik a)/\∃A2 B,U3 P w K H HY d2 A2 B/\Pm A0 F i (λ_ _=>False) (i*70000) A2 B/\a∈A2) (λN2 hN2=>?_) ?_
   ·obtain⟨ls2,ln,wX,g2⟩:=aX;obtain⟨v2,r2⟩:=wX.r;have lr:(Ae A2 (ls2.map V.ref)).length<=100:=by rw[BD (by rw[aH];exact g2.n)];exact lA2 tX
    refine⟨_,rfl,⟨d2,v2,_,rfl,r2⟩,_,rfl,by decide,λl' hl'=>?_⟩;have f1:=AG.new hl' (.lst []);have h0:=Hn eX hl';have nl:=g2.out hl';have lY:AV HX l' (.lst []) l'=some (.lst []):=AE;have eY:=eX.trans f1;have dY:=dX.same f1;have gY:=gX.same f1;have wY:=wX.same f1;have g2Y:=g2.same f1;have sY:=Aa.same' f1 sb;generalize AV HX l' (.lst [])=HY at lY eY dY gY wY g2Y sY⊢;refine⟨d2,b,_,BL a,.ref l',rfl,rfl,wY,sY,Ac (by lia),λz hz=>hN2 _ _ ⟨⟨_,rfl⟩,eY,dY,gY,sY,A2,B,⟨ls2,ln,wY,g2Y⟩,tX,?_⟩,λhz u3 w3=>hN2 _ _ ?_⟩
    ·by_cases m:a∈A2
     ·exact m
     ·rw[C6 m]at hz;cases hz
    ·have m:a∉A2:=λm=>by
      obtain⟨j,hj⟩:=ay.mp m;have jl:=(aN.mp hj).1;rw[Bq tX.nd hj (v:=.ref (ls2[j]'(by rw[g2.n];exact jl))) (by rw[aQ,aJ (by rw[g2.n];exact jl)];rfl)]at hz;cases hz
     exact⟨⟨_,rfl⟩,eY.into hd2',dY.updX wY nd2 u3,wY.grl gY u3,(by obtain⟨_,h1,_⟩:=wY;exact sY.upd' h1),A2++[a],B,U3.put ln wY g2Y lY nl h0 m (tX.no a m) w3,tX.key m aA,aR.mpr (.inr (aV.mpr rfl))⟩
   clear tX aX eX dX gX sb;rintro _ hGo σ HY ⟨⟨x3,rfl⟩,eX,dX,gX,sb,A2,B,aX,tX,mA⟩;refine hGo _ _ ?_;obtain⟨ps,hps,pp⟩:=gX.e i a l ha hl;have pn:=Paired.length pp;have fa:=lF a aA;have i100:i<=100:=by have:=(aN.mp ha).1;lia
   have nls:∀{x:qR},H x=none->x∉ls:=λhx=>gr.out hx
   refine⟨_,rfl,_,rfl,d,b,u',_,BL a,.ref l,rfl,rfl,dX,sb,Bq nd ha (by rw[aQ,hl];rfl),l,rfl,⟨_,Af.of hps⟩,?_⟩;refine Bl (xs:=ps.map V.ref) (λj σ HZ=>(∃x3,σ=[some (.ref d),some (.ref d2),some (.ref b),x3])/\AG (AV H d u') HZ/\HZ l=some (.lst (ps.map V.ref))/\Br K HZ ps (F a)/\DR P w K HZ d u' (Ae A0 (ls.map V.ref))/\D9 K HZ ls A0 F/\Aa K HZ b (Ik a)/\∃A2 B,U3 P w K H HZ d2 A2 B/\Pm A0 F i (λp q=>q=a/\p∈(F a).take j) (i*70000+j) A2 B/\a∈A2) ⟨⟨_,rfl⟩,eX,hps,pp,dX,gX,sb,A2,B,aX,⟨tX.nd,tX.sub,tX.got,tX.no,λp q=>by rw[tX.on];simp,λp=>Nat.le_trans (tX.len p) (Nat.le_add_right ..)⟩,mA⟩ (λj σ HZ _ z=>Af.of z.2.2.1) ?_ ?_
   ·clear tX aX eX dX gX sb mA hps pp;intro j x;refine Pp ?_;rintro _ hGo σ HZ hx ⟨⟨x3,rfl⟩,eX,hps,pp,dX,gX,sb,A2,B,⟨ls2,ln,wX,g2⟩,tX,mA⟩;refine hGo _ _ ?_;clear hGo;obtain⟨c,hci,rfl⟩:∃c,ps[j]?=some c/\x=V.ref c:=by rw[aQ]at hx;obtain⟨c,h1,h2⟩:=aq.mp hx;exact⟨c,h1,h2.symm⟩
    obtain⟨p0,hp0,sc⟩:=Ar pp hci;have p0A:p0∈A0:=cl a aA p0 (ae hp0);have j7:j<70000:=by have:=(aN.mp hp0).1;lia
    have i7:=de 70000 i100;obtain⟨v2,r2⟩:=wX.r
    have lr:(Ae A2 (ls2.map V.ref)).length<=100:=by rw[BD (by rw[aH];exact g2.n)];exact lA2 tX
    have app:∀(HQ:Hp) (A2:List (qX)) (ls2:List qR) (j2:Nat) (l2:qR),AG (AV H d u') HQ->HQ l=some (.lst (ps.map V.ref))->Br K HQ ps (F a)->DR P w K HQ d u' (Ae A0 (ls.map V.ref))->D9 K HQ ls A0 F->Aa K HQ b (Ik a)->(∀l∈ls2,H l=none)->DW P w K HQ d2 (Ae A2 (ls2.map V.ref))->D9 K HQ ls2 A2 B->Pm A0 F i (λp q=>q=a/\p∈(F a).take j) (i*70000+j) A2 B->a∈A2->A2[j2]?=some p0->ls2[j2]?=some l2 ->
      ∃qs:List qR,HQ l2=some (.lst (qs.map V.ref))/\(qs.map V.ref).length<sizeLine/\∃HW,HW=AV HQ l2 (.lst (qs.map V.ref++[V.ref b]))/\AG (AV H d u') HW/\HW l=some (.lst (ps.map V.ref))/\Br K HW ps (F a)/\DR P w K HW d u' (Ae A0 (ls.map V.ref))/\D9 K HW ls A0 F/\Aa K HW b (Ik a)/\∃A2 B,U3 P w K H HW d2 A2 B/\Pm A0 F i (λp q=>q=a/\p∈(F a).take (j+1)) (i*70000+(j+1)) A2 B/\a∈A2:=by
     intro HQ A2 ls2 j2 l2 e h1 h2 h3 h4 h5 ln w2 g2 t m hj2 hl2;obtain⟨qs,hq,hqp⟩:=g2.e j2 p0 l2 hj2 hl2;have ml:=ae hl2;have h0:=ln l2 ml;have nl:=nls h0;have ne:l≠l2:=λz=>nl (by rw[<-z];exact ae hl)
     have lq:=Paired.length hqp;have lb:=t.len p0;have tp:=t.push hp0 (ae hj2);rw[eO]at tp;refine⟨qs,hq,by rw[aH,sizeLine_eq];lia,_,rfl,?_⟩;rw[show qs.map V.ref++[V.ref b]=(qs++[b]).map V.ref by rw[aZ];rfl];refine⟨e.into (by rw[AL λz=>by obtain⟨φ,y,_⟩:=dr.isX;rw[<-z,h0]at y;cases y];exact h0),by rw[AL ne];exact h1,Br.upd hq h2,h3.updL hq _,h4.keep hq nl _,Aa.updL hq h5,A2,_,⟨ls2,ln,w2.updL hq _,g2.push t.nd hj2 hl2 hq hqp h5 λ_=>rfl⟩,tp,m⟩
    refine⟨_,rfl,⟨d2,v2,_,rfl,r2⟩,_,rfl,by decide,λl' hl'=>?_⟩;have f1:=AG.new hl' (.lst []);have h0:=Hn eX hl';have nl:=g2.out hl';have lY:AV HZ l' (.lst []) l'=some (.lst []):=AE;have eY:=eX.trans f1;have dY:=dX.same f1;have gY:=gX.same f1;have wY:=wX.same f1;have g2Y:=g2.same f1;have sY:=Aa.same' f1 sb;have cY:=Aa.same' f1 sc;have hY:=f1 _ _ hps;have pY:=Br.same f1 pp;generalize AV HZ l' (.lst [])=HY at lY eY dY gY wY g2Y sY cY hY pY⊢;refine⟨d2,c,_,BL p0,.ref l',rfl,rfl,wY,cY,Ac (by lia),λz hz=>?_,λhz u3 w3=>?_⟩
    ·have m:p0∈A2:=by
      by_cases m:p0∈A2
      ·exact m
      ·rw[C6 m]at hz;cases hz
     obtain⟨j2,hj2⟩:=ay.mp m;have jl:=(aN.mp hj2).1;obtain⟨l2,hl2⟩:∃l2,ls2[j2]?=some l2:=⟨ls2[j2]'(by rw[g2.n];exact jl),aJ _⟩;rw[Bq tX.nd hj2 (v:=.ref l2) (by rw[aQ,hl2];rfl)]at hz;cases hz;obtain⟨qs,h1,h2,HW,hW,h3⟩:=app HY A2 ls2 j2 l2 eY hY pY dY gY sY ln wY g2Y tX mA hj2 hl2;refine⟨.inl ⟨rfl,_,Af.of h1⟩,_,rfl,l2,_,_,rfl,rfl,h1,h2,?_⟩;rw[<-hW];exact⟨⟨_,rfl⟩,h3⟩
    ·have m:p0∉A2:=λm=>by
      obtain⟨j2,hj2⟩:=ay.mp m;have jl:=(aN.mp hj2).1;rw[Bq tX.nd hj2 (v:=.ref (ls2[j2]'(by rw[g2.n];exact jl))) (by rw[aQ,aJ (by rw[g2.n];exact jl)];rfl)]at hz;cases hz
     obtain⟨ln3,w3',g3⟩:=RM ln wY g2Y lY nl h0 m (tX.no p0 m) w3;have hj2:(A2++[p0])[A2.length]?=some p0:=by rw[bE (aP _),dU];rfl
     have hl2:(ls2++[l'])[A2.length]?=some l':=by rw[<-g2.n,bE (aP _),dU];rfl
     have wx:∃φ,HY d2=some (.ext φ):=by obtain⟨_,y,_⟩:=wY;exact⟨_,y⟩
     obtain⟨φ,hφ⟩:=wx;obtain⟨qs,h1,h2,HW,hW,h3⟩:=app (AV HY d2 u3) (A2++[p0]) (ls2++[l']) A2.length l' (eY.into hd2') (wY.lst hY u3) (wY.prv pY u3) (dY.updX wY nd2 u3) (wY.grl gY u3) (sY.upd' hφ) ln3 w3' g3 (tX.key m p0A) (aR.mpr (.inl mA)) hj2 hl2;refine⟨.inl ⟨rfl,_,Af.of h1⟩,_,rfl,l',_,_,rfl,rfl,h1,h2,?_⟩;rw[<-hW];exact⟨⟨_,rfl⟩,h3⟩
   ·refine Fb ?_;rintro _ hGo σ HZ ⟨⟨x3,rfl⟩,eX,hps,pp,dX,gX,sb,A2,B,aX,tX,mA⟩;refine hGo _ _ ?_;clear hGo;rw[aH,pn]at tX;refine⟨⟨_,_,rfl⟩,eX,dX,gX,A2,B,aX,tX.nd,tX.sub,λp hp=>?_,tX.no,λp q=>?_,λp=>bK (tX.len p) (by lia)⟩
    ·rw[bo,ha]at hp;rcases aR.mp hp with z|z
     ·exact tX.got p z
     ·rw[aV.mp z];exact mA
    ·rw[tX.on,bR,bo,ha,show (some a).toList=[a] from rfl,aR,aV,or_false];constructor
     ·rintro (⟨h1,h2⟩|⟨h1,h2⟩)
      ·exact⟨.inl h1,h2⟩
      ·exact⟨.inr h1,by rw[h1];exact h2⟩
     ·rintro⟨h1|h1,h2⟩
      ·exact .inl ⟨h1,h2⟩
      ·exact .inr ⟨h1,by rw[h1]at h2;exact h2⟩
  ·rintro σ HX ⟨⟨x2,x3,rfl⟩,eX,dX,gX,A2,B,⟨ls2,ln,wX,gX2⟩,tX⟩;rw[BD (by rw[aH];exact gX.n)]at tX;exact hN _ _ ⟨⟨_,_,rfl⟩,u',ls2,A2,B,eX,dX,ln,wX,gX2,⟨tX.nd,λp=>⟨tX.sub p,λh=>tX.got p (by rw[List.take_length];exact h)⟩,λp q=>by rw[tX.on,List.take_length];simp,λp=>Nat.le_trans (tX.len p) (Nat.mul_le_mul_right 70000 lA)⟩⟩
 rintro _ hGo σ HX ⟨⟨x2,x3,rfl⟩,u',ls2,A2,B,eX,dX,ln,wX,gX,tX⟩;refine hGo _ _ ?_;walk_at "";exact q u' HX d2 ls2 A2 B eX dX hd2 ln wX gX tX
theorem IX:AO ["ahead","most","free","steps","here"] ["ahead"] (AI Ww):=CS
theorem Yh(T:CP K mg t) :CJ P w K mg base 1 t.f_22 ["ahead"] (RN P w K):=by
 refine Am T.d_22.2 IX λvs H Q E h=>?_;obtain⟨d,u,ls,A0,B,rfl,dr,gr,nd,cl,lA,lB,q⟩:=h;refine⟨rfl,λfi A outer s hr=>?_⟩
 refine⟨_,(AB (F8 (i:=1) IX.nd rfl (Or.inr rfl) (Fs (P:=P) (w:=w) (K:=K) rfl rfl rfl))
  (AB (DS (iy:=2) (fv:=[(0,"ahead")]) (cl:=[("ahead",_)]) rfl IX.nd rfl (Or.inl rfl) (E4 (P:=P) (w:=w) (K:=K) rfl rfl rfl (pv 0)) (by with_unfolding_all rfl) (by with_unfolding_all rfl) (by decide +kernel) rfl (by decide +kernel) rfl ⟨(by with_unfolding_all rfl),trivial⟩ (by with_unfolding_all rfl) ⟨⟨rfl,rfl,(by with_unfolding_all rfl),rfl⟩,trivial⟩ (by decide) (λ_ _ _ _=>(FM (AK Bb (Ad (MP (K:=K) rfl) rfl T.z_len bJ (AA (by exact B2 (P:=P) (w:=w) (K:=K) rfl rfl rfl (CF hr) (pv 1) (pv 0) (λ_ _=>rfl)) AC)) AD (AQ _)))) (λ_ _ _ _=>(pv 0)))
  (AB (AU 3 IX AD)
  (AB (Ed PassesOwn.never (AK FG (Ad (Gc K) rfl T.z_len bJ (AA (pv 2) AC)) AD (AQ _)) (AB (Ay PassesOwn.never rfl (Mz K (pv 2)) (A3 4 IX) (AF (IB (P:=P) (w:=w) (K:=K) rfl rfl rfl (CF hr) (pv 1) (pv 4) (pv 3) rfl)))
  (AB (AU 3 IX (AH Ag (pv 3) AD))
  (AF (DS (iy:=2) (fv:=[(1,"most"),(0,"ahead")]) (cl:=[("most",_),("ahead",_)]) rfl IX.nd rfl (Or.inl rfl) (E4 (P:=P) (w:=w) (K:=K) rfl rfl rfl (pv 0)) (by with_unfolding_all rfl) (by with_unfolding_all rfl) (by decide +kernel) rfl (by decide +kernel) rfl ⟨(by with_unfolding_all rfl),⟨(by with_unfolding_all rfl),trivial⟩⟩ (by with_unfolding_all rfl) ⟨⟨rfl,rfl,(by with_unfolding_all rfl),rfl⟩,⟨⟨rfl,rfl,(by with_unfolding_all rfl),rfl⟩,trivial⟩⟩ (by decide) (λ_ _ _ _=>(FM (PW.pt (FK (Pr (IA (P:=P) (w:=w) (K:=K) rfl rfl rfl (CF hr) (pv 0) (pv 1))) (EB (Bg (Ad (Mf (K:=K) rfl rfl) rfl T.z_all PyProof.Rows.boot_all (AA (Ng [(1,"most")] [("most",_)] (RP (K:=K) rfl (by exact B2 (P:=P) (w:=w) (K:=K) rfl rfl rfl (CF hr) (pv 2) (pv 0) (λ_ _=>rfl))) (λ_ _ _ _=>GJ) (λ_ _ _ _=>(Ve (Tz (P:=P) (w:=w) (K:=K) rfl rfl rfl (CF hr) (pv 0) (pv 1))))) AC)))))))) (λ_ _ _ _=>(pv 0)))))))
  (AF (AN (pv 1))))))),?_⟩
 refine An λN hN=>?_;walk_at "";intro d2 u2 hd2 dw;refine hN _ _ ?_;clear hN N
 have nd2:d≠d2:=λe=>by obtain⟨φ,h1,_⟩:=dr.isX;rw[e,hd2]at h1;cases h1
 have e0:=AG.new hd2 u2;generalize AV H d2 u2=H0 at dw e0⊢
 have Hn:∀{HX:Hp} {l:qR} {u':HO},AG (AV H d u') HX->HX l=none->H l=none:=λ{HX l u'} e z=>by have y:=e.free z;rw[AL λx=>by rw[x,AE]at y;cases y]at y;exact y
 refine CC (λσ HX=>∃D,σ=[some (.ref d),some (.ref d2),some (.ref D),none,none]/\ZE P w K H d d2 ls A0 B D [] (λ_=>0) (A0.filter λp=>decide (B p=[])) HX) (λN hN=>?_) ?_
 ·refine⟨_,rfl,d,u,_,rfl,dr.same e0,λu' dr' D hD=>?_⟩;have eF:=AG.both e0 d u';have gF:=(dr.same e0).grl (gr.same e0) u';have wF:DW P w K (AV H0 d u') d2 (Ae [] []):=by obtain⟨bs,h1,h3,h4⟩:=dw;have hb:bs=[]:=List.map_eq_nil_iff.mp h3;subst hb;exact⟨[],by rw[AL (Ne.symm nd2)];exact h1,rfl,λp hp=>qG hp am⟩
  generalize AV H0 d u'=HF at dr' eF gF wF hD⊢;refine FS (P:=P) (w:=w) (K:=K) (λi fh Hx=>∃ps:List qR,fh=ps.map V.ref/\ps.length<=i/\AG HF Hx/\Hx D=some (.lst fh)/\Br K Hx ps ((A0.take i).filter λp=>decide (B p=[]))) ⟨[],rfl,aP _,AG.new hD _,AE,.nil⟩ (λi fh Hx _ z=>by obtain⟨_,_,_,e,_⟩:=z;exact dr'.same e) ?_ ?_
  ·intro i b k v;refine YQ ?_;rintro _ hGo fh Hx hk sb ⟨ps,rfl,lp,ex,hDx,hp⟩;refine hGo _ _ ?_;clear hGo;obtain⟨a,l,ha,hl,rfl,rfl⟩:=Jx hk;have i100:i<=100:=by have:=(aN.mp ha).1;lia
   obtain⟨qs,hq,pq⟩:=(gF.same ex).e i a l ha hl;have lq:=Paired.length pq;refine⟨_,rfl,_,rfl,d,b,u',_,BL a,.ref l,rfl,rfl,dr'.same ex,sb,Bq nd ha (by rw[aQ,hl];rfl),l,_,rfl,.inl (Af.of hq),rfl,_,rfl,?_⟩;dsimp only;rw[Dy ha,aH,lq]
   by_cases z:B a=[]
   ·rw[qF (by rw[z];rfl),qF (qH z)];refine⟨_,rfl,hDx,by rw[aH];exact Ac (by lia),ps++[b],by rw[aZ];rfl,by rw[aU,bW];lia,ex.into hD,AE,?_⟩;exact Paired.app (Br.upd hDx hp) (.cons (Aa.updL hDx sb) .nil)
   ·have nz:(B a).length≠0:=λy=>z (fE.mp y)
    rw[qE (λy=>nz (by have:=qN y;injection this with this;lia)),qE (λy=>z (qN y)),au];exact⟨ps,rfl,by lia,ex,hDx,hp⟩
  ·rintro fh H2 ⟨ps,rfl,lp,ex,hDx,hp⟩;rw[BD (by rw[aH];exact gF.n),bR]at hp;exact hN _ _ ⟨D,rfl,u',ps,eF.trans ex,dr'.same ex,gF.same ex,Hn eF hD,hDx,hp,wF.same ex⟩
 rintro _ hGo σ HX ⟨D,rfl,mv⟩;refine hGo _ _ ?_;refine An λN hN=>?_;refine hN _ _ ?_;clear hN N dw e0;refine CC (λσ HX=>∃D M f n x4,σ=[some (.ref d),some (.ref d2),some (.ref D),some (.int (n:Nat)),x4]/\ZE P w K H d d2 ls A0 B D M f [] HX/\RQ A0 B M f [] n) (λN hN=>?_) ?_
 ·refine⟨λm σ HX=>∃D M f FL n x4,m=101-n/\σ=[some (.ref d),some (.ref d2),some (.ref D),some (.int (n:Nat)),x4]/\ZE P w K H d d2 ls A0 B D M f FL HX/\RQ A0 B M f FL n,⟨_,D,[],_,_,0,none,rfl,rfl,mv,RS nd _⟩,?_⟩;clear mv HX D;intro m;refine Fb ?_;rintro _ hGo σ HX ⟨D,M,f,FL,n,x4,rfl,rfl,⟨u',ps,eX,dX,gX,hD0,hD,pX,wX⟩,mp⟩;refine hGo _ _ ?_;clear hGo;have lp:=Paired.length pX;refine⟨_,rfl,D,_,rfl,.inl (Af.of hD),_,_,rfl,rfl,_,rfl,?_⟩;dsimp only;rw[aH,lp];have few:=mp.few;have nle:=mp.le
  by_cases z:FL=[]
  ·subst z;rw[qE (λy=>qG (qN y) (by decide))];exact hN _ _ ⟨D,M,f,n,x4,rfl,⟨u',ps,eX,dX,gX,hD0,hD,pX,wX⟩,mp⟩
  have fl:0<FL.length:=dN.mpr z;rw[qF (qH (by lia))];refine⟨λσ HX=>∃D M' f' FL' x4,σ=[some (.ref d),some (.ref d2),some (.ref D),some (.int ((n+1:Nat):Int)),x4]/\ZE P w K H d d2 ls A0 B D M' f' FL' HX/\RQ A0 B M' f' FL' (n+1),by rintro σ' H' ⟨D,M',f',FL',x4,h1,h2,h3⟩;exact⟨101-(n+1),by lia,D,M',f',FL',n+1,x4,rfl,h1,h2,h3⟩,?_⟩;have hd2':∀u',AV H d u' d2=none:=λu'=>by rw[AL (Ne.symm nd2)];exact hd2
  refine Z6 (λσ HZ=>(∃x4,σ=[some (.ref d),some (.ref d2),some (.ref D),some (.int (n:Nat)),x4])/\AG (AV H d u') HZ/\DR P w K HZ d u' (Ae A0 (ls.map V.ref))/\D9 K HZ ls A0 B/\DW P w K HZ d2 (Ae (M++FL) ((M++FL).map λp=>V.int (WH M f n p:Int)))) (λN hN=>?_) ?_
  ·refine⟨_,rfl,D,rfl,⟨_,Af.of hD⟩,?_⟩;refine Bl (xs:=ps.map V.ref) (λj σ HZ=>(∃x4,σ=[some (.ref d),some (.ref d2),some (.ref D),some (.int (n:Nat)),x4])/\AG (AV H d u') HZ/\DR P w K HZ d u' (Ae A0 (ls.map V.ref))/\D9 K HZ ls A0 B/\HZ D=some (.lst (ps.map V.ref))/\Br K HZ ps FL/\DW P w K HZ d2 (Ae (M++FL.take j) ((M++FL.take j).map λp=>V.int (WH M f n p:Int)))) ⟨⟨_,rfl⟩,eX,dX,gX,hD,pX,?_⟩ (λj σ HZ _ z=>Af.of z.2.2.2.2.1) ?_ ?_
   ·rw[List.take_zero,au,bG (g:=λp=>V.int (f p:Int)) λp hp=>by rw[EI hp]];exact wX
   ·intro j x;refine Pp ?_;rintro _ hGo σ HZ hx ⟨⟨x4,rfl⟩,eZ,dZ,gZ,hDZ,pZ,wZ⟩;refine hGo _ _ ?_;clear hGo;obtain⟨c,hci,rfl⟩:∃c,ps[j]?=some c/\x=V.ref c:=by rw[aQ]at hx;obtain⟨c,h1,h2⟩:=aq.mp hx;exact⟨c,h1,h2.symm⟩
    obtain⟨p0,hp0,sc⟩:=Ar pZ hci;have pn:p0∉M:=((mp.on p0).mp (ae hp0)).2.1;have nin:p0∉M++FL.take j:=λy=>(aR.mp y).elim pn (EH mp.ndF hp0)
    have lr:(Ae (M++FL.take j) ((M++FL.take j).map λp=>V.int (WH M f n p:Int))).length<=100:=by rw[BD (by rw[aH]),aU,bQ];lia
    refine⟨_,rfl,_,rfl,_,rfl,d2,c,_,BL p0,rfl,rfl,wZ,sc,Ac (by lia),λu3 w3=>⟨⟨_,rfl⟩,eZ.into (hd2' u'),dZ.updX wZ nd2 u3,wZ.grl gZ u3,wZ.lst hDZ u3,wZ.prv pZ u3,?_⟩⟩;rw[Er (by rw[aH]) nin]at w3;rw[bo,hp0,show (some p0).toList=[p0] from rfl,<-a9,aZ (l₂:=[p0]),List.map_singleton,Fy pn];exact w3
   ·rintro σ HZ ⟨⟨x4,rfl⟩,eZ,dZ,gZ,hDZ,pZ,wZ⟩;rw[aH,lp,bR]at wZ;exact hN _ _ ⟨⟨_,rfl⟩,eZ,dZ,gZ,wZ⟩
  clear eX dX gX hD pX wX;have mq:=mp.step nd z;have lM2:(M++FL).length<=100:=by rw[aU];lia
  obtain⟨M2,hM2⟩:∃M2,M2=M++FL:=⟨_,rfl⟩;rw[<-hM2]at mq lM2⊢;generalize WH M f n=f2 at mq⊢;refine Fb ?_;rintro _ hGo σ HZ ⟨⟨y4,rfl⟩,eZ,dZ,gZ,wZ⟩;refine hGo _ _ ?_;clear hGo;refine An λN hN=>⟨_,rfl,_,_,rfl,rfl,hN _ _ ?_⟩
  clear hN N;refine⟨_,rfl,d,u',_,rfl,dZ,λu2 dr2 D2 hD2=>?_⟩;have eG:=AG.both eZ d u2;rw[Ey]at eG;have gG:=dZ.grl gZ u2
  have wG:DW P w K (AV HZ d u2) d2 (Ae M2 (M2.map λp=>V.int (f2 p:Int))):=by obtain⟨bs,h1,h3,h4⟩:=wZ;exact⟨bs,by rw[AL (Ne.symm nd2)];exact h1,h3,λp hp=>dZ.sqt (h4 p hp) u2⟩
  generalize AV HZ d u2=HG at dr2 eG gG wG hD2⊢;refine FS (P:=P) (w:=w) (K:=K) (λi fh Hx=>∃ps2:List qR,fh=ps2.map V.ref/\ps2.length<=i/\AG HG Hx/\Hx D2=some (.lst fh)/\Br K Hx ps2 ((A0.take i).filter λp=>decide (p∉M2)&&decide (∀q∈B p,q∈M2))) ⟨[],rfl,aP _,AG.new hD2 _,AE,.nil⟩ (λi fh Hx _ z=>by obtain⟨_,_,_,e,_⟩:=z;exact dr2.same e) ?_ ?_
  ·intro i b k v;refine YQ ?_;rintro _ hGo fh Hx hk sb ⟨ps2,rfl,l2,ex,hDx,hp⟩;refine hGo _ _ ?_;clear hGo;obtain⟨a,l,ha,hl,rfl,rfl⟩:=Jx hk;have i100:i<=100:=by have:=(aN.mp ha).1;lia
   obtain⟨qs,hq,pq⟩:=(gG.same ex).e i a l ha hl;have lq:=Paired.length pq;have la:=lB a (ae ha);obtain⟨u5,r5⟩:=(wG.same ex).r;refine⟨_,rfl,_,rfl,d2,b,u5,_,BL a,rfl,rfl,r5,sb,_,rfl,?_⟩;dsimp only;rw[FT,Dy ha]
   by_cases m:a∈M2
   ·rw[qH m,Bool.not_true];refine Vs (Vs ?_);rw[qE (by rw[qI (λy=>y m)];exact ap),au];exact⟨ps2,rfl,by lia,ex,hDx,hp⟩
   rw[qI m,Bool.not_false];refine ZR ?_;refine⟨_,rfl,_,rfl,d,b,u2,_,BL a,.ref l,rfl,rfl,dr2.same ex,sb,Bq nd ha (by rw[aQ,hl];rfl),l,rfl,⟨_,Af.of hq⟩,λD3 hD3=>?_⟩;refine GK (xs:=qs.map V.ref) (λj fh Hy=>fh=((B a).take j).map (λp=>V.bl (decide (p∈M2)))/\AG Hx Hy/\Hy D3=some (.lst fh)) ⟨rfl,AG.new hD3 _,AE⟩ (λj fh Hy _ z=>Af.of (z.2.1 _ _ hq)) ?_ ?_
   ·refine M4 ?_;rintro j x _ hGo fh Hy hx ⟨rfl,ey,h3⟩;refine hGo _ _ ?_;obtain⟨c,hci,rfl⟩:∃c,qs[j]?=some c/\x=V.ref c:=by rw[aQ]at hx;obtain⟨c,h1,h2⟩:=aq.mp hx;exact⟨c,h1,h2.symm⟩
    obtain⟨p0,hp0,sc⟩:=Ar pq hci;dsimp only[Te];rw[qF rfl];refine⟨_,rfl,_,rfl,d2,c,u5,_,BL p0,rfl,rfl,r5.same ey,Aa.same' ey sc,h3,?_,?_,ey.into hD3,AE⟩
    ·rw[aH,bQ,sizeLine_eq];lia
    ·rw[FT,bo,hp0,aZ];rfl
   ·refine Fb ?_;rintro _ hGo fh Hy ⟨rfl,ey,h3⟩;refine hGo _ _ ?_;clear hGo;rw[aH,lq,bR]at h3;refine⟨D3,(B a).map λp=>decide (p∈M2),rfl,Af.of (by rw[h3,ce];rfl),_,rfl,?_⟩;dsimp only;have ev:(((B a).map λp=>decide (p∈M2)).all id=true)↔∀q∈B a,q∈M2:=by simp
    by_cases all:∀q∈B a,q∈M2
    ·rw[qF (ev.mpr all),qF (by rw[qH m,qH all];rfl)];have hD':=ey _ _ hDx;refine⟨_,rfl,hD',by rw[aH];exact Ac (by lia),ps2++[b],by rw[aZ];rfl,by rw[aU,bW];lia,(ex.trans ey).into hD2,AE,?_⟩;exact Paired.app (Br.upd hD' (Br.same ey hp)) (.cons (Aa.updL hD' (Aa.same' ey sb)) .nil)
    ·rw[qE (λy=>all (ev.mp y)),qE (by rw[qI all,Bool.and_false];exact ap),au];exact⟨ps2,rfl,by lia,ex.trans ey,ey _ _ hDx,Br.same ey hp⟩
  ·refine Fb ?_;rintro _ hGo fh H2 ⟨ps2,rfl,l2,ex,hDx,hp⟩;refine hGo _ _ ?_;clear hGo;rw[BD (by rw[aH];exact gG.n),bR]at hp;exact⟨D2,M2,f2,_,_,rfl,⟨u2,ps2,eG.trans ex,dr2.same ex,gG.same ex,Hn eG hD2,hDx,hp,wG.same ex⟩,mq⟩
 rintro _ hGo σ HX ⟨D,M,f,n,x4,rfl,⟨u',ps,eX,dX,gX,hD0,hD,pX,wX⟩,mp⟩;refine hGo _ _ ?_;walk_at "";exact q u' HX d2 M f eX dX hd2 wX mp.done
theorem Yi:AO ["node","other"] ["node","other"] (AI Wx):=CS
theorem VO(T:CP K mg t) :CJ P w K mg base 1 t.f_48 ["node","other"] (K3 K):=by
 refine Am T.d_48.2 Yi λvs H Q E h=>?_;obtain⟨a,b,rfl,q⟩:=h;refine⟨rfl,λfi A outer s hr=>?_⟩
 refine⟨_,(AB (Ak (AK Bb (pv 0) (pv 1) (AQ _)) (AF (AN (HN rfl T.m_EVEN))) AT)
  (AF (AN (Bc (AA (pv 0) (AA (pv 1) AC)))))),?_⟩
 walk_at ""
 by_cases e:a=b
 ·rw[qF (by rw[e])];refine q _ H (AG.refl _) ?_;subst e;rw[CL];exact Ft T.q_EVEN H
 ·rw[qE (by lia)];refine⟨by decide,λp hp=>q p _ (AG.new hp _) (Aa.of ?_)⟩;unfold B5;rw[qE e];exact AE
theorem Sm:AO ["framed","pairs","node"] ["framed"] (AI Wy):=CS
theorem VP(T:CP K mg t):CJ P w K mg base 2 t.f_37 ["framed"] (RJ K):=by
 refine Am T.d_37.2 Sm λvs H Q E h=>?_;obtain⟨r,g,lo,dl,m,rfl,ok,sm,q⟩:=h;refine⟨rfl,λfi A outer s hr=>?_⟩
 refine⟨_,(AB (AU 1 Sm (BB (AA (HN rfl T.m_EVEN) AC)))
  (AB (Ay PassesOwn.never rfl (Aw rfl T.z_range (AA (AR hr (Lg T) T.d_56.1 (AA (pv 0) AC)) AC)) (A3 2 Sm) (AF (BF (KT d4 e9 fA GH (pv 1) (AA (Ng [(2,"node")] [("node",_)] (Aw rfl T.z_range (AA (AR hr (Lg T) T.d_56.1 (AA (pv 0) AC)) AC)) (λ_ _ _ _=>(FM (AK Do (pv 0) (pv 1) (AQ _)))) (λ_ _ _ _=>(Bc (AA (pv 1) (AA (pv 0) AC))))) AC)))))
  (AF (AN (pv 1))))),?_⟩
 have hd:=BC ok.g2 ok.len ok.m1;have gp:=RW.Ah ok.g2 (m-1);obtain⟨h,hh⟩:∃h:Nat,h=dl.length/g.toNat:=⟨_,rfl⟩;rw[<-hh]at q hd;have h9:h<=9:=by lia
 refine An λN hN=>?_;walk_at "";refine⟨by decide,λD hD=>hN _ _ ?_⟩;clear hN N;refine CC (λσ HX=>(∃x2,σ=[some (.ref r),some (.ref D),x2])/\AG H HX/\∃ps:List qR,HX D=some (.lst (ps.map V.ref))/\Br K HX ps (Be h)) (λN hN=>?_) ?_
 ·have e0:=AG.new hD (.lst [V.ref t.k_EVEN]);refine⟨_,rfl,r,g,lo,dl,m,rfl,ok.same e0,?_⟩;rw[<-hh];refine⟨_,rfl,by lia,by lia,?_⟩;rw[aW];refine BJ (n:=h) (λi σ HX=>(∃x2,σ=[some (.ref r),some (.ref D),x2])/\AG H HX/\∃ps:List qR,HX D=some (.lst (ps.map V.ref))/\Br K HX ps ((0,0)::(List.range i).flatMap (ID h))) ⟨⟨none,rfl⟩,e0,[t.k_EVEN],AE,.cons (Ft T.q_EVEN _) .nil⟩ ?_ λσ HX z=>hN _ _ z
  refine DM ?_;rintro _ _ i _ hGo σ HX hi ⟨⟨x2,rfl⟩,eX,ps,hX,hp⟩;refine hGo _ _ ?_;have lp:=Paired.length hp
  have ll:ps.length<=100:=by have a:=Fv h i;have b:=cS (show i<=9 by lia) h9;rw[lp,bD];lia
  have okX:=ok.same eX;refine⟨_,rfl,.inl ⟨rfl,_,Af.of hX⟩,?_⟩;refine⟨_,rfl,r,g,lo,dl,m,rfl,okX,?_⟩;rw[<-hh];refine⟨_,rfl,by lia,by lia,λD2 hD2=>?_⟩;rw[aW];refine Cg (n:=h) (λj fh Hx=>∃ps2:List qR,fh=ps2.map V.ref/\ps2.length<=j/\AG HX Hx/\Hx D2=some (.lst fh)/\Br K Hx ps2 (((List.range j).filter λo=>decide (o≠i)).map λo=>(i,o))) ⟨[],rfl,aP _,AG.new hD2 _,AE,.nil⟩ ?_ ?_
  ·refine Gd ?_;rintro j _ hGo fh Hx hj ⟨ps2,rfl,l2,ex,h2,hp2⟩;refine hGo _ _ ?_;walk_at "";rw[bP,cA]
   by_cases e:j=i
   ·rw[qE (by lia),show ([j].filter λo=>decide (o≠i))=[] by subst e;simp,List.append_nil];exact⟨ps2,rfl,by lia,ex,h2,hp2⟩
   ·rw[qF (by lia),show ([j].filter λo=>decide (o≠i))=[j] by simp[e],List.map_append];refine⟨by decide,λp hp=>?_⟩;have f1:=AG.new hp (.tup [V.int (0+(i:Int)),V.int (0+(j:Int))]);have hl:=f1 _ _ h2;refine⟨hl,by rw[aH];exact Ac (by lia),ps2++[p],by rw[aZ];rfl,by rw[aU,bW];lia,(ex.trans f1).into hD2,AE,Paired.app (Br.upd hl (Br.same f1 hp2)) (.cons (Aa.updL hl (Aa.of ?_)) .nil)⟩;rw[AE,bC,bC];rfl
  ·refine Fb ?_;rintro _ hGo fh H2 ⟨ps2,rfl,l2,ex,h2,hp2⟩;refine hGo _ _ ?_;clear hGo;dsimp only[Ii];refine⟨D,D2,_,_,rfl,rfl,ex _ _ hX,h2,?_,?_⟩
   ·rw[aH,aH];exact cr (Ac (show ps.length+ps2.length<=1000 by lia))
   refine⟨⟨_,rfl⟩,(eX.trans ex).into hD,ps++ps2,by rw[AE,aZ],?_⟩;rw[bP,cM,<-eW];refine Paired.app (Br.upd (ex _ _ hX) (Br.same ex hp)) ?_;rw[bg,dD,au];exact Br.upd (ex _ _ hX) hp2
 rintro _ hGo σ HX ⟨⟨x2,rfl⟩,eX,ps,hX,hp⟩;refine hGo _ _ ?_;walk_at "";exact q D HX ps eX hD hX hp
theorem OT:AO ["framed","found","word","told"] ["framed"] (AI Wz):=CS
theorem VQ(T:CP K mg t) :CJ P w K mg base 1 t.f_28 ["framed"] (RK K):=by
 refine Am T.d_28.2 OT λvs H Q E h=>?_;obtain⟨r,g,lo,dl,m,rfl,ok,sm,q⟩:=h;refine⟨rfl,λfi A outer s hr=>?_⟩
 refine⟨_,(AB (AU 1 OT (BB AC))
  (AB (Ay PassesOwn.never rfl (Hb rfl T.z_enumerate (AA (AJ (Bi K) (pv 0) AD (λ_ _=>rfl)) AC)) (YC K 2 rfl (BH (A3 2 OT) (BH (A3 3 OT) Cy))) (AF (BF (KT d4 e9 fA GH (pv 1) (AA (Q3 (fv:=[(2,"word"),(3,"told")]) (cl:=[("word",_),("told",_)]) rfl (Hb rfl T.z_enumerate (AA (AJ (Bi K) (pv 0) AD (λ_ _=>rfl)) AC)) (by with_unfolding_all rfl) (by decide +kernel) rfl (by decide +kernel) rfl rfl ⟨(by with_unfolding_all rfl),⟨(by with_unfolding_all rfl),trivial⟩⟩ (by with_unfolding_all rfl) ⟨⟨rfl,rfl,(by with_unfolding_all rfl),rfl⟩,⟨⟨rfl,rfl,(by with_unfolding_all rfl),rfl⟩,trivial⟩⟩ (by decide) (λ_ _ _ _=>(FM (PW.pt (FK (AK Bb (pv 1) (pv 3) (AQ _)) (EB (AK Do (pv 0) (pv 2) (AQ _))))))) (λ_ _ _ _=>(Bc (AA (pv 2) (AA (pv 0) AC))))) AC)))))
  (AF (AN (pv 1))))),?_⟩
 refine Ba.el ok.v λtb h1 h2=>?_;have hlm:(dl.map V.int).length=dl.length:=aH ..;refine An λN hN=>?_;walk_at "";refine⟨by decide,λD hD=>hN _ _ ?_⟩;clear hN N;refine CC (λσ HX=>(∃x2 x3,σ=[some (.ref r),some (.ref D),x2,x3])/\AG H HX/\∃ps:List qR,HX D=some (.lst (ps.map V.ref))/\Br K HX ps (Aj dl)) (λN hN=>?_) ?_
 ·have e0:=AG.new hD (.lst []);refine⟨_,rfl,r,_,2,_,rfl,rfl,Aa.of (e0 _ _ h1),rfl,?_⟩;refine⟨tb,_,rfl,Aa.of (e0 _ _ h2),?_⟩;refine Iz (xs:=dl.map V.int) (λi σ HX=>(∃x2 x3,σ=[some (.ref r),some (.ref D),x2,x3])/\AG H HX/\∃ps:List qR,HX D=some (.lst (ps.map V.ref))/\Br K HX ps ((List.range i).flatMap (RI dl))) ⟨⟨none,none,rfl⟩,e0,[],AE,.nil⟩ (λi σ HX _ z=>Aa.of (z.2.1 _ _ h2)) ?_ λσ HX z=>hN _ _ (by rw[hlm]at z;exact z)
  intro i x p2;refine Pp ?_;rintro _ hGo σ HX hx ⟨⟨x2,x3,rfl⟩,eX,ps,hX,hp⟩;refine hGo _ _ λhp2=>?_;clear hGo;obtain⟨n,hn,rfl⟩:=Eg hx;have hi:i<dl.length:=(aN.mp hn).1;have f2:=AG.new hp2 (.tup [V.int ((i:Nat):Int),V.int n]);have eY:=eX.trans f2;have hY:=f2 _ _ hX;have pY:=Br.same f2 hp;refine⟨p2,_,rfl,Aa.of AE,rfl,_,_,rfl,_,_,rfl,rfl,?_⟩;generalize AV HX p2 (.tup [V.int ((i:Nat):Int),V.int n])=HY at eY hY pY⊢;clear hX hp f2 eX hp2;refine⟨_,rfl,.inl ⟨rfl,_,Af.of hY⟩,?_⟩;refine⟨_,rfl,r,_,2,_,rfl,rfl,Aa.of (eY _ _ h1),rfl,?_⟩;refine⟨tb,_,rfl,Aa.of (eY _ _ h2),λD2 hD2=>?_⟩;refine K4 (xs:=dl.map V.int) (λj fh Hx=>∃ps2:List qR,fh=ps2.map V.ref/\ps2.length<=j/\AG HY Hx/\Hx D2=some (.lst fh)/\Br K Hx ps2 (((List.range j).filter λb=>decide (dl.getD b 0=dl.getD i 0)&&decide (b≠i)).map λb=>(i,b))) ⟨[],rfl,aP _,AG.new hD2 _,AE,.nil⟩ (λj fh Hx _ z=>by obtain⟨_,_,_,z,_⟩:=z;exact Aa.of (z _ _ (eY _ _ h2))) ?_ ?_
  ·intro j x p3;refine Pp ?_;rintro _ hGo fh Hx hx ⟨ps2,rfl,l2,ex,h2',hp2⟩;refine hGo _ _ λhp3=>?_;clear hGo;obtain⟨n',hn',rfl⟩:=Eg hx;have f3:=AG.new hp3 (.tup [V.int ((j:Nat):Int),V.int n']);have eA:=ex.trans f3;have hA:=f3 _ _ h2';have pA:=Br.same f3 hp2;generalize AV Hx p3 (.tup [V.int ((j:Nat):Int),V.int n'])=HA at eA hA pA⊢;clear f3 ex h2' hp2 hp3;have en:n=dl.getD i 0:=by rw[aK,hn];rfl
   have en':n'=dl.getD j 0:=by rw[aK,hn'];rfl
   walk_at "";rw[bP,cA]
   by_cases e1:n'=n
   ·have e1':dl.getD j 0=dl.getD i 0:=by rw[<-en',e1,en]
    rw[qF e1]
    by_cases e:j=i
    ·rw[qE (by lia),Gm (by rw[qI (show ¬j≠i from λz=>z e),Bool.and_false]),au];exact⟨ps2,rfl,by lia,eA,hA,pA⟩
    ·rw[qF (by lia),IE (by rw[cg];exact⟨qH e1',qH e⟩),aZ];refine⟨by decide,λp hp=>?_⟩;have f1:=AG.new hp (.tup [V.int ((i:Nat):Int),V.int ((j:Nat):Int)]);have hl:=f1 _ _ hA;have hj:j<dl.length:=(aN.mp hn').1;have lt:dl.length<=256:=by have:=ok.sz;have:=ok.len;lia
     refine⟨hl,by rw[aH];exact Ac (by lia),ps2++[p],by rw[aZ];rfl,by rw[aU,bW];lia,(eA.trans f1).into hD2,AE,Paired.app (Br.upd hl (Br.same f1 pA)) (.cons (Aa.updL hl (Aa.of AE)) .nil)⟩
   ·rw[qE e1,Gm (by rw[qI (show ¬dl.getD j 0=dl.getD i 0 from λz=>e1 (by rw[en',z,en])),Bool.false_and]),au];exact⟨ps2,rfl,by lia,eA,hA,pA⟩
  ·refine Fb ?_;rintro _ hGo fh H2 ⟨ps2,rfl,l2,ex,h2',hp2⟩;refine hGo _ _ ?_;clear hGo;dsimp only[Ii];rw[hlm]at l2 hp2;have lt:dl.length<=256:=by have:=ok.sz;have:=ok.len;lia
   have lp:=Paired.length pY;have ll:=Fw dl i;have lm:=cS (show i<=256 by lia) lt;refine⟨D,D2,_,_,rfl,rfl,ex _ _ hY,h2',?_,?_⟩
   ·rw[aH,aH,sizeLine_eq];lia
   refine⟨⟨_,_,rfl⟩,(eY.trans ex).into hD,ps++ps2,by rw[AE,aZ],?_⟩;rw[bP,cM];refine Paired.app (Br.upd (ex _ _ hY) (Br.same ex pY)) ?_;rw[bg,dD,au];exact Br.upd (ex _ _ hY) hp2
 rintro _ hGo σ HX ⟨⟨x2,x3,rfl⟩,eX,ps,hX,hp⟩;refine hGo _ _ ?_;walk_at "";exact q D HX ps eX hD hX hp
theorem Yj:AO ["framed","words"] ["framed","words"] (AI W0):=CS
theorem Jb(T:CP K mg t):CJ P w K mg base 2 t.f_44 ["framed","words"] (No K):=by
 refine Am T.d_44.2 Yj λvs H Q E h=>?_;obtain⟨r,c,g,lo,dl,m,a,b,rfl,ok,hc,q⟩:=h;refine⟨rfl,λfi A outer s hr=>?_⟩;refine⟨_,(AF (AN (AR hr (VO T) T.d_48.1 (AA (AH Ax (AJ (Bi K) (pv 1) AD (λ_ _=>rfl)) (AJ (Bi K) (pv 0) AD (λ_ _=>rfl))) (AA (AH Ax (AJ (Bi K) (pv 1) AD (λ_ _=>rfl)) (AJ (Bi K) (pv 0) AD (λ_ _=>rfl))) AC))))),?_⟩;refine Ba.el ok.v λtb h1 h2=>?_;have g2:=ok.g2;have g9:=ok.g9;walk_at "";refine⟨c,_,0,_,rfl,rfl,hc,rfl,B6 (Aa.of h1) rfl ?_⟩;refine⟨_,rfl,_,rfl,by lia,by lia,?_⟩;refine⟨c,_,1,_,rfl,rfl,hc,rfl,B6 (Aa.of h1) rfl ?_⟩;refine⟨_,rfl,_,rfl,by lia,by lia,?_⟩;have ea:((a:Nat):Int)/g=((a/g.toNat:Nat):Int):=by rw[cO,ax (by lia)]
 have eb:((b:Nat):Int)/g=((b/g.toNat:Nat):Int):=by rw[cO,ax (by lia)]
 exact⟨_,_,by rw[<-ea,<-eb],q⟩
theorem Yk:AO ["framed","words"] ["framed","words"] (AI W1):=CS
theorem VR(T:CP K mg t):CJ P w K mg base 2 t.f_52 ["framed","words"] (U2 K):=by
 refine Am T.d_52.2 Yk λvs H Q E h=>?_;obtain⟨r,c,g,lo,dl,m,a,b,rfl,ok,hc,q⟩:=h;refine⟨rfl,λfi A outer s hr=>?_⟩;refine⟨_,(AF (AN (AR hr (VO T) T.d_48.1 (AA (AH Ab (AJ (Bi K) (pv 1) AD (λ_ _=>rfl)) (AR hr (Lg T) T.d_56.1 (AA (pv 0) AC))) (AA (AH Ab (AJ (Bi K) (pv 1) AD (λ_ _=>rfl)) (AR hr (Lg T) T.d_56.1 (AA (pv 0) AC))) AC))))),?_⟩;have hd:=BC ok.g2 ok.len ok.m1;have gp:=RW.Ah ok.g2 (m-1);have ea:((a:Nat):Int)%((dl.length/g.toNat:Nat):Int)=((a%(dl.length/g.toNat):Nat):Int):=(bM ..).symm;have eb:((b:Nat):Int)%((dl.length/g.toNat:Nat):Int)=((b%(dl.length/g.toNat):Nat):Int):=(bM ..).symm;have hp:(0:Int)<((dl.length/g.toNat:Nat):Int):=by lia
 walk_at "";refine⟨c,_,0,_,rfl,rfl,hc,rfl,r,g,lo,dl,m,rfl,ok,?_⟩;refine⟨_,rfl,_,rfl,hp,?_⟩;refine⟨c,_,1,_,rfl,rfl,hc,rfl,r,g,lo,dl,m,rfl,ok,?_⟩;refine⟨_,rfl,_,rfl,hp,?_⟩;exact⟨_,_,by rw[<-ea,<-eb],q⟩
theorem OU:AO ["framed","nexts","pair","words"] ["framed"] (AI W2):=CS
theorem Yl(T:CP K mg t):CJ P w K mg base 3 t.f_24 ["framed"] (Np P w K):=by
 refine Am T.d_24.2 OU λvs H Q E h=>?_;obtain⟨r,g,lo,dl,m,rfl,ok,sm,q⟩:=h;refine⟨rfl,λfi A outer s hr=>?_⟩
 refine⟨_,(AB (F8 (i:=1) OU.nd rfl (Or.inl rfl) (Fs (P:=P) (w:=w) (K:=K) rfl rfl rfl))
  (AB (Ay PassesOwn.never rfl (Mz K (AR hr (VP T) T.d_37.1 (AA (pv 0) AC))) (A3 2 OU) (AF (IB (P:=P) (w:=w) (K:=K) rfl rfl rfl (CF hr) (pv 1) (pv 2) (BB AC) rfl)))
  (AB (Ay PassesOwn.never rfl (Mz K (AR hr (VQ T) T.d_28.1 (AA (pv 0) AC))) (A3 3 OU) (AF (BF (Pk K (B2 (P:=P) (w:=w) (K:=K) rfl rfl rfl (CF hr) (pv 1) (AR hr (Jb T) T.d_44.1 (AA (pv 0) (AA (pv 3) AC))) (λ_ _=>rfl)) (AA (AR hr (VR T) T.d_52.1 (AA (pv 0) (AA (pv 3) AC))) AC)))))
  (AF (AN (pv 1)))))),?_⟩
 obtain⟨h,hh⟩:∃h:Nat,h=dl.length/g.toNat:=⟨_,rfl⟩;rw[<-hh]at q;have hd9:=BC ok.g2 ok.len ok.m1;have h9:h<=9:=by rw[<-hh]at hd9;lia
 refine An λN hN=>?_;walk_at "";intro d u hd dw;refine hN _ _ ?_;clear hN N;have e0:=AG.new hd u;generalize AV H d u=H0 at dw e0⊢;refine CC (λσ HX=>(∃x2 x3,σ=[some (.ref r),some (.ref d),x2,x3])/\AG H HX/\∃ls:List qR,(∀l∈ls,H l=none)/\DW P w K HX d (Ae (Be h) (ls.map V.ref))/\D9 K HX ls (Be h) λ_=>[]) (λN hN=>?_) ?_
 ·refine⟨_,rfl,r,g,lo,dl,m,rfl,ok.same e0,sm,λD H1 ps e1 hD1 hD hp=>?_⟩;rw[<-hh]at hp;have pn:=Paired.length hp;have nd:=DG h;have lA:(Be h).length<=100:=by have a:=Fv h h;have b:=cS h9 h9;unfold Be;rw[bD];lia
  refine⟨D,rfl,⟨_,Af.of hD⟩,?_⟩;refine Bl (xs:=ps.map V.ref) (λi σ HX=>(∃x2 x3,σ=[some (.ref r),some (.ref d),x2,x3])/\AG H HX/\HX D=some (.lst (ps.map V.ref))/\Br K HX ps (Be h)/\∃ls:List qR,(∀l∈ls,H l=none)/\DW P w K HX d (Ae ((Be h).take i) (ls.map V.ref))/\D9 K HX ls ((Be h).take i) λ_=>[]) ⟨⟨none,none,rfl⟩,e0.trans e1,hD,hp,[],(λl hl=>qG hl List.not_mem_nil),dw.same e1,⟨rfl,List.nodup_nil,λi a l z=>by simp at z⟩⟩ (λi σ HX _ z=>Af.of z.2.2.1) ?_ ?_
  ·refine IT ?_;rintro _ _ i x _ hGo σ HX hx ⟨⟨x2,x3,rfl⟩,eX,hDX,pX,ls,ln,dX,gX⟩;refine hGo _ _ ?_;obtain⟨p,hpi,rfl⟩:∃p,ps[i]?=some p/\x=V.ref p:=by rw[aQ]at hx;obtain⟨p,h1,h2⟩:=aq.mp hx;exact⟨p,h1,h2.symm⟩
   obtain⟨a,ha,sa⟩:=Ar pX hpi;have hi:i<(Be h).length:=(aN.mp ha).1
   have lr:(Ae ((Be h).take i) (ls.map V.ref)).length<=100:=by rw[BD (by rw[aH];exact gX.n),bQ];lia
   refine⟨by decide,λl hl=>?_⟩;have f1:=AG.new hl (.lst []);have dY:=dX.same f1;have gY:=gX.same f1;have hY:=f1 _ _ hDX;have pY:=Br.same f1 pX;have sY:=Aa.same' f1 sa;have lY:AV HX l (.lst []) l=some (.lst []):=AE;have nl:=gX.out hl;have eY:=eX.trans f1;have hn:=eX.free hl;generalize AV HX l (.lst [])=HY at f1 dY gY hY pY sY lY eY⊢;refine⟨_,rfl,_,rfl,d,p,_,BL a,rfl,rfl,dY,sY,Ac (by lia),λu' dw'=>⟨⟨_,_,rfl⟩,eY.into hd,dY.lst hY u',dY.prv pY u',ls++[l],λk hk=>?_,?_,?_⟩⟩
   ·rcases aR.mp hk with z|z
    ·exact ln k z
    ·rw[aV.mp z];exact hn
   ·rw[aZ,bo,ha];rw[Er (by rw[aH];exact gX.n) (EH nd ha)]at dw';exact dw'
   ·rw[bo,ha];exact (dY.grl gY u').snoc nl (dY.lst lY u') rfl
  ·rintro σ HX ⟨⟨x2,x3,rfl⟩,eX,hDX,pX,ls,ln,dX,gX⟩;rw[aH,pn,bR]at dX gX;exact hN _ _ ⟨⟨_,_,rfl⟩,eX,ls,ln,dX,gX⟩
 rintro _ hGo σ HX ⟨⟨x2,x3,rfl⟩,eX,ls,ln,dX,gX⟩;refine hGo _ _ ?_;refine CC (λσ HX=>(∃x2 x3,σ=[some (.ref r),some (.ref d),x2,x3])/\AG H HX/\DW P w K HX d (Ae (Be h) (ls.map V.ref))/\D9 K HX ls (Be h) (Gx g.toNat h (Aj dl))) (λN hN=>?_) ?_
 ·refine⟨_,rfl,r,g,lo,dl,m,rfl,ok.same eX,sm,λD H1 ps e1 hD1 hD hp=>?_⟩;have pn:=Paired.length hp;have nD:=gX.out hD1;have nd:=DG h;refine⟨D,rfl,⟨_,Af.of hD⟩,?_⟩;refine Bl (xs:=ps.map V.ref) (λi σ HX=>(∃x2 x3,σ=[some (.ref r),some (.ref d),x2,x3])/\AG H HX/\HX D=some (.lst (ps.map V.ref))/\Br K HX ps (Aj dl)/\DW P w K HX d (Ae (Be h) (ls.map V.ref))/\D9 K HX ls (Be h) (Gx g.toNat h ((Aj dl).take i))) ⟨⟨_,_,rfl⟩,eX.trans e1,hD,hp,dX.same e1,gX.same e1⟩ (λi σ HX _ z=>Af.of z.2.2.1) ?_ ?_
  ·clear dX gX eX hD hp e1;intro i x;refine Pp ?_;rintro _ hGo σ HX hx ⟨⟨x2,x3,rfl⟩,eX,hDX,pX,dX,gX⟩;refine hGo _ _ ?_;clear hGo;obtain⟨c,hci,rfl⟩:∃c,ps[i]?=some c/\x=V.ref c:=by rw[aQ]at hx;obtain⟨c,h1,h2⟩:=aq.mp hx;exact⟨c,h1,h2.symm⟩
   obtain⟨⟨a,b⟩,hab,sc⟩:=Ar pX hci;have mw:=Et.mp (ae hab);have hd9':=hd9;rw[<-hh]at hd9';obtain⟨j,hj⟩:=ay.mp (Jw (h:=h) (a:=a/g.toNat) (b:=b/g.toNat) (bj (by rw[br];lia)) (bj (by rw[br];lia)));obtain⟨l,hl⟩:∃l,ls[j]?=some l:=⟨ls[j]'(by rw[gX.n];exact (aN.mp hj).1),aJ _⟩;have ml:=ae hl;have okX:=ok.same eX;refine⟨_,rfl,_,rfl,_,rfl,r,c,g,lo,dl,m,a,b,rfl,okX,sc,λp H2 e2 sp=>?_⟩;obtain⟨u,dr⟩:=(dX.same e2).r;obtain⟨qs,hq,hqp⟩:=(gX.same e2).e j _ l hj hl;refine⟨d,p,u,_,BL _,.ref l,rfl,rfl,dr,sp,Bq nd hj (by rw[aQ,hl];rfl),.inl ⟨rfl,_,Af.of hq⟩,?_⟩;refine⟨_,rfl,_,rfl,r,c,g,lo,dl,m,a,b,rfl,okX.same e2,Aa.same' e2 sc,λp3 H3 e3 sp3=>?_⟩;rw[<-hh]at sp3;have hq3:=e3 _ _ hq;have e23:=e2.trans e3;refine⟨l,_,_,rfl,rfl,hq3,?_,?_⟩
   ·have l1:=Paired.length hqp;have l2:=Nq g.toNat h ((Aj dl).take i) (B5 (a/g.toNat,b/g.toNat));have l3:=Fw dl dl.length;have lt:dl.length<=256:=by have:=ok.sz;have:=ok.len;lia
    have l4:=cS lt lt;have l5:((Aj dl).take i).length<=(Aj dl).length:=by rw[bQ];exact Nat.min_le_right ..
    have l6:(Aj dl).length<=dl.length*dl.length:=l3;rw[aH,sizeLine_eq];lia
   rw[show qs.map V.ref++[V.ref p3]=(qs++[p3]).map V.ref by rw[aZ];rfl];refine⟨⟨_,_,rfl⟩,(eX.trans e23).into (ln l ml),by rw[AL λz=>nD (by rw[z];exact ml)];exact e23 _ _ hDX,Br.upd hq3 (Br.same e23 pX),(dX.same e23).updL hq3 _,(gX.same e23).push nd hj hl hq3 (Br.same e3 hqp) sp3 λz=>RL hab z⟩
  ·rintro σ HX ⟨⟨x2,x3,rfl⟩,eX,hDX,pX,dX,gX⟩;rw[aH,pn,bR]at gX;exact hN _ _ ⟨⟨_,_,rfl⟩,eX,dX,gX⟩
 rintro _ hGo σ HX ⟨⟨x2,x3,rfl⟩,eX,dX,gX⟩;refine hGo _ _ ?_;walk_at "";exact q d HX ls eX hd ln dX gX
theorem Ym:AO ["framed"] ["framed"] (AI W3):=CS
theorem VS(T:CP K mg t):CJ P w K mg base 4 t.f_25 ["framed"] (LF P w K):=by
 refine Am T.d_25.2 Ym λvs H Q E h=>?_;obtain⟨r,g,lo,dl,m,rfl,ok,sm,q⟩:=h;refine⟨rfl,λfi A outer s hr=>?_⟩;refine⟨_,(AF (AN (AR hr (Yh T) T.d_22.1 (AA (AR hr (Yg T) T.d_10.1 (AA (AR hr (Yl T) T.d_24.1 (AA (pv 0) AC)) AC)) AC)))),?_⟩;have g2:=ok.g2;have hl:=C7 g2 ok.len ok.m1;obtain⟨h,hh⟩:∃h:Nat,h=dl.length/g.toNat:=⟨_,rfl⟩;have hd9:=BC ok.g2 ok.len ok.m1;rw[<-hh]at q hl hd9;have h9:h<=9:=by lia
 have hp:=RW.Ah ok.g2 (m-1);have h0:0<h:=by lia
 have wl:(Aj dl).length<=70000:=by
  have l3:(Aj dl).length<=dl.length*dl.length:=Fw dl dl.length;have lt:dl.length<=256:=by have:=ok.sz;have:=ok.len;lia
  have l4:=cS lt lt;lia
 walk_at "";refine⟨r,g,lo,dl,m,rfl,ok,sm,λd1 H1 ls e1 hd1 ln dw gr=>?_⟩;rw[<-hh]at dw gr;obtain⟨u1,dr⟩:=dw.r;refine⟨d1,u1,ls,Be h,Gx g.toNat h (Aj dl),rfl,dr,gr,DG h,λa _ p hp=>(B9 h0 ((N0 hl).mp hp)).2,Dz h9,λa _=>bK (Nq ..) wl,λu' H2 d2 ls2 A2 B e2 dr2 hd2 ln2 dw2 gr2 tp=>?_⟩;obtain⟨u2,drr⟩:=dw2.r;have eH2:=(e1.into hd1 (o:=u')).trans e2;have l2:A2.length<=100:=bK (tp.nd.length_le_of_subset λp hp=>(tp.all p).mp hp) (Dz h9)
 have hB:∀p q,q∈B p↔Ie g.toNat h dl q p:=λp q=>by rw[tp.on,N0 hl];exact⟨λz=>z.2,λz=>⟨(B9 h0 z).1,z⟩⟩
 refine⟨d2,u2,ls2,A2,B,rfl,drr,gr2,tp.nd,λa _ p hp=>(tp.all p).mpr (B9 h0 ((hB a p).mp hp)).1,l2,λa _=>tp.len a,λu3 H3 d3 M f e3 dr3 hd3 dw3 mp=>?_⟩;exact q d3 H3 M f ((eH2.into (e1.free hd2)).trans e3) (eH2.free hd3) dw3 (mp.rk h9 tp.all tp.nd (λp _ q=>hB p q) λp q z=>(B9 h0 z).1)
theorem So:AO ["one","framed","found"] ["one"] (AI W4):=CS
theorem Sq(T:CP K mg t):CJ P w K mg base 9 t.f_57 ["one"] (JW K):=by
 refine Am T.d_57.2 So λvs H Q E h=>?_;obtain⟨r,g,lo,dl,m,lf,tf,mf,rfl,ok,fw,sm,q1,q2⟩:=h;refine⟨rfl,λfi A outer s hr=>?_⟩
 refine⟨_,(AB (AU 1 So (AR hr (VN T) T.d_55.1 (AA (pv 0) AC)))
  (AB (AU 2 So (AR hr (VS T) T.d_25.1 (AA (pv 1) AC)))
  (AB (Ak (AK DP (Ad (IC (P:=P) (w:=w) (K:=K) rfl rfl rfl) rfl T.z_len bJ (AA (pv 2) AC)) (Ad (Gc K) rfl T.z_len bJ (AA (AR hr (VP T) T.d_37.1 (AA (pv 1) AC)) AC)) (AQ _)) (AF (AN Cn)) AT)
  (AF (AN (Bc (AA (B2 (P:=P) (w:=w) (K:=K) rfl rfl rfl (CF hr) (pv 2) (HN rfl T.m_EVEN) (λ_ _=>rfl)) (AA (Ad (LD (K:=K) rfl) rfl T.z_sorted PyProof.Rows.boot_sorted (AA (Ng [(2,"found")] [("found",_)] (E4 (P:=P) (w:=w) (K:=K) rfl rfl rfl (pv 2)) (λ_ _ _ _=>(FM (AK (Fx (K:=K) rfl hr.units) (pv 0) (HN rfl T.m_EVEN) (AQ _)))) (λ_ _ _ _=>(AH (RO (K:=K) rfl) (pv 0) (Bc (AA (by exact B2 (P:=P) (w:=w) (K:=K) rfl rfl rfl (CF hr) (pv 1) (pv 0) (λ_ _=>rfl)) AC))))) AC)) AC)))))))),?_⟩
 have g2:=ok.g2;have gp:=RW.Ah g2 (mf-1);refine An λN hN=>?_;walk_at "";refine⟨r,g,lo,dl,m,lf,tf,mf,rfl,ok,fw,sm,λr1 H1 e1 ok1=>hN _ _ ?_⟩;clear hN N;have hd9:=BC g2 ok1.len ok1.m1;obtain⟨h,hh⟩:∃h:Nat,h=tf.length/g.toNat:=⟨_,rfl⟩;unfold GZ at q1;rw[<-hh]at q1 q2 hd9;have h9:h<=9:=by lia
 have h0:0<h:=by lia
 have f7:(0,0)∈Be h:=Es.mpr (.inl rfl);refine An λN hN=>?_;walk_at "";refine⟨r1,g,lf,tf,mf,rfl,ok1,by lia,λd H2 M f e2 hd dw rk=>hN _ _ ?_⟩;clear hN N;rw[<-hh]at rk;have e12:=e1.trans e2;have lM:M.length<=(Be h).length:=rk.nd.length_le_of_subset λp hp=>rk.sub p hp
 have lA:=Dz (show h<=9 by lia);refine CC (λσ HX=>σ=[some (.ref r),some (.ref r1),some (.ref d)]/\AG H2 HX/\∀p∈Be h,p∈M) (λN hN=>?_) ?_
 ·obtain⟨u,dr⟩:=dw.r;refine⟨_,rfl,d,u,_,rfl,dr,_,rfl,r1,g,lf,tf,mf,rfl,ok1.same e2,by lia,λD H3 ps e3 hD0 hD hps=>?_⟩;have pn:=Paired.length hps;rw[<-hh]at hps pn;refine⟨D,_,rfl,.inl (Af.of hD),_,_,rfl,rfl,_,rfl,?_⟩;dsimp only;rw[aH,pn,BD (by rw[aH])]
  by_cases z:M.length<(Be h).length
  ·rw[qF (qH (by lia))];refine q1 ⟨sm,λrr hr=>?_⟩ H3 (e12.trans e3);have:=rk.all hr;have:=(DG h).length_le_of_subset λp hp=>this p hp
   lia
  ·rw[qE (λy=>z (by have:=qN y;lia))];exact hN _ _ ⟨rfl,e3,Mn rk.nd rk.sub (by lia)⟩
 rintro _ hGo σ HX ⟨rfl,eX,all⟩;refine hGo _ _ ?_;have l50:M.length<=100:=by lia
 obtain⟨u,dr⟩:=(dw.same eX).r;refine⟨_,rfl,d,t.k_EVEN,u,_,BL (0,0),.int (f (0,0):Nat),rfl,rfl,dr,Ft T.q_EVEN HX,E6 rk.nd (all _ f7),_,rfl,d,u,_,rfl,dr,λu' dr' D hD=>?_⟩;have eF:=(e12.trans eX).into (e1.free hd) (o:=u');generalize AV HX d u'=HF at dr' eF hD⊢;refine FS (P:=P) (w:=w) (K:=K) (λi fh Hx=>∃ps:List qR,fh=ps.map V.ref/\ps.length<=i/\AG HF Hx/\Hx D=some (.lst fh)/\Paired (λt ns=>Aa K Hx t (ns.map V.int)/\ns.length=3/\∀x∈ns,0<=x/\x<1000) ps (((M.take i).filter λp=>decide (p≠(0,0))).map (WW f))/\∀t∈ps,∃ys,Hx t=some (.tup ys)) ⟨[],rfl,aP _,AG.new hD _,AE,.nil,λ_ z=>qG z am⟩ (λi fh Hx _ z=>by obtain⟨_,_,_,e,_⟩:=z;exact dr'.same e) ?_ ?_
 ·intro i b k v;refine YQ ?_;rintro _ hGo fh Hx hk sb ⟨ps,rfl,lp,ex,hDx,hp,ht⟩;refine hGo _ _ ?_;clear hGo;obtain⟨a,ha,rfl,rfl⟩:=Ri hk;have aM:=ae ha;have i50:i<=100:=by have:=(aN.mp ha).1;lia
  have sb':Aa K Hx b (([(a.1:Int),(a.2:Int)]).map V.int):=sb;refine⟨_,rfl,_,_,Dj sb',Dj (ns:=[0,0]) (Ft T.q_EVEN Hx),CW _,CW _,Dv _,_,rfl,?_⟩;show (if (!PyData.eqv _ (.tuple (([(((0,0):qX).1:Int),(((0,0):qX).2:Int)]).map PyData.int)))=true then _ else _);rw[YJ a (0,0)]
  by_cases z0:a=(0,0)
  ·rw[qH z0,qE (by decide)];refine⟨ps,rfl,by lia,ex,hDx,?_,ht⟩;rw[Dy ha,qE (by rw[z0];decide),au];exact hp
  rw[qI z0,qF (by decide)];refine⟨_,rfl,_,rfl,_,rfl,d,b,u',_,BL a,.int (f a:Nat),rfl,rfl,dr'.same ex,sb,E6 rk.nd aM,(by show 1<=sizeLine;decide),λp3 hp3=>⟨b,p3,([(a.1:Int),(a.2:Int)]).map V.int,[V.int (f a:Nat)],rfl,rfl,Aa.same' (AG.new hp3 _) sb',Aa.of AE,List.cons_ne_nil _ _,by show 2+1<=sizeLine;decide,λz=>qG z (List.cons_ne_nil _ _),λ_ p4 hp4=>?_⟩⟩;have e4:=(AG.new hp3 (.tup [V.int (f a:Nat)])).trans (AG.new hp4 (.tup (([(a.1:Int),(a.2:Int)]).map V.int++[V.int (f a:Nat)])));have s4:Aa K (AV (AV Hx p3 (.tup [V.int (f a:Nat)])) p4 (.tup (([(a.1:Int),(a.2:Int)]).map V.int++[V.int (f a:Nat)]))) p4 ((WW f a).map V.int):=Aa.of AE;have t4:AV (AV Hx p3 (.tup [V.int (f a:Nat)])) p4 (.tup (([(a.1:Int),(a.2:Int)]).map V.int++[V.int (f a:Nat)])) p4=some (.tup (([(a.1:Int),(a.2:Int)]).map V.int++[V.int (f a:Nat)])):=AE;generalize AV (AV Hx p3 (.tup [V.int (f a:Nat)])) p4 (.tup (([(a.1:Int),(a.2:Int)]).map V.int++[V.int (f a:Nat)]))=HY at e4 s4 t4⊢;have h4:=e4 _ _ hDx;refine⟨h4,by rw[aH];exact Ac (by lia),ps++[p4],by rw[aZ];rfl,by rw[aU,bW];lia,(ex.trans e4).into hD,AE,?_,λy hy=>?_⟩
  case refine_2 =>
   have up:∀{y:qR} {ys:List V},HY y=some (.tup ys)->AV HY D (.lst (ps.map V.ref++[V.ref p4])) y=some (.tup ys):=λz=>by rw[AL (Cc z h4 λx=>nomatch x)];exact z
   rcases aR.mp hy with z|z
   ·obtain⟨ys,z⟩:=ht y z;exact⟨ys,up (e4 _ _ z)⟩
   ·rw[aV.mp z];exact⟨_,up t4⟩
  have aA:a.1<h/\a.2<h:=by
   rcases Es.mp (rk.sub a aM) with z|z
   ·rw[z];exact⟨h0,h0⟩
   ·exact⟨z.1,z.2.1⟩
  have f100:=rk.few a aM;rw[Dy ha,qF (qH z0),aZ];refine Paired.app (Paired.mapP hp λ_ _ ⟨z1,z2,z3⟩=>⟨Aa.updL h4 (Aa.same' e4 z1),z2,z3⟩) (.cons ⟨Aa.updL h4 s4,rfl,λx hx=>?_⟩ .nil);rcases aw.mp hx with rfl|hx
  ·lia
  rcases aw.mp hx with rfl|hx
  ·lia
  rw[aV.mp hx];lia
 ·refine Fb ?_;rintro _ hGo fh H4 ⟨ps,rfl,lp,ex,hDx,hp,ht⟩;refine hGo _ _ ?_;clear hGo;rw[BD (by rw[aH])]at lp hp;rw[bR]at hp;refine⟨D,ps,_,3,rfl,Af.of hDx,by decide,by lia,hp,λD2 ts' ws' hD2 pt pw hw so=>⟨(by show 2<=sizeLine;decide),λp5 hp5=>?_⟩⟩;have e4:=eF.trans ex;have e5:=AG.new hD2 (.lst (ts'.map V.ref));have e6:=AG.new hp5 (.tup [.int (f (0,0):Nat),.ref D2]);rw[SD h9 rk.few rk.nd rk.sub all pw so]at hw;exact q2 p5 D2 _ M f ((e4.trans e5).trans e6) (e4.free (e5.free hp5)) (e4.free hD2) ⟨AE,ts',e6 _ _ AE,Paired.mapP hw (λ_ _ z=>(z.same' e5).same' e6),λt tm=>(ht t (pt.mem_iff.mp tm)).imp λ_ z=>e6 _ _ (e5 _ _ z)⟩ rk all
theorem Yn:AO ["one"] ["one"] (AI W5):=CS
theorem VT(T:CP K mg t):CJ P w K mg base 10 t.f_23 ["one"] (OM):=by
 refine Am T.d_23.2 Yn λvs H Q E h=>?_;obtain⟨r,g,lo,dl,m,lf,tf,mf,rfl,ok,fw,sm,q1,q2⟩:=h;refine⟨rfl,λfi A outer s hr=>?_⟩;refine⟨_,(AF (AN (CU Jd (AR hr (Sq T) T.d_57.1 (AA (pv 0) AC)) Cn (AQ _)))),?_⟩;have g2:=ok.g2;have hl:=BE.alike g2 ok.len fw;walk_at "";refine⟨r,g,lo,dl,m,lf,tf,mf,rfl,ok,fw,sm,λwn H' e=>?_,λp D H' M f e hp hD rv rk all=>?_⟩
 ·exact q1 wn H' e
 ·have hd9:=BC g2 hl.2 (show 1<=mf by have:=fw.two;lia);have gp:=RW.Ah g2 (mf-1);exact q2 f (λa b s=>(rk.low b (all b (B9 (by lia) s).2) a s).2) H' e
theorem Gr:AO ["framed","found","steps_in","words","pair","done","way"] ["framed"] (AI W6):=CS
theorem Yo(T:CP K mg t):CJ P w K mg base 5 t.f_41 ["framed"] (Sc K):=by
 refine Am T.d_41.2 Gr λvs H Q E h=>?_;obtain⟨r,g,lo,tf,mf,rfl,ok,sm,nr,q⟩:=h;refine⟨rfl,λfi A outer s hr=>?_⟩
 refine⟨_,(AB (AU 1 Gr (AR hr (VS T) T.d_25.1 (AA (pv 0) AC)))
  (AB (F8 (i:=2) Gr.nd rfl (Or.inl rfl) (Fs (P:=P) (w:=w) (K:=K) rfl rfl rfl))
  (AB (Ay PassesOwn.never rfl (Mz K (AR hr (VQ T) T.d_28.1 (AA (pv 0) AC))) (A3 3 Gr) (AF (Ak (Pr (IA (P:=P) (w:=w) (K:=K) rfl rfl rfl (CF hr) (AR hr (Jb T) T.d_44.1 (AA (pv 0) (AA (pv 3) AC))) (pv 1))) (AF (BF (Mc (P:=P) (w:=w) (K:=K) rfl rfl rfl cJ dG (Ep (P:=P) (w:=w) (K:=K) rfl rfl rfl (CF hr)) (pv 2) (AA (AR hr (VR T) T.d_52.1 (AA (pv 0) (AA (pv 3) AC))) (AA (pv 3) AC))))) AT)))
  (AB (AU 4 Gr (Ad (Pg (P:=P) (w:=w) (K:=K) rfl rfl rfl rfl (CF hr)) rfl T.z_min PyProof.Rows.boot_min (AA (pv 2) AC)))
  (AB (Ay PassesOwn.never rfl (Aw rfl T.z_range (AA (Ad (IC (P:=P) (w:=w) (K:=K) rfl rfl rfl) rfl T.z_len bJ (AA (pv 2) AC)) AC)) (A3 5 Gr) (AF (AU 4 Gr (AR hr (Jb T) T.d_44.1 (AA (pv 0) (AA (B2 (P:=P) (w:=w) (K:=K) rfl rfl rfl (CF hr) (pv 2) (pv 4) (λ_ _=>rfl)) AC))))))
  (AB (AU 6 Gr (BB (AA (B2 (P:=P) (w:=w) (K:=K) rfl rfl rfl (CF hr) (pv 2) (pv 4) (λ_ _=>rfl)) AC)))
  (AB (Ed PassesOwn.never (AK (Fx (K:=K) rfl hr.units) (AR hr (Jb T) T.d_44.1 (AA (pv 0) (AA (AJ (C8 K) (pv 6) (Iv GA AD) (λ_ _=>rfl)) AC))) (pv 4) (AQ _)) (AF (BF (Pk K (pv 6) (AA (B2 (P:=P) (w:=w) (K:=K) rfl rfl rfl (CF hr) (pv 2) (AR hr (Jb T) T.d_44.1 (AA (pv 0) (AA (AJ (C8 K) (pv 6) (Iv GA AD) (λ_ _=>rfl)) AC))) (λ_ _=>rfl)) AC)))))
  (AF (AN (YD K rfl rfl T.z_reversed rfl T.z_list (AA (pv 6) AC))))))))))),?_⟩
 have g2:=ok.g2;have hd9:=BC g2 ok.len ok.m1;have hl:=C7 g2 ok.len ok.m1;obtain⟨h,hh⟩:∃h:Nat,h=tf.length/g.toNat:=⟨_,rfl⟩;obtain⟨G,hG⟩:∃G:Nat,G=g.toNat:=⟨_,rfl⟩;rw[<-hG]at hh q nr hd9 hl;rw[<-hh]at q nr hd9 hl;have gp:=RW.Ah g2 (mf-1);have h0:0<h:=by lia
 have h9:h<=9:=by lia
 refine An λN hN=>?_;walk_at "";refine⟨r,g,lo,tf,mf,rfl,ok,sm,λd H1 M f e1 hd dw rk=>hN _ _ ?_⟩;clear hN N;rw[<-hG]at rk;rw[<-hh]at rk;refine An λN hN=>?_;walk_at "";intro d2 u2 hd2 dw2;refine hN _ _ ?_;clear hN N;have hd2f:=e1.free hd2;have e2:=AG.new hd2 u2
 have ne:d≠d2:=λe=>by obtain⟨bs,h1,_⟩:=dw;rw[e,hd2]at h1;cases h1
 replace dw:=dw.same e2;replace e2:=e1.trans e2;generalize AV H1 d2 u2=H2 at dw dw2 e2⊢;clear e1 hd2
 have kl:∀i,(CH h (Bs G M ((Aj tf).take i))).length<=100:=λi=>by refine bK ((D7 _).length_le_of_subset λe he=>?_) (Dz h9);obtain⟨wd,h1,h2⟩:=(ET e).mp he;have m:=dc (bB.mp h1).1;obtain⟨a,b⟩:=wd;obtain⟨k1,k2,k3,k4⟩:=Et.mp m;rw[hl]at k1 k2;rw[<-h2];exact (B9 h0 ⟨a,b,k1,k2,k3,k4,rfl,rfl⟩).2
 refine CC (λσ HX=>(∃x3,σ=[some (.ref r),some (.ref d),some (.ref d2),x3,none,none,none])/\AG H HX/\∃cs:List qR,DW P w K HX d2 (Ae (CH h (Bs G M (Aj tf))) (cs.map V.ref))/\Br K HX cs ((CH h (Bs G M (Aj tf))).map (HI h (Bs G M (Aj tf))))) (λN hN=>?_) ?_
 ·refine⟨_,rfl,r,g,lo,tf,mf,rfl,ok.same e2,sm,λD H3 ps e3 hD0 hD hps=>?_⟩;have pn:=Paired.length hps;obtain⟨u,dr⟩:=dw.r;refine⟨D,rfl,⟨_,Af.of hD⟩,?_⟩;refine Bl (xs:=ps.map V.ref) (λi σ HX=>(∃x3,σ=[some (.ref r),some (.ref d),some (.ref d2),x3,none,none,none])/\AG H HX/\DR P w K HX d u (Ae M (M.map λp=>V.int (f p:Int)))/\HX D=some (.lst (ps.map V.ref))/\Br K HX ps (Aj tf)/\∃cs:List qR,DW P w K HX d2 (Ae (CH h (Bs G M ((Aj tf).take i))) (cs.map V.ref))/\Br K HX cs ((CH h (Bs G M ((Aj tf).take i))).map (HI h (Bs G M ((Aj tf).take i))))) ⟨⟨none,rfl⟩,e2.trans e3,dr.same e3,hD,hps,[],dw2.same e3,.nil⟩ (λi σ HX _ z=>Af.of z.2.2.2.1) ?_ ?_
  ·clear dw2 dr dw e2 e3 hD hps hN;intro i x;refine Pp ?_;rintro _ hGo σ HX hx ⟨⟨x3,rfl⟩,eX,drX,DX,pX,cs,dX,cX⟩;refine hGo _ _ ?_;clear hGo;obtain⟨c,hc,rfl⟩:∃c,ps[i]?=some c/\V.ref c=x:=by rw[aQ]at hx;exact aq.mp hx
   obtain⟨wd,hw,sc⟩:=Ar pX hc;have okX:=ok.same eX;have lc:=Paired.length cX;rw[aH]at lc;rw[SU hw];refine U0 (λb HY=>AG HX HY/\b=decide (LU G wd∉M)) (λR hR=>?_) ?_ ?_
   ·walk_at "";refine⟨_,rfl,_,rfl,r,c,g,lo,tf,mf,wd.1,wd.2,rfl,okX,sc,λp H4 e4 sp=>?_⟩;rw[<-hG]at sp;refine⟨_,rfl,d,p,u,_,BL (LU G wd),rfl,rfl,drX.same e4,sp,_,rfl,hR _ _ ⟨e4,?_⟩⟩;rw[FT,<-decide_not]
   ·rintro HY ⟨eY,bY⟩;rw[qF (qN bY.symm)];have eH:=eX.trans eY;have dY:=dX.same eY;obtain⟨v2,r2⟩:=dY.r;walk_at "";refine⟨_,rfl,⟨d2,v2,_,rfl,r2⟩,_,rfl,_,rfl,r,c,g,lo,tf,mf,wd.1,wd.2,rfl,okX.same eY,sc.same' eY,λp H4 e4 sp=>?_⟩;rw[<-hG]at sp;rw[<-hh]at sp;have dZ:=dY.same e4;have cZ:=Br.same e4 (Br.same eY cX);have eZ:=eH.trans e4;have scZ:=(sc.same' eY).same' e4;refine⟨_,rfl,d2,rfl,p,_,BL (C4 h wd),.ref c,rfl,dZ,sp,?_,λz hz=>?_,λhz u' w'=>?_⟩
    ·rw[BD (by rw[aH];exact lc)];have:=kl i;exact Ac (by lia)
    ·have m:C4 h wd∈CH h (Bs G M ((Aj tf).take i)):=by
      by_cases m:C4 h wd∈CH h (Bs G M ((Aj tf).take i))
      ·exact m
      ·rw[C6 m]at hz;cases hz
     rw[F3,qF m,bG λe he=>OI he wd];exact⟨⟨_,rfl⟩,eZ,drX.same (eY.trans e4),(eY.trans e4) _ _ DX,Br.same (eY.trans e4) pX,cs,dZ,cZ⟩
    ·have m:C4 h wd∉CH h (Bs G M ((Aj tf).take i)):=λm=>by
      obtain⟨j,hj⟩:=ay.mp m;have jl:=(aN.mp hj).1;rw[Bq (D7 _) hj (v:=.ref (cs[j]'(by rw[lc];exact jl))) (by rw[aQ,aJ (by rw[lc];exact jl)];rfl)]at hz;cases hz
     rw[F3,qE m,aZ,bG λe he=>OI he wd,show[C4 h wd].map (HI h (Bs G M ((Aj tf).take i)++[wd]))=[wd] from qP (λx=>[x]) (UV m rfl)];rw[Er (by rw[aH];exact lc) m]at w';refine⟨⟨_,rfl⟩,eZ.into hd2f,(drX.same (eY.trans e4)).updX dZ ne u',dZ.lst ((eY.trans e4) _ _ DX) u',dZ.prv (Br.same (eY.trans e4) pX) u',cs++[c],by rw[aZ];exact w',Paired.app (dZ.prv cZ u') (.cons ?_ .nil)⟩;obtain⟨_,y,_⟩:=dZ;exact scZ.upd' y
   ·rintro HY ⟨eY,bY⟩;rw[qE (of_decide_eq_false bY.symm),au];exact⟨⟨_,rfl⟩,eX.trans eY,drX.same eY,eY _ _ DX,Br.same eY pX,cs,dX.same eY,Br.same eY cX⟩
  ·rintro σ HX ⟨⟨x3,rfl⟩,eX,drX,DX,pX,cs,dX,cX⟩;rw[aH,pn,bR]at dX cX;exact hN _ _ ⟨⟨_,rfl⟩,eX,cs,dX,cX⟩
 clear dw dw2 e2;rintro _ hGo σ H3 ⟨⟨x3,rfl⟩,e3,cs,dw3,cs3⟩;refine hGo _ _ ?_;have kl:=kl (Aj tf).length;rw[bR]at kl;have hU:=LX h0 hl rk;have hS:∀e∈CH h (Bs G M (Aj tf)),C4 h (HI h (Bs G M (Aj tf)) e)=e:=λe he=>(Ex he).2
 have lc:=Paired.length cs3;rw[aH]at lc;have nU:=D7 (h:=h) (Bs G M (Aj tf))
 have ne0:CH h (Bs G M (Aj tf))≠[]:=λz=>by
  refine nr f λp q s=>(rk.low q ?_ p s).2
  apply Classical.byContradiction;intro y;have:=VD h0 hl rk (B9 h0 s).2 y;rw[z]at this;exact qG this am
 have kn:∀p∈Ae (CH h (Bs G M (Aj tf))) (cs.map V.ref),∀k∈p.1,∃n:Int,k=Sum.inl n:=λp hp k hk=>by
  obtain⟨i,hi⟩:=ay.mp hp;unfold Ae at hi;rw[dA]at hi
  split at hi
  ·cases hi;rcases aw.mp hk with z|z
   ·exact⟨_,z⟩
   ·exact⟨_,aV.mp z⟩
  ·cases hi
 obtain⟨L,hL⟩:∃L,L=Bs G M (Aj tf):=⟨_,rfl⟩;rw[<-hL]at hU hS lc nU ne0 kn kl dw3 cs3;obtain⟨U,hUd⟩:∃U,U=CH h L:=⟨_,rfl⟩;obtain⟨u3,dr3⟩:=dw3.r;refine An λN hN=>?_;walk_at "";refine⟨u3,_,dr3,?_,kn,λb p hb sb=>hN _ _ ?_⟩
 ·intro z;have:=qP List.length z;rw[BD (by rw[aH];exact lc)]at this;exact ne0 (fE.mp this)
 clear hN N kn;rw[YM (by rw[aH];exact lc)]at hb
 obtain⟨mn,sb⟩:Pj (CH h L)<(CH h L).length/\Aa K H3 b (Ik ((CH h L).getD (Pj (CH h L)) (0,0))):=by
  unfold Ae at hb;rw[dA]at hb
  split at hb
  ·rename_i a v ha hv
   cases hb;refine⟨(aN.mp ha).1,?_⟩;rw[aK,ha];exact sb
  ·cases hb
 obtain⟨t,per⟩:∃t,LW G h L t:=by rw[hL];rw[hL]at mn;exact Wc h0 hl rk mn
 have stU:Iq G h L∈CH h L:=by rw[hL];rw[hL]at mn;exact OK h0 hl rk mn
 have q0:(CH h L).getD (Pj (CH h L)) (0,0)∈CH h L:=by rw[aK,aJ mn];exact bS _
 have get:∀{HX:Hp} {e:qX},AG H3 HX->e∈CH h L->∃c,Bj (Ae (CH h L) (cs.map V.ref)) (BL e)=some (.ref c)/\Aa K HX c (Ik (HI h L e)):=λ{HX e} eX he=>by obtain⟨i,hi⟩:=ay.mp he;have il:=(aN.mp hi).1;obtain⟨y,hy,sy⟩:=Ar cs3 (i:=i) (x:=cs[i]'(by lia)) (aJ _);rw[aQ,hi]at hy;cases hy;exact⟨_,Bq nU hi (by rw[aQ,aJ (by lia)];rfl),sy.same' eX⟩
 refine CC (λσ HX=>∃b x5,σ=[some (.ref r),some (.ref d),some (.ref d2),x3,some (.ref b),x5,none]/\AG H3 HX/\Aa K HX b (Ik (Iq G h L))) (λN hN=>?_) ?_
 ·have rl:(Ae (CH h L) (cs.map V.ref)).length=(CH h L).length:=BD (by rw[aH];exact lc);refine⟨_,rfl,d2,u3,_,rfl,dr3,_,rfl,by rw[rl];lia,by rw[rl];lia,?_⟩;rw[rl,aW];refine BJ (n:=(CH h L).length) (λi σ HX=>∃b x5,σ=[some (.ref r),some (.ref d),some (.ref d2),x3,some (.ref b),x5,none]/\AG H3 HX/\Aa K HX b (Ik (Cv (OJ G h L) i ((CH h L).getD (Pj (CH h L)) (0,0))))) ⟨b,none,rfl,AG.refl _,sb⟩ ?_ ?_
  ·refine DM ?_;rintro _ _ i _ hGo σ HX hi ⟨b',x5,rfl,eX,sX⟩;refine hGo _ _ ?_;have mi:=ES hU q0 i;obtain⟨c,hc,sc⟩:=get eX mi;refine⟨_,rfl,_,rfl,_,rfl,d2,b',u3,_,BL _,.ref c,rfl,rfl,dr3.same eX,sX,hc,r,c,g,lo,tf,mf,_,_,rfl,(ok.same e3).same eX,sc,λp' H4 e4 sp=>⟨p',_,rfl,eX.trans e4,?_⟩⟩;rw[<-hG]at sp;exact sp
  ·rintro σ HX ⟨b',x5,rfl,eX,sX⟩;exact hN _ _ ⟨b',x5,rfl,eX,sX⟩
 rintro _ hGo σ H4 ⟨b4,x5,rfl,e4,sb4⟩;refine hGo _ _ ?_;obtain⟨c0,hc0,sc0⟩:=get e4 stU;refine An λN hN=>?_;walk_at "";refine⟨_,rfl,_,rfl,d2,b4,u3,_,BL _,.ref c0,rfl,rfl,dr3.same e4,sb4,hc0,by decide,λD hD=>hN _ _ ?_⟩;clear hN N;have e5:=AG.new hD (.lst [V.ref c0]);have D5:AV H4 D (.lst [V.ref c0]) D=some (.lst [V.ref c0]):=AE;generalize AV H4 D (.lst [V.ref c0])=H5 at e5 D5⊢;have t100:t<=100:=bK per.le kl;refine CC (λσ HX=>∃as:List qR,σ=[some (.ref r),some (.ref d),some (.ref d2),x3,some (.ref b4),x5,some (.ref D)]/\AG H4 HX/\HX D=some (.lst (as.map V.ref))/\Br K HX as ((List.range t).map λk=>HI h L (Cv (OJ G h L) k (Iq G h L)))) (λN hN=>?_) ?_
 ·refine Fe (λσ HX=>∃(k:Nat) (as:List qR),k+1<=t/\σ=[some (.ref r),some (.ref d),some (.ref d2),x3,some (.ref b4),x5,some (.ref D)]/\AG H4 HX/\HX D=some (.lst (as.map V.ref))/\Br K HX as ((List.range (k+1)).map λk=>HI h L (Cv (OJ G h L) k (Iq G h L))))
   (λ(σ:St) (HX:Hp)=>match HX D with|some (.lst xs)=>t-xs.length|_=>0) ⟨0,[c0],per.one,rfl,e5,D5,.cons (sc0.same' e5) .nil⟩ ?_ ?_
  ·refine Fb ?_;rintro _ hGo σ HX ⟨k,as,kt,rfl,eX,DX,pX⟩;refine hGo _ _ ?_;clear hGo;have la:=Paired.length pX;rw[aH,bI]at la;obtain⟨c,hc⟩:∃c,as[k]?=some c:=⟨as[k]'(by lia),aJ _⟩;obtain⟨wd,hw,sc⟩:=Ar pX hc;rw[aQ,dq (by lia)]at hw;cases hw;have at1:Iy (as.map V.ref) (-1)=some (V.ref c):=UU (by rw[aH,la,Nat.add_sub_cancel,aQ,hc];rfl);have eH:=e3.trans (e4.trans eX);have mk:=ES hU stU (k+1);walk_at "";refine (Dh (Af.of DX) at1 ⟨r,c,g,lo,tf,mf,_,_,rfl,ok.same eH,sc,λp' Hy ey sp=>?_⟩);rw[<-hG]at sp;have sp':Aa K Hy p' (([((Cv (OJ G h L) (k+1) (Iq G h L)).1:Int),((Cv (OJ G h L) (k+1) (Iq G h L)).2:Int)]).map V.int):=sp;have s4:Aa K Hy b4 (([((Iq G h L).1:Int),((Iq G h L).2:Int)]).map V.int):=(sb4.same' eX).same' ey;refine⟨_,_,Dj sp',Dj s4,CW _,CW _,Dv _,_,rfl,?_⟩;rw[YJ];have DY:=ey _ _ DX
   by_cases z:Cv (OJ G h L) (k+1) (Iq G h L)=Iq G h L
   ·rw[qH z,qE (by decide)]
    have kt':k+1=t:=by
     rcases Nat.lt_or_ge (k+1) t with y|y
     ·exact qG z (per.no (k+1) (by lia) y)
     ·lia
    rw[kt']at pX;exact hN _ _ ⟨as,rfl,eX.trans ey,DY,Br.same ey pX⟩
   ·rw[qI z,qF (by decide)]
    have kt2:k+1+1<=t:=by
     rcases Nat.lt_or_ge (k+1) t with y|y
     ·exact y
     ·exact qG (show Cv (OJ G h L) (k+1) (Iq G h L)=Iq G h L by rw[show k+1=t by lia];exact per.cy) z
    refine⟨.inl ⟨_,Af.of DY⟩,_,rfl,_,rfl,_,rfl,_,rfl,D,_,_,_,rfl,rfl,Af.of DY,at1,r,c,g,lo,tf,mf,_,_,rfl,(ok.same eH).same ey,sc.same' ey,λp2 Hz ez sp2=>?_⟩;rw[<-hG]at sp2;have e4z:=(eX.trans ey).trans ez;have DZ:=ez _ _ DY;obtain⟨c',hc',sc'⟩:=get (e4.trans e4z) mk;refine⟨d2,p2,u3,_,BL _,.ref c',rfl,rfl,dr3.same (e4.trans e4z),sp2,hc',_,DZ,?_,⟨k+1,kt2,e4z.into hD,as++[c'],by rw[AE,aZ];rfl,?_⟩,?_⟩
    ·rw[aH];exact Ac (by lia)
    ·rw[bP,aZ];exact Paired.app (Br.upd DZ (Br.same ez (Br.same ey pX))) (.cons (Aa.updL DZ sc') .nil)
    ·rw[AE,DX];show t-(as.map V.ref++[V.ref c']).length<t-(as.map V.ref).length;rw[aU,aH,bW];lia
  ·intro σ H1 Q1 Q2 hq;walk_at "";rintro⟨v,c1,v1,c2,⟨a1,a2,a3,a4,a5,a6,a7,a8,s1,s2,s3,s4,s5,s6,s7,s8,s9,s10,s11,hh⟩⟩;refine⟨v,c1,v1,c2,⟨a1,a2,a3,a4,a5,a6,a7,a8,s1,s2,s3,s4,s5,s6,s7,s8,s9,s10,s11,λp' Hy ey sp=>?_⟩⟩;obtain⟨v2,b1,b2,b3,b4',b5,b6,b7,b8,k,b9,hh⟩:=hh p' Hy ey sp;exact⟨v2,b1,b2,b3,b4',b5,b6,b7,b8,k,b9,hq _ _ hh⟩
 rintro _ hGo σ H6 ⟨as,rfl,e6,D6,p6⟩;refine hGo _ _ ?_;walk_at "";refine⟨_,Af.of D6,λpz hpz=>?_⟩;have ez:=AG.new hpz (.lst (as.map V.ref).reverse);have eH:=e3.trans (e4.trans e6);rw[hL]at per mn p6;refine q pz as.reverse _ M f t (eH.trans ez) (eH.free hpz) (by rw[AE,List.map_reverse]) ?_ rk mn per;unfold KE;rw[<-Mx];exact Paired.rev (Br.same ez p6)
theorem Sr:AO ["framed","way","which","ring","words"] ["framed","way","which"] (AI W7):=CS
theorem VU(T:CP K mg t):CJ P w K mg base 3 t.f_27 ["framed","way","which"] (ON K):=by
 refine Am T.d_27.2 Sr λvs H Q E h=>?_;obtain⟨r,p,g,lo,tf,mf,k,ps,way,rfl,ok,k2,hp,pv',wl,wb,q⟩:=h;refine⟨rfl,λfi A outer s hr=>?_⟩
 refine⟨_,(AB (AU 3 Sr (BB AC))
  (AB (Ay PassesOwn.never rfl (Mz K (pv 1)) (A3 4 Sr) (AB (Ak (AK (Nm (K:=K) rfl hr.units) (AR hr (Jb T) T.d_44.1 (AA (pv 0) (AA (pv 4) AC))) (HN rfl T.m_EVEN) (AQ _)) (AF (BF (KT d4 e9 fA GH (pv 3) (AA (AR hr (VG T) T.d_50.1 (AA (AH Ax (AJ (Bi K) (pv 4) (pv 2) (λ_ _=>rfl)) (AJ (Bi K) (pv 0) AD (λ_ _=>rfl))) (AA (AJ (Bi K) (pv 0) AD (λ_ _=>rfl)) (AA (AH A4 (AR hr (Lf T) T.d_54.1 (AA (pv 0) AC)) AD) AC)))) AC)))) AT)
  (AF (BF (Pk K (pv 3) (AA (AH Ab (AJ (Bi K) (pv 4) (pv 2) (λ_ _=>rfl)) (AJ (Bi K) (pv 0) AD (λ_ _=>rfl))) AC))))))
  (AF (AN (pv 3))))),?_⟩
 have g2:=ok.g2;have g9:=ok.g9;have m8:=ok.m8;have m1:=ok.m1;have hd9:=BC g2 ok.len ok.m1;refine Ba.el ok.v λtb r1 r2=>?_;have gn:((g.toNat:Nat):Int)=g:=by lia
 have pn:=Paired.length pv';refine An λN hN=>?_;walk_at "";refine⟨az _,λD hD=>hN _ _ ?_⟩;clear hN N;have e0:=AG.new hD (.lst []);have D0:AV H D (.lst []) D=some (.lst []):=AE;generalize AV H D (.lst [])=H0 at e0 D0⊢;refine CC (λσ HX=>(∃x4,σ=[some (.ref r),some (.ref p),some (.int ((k:Nat):Int)),some (.ref D),x4])/\AG H HX/\HX D=some (.lst ((CB g g.toNat (mf-1) (KH k) way).map V.int))) (λN hN=>?_) ?_
 ·refine⟨_,rfl,p,rfl,⟨_,Af.of (e0 _ _ hp)⟩,?_⟩;refine Bl (xs:=ps.map V.ref) (λi σ HX=>(∃x4,σ=[some (.ref r),some (.ref p),some (.int ((k:Nat):Int)),some (.ref D),x4])/\AG H HX/\HX D=some (.lst ((CB g g.toNat (mf-1) (KH k) (way.take i)).map V.int))/\(CB g g.toNat (mf-1) (KH k) (way.take i)).length<=i*9) ⟨⟨none,rfl⟩,e0,D0,az _⟩ (λi σ HX _ z=>Af.of (z.2.1 _ _ hp)) ?_ ?_
  ·refine IT ?_;rintro _ _ i x _ hGo σ HX hx ⟨⟨x4,rfl⟩,eX,DX,lX⟩;refine hGo _ _ ?_;obtain⟨c,hc,rfl⟩:∃c,ps[i]?=some c/\V.ref c=x:=by rw[aQ]at hx;exact aq.mp hx
   obtain⟨wd,hw,sc⟩:=Ar pv' hc;obtain⟨w1,w2⟩:=wb wd (ae hw);have il:=(aN.mp hw).1;have sX:=sc.same' eX
   have st:CB g g.toNat (mf-1) (KH k) (way.take (i+1))=CB g g.toNat (mf-1) (KH k) (way.take i)++Gb g g.toNat (mf-1) (KH k) wd:=by unfold CB;rw[bo,hw,show (some wd).toList=[wd] from rfl,cM,bg,dD,au]
   have lp:(Gb g g.toNat (mf-1) (KH k) wd).length<=9:=by
    unfold Gb;rw[aU,bW];split
    ·rw[BG];lia
    ·rw[dM];lia
   have wk:KH k wd<tf.length/\Iy (Ik wd) ((k:Nat):Int)=some (V.int ((KH k wd:Nat):Int)):=by
    unfold KH
    by_cases z:k=0
    ·subst z;exact⟨w1,rfl⟩
    ·obtain rfl:k=1:=by lia
     exact⟨w2,rfl⟩
   refine CC (λσ HY=>σ=[some (.ref r),some (.ref p),some (.int ((k:Nat):Int)),some (.ref D),some (.ref c)]/\AG H HY/\HY D=some (.lst ((CB g g.toNat (mf-1) (KH k) (way.take i)++(if B5 (wd.1/g.toNat,wd.2/g.toNat)=(0,0) then As g ((KH k wd/g.toNat:Nat):Int) (mf-1) else[])).map V.int))) (λN hN=>?_) ?_
   ·walk_at "";refine⟨r,c,g,lo,tf,mf,wd.1,wd.2,rfl,ok.same eX,sX,λpb H4 e4 sp=>?_⟩;have sp':Aa K H4 pb (([((B5 (wd.1/g.toNat,wd.2/g.toNat)).1:Int),((B5 (wd.1/g.toNat,wd.2/g.toNat)).2:Int)]).map V.int):=sp;refine⟨_,_,Dj sp',Dj (ns:=[0,0]) (Ft T.q_EVEN H4),CW _,CW _,Dv _,_,rfl,?_⟩;have pe:=YJ (B5 (wd.1/g.toNat,wd.2/g.toNat)) (0,0);rw[show PyData.eqv (.tuple (([((B5 (wd.1/g.toNat,wd.2/g.toNat)).1:Int),((B5 (wd.1/g.toNat,wd.2/g.toNat)).2:Int)]).map PyData.int)) (.tuple (([0,0]:qW).map PyData.int))=decide (B5 (wd.1/g.toNat,wd.2/g.toNat)=(0,0)) from pe];have eH:=eX.trans e4;have D4:=e4 _ _ DX
    by_cases z:B5 (wd.1/g.toNat,wd.2/g.toNat)=(0,0)
    ·rw[qH z,qF rfl];simp only[qF z]at hN;refine⟨.inl ⟨_,Af.of D4⟩,c,_,_,_,rfl,rfl,sX.same' e4,wk.2,B6 (Aa.of (eH _ _ r1)) rfl ⟨_,rfl,_,rfl,by lia,by lia,B6 (Aa.of (eH _ _ r1)) rfl ⟨r,g,lo,tf,mf,rfl,g2,g9,ok.v.same eH,ok.len,_,rfl,?_⟩⟩⟩;have ed:((KH k wd:Nat):Int)/g=((KH k wd/g.toNat:Nat):Int):=by rw[cO,gn]
     have lt:KH k wd/g.toNat<tf.length/g.toNat:=by have:=hd9.2;exact bj (by rw[br];lia)
     rw[ed];have em:(((mf:Nat):Int)-1).toNat=mf-1:=by lia
     refine⟨_,g,_,rfl,g2,g9,by lia,by lia,λzz=>?_,λ_ _ rr H5 n5=>?_⟩
     ·rw[em,<-hd9.1]at zz;rcases zz with z1|z1
      ·exact qG z1 (Int.not_lt.mpr (Int.natCast_nonneg _))
      ·exact qG (Int.ofNat_le.mp z1) (Nat.not_le.mpr lt)
     ·rw[em]at n5;refine⟨D,rr,_,_,rfl,rfl,n5.1 _ _ D4,n5.2.2,?_,hN _ _ ⟨rfl,(eH.trans n5.1).into hD,?_⟩⟩
      ·rw[aH,aH];have l:((RW.DC g ((KH k wd/g.toNat:Nat):Int) (mf-1)).reverse).length=mf-1:=BG g _ _;rw[l];exact cr (Ac (by lia))
      ·rw[AE,aZ];rfl
    ·rw[qI z,qE (by decide)];exact hN _ _ ⟨rfl,eH,by rw[qE z,au];exact D4⟩
   rintro _ hGo σ HY ⟨rfl,eY,DY⟩;refine hGo _ _ ?_;have sY:=sc.same' eY;walk_at "";refine⟨.inl ⟨_,Af.of DY⟩,c,_,_,_,rfl,rfl,sY,wk.2,B6 (Aa.of (eY _ _ r1)) rfl ⟨_,rfl,_,rfl,by lia,_,DY,?_,⟨_,rfl⟩,eY.into hD,?_,?_⟩⟩
   ·rw[aH,aU]
    have:(if B5 (wd.1/g.toNat,wd.2/g.toNat)=(0,0) then As g ((KH k wd/g.toNat:Nat):Int) (mf-1) else[]).length<=9:=by
     split
     ·rw[BG];lia
     ·rw[dM];lia
    exact Ac (by lia)
   ·rw[AE,st];unfold Gb;rw[<-a9,aZ (l₂:=[_]),bM,gn];rfl
   ·rw[st,aU];lia
  ·rintro σ HX ⟨⟨x4,rfl⟩,eX,DX,_⟩;rw[aH,pn,bR]at DX;exact hN _ _ ⟨⟨_,rfl⟩,eX,DX⟩
 rintro _ hGo σ H6 ⟨⟨x4,rfl⟩,e6,D6⟩;refine hGo _ _ ?_;walk_at "";exact q D H6 e6 hD D6
theorem Ss:AO ["one","framed","way"] ["one"] (AI W8):=CS
theorem VW(T:CP K mg t):CJ P w K mg base 11 t.f_58 ["one"] (JZ):=by
 refine Am T.d_58.2 Ss λvs H Q E h=>?_;obtain⟨r,g,lo,dl,m,lf,tf,mf,rfl,ok,fw,sm,q1,q2⟩:=h;refine⟨rfl,λfi A outer s hr=>?_⟩
 refine⟨_,(AB (Ak (Bg (AR hr (VT T) T.d_23.1 (AA (pv 0) AC))) (AF (AN Cn)) AT)
  (AB (AU 1 Ss (AR hr (VN T) T.d_55.1 (AA (pv 0) AC)))
  (AB (AU 2 Ss (AR hr (Yo T) T.d_41.1 (AA (pv 1) AC)))
  (AF (AN (Bc (AA (AR hr (VU T) T.d_27.1 (AA (pv 1) (AA (pv 2) (AS AC)))) (AA (AR hr (VU T) T.d_27.1 (AA (pv 1) (AA (pv 2) (AS AC)))) AC)))))))),?_⟩
 have g2:=ok.g2;refine An λN hN=>?_;walk_at "";refine⟨r,g,lo,dl,m,lf,tf,mf,rfl,ok,fw,sm,λwn H1 e1=>⟨false,rfl,?_⟩,λrk hr H1 e1=>⟨true,rfl,?_⟩⟩
 ·rw[qE (by decide)];refine hN _ _ ?_;clear hN N;refine An λN hN=>?_;walk_at "";refine⟨r,g,lo,dl,m,lf,tf,mf,rfl,ok.same e1,fw,sm,λr2 H2 e2 ok2=>hN _ _ ?_⟩;clear hN N;refine An λN hN=>?_;walk_at "";refine⟨r2,g,lf,tf,mf,rfl,ok2,sm,wn.2,λp ps H3 M f t e3 hp0 hp pr rk mn per=>hN _ _ ?_⟩;clear hN N;have hd9:=BC g2 ok2.len ok2.m1;have hl:=C7 g2 ok2.len ok2.m1;have gp:=RW.Ah g2 (mf-1);have h0:0<tf.length/g.toNat:=by lia
  have wb:∀x∈KE g.toNat (tf.length/g.toNat) (Bs g.toNat M (Aj tf)) t,x.1<tf.length/\x.2<tf.length:=λx hx=>by obtain⟨k,_,rfl⟩:=My hx;obtain⟨k1,_⟩:=Ex (ES (LX h0 hl rk) (OK h0 hl rk mn) k);obtain⟨a1,a2,_⟩:=(FY hl).mp k1;lia
  have wl:(KE g.toNat (tf.length/g.toNat) (Bs g.toNat M (Aj tf)) t).length<=100:=by unfold KE;rw[<-Mx,ej,aH,bI];refine bK per.le (bK ((D7 _).length_le_of_subset λe he=>?_) (Dz (show tf.length/g.toNat<=9 by lia)));obtain⟨wd,h1,h2⟩:=(ET e).mp he;obtain⟨k1,k2,k3,k4,_⟩:=(FY hl).mp h1;rw[<-h2];exact (B9 h0 ⟨wd.1,wd.2,k1,k2,k3,k4,rfl,rfl⟩).2
  walk_at "";refine⟨r2,p,g,lf,tf,mf,0,ps,_,rfl,ok2.same e3,by decide,hp,pr,wl,wb,λDa H4 e4 hDa0 hDa=>?_⟩;refine⟨r2,p,g,lf,tf,mf,1,ps,_,rfl,(ok2.same e3).same e4,by decide,e4 _ _ hp,Br.same e4 pr,wl,wb,λDb H5 e5 hDb0 hDb=>⟨by decide,λpz hpz=>?_⟩⟩;have ez:=AG.new hpz (.tup [V.ref Da,V.ref Db]);have e14:=(e1.trans e2).trans e3;exact q2 pz Da Db _ M f t (((e14.trans e4).trans e5).trans ez) (e14.free hDa0) ((e14.trans e4).free hDb0) (λz=>by rw[<-z,hDa]at hDb0;cases hDb0) AE (ez _ _ (e5 _ _ hDa)) (ez _ _ hDb) rk mn per
 ·rw[qF rfl];exact q1 ⟨rk,hr⟩ H1 e1
theorem Yp:AO ["_law_found"] ["_law_found"] (AI W9):=CS
theorem Lk(T:CP K mg t) :CJ P w K mg base 1 t.f_19 ["_law_found"] (Jo):=by
 refine Am T.d_19.2 Yp λvs H Q E h=>?_;obtain⟨x,rfl,kd,q⟩:=h;refine⟨rfl,λfi A outer s hr=>?_⟩;refine⟨_,(AF (AN (F7 (Lp K rfl T.z_isinstance (pv 0) (EU rfl T.z_int PyProof.Rows.boot_int)) (F6 (Ps (Lp K rfl T.z_isinstance (pv 0) (EU rfl T.z_bool PyProof.Rows.boot_bool))))))),?_⟩;walk_at "";cases x with
 |int i =>
  refine⟨_,.of (.int i),_,Ui,?_⟩;rw[qF rfl];exact⟨_,.of (.int i),_,Uj,q⟩
 |bl b =>
  refine⟨_,.of (.bl b),_,Uk,?_⟩;rw[qF rfl];exact⟨_,.of (.bl b),_,QP,q⟩
 |non =>
  refine⟨_,.of .non,_,Ul,?_⟩;rw[qE (by decide)];exact q
 |str y =>
  refine⟨_,.of (.str y),_,Um,?_⟩;rw[qE (by decide)];exact q
 |ref a =>
  obtain⟨xs,z|z⟩:=kd
  ·refine⟨_,.of (.lst z),_,Uo,?_⟩;rw[qE (by decide)];exact q
  ·refine⟨_,.of (.tup z),_,Uq,?_⟩;rw[qE (by decide)];exact q
 |byt _=>exact kd.elim
 |flt _=>exact kd.elim
 |ty _=>exact kd.elim
theorem Zs:AO ["_law_script","_law_k"] ["_law_script","_law_k"] (AI Zg):=CS
theorem KA(T:CP K mg t) :CJ P w K mg base 1 t.f_2 ["_law_script","_law_k"] (QT K):=by
 refine Am T.d_2.2 Zs λvs H Q E h=>?_;obtain⟨a,ns,k,rfl,hS,h63,q⟩:=h;refine⟨rfl,λfi A outer s hr=>?_⟩
 refine⟨_,(AB (Ak (AK DP (pv 1) (Ad (Gc K) rfl T.z_len bJ (AA (pv 0) AC)) (AQ _)) (AF (AN (AJ (C8 K) (pv 0) (pv 1) (λ_ _=>rfl)))) AT)
  (AF (AN AD))),?_⟩
 walk_at "";refine⟨_,.inl hS,?_⟩;rw[aH]
 by_cases h:(k:Int)<(ns.length:Int)
 ·rw[qF h];have hk:k<ns.length:=by lia
  refine⟨a,_,k,.int (ns.getD k 0),rfl,rfl,hS,G3 ?_,q⟩;rw[aQ,aJ hk,aK,aJ hk];rfl
 ·rw[qE h];have e:ns.getD k 0=0:=by rw[aK,cu (by lia)];rfl
  rw[e]at q;exact q
theorem Su:AO ["_law_cell","_law_many","_law_found","_law_number","_law_k"] ["_law_cell","_law_many"] (AI Zh):=CS
theorem XW(T:CP K mg t) :CJ P w K mg base 1 t.f_7 ["_law_cell","_law_many"] (Rz):=by
 refine Am T.d_7.2 Su λvs H Q E h=>?_;obtain⟨c,m,rfl,m0,m3,q⟩:=h;refine⟨rfl,λfi A outer s hr=>?_⟩
 refine⟨_,(AB (AU 2 Su (BB AC))
  (AB (AU 3 Su (AH Ag (AH Ab (pv 0) AD) AD))
  (AB (Ay PassesOwn.never rfl (Aw rfl T.z_range (AA (pv 1) AC)) (A3 4 Su) (AB (AU 3 Su (AH Ab (AH Ag (AH Ag (AH BO (pv 3) AD) (AH BO (pv 4) (pv 4))) AD) AD))
  (AF (BF (Pk K (pv 2) (AA (AH Ax (pv 3) AD) AC))))))
  (AF (AN (pv 2)))))),?_⟩
 walk_at "";refine⟨az _,λp hp=>⟨by decide,?_⟩⟩;refine⟨_,rfl,m,rfl,by lia,by lia,?_⟩;refine BJ (n:=m.toNat) (λi σ H1=>∃(x4:Option V),σ=[some (.int c),some (.int m),some (.ref p),some (.int (Pa c i)),x4]/\H1=AV H p (.lst ((Ga c i).map V.int))) ⟨none,rfl,rfl⟩ ?_ ?_
 ·refine DM ?_;rintro _ _ i _ hGo σ H1 hi ⟨x4,rfl,rfl⟩;refine hGo _ _ ?_;walk_at "";refine⟨.inr ⟨by decide,by decide⟩,.inl ⟨by lia,by lia⟩,by decide,.inl ⟨_,Af.of AE⟩,by decide,by decide,_,AE,?_,?_,?_⟩
  ·rw[aH,Ev];exact Ac (by lia)
  ·rw[bC];rfl
  ·rw[Ey,bC];unfold Ga;rw[Bd,aZ];rfl
 ·refine Fb ?_;rintro _ hGo σ H1 ⟨x4,rfl,rfl⟩;refine hGo _ _ ?_;clear hGo;walk_at "";exact q p _ (AG.new hp _) hp AE
theorem OV:AO ["_law_signs","_law_many","_law_size","_law_k"] ["_law_signs","_law_many"] (AI XA):=CS
theorem IY(T:CP K mg t) :CJ P w K mg base 1 t.f_13 ["_law_signs","_law_many"] (NT):=by
 refine Am T.d_13.2 OV λvs H Q E h=>?_;obtain⟨g,m,rfl,g2,g9,m0,m3,q⟩:=h;refine⟨rfl,λfi A outer s hr=>?_⟩
 refine⟨_,(AB (AU 2 OV AD)
  (AB (Ay PassesOwn.never rfl (Aw rfl T.z_range (AA (pv 1) AC)) (A3 3 OV) (AF (AU 2 OV (AH BO (pv 2) (pv 0)))))
  (AF (AN (pv 2))))),?_⟩
 walk_at "";refine⟨_,rfl,m,rfl,by lia,by lia,?_⟩;refine BJ (n:=m.toNat) (λi σ H1=>∃x,σ=[some (.int g),some (.int m),some (.int (g^i)),x]/\H1=H) ⟨none,by rw[bO],rfl⟩ ?_ ?_
 ·refine DM ?_;rintro _ _ i _ hGo σ H1 hi ⟨x,rfl,rfl⟩;refine hGo _ _ ?_;walk_at "";refine⟨.inr ⟨by lia,by lia⟩,?_⟩;rw[bA];exact⟨rfl,_,rfl⟩
 ·refine Fb ?_;rintro _ hGo σ H1 ⟨x,rfl,rfl⟩;refine hGo _ _ ?_;clear hGo;walk_at "";exact q
theorem Ll:AO ["_law_number","_law_signs","_law_many","_law_word_here","_law_k"] ["_law_number","_law_signs","_law_many"] (AI XB):=CS
theorem Sv(T:CP K mg t) :CJ P w K mg base 1 t.f_36 ["_law_number","_law_signs","_law_many"] (NW):=by
 refine Am T.d_36.2 Ll λvs H Q E h=>?_;obtain⟨n,g,m,rfl,g2,g9,m0,m3,q⟩:=h;refine⟨rfl,λfi A outer s hr=>?_⟩
 refine⟨_,(AB (AU 3 Ll (BB AC))
  (AB (Ay PassesOwn.never rfl (Aw rfl T.z_range (AA (pv 2) AC)) (A3 4 Ll) (AB (AU 3 Ll (AH P9 (BB (AA (AH Ab (pv 0) (pv 1)) AC)) (pv 3)))
  (AF (AU 0 Ll (AH Ax (pv 0) (pv 1))))))
  (AF (AN (pv 3))))),?_⟩
 walk_at "";refine⟨az _,λp hp=>?_⟩;refine⟨_,rfl,m,rfl,by lia,by lia,?_⟩;refine BJ (n:=m.toNat) (λi σ H1=>∃p' x4,σ=[some (.int (dr g n i)),some (.int g),some (.int m),some (.ref p'),x4]/\Qc H H1 p' (As g n i)) ⟨p,none,rfl,AG.new hp _,hp,AE⟩ ?_ ?_
 ·refine DM ?_;rintro _ _ i _ hGo σ H1 hi ⟨p',x4,rfl,hN⟩;refine hGo _ _ ?_;walk_at "";refine⟨by lia,by decide,λp2 hp2=>?_⟩;have e2:=AG.new hp2 (.lst [V.int (dr g n i%g)]);refine NR AE (e2 _ _ hN.2.2) ?_ λp3 H3 e3 f3 h3=>?_
  ·rw[aH,BG];simp only[List.length_cons,List.length_nil];lia
  refine⟨by lia,by lia,rfl,p3,rfl,(hN.1.trans e2).trans e3,(hN.1.trans e2).free f3,?_⟩;rw[h3];unfold As;rw[DC,List.reverse_append];rfl
 ·refine Fb ?_;rintro _ hGo σ H1 ⟨p',x4,rfl,hN⟩;refine hGo _ _ ?_;clear hGo;walk_at "";exact q p' H1 hN
theorem XX:AO ["_law_signs","_law_xs","_law_here","_law_there","_law_share"] ["_law_signs","_law_xs","_law_here","_law_there"] (AI Zi):=CS
theorem Zt(T:CP K mg t) :CJ P w K mg base 1 t.f_8 ["_law_signs","_law_xs","_law_here","_law_there"] (F2 1):=by
 refine Am T.d_8.2 XX λvs H Q E h=>?_;obtain⟨G,p,l,h,t,rfl,kg,xs,hh,ht,q⟩:=h;refine⟨rfl,λfi A outer s hr=>?_⟩
 refine⟨_,(AB (AU 4 XX (AJ (C8 K) (BB (AS (AS AC))) (Bm FN rfl T.z_int fO (AA (Xk (CU Bb (pv 0) AD (AQ _)) (F6 (F7 (CU Bb (pv 0) AD (AQ _)) (F6 (CU Bb (AH Ab (AJ (C8 K) (pv 1) AD (λ_ _=>rfl)) AD) AD (AQ _)))))) AC)) (λ_ _=>rfl)))
  (AB (Ak (PW.pt (FK (AK Bb (pv 0) AD (AQ _)) (EB (AK Bb (AH Ab (AJ (C8 K) (pv 1) AD (λ_ _=>rfl)) AD) AD (AQ _))))) (AF (AU 4 XX AD)) AT)
  (AF (AN (AH Ag (AH BO (AH Ax (pv 2) (pv 4)) (pv 4)) (AH Ab (pv 3) (pv 4))))))),?_⟩
 have e10:=xs.at (i:=10) (by decide);have hG:G=4\/G=6\/G=8\/G=9:=by unfold KG at kg;lia
 clear kg;have hp:EZ 1 G l=if G=9\/(G=6/\xn l 10%2=1) then 3 else if G=8/\xn l 10%2=1 then 4 else 2:=rfl;have hf:∀s,FF 1 G s h t=h/s*s+t%s:=λs=>rfl
 rw[qE (by decide),hf,hp]at q;clear hf hp;obtain⟨x,hx⟩:∃x,x=xn l 10:=⟨_,rfl⟩;rw[<-hx]at q e10;refine CC (λσ HX=>∃s:Nat,σ=[some (.int (G:Int)),some (.ref p),some (.int (h:Int)),some (.int (t:Int)),some (.int (s:Int))]/\AG H HX/\s=if G=9\/(G=6/\x%2=1) then 3 else 2) (λN hN=>?_) ?_
 ·walk_at "";refine⟨by decide,λa ha=>?_⟩;have e1:=AG.new ha (.lst [V.int 2,V.int 3]);have h1:AV H a (.lst [V.int 2,V.int 3]) a=some (.lst [V.int 2,V.int 3]):=AE;generalize AV H a (.lst [V.int 2,V.int 3])=H1 at e1 h1⊢
  by_cases c:G=9
  ·rw[qF (by lia)];exact⟨_,.inr rfl,Dh (Af.of h1) rfl (hN _ _ ⟨3,rfl,e1,(qF (.inl c)).symm⟩)⟩
  rw[qE (by lia)]
  by_cases c6:G=6
  ·rw[qF (by lia)];refine (Dh (Af.of (e1 _ _ xs.1)) e10 ⟨_,rfl,by decide,_,.inr rfl,?_⟩)
   by_cases o:x%2=1
   ·rw[qF (by lia)];exact (Dh (Af.of h1) rfl (hN _ _ ⟨3,rfl,e1,(qF (.inr ⟨c6,o⟩)).symm⟩))
   ·rw[qE (by lia)];exact (Dh (Af.of h1) rfl (hN _ _ ⟨2,rfl,e1,(qE (by lia)).symm⟩))
  ·rw[qE (by lia)];exact⟨_,.inr rfl,Dh (Af.of h1) rfl (hN _ _ ⟨2,rfl,e1,(qE (by lia)).symm⟩)⟩
 rintro _ hGo σ HX ⟨s,rfl,eX,hs⟩;refine hGo _ _ ?_;refine CC (λσ HY=>∃s:Nat,σ=[some (.int (G:Int)),some (.ref p),some (.int (h:Int)),some (.int (t:Int)),some (.int (s:Int))]/\AG H HY/\s=if G=9\/(G=6/\x%2=1) then 3 else if G=8/\x%2=1 then 4 else 2) (λN hN=>?_) ?_
 ·walk_at ""
  by_cases c:G=8
  ·rw[qF (by lia)];refine (Dh (Af.of (eX _ _ xs.1)) e10 ⟨_,rfl,by decide,?_⟩)
   by_cases o:x%2=1
   ·rw[qF (by lia)];exact hN _ _ ⟨4,rfl,eX,by rw[qE (by lia),qF ⟨c,o⟩]⟩
   ·rw[qE (by lia)];exact hN _ _ ⟨s,rfl,eX,by rw[hs,qE (by lia),qE (by lia),qE (by lia)]⟩
  ·rw[qE (by lia)];refine hN _ _ ⟨s,rfl,eX,?_⟩;rw[hs];split
   ·rfl
   ·rw[qE (by lia)]
 rintro _ hGo σ HY ⟨s,rfl,eY,hs⟩;refine hGo _ _ ?_;rw[<-hs]at q;have s4:s=2\/s=3\/s=4:=by rw[hs];split;exact .inr (.inl rfl);split;exact .inr (.inr rfl);exact .inl rfl
 walk_at "";refine⟨by lia,by lia,.inr ⟨by lia,by lia⟩,by lia,?_⟩;rw[show (h:Int)/(s:Int)*(s:Int)+(t:Int)%(s:Int)=((h/s*s+t%s:Nat):Int) by rw[cP,cG,cO,bM]];exact q _ eY
theorem Yq:AO ["_law_signs","_law_xs","_law_here","_law_there"] ["_law_signs","_law_xs","_law_here","_law_there"] (AI XC):=CS
theorem Yr(T:CP K mg t) :CJ P w K mg base 1 t.f_12 ["_law_signs","_law_xs","_law_here","_law_there"] (F2 2):=by
 refine Am T.d_12.2 Yq λvs H Q E h=>?_;obtain⟨G,p,l,h,t,rfl,kg,xs,hh,ht,q⟩:=h;refine⟨rfl,λfi A outer s hr=>?_⟩
 refine⟨_,(AB (Ak (PW.pt (CD (AK Bb (pv 2) (AH A4 (pv 0) AD) (AQ _)) (CN (AK Do (pv 3) (AH A4 (pv 0) AD) (AQ _))))) (AF (AN (pv 2))) AT)
  (AF (AN (AH Ab (AH Ag (AH Ag (pv 2) AD) (AH Ab (AJ (C8 K) (pv 1) AD (λ_ _=>rfl)) (AH A4 (pv 0) AD))) (AH A4 (pv 0) AD))))),?_⟩
 have e10:=xs.at (i:=10) (by decide);have hG:3<=G/\G<=7:=by unfold KG at kg;lia
 have hf:FF 2 G (EZ 2 G l) h t=if h=G-1\/t≠G-1 then h else (h+(1+xn l 10%(G-2)))%(G-1):=rfl;rw[qE (by decide),hf]at q;clear hf kg;have q:=q H (AG.refl _);walk_at ""
 by_cases c:h=G-1
 ·rw[qF (by lia)];rw[qF (.inl c)]at q;exact q
 rw[qE (by lia)]
 by_cases c2:t=G-1
 ·rw[qE (by lia)];rw[qE (by lia)]at q;refine (Dh (Af.of xs.1) e10 ⟨_,rfl,by lia,by lia,?_⟩);rw[show ((h:Int)+1+((xn l 10:Nat):Int)%((G:Int)-2))%((G:Int)-1)=(((h+(1+xn l 10%(G-2)))%(G-1):Nat):Int) by rw[bM,cP,cP,bM,fY (by lia),fY (by lia),fV];rfl];exact q
 ·rw[qF (by lia)];rw[qF (.inr c2)]at q;exact q
theorem Sw:AO ["_law_signs","_law_xs","_law_here","_law_there","_law_unit","_law_part"] ["_law_signs","_law_xs","_law_here","_law_there"] (AI XD):=CS
theorem Ys(T:CP K mg t) :CJ P w K mg base 1 t.f_33 ["_law_signs","_law_xs","_law_here","_law_there"] (F2 4):=by
 refine Am T.d_33.2 Sw λvs H Q E h=>?_;obtain⟨G,p,l,h,t,rfl,kg,xs,hh,ht,q⟩:=h;refine⟨rfl,λfi A outer s hr=>?_⟩
 refine⟨_,(AB (Ak (AK Bb (pv 0) AD (AQ _)) (AB (AU 4 Sw (AH Ag (AH Ag AD (AH Ab (AJ (C8 K) (pv 1) AD (λ_ _=>rfl)) AD)) (AH BO (AH Ab (AJ (C8 K) (pv 1) AD (λ_ _=>rfl)) AD) AD)))
  (AF (AN (AH Ab (AH Ag (AH Ag (AH BO (pv 4) (pv 2)) (AH BO (AH BO (AH Ab (AJ (C8 K) (pv 1) AD (λ_ _=>rfl)) AD) AD) (pv 3))) (AJ (C8 K) (pv 1) AD (λ_ _=>rfl))) AD)))) AT)
  (AB (AU 5 Sw (AH BO (AH Ab (AJ (C8 K) (pv 1) AD (λ_ _=>rfl)) (AH Ax (pv 0) AD)) AD))
  (AF (AN (AH Ab (AH Ag (AH Ag (AH BO (AH Ag AD (AH BO (AH Ab (AJ (C8 K) (pv 1) AD (λ_ _=>rfl)) AD) AD)) (pv 2)) (AH BO (pv 5) (pv 3))) (AJ (C8 K) (pv 1) AD (λ_ _=>rfl))) (pv 0)))))),?_⟩
 have e10:=xs.at (i:=10) (by decide);have e11:=xs.at (i:=11) (by decide);have e12:=xs.at (i:=12) (by decide);have e13:=xs.at (i:=13) (by decide);have hG:G=4\/G=8\/G=9:=by unfold KG at kg;lia
 have hf:∀s,FF 4 G s h t=(s/16*h+s%16*t)%G:=λs=>rfl
 rw[qF rfl,hf,Nat.mod_add_mod]at q;clear hf kg;have q:=q H (AG.refl _);walk_at ""
 by_cases c:G=9
 ·rw[qF (by lia)];refine (Dh (Af.of xs.1) e10 ⟨_,rfl,by decide,Dh (Af.of xs.1) e11 ⟨_,rfl,by decide,.inr ⟨by decide,by decide⟩,.inr ⟨by lia,by lia⟩,Dh (Af.of xs.1) e12 ⟨_,rfl,by decide,.inr ⟨by decide,by decide⟩,.inr ⟨by lia,by lia⟩,Dh (Af.of xs.1) e13 ⟨_,rfl,by decide,?_⟩⟩⟩⟩);have hp:EZ 4 G l=(1+xn l 10%2+xn l 11%3*3)*16+xn l 12%3*3:=by rw[c];rfl
  rw[hp,show ((1+xn l 10%2+xn l 11%3*3)*16+xn l 12%3*3)/16=1+xn l 10%2+xn l 11%3*3 by lia,show ((1+xn l 10%2+xn l 11%3*3)*16+xn l 12%3*3)%16=xn l 12%3*3 by lia,c]at q;simp only[Int.natCast_emod,Int.natCast_add,Int.natCast_mul]at q;exact q
 ·rw[qE (by lia)];have g2:(G:Int)/2=((G/2:Nat):Int):=by lia
  refine (Dh (Af.of xs.1) e12 ⟨by decide,by decide,_,rfl,by lia,.inr ⟨by decide,by decide⟩,Dh (Af.of xs.1) e10 ⟨_,rfl,by decide,.inr ⟨by decide,by decide⟩,.inr ⟨by lia,by lia⟩,.inr ⟨by lia,by lia⟩,Dh (Af.of xs.1) e13 ⟨_,rfl,by lia,?_⟩⟩⟩)
  have hp:EZ 4 G l=(1+xn l 10%4*2)%G*16+xn l 12%(G/2)*2:=by show (if G=9 then _ else (1+xn l 10%4*2)%G*16+xn l 12%(G/2)*2)=_;rw[qE c]
  have pl:xn l 12%(G/2)<4:=ag (bT _ (by lia)) (by lia);rw[hp,show ((1+xn l 10%4*2)%G*16+xn l 12%(G/2)*2)/16=(1+xn l 10%4*2)%G by lia,show ((1+xn l 10%4*2)%G*16+xn l 12%(G/2)*2)%16=xn l 12%(G/2)*2 by lia]at q
  have e:((1+xn l 10%4*2)%G*h+xn l 12%(G/2)*2*t+xn l 13)%G=((1+xn l 10%4*2)*h+xn l 12%(G/2)*2*t+xn l 13)%G:=by rw[eO,fX,Nat.mod_mul_mod,<-fX,eO]
  rw[e]at q;simp only[Int.natCast_emod,Int.natCast_add,Int.natCast_mul]at q;rw[g2];exact q
theorem Yt:AO ["_law_here","_law_there"] ["_law_here","_law_there"] (AI XE):=CS
theorem Yu(T:CP K mg t) :CJ P w K mg base 1 t.f_17 ["_law_here","_law_there"] (JQ):=by
 refine Am T.d_17.2 Yt λvs H Q E h=>?_;obtain⟨h,t,rfl,q⟩:=h;refine⟨rfl,λfi A outer s hr=>?_⟩;refine⟨_,(AF (AN (AH Ag (AH Ag (AH BO (AH Ab (AH Ag (AH Ax (pv 0) AD) (AH Ax (pv 1) AD)) AD) AD) (AH BO (AH Ab (AH Ag (AH Ax (pv 0) AD) (pv 1)) AD) AD)) (AH Ab (pv 0) AD)))),?_⟩;walk_at "";refine⟨by decide,by decide,by decide,by decide,by decide,.inr ⟨by decide,by decide⟩,by decide,by decide,by decide,.inr ⟨by decide,by decide⟩,by decide,?_⟩
 rw[show ((h:Int)/4+(t:Int)/2)%2*4+((h:Int)/2+(t:Int))%2*2+(h:Int)%2=((FF 5 8 0 h t:Nat):Int) by show _=(((h/4+t/2)%2*4+(h/2+t)%2*2+h%2:Nat):Int);lia]
 exact q
theorem Zu:AO ["_law_signs","_law_here","_law_there"] ["_law_signs","_law_here","_law_there"] (AI Zj):=CS
theorem Zv(T:CP K mg t) :CJ P w K mg base 1 t.f_0 ["_law_signs","_law_here","_law_there"] (LN):=by
 refine Am T.d_0.2 Zu λvs H Q E h=>?_;obtain⟨G,h,t,rfl,g5,g7,hh,ht,q⟩:=h;refine⟨rfl,λfi A outer s hr=>?_⟩
 refine⟨_,(AB (Ak (AK DP (pv 1) AD (AQ _)) (AF (AN (AH Ab (AH Ag (pv 1) (Bm FN rfl T.z_int fO (AA (CU Bb (pv 2) AD (AQ _)) AC))) AD))) AT)
  (AB (Ak (PW.pt (FK (AK DP (pv 1) (AH A4 (pv 0) AD) (AQ _)) (EB (AK Bb (pv 2) (AH A4 (pv 0) AD) (AQ _))))) (AF (AN (AH Ag AD (AH Ab (AH A4 (pv 1) AD) (AH A4 (pv 0) AD))))) AT)
  (AF (AN (pv 1))))),?_⟩
 walk_at "";have e:FF 6 G 0 h t=if h<2 then (h+if t=3 then 1 else 0)%2 else if h<G-1/\t=G-1 then 2+(h-1)%(G-3) else h:=rfl;rw[e]at q
 by_cases c:h<2
 ·rw[qF (by lia)];rw[qF c]at q;refine⟨_,.inr rfl,by decide,?_⟩;rw[show ((h:Int)+if (t:Int)=3 then 1 else 0)%2=(((h+if t=3 then 1 else 0)%2:Nat):Int) by split<;>split<;>lia];exact q
 rw[qE (by lia)];rw[qE c]at q
 by_cases c2:h<G-1
 ·rw[qF (by lia)]
  by_cases c3:t=G-1
  ·rw[qF (by lia)];rw[qF ⟨c2,c3⟩]at q;refine⟨by lia,?_⟩;have em:((h:Int)-1)%((G:Int)-3)=(((h-1)%(G-3):Nat):Int):=by rw[bM,fY (by lia),fY (by lia)];rfl
   rw[em,show (2:Int)+(((h-1)%(G-3):Nat):Int)=((2+(h-1)%(G-3):Nat):Int) by lia];exact q
  ·rw[qE (by lia)];rw[qE (λz=>c3 z.2)]at q;exact q
 ·rw[qE (by lia)];rw[qE (λz=>c2 z.1)]at q;exact q
theorem OW:AO ["_law_xs","_law_word_here","_law_at","_law_others","_law_due"] ["_law_xs","_law_word_here"] (AI XF):=CS
theorem Yv(T:CP K mg t) :CJ P w K mg base 1 t.f_30 ["_law_xs","_law_word_here"] (LO):=by
 refine Am T.d_30.2 OW λvs H Q E h=>?_;obtain⟨p,a,l,n,rfl,xs,ha,q⟩:=h;refine⟨rfl,λfi A outer s hr=>?_⟩
 refine⟨_,(AB (AU 2 OW (AH Ag AD (AH Ab (AJ (C8 K) (pv 0) AD (λ_ _=>rfl)) AD)))
  (AB (AU 3 OW (AH P9 (HM Jj (pv 1) Jf (Jg (pv 2))) (HM Jj (pv 1) (Jg (AH Ag (pv 2) AD)) Jf)))
  (AB (AU 4 OW (AJ (C8 K) (BB (AA (BB (AS (AS (AS AC)))) (AA (BB (AS (AS (AS AC)))) AC))) (AH Ab (AJ (C8 K) (pv 0) AD (λ_ _=>rfl)) AD) (λ_ _=>rfl)))
  (AF (AN (AH Ab (AH Ag (AJ (C8 K) (pv 1) (pv 2) (λ_ _=>rfl)) (Bm FN rfl T.z_int fO (AA (CU (Ly hr.units) (pv 3) (pv 4) (AQ _)) AC))) AD)))))),?_⟩
 have e10:=xs.at (i:=10) (by decide);have e11:=xs.at (i:=11) (by decide);obtain⟨x,hx⟩:∃x,x=xn l 10:=⟨_,rfl⟩;obtain⟨y,hy⟩:∃y,y=xn l 11:=⟨_,rfl⟩;have hf:Cs 3 2 (EZ 3 2 l) 0 n=Cs 3 2 (x%2+2*(y%2)) 0 n:=by rw[hx,hy];rfl
 rw[hf]at q;rw[<-hx]at e10;rw[<-hy]at e11;clear hf hx hy
 have hw:As 2 (n:Int) 4=[((n/8%2:Nat):Int),((n/4%2:Nat):Int),((n/2%2:Nat):Int),((n%2:Nat):Int)]:=by show[(n:Int)/2/2/2%2,(n:Int)/2/2%2,(n:Int)/2%2,(n:Int)%2]=_;rw[show (n:Int)/2/2/2%2=((n/8%2:Nat):Int) by lia,show (n:Int)/2/2%2=((n/4%2:Nat):Int) by lia,show (n:Int)/2%2=((n/2%2:Nat):Int) by lia,show (n:Int)%2=((n%2:Nat):Int) by lia]
 rw[hw]at ha;clear hw;refine An λN hN=>?_;walk_at "";refine (Dh (Af.of xs.1) e10 ⟨_,rfl,by decide,hN _ _ ?_⟩);clear hN N;rw[show (1:Int)+((x:Nat):Int)%2=((1+x%2:Nat):Int) by lia];obtain⟨ws,hws⟩:∃ws:qW,ws=[((n/8%2:Nat):Int),((n/4%2:Nat):Int),((n/2%2:Nat):Int),((n%2:Nat):Int)]:=⟨_,rfl⟩;rw[<-hws]at ha;have wl:ws.length=4:=by rw[hws];rfl
 refine An λN hN=>?_;walk_at "";refine L9 (Af.of ha) λp1 H1 e1 _ h1=>?_;refine L9 (Af.of (e1 _ _ ha)) λp2 H2 e2 _ h2=>?_;rw[NS,<-List.map_take]at h1;rw[show ((1+x%2:Nat):Int)+1=((2+x%2:Nat):Int) by lia,Ou,<-List.map_drop]at h2;refine NR (e2 _ _ h1) h2 (by rw[aH,aH,bQ,cN];lia) λp3 H3 e3 _ h3=>hN _ _ ?_
 clear hN N;rw[<-aZ]at h3;have eH:=(e1.trans e2).trans e3;refine Ef (λHX=>AG H HX/\HX p3=some (.lst ((ws.take (1+x%2)++ws.drop (2+x%2)).map V.int))) ⟨eH,h3⟩ ?_;clear eH h3 e3 h2 e2 h1 e1;rintro H4 ⟨e4,h4⟩;refine An λN hN=>?_;walk_at "";refine⟨by decide,λd1 hd1=>⟨by decide,λd2 hd2=>⟨by decide,λd3 hd3=>?_⟩⟩⟩;have f1:=AG.new hd1 (.lst [V.int 0,V.int 1,V.int 0]);have f2:=AG.new hd2 (.lst [V.int 1,V.int 0,V.int 1]);have f3:=AG.new hd3 (.lst [V.ref d1,V.ref d2]);have k1:=f3 _ _ (f2 _ _ (show AV H4 d1 (.lst [V.int 0,V.int 1,V.int 0]) d1=some (.lst [V.int 0,V.int 1,V.int 0]) from AE));have k2:=f3 _ _ (show AV (AV H4 d1 (.lst [V.int 0,V.int 1,V.int 0])) d2 (.lst [V.int 1,V.int 0,V.int 1]) d2=some (.lst [V.int 1,V.int 0,V.int 1]) from AE);have k3:AV (AV (AV H4 d1 (.lst [V.int 0,V.int 1,V.int 0])) d2 (.lst [V.int 1,V.int 0,V.int 1])) d3 (.lst [V.ref d1,V.ref d2]) d3=some (.lst [V.ref d1,V.ref d2]):=AE;have f:=(f1.trans f2).trans f3;generalize AV (AV (AV H4 d1 (.lst [V.int 0,V.int 1,V.int 0])) d2 (.lst [V.int 1,V.int 0,V.int 1])) d3 (.lst [V.ref d1,V.ref d2])=H5 at k1 k2 k3 f⊢;have e5:=e4.trans f;have h5:=f _ _ h4;have ha5:=e5 _ _ ha;clear f f1 f2 f3;refine (Dh (Af.of (e5 _ _ xs.1)) e11 ⟨_,rfl,by decide,?_⟩);have y2:y%2=0\/y%2=1:=by lia
 obtain⟨du,hdu,kdu⟩:∃du,Iy [V.ref d1,V.ref d2] (((y:Nat):Int)%2)=some (.ref du)/\H5 du=some (.lst (([((y%2:Nat):Int),((1-y%2:Nat):Int),((y%2:Nat):Int)]:qW).map V.int)):=by
  rcases y2 with c|c
  ·exact⟨d1,by rw[show ((y:Nat):Int)%2=0 by lia];rfl,by rw[c];exact k1⟩
  ·exact⟨d2,by rw[show ((y:Nat):Int)%2=1 by lia];rfl,by rw[c];exact k2⟩
 refine (Dh (Af.of k3) hdu (hN _ _ ?_));clear hN N hdu k1 k2 k3;walk_at "";have x2:x%2=0\/x%2=1:=by lia
 refine (Dh (Af.of ha5) (FI (by lia)) ⟨_,Af.of h5,_,Af.of kdu,_,.inr rfl,_,rfl,by decide,?_⟩);have q:=q H5 e5;clear h5 kdu ha5 e5 h4 e4
 have fin:∀(A B C D y:Nat),y=0\/y=1->A<2->B<2->C<2->((D:Int)+if [(A:Int),(B:Int),(C:Int)]=[(y:Int),((1-y:Nat):Int),(y:Int)] then 1 else 0)%2=(((D+if A=y/\B=1-y/\C=y then 1 else 0)%2:Nat):Int):=λA B C D y hy _ _ _=>by
  by_cases c:A=y/\B=1-y/\C=y
  ·rw[qF c,qF (by rw[c.1,c.2.1,c.2.2])];lia
  ·rw[qE c,qE (λz=>c (by
    injection z with z1 z2
    injection z2 with z2 z3
    injection z3 with z3 z4
    exact⟨by lia,by lia,by lia⟩))];lia
 rcases x2 with c|c
 ·rw[c,hws];show Q (.int ((((n/4%2:Nat):Int)+if [((n/8%2:Nat):Int),((n/2%2:Nat):Int),((n%2:Nat):Int)]=[((y%2:Nat):Int),((1-y%2:Nat):Int),((y%2:Nat):Int)] then 1 else 0)%2)) H5;rw[fin _ _ _ _ _ y2 (by lia) (by lia) (by lia)];have e:Cs 3 2 (x%2+2*(y%2)) 0 n=(n/4%2+if n/8%2=y%2/\n/2%2=1-y%2/\n%2=y%2 then 1 else 0)%2:=by unfold Cs;rw[qF rfl,c,qF (by lia),show (0+2*(y%2))/2=y%2 by lia]
  rw[e]at q;exact q
 ·rw[c,hws];show Q (.int ((((n/2%2:Nat):Int)+if [((n/8%2:Nat):Int),((n/4%2:Nat):Int),((n%2:Nat):Int)]=[((y%2:Nat):Int),((1-y%2:Nat):Int),((y%2:Nat):Int)] then 1 else 0)%2)) H5;rw[fin _ _ _ _ _ y2 (by lia) (by lia) (by lia)];have e:Cs 3 2 (x%2+2*(y%2)) 0 n=(n/2%2+if n/8%2=y%2/\n/4%2=1-y%2/\n%2=y%2 then 1 else 0)%2:=by unfold Cs;rw[qF rfl,c,qE (by lia),show (1+2*(y%2))/2=y%2 by lia]
  rw[e]at q;exact q
theorem Lm:AO ["_law_kind","_law_signs","_law_xs","_law_word_here","_law_here","_law_there"] ["_law_kind","_law_signs","_law_xs","_law_word_here"] (AI XG):=CS
theorem Yw(T:CP K mg t):CJ P w K mg base 2 t.f_34 ["_law_kind","_law_signs","_law_xs","_law_word_here"] (LQ):=by
 refine Am T.d_34.2 Lm λvs H Q E h=>?_;obtain⟨k,G,p,a,l,n,rfl,kg,xs,ha,hn,q⟩:=h;refine⟨rfl,λfi A outer s hr=>?_⟩
 refine⟨_,(AB (Ak (AK Bb (pv 0) AD (AQ _)) (AF (AN (AR hr (Yv T) T.d_30.1 (AA (pv 2) (AA (pv 3) AC))))) AT)
  (AB (AU 4 Lm (AJ (C8 K) (pv 3) AD (λ_ _=>rfl)))
  (AB (AU 5 Lm (AJ (C8 K) (pv 3) (Iv GA AD) (λ_ _=>rfl)))
  (AB (Ak (AK Bb (AH Ab (AJ (C8 K) (pv 2) AD (λ_ _=>rfl)) AD) AD (AQ _)) (AB (AU 4 Lm (AJ (C8 K) (pv 3) (Iv GA AD) (λ_ _=>rfl)))
  (AF (AU 5 Lm (AJ (C8 K) (pv 3) AD (λ_ _=>rfl))))) AT)
  (AB (Ak (AK Bb (pv 0) AD (AQ _)) (AF (AN (AR hr (Zt T) T.d_8.1 (AA (pv 1) (AA (pv 2) (AA (pv 4) (AA (pv 5) AC))))))) AT)
  (AB (Ak (AK Bb (pv 0) AD (AQ _)) (AF (AN (AR hr (Yr T) T.d_12.1 (AA (pv 1) (AA (pv 2) (AA (pv 4) (AA (pv 5) AC))))))) AT)
  (AB (Ak (AK Bb (pv 0) AD (AQ _)) (AF (AN (AR hr (Ys T) T.d_33.1 (AA (pv 1) (AA (pv 2) (AA (pv 4) (AA (pv 5) AC))))))) AT)
  (AB (Ak (AK Bb (pv 0) AD (AQ _)) (AF (AN (AR hr (Yu T) T.d_17.1 (AA (pv 4) (AA (pv 5) AC))))) AT)
  (AB (Ak (AK Bb (pv 0) AD (AQ _)) (AF (AN (AR hr (Zv T) T.d_0.1 (AA (pv 1) (AA (pv 4) (AA (pv 5) AC)))))) AT)
  (AF (AN (pv 4)))))))))))),?_⟩
 have e14:=xs.at (i:=14) (by decide);have G2:2<=G:=by unfold KG at kg;lia
 have wl:=BG (G:Int) (n:Int) (mK k);refine CC (λσ HX=>σ=[some (.int (k:Int)),some (.int (G:Int)),some (.ref p),some (.ref a),none,none]/\HX=H/\k≠3) (λN hN=>?_) ?_
 ·walk_at ""
  by_cases c:k=3
  ·rw[qF (by lia)];have g:G=2:=by unfold KG at kg;lia
   subst c g;exact⟨p,a,l,n,rfl,xs,ha,λH' e=>q H' e⟩
  ·rw[qE (by lia)];exact hN _ _ ⟨rfl,rfl,c⟩
 rintro _ hGo σ HX ⟨rfl,hHX,k3⟩;refine hGo _ _ ?_;rw[hHX];clear hHX HX
 obtain⟨w0,w1,hw0,hw1,b0,b1,hk0,hk⟩:∃w0 w1:Nat,Iy ((As (G:Int) (n:Int) (mK k)).map V.int) 0=some (.int (w0:Int))/\Iy ((As (G:Int) (n:Int) (mK k)).map V.int) (-1)=some (.int (w1:Int))/\w0<G/\w1<G/\(k=0->w0=n/\w1=n)/\(k≠0->w0=n/G/\w1=n%G):=by
  by_cases c:k=0
  ·subst c;have z:n<G:=by have:=hn;rw[show mK 0=1 from rfl,Nat.pow_one]at this;exact this
   refine⟨n,n,?_,?_,z,z,λ_=>⟨rfl,rfl⟩,λz=>qG rfl z⟩
   ·show some (V.int ((n:Int)%(G:Int)))=_;rw[bZ (by lia) (by lia)]
   ·show some (V.int ((n:Int)%(G:Int)))=_;rw[bZ (by lia) (by lia)]
  ·have m2:mK k=2:=by unfold mK;rw[qE c,qE k3]
   rw[m2]at hn⊢;rw[Nat.pow_two]at hn;have d:n/G<G:=bj hn;refine⟨n/G,n%G,?_,?_,d,bT _ (by lia),λz=>qG z c,λ_=>⟨rfl,rfl⟩⟩
   ·show some (V.int ((n:Int)/(G:Int)%(G:Int)))=_;rw[<-cO,<-bM,cC d]
   ·show some (V.int ((n:Int)%(G:Int)))=_;rw[<-bM]
 refine An λN hN=>?_;walk_at "";refine (Dh (Af.of ha) hw0 (hN _ _ ?_));clear hN N;refine An λN hN=>?_;walk_at "";refine (Dh (Af.of ha) hw1 (hN _ _ ?_));clear hN N;refine CC (λσ HX=>∃h t:Nat,σ=[some (.int (k:Int)),some (.int (G:Int)),some (.ref p),some (.ref a),some (.int (h:Int)),some (.int (t:Int))]/\HX=H/\h<G/\t<G/\(k=0->h=n)/\(k≠0->∀s,Cs k G s (Io k l) n=FF k G s h t)) (λN hN=>?_) ?_
 ·have fa:∀s d,Cs k G s d n=if d=0 then FF k G s (n/G) (n%G) else FF k G s (n%G) (n/G):=λs d=>by unfold Cs;rw[qE k3]
  have dk:Io k l=xn l 14%2:=by unfold Io;rw[qE k3]
  walk_at "";refine (Dh (Af.of xs.1) e14 ⟨_,rfl,by decide,?_⟩)
  by_cases c:xn l 14%2=1
  ·rw[qF (by lia)];refine (Dh (Af.of ha) hw1 (Dh (Af.of ha) hw0 (hN _ _ ⟨w1,w0,rfl,rfl,b1,b0,λz=>(hk0 z).2,λz s=>?_⟩)));rw[fa,dk,qE (by lia),(hk z).1,(hk z).2]
  ·rw[qE (by lia)];refine hN _ _ ⟨w0,w1,rfl,rfl,b0,b1,λz=>(hk0 z).1,λz s=>?_⟩;rw[fa,dk,qF (by lia),(hk z).1,(hk z).2]
 rintro _ hGo σ HX ⟨h,t,rfl,hHX,hh,ht,z0,zk⟩;refine hGo _ _ ?_;rw[hHX];clear hHX HX;clear hw0 hw1 b0 b1 hk0 hk wl
 have tv:∀j,k=j->j≠0->j≠3->j≠4->DK k G l n=FF j G (EZ j G l) h t:=λj e j0 _ j4=>by subst e;unfold DK;rw[qE j0,qE j4,zk j0]
 have two:∀j,k=j->(j=1\/j=2\/j=4)->F2 j [.int (G:Int),.ref p,.int (h:Int),.int (t:Int)] H Q E0:=λj e hj=>by
  subst e;refine⟨G,p,l,h,t,rfl,kg,xs,hh,ht,λH' e=>?_⟩;have q:=q H' e
  by_cases c:k=4
  ·rw[qF c];unfold DK at q;rw[qE (by lia),qF c]at q;have z:=zk (by lia);rw[c]at z;rw[z]at q;exact q
  ·rw[qE c];rw[tv k rfl (by lia) (by lia) c]at q;exact q
 refine An λN hN=>?_;walk_at ""
 by_cases c1:k=1
 ·rw[qF (by lia)];exact two 1 c1 (.inl rfl)
 rw[qE (by lia)];refine hN _ _ ?_;clear hN N;refine An λN hN=>?_;walk_at ""
 by_cases c2:k=2
 ·rw[qF (by lia)];exact two 2 c2 (.inr (.inl rfl))
 rw[qE (by lia)];refine hN _ _ ?_;clear hN N;refine An λN hN=>?_;walk_at ""
 by_cases c4:k=4
 ·rw[qF (by lia)];exact two 4 c4 (.inr (.inr rfl))
 rw[qE (by lia)];refine hN _ _ ?_;clear hN N two;refine An λN hN=>?_;walk_at ""
 by_cases c5:k=5
 ·rw[qF (by lia)];have g:G=8:=by unfold KG at kg;lia
  have q:=q H (AG.refl _);rw[tv 5 c5 (by decide) (by decide) (by decide),g]at q;exact⟨h,t,rfl,q⟩
 rw[qE (by lia)];refine hN _ _ ?_;clear hN N;walk_at ""
 by_cases c6:k=6
 ·rw[qF (by lia)];have q:=q H (AG.refl _);rw[tv 6 c6 (by decide) (by decide) (by decide)]at q;exact⟨G,h,t,rfl,by unfold KG at kg;lia,by unfold KG at kg;lia,hh,ht,q⟩
 rw[qE (by lia)];have k0:k=0:=by unfold KG at kg;lia
 have q:=q H (AG.refl _);rw[show DK k G l n=n by unfold DK;rw[qF k0],<-z0 k0]at q;exact q
theorem EW:AO ["_law_first","_law_second","_law_low_here","_law_kind","_law_part","_law_signs","_law_many","_law_xs","_law_names","_law_words","_law_table"] ["_law_first","_law_second","_law_low_here"] (AI XH):=CS
theorem Yx(T:CP K mg t)(hB:Gn mg base):CJ P w K mg base 4 t.f_29 ["_law_first","_law_second","_law_low_here"] (LZ LP t.p_29):=by
 refine YG T.d_29 EW (λ_ _ _ _ _ _=>b3 λ_ _ _=>rfl) λvs H Q E h=>?_;obtain⟨c1,c2,lo,rfl,tb,q⟩:=h;refine⟨rfl,λA outer s hr=>?_⟩;refine U8 ?_
 refine⟨_,(BP (B8 (i:=3) EW.nd rfl (Or.inr rfl) (Hs (C8 K) (Fo (AM (AM (AM (AM (AM (AM (AM (AM (AM (AM (AM (AM (AM (AM Fn))))))))))))))) (.of (AH Ab (pv 0) AD)) (λ_ _=>rfl)) rfl (by first|exact .inl rfl|exact .inr rfl))
  (BP (B8 (i:=4) EW.nd rfl (Or.inl rfl) (.of (AH Ax (pv 0) AD)) rfl (by first|exact .inl rfl|exact .inr rfl))
  (BP (B8 (i:=5) EW.nd rfl (Or.inr rfl) (.of (AH Ag AD (AH Ab (pv 4) AD))) rfl (by first|exact .inl rfl|exact .inr rfl))
  (BP (MQ (AK Bb (pv 3) AD (AQ _)) (Fm (B8 (i:=5) EW.nd rfl (Or.inr rfl) (Hs (C8 K) (Fo (AM (AM (AM (AM (AM (AM (AM (AM Fn))))))))) (.of (AH Ab (pv 4) AD)) (λ_ _=>rfl)) rfl (by first|exact .inl rfl|exact .inr rfl))) Jv)
  (BP (MQ (AK Bb (pv 3) AD (AQ _)) (Fm (B8 (i:=5) EW.nd rfl (Or.inr rfl) (Hs (C8 K) (Fo (AM (AM (AM (AM (AM (AM (AM (AM Fn))))))))) (.of (AH Ab (pv 4) AD)) (λ_ _=>rfl)) rfl (by first|exact .inl rfl|exact .inr rfl))) Jv)
  (BP (MQ (AK FG (pv 3) AD (AQ _)) (Fm (B8 (i:=5) EW.nd rfl (Or.inr rfl) (.of (AJ (C8 K) (BB (AS (AA (AJ (C8 K) (BB (AS (AS (AS (AS AC))))) (AH Ab (pv 4) AD) (λ_ _=>rfl)) (AS (AA (AJ (C8 K) (BB (AS (AS (AS (AS AC))))) (AH Ab (pv 4) AD) (λ_ _=>rfl)) AC))))) (AH A4 (pv 3) AD) (λ_ _=>rfl))) rfl (by first|exact .inl rfl|exact .inr rfl))) Jv)
  (BP (B8 (i:=6) EW.nd rfl (Or.inr rfl) (Hs (C8 K) (Fo (AM (AM (AM (AM (AM (AM (AM Fn)))))))) (.of (pv 3)) (λ_ _=>rfl)) rfl (by first|exact .inl rfl|exact .inr rfl))
  (BP (B8 (i:=7) EW.nd rfl (Or.inr rfl) (.of (AR hr (XW T) T.d_7.1 (AA (pv 1) (AS AC)))) rfl (by first|exact .inl rfl|exact .inr rfl))
  (BP (B8 (i:=8) EW.nd rfl (Or.inr rfl) (.of (PZ (k:=1) (cl:=[("_law_xs",_)]) (is:=[7]) rfl rfl (hr.mono (by decide)) rfl T.z_range rfl T.z_sorted (AA (pv 5) AC) (TL (WO (clos:=[("_law_xs",_)]) hB rfl T.hd_29 (by with_unfolding_all rfl) rfl) Vp) (.cons ⟨rfl,rfl,by with_unfolding_all rfl,rfl⟩ .nil))) rfl (by first|exact .inl rfl|exact .inr rfl))
  (BP (.of (DS (iy:=9) (fv:=[(5,"_law_signs"),(6,"_law_many")]) (cl:=[("_law_signs",_),("_law_many",_)]) rfl EW.nd rfl (Or.inl rfl) (Aw rfl T.z_range (AA (AR hr (IY T) T.d_13.1 (AA (pv 5) (AA (pv 6) AC))) AC)) (by with_unfolding_all rfl) (by with_unfolding_all rfl) (by decide +kernel) rfl (by decide +kernel) rfl ⟨(by with_unfolding_all rfl),⟨(by with_unfolding_all rfl),trivial⟩⟩ (by with_unfolding_all rfl) ⟨⟨rfl,rfl,(by with_unfolding_all rfl),rfl⟩,⟨⟨rfl,rfl,(by with_unfolding_all rfl),rfl⟩,trivial⟩⟩ (by decide) (λ_ _ _ _=>GJ) (λ_ _ _ _=>(AR hr (Sv T) T.d_36.1 (AA (pv 0) (AA (pv 1) (AA (pv 2) AC)))))))
  (BP (.of (DS (iy:=10) (fv:=[(7,"_law_xs"),(5,"_law_signs"),(8,"_law_names"),(3,"_law_kind")]) (cl:=[("_law_xs",_),("_law_signs",_),("_law_names",_),("_law_kind",_)]) rfl EW.nd rfl (Or.inl rfl) (Mz K (pv 9)) (by with_unfolding_all rfl) (by with_unfolding_all rfl) (by decide +kernel) rfl (by decide +kernel) rfl ⟨(by with_unfolding_all rfl),⟨(by with_unfolding_all rfl),⟨(by with_unfolding_all rfl),⟨(by with_unfolding_all rfl),trivial⟩⟩⟩⟩ (by with_unfolding_all rfl) ⟨⟨rfl,rfl,(by with_unfolding_all rfl),rfl⟩,⟨⟨rfl,rfl,(by with_unfolding_all rfl),rfl⟩,⟨⟨rfl,rfl,(by with_unfolding_all rfl),rfl⟩,⟨⟨rfl,rfl,(by with_unfolding_all rfl),rfl⟩,trivial⟩⟩⟩⟩ (by decide) (λ_ _ _ _=>GJ) (λ_ _ _ _=>(AJ (QV (K:=K) rfl) (pv 3) (AR hr (Yw T) T.d_34.1 (AA (pv 4) (AA (pv 2) (AA (pv 1) (AA (pv 0) AC))))) (λ_ _=>rfl)))))
  (Fm (.of (AN (BB (AA (Bc (AA (pv 5) (AA (pv 2) (AA (Bm CI rfl T.z_tuple dF (AA (pv 10) AC)) AC)))) (AA (pv 6) AC))))))))))))))))),?_⟩
 have k6:=SB c1;have kg:=aG c1
 have ek:((OB c1:Nat):Int)=([0,1,1,2,2,3,4,5,6,6,3,4,6,1]:qW).getD (c1%14).toNat 0:=by
  unfold OB;have h:(c1%14).toNat<14:=by lia
  generalize (c1%14).toNat=i at h;have z:∀i<14,((([0,1,1,2,2,3,4,5,6,6,3,4,6,1]:List Nat).getD i 0:Nat):Int)=([0,1,1,2,2,3,4,5,6,6,3,4,6,1]:qW).getD i 0:=by decide
  exact z i h
 refine An λN hN=>?_;walk_at "";refine⟨by decide,λp hp=>⟨by decide,Dh (Af.of AE) (BV (ns:=[0,1,1,2,2,3,4,5,6,6,3,4,6,1]) (by lia) (by show (c1%14).toNat<14;lia)) (hN _ _ ?_)⟩⟩;clear hN N;rw[<-ek];have e1:=AG.new hp (.lst (([0,1,1,2,2,3,4,5,6,6,3,4,6,1]:qW).map V.int));have tb1:=tb.same e1;refine Ef (λHX=>AG H HX) e1 ?_;clear e1 tb1 hp p ek;rintro H1 e1;refine An λN hN=>?_;walk_at "";refine⟨by decide,by decide,hN _ _ ?_⟩;clear hN N;obtain⟨k,hk⟩:∃k,k=OB c1:=⟨_,rfl⟩;obtain⟨G,hG⟩:∃G,G=gF c1:=⟨_,rfl⟩;have g0:k=0->((G:Nat):Int)=2+c1/14%8:=λz=>by rw[hG];unfold gF;rw[qF (by rw[<-hk];exact z)];lia
 have i8:(c1/14%8).toNat<8:=by lia
 have i4:(c1/14%4).toNat<4:=by lia
 have g1:k=1->((G:Nat):Int)=([4,4,6,4,4,8,6,9]:qW).getD (c1/14%8).toNat 0:=λz=>by
  rw[hG];unfold gF;rw[<-hk,z];generalize (c1/14%8).toNat=i at i8;have y:∀i<8,((([4,4,6,4,4,8,6,9]:List Nat).getD i 0:Nat):Int)=([4,4,6,4,4,8,6,9]:qW).getD i 0:=by decide
  exact y i i8
 have g2:k=2->((G:Nat):Int)=([3,4,5,3,4,3,6,7]:qW).getD (c1/14%8).toNat 0:=λz=>by
  rw[hG];unfold gF;rw[<-hk,z];generalize (c1/14%8).toNat=i at i8;have y:∀i<8,((([3,4,5,3,4,3,6,7]:List Nat).getD i 0:Nat):Int)=([3,4,5,3,4,3,6,7]:qW).getD i 0:=by decide
  exact y i i8
 have g3:2<k->((G:Nat):Int)=([2,([4,4,8,9]:qW).getD (c1/14%4).toNat 0,8,([5,6,5,7]:qW).getD (c1/14%4).toNat 0]:qW).getD (k-3) 0:=λz=>by
  rw[<-hk]at k6;have e4:∀i<4,((([4,4,8,9]:List Nat).getD i 0:Nat):Int)=([4,4,8,9]:qW).getD i 0:=by decide
  have e6:∀i<4,((([5,6,5,7]:List Nat).getD i 0:Nat):Int)=([5,6,5,7]:qW).getD i 0:=by decide
  rw[hG];unfold gF;rw[<-hk];obtain rfl|rfl|rfl|rfl:k=3\/k=4\/k=5\/k=6:=by lia
  ·rfl
  ·exact e4 _ i4
  ·rfl
  ·exact e6 _ i4
 rw[<-hk]at kg k6⊢;rw[<-hG]at kg;refine An λN hN=>?_;walk_at "";refine⟨by decide,hN _ _ ?_⟩;clear hN N;refine CC (λσ HX=>(∃s:Int,σ=[some (.int c1),some (.int c2),some (.int lo),some (.int (k:Int)),some (.int (c1/14)),some (.int s),none,none,none,none,none]/\(k<=1->s=(G:Int)))/\AG H HX) (λN hN=>?_) ?_
 ·walk_at ""
  by_cases c:k=1
  ·rw[qF (by lia)];refine⟨by decide,λp hp=>⟨by decide,Dh (Af.of AE) (BV (ns:=[4,4,6,4,4,8,6,9]) (by lia) i8) (hN _ _ ⟨⟨_,rfl,λ_=>(g1 c).symm⟩,e1.trans (AG.new hp _)⟩)⟩⟩
  ·rw[qE (by lia)];exact hN _ _ ⟨⟨_,rfl,λz=>(g0 (by lia)).symm⟩,e1⟩
 rintro _ hGo σ HX ⟨⟨s,rfl,hs⟩,eX⟩;refine hGo _ _ ?_;refine CC (λσ HX=>(∃s:Int,σ=[some (.int c1),some (.int c2),some (.int lo),some (.int (k:Int)),some (.int (c1/14)),some (.int s),none,none,none,none,none]/\(k<=2->s=(G:Int)))/\AG H HX) (λN hN=>?_) ?_
 ·walk_at ""
  by_cases c:k=2
  ·rw[qF (by lia)];refine⟨by decide,λp hp=>⟨by decide,Dh (Af.of AE) (BV (ns:=[3,4,5,3,4,3,6,7]) (by lia) i8) (hN _ _ ⟨⟨_,rfl,λ_=>(g2 c).symm⟩,eX.trans (AG.new hp _)⟩)⟩⟩
  ·rw[qE (by lia)];exact hN _ _ ⟨⟨_,rfl,λz=>hs (by lia)⟩,eX⟩
 clear hs eX s HX;rintro _ hGo σ HX ⟨⟨s,rfl,hs⟩,eX⟩;refine hGo _ _ ?_;refine CC (λσ HX=>σ=[some (.int c1),some (.int c2),some (.int lo),some (.int (k:Int)),some (.int (c1/14)),some (.int (G:Int)),none,none,none,none,none]/\AG H HX) (λN hN=>?_) ?_
 ·walk_at ""
  by_cases c:2<k
  ·rw[qF (by lia)];refine⟨by decide,λp1 h1=>⟨by decide,Dh (Af.of AE) (BV (ns:=[4,4,8,9]) (by lia) i4) ⟨by decide,λp2 h2=>⟨by decide,Dh (Af.of AE) (BV (ns:=[5,6,5,7]) (by lia) i4) ⟨by decide,λp3 h3=>?_⟩⟩⟩⟩⟩;refine (Dh (Af.of AE) (BV (ns:=[2,([4,4,8,9]:qW).getD (c1/14%4).toNat 0,8,([5,6,5,7]:qW).getD (c1/14%4).toNat 0]) (by lia) (by show ((k:Int)-3).toNat<4;lia)) (hN _ _ ⟨?_,((eX.trans (AG.new h1 _)).trans (AG.new h2 _)).trans (AG.new h3 _)⟩));rw[show ((k:Int)-3).toNat=k-3 by lia,<-g3 c]
  ·rw[qE (by lia)];exact hN _ _ ⟨by rw[hs (by lia)],eX⟩
 clear hs eX s HX;rintro _ hGo σ H2 ⟨rfl,e2⟩;refine hGo _ _ ?_
 have em:((mK k:Nat):Int)=([1,2,2,4,2,2,2]:qW).getD k 0:=by
  have z:∀k<7,((mK k:Nat):Int)=([1,2,2,4,2,2,2]:qW).getD k 0:=by decide
  exact z k (by lia)
 refine An λN hN=>?_;walk_at "";refine⟨by decide,λp hp=>(Dh (Af.of AE) (BV (ns:=[1,2,2,4,2,2,2]) (by lia) (by show ((k:Nat):Int).toNat<7;lia)) (hN _ _ ?_))⟩;clear hN N;rw[aW,<-em];clear em;refine Ef (λHX=>AG H HX) (e2.trans (AG.new hp _)) ?_;clear hp p e2 H2 g0 g1 g2 g3 i8 i4;rintro H3 e3;refine An λN hN=>?_;walk_at "";refine⟨_,_,rfl,by decide,by decide,λpx H4 e4 _ h4=>hN _ _ ?_⟩;clear hN N;obtain⟨l,hl⟩:∃l,l=Ga c2 15:=⟨_,rfl⟩;have xs:S8 H4 px l:=⟨by rw[hl];exact h4,by rw[hl];exact Ev c2 15,by rw[hl];exact N9 c2 15⟩;clear h4;have e34:=e3.trans e4;refine An λN hN=>?_;refine⟨_,rfl,G,rfl,by unfold KG at kg;lia,tb.same e34,λf H5 s5 tb5 hf la=>?_⟩;dsimp only[Ii];have xs5:S8 H5 px l:=⟨s5.get (tb.same e34) xs.1 (λ_ z=>by cases z),xs.2⟩;have G9:G<=9/\2<=G:=by unfold KG at kg;lia
 refine⟨f,[.ref px],λx=>((xn l x:Nat):Int)*16+(x:Int),rfl,.cons rfl .nil,PY (k:=0) (x1:="_law_k") (fns:=["_law_xs"]) la ⟨rfl,rfl,rfl,by decide,λx hx=>by rw[aV.mp hx];exact .inl rfl,λx hx=>by rw[aV.mp hx];rfl,by decide +kernel,by decide +kernel⟩ rfl (bu.mpr ⟨am,cQ⟩) (λ_ _ _=>b1 λ_=>rfl) (λc' A2 outer2 s2 HC x hr hx eC=>⟨_,(AH Ag (AH BO (AJ (C8 K) (pv 1) (pv 0) (λ_ _=>rfl)) AD) (pv 0)),?B⟩),λD zs H6 e6 hD h6 pz=>hN _ _ ?_⟩
 case B =>
  intro QB qB;have xsC:=xs5.same eC;exact⟨_,rfl,_,rfl,px,_,_,_,rfl,rfl,Af.of xsC.1,xsC.at (i:=x) (by lia),_,_,rfl,rfl,.inr ⟨by decide,by decide⟩,_,rfl,_,_,rfl,rfl,qB _ (AG.refl _)⟩
 clear hN N;have s6:De t.p_29 H H6:=(e34.t.trans s5).trans e6.t;have tb6:=tb5.same e6;have xs6:=xs5.same e6;have zl:zs.length=G:=by rw[pz.length_eq,CV]
 have nm:=SC pz;have m1:mK k=1\/mK k=2\/mK k=4:=by unfold mK;split;exact .inl rfl;split;exact .inr (.inr rfl);exact .inr (.inl rfl)
 obtain⟨cd,ctf,cmf,ctop,core⟩:=SA kg l nm;have csz:=core.sz;have gpw:(G:Int)^mK k=((G^mK k:Nat):Int):=by rw[cc]
 refine An λN hN=>?_;walk_at "";refine⟨_,rfl,_,rfl,(G:Int),((mK k:Nat):Int),rfl,by lia,by lia,by lia,by lia,_,rfl,by rw[aW,gpw];lia,by rw[aW];lia,λD2 hD2=>?_⟩;rw[aW,gpw,aW];obtain⟨n,hn⟩:∃n,n=G^mK k:=⟨_,rfl⟩;have n256:n<=256:=by rw[gpw,<-hn]at csz;lia
 rw[<-hn];refine Cg (n:=n) (λi fh Hx=>∃ps:List qR,fh=ps.map V.ref/\ps.length=i/\AG H6 Hx/\Hx D2=some (.lst fh)/\∀(j:Nat) (a:qR),ps[j]?=some a->Hx a=some (.lst ((As (G:Int) (j:Int) (mK k)).map V.int))) ⟨[],rfl,rfl,AG.new hD2 _,AE,λj a z=>by simp at z⟩ ?_ ?_
 ·refine Gd ?_;rintro i _ hGo fh Hx hi ⟨ps,rfl,pl,ex,hDx,hp⟩;refine hGo _ _ ?_;rw[bC];refine⟨_,rfl,_,rfl,_,rfl,(i:Int),(G:Int),((mK k:Nat):Int),rfl,by lia,by lia,by lia,by lia,λp7 H7 n7=>?_⟩;rw[aW]at n7;have hD7:=n7.1 _ _ hDx;have ne:p7≠D2:=λz=>by have z2:=n7.2.1;rw[z,hDx]at z2;cases z2
  refine⟨hD7,by rw[aH];exact Ac (by lia),ps++[p7],by rw[aZ];rfl,by rw[aU,pl];rfl,(ex.trans n7.1).into hD2,AE,λj a z=>?_⟩
  by_cases c:j<ps.length
  ·rw[bn c]at z;have w:=hp j a z;have na:a≠D2:=λy=>by rw[y,hDx]at w;have w:=HO.lst.inj (Option.some.inj w);have c0:(ps.map V.ref)[0]?=((As (G:Int) (j:Int) (mK k)).map V.int)[0]?:=qP (λl:List V=>l[0]?) w;rw[aQ,aQ,aJ (show 0<ps.length by lia),aJ (show 0<(As (G:Int) (j:Int) (mK k)).length by rw[BG];lia)]at c0;cases c0
   rw[AL na];exact n7.1 _ _ w
  ·have:j=ps.length:=by
    have:=(aN.mp z).1;rw[aU]at this;simp at this;lia
   subst this;rw[bE (aP _),dU]at z;have z:p7=a:=Option.some.inj z;rw[<-z,AL ne,pl];exact n7.2.2
 rintro fh H7 ⟨ps,rfl,pl,e7,hD7,hp⟩;refine hN _ _ ?_;clear hN N;have xs7:=xs6.same e7;have h67:=e7 _ _ h6;refine An λN hN=>?_;walk_at "";refine⟨_,rfl,D2,rfl,⟨_,Af.of hD7⟩,λD3 hD3=>?_⟩;refine GK (xs:=ps.map V.ref) (λi fh Hx=>fh=((List.range i).map λa=>zs.getD (DK k G l a) 0).map V.int/\AG H7 Hx/\Hx D3=some (.lst fh)) ⟨rfl,AG.new hD3 _,AE⟩ (λi fh Hx _ z=>Af.of (z.2.1 _ _ hD7)) ?_ ?_
 ·refine M4 ?_;rintro i x _ hGo fh Hx hx ⟨rfl,ex,hDx⟩;refine hGo _ _ ?_;obtain⟨a,hai,rfl⟩:∃a,ps[i]?=some a/\x=V.ref a:=by rw[aQ]at hx;obtain⟨c,h1,h2⟩:=aq.mp hx;exact⟨c,h1,h2.symm⟩
  have il:i<n:=by have:=(aN.mp hai).1;lia
  have tl:=UO kg l (n:=i) (by rw[<-hn];exact il);dsimp only[Te];rw[qF rfl];refine⟨_,rfl,_,rfl,_,rfl,_,rfl,_,rfl,k,G,px,a,l,i,rfl,kg,xs7.same ex,ex _ _ (hp i a hai),by rw[<-hn];exact il,λH8 e8=>?_⟩;refine (Dh (Af.of ((ex.trans e8) _ _ h67)) (FI (by lia)) ⟨e8 _ _ hDx,?_,?_,(ex.trans e8).into hD3,AE⟩)
  ·rw[aH,aH,bI];exact Ac (by lia)
  ·rw[Bd,aZ];rfl
 rintro fh H8 ⟨rfl,e8,h8⟩;rw[aH,pl]at h8;refine hN _ _ ?_;clear hN N;walk_at "";refine⟨_,.inl ⟨Af.of h8,λl9 hl9=>⟨by decide,λp9 hp9=>⟨by decide,λp10 hp10=>?_⟩⟩⟩⟩;have tabe:(List.range n).map (λa=>zs.getD (DK k G l a) 0)=BU (G^mK k) (λv=>zs.getD v 0) (DK k G l):=by rw[hn];rfl
 rw[tabe]at h8 hp9 hp10⊢;have f9:=AG.new hl9 (.tup ((BU (G^mK k) (λv=>zs.getD v 0) (DK k G l)).map V.int));have f10:=AG.new hp9 (.tup [.int (G:Int),.int lo,.ref l9]);have f11:=AG.new hp10 (.lst [.ref p9,.int ((mK k:Nat):Int)]);have ff:=(((e7.trans e8).trans f9).trans f10).trans f11;have tw:Z8 c1 c2=VA k G l:=by rw[hk,hG,hl];rfl
 have m8:mK k<=8:=by lia
 refine q p10 p9 _ (G:Int) _ (mK k) cd ctf cmf ctop (s6.trans ff.t) (tb6.same ff) AE ⟨⟨l9,f11 _ _ AE,f11 _ _ (f10 _ _ AE)⟩,core.g2,core.g9,core.m1,m8,core.len,core.sz,core.tb⟩ ?_;rw[tw];exact core
theorem Yy:AO ["_law_cell"] ["_law_cell"] (AI XI):=CS
theorem Yz(T:CP K mg t) :CJ P w K mg base 1 t.f_43 ["_law_cell"] (OL):=by
 refine Am T.d_43.2 Yy λvs H Q E h=>?_;obtain⟨c,rfl,q⟩:=h;refine⟨rfl,λfi A outer s hr=>?_⟩
 refine⟨_,(AB (Ak (AK Bb (AH Ab (pv 0) AD) AD (AQ _)) (AF (AN (AH A4 (AH Ab (AH Ax (pv 0) AD) AD) AD))) AT)
  (AF (AN (AH Ag (AH A4 (AH Ab (AH BO (AH Ax (pv 0) AD) AD) (AH A4 (AH BO AD (AH P2 AD AD)) AD)) (AH P2 AD AD)) AD)))),?_⟩
 walk_at "";refine⟨by decide,?_⟩;split
 ·exact⟨by decide,by decide,by decide,q _⟩
 exact⟨by decide,by decide,.inr ⟨by decide,by decide⟩,by decide,by decide,by decide,.inl ⟨by decide,by decide⟩,by decide,by decide,by decide,by decide,q _⟩
theorem OX:AO ["_law_core_here","_law_many","_law_low_here","_law_word_here","_law_at","_law_j"] ["_law_core_here","_law_many","_law_low_here","_law_word_here"] (AI XJ):=CS
theorem Y0(T:CP K mg t) :CJ P w K mg base 1 t.f_32 ["_law_core_here","_law_many","_law_low_here","_law_word_here"] (Qp K):=by
 refine Am T.d_32.2 OX λvs H Q E h=>?_;obtain⟨r,a,g,lo,dl,m,low,ws,rfl,ok,hS,hb,l1,l2,q⟩:=h;refine⟨rfl,λfi A outer s hr=>?_⟩
 refine⟨_,(AB (AU 4 OX AD)
  (AB (Ay PassesOwn.never rfl (Aw rfl T.z_range (AA (pv 1) AC)) (A3 5 OX) (AF (AU 4 OX (AH Ag (AH BO (pv 4) (AJ (Bi K) (pv 0) AD (λ_ _=>rfl))) (AJ (C8 K) (pv 3) (AH A4 (AH Ag (AJ (Bi K) (pv 0) AD (λ_ _=>rfl)) (pv 5)) (pv 2)) (λ_ _=>rfl))))))
  (AF (AN (AJ (Bi K) (AJ (Bi K) (pv 0) AD (λ_ _=>rfl)) (pv 4) (λ_ _=>rfl)))))),?_⟩
 refine Ba.el ok.v λtb h1 h2=>?_;have g2:=ok.g2;have g9:=ok.g9;have m8:=ok.m8;have hl:=ok.len;have wl:=By ws (lo-low) m;have wb:=FP g2 hb (lo-low) m;have nb:=CG g2 wb;rw[wl,<-hl]at nb;walk_at "";refine⟨_,rfl,_,rfl,by lia,by lia,?_⟩;rw[aW];refine BJ (n:=m) (λj σ H2=>(∃x5,σ=[some (.ref r),some (.int ((m:Nat):Int)),some (.int low),some (.ref a),some (.int (A5 g ((F4 ws (lo-low) m).take j))),x5])/\H2=H) ⟨⟨_,rfl⟩,rfl⟩ ?_ ?_
 ·refine DM ?_;rintro _ _ j _ hGo σ H2 hj ⟨⟨x5,rfl⟩,rfl⟩;refine hGo _ _ ?_;walk_at "";refine (B6 (Aa.of h1) rfl ?_);walk_at "";have gj:(F4 ws (lo-low) m)[j]?=some (ws.getD (lo+(j:Int)-low).toNat 0):=by unfold F4;rw[aQ,dq hj];show some (sn ws (lo-low+(j:Int)))=_;rw[show lo-low+(j:Int)=(((lo+(j:Int)-low).toNat:Nat):Int) by lia,El (by lia)]
  refine⟨.inr ⟨by lia,by lia⟩,B6 (Aa.of h1) rfl ⟨lo,rfl,?_⟩⟩;rw[bC];refine⟨a,_,_,_,rfl,rfl,hS,BV (by lia) (by lia),_,rfl,?_,⟨_,rfl⟩,rfl⟩;rw[Dp gj]
 ·refine Fb ?_;rintro _ hGo σ H2 ⟨⟨x5,rfl⟩,rfl⟩;refine hGo _ _ ?_;clear hGo;have tk:(F4 ws (lo-low) m).take m=F4 ws (lo-low) m:=bh (by lia);rw[tk];walk_at "";exact (B6 (Aa.of h1) rfl (B6 (Aa.of h2) (BV nb.1 (by lia)) q))
theorem IZ:AO ["_law_core_here","_law_many","_law_cell","_law_most","_law_ahead","_law_behind","_law_low_here","_law_size","_law_table"] ["_law_core_here","_law_many","_law_cell"] (AI XM):=CS
theorem Y1(T:CP K mg t):CJ P w K mg base 2 t.f_35 ["_law_core_here","_law_many","_law_cell"] (Lc):=by
 refine Am T.d_35.2 IZ λvs H Q E h=>?_;obtain⟨r,g,lo,dl,m,c,rfl,ok,cw,q⟩:=h;refine⟨rfl,λfi A outer s hr=>?_⟩
 refine⟨_,(AB (AU 3 IZ (AJ (C8 K) (UH (ns:=[6,4,3,3,3,2,2,2]) (by rfl)) (AH A4 (AJ (Bi K) (pv 0) AD (λ_ _=>rfl)) AD) (λ_ _=>rfl)))
  (AB (AU 4 IZ (AH Ab (pv 2) (AH Ag (AH A4 (pv 3) (pv 1)) AD)))
  (AB (AU 5 IZ (AH Ab (AH Ax (pv 2) AD) (AH Ag (AH A4 (AH A4 (pv 3) (pv 1)) (pv 4)) AD)))
  (AB (AU 6 IZ (AH A4 (AJ (Bi K) (pv 0) AD (λ_ _=>rfl)) (pv 4)))
  (AB (AU 7 IZ (AH Ag (AH Ag (pv 1) (pv 4)) (pv 5)))
  (AB (DS (iy:=8) (fv:=[(7,"_law_size"),(1,"_law_many"),(6,"_law_low_here"),(0,"_law_core_here")]) (cl:=[("_law_size",_),("_law_many",_),("_law_low_here",_),("_law_core_here",_)]) rfl IZ.nd rfl (Or.inl rfl) (Aw rfl T.z_range (AA (AR hr (IY T) T.d_13.1 (AA (AJ (Bi K) (pv 0) AD (λ_ _=>rfl)) (AA (pv 7) AC))) AC)) (by with_unfolding_all rfl) (by with_unfolding_all rfl) (by decide +kernel) rfl (by decide +kernel) rfl ⟨(by with_unfolding_all rfl),⟨(by with_unfolding_all rfl),⟨(by with_unfolding_all rfl),⟨(by with_unfolding_all rfl),trivial⟩⟩⟩⟩ (by with_unfolding_all rfl) ⟨⟨rfl,rfl,(by with_unfolding_all rfl),rfl⟩,⟨⟨rfl,rfl,(by with_unfolding_all rfl),rfl⟩,⟨⟨rfl,rfl,(by with_unfolding_all rfl),rfl⟩,⟨⟨rfl,rfl,(by with_unfolding_all rfl),rfl⟩,trivial⟩⟩⟩⟩ (by decide) (λ_ _ _ _=>GJ) (λ_ _ _ _=>(AR hr (Y0 T) T.d_32.1 (AA (pv 4) (AA (pv 2) (AA (pv 3) (AA (AR hr (Sv T) T.d_36.1 (AA (pv 0) (AA (AJ (Td (K:=K) rfl) (pv 4) AD (λ_ _=>rfl)) (AA (pv 1) AC)))) AC)))))))
  (AF (AN (Bc (AA (AJ (Bi K) (pv 0) AD (λ_ _=>rfl)) (AA (pv 6) (AA (Bm CI rfl T.z_tuple dF (AA (pv 8) AC)) AC)))))))))))),?_⟩
 refine Ba.el ok.v λtb h1 h2=>?_;have g2:=ok.g2;have g9:=ok.g9;have m1:=ok.m1;have hl:=ok.len;have wm:=JU g2 g9;refine An λN hN=>?_;walk_at "";refine⟨by decide,λp hp=>?_⟩;have e1:=AG.new hp (.lst (([6,4,3,3,3,2,2,2]:qW).map V.int));refine (B6 (Aa.of (e1 _ _ h1)) rfl ⟨_,rfl,p,_,_,_,rfl,rfl,Af.of AE,BV (ns:=[6,4,3,3,3,2,2,2]) (by lia) (by show (g-2).toNat<8;lia),hN _ _ ?_⟩);clear hN N;obtain⟨w',hw⟩:∃w':Int,w'=Dm g:=⟨_,rfl⟩;rw[show ([6,4,3,3,3,2,2,2]:qW).getD (g-2).toNat 0=w' from hw.symm];rw[<-hw]at wm cw;clear hw;obtain⟨w2,w7,_,wz⟩:=wm;refine Ef (λHX=>AG H HX) e1 ?_;clear e1 hp p;rintro H2 e2;refine An λN hN=>?_;walk_at "";refine⟨by lia,hN _ _ ?_⟩;clear hN N;obtain⟨ah,hah,ah0,ah1⟩:∃ah:Int,ah=c%(w'-(m:Int)+1)/\0<=ah/\ah<w'-(m:Int)+1:=⟨_,rfl,bq _ (by lia),bU _ (by lia)⟩;rw[<-hah];clear hah;refine An λN hN=>?_;walk_at "";refine⟨by decide,by decide,by lia,hN _ _ ?_⟩;clear hN N;obtain⟨be,hbe,be0,be1⟩:∃be:Int,be=c/8%(w'-(m:Int)-ah+1)/\0<=be/\be<w'-(m:Int)-ah+1:=⟨_,rfl,bq _ (by lia),bU _ (by lia)⟩;rw[<-hbe];clear hbe;refine An λN hN=>?_;walk_at "";refine (B6 (Aa.of (e2 _ _ h1)) rfl ⟨_,rfl,hN _ _ ?_⟩);clear hN N;refine An λN hN=>?_;walk_at "";refine hN _ _ ?_;clear hN N;obtain⟨M,hM⟩:∃M:Nat,(M:Int)=(m:Int)+ah+be:=⟨((m:Int)+ah+be).toNat,by lia⟩;rw[<-hM]
 have gM:g^M<=256:=by have:=Bn g2 (show M<=w'.toNat by lia);lia
 have gp:=RW.Ah g2 M;obtain⟨low,hlow⟩:∃low:Int,low=lo-ah:=⟨_,rfl⟩;rw[<-hlow];refine An λN hN=>?_;walk_at "";refine⟨_,rfl,r,_,0,_,rfl,rfl,Aa.of (e2 _ _ h1),rfl,_,rfl,g,_,rfl,g2,g9,by lia,by lia,_,rfl,by rw[aW];lia,by rw[aW];lia,λD hD=>?_⟩;rw[aW];refine Cg (n:=(g^M).toNat) (λi fh Hx=>fh=((List.range i).map λn:Nat=>dl.getD (A5 g (F4 (As g (n:Int) M) (lo-low) m)).toNat 0).map V.int/\AG H2 Hx/\Hx D=some (.lst fh)) ⟨rfl,AG.new hD _,AE⟩ ?_ ?_
 ·refine Gd ?_;rintro i _ hGo fh Hx hi ⟨rfl,ex,hDx⟩;refine hGo _ _ ?_;have e3:=e2.trans ex;walk_at "";refine (B6 (Aa.of (e3 _ _ h1)) rfl ⟨_,g,_,rfl,g2,g9,by lia,by lia,λp5 H5 hN5=>?_⟩);rw[aW,bC]at hN5;have wl:=BG g (i:Int) M;refine⟨r,p5,g,lo,dl,m,low,As g (i:Int) M,rfl,ok.same (e3.trans hN5.1),Af.of hN5.2.2,CK g2 _ _,by lia,by lia,hN5.1 _ _ hDx,?_,?_,(ex.trans hN5.1).into hD,AE⟩
  ·rw[aH,aH,bI];exact Ac (by lia)
  ·rw[Bd,aZ];rfl
 rintro fh Hx ⟨rfl,ex,hDx⟩;refine hN _ _ ?_;clear hN N;have e3:=e2.trans ex;walk_at "";refine (B6 (Aa.of (e3 _ _ h1)) rfl ⟨_,.inl ⟨Af.of hDx,λl8 hl8=>⟨by decide,λp9 hp9=>?_⟩⟩⟩);have f8:=AG.new hl8 (.tup ((Dn g lo dl m low M).map V.int));have f9:=AG.new hp9 (.tup [.int g,.int low,.ref l8]);exact q p9 low (Dn g lo dl m low M) M _ ((e3.trans f8).trans f9) (ok.bw (by lia) gM ⟨l8,AE,f9 _ _ AE⟩) λx hx=>Ht g2 hl (by lia) (by lia) hx
theorem XY:AO ["_law_one","_law_many","_law_j","_law_weight","_law_k"] ["_law_one","_law_many","_law_j"] (AI Zk):=CS
theorem Zw(T:CP K mg t):CJ P w K mg base 2 t.f_6 ["_law_one","_law_many","_law_j"] (IU):=by
 refine Am T.d_6.2 XY λvs H Q E h=>?_;obtain⟨r,g,lo,dl,m,j,rfl,g2,g9,hR,hl,hj,m8,gm,q⟩:=h;refine⟨rfl,λfi A outer s hr=>?_⟩
 refine⟨_,(AB (AU 3 XY (AR hr (IY T) T.d_13.1 (AA (AJ (Bi K) (pv 0) AD (λ_ _=>rfl)) (AA (AH A4 (AH A4 (pv 1) AD) (pv 2)) AC))))
  (AB (Ay PassesOwn.never rfl (Aw rfl T.z_range (AA (Ad (Gc K) rfl T.z_len bJ (AA (AJ (Bi K) (pv 0) AD (λ_ _=>rfl)) AC)) AC)) (A3 4 XY) (AF (Ak (AK Do (AJ (Bi K) (AJ (Bi K) (pv 0) AD (λ_ _=>rfl)) (pv 4) (λ_ _=>rfl)) (AJ (Bi K) (AJ (Bi K) (pv 0) AD (λ_ _=>rfl)) (AH A4 (pv 4) (AH BO (AH Ab (AH Ax (pv 4) (pv 3)) (AJ (Bi K) (pv 0) AD (λ_ _=>rfl))) (pv 3))) (λ_ _=>rfl)) (AQ _)) (AF (AN C9)) AT)))
  (AF (AN C9)))),?_⟩
 refine Ba.el hR λtb h1 h2=>?_;walk_at "";refine (B6 (Aa.of h1) rfl ?_);walk_at "";refine⟨g,_,rfl,g2,g9,by lia,by lia,?_⟩;rw[show ((m:Int)-1-(j:Int)).toNat=m-1-j by lia];have wp:=RW.Ah g2 (m-1-j);have wq:=Bn g2 (show m-1-j<=m by lia);obtain⟨wt,hwt⟩:∃wt:Int,wt=g^(m-1-j):=⟨_,rfl⟩;rw[<-hwt]at wp wq q⊢;have hlm:(dl.map V.int).length=dl.length:=aH ..;refine⟨_,rfl,r,_,2,_,rfl,rfl,Aa.of h1,rfl,tb,rfl,_,.inr (Aa.of h2),_,rfl,by lia,by lia,?_⟩;rw[hlm];refine BJ (n:=dl.length) (λi σ H1=>(∃x4,σ=[some (.ref r),some (.int ((m:Nat):Int)),some (.int ((j:Nat):Int)),some (.int wt),x4])/\H1=H/\∀k,k<i->dl.getD k 0=dl.getD ((k:Int)-(k:Int)/wt%g*wt).toNat 0) ⟨⟨none,rfl⟩,rfl,λk hk=>qG hk (dL _)⟩ ?_ ?_
 ·refine DM ?_;rintro _ _ i _ hGo σ H1 hi ⟨⟨x4,rfl⟩,rfl,hall⟩;refine hGo _ _ ?_;have ix:=Qh (k:=(i:Int)) (w:=wt) (g:=g) (by lia) wp g2;have gA:=BV (ns:=dl) ix.1 (by lia);walk_at "";rw[bC];refine (B6 (Aa.of h1) rfl (B6 (Aa.of h2) (FI hi) ?_));refine (B6 (Aa.of h1) rfl ⟨wp,by lia,?_⟩);refine (B6 (Aa.of h1) rfl ⟨g,rfl,by lia,.inr ⟨by lia,by lia⟩,B6 (Aa.of h2) gA ⟨rfl,?_⟩⟩)
  by_cases hd:V.int (dl.getD i 0)=V.int (dl.getD ((i:Int)-(i:Int)/wt%g*wt).toNat 0)
  ·rw[qE (λz=>z hd)];refine⟨⟨_,rfl⟩,rfl,λk hk=>?_⟩
   by_cases z:k=i
   ·subst z;exact V.int.inj hd
   ·exact hall k (by lia)
  ·rw[qF hd];have z:BI g dl wt=true:=Dt.mpr ⟨i,hi,λy=>hd (by rw[y])⟩;rw[z]at q;exact q
 ·refine Fb ?_;rintro _ hGo σ H1 ⟨⟨x4,rfl⟩,rfl,hall⟩;refine hGo _ _ ?_;clear hGo;walk_at ""
  have z:BI g dl wt=false:=by
   cases z:BI g dl wt with
   |false=>rfl
   |true =>
    obtain⟨k,hk,h⟩:=Dt.mp z;exact qG (hall k hk) h
  rw[z]at q;exact q
theorem D8:AO ["_law_one","_law_many","_law_some","_law_first","_law_size","_law_table","_law_k","_law_word_here","_law_at","_law_j"] ["_law_one","_law_many"] (AI XN):=CS
theorem Y2(T:CP K mg t):CJ P w K mg base 3 t.f_11 ["_law_one","_law_many"] (JX):=by
 refine Am T.d_11.2 D8 λvs H Q E h=>?_;obtain⟨r,g,lo,dl,m,lf,tf,mf,rfl,ok,fw,q⟩:=h;refine⟨rfl,λfi A outer s hr=>?_⟩
 refine⟨_,(AB (DS (iy:=2) (fv:=[(0,"_law_one"),(1,"_law_many")]) (cl:=[("_law_one",_),("_law_many",_)]) rfl D8.nd rfl (Or.inl rfl) (Aw rfl T.z_range (AA (pv 1) AC)) (by with_unfolding_all rfl) (by with_unfolding_all rfl) (by decide +kernel) rfl (by decide +kernel) rfl ⟨(by with_unfolding_all rfl),⟨(by with_unfolding_all rfl),trivial⟩⟩ (by with_unfolding_all rfl) ⟨⟨rfl,rfl,(by with_unfolding_all rfl),rfl⟩,⟨⟨rfl,rfl,(by with_unfolding_all rfl),rfl⟩,trivial⟩⟩ (by decide) (λ_ _ _ _=>(FM (Bg (AR hr (Zw T) T.d_6.1 (AA (pv 1) (AA (pv 2) (AA (pv 0) AC))))))) (λ_ _ _ _=>(pv 0)))
  (AB (AU 3 D8 AD)
  (AB (AU 4 D8 AD)
  (AB (Ak (AK (T0 (K:=K) rfl hr.units) (pv 2) (BB AC) (AQ _)) (AB (AU 3 D8 (AJ (C8 K) (pv 2) AD (λ_ _=>rfl)))
  (AF (AU 4 D8 (Ad (Og rfl) rfl T.z_max PyProof.Rows.boot_max (AS (AA (AH Ag (AH A4 (AJ (C8 K) (pv 2) (Iv GA AD) (λ_ _=>rfl)) (pv 3)) AD) AC)))))) AT)
  (AB (AU 5 D8 (BB AC))
  (AB (Ay PassesOwn.never rfl (Aw rfl T.z_range (AA (AR hr (IY T) T.d_13.1 (AA (AJ (Bi K) (pv 0) AD (λ_ _=>rfl)) (AA (pv 4) AC))) AC)) (A3 6 D8) (AB (AU 7 D8 (AR hr (Sv T) T.d_36.1 (AA (pv 6) (AA (AJ (Bi K) (pv 0) AD (λ_ _=>rfl)) (AA (pv 4) AC)))))
  (AB (AU 8 D8 AD)
  (AB (Ay PassesOwn.never rfl (Aw rfl T.z_range (AA (pv 1) AC)) (A3 9 D8) (AB (AU 8 D8 (AH BO (pv 8) (AJ (Bi K) (pv 0) AD (λ_ _=>rfl))))
  (AF (Ak (PW.pt (FK (AK NC (pv 3) (pv 9) (AQ _)) (EB (AK DP (pv 9) (AH Ag (pv 3) (pv 4)) (AQ _))))) (AF (AU 8 D8 (AH Ag (pv 8) (AJ (C8 K) (pv 7) (AH A4 (pv 9) (pv 3)) (λ_ _=>rfl))))) AT))))
  (AF (BF (Pk K (pv 5) (AA (AJ (Bi K) (AJ (Bi K) (pv 0) AD (λ_ _=>rfl)) (pv 8) (λ_ _=>rfl)) AC))))))))
  (AF (AN (BB (AA (pv 5) (AA (pv 4) AC))))))))))),?_⟩
 refine Ba.el ok.v λtb h1 h2=>?_;have g2:=ok.g2;have g9:=ok.g9;have hl:=ok.len;have m8:=ok.m8;have m1:=ok.m1;have sz:=ok.sz;obtain⟨l,el⟩:∃l,((List.range m).filter λj=>BI g dl (g^(m-1-j)))=l:=⟨_,rfl⟩;obtain⟨f0,f1⟩:=Pb g2 hl fw el
 have lm:l.length<=m:=by rw[<-el];exact bK (cE ..) (by rw[bI];exact aP _)
 refine An λN hN=>?_;refine⟨_,rfl,_,rfl,by lia,by lia,λD hD=>?_⟩;rw[aW];refine Cg (n:=m) (λi fh Hx=>fh=(((List.range i).filter λj=>BI g dl (g^(m-1-j))).map λj:Nat=>(j:Int)).map V.int/\AG H Hx/\Hx D=some (.lst fh)) ⟨rfl,AG.new hD _,AE⟩ ?_ ?_
 ·refine Gd ?_;rintro i _ hGo fh Hx hi ⟨rfl,ex,hDx⟩;refine hGo _ _ ?_;walk_at "";rw[bC];refine⟨r,g,lo,dl,m,i,rfl,g2,g9,ok.v.same ex,hl,hi,m8,sz,BI g dl (g^(m-1-i)),rfl,?_⟩;rw[bP,cA]
  by_cases z:BI g dl (g^(m-1-i))=true
  ·rw[qF z,IE (p:=λj=>BI g dl (g^(m-1-j))) z,aZ,aZ];refine⟨hDx,?_,rfl,ex.into hD,AE⟩;rw[aH,aH];have:=cE (λj=>BI g dl (g^(m-1-j))) (List.range i);rw[bI]at this;exact Ac (by lia)
  ·rw[qE z,Gm (p:=λj=>BI g dl (g^(m-1-j))) (by cases y:BI g dl (g^(m-1-i));rfl;exact qG y z),au];exact⟨rfl,ex,hDx⟩
 rintro fh H1 ⟨rfl,e1,hD1⟩;rw[el]at hD1;refine hN _ _ ?_;clear hN N el;refine An λN hN=>?_;walk_at "";refine hN _ _ ?_;clear hN N;refine An λN hN=>?_;walk_at "";refine hN _ _ ?_;clear hN N;refine CC (λσ HX=>∃(lw:Nat),σ=[some (.ref r),some (.int ((m:Nat):Int)),some (.ref D),some (.int ((lw:Nat):Int)),some (.int ((mf:Nat):Int)),none,none,none,none,none]/\AG H HX/\tf=Dn g lo dl m (lo+((lw:Nat):Int)) mf/\mf<=8/\g^mf<=256/\lw<m) (λN hN=>?_) ?_
 ·walk_at "";refine⟨az _,λp hp=>?_⟩;have e2:=AG.new hp (.lst []);have hD2:=e2 _ _ hD1;have eH:=e1.trans e2;have gg:g^2<=256:=by have:=d8 g9 g9 (show (0:Int)<=g by lia) (by decide);rw[show (2:Nat)=0+1+1 from rfl,bA,bA,bO,cI];lia
  refine⟨_,Af.of hD2,[],Af.of AE,?_⟩
  by_cases z:l=[]
  ·rw[qE (by rw[z];exact λy=>y rfl)];obtain⟨rfl,rfl⟩:=f0 z;exact hN _ _ ⟨0,rfl,eH,by rw[show lo+((0:Nat):Int)=lo by lia],by decide,gg,m1⟩
  ·rw[qF (λy=>z (List.map_eq_nil_iff.mp y))];obtain⟨a,b,c,d⟩:=f1 z;have l0:0<l.length:=dN.mpr z;refine (Dh (Af.of hD2) (BV (z:=0) (by decide) (by rw[aH];exact l0)) (Dh (Af.of hD2) (JE (by rw[aH];exact l0)) ⟨_,rfl,_,rfl,hN _ _ ?_⟩));rw[aH,B1 (show l.length-1<l.length by lia),show Int.toNat 0=0 from rfl,B1 l0];refine⟨l.getD 0 0,?_,eH,b,by lia,?_,by lia⟩
   ·rw[show (if ((l.getD (l.length-1) 0:Nat):Int)-((l.getD 0 0:Nat):Int)+1>2 then ((l.getD (l.length-1) 0:Nat):Int)-((l.getD 0 0:Nat):Int)+1 else 2)=((mf:Nat):Int) by rw[a];split<;>lia]
   ·by_cases y:mf=2
    ·rw[y];exact gg
    ·have:=Bn g2 (show mf<=m by lia);lia
 rintro _ hGo σ H2 ⟨lw,rfl,e2,et,mf8,sz2,lwm⟩;refine hGo _ _ ?_;refine An λN hN=>?_;walk_at "";refine⟨az _,λDT hT=>hN _ _ ?_⟩;clear hN N;have hTf:H DT=none:=e2.free hT;have e3:=e2.trans (AG.new hT (.lst []));have hT3:AV H2 DT (.lst []) DT=some (.lst []):=AE;generalize AV H2 DT (.lst [])=H3 at e3 hT3⊢;have gp:=RW.Ah g2 mf;refine CC (λσ HX=>(∃x6 x7 x8 x9,σ=[some (.ref r),some (.int ((m:Nat):Int)),some (.ref D),some (.int ((lw:Nat):Int)),some (.int ((mf:Nat):Int)),some (.ref DT),x6,x7,x8,x9])/\AG H HX/\HX DT=some (.lst (tf.map V.int))) (λN hN=>?_) ?_
 ·refine⟨_,rfl,r,_,0,_,rfl,rfl,Aa.of (e3 _ _ h1),rfl,_,rfl,g,_,rfl,g2,g9,by lia,by lia,_,rfl,by rw[aW];lia,by rw[aW];lia,?_⟩;rw[aW];refine BJ (n:=(g^mf).toNat) (λi σ HX=>(∃x6 x7 x8 x9,σ=[some (.ref r),some (.int ((m:Nat):Int)),some (.ref D),some (.int ((lw:Nat):Int)),some (.int ((mf:Nat):Int)),some (.ref DT),x6,x7,x8,x9])/\AG H HX/\HX DT=some (.lst (((List.range i).map λn:Nat=>dl.getD (A5 g (F4 (As g (n:Int) mf) (lo-(lo+((lw:Nat):Int))) m)).toNat 0).map V.int))) ⟨⟨none,none,none,none,rfl⟩,e3,hT3⟩ ?_ ?_
  ·refine DM ?_;rintro _ _ i _ hGo σ HX hi ⟨⟨x6,x7,x8,x9,rfl⟩,eX,hX⟩;refine hGo _ _ ?_;refine An λN hN=>?_;walk_at "";refine (B6 (Aa.of (eX _ _ h1)) rfl ⟨_,g,_,rfl,g2,g9,by lia,by lia,λpw H4 n4=>hN _ _ ?_⟩);clear hN N;rw[aW,bC]at n4;refine An λN hN=>?_;walk_at "";refine hN _ _ ?_;clear hN N;have hw4:=n4.2.2;have hX4:=n4.1 _ _ hX;have e4:=eX.trans n4.1;have wl:=BG g (i:Int) mf;have wb:=CK g2 (i:Int) mf;obtain⟨ws,hws⟩:∃ws,ws=As g (i:Int) mf:=⟨_,rfl⟩;rw[<-hws]at wl wb hw4;have Wl:=By ws (lo-(lo+((lw:Nat):Int))) m;have Wb:=FP g2 wb (lo-(lo+((lw:Nat):Int))) m;have nb:=CG g2 Wb;rw[Wl,<-hl]at nb;have gj:∀j,j<m->(F4 ws (lo-(lo+((lw:Nat):Int))) m)[j]?=some (sn ws ((j:Int)-(lw:Int))):=λj hj=>by unfold F4;rw[aQ,dq hj];show some (sn ws _)=_;rw[show lo-(lo+((lw:Nat):Int))+(j:Int)=(j:Int)-(lw:Int) by lia]
   obtain⟨W,hW⟩:∃W,W=F4 ws (lo-(lo+((lw:Nat):Int))) m:=⟨_,rfl⟩;rw[<-hW]at Wl Wb nb;simp only[<-hW]at gj;refine CC (λσ HX=>(∃x9,σ=[some (.ref r),some (.int ((m:Nat):Int)),some (.ref D),some (.int ((lw:Nat):Int)),some (.int ((mf:Nat):Int)),some (.ref DT),some (.int (0+(i:Int))),some (.ref pw),some (.int (A5 g W)),x9])/\HX=H4) (λN hN=>?_) ?_
   ·refine⟨_,rfl,_,rfl,by lia,by lia,?_⟩;rw[aW];refine BJ (n:=m) (λj σ HX=>(∃x9,σ=[some (.ref r),some (.int ((m:Nat):Int)),some (.ref D),some (.int ((lw:Nat):Int)),some (.int ((mf:Nat):Int)),some (.ref DT),some (.int (0+(i:Int))),some (.ref pw),some (.int (A5 g (W.take j))),x9])/\HX=H4) ⟨⟨_,rfl⟩,rfl⟩ ?_ ?_
    ·refine DM ?_;rintro _ _ j _ hGo σ HY hj ⟨⟨x9,rfl⟩,rfl⟩;refine hGo _ _ ?_;walk_at "";have gJ:=gj j hj;refine (B6 (Aa.of (e4 _ _ h1)) rfl ⟨_,rfl,.inr ⟨by lia,by lia⟩,?_⟩)
     by_cases a:((lw:Nat):Int)<=0+(j:Int)
     ·rw[qF a]
      by_cases b:0+(j:Int)<((lw:Nat):Int)+((mf:Nat):Int)
      ·rw[qF b];refine (Dh (Af.of hw4) (BV (by lia) (by lia)) ⟨_,rfl,?_,⟨_,rfl⟩,rfl⟩);unfold sn at gJ;rw[qE (by lia)]at gJ;rw[Dp gJ,bC]
      ·rw[qE b];unfold sn at gJ;rw[qF (by lia)]at gJ;exact⟨by rw[Dp gJ,dH],⟨_,rfl⟩,rfl⟩
     ·rw[qE a];unfold sn at gJ;rw[qF (by lia)]at gJ;exact⟨by rw[Dp gJ,dH],⟨_,rfl⟩,rfl⟩
    ·rintro σ HY ⟨⟨x9,rfl⟩,rfl⟩;rw[bh (show W.length<=m by lia)];exact hN _ _ ⟨⟨_,rfl⟩,rfl⟩
   rintro _ hGo σ HY ⟨⟨x9,rfl⟩,rfl⟩;refine hGo _ _ ?_;walk_at "";refine⟨.inl ⟨_,Af.of hX4⟩,B6 (Aa.of (e4 _ _ h1)) rfl (B6 (Aa.of (e4 _ _ h2)) (BV nb.1 (by lia)) ⟨_,hX4,?_,⟨_,rfl⟩,e4.into hTf,?_⟩)⟩
   ·rw[aH,aH,bI];exact Ac (by lia)
   ·rw[AE,Bd,aZ,<-hws,<-hW];rfl
  ·rintro σ HX ⟨⟨x6,x7,x8,x9,rfl⟩,eX,hX⟩;exact hN _ _ ⟨⟨_,_,_,_,rfl⟩,eX,by rw[et];exact hX⟩
 rintro _ hGo σ H6 ⟨⟨x6,x7,x8,x9,rfl⟩,e6,h6⟩;refine hGo _ _ ?_;walk_at "";refine⟨by decide,λp hp=>?_⟩;have f6:=AG.new hp (.lst [.ref DT,.int ((mf:Nat):Int)]);exact q p DT _ (e6.trans f6) AE (f6 _ _ h6)
theorem EY:AO ["_law_table","_law_signs","_law_size","_law_many","_law_words","_law_k","_law_steps_here","_law_some","_law_left","_law_right","_law_begin","_law_end"] ["_law_table","_law_signs","_law_size"] (AI XO):=CS
theorem Y3(T:CP K mg t):CJ P w K mg base 2 t.f_16 ["_law_table","_law_signs","_law_size"] (JY K):=by
 refine Am T.d_16.2 EY λvs H Q E h=>?_;obtain⟨D,g,tf,mf,rfl,g2,g9,mf2,mf8,tl,sz,tb,hD,q⟩:=h;refine⟨rfl,λfi A outer s hr=>?_⟩
 refine⟨_,(AB (AU 3 EY (AR hr (IY T) T.d_13.1 (AA (pv 1) (AA (AH A4 (pv 2) AD) AC))))
  (AB (AU 4 EY Qr)
  (AB (Ay PassesOwn.never rfl (Aw rfl T.z_range (AA (Ad (Gc K) rfl T.z_len bJ (AA (pv 0) AC)) AC)) (A3 5 EY) (AF (BF (Pk K (WA (K:=K) rfl fD cJ dG Md (pv 4) (AA (AJ (C8 K) (pv 0) (pv 5) (λ_ _=>rfl)) (AA (BB AC) AC))) (AA (pv 5) AC)))))
  (AB (AU 6 EY (BB AC))
  (AB (Ay PassesOwn.never rfl (RC (T1 (K:=K) rfl fD PySem.F.slot_dict_values PySem.F.type_dict_values O9 (pv 4))) (A3 7 EY) (AF (Ay PassesOwn.never rfl (Mz K (pv 7)) (A3 8 EY) (AF (Ay PassesOwn.never rfl (Mz K (pv 7)) (A3 9 EY) (AB (AU 10 EY (Bc (AA (AH Ax (pv 8) (pv 1)) (AA (AH Ax (pv 9) (pv 1)) AC))))
  (AB (AU 11 EY (Bc (AA (AH Ab (pv 8) (pv 3)) (AA (AH Ab (pv 9) (pv 3)) AC))))
  (AB (Ak (AK Bb (AJ (Bi K) (pv 10) AD (λ_ _=>rfl)) (AJ (Bi K) (pv 10) AD (λ_ _=>rfl)) (AQ _)) (AF (AU 10 EY (Bc (AS (AS AC))))) AT)
  (AB (Ak (AK Bb (AJ (Bi K) (pv 11) AD (λ_ _=>rfl)) (AJ (Bi K) (pv 11) AD (λ_ _=>rfl)) (AQ _)) (AF (AU 11 EY (Bc (AS (AS AC))))) AT)
  (AF (Ak (PW.pt (CD (AK (Fx (K:=K) rfl hr.units) (pv 10) (Bc (AS (AS AC))) (AQ _)) (CN (AK (Fx (K:=K) rfl hr.units) (pv 11) (Bc (AS (AS AC))) (AQ _))))) (AF (BF (Pk K (pv 6) (AA (Bc (AA (pv 10) (AA (pv 11) AC))) AC)))) AT)))))))))))
  (AF (AN (pv 6)))))))),?_⟩
 obtain⟨h,hh⟩:∃h:Nat,h=tf.length/g.toNat:=⟨_,rfl⟩;have hd9:=BC g2 tl (show 1<=mf by lia);have hm:=C7 g2 tl (show 1<=mf by lia);rw[<-hh]at q hd9 hm;refine An λN hN=>?_;walk_at "";refine⟨g,_,rfl,g2,g9,by lia,by lia,hN _ _ ?_⟩;clear hN N;refine An λN hN=>?_;walk_at "";intro d hd;refine hN _ _ ?_;clear hN N;have e0:=AG.new hd (.dK []);have d0:AV H d (.dK []) d=some (.dK []):=AE;generalize AV H d (.dK [])=H0 at e0 d0⊢;rw[show ((mf:Int)-1).toNat=mf-1 by lia,<-hd9.1];have hD0:=e0 _ _ hD;have tl2:tf.length<=256:=by lia
 have Al9:∀A:qW,A.Nodup->(∀v∈A,v∈tf)->A.length<=9:=λA nd mem=>by
  have z:=nd.length_le_of_subset (l₂:=(List.range 9).map λk:Nat=>(k:Int)) λv hv=>by have:=tb v (mem v hv);exact ao.mpr ⟨v.toNat,ak.mpr (by lia),by lia⟩
  rw[aH,bI]at z;exact z
 have tfm:∀k,k<tf.length->tf.getD k 0∈tf:=λk hk=>by rw[aK,aJ hk];exact bS _
 refine CC (λσ HX=>(∃x5,σ=[some (.ref D),some (.int g),some (.int ((mf:Nat):Int)),some (.int ((h:Nat):Int)),some (.ref d),x5,none,none,none,none,none,none])/\AG H HX/\∃(A:qW) (ls:List qR),(∀l∈ls,H l=none)/\HX d=some (.dK (B4 A (ls.map V.ref)))/\F1 HX ls A (KD tf tf.length)/\A.Nodup/\(∀v,v∈A↔v∈tf)) (λN hN=>?_) ?_
 ·refine⟨_,rfl,D,_,rfl,.inl (Af.of hD0),_,rfl,by rw[aH];lia,by rw[aH];lia,?_⟩;rw[aH,aW];refine BJ (n:=tf.length) (λi σ HX=>(∃x5,σ=[some (.ref D),some (.int g),some (.int ((mf:Nat):Int)),some (.int ((h:Nat):Int)),some (.ref d),x5,none,none,none,none,none,none])/\AG H HX/\∃(A:qW) (ls:List qR),(∀l∈ls,H l=none)/\HX d=some (.dK (B4 A (ls.map V.ref)))/\F1 HX ls A (KD tf i)/\A.Nodup/\(∀v,v∈A↔∃k,k<i/\tf.getD k 0=v)) ⟨⟨none,rfl⟩,e0,[],[],λ_ z=>qG z am,d0,F1.nil,cQ,λv=>⟨λz=>qG z am,λ⟨k,hk,_⟩=>qG hk (dL _)⟩⟩ ?_ ?_
  ·refine DM ?_;rintro _ _ i _ hGo σ HX hi ⟨⟨x5,rfl⟩,eX,A,ls,ln,dX,gX,nd,mem⟩;refine hGo _ _ ?_;have A9:=Al9 A nd λv hv=>by obtain⟨k,hk,rfl⟩:=(mem v).mp hv;exact tfm k (by lia)
   obtain⟨v,hv⟩:∃v,v=tf.getD i 0:=⟨_,rfl⟩;have st:∀a,KD tf (i+1) a=if v=a then KD tf i a++[((i:Nat):Int)] else KD tf i a:=λa=>by rw[hv];exact UQ tf i a
   walk_at "";rw[bC];refine⟨.inr (.inr (.inl (.inl ⟨_,dX⟩))),Dh (Af.of (eX _ _ hD)) (FI hi) ⟨az _,λl' hl'=>?_⟩⟩;have f1:=AG.new hl' (.lst []);have nl:=gX.new hl';have h0:=eX.free hl';have lY:AV HX l' (.lst []) l'=some (.lst []):=AE;have eY:=eX.trans f1;have dY:=f1 _ _ dX;have gY:=gX.same f1;generalize AV HX l' (.lst [])=HY at lY eY dY gY⊢;have rl:(B4 A (ls.map V.ref)).length=A.length:=JK (by rw[aH];exact gY.n);rw[<-hv];refine⟨_,Sum.inl v,rfl,dY,by rw[rl];exact Ac (by lia),λz hz=>?_,λhz=>?_⟩
   ·have m:v∈A:=by
     by_cases m:v∈A
     ·exact m
     ·rw[E8 m]at hz;cases hz
    obtain⟨j,hj⟩:=ay.mp m;obtain⟨l2,hl2⟩:∃l2,ls[j]?=some l2:=⟨ls[j]'(by rw[gY.n];exact (aN.mp hj).1),aJ _⟩;rw[GW nd hj (v:=.ref l2) (by rw[aQ,hl2];rfl)]at hz;cases hz;have h2:=gY.e j _ l2 hj hl2;refine⟨.inl ⟨_,Af.of h2⟩,l2,rfl,_,h2,?_,⟨_,rfl⟩,eY.into (ln l2 (ae hl2)),A,ls,ln,?_,?_,nd,λa=>?_⟩
    ·unfold KD;rw[aH,aH];have:=Mu tf i v;exact Ac (by lia)
    ·rw[AL (Cc dY h2 λz=>by cases z)];exact dY
    ·rw[show (KD tf i v).map V.int++[V.int (i:Int)]=(KD tf i v++[((i:Nat):Int)]).map V.int by rw[aZ];rfl];exact (gY.push nd hj hl2).congr λa _=>st a
    ·rw[mem]
     exact⟨λ⟨k,h1,h2⟩=>⟨k,by lia,h2⟩,λ⟨k,h1,h2⟩=>by
      by_cases y:k=i
      ·rw[<-mem,<-h2,y,<-hv];exact m
      ·exact⟨k,by lia,h2⟩⟩
   ·have m:v∉A:=λm=>by
     have y:=Rs (a:=v) (vs:=ls.map V.ref) (by rw[aH];exact gY.n) nd;rw[hz,qH m]at y;cases y
    have hB:KD tf i v=[]:=by unfold KD Pn;rw[List.filter_eq_nil_iff.mpr λk hk y=>m ((mem v).mpr ⟨k,ak.mp hk,qN y⟩)];rfl
    obtain⟨ln2,w2,g2⟩:=AhI.put ln dY gY lY nl h0 m hB;have ld:l'≠d:=Cc lY dY λz=>by cases z
    have h2:AV HY d (.dK (DE (B4 A (ls.map V.ref)) (Sum.inl v) (.ref l'))) l'=some (.lst []):=by rw[AL ld];exact lY
    have nd2:(A++[v]).Nodup:=cD.mpr ⟨nd,bu.mpr ⟨am,cQ⟩,λx hx y hy e=>m (by rw[<-aV.mp hy,<-e];exact hx)⟩;have hj:(A++[v])[A.length]?=some v:=by rw[bE (aP _),dU];rfl
    have hl2:(ls++[l'])[A.length]?=some l':=by rw[<-gY.n,bE (aP _),dU];rfl
    have pu:=(g2.push nd2 hj hl2 (x:=((i:Nat):Int))).congr λa _=>st a
    rw[hB]at pu;refine⟨.inl ⟨_,Af.of h2⟩,_,h2,by decide,⟨_,rfl⟩,(eY.into hd).into h0,A++[v],ls++[l'],ln2,by rw[AL (Ne.symm ld)];exact w2,pu,nd2,λa=>?_⟩;rw[aR,aV,mem];constructor
    ·rintro (⟨k,h1,h2⟩|rfl)
     ·exact⟨k,by lia,h2⟩
     ·exact⟨i,by lia,hv.symm⟩
    ·rintro⟨k,h1,h2⟩
     by_cases y:k=i
     ·exact .inr (by rw[hv,<-h2,y])
     ·exact .inl ⟨k,by lia,h2⟩
  ·rintro σ HX ⟨⟨x5,rfl⟩,eX,A,ls,ln,dX,gX,nd,mem⟩;refine hN _ _ ⟨⟨_,rfl⟩,eX,A,ls,ln,dX,gX,nd,λv=>?_⟩;rw[mem,ay];constructor
   ·rintro⟨k,hk,rfl⟩;exact⟨k,by rw[aK,aJ hk];rfl⟩
   ·rintro⟨k,hk⟩;exact⟨k,(aN.mp hk).1,by rw[aK,hk];rfl⟩
 rintro _ hGo σ H1 ⟨⟨x5,rfl⟩,e1,A,ls,ln,d1,g1,nd,mem⟩;refine hGo _ _ ?_;have Al:=Al9 A nd λv hv=>(mem v).mp hv
 refine An λN hN=>?_;walk_at "";refine⟨az _,λS hS=>hN _ _ ?_⟩;clear hN N;have e2:=AG.new hS (.lst []);have hSf:=e1.free hS;have Sn:=g1.new hS;have S2:AV H1 S (.lst []) S=some (.lst []):=AE;have d2:=e2 _ _ d1;have g2':=g1.same e2;replace e2:=e1.trans e2;generalize AV H1 S (.lst [])=H2 at e2 S2 d2 g2'⊢;clear e1 d1 g1 hS;refine CC (λσ HX=>(∃x7 x8 x9 x10 x11,σ=[some (.ref D),some (.int g),some (.int ((mf:Nat):Int)),some (.int ((h:Nat):Int)),some (.ref d),x5,some (.ref S),x7,x8,x9,x10,x11])/\AG H HX/\∃ts,HX S=some (.lst (ts.map V.ref))/\FZ K HX ts (Pe g.toNat h tf A A.length)) (λN hN=>?_) ?_
 ·refine⟨_,rfl,.inr (.inr (.inl ⟨rfl,.inl ⟨_,d2⟩⟩)),d,_,rfl,rfl,.inl d2,λp hp=>?_⟩;have ep:=AG.new hp (WE p d);refine⟨p,d,_,rfl,AE,ep _ _ d2,λo=>?_⟩;have dn:d∉ls:=g2'.out λxs z=>by rw[d2]at z;cases z
  have Sd:S≠d:=Cc S2 d2 λz=>by cases z
  obtain⟨U,hU⟩:∃U,U=HO.frz o (.dK (B4 A (ls.map V.ref))):=⟨_,rfl⟩;rw[<-hU];have e3:=(e2.trans ep).into hd (o:=U);have d3:AV (AV H2 p (WE p d)) d U d=some U:=AE;have S3:AV (AV H2 p (WE p d)) d U S=some (.lst []):=by rw[AL Sd];exact ep _ _ S2
  have g3:=(g2'.same ep).keep dn U;generalize AV (AV H2 p (WE p d)) d U=H3 at e3 d3 S3 g3⊢;clear e2 d2 S2 g2' ep hp;have rl:(B4 A (ls.map V.ref)).length=A.length:=JK (by rw[aH];exact g3.n);refine PB (d:=d) (o:=o) (kvs:=B4 A (ls.map V.ref)) (λi σ HX=>(∃x7 x8 x9 x10 x11,σ=[some (.ref D),some (.int g),some (.int ((mf:Nat):Int)),some (.int ((h:Nat):Int)),some (.ref d),x5,some (.ref S),x7,x8,x9,x10,x11])/\AG H HX/\HX d=some U/\F1 HX ls A (KD tf tf.length)/\∃ts,HX S=some (.lst (ts.map V.ref))/\FZ K HX ts (Pe g.toNat h tf A i)) ⟨⟨_,_,_,_,_,rfl⟩,e3,d3,g3,[],S3,.nil⟩ (λi σ HX _ z=>by rw[<-hU];exact z.2.2.1) ?_ ?_
  ·clear e3 d3 S3 g3;intro i k v;refine Pp ?_;rintro _ hGo σ HX hk ⟨⟨x7,x8,x9,x10,x11,rfl⟩,eX,dX,gX,ts,SX,stX⟩;refine hGo _ _ ?_;clear hGo;obtain⟨a,ha,hv,rfl⟩:=UD hk;rw[aQ]at hv;obtain⟨l,hl,rfl⟩:=aq.mp hv;have i9:i<9:=by have:=(aN.mp ha).1;lia
   have lX:=gX.e i a l ha hl;have wl:=Mu tf tf.length a;have aL:=US g.toNat h tf A 256 tl2 i;unfold KD at lX;obtain⟨ws,hws⟩:∃ws,ws=Pn tf tf.length a:=⟨_,rfl⟩;rw[<-hws]at lX wl;have lm:l∈ls:=ae hl;have lS:S≠l:=λz=>Sn (by rw[z];exact lm)
   refine⟨_,rfl,l,rfl,⟨_,Af.of lX⟩,?_⟩;refine Bl (xs:=(ws.map λk:Nat=>(k:Int)).map V.int) (λj σ HY=>(∃x8 x9 x10 x11,σ=[some (.ref D),some (.int g),some (.int ((mf:Nat):Int)),some (.int ((h:Nat):Int)),some (.ref d),x5,some (.ref S),some (.ref l),x8,x9,x10,x11])/\AG H HY/\HY d=some U/\F1 HY ls A (KD tf tf.length)/\HY l=some (.lst ((ws.map λk:Nat=>(k:Int)).map V.int))/\∃ts,HY S=some (.lst (ts.map V.ref))/\FZ K HY ts (Pe g.toNat h tf A i++Pd g.toNat h ws j)) ⟨⟨_,_,_,_,rfl⟩,eX,dX,gX,lX,ts,SX,by rw[show Pd g.toNat h ws 0=[] from rfl,au];exact stX⟩ (λj σ HY _ z=>Af.of z.2.2.2.2.1) ?_ ?_
   ·clear eX dX gX lX SX stX;intro j x;refine Pp ?_;rintro _ hGo σ HY hx ⟨⟨x8,x9,x10,x11,rfl⟩,eX,dX,gX,lX,ts,SX,stX⟩;refine hGo _ _ ?_;clear hGo;obtain⟨lw,hlw,rfl⟩:∃lw:Nat,ws[j]?=some lw/\x=V.int ((lw:Nat):Int):=by rw[aQ,aQ]at hx;obtain⟨y,h1,h2⟩:=aq.mp hx;obtain⟨z,h3,h4⟩:=aq.mp h1;exact⟨z,h3,by rw[<-h2,<-h4]⟩
    have j2:j<256:=by have:=(aN.mp hlw).1;lia
    have cL:=OE g.toNat h ws j;refine⟨_,rfl,l,rfl,⟨_,Af.of lX⟩,?_⟩;refine Bl (xs:=(ws.map λk:Nat=>(k:Int)).map V.int) (λk σ HY=>(∃x9 x10 x11,σ=[some (.ref D),some (.int g),some (.int ((mf:Nat):Int)),some (.int ((h:Nat):Int)),some (.ref d),x5,some (.ref S),some (.ref l),some (.int ((lw:Nat):Int)),x9,x10,x11])/\AG H HY/\HY d=some U/\F1 HY ls A (KD tf tf.length)/\HY l=some (.lst ((ws.map λk:Nat=>(k:Int)).map V.int))/\∃ts,HY S=some (.lst (ts.map V.ref))/\FZ K HY ts (Pe g.toNat h tf A i++Pd g.toNat h ws j++S9 g.toNat h (ws.take k) lw)) ⟨⟨_,_,_,rfl⟩,eX,dX,gX,lX,ts,SX,by rw[show S9 g.toNat h (ws.take 0) lw=[] from rfl,au];exact stX⟩ (λk σ HY _ z=>Af.of z.2.2.2.2.1) ?_ ?_
    ·clear eX dX gX lX SX stX;intro k x;refine Pp ?_;rintro _ hGo σ HY hx ⟨⟨x9,x10,x11,rfl⟩,eX,dX,gX,lX,ts,SX,stX⟩;refine hGo _ _ ?_;clear hGo;obtain⟨rw',hrw,rfl⟩:∃lw:Nat,ws[k]?=some lw/\x=V.int ((lw:Nat):Int):=by rw[aQ,aQ]at hx;obtain⟨y,h1,h2⟩:=aq.mp hx;obtain⟨z,h3,h4⟩:=aq.mp h1;exact⟨z,h3,by rw[<-h2,<-h4]⟩
     have iL:=OD g.toNat h (ws.take k) lw;rw[SE hrw];have gn:((g.toNat:Nat):Int)=g:=by lia
     have h1:0<h:=by have:=RW.Ah g2 (mf-1);lia
     refine An λN hN=>?_;walk_at "";refine⟨by lia,by lia,by lia,by lia,by decide,λpb hpb=>hN _ _ ?_⟩;clear hN N;have eB:((lw:Nat):Int)/g=((lw/g.toNat:Nat):Int)/\((rw':Nat):Int)/g=((rw'/g.toNat:Nat):Int):=⟨by rw[cO,gn],by rw[cO,gn]⟩;rw[eB.1,eB.2];clear eB;refine Ef (λHX=>AG HY HX/\HX pb=some (.tup [V.int ((lw/g.toNat:Nat):Int),V.int ((rw'/g.toNat:Nat):Int)])) ⟨AG.new hpb _,AE⟩ ?_;rintro H1 ⟨e1,hb1⟩;refine An λN hN=>?_;walk_at "";refine⟨by lia,by lia,by decide,λpe hpe=>hN _ _ ?_⟩;clear hN N;rw[<-bM,<-bM];refine Ef (λHX=>AG HY HX/\HX pb=some (.tup [V.int ((lw/g.toNat:Nat):Int),V.int ((rw'/g.toNat:Nat):Int)])/\HX pe=some (.tup [V.int ((lw%h:Nat):Int),V.int ((rw'%h:Nat):Int)])) ⟨e1.trans (AG.new hpe _),(AG.new hpe _) _ _ hb1,AE⟩ ?_;clear hb1 hpb hpe e1;rintro H2 ⟨e2,hb2,he2⟩;refine CC (λσ HX=>∃b,σ=[some (.ref D),some (.int g),some (.int ((mf:Nat):Int)),some (.int ((h:Nat):Int)),some (.ref d),x5,some (.ref S),some (.ref l),some (.int ((lw:Nat):Int)),some (.int ((rw':Nat):Int)),some (.ref b),some (.ref pe)]/\AG H2 HX/\Aa K HX b (Ik (B5 (lw/g.toNat,rw'/g.toNat)))) (λN hN=>?_) ?_
     ·walk_at "";refine (B6 (Aa.of hb2) rfl (B6 (Aa.of hb2) rfl ⟨rfl,?_⟩))
      by_cases z:lw/g.toNat=rw'/g.toNat
      ·have nz:=Cm.mpr z;rw[qF (show V.int _=V.int _ by rw[z])];exact⟨by decide,λp hp=>hN _ _ ⟨p,rfl,AG.new hp _,by rw[nz];exact Aa.of AE⟩⟩
      ·rw[qE (λy=>z (by have:=V.int.inj y;lia))];exact hN _ _ ⟨pb,rfl,AG.refl _,by unfold B5;rw[qE z];exact Aa.of hb2⟩
     rintro _ hGo σ H3 ⟨b,rfl,e3,sb⟩;refine hGo _ _ ?_;refine CC (λσ HX=>∃c,σ=[some (.ref D),some (.int g),some (.int ((mf:Nat):Int)),some (.int ((h:Nat):Int)),some (.ref d),x5,some (.ref S),some (.ref l),some (.int ((lw:Nat):Int)),some (.int ((rw':Nat):Int)),some (.ref b),some (.ref c)]/\AG H3 HX/\Aa K HX c (Ik (B5 (lw%h,rw'%h)))) (λN hN=>?_) ?_
     ·have he3:=e3 _ _ he2;walk_at "";refine (B6 (Aa.of he3) rfl (B6 (Aa.of he3) rfl ⟨rfl,?_⟩))
      by_cases z:lw%h=rw'%h
      ·have nz:=Cm.mpr z;rw[qF (show V.int _=V.int _ by rw[z])];exact⟨by decide,λp hp=>hN _ _ ⟨p,rfl,AG.new hp _,by rw[nz];exact Aa.of AE⟩⟩
      ·rw[qE (λy=>z (by have:=V.int.inj y;lia))];exact hN _ _ ⟨pe,rfl,AG.refl _,by unfold B5;rw[qE z];exact Aa.of he3⟩
     rintro _ hGo σ H4 ⟨c,rfl,e4,sc⟩;refine hGo _ _ ?_;have e24:=(e2.trans e3).trans e4;replace sb:=sb.same' e4;refine U0 (λb HX=>AG H4 HX/\b=WX (VB g.toNat h lw rw')) (λQ hQ=>?_) ?_ ?_
     ·have ne:∀{HX:Hp} {a p:qR} {x:qX} {R:V->Hp->Prop},Aa K HX a (Ik x)->HX p=some (.tup [V.int 0,V.int 0])->R (.bl !decide (x=(0,0))) HX->V1 K (V.ref a) (V.ref p) HX R:=λ{HX a p x R} sa hp r=>by
       have sa':Aa K HX a (([(x.1:Int),(x.2:Int)]).map V.int):=sa;have sp':Aa K HX p (([((0:Nat):Int),((0:Nat):Int)]).map V.int):=Aa.of hp;refine⟨_,_,Dj sa',Dj sp',CW _,CW _,Dv _,?_⟩;have z:=YJ x (0,0);dsimp only at z;rw[z];exact r
      walk_at "";refine⟨by decide,λp hp=>ne (sb.same' (AG.new hp _)) AE ⟨_,rfl,?_⟩⟩
      by_cases z:B5 (lw/g.toNat,rw'/g.toNat)=(0,0)
      ·rw[qH z,qE (by decide)];refine⟨by decide,λp2 hp2=>ne ((sc.same' (AG.new hp _)).same' (AG.new hp2 _)) AE ⟨_,rfl,hQ _ _ ⟨(AG.new hp _).trans (AG.new hp2 _),?_⟩⟩⟩;unfold WX VB;rw[z,<-decide_not];exact decide_eq_decide.mpr ⟨.inr,λy=>y.resolve_left λx=>x rfl⟩
      ·rw[qI z,qF (by decide)];exact hQ _ _ ⟨AG.new hp _,(qH (.inl z)).symm⟩
     ·rintro HZ ⟨eZ,ok⟩;have eH:=e24.trans eZ;have SZ:=eH _ _ SX;walk_at "";refine⟨.inl ⟨_,Af.of SZ⟩,by decide,λp hp=>⟨_,(AG.new hp _) _ _ SZ,?_,⟨_,rfl⟩,?_,?_,?_,?_,ts++[p],?_,?_⟩⟩
      ·rw[aH,Paired.length stX,aU,aU,sizeLine_eq];have:(ws.take k).length<=256:=by rw[bQ];lia
       have:j*ws.length<=256*256:=cS (by lia) (by lia);lia
      ·exact (eX.trans (eH.trans (AG.new hp _))).into hSf
      ·rw[AL (Ne.symm Sd)];exact (AG.new hp _) _ _ (eH _ _ dX)
      ·exact ((gX.same eH).same (AG.new hp _)).keep Sn _
      ·rw[AL (Ne.symm lS)];exact (AG.new hp _) _ _ (eH _ _ lX)
      ·rw[AE,aZ];rfl
      ·rw[<-ok,qF rfl,<-a9];have eP:=AG.new hp (.tup [V.ref b,V.ref c]);exact Paired.app (FZ.updL (eP _ _ SZ) ((stX.same eH).same eP)) (.cons ⟨b,c,by rw[AL (Cc AE (eP _ _ SZ) λy=>nomatch y)];exact AE,((sb.same' eZ).same' eP).updL (eP _ _ SZ),((sc.same' eZ).same' eP).updL (eP _ _ SZ)⟩ .nil)
     ·rintro HZ ⟨eZ,ok⟩;have eH:=e24.trans eZ;rw[<-ok,qE (by decide),au];exact⟨⟨_,_,_,rfl⟩,eX.trans eH,eH _ _ dX,gX.same eH,eH _ _ lX,ts,eH _ _ SX,stX.same eH⟩
    ·refine Fb ?_;rintro _ hGo σ HZ ⟨⟨x9,x10,x11,rfl⟩,eZ,dZ,gZ,lZ,ts,SZ,stZ⟩;refine hGo _ _ ?_;clear hGo;rw[aH,aH,bR,a9,<-LR hlw]at stZ;exact⟨⟨_,_,_,_,rfl⟩,eZ,dZ,gZ,lZ,ts,SZ,stZ⟩
   ·refine Fb ?_;rintro _ hGo σ HY ⟨⟨x8,x9,x10,x11,rfl⟩,eY,dY,gY,lY,ts,SY,stY⟩;refine hGo _ _ ?_;clear hGo;rw[aH,aH,hws,<-LS ha]at stY;exact⟨⟨_,_,_,_,_,rfl⟩,eY,dY,gY,ts,SY,stY⟩
  ·rintro σ HX ⟨⟨x7,x8,x9,x10,x11,rfl⟩,eX,dX,gX,ts,SX,stX⟩;rw[rl]at stX;exact hN _ _ ⟨⟨_,_,_,_,_,rfl⟩,eX,ts,SX,stX⟩
 rintro _ hGo σ H6 ⟨⟨x7,x8,x9,x10,x11,rfl⟩,e6,ts,h6,st⟩;refine hGo _ _ ?_;walk_at "";refine q S H6 ts _ e6 hSf h6 st λa b=>UR (by lia) ?_ hm mem a b
 have z:g^(mf-1)=g^(mf-2)*g:=by rw[<-bA];congr 1;lia
 have y:((h%g.toNat:Nat):Int)=0:=by rw[bM,hd9.1,z,ax (by lia)];exact Int.mul_emod_left ..
 lia
theorem Ln:AO ["_law_found","_law_many","_law_pairs","_law_rank","_law_row","_law_pair"] ["_law_found","_law_many"] (AI XQ):=CS
theorem Y4(T:CP K mg t):CJ P w K mg base 2 t.f_14 ["_law_found","_law_many"] (Sb P w K):=by
 refine Am T.d_14.2 Ln λvs H Q E h=>?_;obtain⟨p,D,h,f,rfl,h1,h9,⟨hp,ts,hD,pr,ht⟩,q⟩:=h;refine⟨rfl,λfi A outer s hr=>?_⟩
 refine⟨_,(AB (Ak (PW.pt (CD (Bz (Bg (Lp K rfl T.z_isinstance (pv 0) (EU rfl T.z_tuple PyProof.Rows.boot_tuple)))) (CD (AK Do (Ad (Gc K) rfl T.z_len PySem.boot_len (AA (pv 0) AC)) AD (AQ _)) (CD (Bz (Bg (AR hr (Lk T) T.d_19.1 (AA (AJ (Bi K) (pv 0) AD (λ_ _=>rfl)) AC)))) (CN (Bz (Bg (Lp K rfl T.z_isinstance (AJ (Bi K) (pv 0) AD (λ_ _=>rfl)) (EU rfl T.z_list PyProof.Rows.boot_list))))))))) (AF (AN Cn)) AT)
  (AB (DS (iy:=2) (fv:=[(1,"_law_many")]) (cl:=[("_law_many",_)]) rfl Ln.nd rfl (Or.inl rfl) (Aw rfl T.z_range (AA (AH BO (pv 1) (pv 1)) AC)) (by with_unfolding_all rfl) (by with_unfolding_all rfl) (by decide +kernel) rfl (by decide +kernel) rfl ⟨(by with_unfolding_all rfl),trivial⟩ (by with_unfolding_all rfl) ⟨⟨rfl,rfl,(by with_unfolding_all rfl),rfl⟩,trivial⟩ (by decide) (λ_ _ _ _=>(FM (AK Do (AH Ax (pv 0) (pv 1)) (AH Ab (pv 0) (pv 1)) (AQ _)))) (λ_ _ _ _=>(Bc (AA (AH Ax (pv 0) (pv 1)) (AA (AH Ab (pv 0) (pv 1)) AC)))))
  (AB (Ak (AK Do (Ad (Gc K) rfl T.z_len bJ (AA (AJ (Bi K) (pv 0) AD (λ_ _=>rfl)) AC)) (Ad (Gc K) rfl T.z_len bJ (AA (pv 2) AC)) (AQ _)) (AF (AN Cn)) AT)
  (AB (AU 3 Ln (RA (P:=P) (w:=w) (K:=K) rfl rfl rfl (Nat.lt_of_succ_lt (CF hr)) (Bc (AS (AS AC))) (AJ (Bi K) (pv 0) AD (λ_ _=>rfl))))
  (AB (Ay PassesOwn.never rfl (ZY K rfl T.z_zip (AA (AJ (Bi K) (pv 0) AD (λ_ _=>rfl)) (AA (pv 2) AC))) (YC K 2 rfl (BH (A3 4 Ln) (BH (A3 5 Ln) Cy))) (AB (Ak (PW.pt (CD (Bz (Bg (Lp K rfl T.z_isinstance (pv 4) (EU rfl T.z_tuple PyProof.Rows.boot_tuple)))) (CD (AK Do (Ad (Gc K) rfl T.z_len PySem.boot_len (AA (pv 4) AC)) AD (AQ _)) (CD (Bz (Bg (AR hr (Lk T) T.d_19.1 (AA (AJ (Bi K) (pv 4) AD (λ_ _=>rfl)) AC)))) (CN (Bz (Bg (AR hr (Lk T) T.d_19.1 (AA (AJ (Bi K) (pv 4) AD (λ_ _=>rfl)) AC))))))))) (AF (AN Cn)) AT)
  (AB (Ak (PW.pt (CD (Bz (Bg (AR hr (Lk T) T.d_19.1 (AA (AJ (Bi K) (pv 4) AD (λ_ _=>rfl)) AC)))) (CN (AK (Fx (K:=K) rfl hr.units) (Bc (AA (AJ (Bi K) (pv 4) AD (λ_ _=>rfl)) (AA (AJ (Bi K) (pv 4) AD (λ_ _=>rfl)) AC))) (pv 5) (AQ _))))) (AF (AN Cn)) AT)
  (AF (IB (P:=P) (w:=w) (K:=K) rfl rfl rfl (CF hr) (pv 3) (pv 5) (AJ (Bi K) (pv 4) AD (λ_ _=>rfl)) rfl)))))
  (AF (AN (pv 3)))))))),?_⟩
 have hh9:h*h<=81:=cS h9 h9;have hb:((h:Nat):Int)*((h:Nat):Int)=((h*h:Nat):Int):=(cG ..).symm;refine An λN hN=>?_;walk_at "";refine⟨_,.of (.tup hp),_,QR,?_⟩;rw[qE (by decide)];refine⟨_,.inr (Aa.of hp),?_⟩;rw[qE (by exact λz=>z rfl)];refine (B6 (Aa.of hp) rfl ⟨.int _,rfl,True.intro,true,rfl,?_⟩);rw[qE (by decide)];refine (B6 (Aa.of hp) rfl ⟨_,.of (.lst hD),_,QQ,?_⟩);rw[qE (by decide)];refine hN _ _ ?_;clear hN N;refine An λN hN=>?_;refine⟨_,rfl,_,rfl,_,_,rfl,rfl,.inr ⟨by lia,by lia⟩,_,rfl,by rw[hb];lia,by rw[hb];lia,λB hB=>?_⟩;rw[hb,aW];refine Cg (n:=h*h) (λi fh Hx=>∃ps:List qR,fh=ps.map V.ref/\AG H Hx/\Hx B=some (.lst fh)/\Br K Hx ps (Po h i)) ⟨[],rfl,AG.new hB _,AE,.nil⟩ ?_ ?_
 ·refine Gd ?_;rintro i _ hGo fh Hx hi ⟨ps,rfl,ex,hBx,pv'⟩;refine hGo _ _ ?_;have ed:(0+(i:Int))/((h:Nat):Int)=((i/h:Nat):Int)/\(0+(i:Int))%((h:Nat):Int)=((i%h:Nat):Int):=⟨by rw[bC,cO],by rw[bC,bM]⟩;walk_at "";rw[ed.1,ed.2];refine⟨by lia,by lia,by lia,?_⟩;rw[SF]
  by_cases z:i/h=i%h
  ·rw[qE (λy=>y (by rw[z])),qF z];exact⟨ps,rfl,ex,hBx,pv'⟩
  ·rw[qF (λy=>z (by lia)),qE z];refine⟨by lia,by lia,by lia,by decide,λa ha=>?_⟩;have ea:=AG.new ha (.tup [V.int ((i/h:Nat):Int),V.int ((i%h:Nat):Int)]);have ba:=ea _ _ hBx;refine⟨ba,?_,ps++[a],by rw[aZ];rfl,(ex.trans ea).into hB,AE,Paired.app (Br.upd ba (Br.same ea pv')) (.cons (Aa.updL ba (Aa.of AE)) .nil)⟩;rw[aH,Paired.length pv'];have:=J8 h i;exact Ac (by lia)
 rintro fh H1 ⟨ps,rfl,e1,hB1,pv'⟩;rw[Mv (by lia)]at pv';refine hN _ _ ?_;clear hN N;have nts:=Paired.length pr;rw[aH]at nts;have nps:=Paired.length pv';refine An λN hN=>?_;walk_at "";refine (B6 (Aa.of (e1 _ _ hp)) rfl ⟨D,rfl,_,.inl (Af.of (e1 _ _ hD)),_,.inl (Af.of hB1),?_⟩);rw[aH,aH,nts,nps,qE (λz=>z rfl)];refine hN _ _ ?_;clear hN N;refine An λN hN=>?_;intro d u0 hd0 dw0;refine⟨by decide,λb hb=>?_⟩;have e2:=AG.new hd0 u0;have e3:=AG.new hb (.tup [V.int 0,V.int 0]);have hdf:=e1.free hd0;refine⟨_,rfl,p,_,0,_,rfl,rfl,Aa.of (e3 _ _ (e2 _ _ (e1 _ _ hp))),rfl,b,BL (0,0),rfl,dw0.same e3,Aa.of AE,λu1 dw1=>hN _ _ ?_⟩;clear hN N;have e4:=((e1.trans e2).trans e3).into hdf (o:=u1);have hB4:AV (AV (AV H1 d u0) b (.tup [V.int 0,V.int 0])) d u1 B=some (.lst (ps.map V.ref)):=(dw0.same e3).lst (e3 _ _ (e2 _ _ hB1)) u1;have pv4:Br K (AV (AV (AV H1 d u0) b (.tup [V.int 0,V.int 0])) d u1) ps (Ew h):=(dw0.same e3).prv (Br.same e3 (Br.same e2 pv')) u1;generalize AV (AV (AV H1 d u0) b (.tup [V.int 0,V.int 0])) d u1=H4 at e4 hB4 pv4 dw1⊢;clear dw0 hb e2 e3 hd0;refine CC (λσ HX=>(∃x4 x5,σ=[some (.ref p),some (.int ((h:Nat):Int)),some (.ref B),some (.ref d),x4,x5])/\AG H HX/\DW P w K HX d (Sa h f)) (λN hN=>?_) ?_
 ·refine⟨_,rfl,p,_,1,_,rfl,rfl,Aa.of (e4 _ _ hp),rfl,_,rfl,D,B,_,_,rfl,Af.of (e4 _ _ hD),Af.of hB4,?_⟩;have lA:(Ew h).length<=81:=by rw[<-Mv (by lia)];exact bK (J8 ..) hh9
  refine Tp (D:={nx:=N,rt:=Q}) (xs:=ts.map V.ref) (ys:=ps.map V.ref) (by rw[aH,aH];lia) (λi σ HX=>(∃x4 x5,σ=[some (.ref p),some (.int ((h:Nat):Int)),some (.ref B),some (.ref d),x4,x5])/\AG H HX/\HX B=some (.lst (ps.map V.ref))/\Br K HX ps (Ew h)/\DW P w K HX d (Ae ((0,0)::(Ew h).take i) (((0,0)::(Ew h).take i).map λp=>V.int ((f p:Nat):Int)))) ⟨⟨none,none,rfl⟩,e4,hB4,pv4,dw1⟩ (λi σ HX _ z=>⟨Af.of (z.2.1 _ _ hD),Af.of z.2.2.1⟩) ?_ ?_
  case refine_2 =>
   rintro σ HX ⟨⟨x4,x5,rfl⟩,eX,BX,pX,dX⟩;rw[aH,nts,bR]at dX;exact hN _ _ ⟨⟨_,_,rfl⟩,eX,dX⟩
  clear dw1 hB4 pv4 e4 hN;intro i x y pu;refine YQ ?_;rintro _ hGo σ HX hx hy ⟨⟨x4,x5,rfl⟩,eX,BX,pX,dX⟩;refine hGo _ _ λhpu=>?_;clear hGo
  obtain⟨ta,hta,rfl⟩:∃ta,ts[i]?=some ta/\V.ref ta=x:=by rw[aQ]at hx;exact aq.mp hx
  obtain⟨pa,hpa,rfl⟩:∃pa,ps[i]?=some pa/\V.ref pa=y:=by rw[aQ]at hy;exact aq.mp hy
  obtain⟨ns,hns,sr⟩:=Ar pr hta;obtain⟨a,ha,sp⟩:=Ar pX hpa;rw[aQ,ha]at hns;cases hns;have il:=(aN.mp ha).1;have eu:=AG.new hpu (.tup [V.ref ta,V.ref pa]);have hu:AV HX pu (.tup [V.ref ta,V.ref pa]) pu=some (.tup [V.ref ta,V.ref pa]):=AE;have eY:=eX.trans eu;have BY:=eu _ _ BX;have pY:=Br.same eu pX;have dY:=dX.same eu;have sY:=sp.same' eu;generalize AV HX pu (.tup [V.ref ta,V.ref pa])=HY at hu eY BY pY dY sY⊢;have rY:Aa K HY ta [V.int (a.1:Int),V.int (a.2:Int),V.int ((f a:Nat):Int)]:=sr.same' eY;refine⟨pu,_,rfl,Aa.of hu,rfl,_,_,rfl,_,_,rfl,rfl,?_⟩;obtain⟨ys,hty⟩:=ht ta (ae hta);have tY:=eY _ _ hty;refine An λN hN=>?_;walk_at "";refine⟨_,.of (.tup tY),_,QR,?_⟩;rw[qE (by decide)];refine⟨_,.inr rY,?_⟩;rw[qE (by exact λz=>z rfl)];refine⟨ta,_,0,_,rfl,rfl,rY,rfl,.int _,rfl,True.intro,true,rfl,?_⟩;rw[qE (by decide)];refine⟨ta,_,1,_,rfl,rfl,rY,rfl,.int _,rfl,True.intro,true,rfl,?_⟩;rw[qE (by decide)];refine hN _ _ ?_;clear hN N;refine An λN hN=>?_;walk_at "";refine⟨ta,_,2,_,rfl,rfl,rY,rfl,.int _,rfl,True.intro,true,rfl,?_⟩;rw[qE (by decide)];refine⟨ta,_,0,_,rfl,rfl,rY,rfl,ta,_,1,_,rfl,rfl,rY,rfl,by decide,λpn hpn=>?_⟩;have en:=AG.new hpn (.tup [V.int (a.1:Int),V.int (a.2:Int)]);have s1:Aa K (AV HY pn (.tup [V.int (a.1:Int),V.int (a.2:Int)])) pn (([(a.1:Int),(a.2:Int)]).map V.int):=Aa.of AE;have s2:Aa K (AV HY pn (.tup [V.int (a.1:Int),V.int (a.2:Int)])) pa (([(a.1:Int),(a.2:Int)]).map V.int):=sY.same' en;refine⟨_,_,Dj s1,Dj s2,CW _,CW _,Dv _,_,rfl,?_⟩;rw[YJ a a,qH rfl,qE (by decide)];refine hN _ _ ?_;clear hN N s1 s2;have eZ:=eY.trans en;have BZ:=en _ _ BY;have pZ:=Br.same en pY;have dZ:=dY.same en;have sZ:=sY.same' en;have rZ:=rY.same' en;generalize AV HY pn (.tup [V.int (a.1:Int),V.int (a.2:Int)])=HZ at eZ BZ pZ dZ sZ rZ⊢
  have na:a∉(0,0)::(Ew h).take i:=λz=>by
   rcases aw.mp z with y|y
   ·have:=(DL.mp (ae ha)).2.2;rw[y]at this;exact this rfl
   ·exact EH (FX h) ha y
  refine⟨_,rfl,ta,_,2,_,rfl,rfl,rZ,rfl,_,rfl,_,rfl,d,pa,_,BL a,rfl,rfl,dZ,sZ,?_,λu' dw'=>⟨⟨_,_,rfl⟩,eZ.into hdf,dZ.lst BZ u',dZ.prv pZ u',?_⟩⟩
  ·rw[BD (by rw[aH]),bD,bQ];exact Ac (by lia)
  ·rw[Er (by rw[aH]) na]at dw';rw[bo,ha];rw[bv]at dw';rw[bv,aZ];exact dw'
 rintro _ hGo σ H6 ⟨⟨x4,x5,rfl⟩,e6,dw⟩;refine hGo _ _ ?_;walk_at "";exact q d H6 e6 hdf dw
theorem Ia:AO ["_law_script","_law_low_here","_law_cell","_law_signs","_law_many","_law_size","_law_table","_law_k"] ["_law_script","_law_low_here"] (AI XR):=CS
theorem Y5(T:CP K mg t):CJ P w K mg base 2 t.f_42 ["_law_script","_law_low_here"] (OO K):=by
 refine Am T.d_42.2 Ia λvs H Q E h=>?_;obtain⟨a,ns,lo,rfl,hS,h63,q⟩:=h;refine⟨rfl,λfi A outer s hr=>?_⟩;refine U8 ?_
 refine⟨_,(BP (B8 (i:=2) Ia.nd rfl (Or.inl rfl) (.of (AH Ax (AR hr (KA T) T.d_2.1 (AA (pv 0) (AS AC))) AD)) rfl (by first|exact .inl rfl|exact .inr rfl))
  (BP (B8 (i:=3) Ia.nd rfl (Or.inr rfl) (Hs (C8 K) (Fo (AM (AM (AM (AM (AM (AM (AM (AM (AM (AM (AM (AM (AM (AM (AM (AM Fn))))))))))))))))) (.of (AH Ab (pv 2) AD)) (λ_ _=>rfl)) rfl (by first|exact .inl rfl|exact .inr rfl))
  (BP (B8 (i:=4) Ia.nd rfl (Or.inl rfl) (.of (AH Ag AD (AH Ab (AH Ax (pv 2) AD) (AJ (C8 K) (BB (AS (AS (AS (AS (AS (AS (AS (AS AC))))))))) (AH A4 (pv 3) AD) (λ_ _=>rfl))))) rfl (by first|exact .inl rfl|exact .inr rfl))
  (BP (B8 (i:=5) Ia.nd rfl (Or.inl rfl) (.of (AR hr (IY T) T.d_13.1 (AA (pv 3) (AA (pv 4) AC)))) rfl (by first|exact .inl rfl|exact .inr rfl))
  (BP (.of (DS (iy:=6) (fv:=[(3,"_law_signs")]) (cl:=[("_law_signs",_)]) rfl Ia.nd rfl (Or.inl rfl) (Mz K (AR hr (XW T) T.d_7.1 (AA (AR hr (KA T) T.d_2.1 (AA (pv 0) (AS AC))) (AA (pv 5) AC)))) (by with_unfolding_all rfl) (by with_unfolding_all rfl) (by decide +kernel) rfl (by decide +kernel) rfl ⟨(by with_unfolding_all rfl),trivial⟩ (by with_unfolding_all rfl) ⟨⟨rfl,rfl,(by with_unfolding_all rfl),rfl⟩,trivial⟩ (by decide) (λ_ _ _ _=>GJ) (λ_ _ _ _=>(AH Ab (pv 0) (pv 1)))))
  (BP (.of (Ay PassesOwn.never rfl (Oe rfl T.z_range (AS (AA (Ad (Gc K) rfl T.z_len bJ (AA (pv 0) AC)) AC))) (A3 7 Ia) (AF (HJ (AH Ab (AH Ag (AJ (C8 K) (pv 6) (AH Ab (pv 7) (pv 5)) (λ_ _=>rfl)) (AJ (C8 K) (pv 0) (pv 7) (λ_ _=>rfl))) (pv 3)) (Py (pv 6) (AH Ab (pv 7) (pv 5)) KS)))))
  (Fm (.of (AN (BB (AA (Bc (AA (pv 3) (AA (pv 1) (AA (Bm CI rfl T.z_tuple dF (AA (pv 6) AC)) AC)))) (AA (pv 4) AC)))))))))))),?_⟩
 refine An λN hN=>?_;walk_at "";refine⟨a,ns,0,rfl,hS,h63,_,rfl,by decide,by decide,hN _ _ ?_⟩;clear hN N;generalize ns.getD 0 0/2=cell;refine An λN hN=>?_;walk_at "";refine⟨by decide,λp1 hp1=>⟨by decide,Dh (Af.of AE) (BV (ns:=[2,3,4,2,3,5,2,3,4,6,2,3,7,8,9,2]) (by lia) (by show (cell%16).toNat<16;lia)) (hN _ _ ?_)⟩⟩;clear hN N;have e1:=AG.new hp1 (.lst (([2,3,4,2,3,5,2,3,4,6,2,3,7,8,9,2]:qW).map V.int));refine Ef (λHX=>AG H HX) e1 ?_;clear e1 hp1 p1;rintro H1 e1;obtain⟨g,hg⟩:∃g:Int,g=([2,3,4,2,3,5,2,3,4,6,2,3,7,8,9,2]:qW).getD (cell%16).toNat 0:=⟨_,rfl⟩;rw[<-hg]
 have gb:2<=g/\g<=9:=by
  have z:∀i<16,2<=([2,3,4,2,3,5,2,3,4,6,2,3,7,8,9,2]:qW).getD i 0/\([2,3,4,2,3,5,2,3,4,6,2,3,7,8,9,2]:qW).getD i 0<=9:=by decide
  rw[hg];exact z _ (by lia)
 clear hg;obtain⟨g2,g9⟩:=gb;have ab:=YN g2 g9;refine An λN hN=>?_;walk_at "";refine⟨by decide,by decide,by decide,λp2 hp2=>(Dh (Af.of AE) (BV (ns:=[4,3,2,2,2,2,2,2]) (by lia) (by show (g-2).toNat<8;lia)) ⟨_,rfl,(show 0<EM g by lia),hN _ _ ?_⟩)⟩;clear hN N;have f2:=AG.new hp2 (.lst (([4,3,2,2,2,2,2,2]:qW).map V.int));refine Ef (λHX=>AG H HX) (e1.trans f2) ?_;clear e1 f2 hp2 p2 H1;rintro H1 e1;show Lr _ _ _ [some (V.ref a),some (V.int lo),some (V.int cell),some (V.int g),some (V.int (1+cell/16%EM g)),none,none,none] H1
 obtain⟨m,hm,m1,mb⟩:∃m:Nat,((m:Nat):Int)=1+cell/16%EM g/\1<=m/\(m:Int)<=EM g:=⟨(1+cell/16%EM g).toNat,by have a1:=bq (cell/16) (show EM g≠0 by lia);have a2:=bU (cell/16) (show 0<EM g by lia);lia⟩
 rw[<-hm];clear hm;have gm:g^m<=256:=bi (Bn g2 (show m<=(EM g).toNat by lia)) ab.2.2.2.1;have gm1:g^(m-1)<=9:=bi (Bn g2 (show m-1<=(EM g).toNat-1 by lia)) ab.2.2.2.2;have gp:=RW.Ah g2 m;refine An λN hN=>?_;walk_at "";refine⟨g,_,rfl,g2,g9,by lia,by lia,hN _ _ ?_⟩;clear hN N;rw[aW];refine An λN hN=>?_;walk_at "";refine⟨_,rfl,a,ns,1,rfl,e1.seq hS,h63,_,rfl,_,_,rfl,by lia,by lia,λps H2 e2 _ hps=>⟨ps,rfl,⟨_,Af.of hps⟩,λp5 hp5=>?_⟩⟩;refine GK (xs:=(Ga (ns.getD 1 0) (g^m).toNat).map V.int) (λi fh HX=>fh=(((Ga (ns.getD 1 0) (g^m).toNat).take i).map λx=>x%g).map V.int/\HX=AV H2 p5 (.lst fh)) ⟨rfl,rfl⟩ (λi fh HX _ z=>by rw[z.2];exact Af.of (AG.new hp5 _ _ _ hps)) ?_ ?_
 ·refine M4 ?_;rintro i x _ hGo fh HX hx ⟨rfl,rfl⟩;refine hGo _ _ ?_;obtain⟨v,hv,rfl⟩:=Eg hx;have il:=(aN.mp hv).1;rw[Ev]at il;walk_at "";refine⟨by lia,AE,?_,?_,by rw[Ey]⟩
  ·rw[aH,aH,bQ];exact Ac (by lia)
  ·rw[List.take_succ,hv];simp
 rintro fh HX ⟨rfl,rfl⟩;rw[aH,bR];refine hN _ _ ?_;clear hN N;obtain⟨tab0,ht0⟩:∃tab0:qW,tab0=(Ga (ns.getD 1 0) (g^m).toNat).map λx=>x%g:=⟨_,rfl⟩
 rw[<-ht0];have tl0:(tab0.length:Int)=g^m:=by rw[ht0,aH,Ev];lia
 have tb0:∀n∈tab0,0<=n/\n<g:=λn hn=>by rw[ht0]at hn;obtain⟨x,_,rfl⟩:=ao.mp hn;exact⟨bq _ (by lia),bU _ (by lia)⟩
 clear ht0;have np:H p5=none:=(e1.trans e2).free hp5;have e5:=(e1.trans e2).trans (AG.new hp5 (.lst (tab0.map V.int)));have h5:AV H2 p5 (.lst (tab0.map V.int)) p5=some (.lst (tab0.map V.int)):=AE;generalize AV H2 p5 (.lst (tab0.map V.int))=H5 at e5 h5⊢;refine CC (λσ HX=>∃(dl:qW) (x7:Option V),σ=[some (.ref a),some (.int lo),some (.int cell),some (.int g),some (.int ((m:Nat):Int)),some (.int (g^m)),some (.ref p5),x7]/\(dl.length:Int)=g^m/\(∀n∈dl,0<=n/\n<g)/\AG H HX/\HX p5=some (.lst (dl.map V.int))) (λN hN=>?_) ?_
 ·walk_at "";refine⟨_,rfl,a,rfl,_,.inl (e5.seq hS),_,_,rfl,⟨by decide,by decide,by lia,by rw[aH];lia⟩,?_⟩;rw[aH];refine BJ (n:=((ns.length:Int)-4).toNat) (λi σ HX=>∃(dl:qW) (x7:Option V),σ=[some (.ref a),some (.int lo),some (.int cell),some (.int g),some (.int ((m:Nat):Int)),some (.int (g^m)),some (.ref p5),x7]/\(dl.length:Int)=g^m/\(∀n∈dl,0<=n/\n<g)/\AG H HX/\HX p5=some (.lst (dl.map V.int))) ⟨tab0,none,rfl,tl0,tb0,e5,h5⟩ ?_ λσ HX z=>hN _ _ z
  refine DM ?_;rintro _ _ i _ hGo σ HX hi ⟨dl,x7,rfl,tl,tbb,eX,hX⟩;refine hGo _ _ ?_;walk_at "";have z0:=bq (4+(i:Int)) (show g^m≠0 by lia);have z1:=bU (4+(i:Int)) gp;obtain⟨j,hj⟩:∃j:Nat,(j:Int)=(4+(i:Int))%g^m:=⟨((4+(i:Int))%g^m).toNat,by lia⟩;rw[<-hj];refine⟨gp,Dh (Af.of hX) (FI (by lia)) ⟨a,_,_,_,rfl,rfl,eX.seq hS,BV (by lia) (by lia),_,rfl,_,rfl,by lia,?_⟩⟩;refine⟨_,rfl,_,rfl,_,rfl,_,_,rfl,rfl,gp,p5,_,_,j,rfl,rfl,hX,(by rw[<-hj,aH];exact Jq (by lia)),?_⟩;refine⟨⟨_,rfl⟩,dl.set j ((dl.getD j 0+ns.getD (4+(i:Int)).toNat 0)%g),by rw[dJ];exact tl,λn hn=>?_,eX.into np,by rw[AE,List.map_set]⟩;rcases eU hn with z|z
  ·exact tbb n z
  ·rw[z];exact⟨bq _ (by lia),bU _ (by lia)⟩
 clear tl0 tb0 e5 h5;rintro _ hGo σ H6 ⟨dl,x7,rfl,tl,tbb,e6,h6⟩;refine hGo _ _ ?_;walk_at "";refine⟨_,.inl ⟨Af.of h6,λl' hl'=>⟨by decide,λp8 hp8=>⟨by decide,λp9 hp9=>?_⟩⟩⟩⟩;have f8:=AG.new hl' (.tup (dl.map V.int));have f9:=AG.new hp8 (.tup [.int g,.int lo,.ref l']);have f10:=AG.new hp9 (.lst [.ref p8,.int ((m:Nat):Int)]);exact q p9 p8 _ g dl m (((e6.trans f8).trans f9).trans f10) AE ⟨⟨l',f10 _ _ AE,f10 _ _ (f9 _ _ AE)⟩,g2,g9,m1,by lia,tl,gm,tbb⟩ (by lia) gm1
theorem XZ:AO ["_law_core_here","_law_number","_law_table","_law_at"] ["_law_core_here","_law_number"] (AI Zl):=CS
theorem Zx(T:CP K mg t) :CJ P w K mg base 1 t.f_3 ["_law_core_here","_law_number"] (JV):=by
 refine Am T.d_3.2 XZ λvs H Q E h=>?_;obtain⟨r,g,lo,dl,m,c,rfl,ok,c0,q⟩:=h;refine⟨rfl,λfi A outer s hr=>?_⟩
 refine⟨_,(AB (AU 2 XZ (Bm (Za K) rfl T.z_list d9 (AA (AJ (Bi K) (pv 0) AD (λ_ _=>rfl)) AC)))
  (AB (AU 3 XZ (AH Ab (pv 1) (Ad (Gc K) rfl T.z_len bJ (AA (pv 2) AC))))
  (AB (HJ (AH Ab (AH Ag (AH Ag (AJ (C8 K) (pv 2) (pv 3) (λ_ _=>rfl)) AD) (AH Ab (AH Ax (pv 1) AD) (AH A4 (AJ (Bi K) (pv 0) AD (λ_ _=>rfl)) AD))) (AJ (Bi K) (pv 0) AD (λ_ _=>rfl))) (Py (pv 2) (pv 3) KS))
  (AF (AN (Bc (AA (AJ (Bi K) (pv 0) AD (λ_ _=>rfl)) (AA (AJ (Bi K) (pv 0) AD (λ_ _=>rfl)) (AA (Bm CI rfl T.z_tuple dF (AA (pv 2) AC)) AC))))))))),?_⟩
 refine Ba.el ok.v λtb h1 h2=>?_;have g2:=ok.g2;have gp:=RW.Ah g2 m;have tl:0<dl.length:=by have:=ok.len;lia
 refine An λN hN=>?_;walk_at "";refine (B6 (Aa.of h1) rfl ⟨tb,rfl,_,.inr (Aa.of h2),λD hD=>hN _ _ ?_⟩);clear hN N;have e1:=AG.new hD (.lst (dl.map V.int));have hD1:AV H D (.lst (dl.map V.int)) D=some (.lst (dl.map V.int)):=AE;generalize AV H D (.lst (dl.map V.int))=H1 at e1 hD1⊢;refine An λN hN=>?_;walk_at "";obtain⟨a',ha⟩:∃a':Nat,((a':Nat):Int)=c%(((dl.map V.int).length:Nat):Int):=⟨(c%_).toNat,ax (bq _ (by rw[aH];lia))⟩
 have hat:a'<dl.length:=by have:=bU c (show (0:Int)<(((dl.map V.int).length:Nat):Int) by rw[aH];lia);rw[<-ha,aH]at this;lia
 refine⟨_,.inl (Af.of hD1),by rw[aH];lia,hN _ _ ?_⟩;rw[<-ha];clear hN N;have h1':=e1 _ _ h1;have hx:=C0 g2 ok.tb a';have he:0<=c/1024%(g-1)/\c/1024%(g-1)<g-1:=⟨bq _ (by lia),bU _ (by lia)⟩;obtain⟨v,hv⟩:∃v:Int,v=(dl.getD a' 0+1+c/1024%(g-1))%g:=⟨_,rfl⟩;have v0:0<=v:=hv▸bq _ (by lia);have vg:v<g:=hv▸bU _ (by lia)
 have vn:v≠dl.getD a' 0:=by
  intro z;rw[z]at hv
  by_cases y:dl.getD a' 0+1+c/1024%(g-1)<g
  ·rw[bZ (by lia) y]at hv;lia
  ·rw[<-Int.sub_emod_right,bZ (by lia) (by lia)]at hv;lia
 refine An λN hN=>?_;walk_at "";refine (Dh (Af.of hD1) (FI hat) ⟨_,rfl,by decide,by decide,B6 (Aa.of h1') rfl ⟨_,rfl,by lia,B6 (Aa.of h1') rfl ⟨_,rfl,by lia,?_⟩⟩⟩);refine⟨_,rfl,_,rfl,D,_,_,a',rfl,rfl,hD1,(by rw[aH];exact Jq hat),?_⟩;rw[<-hv];refine hN _ _ ?_;clear hN N;have e2:=e1.into hD (o:=.lst ((dl.map V.int).set a' (.int v)));have hD2:AV H1 D (.lst ((dl.map V.int).set a' (.int v))) D=some (.lst ((dl.set a' v).map V.int)):=by rw[AE,List.map_set]
 generalize AV H1 D (.lst ((dl.map V.int).set a' (.int v)))=H2 at e2 hD2⊢;walk_at "";refine (B6 (Aa.of (e2 _ _ h1)) rfl (B6 (Aa.of (e2 _ _ h1)) rfl ⟨_,.inl ⟨Af.of hD2,λl8 hl8=>⟨by decide,λp9 hp9=>?_⟩⟩⟩));have f8:=AG.new hl8 (.tup ((dl.set a' v).map V.int));have f9:=AG.new hp9 (.tup [.int g,.int lo,.ref l8]);refine q p9 a' v _ ((e2.trans f8).trans f9) hat v0 vg vn ⟨⟨l8,AE,f9 _ _ AE⟩,g2,ok.g9,ok.m1,ok.m8,by rw[dJ];exact ok.len,ok.sz,λn hn=>?_⟩;rcases eU hn with z|z
 ·exact ok.tb n z
 ·rw[z];exact⟨v0,vg⟩
theorem OY:AO ["_law_found","_law_table","_law_signs","_law_size","_law_rank","_law_begin","_law_end"] ["_law_found","_law_table","_law_signs","_law_size"] (AI XS):=CS
theorem Y6(T:CP K mg t):CJ P w K mg base 3 t.f_15 ["_law_found","_law_table","_law_signs","_law_size"] (Ja K):=by
 refine Am T.d_15.2 OY λvs H Q E h=>?_;obtain⟨p,D,DT,g,tf,mf,M,f,rfl,g2,g9,mf2,mf8,tl,sz,sm,tb,hDT,rv,rk,all,q⟩:=h;refine⟨rfl,λfi A outer s hr=>?_⟩
 refine⟨_,(AB (AU 4 OY (AR hr (Y4 T) T.d_14.1 (AA (pv 0) (AA (AR hr (IY T) T.d_13.1 (AA (pv 2) (AA (AH A4 (pv 3) AD) AC))) AC))))
  (AB (Ak (AK P4 (pv 4) Cn (AQ _)) (AF (AN C9)) AT)
  (AB (Ay PassesOwn.never rfl (Mz K (AR hr (Y3 T) T.d_16.1 (AA (pv 1) (AA (pv 2) (AA (pv 3) AC))))) (YC K 2 rfl (BH (A3 5 OY) (BH (A3 6 OY) Cy))) (AF (Ak (AK NC (B2 (P:=P) (w:=w) (K:=K) rfl rfl rfl (CF hr) (pv 4) (pv 6) (λ_ _=>rfl)) (B2 (P:=P) (w:=w) (K:=K) rfl rfl rfl (CF hr) (pv 4) (pv 5) (λ_ _=>rfl)) (AQ _)) (AF (AN C9)) AT)))
  (AF (AN C9))))),?_⟩
 obtain⟨h,hh⟩:∃h:Nat,h=tf.length/g.toNat:=⟨_,rfl⟩;have hd9:=BC g2 tl (show 1<=mf by lia);rw[<-hh]at rv rk all hd9;have hp:=RW.Ah g2 (mf-1);have nd:=DG h;refine An λN hN=>?_;walk_at "";refine⟨g,_,rfl,g2,g9,by lia,by lia,?_⟩;rw[show ((mf:Int)-1).toNat=mf-1 by lia,<-hd9.1];refine⟨p,D,h,f,rfl,by lia,by lia,rv,λd H1 e1 hd dw=>hN _ _ ?_⟩;clear hN N rv;refine An λN hN=>?_;walk_at "";refine hN _ _ ?_;clear hN N;obtain⟨u,dr⟩:=dw.r;refine CC (λσ HX=>(∃x5 x6,σ=[some (.ref p),some (.ref DT),some (.int g),some (.int ((mf:Nat):Int)),some (.ref d),x5,x6])/\AG H HX) (λN hN=>?_) ?_
 ·refine⟨_,rfl,_,rfl,_,rfl,DT,g,tf,mf,rfl,g2,g9,mf2,mf8,tl,sz,tb,e1 _ _ hDT,λS H4 ts L e4 hS0 hS st mem=>?_⟩;rw[<-hh]at mem;refine⟨S,rfl,⟨_,Af.of hS⟩,?_⟩;refine Bl (xs:=ts.map V.ref) (λi σ HX=>(∃x5 x6,σ=[some (.ref p),some (.ref DT),some (.int g),some (.int ((mf:Nat):Int)),some (.ref d),x5,x6])/\AG H4 HX) ⟨⟨_,_,rfl⟩,AG.refl _⟩ (λi σ HX _ z=>Af.of (z.2 _ _ hS)) ?_ ?_
  ·refine IT ?_;rintro _ _ i x _ hGo σ HX hx ⟨⟨x5,x6,rfl⟩,eX⟩;refine hGo _ _ ?_;obtain⟨t',ht,rfl⟩:∃t',ts[i]?=some t'/\V.ref t'=x:=by rw[aQ]at hx;exact aq.mp hx
   obtain⟨s',hs,a,b,z1,z2,z3⟩:=Ar (st.same eX) ht;have sp:=(mem s'.1 s'.2).mp (ae hs);obtain⟨m1,m2⟩:=B9 (by lia) sp;have lt:=(rk.low s'.2 (all _ m2) s'.1 sp).2;have drX:=dr.same (e4.trans eX);refine⟨t',_,rfl,Aa.of z1,rfl,_,_,rfl,_,_,rfl,rfl,?_⟩;walk_at "";refine⟨_,rfl,_,rfl,d,b,u,_,BL s'.2,.int ((f s'.2:Nat):Int),rfl,rfl,drX,z3,E6 nd m2,?_⟩;refine⟨_,rfl,_,rfl,d,a,u,_,BL s'.1,.int ((f s'.1:Nat):Int),rfl,rfl,drX,z2,E6 nd m1,_,rfl,_,rfl,?_⟩;rw[qE (by lia)];exact⟨⟨_,rfl⟩,eX⟩
  ·rintro σ HX ⟨⟨x5,x6,rfl⟩,eX⟩;exact hN _ _ ⟨⟨_,_,rfl⟩,(e1.trans e4).trans eX⟩
 rintro _ hGo σ H6 ⟨⟨x5,x6,rfl⟩,e6⟩;refine hGo _ _ ?_;walk_at "";exact q H6 e6
theorem Jc:AO ["_law_one","_law_many","_law_ring","_law_due","_law_i","_law_at","_law_j"] ["_law_one","_law_many","_law_ring"] (AI XT):=CS
theorem VX(T:CP K mg t) :CJ P w K mg base 1 t.f_31 ["_law_one","_law_many","_law_ring"] (Qg K):=by
 refine Am T.d_31.2 Jc λvs H Q E h=>?_;obtain⟨r,a,g,lo,dl,m,ns,rfl,g2,g9,hR,hl,m8,hS,hb,n1,n3,q⟩:=h;refine⟨rfl,λfi A outer s hr=>?_⟩
 refine⟨_,(AB (AU 3 Jc (BB AC))
  (AB (Ay PassesOwn.never rfl (Aw rfl T.z_range (AA (Ad (Gc K) rfl T.z_len bJ (AA (pv 2) AC)) AC)) (A3 4 Jc) (AB (AU 5 Jc AD)
  (AB (Ay PassesOwn.never rfl (Aw rfl T.z_range (AA (pv 1) AC)) (A3 6 Jc) (AF (AU 5 Jc (AH Ag (AH BO (pv 5) (AJ (Bi K) (pv 0) AD (λ_ _=>rfl))) (AJ (C8 K) (pv 2) (AH Ab (AH Ag (AH Ag (pv 4) (AJ (Bi K) (pv 0) AD (λ_ _=>rfl))) (pv 6)) (Ad (Gc K) rfl T.z_len bJ (AA (pv 2) AC))) (λ_ _=>rfl))))))
  (AF (BF (Pk K (pv 3) (AA (AJ (Bi K) (AJ (Bi K) (pv 0) AD (λ_ _=>rfl)) (pv 5) (λ_ _=>rfl)) AC)))))))
  (AF (AN (pv 3))))),?_⟩
 refine Ba.el hR λtb h1 h2=>?_;have hns:(ns.map V.int).length=ns.length:=aH ..;walk_at "";refine⟨az _,λp hp=>?_⟩;refine⟨_,rfl,a,rfl,_,.inl ((AG.new hp _).seq hS),_,rfl,?_,?_,?_⟩
 ·lia
 ·lia
 rw[hns];refine BJ (n:=ns.length) (λi σ H1=>∃x4 x5 x6,σ=[some (.ref r),some (.int ((m:Nat):Int)),some (.ref a),some (.ref p),x4,x5,x6]/\H1=AV H p (.lst (((List.range i).map (λi:Nat=>dl.getD (A5 g (Ct ns m ((i:Int)+lo))).toNat 0)).map V.int))) ⟨none,none,none,rfl,rfl⟩ ?_ ?_
 ·refine DM ?_;rintro _ _ i _ hGo σ H1 hi ⟨x4,x5,x6,rfl,rfl⟩;refine hGo _ _ ?_;walk_at "";have ei:(0:Int)+(i:Int)=((i:Nat):Int):=by lia
  rw[ei];have ex:=AG.new hp (.lst (((List.range i).map (λi:Nat=>dl.getD (A5 g (Ct ns m ((i:Int)+lo))).toNat 0)).map V.int));have wl:=Ov ns m ((i:Int)+lo);have wb:=Qf g2 hb m ((i:Int)+lo);have nb:=CG g2 wb;rw[wl,<-hl]at nb;refine⟨_,rfl,_,rfl,by lia,by lia,?_⟩;refine BJ (n:=m) (λj σ H2=>(∃x6,σ=[some (.ref r),some (.int ((m:Nat):Int)),some (.ref a),some (.ref p),some (.int ((i:Nat):Int)),some (.int (A5 g ((Ct ns m ((i:Int)+lo)).take j))),x6])/\H2=AV H p (.lst (((List.range i).map (λi:Nat=>dl.getD (A5 g (Ct ns m ((i:Int)+lo))).toNat 0)).map V.int))) ⟨⟨_,rfl⟩,rfl⟩ ?_ ?_
  ·refine DM ?_;rintro _ _ j _ hGo σ H2 hj ⟨⟨x6,rfl⟩,rfl⟩;refine hGo _ _ ?_;walk_at "";refine (B6 (Aa.of (ex _ _ h1)) rfl ?_);walk_at "";have gj:(Ct ns m ((i:Int)+lo))[j]?=some (Ek ns ((i:Int)+lo+(j:Int))):=by unfold Ct;rw[aQ,dq hj];rfl
   have rz:=Th (z:=(i:Int)+lo+(j:Int)) n1;refine⟨.inr ⟨by lia,by lia⟩,B6 (Aa.of (ex _ _ h1)) rfl ⟨lo,rfl,_,.inl (ex.seq hS),by rw[hns];lia,?_⟩⟩;rw[hns,bC];refine⟨a,_,_,_,rfl,rfl,ex.seq hS,BV (by lia) rz.1,_,rfl,?_,⟨_,rfl⟩,rfl⟩;rw[Dp gj];rfl
  ·refine Fb ?_;rintro _ hGo σ H2 ⟨⟨x6,rfl⟩,rfl⟩;refine hGo _ _ ?_;clear hGo;have tk:(Ct ns m ((i:Int)+lo)).take m=Ct ns m ((i:Int)+lo):=bh (by lia);rw[tk];walk_at "";refine⟨.inl ⟨_,Af.of AE⟩,B6 (Aa.of (ex _ _ h1)) rfl (B6 (Aa.of (ex _ _ h2)) (BV nb.1 (by lia)) ⟨_,AE,?_,⟨_,rfl⟩,?_⟩)⟩
   ·rw[aH,aH,bI];exact Ac (by lia)
   rw[Ey,Bd,aZ];rfl
 ·refine Fb ?_;rintro _ hGo σ H1 ⟨x4,x5,x6,rfl,rfl⟩;refine hGo _ _ ?_;clear hGo;walk_at "";exact q p _ ⟨AG.new hp _,hp,AE⟩
theorem Sx:AO ["_law_found","_law_one","_law_many","_law_ring","_law_sign"] ["_law_found","_law_one","_law_many"] (AI XU):=CS
theorem Y7(T:CP K mg t):CJ P w K mg base 2 t.f_18 ["_law_found","_law_one","_law_many"] (Se):=by
 refine Am T.d_18.2 Sx λvs H Q E h=>?_;obtain⟨p,a,b,r,g,lo,dl,m,c,c',rfl,hp,ha,hb,ok,n1,n2,len,cb,cb',ne,led,q⟩:=h;refine⟨rfl,λfi A outer s hr=>?_⟩
 refine⟨_,(AB (Ak (PW.pt (CD (Bz (Bg (Lp K rfl T.z_isinstance (pv 0) (EU rfl T.z_tuple PyProof.Rows.boot_tuple)))) (CN (AK Do (Ad (Gc K) rfl T.z_len PySem.boot_len (AA (pv 0) AC)) AD (AQ _))))) (AF (AN C9)) AT)
  (AB (Ay PassesOwn.never rfl (Vi (pv 0)) (A3 3 Sx) (AB (Ak (PW.pt (CD (Bz (Bg (Lp K rfl T.z_isinstance (pv 3) (EU rfl T.z_list PyProof.Rows.boot_list)))) (CD (AK Bb (Ad (Gc K) rfl T.z_len PySem.boot_len (AA (pv 3) AC)) AD (AQ _)) (CN (AK FG (Ad (Gc K) rfl T.z_len PySem.boot_len (AA (pv 3) AC)) AD (AQ _)))))) (AF (AN C9)) AT)
  (AF (Ay PassesOwn.never rfl (Mz K (pv 3)) (A3 4 Sx) (AF (Ak (PW.pt (CD (Bz (Bg (AR hr (Lk T) T.d_19.1 (AA (pv 4) AC)))) (CD (AK DP (pv 4) AD (AQ _)) (CN (AK Uc (pv 4) (AJ (Bi K) (pv 1) AD (λ_ _=>rfl)) (AQ _)))))) (AF (AN C9)) AT))))))
  (AB (Ak (PW.pt (CD (AK Do (Ad (Gc K) rfl T.z_len bJ (AA (AJ (Bi K) (pv 0) AD (λ_ _=>rfl)) AC)) (Ad (Gc K) rfl T.z_len bJ (AA (AJ (Bi K) (pv 0) AD (λ_ _=>rfl)) AC)) (AQ _)) (CN (AK (Ly hr.units) (AJ (Bi K) (pv 0) AD (λ_ _=>rfl)) (AJ (Bi K) (pv 0) AD (λ_ _=>rfl)) (AQ _))))) (AF (AN C9)) AT)
  (AF (AN (CU (Ly hr.units) (AR hr (VX T) T.d_31.1 (AA (pv 1) (AA (pv 2) (AA (AJ (Bi K) (pv 0) AD (λ_ _=>rfl)) AC)))) (AR hr (VX T) T.d_31.1 (AA (pv 1) (AA (pv 2) (AA (AJ (Bi K) (pv 0) AD (λ_ _=>rfl)) AC)))) (AQ _))))))),?_⟩
 refine Ba.el ok.v λtb r1 r2=>?_;refine An λN hN=>?_;walk_at "";refine⟨_,.of (.tup hp),_,QR,?_⟩;rw[qE (by decide)];refine⟨_,.inr (Aa.of hp),?_⟩;rw[qE (by exact λz=>z rfl)];refine hN _ _ ?_;clear hN N;refine CC (λσ HX=>(∃x3 x4,σ=[some (.ref p),some (.ref r),some (.int ((m:Nat):Int)),x3,x4])/\HX=H) (λN hN=>?_) ?_
 ·refine⟨_,rfl,p,rfl,⟨_,Aa.of hp⟩,?_⟩;refine TH (xs:=[V.ref a,V.ref b]) (λi σ HX=>(∃x3 x4,σ=[some (.ref p),some (.ref r),some (.int ((m:Nat):Int)),x3,x4])/\HX=H) ⟨⟨_,_,rfl⟩,rfl⟩ (λi σ HX _ z=>by rw[z.2];exact Aa.of hp) ?_ λσ HX z=>hN _ _ z
  intro i x;refine Pp ?_;rintro _ hGo σ HX hx ⟨⟨x3,x4,rfl⟩,rfl⟩;refine hGo _ _ ?_;clear hGo
  obtain⟨d,cd,rfl,hd,nd1,nd2,cdb⟩:∃(d:qR) (cd:qW),x=V.ref d/\HX d=some (.lst (cd.map V.int))/\1<=cd.length/\cd.length<=100/\∀y∈cd,0<=y/\y<g:=by
   rcases aw.mp (ae hx) with z|z
   ·exact⟨a,c,z,ha,n1,n2,cb⟩
   ·exact⟨b,c',aV.mp z,hb,by lia,by lia,cb'⟩
  refine An λN hN=>?_;walk_at "";refine⟨_,.of (.lst hd),_,QQ,?_⟩;rw[qE (by decide)];refine⟨_,.inl (Af.of hd),?_⟩;rw[aH,qE (by lia)];refine⟨_,.inl (Af.of hd),?_⟩;rw[aH,qE (by lia)];refine hN _ _ ?_;clear hN N;refine⟨_,rfl,d,rfl,⟨_,Af.of hd⟩,?_⟩;refine Bl (xs:=cd.map V.int) (λj σ HY=>(∃x4,σ=[some (.ref p),some (.ref r),some (.int ((m:Nat):Int)),some (.ref d),x4])/\HY=HX) ⟨⟨_,rfl⟩,rfl⟩ (λj σ HY _ z=>by rw[z.2];exact Af.of hd) ?_ ?_
  ·refine IT ?_;rintro _ _ j y _ hGo σ HY hy ⟨⟨x4,rfl⟩,rfl⟩;refine hGo _ _ ?_;obtain⟨n,hn,rfl⟩:=Eg hy;have nb:=cdb n (ae hn);walk_at "";refine⟨.int n,rfl,True.intro,true,rfl,?_⟩;rw[qE (by decide),qE (by lia)];refine (B6 (Aa.of r1) rfl ⟨_,rfl,?_⟩);rw[qE (by lia)];exact⟨⟨_,rfl⟩,rfl⟩
  ·refine Fb ?_;rintro _ hGo σ HY ⟨⟨x4,rfl⟩,rfl⟩;refine hGo _ _ ?_;clear hGo;exact⟨⟨_,_,rfl⟩,rfl⟩
 rintro _ hGo σ H1 ⟨⟨x3,x4,rfl⟩,rfl⟩;refine hGo _ _ ?_;refine An λN hN=>?_;walk_at "";refine (B6 (Aa.of hp) rfl ⟨a,rfl,_,.inl (Af.of ha),B6 (Aa.of hp) rfl ⟨b,rfl,_,.inl (Af.of hb),?_⟩⟩);rw[aH,aH,len,qE (λz=>z rfl)];refine (B6 (Aa.of hp) rfl (B6 (Aa.of hp) rfl ⟨a,rfl,b,rfl,c,Af.of ha,c',Af.of hb,?_⟩));rw[qE ne];refine hN _ _ ?_;clear hN N;walk_at "";refine (B6 (Aa.of hp) rfl ⟨r,a,g,lo,dl,m,c,rfl,ok.g2,ok.g9,ok.v,ok.len,ok.m8,Af.of ha,cb,n1,by lia,λq1 H2 k2=>?_⟩);have e2:=k2.1;refine (B6 (Aa.of (e2 _ _ hp)) rfl ⟨r,b,g,lo,dl,m,c',rfl,ok.g2,ok.g9,ok.v.same e2,ok.len,ok.m8,Af.of (e2 _ _ hb),cb',by lia,by lia,λq2 H3 k3=>?_⟩);refine⟨q1,rfl,q2,rfl,_,Af.of (k3.1 _ _ k2.2.2),_,Af.of k3.2.2,?_⟩;rw[qH led];exact q H3 (e2.trans k3.1)
theorem Cw:AO ["_law_script","_law_low_here","_law_core_here","_law_many","_law_due","_law_one","_law_truth","_law_found","_law_table","_law_size","_law_held"] ["_law_script"] (AI UW):=CS
theorem Y8{f:qR}{fd:FuncData}(T:CP K mg t)(F:NK K "law" "law" UW f fd)(hB:Gn mg base):GC P w K mg base (Lo P w) 12 f fd ["_law_script"] (J3 K [t.p_29]):=by
 refine F.okY Cw λvs H Q E h=>?_;obtain⟨a,ns,rfl,hS,h63,hT,q⟩:=h;refine⟨rfl,λfi A outer s hr=>?_⟩
 refine⟨_,(AB (AU 1 Cw (AR hr (Yz T) T.d_43.1 (AA (AR hr (KA T) T.d_2.1 (AA (pv 0) (AS AC))) AC)))
  (AB (HJ (AR hr (Y5 T) T.d_42.1 (AA (pv 0) (AA (pv 1) AC))) (ZZ K 2 rfl (BH (A3 2 Cw) (BH (A3 3 Cw) Cy))))
  (AB (AU 4 Cw Cn)
  (AB (Ak (AK Bb (AH Ab (AR hr (KA T) T.d_2.1 (AA (pv 0) (AS AC))) AD) AD (AQ _)) (AB (HJ (AR hr (Yx T hB) T.m_29 (AA (AH Ax (AR hr (KA T) T.d_2.1 (AA (pv 0) (AS AC))) AD) (AA (AR hr (KA T) T.d_2.1 (AA (pv 0) (AS AC))) (AA (pv 1) AC)))) (ZZ K 2 rfl (BH (A3 2 Cw) (BH (A3 3 Cw) Cy))))
  (AB (AU 4 Cw C9)
  (AF (Ak (AK Bb (AH Ab (AR hr (KA T) T.d_2.1 (AA (pv 0) (AS AC))) AD) AD (AQ _)) (AB (AU 2 Cw (AR hr (Zx T) T.d_3.1 (AA (pv 2) (AA (AJ (C8 K) (AR hr (XW T) T.d_7.1 (AA (AR hr (KA T) T.d_2.1 (AA (pv 0) (AS AC))) (AS AC))) AD (λ_ _=>rfl)) AC))))
  (AF (AU 4 Cw C9))) AT)))) AT)
  (AB (AU 5 Cw (AR hr (Y1 T) T.d_35.1 (AA (pv 2) (AA (pv 3) (AA (AH Ax (AR hr (KA T) T.d_2.1 (AA (pv 0) (AS AC))) AD) AC)))))
  (AB (AU 6 Cw (AR hr (VT T) T.d_23.1 (AA (pv 5) AC)))
  (AB (Ak (PW.pt (CD (Bz (Bg (Lp K rfl T.z_isinstance (pv 6) (EU rfl T.z_bool PyProof.Rows.boot_bool)))) (CN (PW.pt (FK (AK Jd (pv 4) Cn (AQ _)) (EB (AK Do (pv 6) (pv 4) (AQ _)))))))) (AF (AN C9)) AT)
  (AB (AU 7 Cw (AR hr (VW T) T.d_58.1 (AA (pv 5) AC)))
  (AB (Ak (Bg (pv 6)) (AB (HJ (AR hr (Y2 T) T.d_11.1 (AA (pv 2) (AA (pv 3) AC))) (ZZ K 2 rfl (BH (A3 8 Cw) (BH (A3 9 Cw) Cy))))
  (AF (AN (F7 (CU P4 (pv 7) Cn (AQ _)) (F6 (AR hr (Y6 T) T.d_15.1 (AA (AR hr (Sq T) T.d_57.1 (AA (pv 5) AC)) (AA (pv 8) (AA (AJ (Bi K) (pv 2) AD (λ_ _=>rfl)) (AA (pv 9) AC)))))))))) AT)
  (AB (Ak (PW.pt (CD (AK Jd (AR hr (Sq T) T.d_57.1 (AA (pv 5) AC)) Cn (AQ _)) (CN (Bz (Bg (AR hr (Y7 T) T.d_18.1 (AA (pv 7) (AA (pv 2) (AA (pv 3) AC))))))))) (AF (AN C9)) AT)
  (AB (AU 10 Cw (Bc (AA (Bm (Za K) rfl T.z_list d9 (AA (AJ (Bi K) (pv 7) AD (λ_ _=>rfl)) AC)) (AA (Bm (Za K) rfl T.z_list d9 (AA (AJ (Bi K) (pv 7) AD (λ_ _=>rfl)) AC)) AC))))
  (AB (BF (Pk K (AJ (Bi K) (pv 7) AD (λ_ _=>rfl)) (AS AC)))
  (AF (AN (CU (Nm (K:=K) rfl hr.units) (AR hr (VW T) T.d_58.1 (AA (pv 5) AC)) (pv 10) (AQ _)))))))))))))))),?_⟩
 have tb0:Ck LP (UE "_law_core") t.p_29 H:=Ck.start (hT _ (aV.mpr rfl));refine An λN hN=>?_;walk_at "";refine⟨a,ns,2,rfl,hS,h63,_,rfl,λlo=>hN _ _ ?_⟩;clear hN N;refine An λN hN=>?_;walk_at "";refine⟨a,ns,lo,rfl,hS,h63,λp0 r0 H1 g0 tab0 m0 e1 hp0 ok0 mm0 sm0=>?_⟩;refine⟨p0,_,rfl,Af.of hp0,rfl,_,_,rfl,_,_,rfl,rfl,hN _ _ ?_⟩;clear hN N hp0;have tb1:Ck LP (UE "_law_core") t.p_29 H1:=tb0.same e1;have hS1:=e1.seq hS;clear tb0;refine An λN hN=>?_;walk_at "";refine hN _ _ ?_;clear hN N;refine CC (λσ HX=>∃(r:qR) (g:Int) (dl:qW) (m:Nat) (lf:Int) (tf:qW) (mf:Nat) (due:V),σ=[some (.ref a),some (.int lo),some (.ref r),some (.int ((m:Nat):Int)),some due,none,none,none,none,none,none]/\Af K HX a (ns.map V.int)/\Av HX r g lo dl m/\(m:Int)<=Dm g/\BE g lo dl m lf tf mf/\g^(mf-1)<=9/\(due=.non\/(due=.bl true/\∃rk,FE g.toNat (tf.length/g.toNat) tf rk)\/(due=.bl false/\GZ g tf mf))) (λN hN=>?_) ?_
 ·walk_at ""
  have QL:∀{g:Int} {dl:qW} {m:Nat} {lf:Int} {tf:qW} {mf:Nat},2<=g->g<=9->(dl.length:Int)=g^m->g^(m-1)<=9->BE g lo dl m lf tf mf->g^(mf-1)<=9:=λ{g dl m lf tf mf} g2 g9 len sm fw=>by
   have l:=fw.le g2 len len (λ_ _=>rfl)
   by_cases z:mf<=m
   ·exact bi (Bn g2 (show mf-1<=m-1 by lia)) sm
   ·have:=fw.two;obtain rfl:mf=2:=by lia
    show g^1<=9;rw[bA,bO,cI];exact g9
  refine⟨a,ns,0,rfl,hS1,h63,_,rfl,by decide,?_⟩
  by_cases z:ns.getD 0 0%2=1
  ·rw[qF z];refine⟨a,ns,0,rfl,hS1,h63,_,rfl,by decide,by decide,a,ns,1,rfl,hS1,h63,_,_,lo,rfl,tb1,λp1 r1 H2 g dl m d tf mf top e2 tb2 hp1 ok1 core=>?_⟩;refine⟨p1,_,rfl,Af.of hp1,rfl,_,_,rfl,_,_,rfl,rfl,?_⟩;have hS2:=De.seq e2 tb1 hS1;refine An λN' hN'=>?_;walk_at "";refine hN' _ _ ?_;clear hN' N';have cm:=Lb core.g2 core.g9 core.m4 core.m3;walk_at "";refine⟨a,ns,3,rfl,hS2,h63,_,rfl,by decide,?_⟩
   by_cases y:ns.getD 3 0%4=1
   ·rw[qF y];refine⟨a,ns,3,rfl,hS2,h63,_,1,rfl,by decide,by decide,λps H3 e3 _ hps=>?_⟩;have xl:=Ev (ns.getD 3 0) 1;have xb:=N9 (ns.getD 3 0) 1;rw[show ((1:Int).toNat)=1 from rfl]at hps;generalize Ga (ns.getD 3 0) 1=xs at xl xb hps;have x0:=xb (xs.getD 0 0) (by rw[aK,aJ (by rw[xl];decide)];exact bS _);refine (Dh (Af.of hps) (BV (z:=0) (by decide) (by rw[xl];decide)) ⟨r1,g,lo,dl,m,_,rfl,ok1.same e3,x0.1,λr5 at' v H5 e5 hat v0 vg vn ok5=>?_⟩);obtain⟨lf',tf',mf',fw',wn⟩:=EQ.spoil core lo hat ⟨v0,vg⟩ vn;exact hN _ _ ⟨r5,g,_,m,lf',tf',mf',.bl false,rfl,(e3.trans e5).seq hS2,ok5,cm,fw',wn.1,.inr (.inr ⟨rfl,wn⟩)⟩
   ·rw[qE y];exact hN _ _ ⟨r1,g,dl,m,_,tf,mf,.bl true,rfl,hS2,ok1,cm,core.fr lo lo dl m core.len (λ_ _=>rfl),core.sm,.inr (.inl ⟨rfl,core.rise.imp λ_ z=>z.1⟩)⟩
  ·rw[qE z];refine LY ok0.g2 lo (dl:=tab0) (m:=m0) λlf tf mf fw=>?_;exact hN _ _ ⟨r0,g0,tab0,m0,lf,tf,mf,.non,rfl,hS1,ok0,mm0,fw,QL ok0.g2 ok0.g9 ok0.len sm0 fw,.inl rfl⟩
 rintro _ hGo σ H2 ⟨r,g,dl,m,lf,tf,mf,due,rfl,hS2,ok,mm,fw,sm,hdue⟩;refine hGo _ _ ?_;have g2:=ok.g2;have g9:=ok.g9;have mf2:=fw.two;have mf8:mf<=8:=by have:=fw.le g2 ok.len ok.len (λ_ _=>rfl);have:=ok.m8;lia
 obtain⟨al,tl⟩:=BE.alike g2 ok.len fw;have hd9:=BC g2 tl (show 1<=mf by lia);have hl:=C7 g2 tl (show 1<=mf by lia);have gp:=RW.Ah g2 (mf-1);have h0:0<tf.length/g.toNat:=by lia
 have tfb:=GY g2 ok.tb fw;clear hS1 hS tb1 ok0 mm0 sm0 e1 hT;refine An λN hN=>?_;walk_at "";refine⟨a,ns,3,rfl,hS2,h63,_,rfl,by decide,by decide,r,g,lo,dl,m,_,rfl,ok,mm,λr2 lo2 tab2 M2 H3 e3 ok2 al2=>hN _ _ ?_⟩;clear hN N hS2;have fw2:=MZ g2 ok2.len ok.len al2 fw;refine CC (λσ HX=>∃b:Bool,σ=[some (.ref a),some (.int lo),some (.ref r),some (.int ((m:Nat):Int)),some due,some (.ref r2),some (.bl b),none,none,none,none]/\AG H3 HX/\(b=true->∃rk,FE g.toNat (tf.length/g.toNat) tf rk)/\(b=false->GZ g tf mf)) (λN hN=>?_) ?_
 ·walk_at "";exact⟨r2,g,lo2,tab2,M2,lf,tf,mf,rfl,ok2,fw2,sm,λwn H4 e4=>hN _ _ ⟨false,rfl,e4,(by intro z;cases z),λ_=>wn⟩,λrk hr H4 e4=>hN _ _ ⟨true,rfl,e4,λ_=>⟨rk,hr⟩,(by intro z;cases z)⟩⟩
 rintro _ hGo σ H4 ⟨b,rfl,e4,bt,bf⟩;refine hGo _ _ ?_;refine An λN hN=>?_;walk_at "";refine⟨_,.of (.bl b),_,QP,?_⟩;rw[qE (by decide)]
 have go:∀{R S:Prop},R->if ¬due=V.non then Lv (V.bl b) due=true/\(if ¬V.bl b=due then S else R) else R:=λ{R S} r'=>by
  rcases hdue with z|⟨z,rk,hr⟩|⟨z,wn⟩
  ·rw[qE (λy=>y z)];exact r'
  ·have:b=true:=by
    cases b with
    |true=>rfl
    |false=>exact qG hr ((bf rfl).2 rk)
   subst this z;rw[qF (λy=>nomatch y)];exact⟨rfl,by rw[qE (λy=>y rfl)];exact r'⟩
  ·have:b=false:=by
    cases b with
    |false=>rfl
    |true =>
     obtain⟨rk,hr⟩:=bt rfl;exact qG hr (wn.2 rk)
   subst this z;rw[qF (λy=>nomatch y)];exact⟨rfl,by rw[qE (λy=>y rfl)];exact r'⟩
 refine go (hN _ _ ?_);clear hN N go hdue;have ok4:=ok.same (e3.trans e4);have ok24:=ok2.same e4;cases b with
 |true =>
  obtain⟨rk0,hr0⟩:=bt rfl;refine An λN hN=>?_;walk_at "";refine⟨r2,g,lo2,tab2,M2,lf,tf,mf,rfl,ok24,fw2,sm,λ_ H5 e5=>hN _ _ ?_,λp a' b' H5 M f t' _ _ _ _ _ _ _ rk mn per=>?_⟩
  ·clear hN N;refine An λN hN=>?_;walk_at "";refine⟨r,g,lo,dl,m,lf,tf,mf,rfl,ok4.same e5,fw,λp3 DT H6 e6 hp3 hT3=>?_⟩;refine⟨p3,_,rfl,Af.of hp3,rfl,_,_,rfl,_,_,rfl,rfl,?_⟩;clear hN;obtain⟨tbl,r1,_⟩:=id ((ok4.same e5).same e6).v;have szf:g^mf<=256:=by have:=d8 sm g9 (show (0:Int)<=g by lia) (by decide);rw[show mf=mf-1+1 by lia,bA];lia
   walk_at "";refine⟨r2,g,lo2,tab2,M2,lf,tf,mf,rfl,(ok24.same e5).same e6,fw2,sm,λwn=>qG hr0 (wn.2 rk0),λpf D H7 Mk f e7 _ hD0 rv rk all=>?_⟩;exact (B6 (Aa.of (e7 _ _ r1)) rfl ⟨pf,D,DT,g,tf,mf,Mk,f,rfl,g2,g9,mf2,mf8,tl,szf,sm,tfb,e7 _ _ hT3,rv,rk,all,λH8 e8=>q _⟩)
  ·exfalso;have al:=rk.all hr0;obtain⟨wd,h1,h2⟩:=(ET _).mp (OK h0 hl rk mn);obtain⟨k1,k2,k3,k4,k5⟩:=(FY hl).mp h1;exact k5 (al _ (B9 h0 ⟨wd.1,wd.2,k1,k2,k3,k4,rfl,rfl⟩).1)
 |false =>
  have wn:=bf rfl;refine An λN hN=>?_;walk_at "";refine⟨r2,g,lo2,tab2,M2,lf,tf,mf,rfl,ok24,fw2,sm,λ⟨rk,hr⟩=>qG hr (wn.2 rk),λp a' b' H5 M f t' e5 ha0 hb0 hab hp ha hb rk mn per=>hN _ _ ?_⟩;clear hN N;have e15:=((e3.trans e4).trans e5);obtain⟨c,hc⟩:∃c,c=CB g g.toNat (mf-1) Prod.fst (KE g.toNat (tf.length/g.toNat) (Bs g.toNat M (Aj tf)) t'):=⟨_,rfl⟩;obtain⟨c',hc'⟩:∃c',c'=CB g g.toNat (mf-1) Prod.snd (KE g.toNat (tf.length/g.toNat) (Bs g.toNat M (Aj tf)) t'):=⟨_,rfl⟩;obtain⟨n1,n2,len,cb,cb',ne,led⟩:=Pl g2 ok.len fw sm mf8 rk mn per hc hc';rw[<-hc]at ha;rw[<-hc']at hb;refine An λN hN=>?_;walk_at "";refine hN _ _ ?_;clear hN N;refine An λN hN=>?_;walk_at "";refine⟨r2,g,lo2,tab2,M2,lf,tf,mf,rfl,ok24.same e5,fw2,sm,λ_ H6 e6=>?_,λpf D H7 Mk f2 e7 _ hD0 rv rk2 all=>?_⟩
  ·try dsimp only
   rw[qE (λz=>z rfl)];refine⟨p,a',b',r,g,lo,dl,m,c,c',rfl,e6 _ _ hp,e6 _ _ ha,e6 _ _ hb,(ok4.same e5).same e6,n1,n2,len,cb,cb',ne,led,λH7 e7=>⟨true,rfl,?_⟩⟩;rw[qE (by decide)];refine hN _ _ ?_;clear hN N;have e57:=e6.trans e7;have hp7:=e57 _ _ hp;have ha7:=e57 _ _ ha;have hb7:=e57 _ _ hb;have ok27:=(ok24.same e5).same e57;refine An λN hN=>?_;walk_at "";refine (B6 (Aa.of hp7) rfl ⟨a',rfl,_,.inl (Af.of ha7),λl1 hl1=>?_⟩);have f1:=AG.new hl1 (.lst (c.map V.int));refine (B6 (Aa.of (f1 _ _ hp7)) rfl ⟨b',rfl,_,.inl (Af.of (f1 _ _ hb7)),λl2 hl2=>⟨by decide,λph hph=>hN _ _ ?_⟩⟩);clear hN N;have f2:=AG.new hl2 (.lst (c'.map V.int));have f3:=AG.new hph (.tup [V.ref l1,V.ref l2]);have k1:=f3 _ _ (f2 _ _ (show AV H7 l1 (.lst (c.map V.int)) l1=_ from AE));have k2:=f3 _ _ (show AV (AV H7 l1 (.lst (c.map V.int))) l2 (.lst (c'.map V.int)) l2=_ from AE);have kh:AV (AV (AV H7 l1 (.lst (c.map V.int))) l2 (.lst (c'.map V.int))) ph (.tup [V.ref l1,V.ref l2]) ph=_:=AE;have e78:=(f1.trans f2).trans f3;generalize AV (AV (AV H7 l1 (.lst (c.map V.int))) l2 (.lst (c'.map V.int))) ph (.tup [V.ref l1,V.ref l2])=H8 at k1 k2 kh e78⊢;have n1a:l1≠a':=λz=>by rw[z,ha7]at hl1;cases hl1
   have n2a:l2≠a':=λz=>by have:=f1.free hl2;rw[z,ha7]at this;cases this
   have hp8:=e78 _ _ hp7;have ha8:=e78 _ _ ha7;clear f1 f2 f3 hl1 hl2 hph hp7 ha7 hb7;refine An λN hN=>?_;walk_at "";refine (B6 (Aa.of hp8) rfl ⟨.inl ⟨_,Af.of ha8⟩,a',rfl,_,ha8,by rw[aH];exact Ac (by lia),hN _ _ ?_⟩);clear hN N;have e49:=((e5.trans e57).trans e78).into ha0 (o:=.lst (c.map V.int++[V.int 0]));have k1':AV H8 a' (.lst (c.map V.int++[V.int 0])) l1=some (.lst (c.map V.int)):=by rw[AL n1a];exact k1
   have k2':AV H8 a' (.lst (c.map V.int++[V.int 0])) l2=some (.lst (c'.map V.int)):=by rw[AL n2a];exact k2
   have kh':AV H8 a' (.lst (c.map V.int++[V.int 0])) ph=some (.tup [V.ref l1,V.ref l2]):=by rw[AL (Cc kh ha8 λz=>by cases z)];exact kh
   generalize AV H8 a' (.lst (c.map V.int++[V.int 0]))=H9 at e49 k1' k2' kh'⊢;walk_at "";refine⟨r2,g,lo2,tab2,M2,lf,tf,mf,rfl,ok24.same e49,fw2,sm,λ⟨rk,hr⟩=>qG hr (wn.2 rk),λp2 a2 b2 Hz M' f' t2 ez _ _ _ hp2 ha2 hb2 rk2 mn2 per2=>?_⟩;have eL:Bs g.toNat M' (Aj tf)=Bs g.toNat M (Aj tf):=SV rk2 rk _;rw[eL]at ha2 hb2 per2;rw[per2.uniq per]at ha2 hb2;rw[<-hc]at ha2;rw[<-hc']at hb2;refine⟨_,_,OP hp2 ha2 hb2,OP (ez _ _ kh') (ez _ _ k1') (ez _ _ k2'),IW _ _,IW _ _,Sf _ _,?_⟩;rw[Sh];exact q _
  ·exfalso;exact wn.2 f2 λx y s=>(rk2.low y (all y (B9 h0 s).2) x s).2
end
theorem Xa{l:PySem.W.OpenLaw}{w:qU}{K:qV}{h:Heap}{mg:Str->Option qQ}{fa f_46 f_47 f_21 f_4 f_40 f_50 f_20 f_26 f_5 f_9 f_59 f_54 f_39 f_56 f_51 f_45 f_1 f_38 f_53 f_49 f_55 f_10 f_22 f_48 f_37 f_28 f_44 f_52 f_24 f_25 f_57 f_23 f_41 f_27 f_58 f_19 f_2 f_7 f_13 f_36 f_8 f_12 f_33 f_17 f_0 f_30 f_34 f_29 f_43 f_32 f_35 f_6 f_11 f_16 f_14 f_42 f_3 f_15 f_31 f_18 f_60 k_EVEN cc_29 p_29:qR}{g_LONGEST_TABLE g_MOST_NODES:Tok}(X:K.In h)(G:h.Ns mainGlobals mg)(hfa:mg "law"=some (.ref fa))
  (n_EVEN:PySem.W.nsIn K mainGlobals "EVEN"=some (some (.ref k_EVEN)))
  (q_EVEN:Nl K k_EVEN [0,0]=true)
  (h_46:AX K "is_whole" Wd f_46)
  (h_47:AX K "is_sign" We f_47)
  (h_21:AX K "check_word" Wf f_21)
  (h_4:AX K "check_length" Zc f_4)
  (h_40:AX K "number_of" Wg f_40)
  (h_50:AX K "word_of" Wh f_50)
  (h_20:AX K "check_head" Wi f_20)
  (h_26:AX K "places_for" Wj f_26)
  (h_5:AX K "table_length" Zd f_5)
  (h_9:AX K "check_table" Ze f_9)
  (h_59:AX K "rule" Wk f_59)
  (h_54:AX K "places" Wm f_54)
  (h_39:AX K "next_sign" Wn f_39)
  (h_56:AX K "heads" Wo f_56)
  (h_51:AX K "counts" Wp f_51)
  (h_45:AX K "counting" Wq f_45)
  (h_1:AX K "sign_or_nought" Zf f_1)
  (h_38:AX K "by_window" Wr f_38)
  (h_53:AX K "narrow" Ws f_53)
  (h_49:AX K "widened" Wt f_49)
  (h_55:AX K "frame" Wu f_55)
  (h_10:AX K "turned_back" Wv f_10)
  (h_22:AX K "most_steps" Ww f_22)
  (h_48:AX K "pair_of" Wx f_48)
  (h_37:AX K "all_pairs" Wy f_37)
  (h_28:AX K "word_pairs" Wz f_28)
  (h_44:AX K "begin_of" W0 f_44)
  (h_52:AX K "end_of" W1 f_52)
  (h_24:AX K "pair_nexts" W2 f_24)
  (h_25:AX K "pair_ranks" W3 f_25)
  (h_57:AX K "ranks" W4 f_57)
  (h_23:AX K "one_to_one" W5 f_23)
  (h_41:AX K "way_round" W6 f_41)
  (h_27:AX K "ring_along" W7 f_27)
  (h_58:AX K "twins" W8 f_58)
  (h_19:AX K "_law_whole" W9 f_19)
  (h_2:AX K "_law_cell_at" Zg f_2)
  (h_7:AX K "_law_stream" Zh f_7)
  (h_13:AX K "_law_power" XA f_13)
  (h_36:AX K "_law_word" XB f_36)
  (h_8:AX K "_law_tracks" Zi f_8)
  (h_12:AX K "_law_marks" XC f_12)
  (h_33:AX K "_law_sums" XD f_33)
  (h_17:AX K "_law_three" XE f_17)
  (h_0:AX K "_law_steps_down" Zj f_0)
  (h_30:AX K "_law_flip" XF f_30)
  (h_34:AX K "_law_told" XG f_34)
  (h_29:N4 K "_law_core" XH f_29 cc_29 p_29)
  (h_43:AX K "_law_low" XI f_43)
  (h_32:AX K "_law_seen" XJ f_32)
  (h_35:AX K "_law_wide" XM f_35)
  (h_6:AX K "_law_counts" Zk f_6)
  (h_11:AX K "_law_frame" XN f_11)
  (h_16:AX K "_law_steps" XO f_16)
  (h_14:AX K "_law_ranks" XQ f_14)
  (h_42:AX K "_law_any" XR f_42)
  (h_3:AX K "_law_spoiled" Zl f_3)
  (h_15:AX K "_law_rises" XS f_15)
  (h_31:AX K "_law_once" XT f_31)
  (h_18:AX K "_law_twins" XU f_18)
  (h_60:AX K "law" UW f_60)
  (z_len:PySem.W.nsIn K mainGlobals "len"=some none)
  (z_list:PySem.W.nsIn K mainGlobals "list"=some none)
  (z_reversed:PySem.W.nsIn K mainGlobals "reversed"=some none)
  (z_isinstance:PySem.W.nsIn K mainGlobals "isinstance"=some none)
  (z_range:PySem.W.nsIn K mainGlobals "range"=some none)
  (z_int:PySem.W.nsIn K mainGlobals "int"=some none)
  (z_bool:PySem.W.nsIn K mainGlobals "bool"=some none)
  (z_ValueError:PySem.W.nsIn K mainGlobals "ValueError"=some none)
  (z_tuple:PySem.W.nsIn K mainGlobals "tuple"=some none)
  (z_enumerate:PySem.W.nsIn K mainGlobals "enumerate"=some none)
  (z_min:PySem.W.nsIn K mainGlobals "min"=some none)
  (z_max:PySem.W.nsIn K mainGlobals "max"=some none)
  (z_sorted:PySem.W.nsIn K mainGlobals "sorted"=some none)
  (z_all:PySem.W.nsIn K mainGlobals "all"=some none)
  (z_zip:PySem.W.nsIn K mainGlobals "zip"=some none)
  (w_LONGEST_TABLE:PySem.W.nsIn K mainGlobals "LONGEST_TABLE"=some (some (.int 256 g_LONGEST_TABLE)))
  (w_MOST_NODES:PySem.W.nsIn K mainGlobals "MOST_NODES"=some (some (.int 9 g_MOST_NODES)))
  : (∀P∈[p_29],∃c,PySem.W.codeHdIn K c P=true)/\∃fd:FuncData,(∀(s:qS) (v:qQ),BindsTo s fd ⟨[v],[]⟩ [("_law_script",v)])/\∀base:Heap,K.In base->base.Ns mainGlobals mg->Gn mg base->GC l.prog w K mg base (Lo l.prog w) 12 fa fd ["_law_script"] (J3 K [p_29]):=by
 have mo:∀{n:Str}{v:Value},PySem.W.nsIn K mainGlobals n=some (some v)->mg n=some v:=λe=>PySem.W.mg_of X G e;have T:CP K mg ⟨f_46,f_47,f_21,f_4,f_40,f_50,f_20,f_26,f_5,f_9,f_59,f_54,f_39,f_56,f_51,f_45,f_1,f_38,f_53,f_49,f_55,f_10,f_22,f_48,f_37,f_28,f_44,f_52,f_24,f_25,f_57,f_23,f_41,f_27,f_58,f_19,f_2,f_7,f_13,f_36,f_8,f_12,f_33,f_17,f_0,f_30,f_34,f_29,f_43,f_32,f_35,f_6,f_11,f_16,f_14,f_42,f_3,f_15,f_31,f_18,f_60,k_EVEN,cc_29,p_29⟩:=⟨mo n_EVEN,q_EVEN,dX X G h_46,dX X G h_47,dX X G h_21,dX X G h_4,dX X G h_40,dX X G h_50,dX X G h_20,dX X G h_26,dX X G h_5,dX X G h_9,dX X G h_59,dX X G h_54,dX X G h_39,dX X G h_56,dX X G h_51,dX X G h_45,dX X G h_1,dX X G h_38,dX X G h_53,dX X G h_49,dX X G h_55,dX X G h_10,dX X G h_22,dX X G h_48,dX X G h_37,dX X G h_28,dX X G h_44,dX X G h_52,dX X G h_24,dX X G h_25,dX X G h_57,dX X G h_23,dX X G h_41,dX X G h_27,dX X G h_58,dX X G h_19,dX X G h_2,dX X G h_7,dX X G h_13,dX X G h_36,dX X G h_8,dX X G h_12,dX X G h_33,dX X G h_17,dX X G h_0,dX X G h_30,dX X G h_34,mo h_29.2,h_29.1,(let ⟨_,z⟩:=h_29.1;z.hd),dX X G h_43,dX X G h_32,dX X G h_35,dX X G h_6,dX X G h_11,dX X G h_16,dX X G h_14,dX X G h_42,dX X G h_3,dX X G h_15,dX X G h_31,dX X G h_18,dX X G h_60,PySem.W.mg_none_of X G z_len,PySem.W.mg_none_of X G z_list,PySem.W.mg_none_of X G z_reversed,PySem.W.mg_none_of X G z_isinstance,PySem.W.mg_none_of X G z_range,PySem.W.mg_none_of X G z_int,PySem.W.mg_none_of X G z_bool,PySem.W.mg_none_of X G z_ValueError,PySem.W.mg_none_of X G z_tuple,PySem.W.mg_none_of X G z_enumerate,PySem.W.mg_none_of X G z_min,PySem.W.mg_none_of X G z_max,PySem.W.mg_none_of X G z_sorted,PySem.W.mg_none_of X G z_all,PySem.W.mg_none_of X G z_zip,⟨_,mo w_LONGEST_TABLE⟩,⟨_,mo w_MOST_NODES⟩⟩;have e:=hfa.symm.trans T.d_60.1;cases e;obtain⟨fd,F⟩:=T.d_60.2;obtain⟨oc,od,kV,doc,pm,an,fi,ct,osl,ef,lk,hcd⟩:=F.ex;refine⟨(List.forall_mem_cons.mpr ⟨⟨_,T.hd_29⟩,(λ_ h=>qG h am)⟩),fd,λs v=>by rw[ef];exact .of_eq rfl,λbase _ _ hB=>?_⟩;exact Y8 T F hB
end K52
noncomputable def PySem.W.Fast.tw4800812211547314890:=PySem.Challenge.pw_rowrules_k52_whole_one_to_one_or_twins
theorem PySem.W.Fast.te4800812211547314890:PySem.Challenge.pw_rowrules_k52_whole_one_to_one_or_twins=PySem.W.Fast.tw4800812211547314890:=rfl
namespace PySem.W.Fast
abbrev A:=Nat
def tw11648324366252514073:=A
def tw4407597046744069453:=A
def tw11354375049891120255:=A
def tw16260440626385423595:=A
def tw421221022261943304:=A
def tw1157798999875347142:=A
def tw8073005168910269623:=A
def tw7508801412141901690:=A
def tw15540399651769693182:=A
def tw16934073178909515964:=A
def tw969132424402939269:=A
def tw8593115230739020947:=A
def tw8020613978908711424:=A
def tw2403226473315511133:=A
def tw3254627441553647053:=A
def tw2089710555820736483:=A
def tw6643654272188006673:=A
def tw6289966001971026062:=A
def tw13563306386551727690:=A
def tw7718085182301514151:=A
def tw16479095469590601264:=A
def tw18015294705189405117:=A
def tw7191934676181301218:=A
def tw9366791783718289025:=A
def tw10047521781480325727:=A
def tw17136956100949058132:=A
def tw2233968119287945699:=A
def tw14830178861307013952:=A
def tw1682334031115696893:=A
def tw11995999367498201472:=A
def tw2117696570525606715:=A
def tw18035451609561816590:=A
def tw5699444282594464185:=A
def tw9482174094923814887:=A
def tw6733859086444067254:=A
def tw4519757897540897439:=A
def tw16982107117247653232:=A
def tw14834493109937926617:=A
def tw4690395261180398473:=A
def tw3973613024730551661:=A
def tw5006460656367125941:=A
def tw128197948283228445:=A
def tw14254294986049409175:=A
def tw5815722194444807143:=A
def tw7624584913045083469:=A
def tw8253061204221687438:=A
def tw17377924507290505996:=A
def tw12955272450546570453:=A
def tw12745915203258997503:=A
def tw3448841069941915462:=A
def tw3497879100499603011:=A
def tw14940912541797794134:=A
def tw3834541056420497716:=A
def tw16437167266668166803:=A
def tw2718508234603679792:=A
def tw500794956051722906:=A
def tw12398276330893152204:=A
def tw12134672101496394425:=A
def tw17517127054886108743:=A
def tw2112149763719436134:=A
def tw3288796801340353794:=A
def tw4032317185142414524:=A
def tw13900693031020868159:=A
def tw5240138475887477926:=A
def tw6391605860290081097:=A
def tw4548949418032319643:=A
def tw10852284832955746671:=A
def tw1494892210809730419:=A
def tw15944016986289000367:=A
def tw5033892522787979148:=A
def tw7638896544205047181:=A
def tw13783111188763204089:=A
def tw10761825521479201560:=A
def tw4422501974080174842:=A
def tw11248221960935679321:=A
def tw16112533705368368067:=A
def tw17583185677586459953:=A
def tw2284985951696707500:=A
def tw16007824004035198592:=A
def tw10980156800876537022:=A
def tw579032686849717051:=A
def tw8534527900429152467:=A
def tw10992467791554261360:=A
def tw18207612060762393290:=A
def tw9864306452094342860:=A
def tw12360930733224846142:=A
def tw16595969212186263800:=A
def tw13529378149751861044:=A
def tw18005681974516531939:=A
def tw1746470500208891307:=A
def tw18411506168230027194:=A
def tw5050761091204365164:=A
def tw485733529302004672:=A
def tw14132363291044808819:=A
def tw15248453441344332246:=A
def tw1769277719407792281:=A
def tw3669394938624423666:=A
def tw12375297776300318024:=A
def tw5985085991533720742:=A
def tw18116495957371272886:=A
def tw3425618704381750052:=A
def tw9999254663526275961:=A
def tw3788614951669010184:=A
def tw8808981291638894704:=A
def tw17654336988979133569:=A
def tw17936303758270126374:=A
def tw10942546289937492717:=A
def tw3752937059092848753:=A
def tw2234387792071323365:=A
def tw15727991214967444792:=A
def tw451846557421170596:=A
def tw15061391823936999855:=A
def tw7680736235963299486:=A
def tw7554945992891246801:=A
def tw1036512841216292162:=A
def tw10857136174009282399:=A
def tw1132220216104231234:=A
def tw11346079855934139632:=A
def tw4683542478359963246:=A
def tw10853529487748206008:=A
def tw8239697258871378701:=A
def tw14479025886985075915:=A
def tw17176286709847520385:=A
def tw12518016961288085121:=A
def tw2037984339181207902:=A
def tw9879505571586869083:=A
def tw2973426757754821056:=A
def tw13807996233496435503:=A
def tw5634572865351808661:=A
def tw3359994977229531071:=A
def tw1557508751216951548:=A
def tw13329867585325230563:=A
def tw7724892638618110778:=A
def tw14332408688346682316:=A
def tw16416680079435495768:=A
def tw17442227453450850720:=A
def tw18097713864637436698:=A
def tw3449909232789735192:=A
def tw9123016174816735531:=A
def tw4092423280561762082:=A
def tw12238923366836176772:=A
def tw17808917398462032664:=A
def tw11858838141048728551:=A
def tw3737687318358330195:=A
def tw450239617798109763:=A
def tw16105572448362197809:=A
def tw14494306272844975528:=A
def tw11625113115381990885:=A
def tw7322484321950112742:=A
def tw16931516098156167780:=A
def tw5012098334718099454:=A
def tw6032663961704153961:=A
def tw17594224557539369270:=A
def tw3789274440603889853:=A
def tw15336006910644870736:=A
def tw18016583239366184993:=A
def tw3509235171675189885:=A
def tw13214161893991978072:=A
def tw15410939067811892248:=A
def tw5488378841653012096:=A
def tw106600891278391502:=A
def tw16195457064746579091:=A
def tw16243388831343727137:=A
def tw1499308444464852125:=A
def tw1622835783103323367:=A
def tw6412309106558699424:=A
def tw10392730626526970576:=A
def tw15124119422444284878:=A
def tw17282034662902085542:=A
def tw12209768058435457957:=A
def tw4523367967197415401:=A
def tw4078728360226494077:=A
def tw5066980717461750051:=A
def tw2306095367411622538:=A
def tw16175202625665144577:=A
def tw14534983917155695802:=A
def tw14620032749732871781:=A
def tw1061801632485123390:=A
def tw735114918881339951:=A
def tw642542082379272660:=A
def tw9877856881811292274:=A
def tw11843799525220007868:=A
def tw14809176704373634465:=A
def tw7885237163658797672:=A
def tw10383255169861365761:=A
def tw8051936091671656182:=A
def tw10493941619781252280:=A
def tw7456868818708552365:=A
def tw10308784279717058693:=A
def tw6363348813355379520:=A
def tw3412785123462362885:=A
def tw13288370759828592341:=A
def tw17898466122555067888:=A
def tw5088434439045079967:=A
def tw12390651051797821001:=A
def tw17272746536031536044:=A
def tw9448478995896781580:=A
def tw5383649737287814544:=A
def tw10675509483668366180:=A
def tw2866828032054749496:=A
def tw7753011826155646888:=A
def tw16644257344422228743:=A
def tw5042431117909461067:=A
def tw15163536320269020103:=A
def tw12845552037556813265:=A
def tw8089533542775663349:=A
end PySem.W.Fast
open PySem PySem.W PyProof.Rows
set_option maxRecDepth 100000 in
set_option maxHeartbeats 0 in
theorem PySem.Challenge.cw_rowrules_k52_whole_one_to_one_or_twins_holds : PySem.Challenge.rw_rowrules_k52_whole_one_to_one_or_twins.Holds := by
 w_on;o_law;k_head;(case hw=>w_witness2)
 k_fill
 refine L2.PV (l:=PySem.Challenge.rw_rowrules_k52_whole_one_to_one_or_twins) (k:=12) (n:=0) (x:="_law_script") (ts:=[_]) rfl rfl ⟨rfl,by decide,by decide⟩ (λw h Y=>⟨PySem.W.km_in_of Y,PySem.W.km_tabs_of Y⟩) ?hTab ?F
 case hTab=>exact λw=>(List.forall_mem_cons.mpr ⟨by kernel_rfl,λ_ h=>absurd h am⟩)
 case F =>
  intro w mg fa h KX G hmg;refine' K52.Xa KX G hmg ?_ ?_ (L2.AY ?_ ?_ ?_ ?_) (L2.AY ?_ ?_ ?_ ?_) (L2.AY ?_ ?_ ?_ ?_) (L2.AY ?_ ?_ ?_ ?_) (L2.AY ?_ ?_ ?_ ?_) (L2.AY ?_ ?_ ?_ ?_) (L2.AY ?_ ?_ ?_ ?_) (L2.AY ?_ ?_ ?_ ?_) (L2.AY ?_ ?_ ?_ ?_) (L2.AY ?_ ?_ ?_ ?_) (L2.AY ?_ ?_ ?_ ?_) (L2.AY ?_ ?_ ?_ ?_) (L2.AY ?_ ?_ ?_ ?_) (L2.AY ?_ ?_ ?_ ?_) (L2.AY ?_ ?_ ?_ ?_) (L2.AY ?_ ?_ ?_ ?_) (L2.AY ?_ ?_ ?_ ?_) (L2.AY ?_ ?_ ?_ ?_) (L2.AY ?_ ?_ ?_ ?_) (L2.AY ?_ ?_ ?_ ?_) (L2.AY ?_ ?_ ?_ ?_) (L2.AY ?_ ?_ ?_ ?_) (L2.AY ?_ ?_ ?_ ?_) (L2.AY ?_ ?_ ?_ ?_) (L2.AY ?_ ?_ ?_ ?_) (L2.AY ?_ ?_ ?_ ?_) (L2.AY ?_ ?_ ?_ ?_) (L2.AY ?_ ?_ ?_ ?_) (L2.AY ?_ ?_ ?_ ?_) (L2.AY ?_ ?_ ?_ ?_) (L2.AY ?_ ?_ ?_ ?_) (L2.AY ?_ ?_ ?_ ?_) (L2.AY ?_ ?_ ?_ ?_) (L2.AY ?_ ?_ ?_ ?_) (L2.AY ?_ ?_ ?_ ?_) (L2.AY ?_ ?_ ?_ ?_) (L2.AY ?_ ?_ ?_ ?_) (L2.AY ?_ ?_ ?_ ?_) (L2.AY ?_ ?_ ?_ ?_) (L2.AY ?_ ?_ ?_ ?_) (L2.AY ?_ ?_ ?_ ?_) (L2.AY ?_ ?_ ?_ ?_) (L2.AY ?_ ?_ ?_ ?_) (L2.AY ?_ ?_ ?_ ?_) (L2.AY ?_ ?_ ?_ ?_) (L2.AY ?_ ?_ ?_ ?_) (L2.AY ?_ ?_ ?_ ?_) (L2.UC ?_ ?_ ?_ ?_ ?_) (L2.AY ?_ ?_ ?_ ?_) (L2.AY ?_ ?_ ?_ ?_) (L2.AY ?_ ?_ ?_ ?_) (L2.AY ?_ ?_ ?_ ?_) (L2.AY ?_ ?_ ?_ ?_) (L2.AY ?_ ?_ ?_ ?_) (L2.AY ?_ ?_ ?_ ?_) (L2.AY ?_ ?_ ?_ ?_) (L2.AY ?_ ?_ ?_ ?_) (L2.AY ?_ ?_ ?_ ?_) (L2.AY ?_ ?_ ?_ ?_) (L2.AY ?_ ?_ ?_ ?_) (L2.AY ?_ ?_ ?_ ?_) ?_ ?_ ?_ ?_ ?_ ?_ ?_ ?_ ?_ ?_ ?_ ?_ ?_ ?_ ?_ ?_ ?_
  any_goals k_is
  ·kernel_rfl
  ·kernel_rfl
