import PyProof.Rows.All
import Wide.All
import OpenK.AllK
import Wide.FinOn
import Lean
import PyProof.EqAt
import PyProof.EqKinds
import PyProof.TupleCall
import PySem.Challenge.RW_rowrules_k55_whole_there_and_back
set_option Elab.async false
set_option linter.all false
set_option maxRecDepth 100000
theorem byG{T:Prop}(h:∀G:Prop,(T->G)->G):T:=h T id
set_option hygiene false in
local macro_rules
|`(0#1)=>`((by lia))
|`(0#2)=>`((AM (B3 K) (pv 0) AD (λ_ _=>rfl)))
|`(0#3)=>`((by with_unfolding_all rfl))
|`(0#4)=>`((L2.AW ?_ ?_ ?_ ?_))
|`(0#5)=>`((g6.length/g.toNat))
|`(0#6)=>`((model X.prog X.w))
|`(0#7)=>`((model prog w))
|`(0#8)=>`((by decide))
|`(0#9)=>`((compEnvC scope cl C X.env))
|`(1#1)=>`((λ_ _=>rfl))
|`(1#2)=>`((cellsFrom (s.heap.objs.size+1) scope.names []))
|`(1#3)=>`((ns.map V.int))
|`(1#4)=>`((by simp))
|`(1#5)=>`((s.heap.objs.size+1))
local macro_rules|`(tactic|rcases $e:term with⟨$p,*⟩)=>`(tactic|(refine byG fun G h=>?_;obtain⟨$p,*⟩:=$e;refine h ?_;clear h G))
abbrev qC:=@PySem.wpAny_bind
abbrev qD:=@PySem.wpAny_pure
abbrev qE:=@if_neg
abbrev qF:=@if_pos
abbrev qG:=@absurd
abbrev qH:=@decide_eq_true
abbrev qI:=@decide_eq_false
abbrev qJ:=@PyProof.Rows.wpS_bind
abbrev qK:=@PyProof.Rows.wpS_pure
abbrev qL:=@PyProof.Rows.wpS_forRange
abbrev qM:=@PySem.wpAny_mono
abbrev qN:=@of_decide_eq_true
abbrev qO:=@PySem.wpAny_holding
abbrev qP:=@congrArg
abbrev qQ:=@PySem.Value
abbrev qR:=@PySem.Addr
abbrev qS:=@PySem.Shared
abbrev qT:=@PySem.Program
abbrev qU:=@PySem.World
abbrev qV:=PySem.W.Frag
abbrev qW:=List Int
abbrev qX:=Nat×Nat
abbrev bG:=@List.length_map
abbrev bH:=@List.getD_eq_getElem?_getD
abbrev bI:=@List.getElem?_eq_getElem
abbrev bJ:=@List.getElem?_eq_some_iff
abbrev bK:=@PySem.Heap.get?_push_of_some
abbrev bL:=@Nat.le_refl
abbrev bM:=@Int.toNat_natCast
abbrev bN:=@List.length_append
abbrev bO:=@List.getElem?_map
abbrev bP:=@PySem.Heap.lt_size
abbrev bQ:=@List.mem_append
abbrev bR:=@Nat.lt_of_lt_of_le
abbrev bS:=@List.map_append
abbrev bT:=@List.mem_of_getElem?
abbrev bU:=@List.map_congr_left
abbrev bV:=@List.mem_singleton
abbrev bW:=@List.mem_append_right
abbrev ba:=@PySem.Heap.get?_push_size
abbrev bf:=@Bool.false_ne_true
abbrev bg:=@List.mem_map
abbrev bh:=@List.mem_range
abbrev bi:=@List.mem_cons_of_mem
abbrev bj:=@List.length_drop
abbrev bn:=@List.length_range
abbrev bo:=@List.mem_cons_self
abbrev bp:=@Int.toNat_of_nonneg
abbrev bq:=@List.length_take
abbrev br:=@List.mem_cons
abbrev bt:=@List.getElem?_append_right
abbrev bu:=@Nat.lt_irrefl
abbrev bv:=@List.mem_of_mem_drop
abbrev bz:=@PyProof.Rows.callWith_type1
abbrev b7:=@Int.zero_add
abbrev b8:=@List.getElem?_append_left
abbrev b9:=@Nat.ne_of_lt
abbrev cA:=@List.append_nil
abbrev cB:=@Int.pow_succ
abbrev cC:=@List.size_toArray
abbrev cD:=@Int.natCast_emod
abbrev cE:=@List.mem_filter
abbrev cF:=@Int.pow_zero
abbrev cG:=@List.not_mem_nil
abbrev cH:=@List.range_succ
abbrev cI:=@Int.emod_eq_of_lt
abbrev cJ:=@Nat.mod_lt
abbrev cK:=@Nat.le_trans
abbrev cL:=@List.length_replicate
abbrev cM:=@Option.map_eq_some_iff
abbrev cN:=@List.append_assoc
abbrev cO:=@List.mem_of_mem_take
abbrev cP:=@List.length_singleton
abbrev cQ:=@List.mem_iff_getElem?
abbrev cR:=@PySem.boot_len
abbrev cS:=@Nat.zero_le
abbrev cT:=@List.take_length
abbrev cU:=@List.map_cons
abbrev cV:=@List.flatMap_cons
abbrev cW:=@List.length_cons
abbrev cX:=@PySem.mem_of_lookup
abbrev cZ:=@Array.toList_append
abbrev cc:=@Nat.div_lt_of_lt_mul
abbrev ce:=@List.filter_append
abbrev cg:=@Array.length_toList
abbrev cj:=@List.drop_eq_getElem_cons
abbrev cm:=@List.take_of_length_le
abbrev cn:=@List.nodup_cons
abbrev cp:=@List.take_add_one
abbrev cq:=@List.take_append_drop
abbrev cr:=@Int.add_zero
abbrev cu:=@Nat.eq_of_beq_eq_true
abbrev cx:=@Int.natCast_mul
abbrev cy:=@Int.natCast_add
abbrev c9:=@List.map_map
abbrev dA:=@Nat.le_of_lt
abbrev dB:=@PySem.W.kia_one
abbrev dC:=@List.length_filter_le
abbrev dD:=@Bool.and_eq_true
abbrev dE:=@Nat.lt_succ_of_lt
abbrev dF:=@List.nodup_append
abbrev dG:=@Int.le_of_lt
abbrev dH:=@Nat.mod_eq_of_lt
abbrev dI:=@PySem.Heap.get?_update_ne
abbrev dJ:=@Nat.sub_self
abbrev dL:=@PySem.F.slot_dict_setdefault
abbrev dM:=@PySem.Heap.size_push
abbrev dN:=@PyProof.Rows.boot_tuple
abbrev dO:=@List.getElem_mem
abbrev dP:=@Int.natCast_ediv
abbrev dQ:=@List.replicate_succ
abbrev dR:=@Int.one_mul
abbrev dS:=@Nat.mul_comm
abbrev dU:=@Int.mul_le_mul_of_nonneg_left
abbrev dW:=@List.filter_cons
abbrev dc:=@List.sum_cons
abbrev de:=@Nat.add_sub_cancel_left
abbrev dg:=@List.take_succ
abbrev dh:=@Int.mul_comm
abbrev di:=@Int.add_comm
abbrev dj:=@List.drop_zero
abbrev dm:=@List.nodup_nil
abbrev dn:=@Nat.mul_le_mul
abbrev dq:=@List.length_reverse
abbrev dz:=@Int.le_refl
abbrev d4:=@List.getElem?_range
abbrev d5:=@List.flatMap_append
abbrev d6:=@Int.add_mul_emod_self_left
abbrev d7:=@Nat.lt_succ_self
abbrev d8:=@Nat.lt_of_le_of_lt
abbrev d9:=@Int.emod_lt_of_pos
abbrev eB:=@List.getElem?_drop
abbrev eI:=@Nat.add_sub_cancel
abbrev eJ:=@List.drop_drop
abbrev eK:=@List.drop_take
abbrev eL:=@List.mem_append_left
abbrev eM:=@List.of_mem_zip
abbrev eO:=@Option.isSome_iff_exists
abbrev eP:=@List.length_set
abbrev eQ:=@Int.emod_nonneg
abbrev eS:=@Nat.min_eq_left
abbrev eU:=@Int.natCast_pow
abbrev eV:=@Nat.add_comm
abbrev eW:=@List.getElem?_replicate
abbrev eg:=@Nat.le_succ
abbrev ez:=@List.map_take
abbrev fA:=@List.lookup_cons
abbrev fB:=@PySem.W.cellsFrom_some
abbrev fC:=@Int.ediv_eq_zero_of_lt
abbrev fD:=@Nat.lt_of_le_of_ne
abbrev fE:=@Nat.add_right_comm
abbrev fF:=@PySem.F.type_dict_setdefault
abbrev fG:=@Nat.ne_of_gt
abbrev fH:=@Int.mul_one
abbrev fI:=@PySem.Heap.get?_update_self
abbrev fJ:=@List.getElem?_eq_none
abbrev fK:=@List.sum_append
abbrev fM:=@Int.mul_zero
abbrev fN:=@Int.zero_mul
abbrev fO:=@Nat.not_lt_zero
abbrev fP:=@Int.add_mul_emod_self_right
abbrev fQ:=@Nat.add_zero
abbrev fR:=@Nat.div_add_mod
abbrev fS:=@List.flatten_cons
abbrev fT:=@Nat.add_assoc
abbrev fU:=@Nat.mul_add_mod_self_right
abbrev fV:=@Nat.mul_le_mul_right
abbrev fW:=@Array.getElem?_eq_getElem
abbrev fX:=@List.findIdx?_eq_none_iff
abbrev fY:=@List.getElem_inj
abbrev fZ:=@List.all_eq_true
abbrev fe:=@List.flatMap_nil
abbrev fg:=@PySem.W.hideAll_get
abbrev fh:=@List.length_pos_iff
abbrev fi:=@Nat.sub_zero
abbrev fj:=@Nat.zero_add
abbrev fm:=@Nat.le_of_eq
abbrev fq:=@List.mem_filterMap
abbrev ft:=@Bool.eq_iff_iff
abbrev fu:=@List.getElem?_take
abbrev f6:=@Nat.mul_div_cancel
abbrev gB:=@List.length_eq_zero_iff
abbrev gC:=@PySem.F.plainAttrs_list
abbrev gD:=@PySem.Heap.get?_update_other
abbrev gE:=@PySem.W.kitx_list
abbrev gH:=@PySem.W.kitx_dict
abbrev gI:=@Option.isSome_map
abbrev gJ:=@Int.mul_le_mul
abbrev gK:=@List.getElem?_reverse
abbrev gN:=@Int.add_emod
abbrev gO:=@PyProof.Rows.boot_sum
abbrev gP:=@Nat.le_of_not_lt
abbrev gQ:=@List.cons_append
abbrev gR:=@List.flatMap_map
abbrev gT:=@List.mem_flatMap
abbrev gU:=@Nat.le_add_right
abbrev gW:=@PySem.W.looks_findIn
abbrev gc:=@Array.toList_reverse
abbrev gd:=@List.any_cons
abbrev gf:=@Int.add_assoc
abbrev gh:=@List.nil_append
abbrev gi:=@List.length_nil
abbrev gl:=@List.filter_map
namespace L2
open PySem PySem.Spec PyProof.Rows
abbrev Bq:=Sum Int Str
noncomputable def J8:Bq->qQ->Bool
 |.inl k,v=>Value.isInt k v
 |.inr x,v=>Value.isStrOf x v
noncomputable def Zp(w:qU):Bq->Int
 |.inl k=>hashInt k
 |.inr x=>hashStr w x
theorem Bd:∀{k:Bq} {v:qQ},J8 k v=true->(∃i t,k=Sum.inl i/\v=Value.int i t)\/(∃x t,k=Sum.inr x/\v=Value.str x t)
 |.inl i,v,h=>by obtain⟨t,e⟩:=Value.isInt_shape (k:=i) (v:=v) h;exact .inl ⟨i,t,rfl,e⟩
 |.inr x,v,h=>by obtain⟨t,e⟩:=Value.isStrOf_shape (x:=x) (v:=v) h;exact .inr ⟨x,t,rfl,e⟩
theorem P0(i:Int)(t:Tok):J8 (.inl i) (.int i t)=true:=by simp[J8,Value.isInt]
theorem P1(x:Str)(t:Tok):J8 (.inr x) (.str x t)=true:=by simp[J8,Value.isStrOf]
theorem Vj(a b:Int):decide ((Sum.inl a:Bq)=Sum.inl b)=(a==b):=by
 by_cases e:a=b
 ·subst e;simp
 ·have h:¬(Sum.inl a:Bq)=Sum.inl b:=λq=>e (Sum.inl.inj q)
  rw[qI h];exact (beq_eq_false_iff_ne.mpr e).symm
theorem Vk(a b:Str):decide ((Sum.inr a:Bq)=Sum.inr b)=decide (a=b):=by
 by_cases e:a=b
 ·subst e;simp
 ·have h:¬(Sum.inr a:Bq)=Sum.inr b:=λq=>e (Sum.inr.inj q)
  rw[qI h,qI e]
theorem Vl(a:Int)(b:Str):decide ((Sum.inl a:Bq)=Sum.inr b)=false:=qI (λq=>nomatch q)
theorem Vm(a:Str)(b:Int):decide ((Sum.inr a:Bq)=Sum.inl b)=false:=qI (λq=>nomatch q)
noncomputable def BO(prog:qT)(w:qU):PySem.KeyKind prog w Bq where
 is:=J8
 hash:=Zp w
 inj:=λv a b ha hb=>by
  rcases Bd ha with⟨i,t,rfl,rfl⟩|⟨x,t,rfl,rfl⟩
  ·rcases Bd hb with⟨j,u,rfl,e⟩|⟨y,u,rfl,e⟩
   ·injection e with e1 _;rw[e1]
   ·exact nomatch e
  ·rcases Bd hb with⟨j,u,rfl,e⟩|⟨y,u,rfl,e⟩
   ·exact nomatch e
   ·injection e with e1 _;rw[e1]
 byValue:=λk v h=>by rcases Bd h with⟨i,t,rfl,rfl⟩|⟨x,t,rfl,rfl⟩<;>rfl
 pyHash:=λhv h=>by
  rcases Bd hv with⟨i,t,rfl,rfl⟩|⟨x,t,rfl,rfl⟩
  ·exact wpAny_pyHash_int h
  ·exact wpAny_pyHash_str h
 eqBool:=λhu hv h=>by
  rcases Bd hu with⟨i,t,rfl,rfl⟩|⟨x,t,rfl,rfl⟩
  ·rcases Bd hv with⟨j,u,rfl,rfl⟩|⟨y,u,rfl,rfl⟩
   ·rw[Vj]at h;exact wpAny_eqBool_int h
   ·rw[Vl]at h;exact SeqAt.EqAt.int_str i t y u _ _ _ _ h
  ·rcases Bd hv with⟨j,u,rfl,rfl⟩|⟨y,u,rfl,rfl⟩
   ·rw[Vm]at h;exact SeqAt.EqAt.str_int x t j u _ _ _ _ h
   ·rw[Vk]at h;exact wpAny_eqBool_str h
 «strs»:=λk x t v h=>by
  rcases Bd h with⟨i,u,rfl,e⟩|⟨y,u,rfl,e⟩
  ·exact nomatch e
  ·injection e with e1 _
   subst e1;cases v<;>rfl
theorem Ln(prog:qT)(w:qU)(i:Int)(t:Tok):(BO prog w).is (.inl i) (.int i t)=true:=P0 i t
theorem Lo(prog:qT)(w:qU)(x:Str)(t:Tok):(BO prog w).is (.inr x) (.str x t)=true:=P1 x t
inductive V where
 |non|bl (b:Bool)|int (i:Int)|str (x:Str)|byt (b:Array UInt8)|flt (b:UInt64)|ref (a:qR)|ty (n:String)
 deriving DecidableEq
def A5:V->qQ->Prop
 |.non,u=>u=Value.none
 |.bl b,u=>u=Value.bool b
 |.int i,u=>∃t,u=Value.int i t
 |.str x,u=>∃t,u=Value.str x t
 |.byt b,u=>∃t,u=Value.bytes b t
 |.flt b,u=>∃t,u=Value.float b t
 |.ref a,u=>u=Value.ref a
 |.ty n,u=>u=Value.type n
abbrev Av:List V->List qQ->Prop:=Paired A5
variable{xs:List V}{us:List qQ}
theorem Av.length(r:Av xs us):xs.length=us.length:=Paired.length r
theorem Av.get:∀{xs:List V} {us:List qQ} {i:Nat} {x:V},Av xs us->xs[i]?=some x->∃u,us[i]?=some u/\A5 x u
 |_,_,_,_,.nil,e=>by simp at e
 |_,_,0,_,.cons r _,e=>by simp at e;subst e;exact⟨_,rfl,r⟩
 |_,_,i+1,x,.cons _ t,e=>by obtain⟨u,h1,h2⟩:=Av.get (i:=i) (x:=x) t (by simpa using e);exact⟨u,by simpa using h1,h2⟩
variable{u:qQ}
theorem Av.set{x:V}(r:A5 x u):∀{xs:List V} {us:List qQ} (i:Nat),Av xs us->Av (xs.set i x) (us.set i u)
 |_,_,_,.nil=>.nil
 |_,_,0,.cons _ t=>.cons r t
 |_,_,i+1,.cons q t=>.cons q (Av.set r i t)
theorem Av.append:∀{xs ys:List V} {us ws:List qQ},Av xs us->Av ys ws->Av (xs++ys) (us++ws):=by
 intro _ _ _ _ h s
 induction h with
 |nil=>exact s
 |cons r _ ih=>exact .cons r ih
theorem Av.take:∀{xs:List V} {us:List qQ} (n:Nat),Av xs us->Av (xs.take n) (us.take n)
 |_,_,0,_=>.nil
 |_,_,_+1,.nil=>.nil
 |_,_,n+1,.cons r t=>.cons r (Av.take n t)
theorem Av.drop:∀{xs:List V} {us:List qQ} (n:Nat),Av xs us->Av (xs.drop n) (us.drop n)
 |_,_,0,r=>r
 |_,_,_+1,.nil=>.nil
 |_,_,n+1,.cons _ t=>Av.drop n t
noncomputable def Jt:Option V->Option qQ->Prop
 |some v,some u=>A5 v u
 |none,none=>True
 |_,_=>False
def KV{κ:Type}:List (κ×V)->List (κ×qQ)->Prop:=Paired λ(p:κ×V) (q:κ×qQ)=>p.1=q.1/\A5 p.2 q.2
def kV:Bq->V
 |.inl i=>.int i
 |.inr x=>.str x
inductive HO where
 |lst (xs:List V)
 |tup (xs:List V)
 |dK (kvs:List (Bq×V))|dT (kvs:List (List Bq×V))
 |set (S:Int->Bool) (n:Nat)
 |ins (C dx:qR) (fs:List (Str×V))
 |own (x:qR)
 |xd (fs:List (Str×V))
 |met (f x:qR)
 |rng (lo hi:Int)
 |frz (o:Obj) (u:HO)
 |tbl (ps:Array qQ)
 |ext (φ:Heap->Prop)
abbrev Hp:=qR->Option HO
noncomputable def Ad(H:Hp)(a:qR)(o:HO):Hp:=λb=>if b=a then some o else H b
variable{H:Hp}{a:qR}{o:HO}
theorem AE:Ad H a o a=some o:=by unfold Ad;rw[qF rfl]
theorem AK{b:qR}(h:b≠a):Ad H a o b=H b:=by unfold Ad;rw[qE h]
theorem Db{u:HO}:Ad (Ad H a o) a u=Ad H a u:=by
 funext b;unfold Ad;split<;>rfl
theorem Dc{b:qR}{u:HO}(h:H a=some o)(h':H b=some u)(d:o≠u):a≠b:=by intro e;subst e;rw[h]at h';exact d (Option.some.inj h')
theorem BQ{b:qR}(h:H a=some o)(h':H b=none):a≠b:=by intro e;subst e;rw[h]at h';cases h'
section
variable(P:qT)(w:qU)
noncomputable def Ax(H:Hp)(h:Heap)(a:qR):HO->Prop
 |.lst xs=>xs.length<=sizeLine/\∃(its:List qQ) (n:Nat),Av xs its/\h.get? a=some {cls:=.type "list",data:=.seq its.toArray n}
 |.tup xs=>xs.length<=sizeLine/\∃its:List qQ,Av xs its/\IsTup h a its.toArray
 |.dK kvs=>kvs.length<=sizeLine/\(a==sysModules)=false/\∃vs,KV kvs vs/\h.DictOf (BO P w) a vs
 |.dT kvs=>kvs.length<=sizeLine/\(a==sysModules)=false/\∃xs:List (List Bq×qR×qQ),
   Paired (λ(p:List Bq×V) (q:List Bq×qR×qQ)=>p.1=q.1/\H q.2.1=some (.tup (p.1.map kV))/\A5 p.2 q.2.2) kvs xs /\
   ∃o es ep,h.get? a=some o/\o.ExactDict/\o.data=.dict es ep/\es.toList=xs.map (entryOfKey (tupleKind (BO P w)))/\(xs.map (·.1)).Nodup
 |.set S n=>h.SetOf (intKind P w) a S n
 |.ins C dx fs=>H dx=some (.own a)/\fs.length<=1000/\dx≠a/\h.get? a=some (PySem.W.instObj C dx) /\
   ∃mA,h.Ns1 dx mA/\(∀f,Jt (fs.lookup f) (mA f))/\PySem.Within mA (fs.map (·.1))
 |.own _=>∃o,h.get? a=some o
 |.xd fs=>∃mA,h.Ns1 a mA/\∀f,Jt (fs.lookup f) (mA f)
 |.rng lo hi=>∃t u v,h.get? a=some {cls:=.type "range",data:=.fields #[.int lo t,.int hi u,.int 1 v]}
 |.frz o u=>h.get? a=some o/\Ax H h a u
 |.tbl ps=>h.get? a=some {cls:=.none,data:=.fields ps}
 |.met f x=>h.get? a=some (PySem.W.methodObj (.ref f) (.ref x))
 |.ext φ=>φ h/\(∃o,h.get? a=some o)/\∀h1 h2:Heap,φ h1->(∀o,h1.get? a=some o->h2.get? a=some o)->φ h2
def EC(H:Hp)(h:Heap):Prop:=∀a o,H a=some o->Ax P w H h a o
end
variable{α β:Type}
section
variable{P:qT}{w:qU}{H':Hp}{h h':Heap}
theorem Ax.lt(x:Ax P w H h a o):a<h.objs.size:=by
 cases o with
 |lst xs=>obtain⟨_,_,_,_,e⟩:=x;exact bP e
 |tup xs=>obtain⟨_,_,_,p⟩:=x;exact p.lt
 |dK kvs=>obtain⟨_,_,_,_,o,_,_,e,_⟩:=x;exact bP e
 |dT kvs=>obtain⟨_,_,_,_,o,_,_,e,_⟩:=x;exact bP e
 |set S n=>obtain⟨o,_,_,_,e,_⟩:=x;exact bP e
 |ins C dx fs=>obtain⟨_,_,_,e,_⟩:=x;exact bP e
 |own y=>obtain⟨_,e⟩:=x;exact bP e
 |xd fs=>obtain⟨_,⟨_,_,_,e,_⟩,_⟩:=x;exact bP e
 |rng lo hi=>obtain⟨_,_,_,e⟩:=x;exact bP e
 |frz ob u=>obtain⟨e,_⟩:=x;exact bP e
 |tbl ps=>exact bP (show h.get? a=some _ from x)
 |met f y=>exact bP (show h.get? a=some _ from x)
 |ext φ=>obtain⟨_,⟨_,e⟩,_⟩:=x;exact bP e
theorem Paired.mapP{F G:α->β->Prop}:∀{l₁:List α} {l₂:List β},Paired F l₁ l₂->(∀a b,F a b->G a b)->Paired G l₁ l₂:=by
 intro _ _ h f
 induction h with
 |nil=>exact .nil
 |cons r _ ih=>exact .cons (f _ _ r) ih
theorem Ax.stay(x:Ax P w H h a o)(k:∀b u,(b=a\/H b=some (.own a))->h.get? b=some u->h'.get? b=some u)
  (ho:∀b,H b=some (.own a)->H' b=some (.own a)) (ht:∀b xs,H b=some (.tup xs)->H' b=some (.tup xs)):Ax P w H' h' a o:=by
 induction o with
 |lst xs=>obtain⟨z,its,n,r,e⟩:=x;exact⟨z,its,n,r,k _ _ (.inl rfl) e⟩
 |tup xs=>obtain⟨z,its,r,ob,e,c⟩:=x;exact⟨z,its,r,ob,k _ _ (.inl rfl) e,c⟩
 |dK kvs=>obtain⟨z,y,vs,r,ob,es,ep,e,c⟩:=x;exact⟨z,y,vs,r,ob,es,ep,k _ _ (.inl rfl) e,c⟩
 |dT kvs =>
  obtain⟨z,y,xs,r,ob,es,ep,e,c⟩:=x;exact⟨z,y,xs,Paired.mapP r λp q z=>⟨z.1,ht _ _ z.2.1,z.2.2⟩,ob,es,ep,k _ _ (.inl rfl) e,c⟩
 |set S n=>obtain⟨ob,es,ep,t,e,c⟩:=x;exact⟨ob,es,ep,t,k _ _ (.inl rfl) e,c⟩
 |ins C dx fs =>
  obtain⟨d,z,ne,e,mA,⟨od,es,ep,e2,c⟩,r⟩:=x;exact⟨ho _ d,z,ne,k _ _ (.inl rfl) e,mA,⟨od,es,ep,k _ _ (.inr d) e2,c⟩,r⟩
 |own y=>obtain⟨ob,e⟩:=x;exact⟨ob,k _ _ (.inl rfl) e⟩
 |xd fs=>obtain⟨mA,⟨od,es,ep,e,c⟩,r⟩:=x;exact⟨mA,⟨od,es,ep,k _ _ (.inl rfl) e,c⟩,r⟩
 |rng lo hi=>obtain⟨t,u,v,e⟩:=x;exact⟨t,u,v,k _ _ (.inl rfl) e⟩
 |frz ob u ih=>obtain⟨e,q⟩:=x;exact⟨k _ _ (.inl rfl) e,ih q⟩
 |tbl ps =>
  have e:h.get? a=some {cls:=.none,data:=.fields ps}:=x;show h'.get? a=some {cls:=.none,data:=.fields ps};exact k a _ (.inl rfl) e
 |met f y =>
  have e:h.get? a=some (PySem.W.methodObj (.ref f) (.ref y)):=x;show h'.get? a=some (PySem.W.methodObj (.ref f) (.ref y));exact k a _ (.inl rfl) e
 |ext φ=>obtain⟨p,⟨o,e⟩,st⟩:=x;exact⟨st _ _ p λo q=>k _ _ (.inl rfl) q,⟨o,k _ _ (.inl rfl) e⟩,st⟩
theorem EC.lt(x:EC P w H h)(e:H a=some o):a<h.objs.size:=(x a o e).lt
theorem EC.fresh(x:EC P w H h)(e:h.objs.size<=a):H a=none:=by
 cases q:H a with
 |none=>rfl
 |some u=>exact qG (bR (x.lt q) e) (bu _)
theorem EC.kept(x:EC P w H h)(k:∀b u,h.get? b=some u->h'.get? b=some u):EC P w H h':=λa o e =>
 (x a o e).stay (λb u _ q=>k b u q) (λ_ q=>q) λ_ _ q=>q
theorem EC.laid(x:EC P w H h)(k:∀b u,h.get? b=some u->h'.get? b=some u)(hp:h.objs.size<=a)(new:Ax P w (Ad H a o) h' a o):EC P w (Ad H a o) h':=λb u e=>by
 have hn:=x.fresh hp
 by_cases hb:b=a
 ·subst hb;rw[AE]at e;cases e;exact new
 ·rw[AK hb]at e;exact (x b u e).stay (λc v _ q=>k c v q) (λc q=>by rw[AK (BQ q hn)];exact q) λc xs q=>by rw[AK (BQ q hn)];exact q
end
def Rd(H:Hp)(a:qR)(u:HO):Prop:=H a=some u\/∃o,H a=some (.frz o u)
theorem Rd.ok{P:qT}{w:qU}{h:Heap}{u:HO}(r:Rd H a u)(x:EC P w H h):Ax P w H h a u:=by
 rcases r with r|⟨o,r⟩
 ·exact x a u r
 ·obtain⟨_,q⟩:=x a _ r;exact q
noncomputable def Xd:Option HO->Prop
 |some (.lst _)=>True
 |some (.dK _)=>True
 |some (.dT _)=>True
 |some (.set _ _)=>True
 |some (.ins _ _ _)=>True
 |some (.ext _)=>True
 |_=>False
section
variable{P:qT}{w:qU}{h h':Heap}{x e:qR}{o':HO}
theorem EC.write(ok:EC P w H h)(mu:Xd (H x))(he:e=x\/H e=some (.own x))(k:∀b u,b≠e->h.get? b=some u->h'.get? b=some u)(heo:∃u,h'.get? e=some u)
  (new:Ax P w (Ad H x o') h' x o'):EC P w (Ad H x o') h':=λb u q=>by
 have nown:∀c y,H c=some (.own y)->c≠x:=λc y r z=>by subst z;rw[r]at mu;exact mu
 have ntup:∀c xs,H c=some (.tup xs)->c≠x:=λc xs r z=>by subst z;rw[r]at mu;exact mu
 by_cases hb:b=x
 ·subst hb;rw[AE]at q;cases q;exact new
 ·rw[AK hb]at q
  by_cases hbe:b=e
  ·have q':H b=some (.own x):=by
    rcases he with z|z
    ·exact qG (hbe.trans z) hb
    ·rw[hbe];exact z
   rw[q]at q';cases q';obtain⟨v,hv⟩:=heo;exact⟨v,by rw[hbe];exact hv⟩
  ·refine (ok b u q).stay (λc v hc r=>k c v ?_ r) (λc r=>by rw[AK (nown c b r)];exact r) λc xs r=>by rw[AK (ntup c xs r)];exact r
   rcases hc with rfl|hc
   ·exact hbe
   ·rintro rfl;rcases he with z|z
    ·exact nown c b hc z
    ·rw[hc]at z;cases z;exact hb rfl
end
structure Un(fs ex:List qR)(H H':Hp)(h h':Heap):Prop where
 keep:∀b o,h.get? b=some o->H b=none->b∉fs->b∉ex->h'.get? b=some o
 slot:∀b o,h.get? b=some o->H b=none->b∈fs->b∉ex->∃sl,h'.get? b=some {o with slots:=sl}
 free:∀b o,h.get? b=some o->H b=none->b∉ex->H' b=none
 there:∀b o,h.get? b=some o->b∉ex->∃o',h'.get? b=some o'
 tups:∀b xs,H b=some (.tup xs)->H' b=some (.tup xs)
 frzs:∀b o u,H b=some (.frz o u)->H' b=some (.frz o u)
 tbls:∀b ps,H b=some (.tbl ps)->∃more,H' b=some (.tbl (ps++more))
section
variable{fs fs' ex ex':List qR}{H1 H2:Hp}{h h1 h2 h':Heap}{x e:qR}
theorem Un.any(u:Un fs ex H H1 h h1){b:qR}{ob:Obj}(q:h.get? b=some ob)(n:H b=none)(hx:b∉ex):∃sl,h1.get? b=some {ob with slots:=sl}:=by
 by_cases hb:b∈fs
 ·exact u.slot b ob q n hb hx
 ·exact⟨ob.slots,u.keep b ob q n hb hx⟩
theorem Un.kept(k:∀b u,h.get? b=some u->h'.get? b=some u):Un fs ex H H h h':=
 ⟨λb ob q _ _ _=>k b ob q,λb ob q _ _ _=>⟨ob.slots,k b ob q⟩,λ_ _ _ n _=>n,λb ob q _=>⟨ob,k b ob q⟩,λ_ _ q=>q,λ_ _ _ q=>q,λ_ ps q=>⟨#[],by rw[q];simp⟩⟩
theorem Un.refl:Un fs ex H H h h:=Un.kept λ_ _ q=>q
theorem Un.laid(k:∀b u,h.get? b=some u->h'.get? b=some u)(hp:h.objs.size<=a)(hn:H a=none):Un fs ex H (Ad H a o) h h' where
 keep:=λb u q _ _ _=>k b u q
 slot:=λb u q _ _ _=>⟨u.slots,k b u q⟩
 free:=λb u q n _=>by rw[AK (b9 (bR (bP q) hp))];exact n
 there:=λb u q _=>⟨u,k b u q⟩
 tups:=λb xs q=>by rw[AK (BQ q hn)];exact q
 frzs:=λb u xs q=>by rw[AK (BQ q hn)];exact q
 tbls:=λb ps q=>⟨#[],by rw[AK (BQ q hn),q];simp⟩
theorem Un.write(mu:Xd (H x))(he:e=x\/H e=some (.own x))(k:∀b u,b≠e->h.get? b=some u->h'.get? b=some u)(heo:∃u,h'.get? e=some u):Un fs ex H (Ad H x o) h h':=by
 have hx:∀b,H b=none->b≠x:=λb n z=>by subst z;rw[n]at mu;exact mu
 have hb:∀b,H b=none->b≠e:=λb n z=>by
  subst z;rcases he with r|r
  ·exact hx b n r
  ·rw[n]at r;cases r
 have hm:∀b u,H b=some u->¬Xd (some u)->b≠x:=λb u q nm z=>by subst z;rw[q]at mu;exact nm mu
 refine⟨λb u q n _ _=>k b u (hb b n) q,λb u q n _ _=>⟨u.slots,k b u (hb b n) q⟩,λb u q n _=>by rw[AK (hx b n)];exact n,λb u q _=>?_,
  λb xs q=>by rw[AK (hm b _ q λz=>z)];exact q,λb u xs q=>by rw[AK (hm b _ q λz=>z)];exact q,λb ps q=>⟨#[],by rw[AK (hm b _ q λz=>z),q];simp⟩⟩
 by_cases hbe:b=e
 ·subst hbe;exact heo
 ·exact⟨u,k b u hbe q⟩
end
noncomputable def trk(h:Heap)(H:Hp):List qR:=(List.range h.objs.size).filter λa=>(H a).isSome
noncomputable def Ju(h:Heap)(H:Hp):Heap:=PySem.W.hideAll h (trk h H)
theorem P2(h:Heap)(H:Hp):(Ju h H).objs.size=h.objs.size:=PySem.W.hideAll_size _ _
theorem Q7{h:Heap}{b:qR}{o:Obj}(e:h.get? b=some o)(n:H b=none):(Ju h H).get? b=some o:=
 fg _ e λhm=>by have q:(H b).isSome=true:=(cE.mp hm).2;rw[n]at q;simp at q
theorem Tj{h:Heap}{b:qR}{o:Obj}(e:(Ju h H).get? b=some o):h.get? b=some o/\H b=none:=by
 have e':h.get? b=some o:=PySem.W.of_hideAll (trk h H) e;refine⟨e',?_⟩;cases q:H b with
 |none=>rfl
 |some x =>
  have hm:b∈trk h H:=List.mem_filter.mpr ⟨List.mem_range.mpr (Heap.lt_size e'),by simp[q]⟩;have z:(Ju h H).get? b=none:=PySem.W.hideAll_none (trk h H) hm;rw[z]at e;cases e
structure Zj(K:qV)(mg:Str->Option qQ)(base:Heap):Prop where
 kin:K.In base
 glob:base.Ns mainGlobals mg
 blt:∃mb,base.Ns builtinsNs mb/\∀x:Str,x≠"__name__"->mb x=bootBuiltins x
 nolimit:base.NoLimit
structure Cx where
 prog:qT
 w:qU
 K:qV
 mg:Str->Option qQ
 base:Heap
 A:Around
 N:List Str
 s₀:qS
 H₀:Hp
 env:Env
 outer:List Env
 stack:List Env
 ex:List qR
 fn:Str->Bool
 calm:Bool
 pn:List (qR×Obj)
 xe:qQ->qS->Prop
def Ed(l:List Env):List qR:=l.filterMap (·.frame)
abbrev Cx.fs(X:Cx):List qR:=Ed X.outer
def Zq(sc:Scope)(x:Str):Prop:=sc.names.lookup x=some .local\/sc.names.lookup x=some .cell\/sc.names.lookup x=some .free
def U4(sc:Scope)(x:Str):Prop:=sc.names.lookup x=some .local\/sc.names.lookup x=some .cell
def Zr(env:Env)(h:Heap)(m:Str->Option qQ)(x:Str)(u:qQ):Prop:=
 (env.kindOf x=some .local/\m x=some u)\/((env.kindOf x=some .cell\/env.kindOf x=some .free)/\∃c,env.cells.lookup x=some c/\h.IsCell c (some u))
structure Cx.Ok(X:Cx):Prop where
 mod:Zj X.K X.mg X.base
 kind:X.env.scope.kind=.function
 glob:X.env.globals=mainGlobals
 blt:X.env.builtins=builtinsNs
 above:X.s₀.heap.objs.size<=X.env.locals
 inj:∀x y c,X.env.cells.lookup x=some c->X.env.cells.lookup y=some c->x=y
 has:∀x,(X.env.kindOf x=some .cell\/X.env.kindOf x=some .free)->∃c,X.env.cells.lookup x=some c
 cab:∀x c,X.fn x=true->X.env.cells.lookup x=some c->X.s₀.heap.objs.size<=c
 hd:X.calm=true->X.A.handled=none
 frames:X.A.frames=some X.stack
 stk:X.stack=X.outer\/(X.stack=X.env::X.outer/\X.env.frame=some X.env.locals)
 exf:∀b∈X.ex,b≠X.env.locals/\∀x c,X.env.cells.lookup x=some c->c≠b
 bs:∀b o,X.base.get? b=some o->X.s₀.heap.get? b=some o/\X.H₀ b=none
 bsz:X.base.objs.size<=X.s₀.heap.objs.size
 noex:∀b o,X.base.get? b=some o->b∉X.ex
 exfs:∀b∈X.ex,b∉X.fs
 funs:X.s₀.heap.FunFrames X.base X.outer
 frf:∀b∈X.fs,X.H₀ b=none
structure AT(X:Cx)(ad:List (qR×Obj))(σ:List (Option V))(H:Hp)(s:qS):Prop where
 ok:X.Ok
 os:s.os=X.s₀.os
 bare:AllBare s.gens
 base:Un X.fs X.ex X.H₀ H X.s₀.heap s.heap
 loc:∃m,s.heap.Ns X.env.locals m/\∀(i:Nat) (x:Str) (v:V),X.N[i]?=some x->σ[i]?=some (some v)->Zq X.env.scope x->∃u,A5 v u/\Zr X.env s.heap m x u
 cell:∀x c,X.env.cells.lookup x=some c->∃v,s.heap.IsCell c v
 free:H X.env.locals=none
 freeC:∀x c,X.env.cells.lookup x=some c->H c=none
 pin:∀p∈X.pn++ad,s.heap.get? p.1=some p.2/\H p.1=none/\p.1≠X.env.locals/\p.1∉X.fs/\∀v,p.2.data≠.cell v
 hok:EC X.prog X.w H s.heap
 len:σ.length=X.N.length
variable{t' i j:Nat}{it:qR}{s':qS}
section
variable{X:Cx}{ad:List (qR×Obj)}{σ:List (Option V)}{H':Hp}{s:qS}{h':Heap}
theorem Cx.Ok.nofr(ok:X.Ok){b:qR}{o:Obj}(e:X.base.get? b=some o):b∉X.fs:=λhb=>by have:=(ok.funs.mem hb).1;rw[e]at this;cases this
theorem AT.bs(I:AT X ad σ H s):∀b o,X.base.get? b=some o->s.heap.get? b=some o/\H b=none:=λb o e =>
 ⟨I.base.keep b o (I.ok.bs b o e).1 (I.ok.bs b o e).2 (I.ok.nofr e) (I.ok.noex b o e),I.base.free b o (I.ok.bs b o e).1 (I.ok.bs b o e).2 (I.ok.noex b o e)⟩
theorem AT.bk(I:AT X ad σ H s):∀b o,X.base.get? b=some o->s.heap.get? b=some o:=λb o e=>(I.bs b o e).1
theorem AT.mod(I:AT X ad σ H s):Zj X.K X.mg X.base:=I.ok.mod
theorem AT.kIn(I:AT X ad σ H s):X.K.In s.heap:=I.ok.mod.kin.keeps I.bk
theorem AT.lt(I:AT X ad σ H s):X.env.locals<s.heap.objs.size:=let ⟨_,hn,_⟩:=I.loc;hn.lt
theorem AT.sz(I:AT X ad σ H s):X.s₀.heap.objs.size<=s.heap.objs.size:=cK I.ok.above (dA I.lt)
theorem AT.nofs(I:AT X ad σ H s)(h:s.heap.objs.size<=a):a∉X.fs:=λhb=>by obtain⟨_,o,ho,_⟩:=I.ok.funs.mem hb;exact qG (bR (bP ho) (cK I.sz h)) (bu _)
theorem AT.cne(I:AT X ad σ H s):∀x c,X.env.cells.lookup x=some c->c≠X.env.locals:=λx c e z=>by obtain⟨v,o,ho,hd⟩:=I.cell x c e;obtain⟨m,⟨o',es,ep,ho',hd',_⟩,_⟩:=I.loc;rw[z,ho']at ho;cases ho;rw[hd']at hd;cases hd
theorem AT.funs(I:AT X ad σ H s):s.heap.FunFrames X.base X.outer:=by
 have all:∀(l:List Env),(∀b∈Ed l,b∈X.fs)->X.s₀.heap.FunFrames X.base l->s.heap.FunFrames X.base l:=by
  intro l
  induction l with
  |nil=>intro _ _;trivial
  |cons env r ih =>
   intro hs hl;rcases hl with⟨hk,⟨L,o,hf,hn,ho,hd⟩,hr⟩;have hL:L∈X.fs:=hs L (by unfold Ed;rw[List.filterMap_cons,hf];exact List.mem_cons_self);obtain⟨sl,e⟩:=I.base.slot L o ho (I.ok.frf L hL) hL λz=>I.ok.exfs L z hL
   exact⟨hk,⟨L,_,hf,hn,e,hd⟩,ih (λb hb=>hs b (by unfold Ed;rw[List.filterMap_cons,hf];exact List.mem_cons_of_mem _ hb)) hr⟩
 exact all X.outer (λ_ hb=>hb) I.ok.funs
theorem AT.stack(I:AT X ad σ H s):s.heap.FunFrames X.base X.stack:=by
 rcases I.ok.stk with e|⟨e,hf⟩
 ·rw[e];exact I.funs
 ·rw[e];obtain⟨m,hn,_⟩:=I.loc;refine .cons (by rw[I.ok.kind];decide) hf hn ?_ I.funs;exact Heap.get?_none_of_le (cK I.ok.bsz I.ok.above)
theorem AT.stkSub(I:AT X ad σ H s):∀b∈Ed X.stack,b∈X.env.locals::X.fs:=λb hb=>by
 rcases I.ok.stk with e|⟨e,hf⟩
 ·rw[e]at hb;exact bi _ hb
 ·rw[e]at hb;unfold Ed at hb;rw[List.filterMap_cons,hf]at hb;exact hb
theorem AT.stkFree(I:AT X ad σ H s):∀b∈Ed X.stack,H b=none:=λb hb=>by
 rcases br.mp (I.stkSub b hb) with e|hb
 ·rw[e];exact I.free
 ·obtain⟨_,o,ho,_⟩:=I.ok.funs.mem hb;exact I.base.free b o ho (I.ok.frf b hb) λz=>I.ok.exfs b z hb
theorem AT.step{g':Array GenState}{t':Nat}{d':Drawn}{ch:List qR}(I:AT X ad σ H s)
  (hch:∀b∈ch,(b∈X.ex\/X.s₀.heap.objs.size<=b)/\b≠X.env.locals/\(∀x c,X.env.cells.lookup x=some c->c≠b)/\∀p∈X.pn++ad,p.1≠b)
  (keep:∀b o,b≠X.env.locals->b∉X.fs->b∉ch->s.heap.get? b=some o->H b=none->h'.get? b=some o)
  (slot:∀b o,b≠X.env.locals->b∈X.fs->b∉ch->s.heap.get? b=some o->H b=none->∃sl,h'.get? b=some {o with slots:=sl}) (free:∀b o,b∉ch->s.heap.get? b=some o->H b=none->H' b=none)
  (there:∀b o,b∉ch->s.heap.get? b=some o->∃o',h'.get? b=some o')
  (tups:∀b xs,H b=some (.tup xs)->H' b=some (.tup xs)) (frzs:∀b o u,H b=some (.frz o u)->H' b=some (.frz o u)) (tbls:∀b ps,H b=some (.tbl ps)->∃more,H' b=some (.tbl (ps++more)))
  (ns:∀m,s.heap.Ns X.env.locals m->h'.Ns X.env.locals m) (hok:EC X.prog X.w H' h') (hg:AllBare g'):
  AT X ad σ H' {s with heap:=h',gens:=g',drawn:=d',toks:=t'}:=by
 have neL:∀b o,X.s₀.heap.get? b=some o->b≠X.env.locals:=λb o e=>b9 (bR (bP e) I.ok.above)
 have neC:∀b o,X.s₀.heap.get? b=some o->b∉X.ex->b∉ch:=λb o e hx hb=>by
  rcases (hch b hb).1 with z|z
  ·exact hx z
  ·exact qG (bR (bP e) z) (bu _)
 have cellK:∀x c,X.env.cells.lookup x=some c->∀v,s.heap.IsCell c v->h'.IsCell c v:=λx c e v ⟨o,ho,hd⟩=>by
  have nch:c∉ch:=λz=>(hch c z).2.2.1 x c e rfl
  by_cases hc:c∈X.fs
  ·obtain⟨sl,q⟩:=slot c o (I.cne x c e) hc nch ho (I.freeC x c e);exact⟨_,q,hd⟩
  ·exact⟨o,keep c o (I.cne x c e) hc nch ho (I.freeC x c e),hd⟩
 refine⟨I.ok,I.os,hg,⟨λb o e n hb hx=>?_,λb o e n hb hx=>?_,λb o e n hx=>?_,λb o e hx=>?_,λb xs e=>tups b xs (I.base.tups b xs e),λb o xs e=>frzs b o xs (I.base.frzs b o xs e),λb ps e=>?_⟩,?_,λx c e=>?_,?_,λx c e=>?_,λp hp=>?_,hok,I.len⟩
 ·exact keep b o (neL b o e) hb (neC b o e hx) (I.base.keep b o e n hb hx) (I.base.free b o e n hx)
 ·obtain⟨sl,e1⟩:=I.base.slot b o e n hb hx;obtain⟨sl',e2⟩:=slot b _ (neL b o e) hb (neC b o e hx) e1 (I.base.free b o e n hx);exact⟨sl',e2⟩
 ·obtain⟨o',e1⟩:=I.base.there b o e hx;exact free b o' (neC b o e hx) e1 (I.base.free b o e n hx)
 ·obtain⟨o',e1⟩:=I.base.there b o e hx;exact there b o' (neC b o e hx) e1
 ·obtain⟨m1,e1⟩:=I.base.tbls b ps e;obtain⟨m2,e2⟩:=tbls b _ e1;exact⟨m1++m2,by rw[e2,Array.append_assoc]⟩
 ·obtain⟨m,hn,hl⟩:=I.loc;refine⟨m,ns m hn,λi x v e1 e2 e3=>?_⟩;obtain⟨u,r,l⟩:=hl i x v e1 e2 e3;refine⟨u,r,?_⟩;rcases l with l|⟨k,c,e,z⟩
  ·exact .inl l
  ·exact .inr ⟨k,c,e,cellK x c e _ z⟩
 ·obtain⟨v,z⟩:=I.cell x c e;exact⟨v,cellK x c e v z⟩
 ·obtain⟨m,⟨o,_,_,ho,_⟩,_⟩:=I.loc;exact free _ o (λz=>(hch _ z).2.1 rfl) ho I.free
 ·obtain⟨v,o,ho,hd⟩:=I.cell x c e;exact free c o (λz=>(hch c z).2.2.1 x c e rfl) ho (I.freeC x c e)
 ·obtain⟨e,n,ne,nf,d⟩:=I.pin p hp;have nch:p.1∉ch:=λz=>(hch p.1 z).2.2.2 p hp rfl
  exact⟨keep p.1 p.2 ne nf nch e n,free p.1 p.2 nch e n,ne,nf,d⟩
theorem AT.un(I:AT X ad σ H s)(u:Un X.fs [] H H' s.heap h')(hok:EC X.prog X.w H' h'):AT X ad σ H' {s with heap:=h',toks:=t'}:=by
 obtain⟨m,⟨o,es,ep,ho,r⟩,_⟩:=id I.loc;obtain⟨sl,hL⟩:=u.any ho I.free 1#4
 exact I.step (g':=s.gens) (d':=s.drawn) (ch:=[]) (λ_ z=>nomatch z) (λb o _ hb _ e n=>u.keep b o e n hb 1#4) (λb o _ hb _ e n=>u.slot b o e n hb 1#4) (λb o _ e n=>u.free b o e n 1#4) (λb o _ e=>u.there b o e 1#4) u.tups u.frzs u.tbls (λm' hm=>by obtain⟨o',es',ep',ho',r'⟩:=hm;rw[ho]at ho';cases ho';exact⟨_,es',ep',hL,r'⟩) hok I.bare
theorem AT.call{g':Array GenState}{d':Drawn}{ch:List qR}(I:AT X ad σ H s)(u:Un (Ed X.stack) ch H H' s.heap h')(hok:EC X.prog X.w H' h')(hg:AllBare g')
  (hch:∀b∈ch,(b∈X.ex\/X.s₀.heap.objs.size<=b)/\b≠X.env.locals/\(∀x c,X.env.cells.lookup x=some c->c≠b)/\∀p∈X.pn++ad,p.1≠b):
  AT X ad σ H' {s with heap:=h',gens:=g',drawn:=d',toks:=t'}:=by
 obtain⟨m,⟨o,es,ep,ho,r⟩,_⟩:=id I.loc;obtain⟨sl,hL⟩:=u.any ho I.free λz=>(hch _ z).2.1 rfl
 exact I.step (ch:=ch) hch (λb o hL hb hc e n=>u.keep b o e n (λz=>(br.mp (I.stkSub b z)).elim hL hb) hc) (λb o _ _ hc e n=>u.any e n hc) (λb o hc e n=>u.free b o e n hc) (λb o hc e=>u.there b o e hc) u.tups u.frzs u.tbls (λm' hm=>by obtain⟨o',es',ep',ho',r'⟩:=hm;rw[ho]at ho';cases ho';exact⟨_,es',ep',hL,r'⟩) hok hg
theorem AT.turned(I:AT X ad σ H s)(k:∀b o,b≠it->s.heap.get? b=some o->h'.get? b=some o)(hn:H it=none)(hL:it≠X.env.locals)
  (h1:it∈X.ex\/X.s₀.heap.objs.size<=it) (h2:∀x c,X.env.cells.lookup x=some c->c≠it) (h3:∀p∈X.pn++ad,p.1≠it):AT X ad σ H {s with heap:=h',toks:=t'}:=by
 have nit:∀b u,H b=some u->b≠it:=λb u e z=>by rw[z,hn]at e;cases e
 refine I.step (g':=s.gens) (d':=s.drawn) (ch:=[it]) (λb hb=>?_) (λb o _ _ hc e _=>k b o (λz=>hc (by simp[z])) e) (λb o _ _ hc e _=>⟨o.slots,k b o (λz=>hc (by simp[z])) e⟩) (λ_ _ _ _ n=>n)
  (λb o hc e=>⟨o,k b o (λz=>hc (by simp[z])) e⟩) (λ_ _ e=>e) (λ_ _ _ e=>e) (λb ps e=>⟨#[],by rw[e];simp⟩) (λm hm=>?_) (λb u e=>?_) I.bare
 ·have e:b=it:=by simpa using hb
  subst e;exact⟨h1,hL,h2,h3⟩
 ·obtain⟨o,es,ep,ho,r⟩:=hm;exact⟨o,es,ep,k _ o (Ne.symm hL) ho,r⟩
 ·refine (I.hok b u e).stay (λc v hc q=>k c v ?_ q) (λ_ q=>q) λ_ _ q=>q
  rcases hc with z|z
  ·rw[z];exact nit b u e
  ·exact nit c _ z
theorem AT.tok(I:AT X ad σ H s)(t:Nat):AT X ad σ H {s with toks:=t}:=I.un (h':=s.heap) (t':=t) Un.refl I.hok
theorem AT.kept(I:AT X ad σ H s)(k:∀b u,s.heap.get? b=some u->h'.get? b=some u):AT X ad σ H {s with heap:=h',toks:=t'}:=I.un (Un.kept k) (I.hok.kept k)
theorem AT.laid(I:AT X ad σ H s)(k:∀b u,s.heap.get? b=some u->h'.get? b=some u)(hp:s.heap.objs.size<=a)(new:Ax X.prog X.w (Ad H a o) h' a o):
  AT X ad σ (Ad H a o) {s with heap:=h',toks:=t'}:=I.un (Un.laid k hp (I.hok.fresh hp)) (I.hok.laid k hp new)
theorem AT.write{x e:qR}(I:AT X ad σ H s)(mu:Xd (H x))(he:e=x\/H e=some (.own x))(k:∀b u,b≠e->s.heap.get? b=some u->h'.get? b=some u)(heo:∃u,h'.get? e=some u)
  (new:Ax X.prog X.w (Ad H x o) h' x o):AT X ad σ (Ad H x o) {s with heap:=h',toks:=t'}:=I.un (Un.write mu he k heo) (I.hok.write mu he k heo new)
theorem AT.pins_of{pins':List (qR×Obj)}(I:AT X ad σ H s)(h:∀p∈pins',s.heap.get? p.1=some p.2/\H p.1=none/\p.1≠X.env.locals/\p.1∉X.fs/\∀v,p.2.data≠.cell v):AT X pins' σ H s:=
 ⟨I.ok,I.os,I.bare,I.base,I.loc,I.cell,I.free,I.freeC,λp hp=>(bQ.mp hp).elim (λz=>I.pin p (eL _ z)) (h p),I.hok,I.len⟩
theorem Lp{N:List Str}(hN:N.Nodup){x:Str}(a:N[i]?=some x)(b:N[j]?=some x):i=j:=by obtain⟨h1,e1⟩:=bJ.mp a;obtain⟨h2,e2⟩:=bJ.mp b;exact (fY hN).mp (e1.trans e2.symm)
theorem J9{M:Model}{A:Around}{E:qQ->qS->Prop}{x:Str}{v:V}{Q:Unit->qS->Prop}(I:AT X ad σ H s)(hN:X.N.Nodup)(hi:X.N[i]?=some x)(hx:U4 X.env.scope x)(r:A5 v u)
  (h:∀s',AT X ad (σ.set i (some v)) H s'->(∃a,Heap.SameBut a s.heap s'.heap/\(a=X.env.locals\/X.env.cells.lookup x=some a))->Q () s') (hf:X.fn x=true\/X.env.scope.names.lookup x=some .local:=by first|exact .inl rfl|exact .inr rfl|assumption):wpAny M A (storeName X.env x u) Q E s:=by
 obtain⟨m,hn,hl⟩:=id I.loc;have hcls:(X.env.scope.kind==.class||(X.env.scope.kind==.module&&X.env.locals != X.env.globals))=false:=by rw[I.ok.kind];rfl
 have hiσ:i<σ.length:=by rw[I.len];exact (bJ.mp hi).1
 have cne:=I.cne
 have tracked:∀{a:qR} {h':Heap},(∃o,s.heap.get? a=some o/\H a=none)->Heap.SameBut a s.heap h'->EC X.prog X.w H h':=λ{a h'} ha hs b ob e=>by
  obtain⟨_,_,hfree⟩:=ha;refine (I.hok b ob e).stay (λc w' hc q=>(hs.2 c ?_).trans q) (λ_ q=>q) λ_ _ q=>q
  rintro rfl;rcases hc with rfl|hc
  ·rw[hfree]at e;cases e
  ·rw[hfree]at hc;cases hc
 rcases hx with hk|hk
 ·refine wpAny_storeName_local hk hn (λh' hn' hs=>?_) hcls;rcases id hn with⟨oL,_,_,hoL,_⟩;refine h _ ⟨I.ok,I.os,I.bare,⟨λb o e n hb hx=>?_,λb o e n hb hx=>?_,I.base.free,λb o e hx=>?_,I.base.tups,I.base.frzs,I.base.tbls⟩,⟨_,hn',λj y v' e1 e2 e3=>?_⟩,λy c e=>?_,I.free,I.freeC,λp hp=>?_,tracked ⟨oL,hoL,I.free⟩ hs,by simpa using I.len⟩ ⟨_,hs,.inl rfl⟩
  ·exact (hs.2 b (b9 (bR (bP e) I.ok.above))).trans (I.base.keep b o e n hb hx)
  ·obtain⟨sl,e1⟩:=I.base.slot b o e n hb hx;exact⟨sl,(hs.2 b (b9 (bR (bP e) I.ok.above))).trans e1⟩
  ·obtain⟨o',e1⟩:=I.base.there b o e hx;exact⟨o',(hs.2 b (b9 (bR (bP e) I.ok.above))).trans e1⟩
  ·by_cases hj:j=i
   ·subst hj;rw[hi]at e1;cases e1;rw[List.getElem?_set_self hiσ]at e2;cases e2;exact⟨u,r,.inl ⟨hk,by simp⟩⟩
   ·rw[List.getElem?_set_ne (Ne.symm hj)]at e2;obtain⟨u',r',q⟩:=hl j y v' e1 e2 e3;refine⟨u',r',?_⟩;rcases q with⟨k,e⟩|⟨k,c,e,z⟩
    ·refine .inl ⟨k,?_⟩;have:y≠x:=λe=>hj (Lp hN e1 (e▸hi))
     simp[this,e]
    ·exact .inr ⟨k,c,e,z.sameBut hs (cne y c e)⟩
  ·obtain⟨w',z⟩:=I.cell y c e;exact⟨w',z.sameBut hs (cne y c e)⟩
  ·rcases I.pin p hp with⟨e,n,ne,nf,d⟩;exact⟨(hs.2 p.1 ne).trans e,n,ne,nf,d⟩
 ·have hfn:X.fn x=true:=by
   rcases hf with z|z
   ·exact z
   ·rw[z]at hk;cases hk
  obtain⟨c,hc⟩:=I.ok.has x (.inl hk);obtain⟨w',z⟩:=I.cell x c hc;refine wpAny_storeName_cell I.ok.kind hk hc z (λh' hc' hs=>?_);obtain⟨oc,hoc,hocd⟩:=id z;refine h {s with heap:=h'} ⟨I.ok,I.os,I.bare,⟨λb o e n hb hx=>?_,λb o e n hb hx=>?_,I.base.free,λb o e hx=>?_,I.base.tups,I.base.frzs,I.base.tbls⟩,⟨m,hn.sameBut hs (Ne.symm (cne x c hc)),λj y v' e1 e2 e3=>?_⟩,λy c' e=>?_,I.free,I.freeC,λp hp=>?_,tracked ⟨oc,hoc,I.freeC x c hc⟩ hs,by simpa using I.len⟩ ⟨c,hs,.inr hc⟩
  ·exact (hs.2 b (b9 (bR (bP e) (I.ok.cab x c hfn hc)))).trans (I.base.keep b o e n hb hx)
  ·obtain⟨sl,e1⟩:=I.base.slot b o e n hb hx;exact⟨sl,(hs.2 b (b9 (bR (bP e) (I.ok.cab x c hfn hc)))).trans e1⟩
  ·obtain⟨o',e1⟩:=I.base.there b o e hx;exact⟨o',(hs.2 b (b9 (bR (bP e) (I.ok.cab x c hfn hc)))).trans e1⟩
  ·by_cases hj:j=i
   ·subst hj;rw[hi]at e1;cases e1;rw[List.getElem?_set_self hiσ]at e2;cases e2;exact⟨u,r,.inr ⟨.inl hk,c,hc,hc'⟩⟩
   ·rw[List.getElem?_set_ne (Ne.symm hj)]at e2;obtain⟨u',r',q⟩:=hl j y v' e1 e2 e3;refine⟨u',r',?_⟩;rcases q with q|⟨k,c',e,z'⟩
    ·exact .inl q
    ·refine .inr ⟨k,c',e,z'.sameBut hs ?_⟩;rintro rfl;exact hj (Lp hN e1 (I.ok.inj _ _ _ e hc▸hi))
  ·by_cases hcc:c'=c
   ·subst hcc;exact⟨_,hc'⟩
   ·obtain⟨w2,z2⟩:=I.cell y c' e;exact⟨w2,z2.sameBut hs hcc⟩
  ·rcases I.pin p hp with⟨e,n,ne,nf,d⟩;refine⟨(hs.2 p.1 ?_).trans e,n,ne,nf,d⟩;intro q;rw[q,hoc]at e;have q':oc=p.2:=Option.some.inj e;exact d w' (by rw[<-q'];exact hocd)
theorem Lq{M:Model}{A:Around}{E:qQ->qS->Prop}{x:Str}{v:V}{Q:Unit->qS->Prop}(I:AT X ad σ H s)(hN:X.N.Nodup)(hi:X.N[i]?=some x)(hx:U4 X.env.scope x)(r:A5 v u)
  (h:∀s',AT X ad (σ.set i (some v)) H s'->Q () s') (hf:X.fn x=true\/X.env.scope.names.lookup x=some .local:=by first|exact .inl rfl|exact .inr rfl|assumption):wpAny M A (storeName X.env x u) Q E s:=
 J9 I hN hi hx r (λs' I' _=>h s' I') hf
theorem AT.call'{ch:List qR}(I:AT X ad σ H s)(ho:s'.os=s.os)(u:Un (Ed X.stack) ch H H' s.heap s'.heap)(hok:EC X.prog X.w H' s'.heap)(hg:AllBare s'.gens)
  (hch:∀b∈ch,(b∈X.ex\/X.s₀.heap.objs.size<=b)/\b≠X.env.locals/\(∀x c,X.env.cells.lookup x=some c->c≠b)/\∀p∈X.pn++ad,p.1≠b):AT X ad σ H' s':=by
 obtain⟨h',g',d',t',o'⟩:=s';have e:o'=s.os:=ho;subst e;exact I.call (g':=g') (t':=t') (d':=d') u hok hg hch
end
abbrev XK:=qQ->Option qR->Hp->Prop
abbrev St:=List (Option V)
abbrev VK:=V->Hp->Prop
abbrev TE:=St->Hp->VK->Prop
abbrev TT:=St->Hp->(Bool->Hp->Prop)->Prop
abbrev TA:=St->Hp->(List V->Hp->Prop)->Prop
structure HU where
 nx:St->Hp->Prop
 rt:VK
 bk:St->Hp->Prop:=λ_ _=>False
 ct:St->Hp->Prop:=λ_ _=>False
abbrev TS:=HU->St->Hp->Prop
def EP(X:Cx)(ad:List (qR×Obj))(σ:St)(Q:VK)(u:qQ)(s':qS):Prop:=∃v H',AT X ad σ H' s'/\A5 v u/\Q v H'
def TP(X:Cx)(ad:List (qR×Obj))(σ:St)(Q:Bool->Hp->Prop)(b:Bool)(s':qS):Prop:=∃H',AT X ad σ H' s'/\Q b H'
def AP(X:Cx)(ad:List (qR×Obj))(σ:St)(Q:List V->Hp->Prop)(us:List qQ)(s':qS):Prop:=∃vs H',AT X ad σ H' s'/\Av vs us/\Q vs H'
def SP(X:Cx)(ad:List (qR×Obj))(D:HU)(f:Flow)(s':qS):Prop:=
 match f with
 |.next=>∃σ' H',AT X ad σ' H' s'/\D.nx σ' H'
 |.brk=>∃σ' H',AT X ad σ' H' s'/\D.bk σ' H'
 |.cont=>∃σ' H',AT X ad σ' H' s'/\D.ct σ' H'
 |.ret u=>∃v σ' H',AT X ad σ' H' s'/\A5 v u/\D.rt v H'
def PE(X:Cx)(e:Expr)(t:TE):Prop:=
 ∀(ad:List (qR×Obj)) (s:qS) (σ:St) (H:Hp) (Q:VK),AT X ad σ H s->t σ H Q->wpAny 0#6 X.A (eval e X.env) (EP X ad σ Q) X.xe s
def PT(X:Cx)(e:Expr)(t:TT):Prop:=
 ∀(ad:List (qR×Obj)) (s:qS) (σ:St) (H:Hp) (Q:Bool->Hp->Prop),AT X ad σ H s->t σ H Q->wpAny 0#6 X.A (isTrue e X.env (eval e X.env)) (TP X ad σ Q) X.xe s
def PW(X:Cx)(e:Expr)(t:TT):Prop:=
 ∀(whole:Sem qQ) (ad:List (qR×Obj)) (s:qS) (σ:St) (H:Hp) (Q:Bool->Hp->Prop),AT X ad σ H s->t σ H Q->wpAny 0#6 X.A (isTrue e X.env whole) (TP X ad σ Q) X.xe s
theorem PW.pt{X:Cx}{e:Expr}{t:TT}(h:PW X e t):PT X e t:=h _
def PA(X:Cx)(es:List Expr)(t:TA):Prop:=
 ∀(pos:Pos) (ad:List (qR×Obj)) (s:qS) (σ:St) (H:Hp) (Q:List V->Hp->Prop),AT X ad σ H s->t σ H Q->wpAny 0#6 X.A (spliced (backTo pos (starEach es X.env))) (AP X ad σ Q) X.xe s
def PS(X:Cx)(st:Stmt)(t:TS):Prop:=
 ∀(ad:List (qR×Obj)) (s:qS) (σ:St) (H:Hp) (D:HU),AT X ad σ H s->t D σ H->wpAny 0#6 X.A (exec st X.env) (SP X ad D) X.xe s
def FU(X:Cx)(st:List Stmt)(t:TS):Prop:=
 ∀(ad:List (qR×Obj)) (s:qS) (σ:St) (H:Hp) (D:HU),AT X ad σ H s->t D σ H->wpAny 0#6 X.A (execs st X.env) (SP X ad D) X.xe s
variable{E:qQ->qS->Prop}
theorem BN{t:Sem α}{Q Q':α->qS->Prop}{M:Model}{A:Around}{s:qS}(h:wpAny M A t Q E s)(hQ:∀a s,Q a s->Q' a s):wpAny M A t Q' E s:=qM h hQ λ_ _ x=>x
variable{Q:qQ->qS->Prop}{ad:List (qR×Obj)}{σ:St}{op:CmpOp}
section
variable{X:Cx}
def Vn(i:Nat):TE:=λσ H Q=>∃v,σ[i]?=some (some v)/\Q v H
def tC(v:V):TE:=λ_ H Q=>Q v H
theorem Vo{x:Str}{pos:Pos}(hN:X.N[i]?=some x)(hv:Zq X.env.scope x)(hd:(x==("__debug__":Str))=false:=by decide)(hcd:(x==("__classdict__":Str))=false:=by decide):PE X (.Name x pos) (Vn i):=by
 intro ad s σ H Q I h;obtain⟨v,e,h⟩:=h;obtain⟨m,hn,hl⟩:=I.loc;obtain⟨u,r,l⟩:=hl i x v hN e hv;have fin:EP X ad σ Q u s:=⟨v,H,I,r,h⟩;rcases l with⟨hk,hm⟩|⟨hk,c,hc,hcell⟩
 ·exact wpAny_Name (wpAny_loadName_local I.ok.kind hk hn hm fin) hd
 ·rcases hk with hk|hk
  ·exact wpAny_Name (wpAny_loadName_cell I.ok.kind hk hc hcell fin) hd
  ·exact wpAny_Name (wpAny_loadName_free I.ok.kind hk hc hcell fin hcd) hd
theorem AD{i j pos}:PE X (.Constant (.int i) j pos) (tC (.int i)):=λ_ _ _ H _ I h=>wpAny_Constant_int ⟨.int i,H,I.tok _,⟨_,rfl⟩,h⟩
theorem KA{b j pos}:PE X (.Constant (.bool b) j pos) (tC (.bl b)):=λ_ _ _ H _ I h=>Constant_bool ⟨.bl b,H,I,rfl,h⟩
theorem Kq{j pos}:PE X (.Constant .none j pos) (tC .non):=λ_ _ _ H _ I h=>Constant_none ⟨.non,H,I,rfl,h⟩
theorem FV{x j pos}:PE X (.Constant (.str x) j pos) (tC (.str x)):=λ_ _ _ H _ I h=>Calls.Constant_str ⟨.str x,H,I.tok _,⟨_,rfl⟩,h⟩
def Gl(X:Cx)(x:Str):Prop:=X.env.kindOf x=some .globalImplicit
theorem Fn{E:qQ->qS->Prop}{s:qS}{x:Str}{pos:Pos}(I:AT X ad σ H s)(hg:Gl X x)(hm:X.mg x=some u)(h:Q u s)
  (hd:(x==("__debug__":Str))=false:=by decide):wpAny 0#6 X.A (eval (.Name x pos) X.env) Q E s:=
 Calls.Name_function_global I.ok.kind hg (Calls.loadGlobal_global (by rw[I.ok.glob];exact I.mod.glob.keeps I.bk) hm h) hd
theorem CL{E:qQ->qS->Prop}{s:qS}{x:Str}{pos:Pos}(I:AT X ad σ H s)(hg:Gl X x)(hm:X.mg x=none)(hv:bootBuiltins x=some u)(h:Q u s)
  (hn:x≠"__name__":=by decide) (hd:(x==("__debug__":Str))=false:=by decide):wpAny 0#6 X.A (eval (.Name x pos) X.env) Q E s:=by
 obtain⟨mb,h1,h2⟩:=I.mod.blt;exact Calls.Name_function_global I.ok.kind hg (Calls.loadGlobal_builtin (by rw[I.ok.glob];exact I.mod.glob.keeps I.bk) hm (by rw[I.ok.blt];exact h1.keeps I.bk) ((h2 x hn).trans hv) h) hd
theorem Og{x:Str}{v:V}{pos:Pos}(hg:Gl X x)(hm:X.mg x=some u)(r:A5 v u)(hd:(x==("__debug__":Str))=false:=by decide):PE X (.Name x pos) (tC v):=
 λ_ _ _ H _ I h=>Fn I hg hm ⟨v,H,I,r,h⟩ hd
theorem Tk{x:Str}{v:V}{pos:Pos}(hg:Gl X x)(hm:X.mg x=none)(hv:bootBuiltins x=some u)(r:A5 v u)(hn:x≠"__name__":=by decide)(hd:(x==("__debug__":Str))=false:=by decide):PE X (.Name x pos) (tC v):=
 λ_ _ _ H _ I h=>CL I hg hm hv ⟨v,H,I,r,h⟩ hn hd
variable{a b:Expr}{ta tb:TE}{pos:Pos}
def PC(X:Cx)(op:CmpOp)(a b:Expr)(t:TE):Prop:=
 ∀(ad:List (qR×Obj)) (s:qS) (σ:St) (H:Hp) (Q:VK),AT X ad σ H s->t σ H Q ->
  wpAny 0#6 X.A (eval a X.env) (λv s₁=>wpAny 0#6 X.A (eval b X.env) (λu s₂=>wpAny 0#6 X.A (compareOp op v u) (EP X ad σ Q) X.xe s₂) X.xe s₁) X.xe s
def tB(t:TE):TT:=λσ H Q=>t σ H λx H1=>∃c,x=.bl c/\Q c H1
theorem Vp{t:TE}(h:PC X op a b t)(h1:behindInMarks op b=false:=by first|exact nobehind _ 0#8 0#8|rfl):PE X (.Compare a [op] [b] pos) t:=λad s σ H Q I hw=>wpAny_Compare1 (h ad s σ H Q I hw) h1
theorem Vq{t:TE}(h:PC X op a b t)(h1:behindInMarks op b=false:=by first|exact nobehind _ 0#8 0#8|rfl):PT X (.Compare a [op] [b] pos) (tB t):=by intro ad s σ H Q I hw;refine wpAny_isTrue_Compare1 (BN (h ad s σ H _ I hw) λv s1 h1=>BN h1 λu s2 h2=>BN h2 λc s3 z9=>?_) h1;obtain⟨x,H1,I1,r1,q1⟩:=z9;obtain⟨d,rfl,q⟩:=q1;cases r1;exact wpAny_truthy_bool ⟨H1,I1,q⟩
theorem Dp{e:Expr}{t:TE}(h:PE X e t)(he:∀whole,isTrue e X.env whole=(do let v <-whole;standAt e.pos;holding [v] (truthy v)):=by intro _;rfl):PT X e (tB t):=by intro ad s σ H Q I hw;refine isTrue_plain (BN (h ad s σ H _ I hw) λv s1 z9=>?_) (he _);obtain⟨x,H1,I1,r1,q1⟩:=z9;obtain⟨d,rfl,q⟩:=q1;cases r1;exact wpAny_truthy_bool ⟨H1,I1,q⟩
variable{tA tB':TT}{rest:List Expr}
def Xe(t u:TT):TT:=λσ H Q=>t σ H λc H1=>if c=true then u σ H1 Q else Q false H1
def aq(t u:TT):TT:=λσ H Q=>t σ H λc H1=>if c=true then Q true H1 else u σ H1 Q
def Xf(t:TT):TT:=λσ H Q=>t σ H λc H1=>Q (!c) H1
theorem Fo(ha:PT X a tA):PW X (.BoolOp .And [a] pos) tA:=by
 intro wh ad s σ H Q I h;refine isTrue_and (BN (ha ad s σ H Q I h) λc s1 e=>?_);cases c with
 |true=>exact isTrue_and_nil e
 |false=>exact e
theorem Ej(ha:PT X a tA):PW X (.BoolOp .Or [a] pos) tA:=by
 intro wh ad s σ H Q I h;refine isTrue_or (BN (ha ad s σ H Q I h) λc s1 e=>?_);cases c with
 |false=>exact isTrue_or_nil e
 |true=>exact e
theorem IJ(ha:PT X a tA)(hb:PW X (.BoolOp .And (b::rest) pos) tB'):PW X (.BoolOp .And (a::b::rest) pos) (Xe tA tB'):=by
 intro wh ad s σ H Q I h;refine isTrue_and (BN (ha ad s σ H _ I h) λc s1 z9=>?_);obtain⟨H1,I1,q1⟩:=z9;cases c with
 |true=>exact hb wh ad s1 σ H1 Q I1 q1
 |false=>exact⟨H1,I1,q1⟩
theorem Fp(ha:PT X a tA)(hb:PW X (.BoolOp .Or (b::rest) pos) tB'):PW X (.BoolOp .Or (a::b::rest) pos) (aq tA tB'):=by
 intro wh ad s σ H Q I h;refine isTrue_or (BN (ha ad s σ H _ I h) λc s1 z9=>?_);obtain⟨H1,I1,q1⟩:=z9;cases c with
 |true=>exact⟨H1,I1,q1⟩
 |false=>exact hb wh ad s1 σ H1 Q I1 q1
theorem Ek(ha:PT X a tA):PT X (.UnaryOp .Not a pos) (Xf tA):=by intro ad s σ H Q I h;exact isTrue_not (ha ad s σ H (λc H1=>Q (!c) H1) I h)
def U5(ta tb:TE):TE:=λσ H Q=>ta σ H λx H1=>∃c,x=.bl c/\if c=true then tb σ H1 Q else Q (.bl false) H1
def Xg(ta tb:TE):TE:=λσ H Q=>ta σ H λx H1=>∃c,x=.bl c/\if c=true then Q (.bl true) H1 else tb σ H1 Q
def U6(ta:TE):TE:=λσ H Q=>ta σ H λx H1=>∃c,x=.bl c/\Q (.bl (!c)) H1
theorem GO{op}{t:TE}(h:PE X a t):PE X (.BoolOp op [a] pos) t:=λad s σ H Q I hw=>BoolOp_one (h ad s σ H Q I hw)
theorem IK(ha:PE X a ta)(hb:PE X (.BoolOp .And (b::rest) pos) tb):PE X (.BoolOp .And (a::b::rest) pos) (U5 ta tb):=by
 intro ad s σ H Q I h;refine BoolOp_and (BN (ha ad s σ H _ I h) λv s1 z9=>?_);obtain⟨x,H1,I1,r1,q1⟩:=z9;obtain⟨c,rfl,q1⟩:=q1;cases r1;refine wpAny_truthy_bool ?_;cases c with
 |true=>exact hb ad s1 σ H1 Q I1 q1
 |false=>exact⟨.bl false,H1,I1,rfl,q1⟩
theorem U7(ha:PE X a ta)(hb:PE X (.BoolOp .Or (b::rest) pos) tb):PE X (.BoolOp .Or (a::b::rest) pos) (Xg ta tb):=by
 intro ad s σ H Q I h;refine BoolOp_or (BN (ha ad s σ H _ I h) λv s1 z9=>?_);obtain⟨x,H1,I1,r1,q1⟩:=z9;obtain⟨c,rfl,q1⟩:=q1;cases r1;refine wpAny_truthy_bool ?_;cases c with
 |false=>exact hb ad s1 σ H1 Q I1 q1
 |true=>exact⟨.bl true,H1,I1,rfl,q1⟩
theorem Vr(ha:PE X a ta):PE X (.UnaryOp .Not a pos) (U6 ta):=by intro ad s σ H Q I h;refine UnaryOp_ (BN (ha ad s σ H _ I h) λv s1 z9=>?_);obtain⟨x,H1,I1,r1,q1⟩:=z9;obtain⟨c,rfl,q1⟩:=q1;cases r1;exact not_of (wpAny_truthy_bool ⟨.bl (!c),H1,I1,rfl,q1⟩)
end
def Ae(K:qV)(H:Hp)(a:qR)(xs:List V):Prop:=
 Rd H a (.lst xs) \/
  ∃(o:Obj) (its:Array qQ) (n:Nat),K.lookup a=some o/\o.cls=.type "list"/\o.dict=none/\o.data=.seq its n/\its.size<=sizeLine/\Av xs its.toList
def Ah(K:qV)(H:Hp)(a:qR)(xs:List V):Prop:=
 Rd H a (.tup xs) \/
  ∃(o:Obj) (its:Array qQ) (n:Nat),K.lookup a=some o/\o.cls=.type "tuple"/\o.data=.seq its n/\its.size<=sizeLine/\Av xs its.toList
noncomputable def Tl:qQ->Option V
 |.none=>some .non
 |.bool b=>some (.bl b)
 |.int i _=>some (.int i)
 |.str x _=>some (.str x)
 |.bytes b _=>some (.byt b)
 |.float b _=>some (.flt b)
 |.ref a=>some (.ref a)
 |.type n=>some (.ty n)
 |_=>none
theorem A5.abs{x:V}(r:A5 x u):Tl u=some x:=by
 cases x with
 |non=>cases r;rfl
 |bl _=>cases r;rfl
 |int _=>obtain⟨t,rfl⟩:=r;rfl
 |str _=>obtain⟨t,rfl⟩:=r;rfl
 |byt _=>obtain⟨t,rfl⟩:=r;rfl
 |flt _=>obtain⟨t,rfl⟩:=r;rfl
 |ref _=>cases r;rfl
 |ty _=>cases r;rfl
theorem A5.inj{x y:V}(r:A5 x u)(q:A5 y u):x=y:=Option.some.inj (r.abs.symm.trans q.abs)
theorem Av.inj:∀{xs ys:List V} {us:List qQ},Av xs us->Av ys us->xs=ys:=by
 intro _ ys _ h
 induction h generalizing ys with
 |nil=>intro g;cases g;rfl
 |cons r _ ih =>
  intro g;cases g with
  |cons r' t'=>rw[r.inj r',ih t']
section
variable{X:Cx}{s:qS}{ys:List V}
theorem Ae.of{K:qV}(h:H a=some (.lst xs)):Ae K H a xs:=.inl (.inl h)
theorem Ah.of{K:qV}(h:H a=some (.tup xs)):Ah K H a xs:=.inl (.inl h)
theorem AT.list(I:AT X ad σ H s)(h:Ae X.K H a xs):∃its:List qQ,Av xs its/\PlainL s.heap a its.toArray/\xs.length<=sizeLine:=by
 rcases h with h|⟨o,its,n,hk,hc,hd,hs,hz,r⟩
 ·obtain⟨z,its,n,r,e⟩:=h.ok I.hok;exact⟨its,r,⟨_,n,e,rfl,rfl,rfl⟩,z⟩
 ·refine⟨its.toList,r,⟨o,n,I.kIn a o hk,hc,hd,by simpa using hs⟩,?_⟩;have e:=r.length;simp only[Array.length_toList]at e;lia
theorem AT.tuple(I:AT X ad σ H s)(h:Ah X.K H a xs):∃its:List qQ,Av xs its/\IsTup s.heap a its.toArray/\xs.length<=sizeLine:=by
 rcases h with h|⟨o,its,n,hk,hc,hs,hz,r⟩
 ·obtain⟨z,its,r,p⟩:=h.ok I.hok;exact⟨its,r,p,z⟩
 ·refine⟨its.toList,r,⟨o,I.kIn a o hk,hc,n,by simpa using hs⟩,?_⟩;have e:=r.length;simp only[Array.length_toList]at e;lia
theorem AT.list_inj(I:AT X ad σ H s)(h:Ae X.K H a xs)(h':Ae X.K H a ys):xs=ys:=by
 obtain⟨its,r,⟨o,n,e,_,_,d⟩,_⟩:=I.list h;obtain⟨its',r',⟨o',n',e',_,_,d'⟩,_⟩:=I.list h';rw[e]at e';cases e';rw[d]at d'
 injection d' with d1 _
 have:its=its':=by simpa using qP Array.toList d1
 subst this;exact r.inj r'
theorem AT.tuple_inj(I:AT X ad σ H s)(h:Ah X.K H a xs)(h':Ah X.K H a ys):xs=ys:=by
 obtain⟨its,r,⟨o,e,_,n,d⟩,_⟩:=I.tuple h;obtain⟨its',r',⟨o',e',_,n',d'⟩,_⟩:=I.tuple h';rw[e]at e';cases e';rw[d]at d'
 injection d' with d1 _
 have:its=its':=by simpa using qP Array.toList d1
 subst this;exact r.inj r'
end
abbrev Cx.wish(X:Cx)(E:qQ->qS->Prop):Cx:={X with xe:=E}
abbrev Cx.nox(X:Cx):Cx:=X.wish λ_ _=>False
theorem Cx.Ok.wish{X:Cx}(ok:X.Ok)(E:qQ->qS->Prop):(X.wish E).Ok:=
 ⟨ok.mod,ok.kind,ok.glob,ok.blt,ok.above,ok.inj,ok.has,ok.cab,ok.hd,ok.frames,ok.stk,ok.exf,ok.bs,ok.bsz,ok.noex,ok.exfs,ok.funs,ok.frf⟩
theorem Cx.Ok.unwish{X:Cx}(ok:(X.wish E).Ok):X.Ok:=
 ⟨ok.mod,ok.kind,ok.glob,ok.blt,ok.above,ok.inj,ok.has,ok.cab,ok.hd,ok.frames,ok.stk,ok.exf,ok.bs,ok.bsz,ok.noex,ok.exfs,ok.funs,ok.frf⟩
variable{D:HU}
section
variable{X:Cx}{s:qS}
theorem AT.wish(I:AT X ad σ H s)(E:qQ->qS->Prop):AT (X.wish E) ad σ H s:=⟨I.ok.wish E,I.os,I.bare,I.base,I.loc,I.cell,I.free,I.freeC,I.pin,I.hok,I.len⟩
theorem AT.unwish(I:AT (X.wish E) ad σ H s):AT X ad σ H s:=⟨I.ok.unwish,I.os,I.bare,I.base,I.loc,I.cell,I.free,I.freeC,I.pin,I.hok,I.len⟩
theorem SP.unwish{f:Flow}(h:SP (X.wish E) ad D f s'):SP X ad D f s':=by
 cases f with
 |next=>obtain⟨σ',H',I,q⟩:=h;exact⟨σ',H',I.unwish,q⟩
 |brk=>obtain⟨σ',H',I,q⟩:=h;exact⟨σ',H',I.unwish,q⟩
 |cont=>obtain⟨σ',H',I,q⟩:=h;exact⟨σ',H',I.unwish,q⟩
 |ret u=>obtain⟨v,σ',H',I,r,q⟩:=h;exact⟨v,σ',H',I.unwish,r,q⟩
theorem FU.nox{st:List Stmt}{t:TS}(h:FU X.nox st t):FU X st t:=λad s σ H D I hw =>
 qM (h ad s σ H D (I.wish _) hw) (λ_ _ q=>q.unwish) λ_ _ z=>False.elim z
end
variable{tc:TT}
section
variable{X:Cx}{st:Stmt}{rest:List Stmt}{t u:TS}{e:Expr}{te:TE}{pos:Pos}
def Q8:TS:=λD σ H=>D.nx σ H
def P3(t u:TS):TS:=λD σ H=>t {D with nx:=u D} σ H
theorem AX:FU X [] Q8:=λ_ _ σ H _ I h=>wpAny_execs_nil ⟨σ,H,I,h⟩
theorem AB(h1:PS X st t)(h2:FU X rest u):FU X (st::rest) (P3 t u):=by
 intro ad s σ H D I h;refine wpAny_execs_cons (BN (h1 ad s σ H {D with nx:=u D} I h) λf s1 q=>?_);cases f with
 |next =>
  rcases q with⟨σ',H',I',q⟩;exact h2 ad s1 σ' H' D I' q
 |ret v=>exact q
 |brk=>exact q
 |cont=>exact q
theorem AF(h1:PS X st t):FU X [st] t:=by
 intro ad s σ H D I h;refine wpAny_execs_cons (BN (h1 ad s σ H D I h) λf s1 q=>?_);cases f with
 |next=>exact wpAny_execs_nil q
 |ret v=>exact q
 |brk=>exact q
 |cont=>exact q
theorem AT.quiet{s:qS}(I:AT X ad σ H s):interactive X.env=false:=by simp[interactive,I.ok.kind]
def U8(te:TE):TS:=λD σ H=>te σ H λ_ H1=>D.nx σ H1
theorem A4(he:PE X e te)(hs:swapsWith e none pos.line X.env=pure false:=by rfl):PS X (.Expr e pos) (U8 te):=by intro ad s σ H D I h;exact wpAny_Expr_any (BN (he ad s σ H _ I h) λv s1 ⟨x,H1,I1,r1,q1⟩=>⟨σ,H1,I1,q1⟩) I.quiet hs
def Xh(te:TE):TS:=λD σ H=>te σ H D.rt
theorem AO(he:PE X e te):PS X (.Return (some e) pos) (Xh te):=by intro ad s σ H D I h;exact wpAny_Return_some (BN (he ad s σ H _ I h) λv s1 ⟨x,H1,I1,r1,q1⟩=>⟨x,σ,H1,I1,r1,q1⟩)
def Vs(c:TT)(t u:TS):TS:=λD σ H=>c σ H λb H1=>if b=true then t D σ H1 else u D σ H1
theorem A3{c:Expr}{a b:List Stmt}(hc:PT X c tc)(ha:FU X a t)(hb:FU X b u):PS X (.If c a b pos) (Vs tc t u):=by
 intro ad s σ H D I h;refine wpAny_If (BN (hc ad s σ H _ I h) λd s1 z9=>?_);obtain⟨H1,I1,q1⟩:=z9;cases d with
 |true=>exact ha ad s1 σ H1 D I1 q1
 |false=>exact hb ad s1 σ H1 D I1 q1
end
abbrev TG:=V->St->Hp->(St->Hp->Prop)->Prop
abbrev Tn:=List V->St->Hp->(St->Hp->Prop)->Prop
def PG(X:Cx)(target:Expr)(t:TG):Prop:=
 ∀(ad:List (qR×Obj)) (s:qS) (σ:St) (H:Hp) (v:V) (u:qQ) (Q:St->Hp->Prop),AT X ad σ H s->A5 v u->t v σ H Q ->
  wpAny 0#6 X.A (assign target X.env u) (λ_ s'=>∃σ' H',AT X ad σ' H' s'/\Q σ' H') X.xe s
def Xi(X:Cx)(ts:List Expr)(t:Tn):Prop:=
 ∀(ad:List (qR×Obj)) (s:qS) (σ:St) (H:Hp) (vs:List V) (us:List qQ) (Q:St->Hp->Prop),AT X ad σ H s->Av vs us->t vs σ H Q ->
  wpAny 0#6 X.A (assignInOrder ((assignEach ts X.env).map (·.2)) us) (λ_ s'=>∃σ' H',AT X ad σ' H' s'/\Q σ' H') X.xe s
abbrev Vt:=V->V->V->Hp->(Hp->Prop)->Prop
def Xj(X:Cx)(t:Vt):Prop:=
 ∀(ad:List (qR×Obj)) (s:qS) (σ:St) (H:Hp) (o i v:V) (ov iv u:qQ) (Q:Hp->Prop),AT X ad σ H s->A5 o ov->A5 i iv->A5 v u->t o i v H Q ->
  wpAny 0#6 X.A (setItem ov iv u) (λ_ s'=>∃H',AT X ad σ H' s'/\Q H') X.xe s
variable{es:List Expr}{to te:TE}{tg:Expr}
section
variable{X:Cx}{pos:Pos}
def Fq(i:Nat):TG:=λv σ H Q=>Q (σ.set i (some v)) H
theorem Hf{x:Str}(hN:X.N.Nodup)(hi:X.N[i]?=some x)(hx:U4 X.env.scope x)(hf:X.fn x=true\/X.env.scope.names.lookup x=some .local:=by first|exact .inl rfl|exact .inr rfl|assumption):PG X (.Name x pos) (Fq i):=by intro ad s σ H v u Q I r h;exact wpAny_assign_Name (Lq I hN hi hx r (λs' I'=>⟨_,H,I',h⟩) hf)
def Zs:Tn:=λvs σ H Q=>vs=[]/\Q σ H
def Xk(t:TG)(u:Tn):Tn:=λvs σ H Q=>∃v r,vs=v::r/\t v σ H λσ' H'=>u r σ' H' Q
theorem C4:Xi X [] Zs:=by intro ad s σ H vs us Q I r h;obtain⟨e,h⟩:=h;subst e;cases r;exact assignInOrder_nil ⟨σ,H,I,h⟩
theorem BJ{e:Expr}{t:TG}{u:Tn}(h1:PG X e t)(h2:Xi X es u)
  (hs:(assignEach (e::es) X.env).map (·.2)=assign e X.env::(assignEach es X.env).map (·.2):=by rfl):Xi X (e::es) (Xk t u):=by
 intro ad s σ H vs us Q I r h;obtain⟨v,vr,e1,h⟩:=h;subst e1;cases r with
 |cons r rr =>
  rw[hs];refine assignInOrder_cons (BN (h1 ad s σ H _ _ _ I r h) λ_ s1 z9=>?_);obtain⟨σ1,H1,I1,q1⟩:=z9;exact h2 ad s1 σ1 H1 _ _ Q I1 rr q1
def Zt(K:qV)(n:Nat)(t:Tn):TG:=λv σ H Q=>∃a xs,v=.ref a/\Ah K H a xs/\xs.length=n/\t xs σ H Q
theorem El{k:Nat}{t:Tn}{n:Nat}(hc:X.calm=true)(h:Xi X es t)
  (hn:(assignEach es X.env).length=n:=by rfl) (hst:(assignEach es X.env).findIdx? (·.1)=none:=by rfl):PG X (.Tuple es k pos) (Zt X.K n t):=by
 intro ad s σ H v u Q I r hw;rcases hw with⟨a,xs,e1,hq,hl,hw⟩;subst e1;cases r;rcases I.tuple hq with⟨its,rv,ht,hz⟩;refine assign_Tuple_tuple (I.ok.hd hc) ht (by simp[hn,<-hl,rv.length]) hst λh' hx=>?_;have I1:AT X ad σ H {s with heap:=h'}:=I.kept (t':=s.toks) λb o e=>hx b o (b9 (bP e)) e
 exact h ad _ σ H xs _ Q I1 (by simpa using rv) hw
def Zu(to ti:TE)(t:Vt):TG:=λv σ H Q=>to σ H λo H1=>ti σ H1 λi H2=>t o i v H2 λH3=>Q σ H3
theorem Q9{o i:Expr}{ti:TE}{t:Vt}(ho:PE X o to)(hi:PE X i ti)(hs:Xj X t)
  (ha:∀v,assign (.Subscript o i pos) X.env v=(do
   let ov <-holding [v] (eval o X.env)
   let iv <-holding [v,ov] (eval i X.env)
   standAt pos
   holding [v,ov,iv] (setItem ov iv v)
   release [v,ov,iv] []):=by intro _;rfl):PG X (.Subscript o i pos) (Zu to ti t):=by
 intro ad s σ H v u Q I r h;rw[ha];refine qC (qO (BN (ho ad s σ H _ I h) λov s1 z9=>?_));obtain⟨x,H1,I1,r1,q1⟩:=z9;refine qC (qO (BN (hi ad s1 σ H1 _ I1 q1) λiv s2 z9=>?_));obtain⟨y,H2,I2,r2,q2⟩:=z9;refine qC (wpAny_standAt (qC (qO (BN (hs ad s2 σ H2 x y v ov iv u _ I2 r1 r2 r q2) λ_ s3 z9=>?_))));obtain⟨H3,I3,q3⟩:=z9;exact wpAny_release ⟨σ,H3,I3,q3⟩
def P4(te:TE)(g:TG):TS:=λD σ H=>te σ H λx H1=>g x σ H1 D.nx
theorem NT{e:Expr}{g:TG}(he:PE X e te)(hg:PG X tg g)(hs:swapsWithSole [tg] e pos.line X.env=pure false:=by rfl)(hw:swappedStores [tg] e X.env=pure none:=by rfl)
  (h1:(assignEach [tg] X.env).map (·.2)=[assign tg X.env]:=by rfl):PS X (.Assign [tg] e pos) (P4 te g):=by
 intro ad s σ H D I h;refine wpAny_Assign_stores (BN (he ad s σ H _ I h) λv s1 z9=>?_) hs hw;obtain⟨x,H1,I1,r1,q1⟩:=z9;rw[h1];exact BN (hg ad s1 σ H1 x v _ I1 r1 q1) λ_ s2 q=>q
theorem IL{x:Str}{e:Expr}{pos':Pos}(hN:X.N.Nodup)(hi:X.N[i]?=some x)(hx:U4 X.env.scope x)(he:PE X e te)(hs:swapsWith e (some (.Name x pos')) pos.line X.env=pure false:=by rfl)(hf:X.fn x=true\/X.env.scope.names.lookup x=some .local:=by first|exact .inl rfl|exact .inr rfl|assumption):
  PS X (.Assign [.Name x pos'] e pos) (P4 te (Fq i)):=by
 intro ad s σ H D I h;refine wpAny_Assign_Name (BN (he ad s σ H _ I h) λv s1 z9=>?_) hs;obtain⟨y,H1,I1,r1,q1⟩:=z9;exact Lq I1 hN hi hx r1 (λs2 I2=>⟨_,H1,I2,q1⟩) hf
end
variable{body:List Stmt}
section
variable{X:Cx}{pos:Pos}
def RA(c:TT)(tb:TS):TS:=λD σ H=>∃W:Nat->St->Hp->Prop,(∃m,W m σ H)/\∀m σ H,W m σ H ->
 c σ H λb H1=>if b=true then ∃N:St->Hp->Prop,(∀σ' H',N σ' H'->∃m',m'<m/\W m' σ' H')/\tb {D with nx:=N,ct:=N,bk:=D.nx} σ H1 else D.nx σ H1
theorem Em{c:Expr}{tb:TS}(hp:PassesOwn 0#6 X.A X.env X.xe)(hc:PT X c tc)(hb:FU X body tb):PS X (.While c body [] pos) (RA tc tb):=by
 intro ad s σ H D I h;rcases h with⟨W,⟨m0,w0⟩,turn⟩;refine wpAny_While (codeAny_whileLoop (λn s'=>∃σ' H',AT X ad σ' H' s'/\W n σ' H') ?_ m0 ⟨σ,H,I,w0⟩);intro n s1 hRq;rcases hRq with⟨σ1,H1,I1,w1⟩;refine wpAny_passesOwn hp (BN (hc ad s1 σ1 H1 _ I1 (turn n σ1 H1 w1)) λb s2 z9=>?_);obtain⟨H2,I2,q2⟩:=z9;cases b with
 |true =>
  obtain⟨N,hN,q2⟩:=q2;rw[qF rfl];refine wpAny_passesOwn hp (BN (hb ad s2 σ1 H2 _ I2 q2) λf s3 q3=>?_);cases f with
  |next =>
   rcases q3 with⟨σ3,H3,I3,n3⟩;obtain⟨m',hm,w3⟩:=hN σ3 H3 n3;exact⟨m',hm,σ3,H3,I3,w3⟩
  |cont =>
   rcases q3 with⟨σ3,H3,I3,n3⟩;obtain⟨m',hm,w3⟩:=hN σ3 H3 n3;exact⟨m',hm,σ3,H3,I3,w3⟩
  |brk=>exact q3
  |ret v=>exact q3
 |false =>
  rw[qE bf];exact wpAny_execs_nil ⟨σ1,H2,I2,q2⟩
end
structure It where
 go:Nat->Hp->Prop
 yld:Nat->Hp->V->Hp->Prop
 stop:Nat->Hp->Prop
def C5(X:Cx)(ad:List (qR×Obj))(H:Hp)(b:qR):Prop:=
 H b=none/\b≠X.env.locals/\b∉X.fs/\(b∈X.ex\/X.s₀.heap.objs.size<=b)/\(∀x c,X.env.cells.lookup x=some c->c≠b)/\∀p∈X.pn++ad,p.1≠b
variable{H':Hp}
theorem AT.fpOk{X:Cx}{s:qS}{b:qR}(I:AT X ad σ H s)(hb:s.heap.objs.size<=b)(hn:H' b=none):C5 X ad H' b:=by
 refine⟨hn,fG (bR I.lt hb),I.nofs hb,.inr (cK I.sz hb),λx c e z=>?_,λp hp z=>?_⟩
 ·obtain⟨v,q⟩:=I.cell x c e;exact qG (bR q.lt (by rw[z];exact hb)) (bu _)
 ·exact qG (bR (bP (I.pin p hp).1) (by rw[z];exact hb)) (bu _)
structure Kr(P:qT)(w:qU)(K:qV)(tg:Expr)(J:It)(fp:List qR)(it:qR)(tn:Nat->Heap->Prop):Prop where
 mem:it∈fp
 obj:∀i h,tn i h->∀b∈fp,∃o,h.get? b=some o/\∀v,o.data≠.cell v
 keep:∀i h h',tn i h->(∀b∈fp,∀o,h.get? b=some o->h'.get? b=some o)->tn i h'
 item:∀(X:Cx),X.prog=P->X.w=w->X.K=K->X.calm=true->∀(i:Nat) (ad:List (qR×Obj)) (s:qS) (σ:St) (H:Hp) (E:qQ->qS->Prop),AT X ad σ H s->(∀b∈fp,C5 X ad H b)->tn i s.heap->J.go i H ->
  wpAny (model P w) X.A (pyNext (.ref it)) (λr s1=>∃u,r=some u /\
   wpAny (model P w) X.A (letOwnedTupleGo tg (.ref it) u) (λ_ s2=>∃x H',AT X ad σ H' s2/\A5 x u/\J.yld i H x H'/\tn (i+1) s2.heap/\∀b∈fp,H' b=none) E s1) E s
 done:∀(X:Cx),X.prog=P->X.w=w->X.K=K->X.calm=true->∀(i:Nat) (ad:List (qR×Obj)) (s:qS) (σ:St) (H:Hp) (E:qQ->qS->Prop),AT X ad σ H s->(∀b∈fp,C5 X ad H b)->tn i s.heap->J.stop i H ->
  wpAny (model P w) X.A (pyNext (.ref it)) (λr s1=>r=none/\AT X ad σ H s1) E s
 self:∀(A:Around) (i:Nat) (s:qS) (Q:qQ->qS->Prop) (E:qQ->qS->Prop),tn i s.heap->Q (.ref it) s->wpAny (model P w) A (pyIter (.ref it)) Q E s
abbrev TI:=St->Hp->(It->Hp->Prop)->Prop
def au(X:Cx)(ad:List (qR×Obj))(σ:St)(tg:Expr)(R:It->Hp->Prop)(itv:qQ)(s2:qS):Prop:=
 ∃(it:qR) (fp:List qR) (tn:Nat->Heap->Prop) (J:It) (H':Hp),itv=.ref it/\AT X ad σ H' s2/\Kr X.prog X.w X.K tg J fp it tn/\tn 0 s2.heap/\(∀b∈fp,C5 X ad H' b)/\R J H'
def PI(X:Cx)(tg iter:Expr)(wi:TI):Prop:=
 ∀(ad:List (qR×Obj)) (s:qS) (σ:St) (H:Hp) (R:It->Hp->Prop),AT X ad σ H s->wi σ H R ->
  wpAny 0#6 X.A (eval iter X.env) (λv s1=>wpAny 0#6 X.A (pyIter v) (au X ad σ tg R) X.xe s1) X.xe s
theorem Lr{M:Model}{A:Around}{s:qS}{o:Obj}{n:String}{vs:Array qQ}{Q:Unit->qS->Prop}(ho:s.heap.get? it=some o)(hc:o.cls=.type n)(hd:o.data=.fields vs)
  (hn:["enumerate","zip","dict_itemiterator","dict_reverseitemiterator","odict_iterator","itertools.zip_longest","itertools.pairwise"].contains n=false) (hQ:Q () s):wpAny M A (letOwnedTupleGo tg (.ref it) u) Q E s:=by
 unfold letOwnedTupleGo
 cases tg<;>first
  |exact qD hQ
  | (cases u<;>first
    |exact qD hQ
    | (refine qC (wpAny_load ho ?_)
       rw[hc,hd];show wpAny M A (if (["enumerate","zip","dict_itemiterator","dict_reverseitemiterator","odict_iterator","itertools.zip_longest","itertools.pairwise"].contains n&&vs[0]?==some (rawInt _))=true then _ else _) Q E s;rw[qE (by intro h;rw[hn,Bool.false_and]at h;cases h)];exact qD hQ))
noncomputable def Xa(K:qV)(a:qR):It:=
 ⟨λi H=>∃xs x,Ae K H a xs/\xs[i]?=some x,λi H x H'=>H'=H/\∀xs,Ae K H a xs->xs[i]?=some x,λi H=>∃xs,Ae K H a xs/\xs.length<=i⟩
noncomputable def U9(lo:Int)(n:Nat):It:=⟨λi _=>i<n,λi H x H'=>H'=H/\x=.int (lo+i),λi _=>n<=i⟩
theorem P5{P:qT}{w:qU}{K:qV}(a it:qR):Kr P w K tg (Xa K a) [it] it (λi h=>h.IsListIter it a i) where
 mem:=by simp
 obj:=λi h st b hb=>by
  have e:b=it:=by simpa using hb
  subst e;rcases st with⟨o,e,c,d⟩;exact⟨o,e,λv z=>by rw[d]at z;cases z⟩
 keep:=λi h h' st k=>st.at λo e=>k it 1#4 o e
 item:=by intro X hP hw hK hc i ad s σ H E I hf st hg;subst hP hw hK;rcases hg with⟨xs,x,hq,hx⟩;rcases I.list hq with⟨its,rv,p,hz⟩;obtain⟨u,hu,ru⟩:=rv.get hx;rcases hf it 1#4 with⟨f0,f1,f2,f3,f4,f5⟩;refine wpAny_pyNext_list_item st p.isList (x:=u) (by simpa using hu) λh' st' sb=>?_;have I1:AT X ad σ H {s with heap:=h'}:=I.turned (t':=s.toks) (λb o hb e=>(sb.2 b hb).trans e) f0 f1 f3 f4 f5;rcases id st' with⟨o,e,c,d⟩;exact⟨u,rfl,Lr (s:={s with heap:=h'}) e c d 0#8 ⟨x,H,I1,ru,⟨rfl,λys hy=>by rw[I.list_inj hy hq];exact hx⟩,st',λb hb=>(hf b hb).1⟩⟩
 done:=by intro X hP hw hK hc i ad s σ H E I hf st hg;subst hP hw hK;obtain⟨xs,hq,hx⟩:=hg;rcases I.list hq with⟨its,rv,p,hz⟩;rcases hf it 1#4 with⟨f0,f1,f2,f3,f4,f5⟩;have hl:=rv.length;exact wpAny_pyNext_list_end (I.ok.hd hc) st p.isList (by simp;lia) λh' eb=>⟨rfl,I.turned (t':=s.toks) (λb o hb e=>eb b o hb e) f0 f1 f3 f4 f5⟩
 self:=λ_ _ _ _ _ st h=>wpAny_pyIter_listiter st h
theorem NU{P:qT}{w:qU}{K:qV}(it:qR)(lo:Int)(n:Nat):Kr P w K tg (U9 lo n) [it] it (λi h=>IsRangeIter h it (lo+(i:Nat)*1) ((n:Int)-(i:Nat)) 1) where
 mem:=by simp
 obj:=λi h st b hb=>by
  have e:b=it:=by simpa using hb
  subst e
  exact⟨_,st,λv z=>by have z':Data.fields _=Data.cell v:=z;cases z'⟩
 keep:=λi h h' st k=>k it 1#4 _ st
 item:=by intro X hP hw hK hc i ad s σ H E I hf st hg;subst hP hw hK;rcases hf it 1#4 with⟨f0,f1,f2,f3,f4,f5⟩;have W:=Walks.range (prog:=X.prog) (w:=X.w) (I.ok.hd hc) it lo 1 n;refine W.item i s _ _ hg st λv h' tk hv st' kk=>?_;obtain⟨t,rfl⟩:=hv;have I1:AT X ad σ H {s with heap:=h',toks:=tk}:=I.turned (λb o hb e=>kk b o (by simpa using hb) e) f0 f1 f3 f4 f5;refine⟨_,rfl,Lr (s:={s with heap:=h',toks:=tk}) (n:="range_iterator") st' rfl rfl 0#8 ⟨.int (lo+i),H,I1,⟨t,?_⟩,⟨rfl,rfl⟩,st',λb hb=>(hf b hb).1⟩⟩;rw[fH]
 done:=by intro X hP hw hK hc i ad s σ H E I hf st hg;subst hP hw hK;rcases hf it 1#4 with⟨f0,f1,f2,f3,f4,f5⟩;exact wpAny_pyNext_range_end (I.ok.hd hc) st (by have:n<=i:=hg;lia) λh' eb=>⟨rfl,I.turned (t':=s.toks) (λb o hb e=>eb b o hb e) f0 f1 f3 f4 f5⟩
 self:=λ_ _ _ _ _ st h=>wpAny_pyIter_rangeiter st h
variable{tl:TE}{lo:Int}{ta:TA}{fp:List qR}
section
variable{X:Cx}
def RB(K:qV)(tl:TE):TI:=λσ H R=>tl σ H λx H1=>∃a,x=.ref a/\(∃xs,Ae K H1 a xs)/\R (Xa K a) H1
theorem Oh{l:Expr}(hl:PE X l tl):PI X tg l (RB X.K tl):=by
 intro ad s σ H R I h;refine BN (hl ad s σ H _ I h) λv s1 z9=>?_;obtain⟨x,H1,I1,r1,q1⟩:=z9;obtain⟨a,e,⟨xs,hq⟩,q⟩:=q1;subst e;cases r1;obtain⟨its,rv,p,hz⟩:=I1.list hq;refine wpAny_pyIter_list p.isList ?_;refine⟨s1.heap.objs.size,[s1.heap.objs.size],_,_,H1,rfl,I1.kept (t':=s1.toks) λb o e=>bK _ e,P5 a _,⟨_,ba _ rfl,rfl,rfl⟩,λb hb=>?_,q⟩;have e:b=s1.heap.objs.size:=by simpa using hb
 subst e;exact I1.fpOk (bL _) (I1.hok.fresh (bL _))
theorem Ls{s:qS}{R:It->Hp->Prop}{hi:Int}{t u v:Tok}{tk:Nat}(I:AT X ad σ H s)(h1:-(2^62)<=lo)(h2:lo<2^62)(h3:-(2^62)<=hi)(h4:hi<2^62)
  (q:R (U9 lo (hi-lo).toNat) H):wpAny 0#6 X.A (pyIter (.ref s.heap.objs.size)) (au X ad σ tg R) E {s with heap:=s.heap.push {cls:=.type "range",data:=.fields #[.int lo t,.int hi u,.int 1 v]},toks:=tk}:=by
 refine wpAny_pyIter_range (IsRange.new ..) (small_one h1 h2 h3 h4) ?_;have I1:AT X ad σ H {s with heap:=s.heap.push {cls:=.type "range",data:=.fields #[.int lo t,.int hi u,.int 1 v]},toks:=tk}:=I.kept λb o e=>bK _ e
 refine⟨(s.heap.push {cls:=.type "range",data:=.fields #[.int lo t,.int hi u,.int 1 v]}).objs.size,[(s.heap.push {cls:=.type "range",data:=.fields #[.int lo t,.int hi u,.int 1 v]}).objs.size],_,_,H,rfl,
  I1.kept (t':=tk) λb o e=>bK _ e,NU _ lo (hi-lo).toNat,?_,λb hb=>?_,q⟩
 ·have e1:lo+((0:Nat):Int)*1=lo:=by simp
  have e2:(((hi-lo).toNat:Nat):Int)-((0:Nat):Int)=Builtin.Range.rangeSize lo hi 1:=by rw[rangeSize_one];split<;>lia
  show IsRangeIter _ _ (lo+((0:Nat):Int)*1) ((((hi-lo).toNat:Nat):Int)-((0:Nat):Int)) 1;rw[e1,e2];exact ba _ rfl
 ·have e:b=(s.heap.push {cls:=.type "range",data:=.fields #[.int lo t,.int hi u,.int 1 v]}).objs.size:=by simpa using hb
  subst e;exact I1.fpOk (bL _) (I1.hok.fresh (bL _))
def Xl(ta:TA):TI:=λσ H R=>ta σ H λvs H1=>∃j:Int,vs=[.int j]/\-(2^62)<=j/\j<2^62/\R (U9 0 j.toNat) H1
def Xm(ta:TA):TI:=λσ H R=>ta σ H λvs H1=>∃i j:Int,vs=[.int i,.int j]/\(-(2^62)<=i/\i<2^62/\-(2^62)<=j/\j<2^62)/\R (U9 i (j-i).toNat) H1
theorem Az{a:Expr}{p pos:Pos}(hg:Gl X "range")(hm:X.mg "range"=none)(ha:PA X [a] ta)(hs:starEach [a] X.env=[(false,eval a X.env)]:=by rfl):PI X tg (.Call (.Name "range" p) [a] [] pos) (Xl ta):=by
 intro ad s σ H R I h;refine Call_ (CL I hg hm boot_range (bz (BN (ha pos ad s σ H _ I h) λus s1 z9=>?_) hs rfl));obtain⟨vs,H1,I1,r1,q1⟩:=z9;rcases q1 with⟨j,e,q1,q2,q⟩;subst e;cases r1 with
 |cons r rr =>
  cases rr;obtain⟨t,rfl⟩:=r;exact call_range_1 (Ls I1 0#1 0#1 q1 q2 (by simpa using q))
theorem KB{a b:Expr}{p pos:Pos}(hg:Gl X "range")(hm:X.mg "range"=none)(ha:PA X [a,b] ta)(hs:starEach [a,b] X.env=[(false,eval a X.env),(false,eval b X.env)]:=by rfl)(hs2:starEach [b] X.env=[(false,eval b X.env)]:=by rfl):
  PI X tg (.Call (.Name "range" p) [a,b] [] pos) (Xm ta):=by
 intro ad s σ H R I h;refine Call_ (CL I hg hm boot_range (bz (BN (ha pos ad s σ H _ I h) λus s1 ⟨vs,H1,I1,r1,q1⟩=>?_) (by rw[hs,hs2]) (by rw[hs2];rfl)));rcases q1 with⟨i,j,e,⟨q1,q2,q3,q4⟩,q⟩;subst e;cases r1 with
 |cons r rr =>
  cases rr with
  |cons r' rr =>
   cases rr;obtain⟨t,rfl⟩:=r;obtain⟨t',rfl⟩:=r';exact call_range_2 (Ls I1 q1 q2 q3 q4 q)
def Zv(wi:TI)(g:TG)(tb:TS):TS:=λD σ H=>wi σ H λJ H1=>∃W:Nat->Nat->St->Hp->Prop,(∃m,W 0 m σ H1)/\∀i m σ H,W i m σ H ->
 (J.stop i H/\D.nx σ H)\/(J.go i H/\∃N:St->Hp->Prop,(∀σ' H',N σ' H'->∃m',m'<m/\W (i+1) m' σ' H')/\∀x H',J.yld i H x H'->g x σ H' λσ2 H2=>tb {D with nx:=N,ct:=N,bk:=D.nx} σ2 H2)
noncomputable def GP(fp:List qR)(h:Heap):List (qR×Obj):=fp.filterMap λb=>(h.get? b).map λo=>(b,o)
theorem Cg{h:Heap}{b:qR}{o:Obj}(hb:b∈fp)(e:h.get? b=some o):(b,o)∈GP fp h:=fq.mpr ⟨b,hb,by rw[e];rfl⟩
theorem P6{h:Heap}{p:qR×Obj}(hp:p∈GP fp h):p.1∈fp/\h.get? p.1=some p.2:=by
 obtain⟨b,hb,e⟩:=fq.mp hp;cases q:h.get? b with
 |none=>rw[q]at e;cases e
 |some o =>
  rw[q]at e;have e':(b,o)=p:=Option.some.inj e;subst e';exact⟨hb,q⟩
theorem AT.pinned{s:qS}(I:AT X ad σ H s)(hf:∀b∈fp,C5 X ad H b)(ho:∀b∈fp,∃o,s.heap.get? b=some o/\∀v,o.data≠.cell v):AT X (ad++GP fp s.heap) σ H s:=
 I.pins_of λp hp=>(bQ.mp hp).elim (λz=>I.pin p (bW _ z)) λz=>by obtain⟨hb,e⟩:=P6 z;obtain⟨f0,f1,f2,_⟩:=hf p.1 hb;obtain⟨o,e',d⟩:=ho p.1 hb;rw[e]at e';cases e';exact⟨e,f0,f1,f2,d⟩
theorem AT.unpinned{pl:List (qR×Obj)}{s:qS}(I:AT X (ad++pl) σ H s):AT X ad σ H s:=I.pins_of λp hp=>I.pin p (bW _ (eL _ hp))
theorem A9{iter:Expr}{wi:TI}{g:TG}{tb:TS}{pos:Pos}(hp:PassesOwn 0#6 X.A X.env X.xe)(hc:X.calm=true)(hi:PI X tg iter wi)(hg:PG X tg g)(hb:FU X body tb)
  (hs:∀x,foldedSetIterable iter X.env x=pure x:=by intro _;rfl):PS X (.For tg iter body [] pos) (Zv wi g tb):=by
 intro ad s σ H D I h;refine wpAny_For (BN (hi ad s σ H _ I h) λv s1 h1=>BN h1 λitv s2 h2=>?_) hs;rcases h2 with⟨it,fp,tn,J,H2,e,I2,T,st2,f2,W,⟨m0,w0⟩,turn⟩;subst e;have stat:∀{H':Hp},(∀b∈fp,H' b=none)->∀b∈fp,C5 X ad H' b:=λhn b hb=>⟨hn b hb,(f2 b hb).2⟩
 refine codeAny_forLoop_any (λn s'=>∃i σ' H',AT X ad σ' H' s'/\tn i s'.heap/\(∀b∈fp,H' b=none)/\W i n σ' H') ?_ m0 ⟨0,σ,H2,I2,st2,λb hb=>(f2 b hb).1,w0⟩;intro n s3 hRq;rcases hRq with⟨i,σ3,H3,I3,st3,fr3,w3⟩;rcases turn i n σ3 H3 w3 with⟨stop,qn⟩|⟨go,N,hN,step⟩
 ·refine wpAny_passesOwn hp (BN (T.done X rfl rfl rfl hc i ad s3 σ3 H3 X.xe I3 (stat fr3) st3 stop) λr s4 z9=>?_);obtain⟨hr,I4⟩:=z9;subst hr;exact wpAny_execs_nil ⟨σ3,H3,I4,qn⟩
 ·refine wpAny_passesOwn hp (BN (T.item X rfl rfl rfl hc i ad s3 σ3 H3 X.xe I3 (stat fr3) st3 go) λr s4 z9=>?_);obtain⟨u,hr,h4⟩:=z9;subst hr;refine wpAny_passesOwn hp (BN h4 λ_ s5 z9=>?_);obtain⟨x,H5,I5,r5,y5,st5,fr5⟩:=z9;have I5':=I5.pinned (stat fr5) (T.obj _ _ st5);refine wpAny_passesOwn hp (BN (hg _ s5 σ3 H5 x u _ I5' r5 (step x H5 y5)) λ_ s6 z9=>?_);obtain⟨σ6,H6,I6,q6⟩:=z9;refine wpAny_passesOwn hp (BN (hb _ s6 σ6 H6 _ I6 q6) λf s7 q7=>?_);have again:∀{σ7:St} {H7:Hp},AT X (ad++GP fp s5.heap) σ7 H7 s7->N σ7 H7->∃m,m<n/\∃i σ' H',AT X ad σ' H' s7/\tn i s7.heap/\(∀b∈fp,H' b=none)/\W i m σ' H':=λ{σ7 H7} I7 n7=>by obtain⟨m',hm,w7⟩:=hN σ7 H7 n7;refine⟨m',hm,i+1,σ7,H7,I7.unpinned,T.keep _ _ _ st5 λb hb o e=>(I7.pin (b,o) (bW _ (bW _ (Cg hb e)))).1,λb hb=>?_,w7⟩;obtain⟨o,e,d⟩:=T.obj _ _ st5 b hb;exact (I7.pin (b,o) (bW _ (bW _ (Cg hb e)))).2.1
  cases f with
  |next=>obtain⟨σ7,H7,I7,n7⟩:=q7;exact again I7 n7
  |cont=>obtain⟨σ7,H7,I7,n7⟩:=q7;exact again I7 n7
  |brk=>obtain⟨σ7,H7,I7,q7⟩:=q7;exact⟨σ7,H7,I7.unpinned,q7⟩
  |ret v=>obtain⟨x7,σ7,H7,I7,r7,q7⟩:=q7;exact⟨x7,σ7,H7,I7.unpinned,r7,q7⟩
end
theorem CZ{K:qV}{g:TG}{tb:TS}(Pv:Nat->St->Hp->Prop)(h0:Pv 0 σ H)(hl:∀i σ H,i<=xs.length->Pv i σ H->Ae K H a xs)
  (hs:∀i x σ H,xs[i]?=some x->Pv i σ H->g x σ H λσ2 H2=>tb {D with nx:=Pv (i+1),ct:=Pv (i+1),bk:=D.nx} σ2 H2) (hd:∀σ H,Pv xs.length σ H->D.nx σ H):
  ∃W:Nat->Nat->St->Hp->Prop,(∃m,W 0 m σ H)/\∀i m σ H,W i m σ H ->
   ((Xa K a).stop i H/\D.nx σ H)\/((Xa K a).go i H/\∃N:St->Hp->Prop,(∀σ' H',N σ' H'->∃m',m'<m/\W (i+1) m' σ' H')/\∀x H',(Xa K a).yld i H x H'->g x σ H' λσ2 H2=>tb {D with nx:=N,ct:=N,bk:=D.nx} σ2 H2):=by
 refine⟨λi m σ H=>m=xs.length-i/\i<=xs.length/\Pv i σ H,⟨xs.length,by simp,Nat.zero_le _,h0⟩,?_⟩;rintro i m σ H ⟨rfl,hi,p⟩;have q:=hl i σ H hi p
 by_cases hlt:i<xs.length
 ·refine .inr ⟨⟨xs,xs[i],q,by simp[hlt]⟩,Pv (i+1),λσ' H' p'=>⟨xs.length-(i+1),by lia,rfl,hlt,p'⟩,λx H' y=>?_⟩;obtain⟨e,y⟩:=y;subst e;exact hs i x σ _ (y xs q) p
 ·have e:i=xs.length:=by lia
  subst e;exact .inl ⟨⟨xs,q,bL _⟩,hd σ H p⟩
theorem BP{n:Nat}{g:TG}{tb:TS}(Pv:Nat->St->Hp->Prop)(h0:Pv 0 σ H)
  (hs:∀i σ H,i<n->Pv i σ H->g (.int (lo+i)) σ H λσ2 H2=>tb {D with nx:=Pv (i+1),ct:=Pv (i+1),bk:=D.nx} σ2 H2) (hd:∀σ H,Pv n σ H->D.nx σ H):
  ∃W:Nat->Nat->St->Hp->Prop,(∃m,W 0 m σ H)/\∀i m σ H,W i m σ H ->
   ((U9 lo n).stop i H/\D.nx σ H)\/((U9 lo n).go i H/\∃N:St->Hp->Prop,(∀σ' H',N σ' H'->∃m',m'<m/\W (i+1) m' σ' H')/\∀x H',(U9 lo n).yld i H x H'->g x σ H' λσ2 H2=>tb {D with nx:=N,ct:=N,bk:=D.nx} σ2 H2):=by
 refine⟨λi m σ H=>m=n-i/\i<=n/\Pv i σ H,⟨n,by simp,Nat.zero_le _,h0⟩,?_⟩;rintro i m σ H ⟨rfl,hi,p⟩
 by_cases hlt:i<n
 ·refine .inr ⟨hlt,Pv (i+1),λσ' H' p'=>⟨n-(i+1),by lia,rfl,hlt,p'⟩,λx H' y=>?_⟩;obtain⟨e,y⟩:=y;subst e y;exact hs i σ _ hlt p
 ·have e:i=n:=by lia
  subst e;exact .inl ⟨bL _,hd σ H p⟩
theorem Fs{c:TT}{tb:TS}(Pv:St->Hp->Prop)(μ:St->Hp->Nat)(h0:Pv σ H)
  (hs:∀σ H,Pv σ H->c σ H λb H1=>if b=true then tb {D with nx:=λσ' H'=>Pv σ' H'/\μ σ' H'<μ σ H,ct:=λσ' H'=>Pv σ' H'/\μ σ' H'<μ σ H,bk:=D.nx} σ H1 else D.nx σ H1)
  (mono:∀σ H Q Q',(∀b H1,Q b H1->Q' b H1)->c σ H Q->c σ H Q'):RA c tb D σ H:=by
 refine⟨λm σ H=>m=μ σ H/\Pv σ H,⟨_,rfl,h0⟩,?_⟩;rintro m σ H ⟨rfl,p⟩;refine mono σ H _ _ (λb H1 q=>?_) (hs σ H p);cases b with
 |true=>exact⟨_,λσ' H' ⟨p',l⟩=>⟨_,l,rfl,p'⟩,q⟩
 |false=>exact q
abbrev R2:=V->V->Hp->VK->Prop
def Ft(X:Cx)(f:qQ->qQ->Sem qQ)(r:R2):Prop:=
 ∀(ad:List (qR×Obj)) (s:qS) (σ:St) (H:Hp) (x y:V) (v u:qQ) (Q:VK),AT X ad σ H s->A5 x v->A5 y u->r x y H Q ->
  wpAny 0#6 X.A (f v u) (EP X ad σ Q) X.xe s
def Zw(X:Cx)(f:qQ->Sem qQ)(r:V->Hp->VK->Prop):Prop:=
 ∀(ad:List (qR×Obj)) (s:qS) (σ:St) (H:Hp) (x:V) (v:qQ) (Q:VK),AT X ad σ H s->A5 x v->r x H Q ->
  wpAny 0#6 X.A (f v) (EP X ad σ Q) X.xe s
def Cf(X:Cx)(f:qQ)(r:List V->Hp->VK->Prop):Prop:=
 ∀(ad:List (qR×Obj)) (s:qS) (σ:St) (H:Hp) (xs:List V) (us:List qQ) (Q:VK),AT X ad σ H s->Av xs us->r xs H Q ->
  wpAny 0#6 X.A (call f us) (EP X ad σ Q) X.xe s
def Xb(r:R2)(ta tb:TE):TE:=λσ H Q=>ta σ H λx H1=>tb σ H1 λy H2=>r x y H2 Q
def aw(r:V->Hp->VK->Prop)(ta:TE):TE:=λσ H Q=>ta σ H λx H1=>r x H1 Q
def rI(C:Int->Int->Prop)(g:Int->Int->V):R2:=λx y H Q=>∃i j,x=.int i/\y=.int j/\C i j/\Q (g i j) H
def To(g:Int->Int->V):R2:=λx y H Q=>∃i j,x=.int i/\y=.int j/\Q (g i j) H
def rU(g:Int->V):V->Hp->VK->Prop:=λx H Q=>∃i,x=.int i/\Q (g i) H
section
variable{X:Cx}{a b c:Expr}{ta tb tc:TE}{pos:Pos}
theorem Vu(ha:PE X a ta)(hb:PE X b tb){s:qS}{R:V->V->Hp->Prop}(I:AT X ad σ H s)
  (h:ta σ H λx H1=>tb σ H1 λy H2=>R x y H2) {Q:qQ->qS->Prop} {f:qQ->qQ->Sem qQ}
  (hf:∀v u s2 x y H2,AT X ad σ H2 s2->A5 x v->A5 y u->R x y H2->wpAny 0#6 X.A (f v u) Q X.xe s2):
  wpAny 0#6 X.A (eval a X.env) (λv s₁=>wpAny 0#6 X.A (eval b X.env) (λu s₂=>wpAny 0#6 X.A (f v u) Q X.xe s₂) X.xe s₁) X.xe s:=by
 refine BN (ha ad s σ H _ I h) λv s1 z9=>?_;obtain⟨x,H1,I1,r1,q1⟩:=z9;refine BN (hb ad s1 σ H1 _ I1 q1) λu s2 z9=>?_;obtain⟨y,H2,I2,r2,q2⟩:=z9;exact hf v u s2 x y H2 I2 r1 r2 q2
theorem AI{op:Operator}{r:R2}(ho:Ft X (binaryOp op) r)(ha:PE X a ta)(hb:PE X b tb):PE X (.BinOp a op b pos) (Xb r ta tb):=by intro ad s σ H Q I h;exact wpAny_BinOp (Vu ha hb I h λv u s2 x y H2 I2 rx ry q=>ho ad s2 σ H2 x y v u Q I2 rx ry q)
theorem Lu{op:UnaryOp}{r:V->Hp->VK->Prop}(ho:Zw X (unaryOp op) r)(ha:PE X a ta):PE X (.UnaryOp op a pos) (aw r ta):=by intro ad s σ H Q I h;exact UnaryOp_ (BN (ha ad s σ H _ I h) λv s1 ⟨x,H1,I1,r1,q1⟩=>ho ad s1 σ H1 x v Q I1 r1 q1)
theorem Zk{f:qQ->qQ->Sem qQ}{C:Int->Int->Prop}{g:Int->Int->Int}
  (rule:∀(i j:Int) (t u:Tok) (s:qS) (Q:qQ->qS->Prop) (E:qQ->qS->Prop),C i j->Q (.int (g i j) s.toks) {s with toks:=s.toks+1}->wpAny 0#6 X.A (f (.int i t) (.int j u)) Q E s):
  Ft X f (rI C λi j=>.int (g i j)):=by
 intro ad s σ H x y v u Q I rx ry h;rcases h with⟨i,j,rfl,rfl,hc,q⟩;obtain⟨t,rfl⟩:=rx;obtain⟨t',rfl⟩:=ry;exact rule i j t t' s _ _ hc ⟨.int (g i j),H,I.tok _,⟨_,rfl⟩,q⟩
theorem Xn{f:qQ->qQ->Sem qQ}{g:Int->Int->Int}
  (rule:∀(i j:Int) (t u:Tok) (s:qS) (Q:qQ->qS->Prop) (E:qQ->qS->Prop),Q (.int (g i j) s.toks) {s with toks:=s.toks+1}->wpAny 0#6 X.A (f (.int i t) (.int j u)) Q E s):
  Ft X f (To λi j=>.int (g i j)):=by
 intro ad s σ H x y v u Q I rx ry h;rcases h with⟨i,j,rfl,rfl,q⟩;obtain⟨t,rfl⟩:=rx;obtain⟨t',rfl⟩:=ry;exact rule i j t t' s _ _ ⟨.int (g i j),H,I.tok _,⟨_,rfl⟩,q⟩
theorem Tp{f:qQ->qQ->Sem qQ}{g:Int->Int->Bool}
  (rule:∀(i j:Int) (t u:Tok) (s:qS) (Q:qQ->qS->Prop) (E:qQ->qS->Prop),Q (.bool (g i j)) s->wpAny 0#6 X.A (f (.int i t) (.int j u)) Q E s):
  Ft X f (To λi j=>.bl (g i j)):=by
 intro ad s σ H x y v u Q I rx ry h;obtain⟨i,j,rfl,rfl,q⟩:=h;obtain⟨t,rfl⟩:=rx;obtain⟨t',rfl⟩:=ry;exact rule i j t t' s _ _ ⟨.bl (g i j),H,I,rfl,q⟩
def Vv(i j:Int):Prop:=0<j/\j<1073741824
def Vw(i j:Int):Prop:=0<=j/\j<=1000000/\i.natAbs<2^64
def RC(i j:Int):Prop:=(-(2^64)<i/\i<2^64)\/(-(2^64)<j/\j<2^64)
theorem RC.ok{i j:Int}(h:RC i j):IntMulOk i j:=by
 rcases h with⟨h1,h2⟩|⟨h1,h2⟩
 ·exact .of_left (intBits_le_64 h1 h2)
 ·exact .of_right (intBits_le_64 h1 h2)
theorem Ab:Ft X (binaryOp .Add) (To λi j=>.int (i+j)):=Xn λ_ _ _ _ _ _ _ q=>add_int q
theorem BI:Ft X (binaryOp .Sub) (To λi j=>.int (i-j)):=Xn λ_ _ _ _ _ _ _ q=>sub_int q
theorem BM:Ft X (binaryOp .Mult) (rI RC λi j=>.int (i*j)):=Zk λ_ _ _ _ _ _ _ hc q=>mul_int q hc.ok
theorem BG:Ft X (binaryOp .FloorDiv) (rI Vv λi j=>.int (i/j)):=Zk λi j _ _ _ _ _ hc q=>by have h1:(0:Int)<j:=hc.1;have h2:j<1073741824:=hc.2;exact floordiv_int 0#1 (by rw[Int.fdiv_eq_ediv_of_nonneg i 0#1];exact q) (.inl (PyProof.noPylong_small 0#1))
theorem Af:Ft X (binaryOp .Mod) (rI (λ_ j=>0<j) λi j=>.int (i%j)):=Zk λi j _ _ _ _ _ hc q=>by have h1:(0:Int)<j:=hc;exact mod_int' 0#1 (by rw[Int.fmod_eq_emod_of_nonneg i 0#1];exact q)
theorem RD:Ft X (binaryOp .Pow) (rI Vw λi j=>.int (i^j.toNat)):=Zk λ_ _ _ _ _ _ _ hc q=>pow_int_small hc.1 hc.2.1 hc.2.2 q
theorem bB{f:qQ->Sem qQ}{g:Int->Int}
  (rule:∀(i:Int) (t:Tok) (s:qS) (Q:qQ->qS->Prop) (E:qQ->qS->Prop),Q (.int (g i) s.toks) {s with toks:=s.toks+1}->wpAny 0#6 X.A (f (.int i t)) Q E s):
  Zw X f (rU λi=>.int (g i)):=by
 intro ad s σ H x v Q I rx h;obtain⟨i,rfl,q⟩:=h;obtain⟨t,rfl⟩:=rx;exact rule i t s _ _ ⟨.int (g i),H,I.tok _,⟨_,rfl⟩,q⟩
theorem IM:Zw X (unaryOp .USub) (rU λi=>.int (-i)):=bB λ_ _ _ _ _ q=>neg_int q
end
noncomputable def P7:V->V->Bool
 |.non,.non=>true|.non,.int _=>true|.int _,.non=>true|.non,.bl _=>true|.bl _,.non=>true|.non,.str _=>true|.str _,.non=>true
 |.int _,.int _=>true|.bl _,.bl _=>true|.str _,.str _=>true|.byt _,.byt _=>true
 |.int _,.str _=>true|.str _,.int _=>true|.bl _,.str _=>true|.str _,.bl _=>true
 |_,_=>false
def ax:R2:=λx y H Q=>P7 x y=true/\Q (.bl (decide (x=y))) H
def ay:R2:=λx y H Q=>P7 x y=true/\Q (.bl (!decide (x=y))) H
theorem Oi{i j:Int}:decide (V.int i=V.int j)=(i==j):=by rw[ft];simp
theorem RE{i j:Bool}:decide (V.bl i=V.bl j)=(i==j):=by rw[ft];simp
theorem Oj{i j:Str}:decide (V.str i=V.str j)=(i==j):=by rw[ft];simp
theorem Ol{i j:Array UInt8}:decide (V.byt i=V.byt j)=(i.toList==j.toList):=by rw[ft];cases i;cases j;simp
section
variable{X:Cx}{a b c:Expr}{ta tb tc:TE}{pos:Pos}
theorem BB{s:qS}{Q:VK}{k k':Bool}(I:AT X ad σ H s)(q:Q (.bl k) H)(e:k=k'):EP X ad σ Q (.bool k') s:=by subst e;exact⟨.bl k,H,I,rfl,q⟩
theorem Bk:Ft X (compareOp .Eq) ax:=by
 intro ad s σ H x y v u Q I rx ry h;obtain⟨hs,q⟩:=h;cases x with
 |non =>
  cases rx;cases y with
  |non=>cases ry;exact PySem.EqNone.eq_none_none (BB I q 1#4)
  |bl j=>cases ry;exact PySem.EqNone.eq_none_bool (BB I q 1#4)
  |int j=>obtain⟨t',rfl⟩:=ry;exact PySem.EqNone.eq_none_int (BB I q 1#4)
  |str j=>obtain⟨t',rfl⟩:=ry;exact PySem.EqNone.eq_none_str (BB I q 1#4)
  |_=>exact qG (show false=true from hs) bf
 |bl i =>
  cases rx;cases y with
  |non=>cases ry;exact PySem.EqNone.eq_bool_none (BB I q 1#4)
  |bl j=>cases ry;exact eq_bool (BB I q RE)
  |str j=>obtain⟨t',rfl⟩:=ry;exact PySem.EqMixed.eq_bool_str (BB I q 1#4)
  |_=>exact qG (show false=true from hs) bf
 |int i =>
  obtain⟨t,rfl⟩:=rx;cases y with
  |non=>cases ry;exact PySem.EqNone.eq_int_none (BB I q 1#4)
  |int j=>obtain⟨t',rfl⟩:=ry;exact eq_int (BB I q Oi)
  |str j=>obtain⟨t',rfl⟩:=ry;exact PySem.EqMixed.eq_int_str (BB I q 1#4)
  |_=>exact qG (show false=true from hs) bf
 |str i =>
  obtain⟨t,rfl⟩:=rx;cases y with
  |non=>cases ry;exact PySem.EqNone.eq_str_none (BB I q 1#4)
  |bl j=>cases ry;exact PySem.EqMixed.eq_str_bool (BB I q 1#4)
  |int j=>obtain⟨t',rfl⟩:=ry;exact PySem.EqMixed.eq_str_int (BB I q 1#4)
  |str j=>obtain⟨t',rfl⟩:=ry;exact eq_str (BB I q Oj)
  |_=>exact qG (show false=true from hs) bf
 |byt i =>
  obtain⟨t,rfl⟩:=rx;cases y with
  |byt j=>obtain⟨t',rfl⟩:=ry;exact PySem.W.eq_bytes (BB I q Ol)
  |_=>exact qG (show false=true from hs) bf
 |_=>cases y<;>exact qG (show false=true from hs) bf
theorem IN:Ft X (compareOp .NotEq) ay:=by
 intro ad s σ H x y v u Q I rx ry h;obtain⟨hs,q⟩:=h;cases x with
 |non =>
  cases rx;cases y with
  |non=>cases ry;exact PySem.EqNone.ne_none_none (BB I q 1#4)
  |bl j=>cases ry;exact PySem.EqNone.ne_none_bool (BB I q 1#4)
  |int j=>obtain⟨t',rfl⟩:=ry;exact PySem.EqNone.ne_none_int (BB I q 1#4)
  |str j=>obtain⟨t',rfl⟩:=ry;exact PySem.EqNone.ne_none_str (BB I q 1#4)
  |_=>exact qG (show false=true from hs) bf
 |bl i =>
  cases rx;cases y with
  |non=>cases ry;exact PySem.EqNone.ne_bool_none (BB I q 1#4)
  |bl j=>cases ry;exact ne_bool (BB I q (qP not RE))
  |str j=>obtain⟨t',rfl⟩:=ry;exact PySem.EqMixed.ne_bool_str (BB I q 1#4)
  |_=>exact qG (show false=true from hs) bf
 |int i =>
  obtain⟨t,rfl⟩:=rx;cases y with
  |non=>cases ry;exact PySem.EqNone.ne_int_none (BB I q 1#4)
  |int j=>obtain⟨t',rfl⟩:=ry;exact ne_int (BB I q (qP not Oi))
  |str j=>obtain⟨t',rfl⟩:=ry;exact PySem.EqMixed.ne_int_str (BB I q 1#4)
  |_=>exact qG (show false=true from hs) bf
 |str i =>
  obtain⟨t,rfl⟩:=rx;cases y with
  |non=>cases ry;exact PySem.EqNone.ne_str_none (BB I q 1#4)
  |bl j=>cases ry;exact PySem.EqMixed.ne_str_bool (BB I q 1#4)
  |int j=>obtain⟨t',rfl⟩:=ry;exact PySem.EqMixed.ne_str_int (BB I q 1#4)
  |str j=>obtain⟨t',rfl⟩:=ry;exact ne_str (BB I q (qP not Oj))
  |_=>exact qG (show false=true from hs) bf
 |byt i =>
  obtain⟨t,rfl⟩:=rx;cases y with
  |byt j=>obtain⟨t',rfl⟩:=ry;exact PySem.W.ne_bytes (BB I q (qP not Ol))
  |_=>exact qG (show false=true from hs) bf
 |_=>cases y<;>exact qG (show false=true from hs) bf
theorem Du:Ft X (compareOp .Lt) (To λi j=>.bl (decide (i<j))):=Tp λ_ _ _ _ _ _ _ q=>lt_int q
theorem VA:Ft X (compareOp .LtE) (To λi j=>.bl (decide (i<=j))):=Tp λ_ _ _ _ _ _ _ q=>le_int q
theorem EY:Ft X (compareOp .Gt) (To λi j=>.bl (decide (j<i))):=Tp λ_ _ _ _ _ _ _ q=>gt_int q
theorem Om:Ft X (compareOp .GtE) (To λi j=>.bl (decide (j<=i))):=Tp λ_ _ _ _ _ _ _ q=>ge_int q
theorem RF:Ft X (compareOp .Is) (λx y H Q=>y=.non/\Q (.bl (decide (x=.non))) H):=by
 intro ad s σ H x y v u Q I rx ry h;obtain⟨rfl,q⟩:=h;cases ry;refine is_none_gen (BB I q ?_)
 cases x<;>first
  | (cases rx;rfl)
  | (obtain⟨t,rfl⟩:=rx;rfl)
theorem AR(b:Expr)(h:op≠.In:=by decide)(h2:op≠.NotIn:=by decide):behindInMarks op b=false:=by
 have e1:(op==CmpOp.In)=false:=by cases op<;>first|rfl|exact qG rfl h
 have e2:(op==CmpOp.NotIn)=false:=by cases op<;>first|rfl|exact qG rfl h2
 cases b<;>simp[behindInMarks,e1,e2]
theorem Ca{r:R2}(ho:Ft X (compareOp op) r)(ha:PE X a ta)(hb:PE X b tb)(hm:behindInMarks op b=false):PE X (.Compare a [op] [b] pos) (Xb r ta tb):=by intro ad s σ H Q I h;exact wpAny_Compare1 (Vu ha hb I h λv u s2 x y H2 I2 rx ry q=>ho ad s2 σ H2 x y v u Q I2 rx ry q) hm
def VB(t:TE):TT:=λσ H Q=>t σ H λx H'=>∃k,x=.bl k/\Q k H'
theorem AQ{r:R2}(ho:Ft X (compareOp op) r)(ha:PE X a ta)(hb:PE X b tb)(hm:behindInMarks op b=false):PT X (.Compare a [op] [b] pos) (VB (Xb r ta tb)):=by
 intro ad s σ H Q I h
 refine wpAny_isTrue_Compare1 (BN (ha ad s σ H _ I h) λv s1 ⟨x,H1,I1,r1,q1⟩=>BN (hb ad s1 σ H1 _ I1 q1) λu s2 ⟨y,H2,I2,r2,q2⟩ =>
  BN (ho ad s2 σ H2 x y v u _ I2 r1 r2 q2) λc s3 ⟨z,H3,I3,r3,k,e,q3⟩=>?_) hm
 subst e;cases r3;exact wpAny_truthy_bool ⟨H3,I3,q3⟩
theorem Ks:(sizeLine:Nat)<2^63:=by rw[sizeLine_eq];decide
theorem FQ{x:V}(r:Av [x] us):∃u,us=[u]/\A5 x u:=by
 cases r with
 |cons r1 r2=>cases r2;exact⟨_,rfl,r1⟩
theorem On{x y:V}(r:Av [x,y] us):∃u w',us=[u,w']/\A5 x u/\A5 y w':=by
 cases r with
 |cons r1 r2 =>
  cases r2 with
  |cons r3 r4=>cases r4;exact⟨_,_,rfl,r1,r3⟩
end
structure Vx(h:Heap)(x dx C:qR)(mA:Str->Option qQ):Prop where
 obj:h.get? x=some (PySem.W.instObj C dx)
 ns:h.Ns1 dx mA
 ne:dx≠x
theorem P8{h:Heap}{dx:qR}{mA:Str->Option qQ}(n:h.Ns1 dx mA):∃od,h.get? dx=some od/\∀name,PySem.W.lookIn name od=some (mA name):=by
 rcases n with⟨o,es,ep,ho,hd,hk,_,hm⟩;refine⟨o,ho,λname=>?_⟩;have e:=hm name;unfold nsFind findBy at e;rw[<-Array.find?_toList]at e;unfold PySem.W.lookIn;rw[hd];dsimp only;split
 ·rename_i y q
  rw[q]at e;exact qP some e
 ·rename_i q
  rw[q]at e
  have a:es.toList.any (·.refKey)=false:=by rw[List.any_eq_false];intro y hy;obtain⟨z,t,hkey⟩:=hk y (Array.mem_toList_iff.mp hy);simp[DictEntry.refKey,hkey]
  have a':¬es.toList.any (·.refKey)=true:=by rw[a];exact bf
  rw[qE a'];exact qP some e
variable{C:qR}
theorem Vx.look{h:Heap}{x dx:qR}{mA:Str->Option qQ}(I:Vx h x dx C mA):∃od,PySem.W.InstAt h x (PySem.W.instObj C dx) C (some od)/\∀name,PySem.W.lookIn name od=some (mA name):=
 let ⟨od,ho,hl⟩:=P8 I.ns
 ⟨od,⟨I.obj,rfl,rfl,ho⟩,hl⟩
theorem Jt.some_of{v:V}{o:Option qQ}(r:Jt (some v) o):∃u,o=some u/\A5 v u:=by
 cases o with
 |none=>exact (show False from r).elim
 |some u=>exact⟨u,rfl,r⟩
section
variable{P:qT}{w:qU}{h h':Heap}{dx:qR}{fs fs':List (Str×V)}
theorem Oo(hok:EC P w H h)(e:H a=some (.ins C dx fs)):∃mA,Vx h a dx C mA/\(∀f,Jt (fs.lookup f) (mA f))/\PySem.Within mA (fs.map (·.1))/\fs.length<=1000/\H dx=some (.own a):=by rcases (show Ax P w H h a (.ins C dx fs) from hok a _ e) with⟨d,z,ne,ob,mA,n,r,q⟩;exact⟨mA,⟨ob,n,ne⟩,r,q,z,d⟩
end
structure Zx(K:qV)(C:qR):Prop where
 pg:PySem.W.plainGet K C Str.empty=true
 hd:PySem.W.hasDictIn K C=true
 po:PySem.W.plainOver K C=true
 sa:PySem.W.findIn K (.ref C) "__setattr__"=some (some (.builtin "object.__setattr__"))
theorem Zx.get{K:qV}(c:Zx K C)(f:Str):PySem.W.plainGet K C f=true:=c.pg
section
variable{X:Cx}{s:qS}{A:Around}{c:qQ}{b:Bool}
inductive GQ(K:qV)(H:Hp):V->qQ->Prop where
 |non:GQ K H .non (.type "NoneType")
 |bl (x:Bool):GQ K H (.bl x) (.type "bool")
 |int (i:Int):GQ K H (.int i) (.type "int")
 |str (x:Str):GQ K H (.str x) (.type "str")
 |flt (x:UInt64):GQ K H (.flt x) (.type "float")
 |lst {a:qR} {xs:List V} (e:H a=some (.lst xs)):GQ K H (.ref a) (.type "list")
 |frz {a:qR} {o:Obj} {xs:List V} (e:H a=some (.frz o (.lst xs))):GQ K H (.ref a) (.type "list")
 |tup {a:qR} {xs:List V} (e:H a=some (.tup xs)):GQ K H (.ref a) (.type "tuple")
 |dK {a:qR} {kvs:List (Bq×V)} (e:H a=some (.dK kvs)):GQ K H (.ref a) (.type "dict")
 |dT {a:qR} {kvs:List (List Bq×V)} (e:H a=some (.dT kvs)):GQ K H (.ref a) (.type "dict")
 |ins {a C dx:qR} {fs:List (Str×V)} (e:H a=some (.ins C dx fs)) (cl:Zx K C) (ha:PySem.W.findIn K (.ref C) "__class__"=some (some (.builtin "object.__class__")))
   (hn:PySem.W.specialIn K (.builtin "object.__class__") "__get__"=some (some (.builtin "getset_descriptor.__get__"))) (htk:PySem.W.takesIn K (.builtin "object.__class__")=some true)
   (hm:PySem.W.mroIn K C (.type "object")=some true):GQ K H (.ref a) (.ref C)
theorem P9{x:V}{t:qQ}(I:AT X ad σ H s)(rx:A5 x u)(ty:GQ X.K H x t)(e:PySem.W.kitOne X.K t c=some b)(h:∀tk,Q (.bool b) {s with toks:=tk}):
  wpAny 0#6 A (call (.builtin "isinstance") [u,c]) Q E s:=by
 cases ty with
 |non=>cases (show u=Value.none from rx);exact dB PySem.W.kitx_none I.kIn True.intro e (λz=>nomatch z) h
 |bl y=>cases (show u=Value.bool y from rx);exact dB PySem.W.kitx_bool I.kIn True.intro e (λz=>nomatch z) h
 |int i=>obtain⟨t,q⟩:=(show ∃t,u=Value.int i t from rx);cases q;exact dB PySem.W.kitx_int I.kIn True.intro e (λz=>nomatch z) h
 |str y=>obtain⟨t,q⟩:=(show ∃t,u=Value.str y t from rx);cases q;exact dB PySem.W.kitx_str I.kIn True.intro e (λz=>nomatch z) h
 |flt y=>obtain⟨t,q⟩:=(show ∃t,u=Value.float y t from rx);cases q;exact dB PySem.W.kitx_float I.kIn True.intro e (λz=>nomatch z) h
 | @lst a xs ea =>
  cases (show u=Value.ref a from rx);obtain⟨_,_,n,_,h1⟩:=(show Ax X.prog X.w H s.heap a (.lst xs) from I.hok a _ ea);exact dB gE I.kIn ⟨_,h1,rfl⟩ e (λz=>nomatch z) h
 | @frz a ob xs ea =>
  cases (show u=Value.ref a from rx);obtain⟨_,_,_,n,_,h1⟩:=(show Ax X.prog X.w H s.heap a (.frz ob (.lst xs)) from I.hok a _ ea);exact dB gE I.kIn ⟨_,h1,rfl⟩ e (λz=>nomatch z) h
 | @tup a xs ea =>
  cases (show u=Value.ref a from rx);obtain⟨_,_,_,p⟩:=(show Ax X.prog X.w H s.heap a (.tup xs) from I.hok a _ ea);obtain⟨o,h1,h2,_⟩:=p;exact dB PySem.W.kitx_tuple I.kIn ⟨o,h1,h2⟩ e (λz=>nomatch z) h
 | @dK a kvs ea =>
  cases (show u=Value.ref a from rx);obtain⟨_,_,vs,_,p⟩:=(show Ax X.prog X.w H s.heap a (.dK kvs) from I.hok a _ ea);obtain⟨o,es,ep,h1,h2,_⟩:=p;exact dB gH I.kIn ⟨o,h1,h2.1⟩ e (λz=>nomatch z) h
 | @dT a kvs ea =>
  cases (show u=Value.ref a from rx);obtain⟨_,_,xs,_,o,es,ep,h1,h2,_⟩:=(show Ax X.prog X.w H s.heap a (.dT kvs) from I.hok a _ ea);exact dB gH I.kIn ⟨o,h1,h2.1⟩ e (λz=>nomatch z) h
 | @ins a C dx fs ea cl ha hn htk hm =>
  cases (show u=Value.ref a from rx);obtain⟨mA,O,_⟩:=Oo I.hok ea;obtain⟨od,J,_⟩:=O.look;exact dB (PySem.W.kitx_own (cl.get _) cl.hd ha hn htk hm) I.kIn J e (λz=>nomatch z) h
end
structure Br(k:Nat)(A:Around):Prop where
 hd:A.handled=none
 dp:A.depth+3*k+5<recursionLimit
 un:A.units+16*k+200<cLine
theorem Br.mono{k:Nat}{A:Around}(r:Br k A)(h:j<=k):Br j A:=⟨r.hd,by have:=r.dp;lia,by have:=r.un;lia⟩
theorem Br.deeper{k:Nat}{A:Around}(r:Br (k+1) A)(env:Env):Br k (A.deeper env):=
 ⟨r.hd,by have:=r.dp;show A.depth+1+3*k+5<_;lia,by have:=r.un;show A.units+3+16*k+200<_;lia⟩
theorem Br.in1{k:Nat}{A:Around}(r:Br (k+1) A):Br k A.in1:=
 ⟨r.hd,by have:=r.dp;show A.depth+3*k+5<_;lia,by have:=r.un;show A.units+1+16*k+200<_;lia⟩
theorem Br.depth{k:Nat}{A:Around}(r:Br k A):A.depth<recursionLimit:=by have:=r.dp;lia
theorem Br.units{k:Nat}{A:Around}(r:Br k A):A.units+64<cLine:=by have:=r.un;lia
def Kt:TA:=λ_ H Q=>Q [] H
def Fu(ta:TE)(tr:TA):TA:=λσ H Q=>ta σ H λx H1=>tr σ H1 λxs H2=>Q (x::xs) H2
section
variable{X:Cx}{e:Expr}{t:TA}{pos:Pos}
theorem AC:PA X [] Kt:=λ_ _ _ _ H Q I h=>Calls.spliced_nil ⟨[],H,I,.nil,h⟩
theorem AA(ha:PE X e te)(hr:PA X es t)(hs:starEach (e::es) X.env=(false,eval e X.env)::starEach es X.env:=by rfl):PA X (e::es) (Fu te t):=by intro pos ad s σ H Q I h;rw[hs];show wpAny _ _ (spliced ((false,eval e X.env)::backTo pos (starEach es X.env))) _ _ s;refine Calls.spliced_cons (BN (ha ad s σ H _ I h) λu s1 z9=>?_);obtain⟨x,H1,I1,r1,q1⟩:=z9;exact BN (hr pos ad s1 σ H1 _ I1 q1) λus s2 ⟨xs,H2,I2,r2,q2⟩=>⟨x::xs,H2,I2,.cons r1 r2,q2⟩
def Vy(t:TA):TE:=λσ H Q=>t σ H λxs H1=>xs.length<=sizeLine/\∀p,H1 p=none->Q (.ref p) (Ad H1 p (.tup xs))
def Vz(t:TA):TE:=λσ H Q=>t σ H λxs H1=>xs.length<=sizeLine/\∀p,H1 p=none->Q (.ref p) (Ad H1 p (.lst xs))
theorem Cb{x1}(h:PA X es t):PE X (.Tuple es x1 pos) (Vy t):=by intro ad s σ H Q I hq;refine wpAny_Tuple_spliced (BN (h pos ad s σ H _ I hq) λus s1 ⟨xs,H1,I1,r,z,q⟩=>⟨by rw[<-r.length];exact z,?_⟩);have hf:H1 s1.heap.objs.size=none:=I1.hok.fresh (bL _);refine⟨.ref s1.heap.objs.size,Ad H1 s1.heap.objs.size (.tup xs),I1.laid (t':=s1.toks) (λb u e=>bK _ e) (bL _) ?_,rfl,q _ hf⟩;exact⟨z,us,r,⟨_,ba _ rfl,rfl,_,rfl⟩⟩
theorem BC(h:PA X es t):PE X (.List es pos) (Vz t):=by intro ad s σ H Q I hq;refine wpAny_List_spliced (BN (h pos ad s σ H _ I hq) λus s1 ⟨xs,H1,I1,r,z,q⟩=>⟨by rw[<-r.length];exact z,?_⟩);have hf:H1 s1.heap.objs.size=none:=I1.hok.fresh (bL _);refine⟨.ref s1.heap.objs.size,Ad H1 s1.heap.objs.size (.lst xs),I1.laid (t':=s1.toks) (λb u e=>bK _ e) (bL _) ?_,rfl,q _ hf⟩;exact⟨z,us,0,r,ba _ rfl⟩
end
abbrev Sp:=List V->Hp->VK->XK->Prop
abbrev Tc:=List Env->Hp->qS->XK->qQ->qS->Prop
structure NV(P:qT)(w:qU)(K:qV)(mg:Str->Option qQ)(base:Heap)(A:Around)(outer:List Env)(s:qS)(H:Hp):Prop where
 frames:A.frames=some outer
 mod:Zj K mg base
 bs:∀b o,base.get? b=some o->s.heap.get? b=some o/\H b=none
 bsz:base.objs.size<=s.heap.objs.size
 funs:s.heap.FunFrames base outer
 frf:∀b∈Ed outer,H b=none
 hok:EC P w H s.heap
 bare:AllBare s.gens
def CE(outer:List Env)(P:qT)(w:qU)(H:Hp)(s:qS)(Q:VK)(u:qQ)(s':qS):Prop:=
 ∃v H',s'.os=s.os/\AllBare s'.gens/\Un (Ed outer) [] H H' s.heap s'.heap/\EC P w H' s'.heap/\A5 v u/\Q v H'
def CR(CX:Tc)(outer:List Env)(P:qT)(w:qU)(H:Hp)(s:qS)(Q:VK)(E:XK)(r:Result)(s':qS):Prop:=
 match r with
 |.ok (.ret u)=>CE outer P w H s Q u s'
 |.ok _=>False
 |.error e=>CX outer H s E e s'
structure FW(P:qT)(w:qU)(K:qV)(mg:Str->Option qQ)(base:Heap)(CX:Tc)(k:Nat)(f:qR)(fd:FuncData)(ps:List Str)(sp:Sp):Prop where
 len:∀vs H Q E,sp vs H Q E->vs.length=ps.length
 run:∀(A:Around) (outer:List Env) (s:qS) (H:Hp) (args:Args) (us:List qQ) (vs:List V) (Q:VK) (E:XK),Br k A->NV P w K mg base A outer s H->BindsTo s fd args (ps.zip us)->Av vs us->sp vs H Q E ->
  codeAny (model P w) A (.call (.ref f) args) (CR CX outer P w H s Q E) s
section
variable{X:Cx}{s:qS}
theorem AT.env0(I:AT X ad σ H s):NV X.prog X.w X.K X.mg X.base X.A X.stack s H:=
 ⟨I.ok.frames,I.ok.mod,I.bs,cK I.ok.bsz I.sz,I.stack,I.stkFree,I.hok,I.bare⟩
theorem AT.after{Q:VK}(I:AT X ad σ H s)(h:CE X.stack X.prog X.w H s Q u s'):EP X ad σ Q u s':=by rcases h with⟨v,H',os,bare,un,hok,r,q⟩;rcases s' with⟨hh,g,d,t,os'⟩;obtain rfl:os'=s.os:=os;exact⟨v,H',I.call (h':=hh) (g':=g) (d':=d) (t':=t) (ch:=[]) un hok bare (λb z=>qG z 1#4),r,q⟩
end
def Dv(K:qV)(fd:FuncData)(ps:List Str)(ds:List qQ):Prop:=
 ∀(s:qS) (us:List qQ),K.In s.heap->(us++ds).length=ps.length->BindsTo s fd ⟨us,[]⟩ (ps.zip (us++ds))
variable{fd:FuncData}{ps:List Str}
theorem Dv.all{K:qV}(h:∀us:List qQ,us.length=ps.length->bindArgs fd ⟨us,[]⟩=pure (ps.zip us)):Dv K fd ps []:=λs us _ hl=>by rw[cA]at hl⊢;exact .of_eq (h us hl)
def PK(X:Cx)(kws:List Keyword)(t:TA):Prop:=
 ∀(pos:Pos) (ad:List (qR×Obj)) (s:qS) (σ:St) (H:Hp) (Q:List V->Hp->Prop),AT X ad σ H s->t σ H Q->wpAny 0#6 X.A (evalAll ((backToKw pos (keywordEach kws X.env)).map (·.2))) (AP X ad σ Q) X.xe s
section
variable{X:Cx}{CX:Tc}{k:Nat}{f:qR}{ks:List Str}{sp:Sp}{E:XK}{x m:Str}{p pos apos kpos:Pos}{e o:Expr}{kws:List Keyword}{ta:TE}{t tk:TA}{nm:Option Str}
theorem V0:PK X [] Kt:=λ_ _ _ _ H Q I h=>wpAny_evalAll_nil ⟨[],H,I,.nil,h⟩
theorem Tq(ha:PE X e te)(hr:PK X kws t):PK X (⟨nm,e,kpos⟩::kws) (Fu te t):=by intro pos ad s σ H Q I h;show wpAny _ _ (evalAll ((do let v <-eval e X.env;standAt pos;pure v)::(backToKw pos (keywordEach kws X.env)).map (·.2))) _ _ s;refine wpAny_evalAll_cons (qC (BN (ha ad s σ H _ I h) λu s1 ⟨x,H1,I1,r1,q1⟩=>qC (wpAny_standAt (qD ?_))));exact BN (hr pos ad s1 σ H1 _ I1 q1) λus s2 ⟨xs,H2,I2,r2,q2⟩=>⟨x::xs,H2,I2,.cons r1 r2,q2⟩
variable{g:List qQ->List qQ->List qQ}{gV:List V->List V->List V}
end
structure AJ(N P:List Str)(sc:Scope):Prop where
 kind:sc.kind=.function
 co:sc.isCoroutine=false
 gen:sc.isGenerator=false
 nd:N.Nodup
 pre:N.take P.length=P
 par:∀x∈P,sc.names.lookup x=some .local\/sc.names.lookup x=some .cell
 nofree:∀y∈sc.names,y.2≠.free
variable{kindOf:Str->Option NameKind}
theorem KC{x:Str}:∀{binds:List (Str×qQ)} {m:Str->Option qQ},(∀v,(x,v)∉binds)->bindL kindOf binds m x=m x
 |[],_,_=>rfl
 | (n,v)::r,m,h=>by
  unfold bindL;rw[KC λw hw=>h w (bi _ hw)];split
  ·have:x≠n:=by rintro rfl;exact h v bo
   simp[this]
  ·rfl
theorem KD{x:Str}:∀{binds:List (Str×qQ)} {m:Str->Option qQ},(∀v,(x,v)∉binds)->bindC kindOf binds m x=m x
 |[],_,_=>rfl
 | (n,v)::r,m,h=>by
  unfold bindC;rw[KD λw hw=>h w (bi _ hw)];split
  ·rfl
  ·have:x≠n:=by rintro rfl;exact h v bo
   simp[this]
theorem GR{x:Str}{v:qQ}:∀{P:List Str} {vs:List qQ} {i:Nat} {m:Str->Option qQ},P.Nodup->P[i]?=some x->vs[i]?=some v->kindOf x=some .local ->
  bindL kindOf (P.zip vs) m x=some v
 |[],_,_,_,_,h,_,_=>by simp at h
 |_::_,[],_,_,_,_,h,_=>by simp at h
 |p::P,w::vs,0,m,nd,h1,h2,hk=>by simp at h1 h2;subst h1;subst h2;show bindL kindOf ((p,w)::P.zip vs) m p=_;unfold bindL;rw[KC λv hv=>(cn.mp nd).1 (eM hv).1,qF hk];simp
 |p::P,w::vs,i+1,m,nd,h1,h2,hk=>by show bindL kindOf ((p,w)::P.zip vs) m x=_;unfold bindL;exact GR (i:=i) (List.nodup_cons.mp nd).2 (by simpa using h1) (by simpa using h2) hk
theorem GS{x:Str}{v:qQ}:∀{P:List Str} {vs:List qQ} {i:Nat} {m:Str->Option qQ},P.Nodup->P[i]?=some x->vs[i]?=some v->kindOf x≠some .local ->
  bindC kindOf (P.zip vs) m x=some v
 |[],_,_,_,_,h,_,_=>by simp at h
 |_::_,[],_,_,_,_,h,_=>by simp at h
 |p::P,w::vs,0,m,nd,h1,h2,hk=>by simp at h1 h2;subst h1;subst h2;show bindC kindOf ((p,w)::P.zip vs) m p=_;unfold bindC;rw[KD λv hv=>(cn.mp nd).1 (eM hv).1,qE hk];simp
 |p::P,w::vs,i+1,m,nd,h1,h2,hk=>by show bindC kindOf ((p,w)::P.zip vs) m x=_;unfold bindC;exact GS (i:=i) (List.nodup_cons.mp nd).2 (by simpa using h1) (by simpa using h2) hk
noncomputable def B4(N:List Str)(vs:List V):St:=vs.map some++List.replicate (N.length-vs.length) none
noncomputable def DX(CX:Tc)(P:qT)(w:qU)(K:qV)(mg:Str->Option qQ)(base:Heap)(N:List Str)(qual:Str)(scope:Scope)(f:qR)(cd:qQ)(A:Around)(outer:List Env)(s:qS)(H:Hp)(E:XK):Cx where
 prog:=P
 w:=w
 K:=K
 mg:=mg
 base:=base
 A:=A.deeper (envOfC qual scope s.heap.objs.size f cd)
 N:=N
 s₀:=s
 H₀:=H
 env:=envOfC qual scope s.heap.objs.size f cd
 outer:=outer
 stack:=envOfC qual scope s.heap.objs.size f cd::outer
 ex:=[]
 calm:=true
 fn:=λ_=>true
 pn:=[]
 xe:=λe s'=>wpAny (model P w) (A.deeper (envOfC qual scope s.heap.objs.size f cd)) (leaving (envOfC qual scope s.heap.objs.size f cd) e) (λ_ s''=>CX outer H s E e s'') (λe' s''=>CX outer H s E e' s'') s'
theorem Fv{sc:Scope}{n:Nat}{x:Str}(h:sc.names.lookup x=some .cell):∃c,(cellsFrom n sc.names []).lookup x=some c:=by have q:=fB sc.names n [] (.inl h);exact eO.mp q
variable{CX:Tc}{qual:Str}{scope:Scope}
theorem KE{P:qT}{w:qU}{K:qV}{mg:Str->Option qQ}{base:Heap}{N:List Str}{f:qR}{cd:qQ}{A:Around}{outer:List Env}{s s1:qS}{E:XK}{vs:List V}
  (S:AJ N ps scope) (hd:A.handled=none) (e0:NV P w K mg base A outer s H) (hl:vs.length=ps.length) (r:Av vs us)
  (x:InCallC s s.heap.objs.size (bindL (envOfC qual scope s.heap.objs.size f cd).kindOf (ps.zip us) λ_=>none) 1#2 (bindC (envOfC qual scope s.heap.objs.size f cd).kindOf (ps.zip us) λ_=>none) s1):
  AT (DX CX P w K mg base N qual scope f cd A outer s H E) [] (B4 N vs) H s1:=by
 have hpl:ps.length<=N.length:=by have:=qP List.length S.pre;rw[bq]at this;lia
 obtain⟨h1,tk,rfl,hk⟩:=x.done;have noA:∀b:qR,b∉(DX CX P w K mg base N qual scope f cd A outer s H E).ex:=λb z=>qG (show b∈([]:List qR) from z) 1#4
 refine⟨⟨e0.mod,S.kind,rfl,rfl,bL _,λy z c h1 h2=>?_,λy hy=>?_,λy c _ h=>?_,λ_=>hd,Around.frames_deeper e0.frames,.inr ⟨rfl,rfl⟩,λb z=>qG z (noA b),e0.bs,e0.bsz,λb _ _=>noA b,λb z=>qG z (noA b),e0.funs,e0.frf⟩,
  rfl,e0.bare,Un.kept hk,⟨_,x.toInCall.ns,λi y v h1 h2 h3=>?_⟩,λy c h=>⟨_,x.cell y c h⟩,e0.hok.fresh (Nat.le_refl _),λy c h=>?_,λp hp=>qG (show p∈([]:List (qR×Obj)) from hp) 1#4,e0.hok.kept hk,?_⟩
 ·exact name_of_addr x.apart (cX h1) (cX h2)
 ·have hy:scope.names.lookup y=some .cell\/scope.names.lookup y=some .free:=hy;rcases hy with hy|hy
  ·exact Fv hy
  ·exact qG rfl (S.nofree _ (cX hy))
 ·exact dA (x.above y c (cX h))
 ·have hi:i<vs.length:=by
   unfold B4 at h2
   by_cases hi:i<vs.length
   ·exact hi
   ·rw[List.getElem?_append_right (by simpa using hi)]at h2;rw[eW]at h2
    split at h2<;>cases h2
  have ha:vs[i]?=some v:=by
   unfold B4 at h2;rw[List.getElem?_append_left (by simpa using hi),List.getElem?_map]at h2;cases e:vs[i]? with
   |none=>rw[e]at h2;cases h2
   |some a=>rw[e]at h2;cases h2;rfl
  obtain⟨u,hu,rv⟩:=r.get ha
  have hp:ps[i]?=some y:=by rw[<-S.pre,List.getElem?_take_of_lt 0#1];exact h1
  have ndP:ps.Nodup:=by rw[<-S.pre];exact S.nd.sublist (List.take_sublist _ _)
  refine⟨u,rv,?_⟩;rcases S.par y (bT hp) with k|k
  ·exact .inl ⟨k,GR ndP hp hu k⟩
  ·obtain⟨c,e⟩:=Fv (n:=s.heap.objs.size+1) k;refine .inr ⟨.inl k,c,e,?_⟩;have q:=x.cell y c e;rw[GS ndP hp hu (by show scope.names.lookup y≠_;rw[k];decide)]at q;exact q
 ·exact e0.hok.fresh (dA (x.above y c (cX h)))
 ·unfold B4;show _=N.length;rw[bN,bG,cL];lia
variable{name:Str}{params:Arguments}{doc gu oc:qQ}{an od:Option qR}
theorem RG{P:qT}{w:qU}{K:qV}{mg:Str->Option qQ}{base:Heap}{k:Nat}{f:qR}{dV kV pm ct:qQ}
  {osl:Array (Option qQ)} {N ps:List Str} {sp:Sp} (lk:K.lookup f=some ⟨oc,od,.func (PySem.W.fnOf name qual params body scope dV kV doc pm an gu ct),osl⟩) (hcd:PySem.W.codeIn K gu qual=true) (S:AJ N ps scope)
  (len:∀vs H Q E,sp vs H Q E->vs.length=ps.length)
  (hbody:∀(A:Around) (outer:List Env) (s:qS) (H:Hp) (vs:List V) (Q:VK) (E:XK),Br k (A.deeper (envOfC qual scope s.heap.objs.size f gu))->sp vs H Q E ->
   ∃t,FU (DX CX P w K mg base N qual scope f gu A outer s H E) body t/\t {nx:=λ_ H'=>Q .non H',rt:=Q} (B4 N vs) H):
  FW P w K mg base CX (k+1) f (PySem.W.fnOf name qual params body scope dV kV doc pm an gu ct) ps sp:=by
 refine⟨len,λA outer s H args us vs Q E hr e0 hb r hsp=>?_⟩;have hl:=len _ _ _ _ hsp;have KX:K.In s.heap:=e0.mod.kin.keeps λb o e=>(e0.bs b o e).1
 have lim:s.heap.NoLimit:=e0.mod.nolimit.keeps λb o e=>(e0.bs b o e).1
 have hkind:∀y∈ps.zip us,scope.names.lookup y.1=some .local\/(scope.names.lookup y.1=some .cell/\((cellsFrom 1#5 scope.names []).lookup y.1).isSome=true):=λ⟨n,v⟩ hy=>by
  rcases S.par n (eM hy).1 with q|q
  ·exact .inl q
  ·exact .inr ⟨q,fB _ _ _ (.inl q)⟩
 refine codeAny_call_function hr.depth (KX _ _ lk) rfl S.co S.gen rfl (PySem.W.codeRec_of KX hcd) (hb _ _ _ _ ?_);refine wpAny_newFunctionEnv_cells S.kind hkind λenv he s1 x=>?_;subst he;refine⟨lim.keeps x.toInCall.keep,codeAny_func ?_⟩;obtain⟨t,ht,hq⟩:=hbody A outer s H vs Q E (hr.deeper _) hsp;have I:AT (DX CX P w K mg base N qual scope f gu A outer s H E) [] (B4 N vs) H s1:=KE S hr.hd e0 hl r x;refine qM (ht [] s1 (B4 N vs) H _ I hq) (λfl s' hs=>?_) λe s' hs=>hs
 have fin:∀{σ':St} {H':Hp} {v:V} {u:qQ},AT (DX CX P w K mg base N qual scope f gu A outer s H E) [] σ' H' s'->A5 v u->Q v H'->CE outer P w H s Q u s':=
  λ{σ' H' v u} J rv q=>⟨v,H',J.os,J.bare,J.base,J.hok,rv,q⟩
 cases fl with
 |ret u =>
  obtain⟨v,σ',H',J,rv,q⟩:=hs;exact fin J rv q
 |next =>
  obtain⟨σ',H',J,q⟩:=hs;exact fin (v:=V.non) (u:=Value.none) J rfl q
 |brk =>
  obtain⟨_,_,_,q⟩:=hs;exact False.elim q
 |cont =>
  obtain⟨_,_,_,q⟩:=hs;exact False.elim q
section
variable{X:Cx}{x:Str}{p pos:Pos}{e:Expr}{t:TA}{id T:String}{r:List V->Hp->VK->Prop}
def Xo(r:List V->Hp->VK->Prop)(t:TA):TE:=λσ H Q=>t σ H λvs H1=>r vs H1 Q
theorem Ap(hc:Cf X (.builtin id) r)(hg:Gl X x)(hm:X.mg x=none)(hv:bootBuiltins x=some (.builtin id))(ha:PA X (e::es) t)(hn:x≠"__name__":=by decide)(hdb:(x==("__debug__":Str))=false:=by decide)
  (he:starEach (e::es) X.env=(false,eval e X.env)::starEach es X.env:=by rfl) (hpl:(backTo pos (starEach es X.env)).any (·.1)=false:=by rfl):PE X (.Call (.Name x p) (e::es) [] pos) (Xo r t):=by
 intro ad s σ H Q I h;refine wpAny_Call_Name_kw (CL I hg hm hv ?_ hn hdb);exact PyProof.Rows.callWith_builtin1 (BN (ha pos ad s σ H _ I h) λus s1 ⟨vs,H1,I1,r1,q1⟩=>hc ad s1 σ H1 vs us Q I1 r1 q1) he hpl
theorem CS(hc:Cf X (.type T) r)(hg:Gl X x)(hm:X.mg x=none)(hv:bootBuiltins x=some (.type T))(ha:PA X (e::es) t)(hn:x≠"__name__":=by decide)(hdb:(x==("__debug__":Str))=false:=by decide)
  (he:starEach (e::es) X.env=(false,eval e X.env)::starEach es X.env:=by rfl) (hpl:(backTo pos (starEach es X.env)).any (·.1)=false:=by rfl):PE X (.Call (.Name x p) (e::es) [] pos) (Xo r t):=by
 intro ad s σ H Q I h;refine wpAny_Call_Name_kw (CL I hg hm hv ?_ hn hdb);exact bz (BN (ha pos ad s σ H _ I h) λus s1 ⟨vs,H1,I1,r1,q1⟩=>hc ad s1 σ H1 vs us Q I1 r1 q1) he hpl
end
end L2
namespace HT
open PySem PyProof.Rows
noncomputable def Dw:qW->qW->Bool
 |[],[]=>false
 |[],_::_=>true
 |_::_,[]=>false
 |x::xs,y::ys=>if x=y then Dw xs ys else decide (x<y)
theorem NW(x y:Int)(xs ys:qW):Dw (x::xs) (y::ys)=if x=y then Dw xs ys else decide (x<y):=rfl
theorem Jv:Dw [] []=false:=rfl
theorem IP(y:Int)(ys:qW):Dw [] (y::ys)=true:=rfl
theorem IQ(x:Int)(xs:qW):Dw (x::xs) []=false:=rfl
section
variable{prog:qT}{w:qU}{A:Around}{E:qQ->qS->Prop}{s:qS}
theorem Tr{t b:qR}{vs ws:List qQ}{Q:qQ->qS->Prop}(ht:IsTup s.heap t vs.toArray)(hb:IsTup s.heap b ws.toArray)(hv:vs≠[])
  (h1:ws=[]->Q (.ref t) s) (h2:ws≠[]->Q (.ref s.heap.objs.size) {s with heap:=s.heap.push {cls:=.type "tuple",data:=.seq (vs++ws).toArray}})
  (hsz:vs.length+ws.length<=sizeLine):wpAny 0#7 A (binaryOp .Add (.ref t) (.ref b)) Q E s:=by
 rcases id ht with⟨⟨cls,dd,data,sl⟩,ho,hc,n,hd⟩;rcases id hb with⟨⟨cls2,dd2,data2,sl2⟩,ho2,hc2,n2,hd2⟩;simp only at hc hd hc2 hd2;subst hc hd hc2 hd2;have e:vs.toArray++ws.toArray=(vs++ws).toArray:=by simp
 by_cases hw:ws=[]
 ·exact concat_meets ⟨_,ho,rfl⟩ ⟨_,ho2,rfl⟩ noFill_tuple_add seq_tuple_add PySem.F.slot_tuple_add PySem.F.entry_tuple_add (PySem.F.args_tuple_add_2 _ _)
   (tuple_addW1 t b vs.toArray ws.toArray n n2 dd dd2 sl sl2 (by simpa using hv) (by simp[hw])) ⟨ho,ho2,h1 hw⟩
 ·refine concat_meets ⟨_,ho,rfl⟩ ⟨_,ho2,rfl⟩ noFill_tuple_add seq_tuple_add PySem.F.slot_tuple_add PySem.F.entry_tuple_add (PySem.F.args_tuple_add_2 _ _)
   (tuple_addW2 t b vs.toArray ws.toArray n n2 dd dd2 sl sl2 (by simpa using hv) (by simpa using hw) (by rw[List.size_toArray,List.size_toArray];exact hsz)) ⟨ho,ho2,?_⟩
  rw[e];exact h2 hw
noncomputable def KH(n d:Nat):Option Int->Nat
 |none=>d
 |some v=>if v<0 then (v+(n:Int)).toNat else min v.toNat n
end
end HT
namespace L2
open PySem PySem.Spec PyProof.Rows
variable{H:Hp}{es:List Expr}{j t':Nat}{name:Str}{ad:List (qR×Obj)}{te to:TE}{u:qQ}{us:List qQ}{xs:List V}{α:Type}{σ:St}
abbrev TO:=St->Hp->(Option Int->Hp->Prop)->Prop
def PO(X:Cx)(e:Option Expr)(t:TO):Prop:=
 ∀(ad:List (qR×Obj)) (s:qS) (σ:St) (H:Hp) (Q:Option Int->Hp->Prop),AT X ad σ H s->t σ H Q ->
  wpAny 0#6 X.A (evalPart e X.env) (λu s'=>∃o H',AT X ad σ H' s'/\IsPart u o/\Q o H') X.xe s
def Op:TO:=λ_ H Q=>Q none H
def VC(t:TE):TO:=λσ H Q=>t σ H λx H1=>∃i,x=.int i/\Q (some i) H1
theorem ED{ns:qW}:∀{us:List qQ},Av 1#3 us->IntsAre us ns:=by
 induction ns with
 |nil=>intro us r;rw[List.map_nil]at r;cases r;exact .nil
 |cons n ns ih =>
  intro us r;rw[cU]at r;cases r with
  |cons r1 r2 =>
   obtain⟨t,e⟩:=r1;subst e;exact .cons n t (ih r2)
section
variable{X:Cx}{e:Expr}{lo hi:Option Expr}{tl th:TO}{pos p2:Pos}
theorem Fw:PO X none Op:=by intro ad s σ H Q I h;rw[evalPart_none];exact qD ⟨none,H,I,.none,h⟩
theorem EE(h:PE X e te):PO X (some e) (VC te):=by intro ad s σ H Q I hw;rw[evalPart_some];refine BN (h ad s σ H _ I hw) λu s1 z9=>?_;obtain⟨x,H1,I1,r1,q1⟩:=z9;obtain⟨i,rfl,q⟩:=q1;obtain⟨t,rfl⟩:=r1;exact⟨some i,H1,I1,.int i t,q⟩
def az(X:Cx)(r:V->Option Int->Option Int->Hp->VK->Prop):Prop:=
 ∀(ad:List (qR×Obj)) (s:qS) (σ:St) (H:Hp) (x:V) (v vl vu:qQ) (lo hi:Option Int) (sl:qR) (Q:VK),AT X ad σ H s->A5 x v->s.heap.IsSliceOf sl vl vu .none->IsPart vl lo->IsPart vu hi->r x lo hi H Q ->
  ∃T id,typeLookup (.type T) "__getitem__"=pure (some (.builtin id))/\s.TypeIs v T/\wpAny 0#6 X.A (getItem v (.ref sl)) (EP X ad σ Q) X.xe s
def a6(r:V->Option Int->Option Int->Hp->VK->Prop)(te:TE)(tl th:TO):TE:=λσ H Q=>te σ H λx H1=>tl σ H1 λl H2=>th σ H2 λu H3=>r x l u H3 Q
theorem Dx{r:V->Option Int->Option Int->Hp->VK->Prop}(hr:az X r)(he:PE X e te)(hl:PO X lo tl)(hu:PO X hi th):PE X (.Subscript e (.Slice lo hi none p2) pos) (a6 r te tl th):=by
 intro ad s σ H Q I h;refine Subscript_ (BN (he ad s σ H _ I h) λv s1 z9=>?_);obtain⟨x,H1,I1,r1,q1⟩:=z9;refine wpAny_Slice (BN (hl ad s1 σ H1 _ I1 q1) λvl s2 ⟨l,H2,I2,pl,q2⟩=>BN (hu ad s2 σ H2 _ I2 q2) λvu s3 z9=>?_);obtain⟨u,H3,I3,pu,q3⟩:=z9;rw[evalPart_none];refine qD ?_;have I4:AT X ad σ H3 {s3 with heap:=s3.heap.push {cls:=.type "slice",data:=.fields #[vl,vu,.none]}}:=I3.kept (t':=s3.toks) λb ob q=>bK _ q
 obtain⟨T,id,hT,ht,hg⟩:=hr ad {s3 with heap:=s3.heap.push {cls:=.type "slice",data:=.fields #[vl,vu,.none]}} σ H3 x v vl vu l u s3.heap.objs.size Q I4 r1 (Heap.IsSliceOf.new ..) pl pu q3;show wpAny 0#6 X.A (subscriptTail e (.Slice lo hi none p2) v (.ref s3.heap.objs.size)) (EP X ad σ Q) X.xe {s3 with heap:=s3.heap.push {cls:=.type "slice",data:=.fields #[vl,vu,.none]}};exact tail_any (ops:=[.ref s3.heap.objs.size,v]) ht hT hg 0#3
noncomputable def IR(xs:List V)(lo hi:Option Int):List V:=(xs.drop (HT.KH xs.length 0 lo)).take (HT.KH xs.length xs.length hi-HT.KH xs.length 0 lo)
theorem Lv(xs:List V)(lo hi:Option Int):(IR xs lo hi).length<=xs.length:=by unfold IR;rw[bq,bj];lia
def VD(K:qV):R2:=λx y H Q=>∃a b xs ys,x=.ref a/\y=.ref b/\Ah K H a xs/\Ah K H b ys/\xs≠[]/\xs.length+ys.length<=sizeLine /\
 (ys=[]->Q (.ref a) H)/\(ys≠[]->∀p,H p=none->Q (.ref p) (Ad H p (.tup (xs++ys))))
theorem Av.nil_iff(r:Av xs us):us=[]↔xs=[]:=by
 cases r with
 |nil=>simp
 |cons _ _=>simp
theorem Ts:Ft X (binaryOp .Add) (VD X.K):=by intro ad s σ H x y v u Q I rx ry h;obtain⟨a,b,xs,ys,rfl,rfl,ha,hb,hx,hz,q1,q2⟩:=h;cases rx;cases ry;obtain⟨its,r1,p1,_⟩:=I.tuple ha;obtain⟨its2,r2,p2,_⟩:=I.tuple hb;refine HT.Tr p1 p2 (λz=>hx (r1.nil_iff.mp z)) (λz=>⟨.ref a,H,I,rfl,q1 (r2.nil_iff.mp z)⟩) (λz=>?_) (by rw[<-r1.length,<-r2.length];exact hz);refine⟨.ref s.heap.objs.size,_,I.laid (t':=s.toks) (o:=.tup (xs++ys)) (λb ob q=>bK _ q) (bL _) ?_,rfl,q2 (λw=>z (r2.nil_iff.mpr w)) _ (I.hok.fresh (bL _))⟩;exact⟨by rw[bN];exact hz,_,r1.append r2,IsTup.new _ _⟩
end
noncomputable def Oq(n:Nat)(i:Int):Option Nat:=if 0<=i then (if i<n then some i.toNat else none) else if -(n:Int)<=i then some (i+n).toNat else none
noncomputable def Lm{α:Type}(xs:List α)(i:Int):Option α:=(Oq xs.length i).bind λj=>xs[j]?
theorem Os{n:Nat}{i:Int}(h:Oq n i=some j):seqIndex? i n=some j/\j<n/\-(n:Int)<=i/\i<n:=by
 unfold Oq at h
 by_cases h0:0<=i
 ·rw[qF h0]at h
  by_cases h1:i<n
  ·rw[qF h1]at h;have e:i.toNat=j:=Option.some.inj h;exact⟨by rw[seqIndex_of h0 h1,e],by lia,by lia,h1⟩
  ·rw[qE h1]at h;cases h
 ·rw[qE h0]at h
  by_cases h1:-(n:Int)<=i
  ·rw[qF h1]at h;have e:(i+n).toNat=j:=Option.some.inj h;exact⟨by rw[seqIndex_neg 0#1 h1,e],by lia,h1,by lia⟩
  ·rw[qE h1]at h;cases h
theorem Ot{xs:List α}{i:Int}{v:α}(h:Lm xs i=some v):∃j,seqIndex? i xs.length=some j/\xs[j]?=some v/\j<xs.length/\-(xs.length:Int)<=i/\i<xs.length:=by
 unfold Lm at h;cases e:Oq xs.length i with
 |none=>rw[e]at h;cases h
 |some j =>
  rw[e]at h;obtain⟨h1,h2,h3,h4⟩:=Os e;exact⟨j,h1,h,h2,h3,h4⟩
theorem Cc{xs:List α}{v:α}(h:xs[j]?=some v):Lm xs (j:Int)=some v:=by
 have hj:j<xs.length:=(bJ.mp h).1
 have e:Oq xs.length (j:Int)=some j:=by unfold Oq;rw[qF 0#1,qF 0#1];simp
 unfold Lm;rw[e];exact h
def Ou(b:Expr):Prop:=∀o i,subscripted b false o i=operate [o,i] (getItem o i)
def VE(X:Cx)(r:R2):Prop:=
 ∀(value slice:Expr) (ad:List (qR×Obj)) (s:qS) (σ:St) (H:Hp) (x y:V) (v u:qQ) (Q:VK),AT X ad σ H s->A5 x v->A5 y u->r x y H Q ->
  subscripted slice false v u=operate [v,u] (getItem v u)->wpAny 0#6 X.A (subscriptTail value slice v u) (EP X ad σ Q) X.xe s
def Xp(X:Cx)(id:String)(r:V->List V->Hp->VK->Prop):Prop:=
 ∀(ad:List (qR×Obj)) (s:qS) (σ:St) (H:Hp) (x:V) (xs:List V) (v:qQ) (us:List qQ) (Q:VK),AT X ad σ H s->A5 x v->Av xs us->r x xs H Q ->
  wpAny 0#6 X.A (call (.builtin id) (v::us)) (EP X ad σ Q) X.xe s
variable{ys:List V}{its:List qQ}{T:String}
section
variable{X:Cx}{a b:Expr}{ta tb:TE}{pos:Pos}
theorem AM{r:R2}(hr:VE X r)(ha:PE X a ta)(hb:PE X b tb)(hs:Ou b):PE X (.Subscript a b pos) (Xb r ta tb):=by intro ad s σ H Q I h;exact Subscript_ (Vu ha hb I h λv u s2 x y H2 I2 rx ry q=>hr a b ad s2 σ H2 x y v u Q I2 rx ry q (hs _ _))
def Tt(K:qV):R2:=λx y H Q=>∃p xs i v,x=.ref p/\y=.int i/\Ae K H p xs/\Lm xs i=some v/\Q v H
def Tu(K:qV):R2:=λx y H Q=>∃p xs i v,x=.ref p/\y=.int i/\Ah K H p xs/\Lm xs i=some v/\Q v H
theorem Ov:VE X (Tt X.K):=by
 intro value slice ad s σ H x y v u Q I rx ry h hs;rcases h with⟨p,xs,i,z,rfl,rfl,hq,he,q⟩;cases rx;obtain⟨t,rfl⟩:=ry;rcases I.list hq with⟨its,r,pl,hz⟩;rcases Ot he with⟨j,h1,h2,h3,h4,h5⟩;obtain⟨w,ew,rw'⟩:=r.get h2;have hl:=r.length;have hn:=Ks;have fin:EP X ad σ Q w s:=⟨z,H,I,rw',q⟩
 by_cases h0:0<=i
 ·have hj:i.toNat=j:=by
   rw[seqIndex_of h0 h5]at h1;exact Option.some.inj h1
  exact item_listR pl.isList h0 0#1 (by rw[hj];simpa using ew) fin hs
 ·have hj:(i+(its.toArray.size:Int)).toNat=j:=by
   rw[seqIndex_neg 0#1 h4]at h1;rw[cC,<-hl];exact Option.some.inj h1
  exact subscriptTail_builtinR (x:=w) pl.isList.typeIs slot_list_getitem.lookup
   (wpAny_getItem_list_neg (Q:=λr s'=>r=w/\EP X ad σ Q r s') pl.isList 0#1 (by rw[List.size_toArray]<;>lia) 0#1 (by rw[hj];simpa using ew) ⟨rfl,fin⟩) hs
theorem RH:VE X (Tu X.K):=by
 intro value slice ad s σ H x y v u Q I rx ry h hs;obtain⟨p,xs,i,z,rfl,rfl,hq,he,q⟩:=h;cases rx;obtain⟨t,rfl⟩:=ry;obtain⟨its,r,pl,hz⟩:=I.tuple hq;obtain⟨j,h1,h2,h3,h4,h5⟩:=Ot he;obtain⟨w,ew,rw'⟩:=r.get h2;have hl:=r.length;have hn:=Ks;have fin:EP X ad σ Q w s:=⟨z,H,I,rw',q⟩
 exact subscriptTail_builtinR (x:=w) pl.typeIs slot_tuple_getitem.lookup
  (getItem_tuple (j:=j) (Q:=λr s'=>r=w/\EP X ad σ Q r s') pl 0#1 0#1 (by rw[List.size_toArray,<-hl];exact h1) (by simpa using ew) ⟨rfl,fin⟩) hs
theorem NX(its:List qQ)(n j:Nat)(u:qQ):Obj.mapSeq (·.setIfInBounds j u) {cls:=.type "list",data:=.seq its.toArray n}={cls:=.type "list",data:=.seq (its.set j u).toArray n}:=by simp[Obj.mapSeq]
theorem AT.lst{s:qS}{p:qR}(I:AT X ad σ H s)(h:H p=some (.lst xs)):
  ∃(its:List qQ) (n:Nat),Av xs its/\s.heap.get? p=some {cls:=.type "list",data:=.seq its.toArray n}/\xs.length<=sizeLine:=by
 rcases I.hok p _ h with⟨z,its,n,r,e⟩;exact⟨its,n,r,e,z⟩
theorem AT.lstUpd{s:qS}{p:qR}{its':List qQ}{n n':Nat}{f:Obj->Obj}(I:AT X ad σ H s)(h:H p=some (.lst xs))
  (ho:s.heap.get? p=some {cls:=.type "list",data:=.seq its.toArray n}) (hf:f {cls:=.type "list",data:=.seq its.toArray n}={cls:=.type "list",data:=.seq its'.toArray n'}) (r:Av ys its') (hz:ys.length<=sizeLine) (t:Nat):
  AT X ad σ (Ad H p (.lst ys)) {s with heap:=s.heap.update p f,toks:=t}:=by
 have e:(s.heap.update p f).get? p=some {cls:=.type "list",data:=.seq its'.toArray n'}:=by rw[fI f ho (by rw[hf]<;>rfl),hf]
 refine I.write (x:=p) (e:=p) (by rw[h];trivial) (.inl rfl) (λb u hb q=>(gD _ _ (Ne.symm hb)).trans q) ⟨_,e⟩ ?_;exact⟨hz,its',n',r,e⟩
def Xq:V->V->V->Hp->(Hp->Prop)->Prop:=λo i v H Q=>∃p xs k j,o=.ref p/\i=.int k/\H p=some (.lst xs)/\Oq xs.length k=some j/\Q (Ad H p (.lst (xs.set j v)))
theorem Lw:Xj X Xq:=by
 intro ad s σ H o i v ov iv u Q I ro ri rv h;rcases h with⟨p,xs,k,j,rfl,rfl,hp,hj,q⟩;cases ro;obtain⟨t,rfl⟩:=ri;rcases I.lst hp with⟨its,n,r,ho,hz⟩;rcases Os hj with⟨h1,h2,h3,h4⟩;have hl:=r.length;have hn:=Ks
 have I':AT X ad σ (Ad H p (.lst (xs.set j v))) {s with heap:=s.heap.update p (Obj.mapSeq (·.setIfInBounds j u))}:=
  I.lstUpd hp ho (NX its n j u) (r.set rv j) (by rw[eP];exact hz) s.toks
 by_cases h0:0<=k
 ·have hk:k.toNat=j:=by
   rw[seqIndex_of h0 h4]at h1;exact Option.some.inj h1
  exact PySem.W.ki_setAt ho h0 0#1 (by rw[cC,<-hl];exact h4) (by rw[hk];exact⟨_,I',q⟩)
 ·have hk:(k+(its.toArray.size:Int)).toNat=j:=by
   rw[seqIndex_neg 0#1 h3]at h1;rw[cC,<-hl];exact Option.some.inj h1
  exact PySem.W.ki_setBack ho 0#1 (by rw[cC,<-hl];exact h3) 0#1 (by rw[hk];exact⟨_,I',q⟩)
theorem Ku(lo hi:Option Int)(n:Nat):(sliceBounds lo hi none n).1=((HT.KH n 0 lo:Nat):Int)/\(sliceBounds lo hi none n).2.1=((HT.KH n n hi:Nat):Int)/\(sliceBounds lo hi none n).2.2=1:=by
 refine⟨?_,?_,rfl⟩
 ·cases lo with
  |none=>simp[sliceBounds,HT.KH]
  |some i =>
   simp only[sliceBounds,HT.KH,Option.getD_none,show (1:Int)>0 by decide,if_true]
   by_cases h:i<0
   ·simp only[h,if_true]<;>lia
   ·simp only[h,if_false]<;>lia
 ·cases hi with
  |none=>simp[sliceBounds,HT.KH]
  |some i =>
   simp only[sliceBounds,HT.KH,Option.getD_none,show (1:Int)>0 by decide,if_true]
   by_cases h:i<0
   ·simp only[h,if_true]<;>lia
   ·simp only[h,if_false]<;>lia
theorem Jw(its:List qQ)(lo hi:Option Int):slicePick its.toArray lo hi none=((its.drop (HT.KH its.length 0 lo)).take (HT.KH its.length its.length hi-HT.KH its.length 0 lo)).toArray:=by obtain⟨h1,h2,h3⟩:=Ku lo hi its.toArray.size;unfold slicePick;rw[h1,h2,h3];simp only[sliceRange_one,pick_run,List.size_toArray]<;>rfl
def Xr(K:qV):V->Option Int->Option Int->Hp->VK->Prop:=λx lo hi H Q=>∃a xs,x=.ref a/\Ae K H a xs/\∀p,H p=none->Q (.ref p) (Ad H p (.lst (IR xs lo hi)))
theorem FC:az X (Xr X.K):=by intro ad s σ H x v vl vu lo hi sl Q I rx hs pl pu h;rcases h with⟨a,xs,rfl,hx,q⟩;cases rx;rcases I.list hx with⟨its,r,ht,hz⟩;have hlen:=r.length;refine⟨"list",_,slot_list_getitem.lookup,ht.isList.typeIs,?_⟩;refine wpAny_getItem_list_slice ht.isList hs pl pu .none 1#4 ?_ (by rw[List.size_toArray]<;>lia);rw[Jw,<-hlen];refine⟨.ref s.heap.objs.size,_,I.laid (t':=s.toks) (o:=.lst (IR xs lo hi)) (λb ob q=>bK _ q) (bL _) ?_,rfl,q _ (I.hok.fresh (bL _))⟩;exact⟨cK (Lv xs lo hi) hz,_,0,(r.drop (HT.KH xs.length 0 lo)).take (HT.KH xs.length xs.length hi-HT.KH xs.length 0 lo),ba _ rfl⟩
noncomputable def G8:V->Bool
 |.non=>true
 |.bl _=>true
 |.int _=>true
 |.str _=>true
 |_=>false
noncomputable def VF:V->V->Bool
 |.non,.non=>true
 |.bl a,.bl b=>a==b
 |.bl a,.int b=>(if a then 1 else 0)==b
 |.int a,.bl b=>a==(if b then 1 else 0)
 |.int a,.int b=>a==b
 |.str a,.str b=>a==b
 |_,_=>false
theorem V1{A:Around}{s:qS}{y x:V}{v:qQ}(ry:A5 y u)(rx:A5 x v)(fy:G8 y=true)(fx:G8 x=true):SeqAt.EqAt A s u v (VF y x):=by
 cases y with
 |non =>
  cases ry;cases x with
  |non=>cases rx;exact SeqAt.EqAt.same _
  |bl b=>cases rx;exact SeqAt.EqAt.none_bool b
  |int b=>obtain⟨t,rfl⟩:=rx;exact SeqAt.EqAt.none_int b t
  |str b=>obtain⟨t,rfl⟩:=rx;exact SeqAt.EqAt.none_str b t
  |_=>exact qG (show false=true from fx) bf
 |bl a =>
  cases ry;cases x with
  |non=>cases rx;exact SeqAt.EqAt.bool_none a
  |bl b=>cases rx;exact SeqAt.EqAt.bool_bool a b
  |int b=>obtain⟨t,rfl⟩:=rx;exact SeqAt.EqAt.bool_int a b t
  |str b=>obtain⟨t,rfl⟩:=rx;exact SeqAt.EqAt.bool_str a b t
  |_=>exact qG (show false=true from fx) bf
 |int a =>
  obtain⟨t',rfl⟩:=ry;cases x with
  |non=>cases rx;exact SeqAt.EqAt.int_none a t'
  |bl b=>cases rx;exact SeqAt.EqAt.int_bool a t' b
  |int b=>obtain⟨t,rfl⟩:=rx;exact SeqAt.EqAt.int_int a t' b t
  |str b=>obtain⟨t,rfl⟩:=rx;exact SeqAt.EqAt.int_str a t' b t
  |_=>exact qG (show false=true from fx) bf
 |str a =>
  obtain⟨t',rfl⟩:=ry;cases x with
  |non=>cases rx;exact SeqAt.EqAt.str_none a t'
  |bl b=>cases rx;exact SeqAt.EqAt.str_bool a t' b
  |int b=>obtain⟨t,rfl⟩:=rx;exact SeqAt.EqAt.str_int a t' b t
  |str b=>obtain⟨t,rfl⟩:=rx;exact SeqAt.EqAt.str_str a t' b t
  |_=>exact qG (show false=true from fx) bf
 |_=>exact qG (show false=true from fy) bf
noncomputable def Tv(x:V)(u:qQ):Bool:=match u with
 |.none=>VF .non x
 |.bool b=>VF (.bl b) x
 |.int i _=>VF (.int i) x
 |.str z _=>VF (.str z) x
 |_=>false
theorem RI{x y:V}(r:A5 y u)(f:G8 y=true):Tv x u=VF y x:=by
 cases y with
 |non=>cases r;rfl
 |bl b=>cases r;rfl
 |int i=>obtain⟨t,rfl⟩:=r;rfl
 |str z=>obtain⟨t,rfl⟩:=r;rfl
 |_=>exact qG (show false=true from f) bf
theorem Kv{x:V}:∀{xs:List V} {us:List qQ},Av xs us->xs.all G8=true->us.any (Tv x)=xs.any λy=>VF y x
 |_,_,.nil,_=>rfl
 |y::xs,u::us,.cons r t,f=>by rw[List.all_cons,dD]at f;rw[gd,gd,RI r f.1,Kv t f.2]
theorem IS{A:Around}{s:qS}{x:V}{v:qQ}(rx:A5 x v)(fx:G8 x=true):∀{xs:List V} {us:List qQ},Av xs us->xs.all G8=true->∀u∈us,SeqAt.EqAt A s u v (Tv x u)
 |_,_,.nil,_=>λu hu=>by cases hu
 |y::xs,u::us,.cons r t,f=>λu' hu=>by
  rw[List.all_cons,dD]at f;rcases br.mp hu with rfl|hu
  ·rw[RI r f.1];exact V1 r rx f.1 fx
  ·exact IS rx fx t f.2 u' hu
noncomputable def Xs(x:V)(xs:List V):Bool:=xs.any λy=>VF y x
def bC(K:qV)(neg:Bool):R2:=λx y H Q=>∃p xs,y=.ref p/\(Ae K H p xs\/Ah K H p xs)/\G8 x=true/\xs.all G8=true/\Q (.bl (if neg then !Xs x xs else Xs x xs)) H
theorem QC:Ft X (compareOp .In) (bC X.K false):=by
 intro ad s σ H x y v u Q I rx ry h;rcases h with⟨p,xs,rfl,hq,fx,fs,q⟩;cases ry;rcases hq with hq|hq
 ·rcases I.list hq with⟨its,r,pl,hz⟩;refine SeqAt.in_listAt (Tv x) pl.isList (λw hw=>IS rx fx r fs w (by simpa using hw)) ⟨.bl _,H,I,rfl,?_⟩;rw[show its.toArray.any (Tv x)=its.any (Tv x) by simp,Kv r fs];exact q
 ·rcases I.tuple hq with⟨its,r,pl,hz⟩;refine SeqAt.in_tupleAt (Tv x) pl (λw hw=>IS rx fx r fs w (by simpa using hw)) ⟨.bl _,H,I,rfl,?_⟩;rw[show its.toArray.any (Tv x)=its.any (Tv x) by simp,Kv r fs];exact q
theorem Fx:Cf X (.builtin "len") (λxs H Q=>∃p ys,xs=[.ref p]/\(Ae X.K H p ys\/Ah X.K H p ys)/\Q (.int ys.length) H):=by
 intro ad s σ H xs us Q I r h;rcases h with⟨p,ys,rfl,hq,q⟩;obtain⟨u,rfl,rx⟩:=FQ r;cases rx;have hn:=Ks;rcases hq with hq|hq
 ·rcases I.list hq with⟨its,r',pl,hz⟩;have hlen:=r'.length;exact Calls.call_len_list pl.isList (by simp only[List.size_toArray]<;>lia) ⟨.int ys.length,H,I.tok _,⟨s.toks+1,by rw[List.size_toArray,hlen]⟩,q⟩
 ·rcases I.tuple hq with⟨its,r',pl,hz⟩;have hlen:=r'.length;exact len_tuple pl (by simp only[List.size_toArray]<;>lia) ⟨.int ys.length,H,I.tok _,⟨s.toks+1,by rw[List.size_toArray,hlen]⟩,q⟩
theorem Kw:Cf X (.type "list") (λxs H Q=>∃p ys,xs=[.ref p]/\(Ae X.K H p ys\/Ah X.K H p ys)/\∀l,H l=none->Q (.ref l) (Ad H l (.lst ys))):=by
 intro ad s σ H xs us Q I r h;rcases h with⟨p,ys,rfl,hq,q⟩;obtain⟨u,rfl,rx⟩:=FQ r;cases rx
 have fin:∀(its:List qQ),Av ys its->ys.length<=sizeLine->∀(h':Heap) (c':Nat),(∀b o',s.heap.get? b=some o'->h'.get? b=some o') ->
   h'.get? s.heap.objs.size=some {cls:=.type "list",dict:=none,data:=.seq its.toArray c',slots:=#[]}->EP X ad σ Q (.ref s.heap.objs.size) {s with heap:=h'}:=λits r' hz h' c' kp e =>
  ⟨.ref s.heap.objs.size,_,I.laid (t':=s.toks) kp (bL _) (show Ax X.prog X.w _ h' _ (.lst ys) from⟨hz,its,c',r',e⟩),rfl,q _ (I.hok.fresh (bL _))⟩
 rcases hq with hq|hq
 ·rcases I.list hq with⟨its,r',pl,hz⟩;have hlen:=r'.length;rcases pl.isList with⟨o,ho,hc,n,hd⟩;exact call_list_seq p (.inl rfl) ho hc hd (λh' c' kp e=>fin its r' hz h' c' kp e) (by simp only[List.size_toArray]<;>lia)
 ·rcases I.tuple hq with⟨its,r',pl,hz⟩;have hlen:=r'.length;rcases pl with⟨o,ho,hc,n,hd⟩;exact call_list_seq p (.inr rfl) ho hc hd (λh' c' kp e=>fin its r' hz h' c' kp e) (by simp only[List.size_toArray]<;>lia)
theorem CF:Cf X (.type "tuple") (λxs H Q=>∃p ys,xs=[.ref p]/\((Ae X.K H p ys/\∀l,H l=none->Q (.ref l) (Ad H l (.tup ys)))\/(Ah X.K H p ys/\Q (.ref p) H))):=by
 intro ad s σ H xs us Q I r h;obtain⟨p,ys,rfl,h⟩:=h;obtain⟨u,rfl,rx⟩:=FQ r;cases rx;rcases h with⟨hq,q⟩|⟨hq,q⟩
 ·obtain⟨its,r',pl,hz⟩:=I.list hq;have hlen:=r'.length;refine call_tuple_list pl.isList (λh' kp=>?_) (by simp only[List.size_toArray]<;>lia);have I1:AT X ad σ H {s with heap:=h'}:=I.kept (t':=s.toks) kp
  have I2:AT X ad σ (Ad H h'.objs.size (.tup ys)) {s with heap:=h'.push {cls:=.type "tuple",data:=.seq its.toArray}}:=
   I1.laid (t':=s.toks) (λb o e=>bK _ e) (bL _) (show Ax X.prog X.w _ _ _ (.tup ys) from⟨hz,its,r',IsTup.new _ _⟩)
  exact⟨.ref h'.objs.size,_,I2,rfl,q _ (I1.hok.fresh (bL _))⟩
 ·obtain⟨its,r',pl,hz⟩:=I.tuple hq;exact call_tuple_same pl ⟨.ref p,H,I,rfl,q⟩
def Zy(K:qV)(T:String)(x:V)(H:Hp):Prop:=match x with
 |.str _=>T="str"
 |.int _=>T="int"
 |.ref p=>(T="list"/\∃xs,Ae K H p xs)\/(T="tuple"/\∃o,K.lookup p=some o/\o.cls=.type "tuple"/\o.dict=none) \/
   (T="dict"/\((∃kvs,H p=some (.dK kvs))\/∃kvs,H p=some (.dT kvs)))\/(T="set"/\∃S n,H p=some (.set S n))
 |_=>False
theorem V2{s:qS}{x:V}{v:qQ}(I:AT X ad σ H s)(r:A5 x v)(ty:Zy X.K T x H):
  s.TypeIs v T/\∀a,v=.ref a->∃ob,s.heap.get? a=some ob/\ob.dict=none:=by
 cases x with
 |str z =>
  obtain⟨t,rfl⟩:=r;cases (show T="str" from ty);exact⟨typeIs_str s z t,λ_ e=>nomatch e⟩
 |int i =>
  obtain⟨t,rfl⟩:=r;cases (show T="int" from ty);exact⟨typeIs_int s i t,λ_ e=>nomatch e⟩
 |ref p =>
  cases r;rcases ty with⟨rfl,xs,hq⟩|⟨rfl,o,hk,hc,hd⟩|⟨rfl,hk⟩|⟨rfl,S,n,hk⟩
  ·rcases I.list hq with⟨its,_,pl,_⟩;refine⟨pl.isList.typeIs,λa e=>?_⟩;cases e;rcases pl with⟨o,n,e,c,hd,_⟩;exact⟨o,e,hd⟩
  ·refine⟨⟨o,I.kIn p o hk,hc⟩,λa e=>?_⟩;cases e;exact⟨o,I.kIn _ o hk,hd⟩
  ·have z:∃o,s.heap.get? p=some o/\o.ExactDict:=by
    rcases hk with⟨kvs,hk⟩|⟨kvs,hk⟩
    ·rcases I.hok p _ hk with⟨_,_,_,_,o,_,_,e,ex,_⟩;exact⟨o,e,ex⟩
    ·rcases I.hok p _ hk with⟨_,_,_,_,o,_,_,e,ex,_⟩;exact⟨o,e,ex⟩
   obtain⟨o,e,ex⟩:=z;refine⟨⟨o,e,ex.1⟩,λa e2=>?_⟩;cases e2;exact⟨o,e,ex.2.1⟩
  ·rcases I.hok p _ hk with⟨o,_,_,_,e,ex,_⟩;refine⟨⟨o,e,ex.1⟩,λa e2=>?_⟩;cases e2;exact⟨o,e,ex.2.1⟩
 |_=>exact False.elim ty
def Zz(K:qV)(T:String)(r:V->List V->Hp->VK->Prop)(to:TE)(t:TA):TE:=λσ H Q=>to σ H λx H1=>Zy K T x H1/\t σ H1 λxs H2=>r x xs H2 Q
variable{o e:Expr}{t:TA}{apos cpos:Pos}{id:String}{r:V->List V->Hp->VK->Prop}
theorem Ow(pa:PlainAttrs T)(slot:Slot T name id)(hty:typeOf (.builtin id)=pure (.type "method_descriptor"))(hm:Xp X id r)(ho:PE X o to)(ha:PA X (e::es) t)
  (hbase:attributeBase o name X.env (eval o X.env)=eval o X.env:=by rfl)
  (hfew:((backTo cpos (starEach (e::es) X.env)).all (λx=>!x.1)&&(backToKw cpos (keywordEach [] X.env)).all (λx=>x.1.isSome)
   && decide ((e::es).length+([]:List Keyword).length+(if ([]:List Keyword).isEmpty then 0 else 1)<30))=true:=by rfl)
  (hline:(apos.endLine==cpos.line)=true:=by rfl) (hs:starEach (e::es) X.env=(false,eval e X.env)::starEach es X.env:=by rfl) (hplain:(backTo cpos (starEach es X.env)).any (·.1)=false:=by rfl):
  PE X (.Call (.Attribute o name apos) (e::es) [] cpos) (Zz X.K T r to t):=by
 intro ad s σ H Q I h;refine wpAny_Call_method_late hbase hfew hline rfl (BN (ho ad s σ H _ I h) λv s1 z9=>?_);obtain⟨x,H1,I1,r1,ty,q1⟩:=z9;obtain⟨h1,h2⟩:=V2 I1 r1 ty;refine⟨T,id,pa,slot,hty,h1,h2,?_⟩;have hA:=ha cpos ad s1 σ H1 _ I1 q1;rw[hs]at hA⊢;refine Calls.callWith_builtin (by show (false||(backTo cpos (starEach es X.env)).any (·.1))=false;rw[hplain]<;>rfl) (Calls.evalArgs_plain ?_);exact BN hA λus s2 ⟨vs,H2,I2,r2,q2⟩=>hm ad s2 σ H2 x vs v us Q I2 r1 r2 q2
end
def a7(X:Cx)(id:String)(r:V->List V->Hp->VK->Prop):Prop:=
 ∀(ad:List (qR×Obj)) (s:qS) (σ:St) (H:Hp) (x:V) (xs:List V) (v:qQ) (us:List qQ) (Q:VK),AT X ad σ H s->A5 x v->Av xs us->r x xs H Q ->
  wpAny 0#6 X.A (call (.builtin id) (v::us)) (EP X ad σ Q) X.xe s
theorem Av.one:∀{x:V} {us:List qQ},Av [x] us->∃u,us=[u]/\A5 x u:=by
 intro _ _ r;cases r with
 |cons r t=>cases t;exact⟨_,rfl,r⟩
theorem Av.reverse(h:Av xs us):Av xs.reverse us.reverse:=by
 induction h with
 |nil=>exact .nil
 |cons r t ih=>rw[List.reverse_cons,List.reverse_cons];exact Av.append ih (.cons r .nil)
theorem Av.rep(h:Av xs us):∀k:Nat,Av (List.replicate k xs).flatten (List.replicate k us).flatten
 |0=>.nil
 |k+1=>by rw[dQ,dQ,fS,fS];exact Av.append h (Av.rep h k)
theorem KI(its:List qQ):∀(k:Nat) (gt:List qQ),
  List.foldl (λx1 x2=>x1++x2) gt.toArray (List.replicate k its.toArray)=(gt++(List.replicate k its).flatten).toArray
 |0,gt=>by simp
 |k+1,gt=>by
  have e:gt.toArray++its.toArray=(gt++its).toArray:=by simp
  have e2:(gt++its)++(List.replicate k its).flatten=gt++(List.replicate (k+1) its).flatten:=by rw[dQ,fS,cN]
  rw[<-e2,<-KI its k (gt++its),<-e,dQ,List.foldl_cons]
section
variable{X:Cx}{s:qS}{l b:qR}{zs:List V}
theorem AT.lset{its':List qQ}{n:Nat}{f:Array qQ->Array qQ}{t':Nat}(I:AT X ad σ H s)(hH:H l=some (.lst xs))
  (e:s.heap.get? l=some {cls:=.type "list",data:=.seq its.toArray n}) (hf:f its.toArray=its'.toArray) (hv:Av ys its') (hz:ys.length<=sizeLine):
  AT X ad σ (Ad H l (.lst ys)) {s with heap:=s.heap.update l (Obj.mapSeq f),toks:=t'}:=by
 have q:=PySem.IsL.update e f;rw[hf]at q;refine I.write (x:=l) (e:=l) (by rw[hH];exact trivial) (.inl rfl) (λb' u hb hu=>(gD s.heap (Obj.mapSeq f) (Ne.symm hb)).trans hu) ⟨_,q⟩ ?_;exact⟨hz,its',_,hv,q⟩
theorem AT.lnew(I:AT X ad σ H s)(hv:Av ys its)(hz:ys.length<=sizeLine):
  AT X ad σ (Ad H s.heap.objs.size (.lst ys)) {s with heap:=s.heap.push {cls:=.type "list",data:=.seq its.toArray},toks:=t'}:=
 I.laid (λ_ _ q=>bK _ q) (bL _) ⟨hz,its,0,hv,ba _ rfl⟩
theorem AT.fresh(I:AT X ad σ H s):H s.heap.objs.size=none:=I.hok.fresh (bL _)
theorem AT.lstM(I:AT X ad σ H s)(hH:H l=some (.lst xs)):xs.length<=sizeLine/\∃(its:List qQ) (n:Nat),Av xs its/\xs.length=its.length/\s.heap.get? l=some {cls:=.type "list",data:=.seq its.toArray n}:=by rcases I.hok l _ hH with⟨z,its,n,r,e⟩;exact⟨z,its,n,r,r.length,e⟩
theorem Lx{n:Nat}(h:n<=sizeLine):Builtin.List.listTooLong n=false:=by unfold Builtin.List.listTooLong;exact qI 0#1
end
section
variable{X:Cx}
def Kx:V->List V->Hp->VK->Prop:=λx vs H Q=>∃l xs y,x=.ref l/\vs=[y]/\H l=some (.lst xs)/\xs.length<sizeLine/\Q .non (Ad H l (.lst (xs++[y])))
theorem GU:a7 X "list.append" Kx:=by intro ad s σ H x vs v us Q I rx rv h;rcases h with⟨l,xs,y,rfl,rfl,hH,hz,q⟩;cases rx;obtain⟨u,rfl,ru⟩:=rv.one;rcases I.lstM hH with⟨z,its,n,r,hl,e⟩;refine call_meets F.slot_list_append ⟨_,e,rfl⟩ F.entry_list_append (F.args_list_append_2 _ _) (PySem.list_append l its.toArray n u (by rw[cC];lia)) ⟨e,?_⟩;refine⟨.non,_,I.lset (its':=its++[u]) hH e 1#4 (r.append (.cons ru .nil)) ?_,rfl,q⟩;rw[bN,cP];lia
def Tw:V->List V->Hp->VK->Prop:=λx vs H Q=>∃l b xs zs,x=.ref l/\vs=[.ref b]/\H l=some (.lst xs)/\H b=some (.lst zs)/\xs.length+zs.length<=sizeLine/\Q .non (Ad H l (.lst (xs++zs)))
theorem KJ:a7 X "list.extend" Tw:=by
 intro ad s σ H x vs v us Q I rx rv h;rcases h with⟨l,b,xs,zs,rfl,rfl,hH,hB,hz,q⟩;cases rx;obtain⟨u,rfl,ru⟩:=rv.one;cases ru;rcases I.lstM hH with⟨z,its,n,r,hl,e⟩;rcases I.lstM hB with⟨z2,its2,n2,r2,hl2,e2⟩;have hsz:its.toArray.size+its2.toArray.size<=sizeLine:=by rw[cC,cC];lia
 have hlong:¬(!its.toArray.isEmpty&&Builtin.List.listTooLong (its.toArray.size+its2.toArray.size))=true:=by rw[Lx hsz,Bool.and_false];exact bf
 refine call_meets F.slot_list_extend ⟨_,e,rfl⟩ F.entry_list_extend (F.args_list_extend_2 _ _)
  (AutoSeq1.list_extend_list_list_0 l its.toArray n b its2.toArray n2 hlong (by rw[cC];lia) 0#1) ⟨e,e2,?_⟩
 refine⟨.non,_,I.lset (its':=its++its2) hH e 1#4 (r.append r2) ?_,rfl,q⟩;rw[bN];lia
def Xt:R2:=λx y H Q=>∃l b xs zs,x=.ref l/\y=.ref b/\H l=some (.lst xs)/\H b=some (.lst zs)/\xs.length+zs.length<=sizeLine/\∀p,H p=none->Q (.ref p) (Ad H p (.lst (xs++zs)))
theorem RJ:Ft X (binaryOp .Add) Xt:=by
 intro ad s σ H x y v u Q I rx ry h;rcases h with⟨l,b,xs,zs,rfl,rfl,hH,hB,hz,q⟩;cases rx;cases ry;rcases I.lstM hH with⟨z,its,n,r,hl,e⟩;rcases I.lstM hB with⟨z2,its2,n2,r2,hl2,e2⟩;refine PySem.P.add_list e e2 ?_ (by rw[cC,cC];lia);have ea:its.toArray++its2.toArray=(its++its2).toArray:=by simp
 rw[ea];exact⟨.ref _,_,I.lnew (t':=s.toks) (r.append r2) (by rw[bN];lia),rfl,q _ I.fresh⟩
def Xu:R2:=λx y H Q=>∃l k xs,x=.ref l/\y=.int k/\H l=some (.lst xs)/\-(2^63)<=k/\k<2^63/\xs.length*k.toNat<=sizeLine /\
 ∀p,H p=none->Q (.ref p) (Ad H p (.lst (List.replicate k.toNat xs).flatten))
theorem Tx(xs:List α)(k:Nat):(List.replicate k xs).flatten.length=k*xs.length:=by
 induction k with
 |zero=>simp
 |succ k ih=>rw[dQ,fS,bN,ih,Nat.succ_mul,eV]
theorem NY:Ft X (binaryOp .Mult) Xu:=by
 intro ad s σ H x y v u Q I rx ry h;rcases h with⟨l,k,xs,rfl,rfl,hH,h1,h2,hz,q⟩;cases rx;obtain⟨t,rfl⟩:=ry;rcases I.lstM hH with⟨z,its,n,r,hl,e⟩;have hlen:its.toArray.size*k.toNat<=sizeLine:=by rw[cC,<-hl];exact hz
 have hcap:¬its.toArray.size*k.toNat>(2^63-1)/8:=by
  have:(sizeLine:Nat)<=(2^63-1)/8:=by decide
  lia
 have hfit:¬(!Builtin.List.listFitsIndex k)=true:=by rw[fitsIndex_both h1 h2];exact bf
 have hlong:¬Builtin.List.listTooLong (its.toArray.size*k.toNat)=true:=by rw[Lx hlen];exact bf
 have hnew:List.foldl (λx1 x2=>x1++x2) #[] (List.replicate (if its.toArray.isEmpty=true then 0 else k.toNat) its.toArray)=(List.replicate k.toNat its).flatten.toArray:=by
  have f0:∀m:Nat,List.foldl (λx1 x2=>x1++x2) #[] (List.replicate m its.toArray)=(List.replicate m its).flatten.toArray:=λm=>by have:=KI its m [];rw[gh]at this;exact this
  rw[f0];cases its with
  |nil=>simp
  |cons a r'=>rw[qE 1#4]
 refine wpAny_binaryOp_repeat_ref (T:="list") (U:="int") 0#8 ⟨_,e,rfl⟩ (λs'=>typeIs_int s' k t) noFill_list_mul F.fills_int_mul F.slot_int_rmul repeat_list F.slot_int_index.lookup
  (call_meets F.slot_int_rmul (typeIs_int s k t) F.entry_int_rmul (F.args_int_rmul_2 _ _) (int___rmul___int_list k t l its.toArray n)
   ⟨e,rfl,⟨_,e,rfl⟩,call_meets F.slot_list_mul ⟨_,e,rfl⟩ F.entry_list_mul (F.args_list_mul_2 _ _) (AutoListH.list___mul___list_int_3 l its.toArray n k t hfit hcap hlong) ⟨e,?_⟩⟩)
 rw[hnew];exact⟨.ref _,_,I.lnew (t':=s.toks) (r.rep k.toNat) (by rw[Tx,dS];exact hz),rfl,q _ I.fresh⟩
end
end L2
namespace Att
open PySem PySem.W PySem.Calls PyProof.Rows
theorem ints_of_wellAll{P:Params}{h:Heap}:∀(ns:qW) (vs:List qQ),WellAll P h vs (ns.map WData.int)->IntsAre vs ns:=by
 intro ns
 induction ns with
 |nil =>
  intro vs w;rw[List.map_nil]at w;cases w;exact .nil
 |cons n ns ih =>
  intro vs w;rw[cU]at w;cases w with
  |cons a b =>
   cases a;exact .cons _ _ (ih _ b)
theorem script_of{l:OpenLaw}{n:Nat}(hn:l.most=some n){P:Params}{h:Heap}{args:List WData}{vals:List qQ}
  (hpre:l.row.toRowW.claim.pre args=true) (hwl:WellAll P h vals args):
  ∃a vs ns,vals=[Value.ref a]/\args=[WData.list (ns.map WData.int)]/\h.get? a=some {cls:=.type "list",data:=.seq vs.toArray}/\IntsAre vs ns/\ns.length<=n:=by
 have hsh:WShape.hasAll [] args [.list .int]=true:=(pre_splitW hpre).1;have hc:l.pre.holds [] {args:=args}=true:=(pre_splitW hpre).2;obtain⟨d,r,rfl,h1,h2⟩:=hasAllW_cons hsh;obtain rfl:=hasAllW_nil h2;obtain⟨xs,rfl,h3⟩:=hasW_list h1;obtain⟨ns,rfl⟩:=items_int h3
 have hlen:ns.length<=n:=by
  unfold OpenLaw.pre at hc
  have h4:(WTm.not (.lt (.lit (.int (n:Int))) (.len (.arg 0)))).holds [] {args:=[.list (ns.map .int)]}=true:=by have h4:=(holds_andW hc).1;rw[hn]at h4;exact h4
  have h5:=condW_of h4 (w_not (w_lt w_lit (w_len_list (w_arg rfl))));rw[bG]at h5;refine gP λq=>?_;have q':(n:Int)<((ns.length:Nat):Int):=by lia
  first
   | (rw[qH q']at h5;exact qG h5 0#8)
   | (simp at h5;lia)
 cases hwl with
 |cons w1 w2 =>
  cases w2;cases w1 with
  |list ho hall=>exact⟨_,_,ns,rfl,rfl,ho,ints_of_wellAll ns _ hall,hlen⟩
theorem post_true(l:OpenLaw)(args:List WData):l.row.toRowW.claim.post args (.bool true) args=true:=
 postW_of (r:=l.row.toRowW) (X:=(true==true))
  (show WShape.has [] (.bool true) .bool=true by first|rfl|decide|simp[WShape.has,WShape.arms,WShape.armsAll])
  (show (WTm.eq .res (.lit (.bool true))).value [] {args:=args,res:=some (.bool true),after:=args}=some (.bool (true==true)) from w_eq_bool (w_res rfl) w_lit) rfl
theorem attach_call{l:OpenLaw}{n:Nat}{q:qT}{loose:List Str}{XP:(Str->Option qQ)->Heap->Prop}{YP:qU->Heap->Prop}{d:DefRec}
  (hn:l.most=some n) (hdf:d.params.defaults=[])
  (call:∀(w:qU) (s₀ s₁:qS) (mg mb:Str->Option qQ) (fa:qR) (o:Obj) (pm cd doc:qQ) (a:qR) (vs:List qQ) (ns:qW),
   Ground q loose [] XP w s₀ mg mb s₁.heap->YP w s₁.heap ->
   s₁.heap.get? fa=some o->o.data=.func (docDef d.name d.params d.body d.scope pm cd doc)->s₁.heap.CodeRec cd d.name->mg d.name=some (.ref fa) ->
   s₁.heap.get? a=some {cls:=.type "list",data:=.seq vs.toArray}->IntsAre vs ns->ns.length<=n->s₁.gens=#[] ->
   codeAny (model l.prog w) callerA (.call (.ref fa) ⟨[.ref a],[]⟩) (λr s'=>r=.ok (.ret (.bool true))/\OldK s₁.heap s'.heap/\s'.os=s₁.os/\AllBare s'.gens) s₁):
  WalkO q loose XP YP l.row.toRowW d [] (λf vs=>PySem.call f vs):=by
 intro w s₀ s₁ mg mb G Y fa o pm cd doc dV kV ho hd hcd hD hmg hg args vals as hpre hlay hrd hwl hlo;obtain rfl:dV=.none:=Dflts.none hD hdf;obtain rfl:kV=.none:=Dflts.noKw hD;obtain⟨a,vs,ns,rfl,rfl,hobj,hints,hlen⟩:=script_of hn hpre hwl;refine enter_call (codeAny_mono (call w s₀ s₁ mg mb fa o pm cd doc a vs ns G Y ho (fd_plain hd) hcd hmg hobj hints hlen hg) λr s' hq=>?_);obtain⟨rfl,h2,h3,h4⟩:=hq;exact⟨.inl ⟨.bool true,.bool true,[],rfl,λ_=>rfl,.bool true,post_true l _,λ_=>⟨List.Pairwise.nil,λ_ hm=>(nomatch hm)⟩⟩,h2,h3,h4⟩
section
variable{prog:qT}{w:qU}{A:Around}{E:qQ->qS->Prop}{s:qS}{K:Frag}
end
end Att
namespace L2
open PySem PySem.Spec PyProof.Rows
variable{H H':Hp}{a:qR}{an od:Option qR}{gu doc oc:qQ}{fd:FuncData}{ps:List Str}{qual:Str}{xs:List V}
theorem KL:∀{vs:List qQ} {ns:qW},IntsAre vs ns->Av 1#3 vs
 |_,_,.nil=>.nil
 |_,_,.cons n t h=>.cons ⟨t,rfl⟩ (KL h)
def Cd(s:Stmt):Arguments:=match s with
 |.FunctionDef _ a _ _ _ _ _ _ _ _=>a
 |_=>{posonlyargs:=[],args:=[],vararg:=none,kwonlyargs:=[],kw_defaults:=[],kwarg:=none,defaults:=[]}
def BH(s:Stmt):List Stmt:=match s with
 |.FunctionDef _ _ b _ _ _ _ _ _ _=>b
 |_=>[]
def AG(s:Stmt):Scope:=match s with
 |.FunctionDef _ _ _ _ _ _ sc _ _ _=>sc
 |_=>{kind:=.function,names:=[],isGenerator:=false,isCoroutine:=false}
abbrev E0:XK:=λ_ _ _=>False
structure Bl(K:qV)(x qual:Str)(st:Stmt)(f:qR)(fd:FuncData):Prop where
 ex:∃(oc:qQ) (od:Option qR) (kV doc pm:qQ) (an:Option qR) (gu ct:qQ) (osl:Array (Option qQ)),
  fd=PySem.W.fnOf x qual (Cd st) (BH st) (AG st) .none kV doc pm an gu ct/\K.lookup f=some ⟨oc,od,.func fd,osl⟩/\PySem.W.codeIn K gu qual=true
 kp:PySem.W.keepIn K (.ref f)=true
variable{st:Stmt}{osl:Array (Option qQ)}
section
variable{P:qT}{w:qU}{K:qV}{mg:Str->Option qQ}{base:Heap}
theorem Bl.binds{x:Str}{f:qR}(F:Bl K x qual st f fd)
  (h:∀(kV doc pm:qQ) (an:Option qR) (gu ct:qQ) (us:List qQ),us.length=ps.length->bindArgs (PySem.W.fnOf x qual (Cd st) (BH st) (AG st) .none kV doc pm an gu ct) ⟨us,[]⟩=pure (ps.zip us)):Dv K fd ps []:=by
 rcases F.ex with⟨oc,od,kV,doc,pm,an,gu,ct,osl,rfl,lk,hcd⟩;exact .all (h kV doc pm an gu ct)
theorem V3{x:Str}{f:qR}{kV pm ct:qQ}(l:K.lookup f=some ⟨oc,od,.func (PySem.W.fnOf x qual (Cd st) (BH st) (AG st) .none kV doc pm an gu ct),osl⟩)
  (c:PySem.W.codeIn K gu qual=true) (k:PySem.W.keepIn K (.ref f)=true):Bl K x qual st f (PySem.W.fnOf x qual (Cd st) (BH st) (AG st) .none kV doc pm an gu ct):=⟨⟨oc,od,kV,doc,pm,an,gu,ct,osl,rfl,l,c⟩,k⟩
end
theorem DF{A:Around}{k:Nat}(hr:Br k A):A.units+1<cLine:=d8 (Nat.add_le_add_left (by decide:1<=64) _) hr.units
theorem AY{n:Nat}(h:n<=1000):n<sizeLine:=d8 h 0#8
section
variable{X:Cx}
theorem pv(i:Nat){x:Str}{pos:Pos}(hN:X.N[i]?=some x:=by rfl)(hv:Zq X.env.scope x:=by first|exact Or.inl rfl|exact Or.inr (Or.inl rfl)|exact Or.inr (Or.inr rfl))(hd:(x==("__debug__":Str))=false:=by decide)
  (hcd:(x==("__classdict__":Str))=false:=by decide):PE X (.Name x pos) (Vn i):=Vo hN hv hd hcd
end
theorem V4{A B:Prop}(h:B):if false=true then A else B:=by rw[qE bf];exact h
theorem Z0{A B:Prop}(h:A):if true=true then A else B:=by rw[qF rfl];exact h
theorem Z1{c A B:Prop}[Decidable c](h1:c->A)(h2:¬c->B):if c then A else B:=by
 by_cases h:c
 ·rw[qF h];exact h1 h
 ·rw[qE h];exact h2 h
def AH(H H':Hp):Prop:=∀b o,H b=some o->H' b=some o
theorem AH.refl(H:Hp):AH H H:=λ_ _ h=>h
variable{H1 H2:Hp}
theorem AH.trans(a:AH H H1)(b:AH H1 H2):AH H H2:=λc o h=>b c o (a c o h)
theorem AH.free(e:AH H H'){l:qR}(h:H' l=Option.none):H l=Option.none:=by
 cases q:H l with
 |none=>rfl
 |some o =>
  rw[e l o q]at h;cases h
theorem AH.seq{K:qV}(e:AH H H')(h:Ae K H a xs):Ae K H' a xs:=by
 rcases h with (h|⟨o,h⟩)|h
 ·exact .inl (.inl (e _ _ h))
 ·exact .inl (.inr ⟨o,e _ _ h⟩)
 ·exact .inr h
end L2
set_option maxHeartbeats 4000000
set_option compiler.extract_closed false
set_option genSizeOfSpec false
namespace L2
open PySem PySem.Spec PyProof.Rows
variable{C a:qR}{CX:Tc}{D:HU}{E:qQ->qS->Prop}{H H':Hp}{an od:Option qR}{gu doc oc u:qQ}{es:List Expr}{fd:FuncData}{i t':Nat}{name qual:Str}{o:HO}{osl:Array (Option qQ)}{ad:List (qR×Obj)}{ps:List Str}{s':qS}{scope:Scope}{st:Stmt}{ta:TA}{tg:Expr}{xs:List V}{α β:Type}{σ:St}
noncomputable def EZ(o:Obj):Option qQ:=match o.data with
 |.fields vs=>vs[2]?
 |_=>none
def DK(h h':Heap):Prop:=h.objs.size<=h'.objs.size/\∀(b:Nat) (o o':Obj),h.objs[b]?=some o->h'.objs[b]?=some o'->o'.dict=o.dict/\EZ o'=EZ o
theorem DK.refl(h:Heap):DK h h:=⟨bL _,λb o o' e e'=>by rw[e]at e';cases e';exact⟨rfl,rfl⟩⟩
variable{h1:Heap}
theorem DK.trans{h2 h3:Heap}(x:DK h1 h2)(y:DK h2 h3):DK h1 h3:=⟨cK x.1 y.1,λb o o' e e'=>by obtain⟨hb,_⟩:=Array.getElem?_eq_some_iff.mp e;have q:h2.objs[b]?=some (h2.objs[b]'(bR hb x.1)):=fW (bR hb x.1);exact⟨(y.2 b _ o' q e').1.trans (x.2 b o _ e q).1,(y.2 b _ o' q e').2.trans (x.2 b o _ e q).2⟩⟩
theorem RK{h:Heap}{o:Obj}(e:h.get? a=some o):h.objs[a]?=some o:=by
 unfold Heap.get? at e
 split at e
 ·cases e
 ·exact e
variable{h':Heap}
theorem DK.get{h:Heap}{o o':Obj}(x:DK h h')(e:h.get? a=some o)(e':h'.get? a=some o'):o'.dict=o.dict/\EZ o'=EZ o:=x.2 a o o' (RK e) (RK e')
theorem DK.push(h:Heap)(o:Obj):DK h (h.push o):=by
 refine⟨?_,λb u u' e e'=>?_⟩
 ·rw[dM];exact eg _
 ·have hb:=(Array.getElem?_eq_some_iff.mp e).1;have q:(h.push o).objs[b]?=h.objs[b]?:=by show (h.objs.push o)[b]?=_;rw[Array.getElem?_push_lt hb,fW hb]
  rw[q,e]at e';cases e';exact⟨rfl,rfl⟩
theorem DK.update(h:Heap)(a:qR){f:Obj->Obj}(k:∀o,(f o).dict=o.dict/\EZ (f o)=EZ o):DK h (h.update a f):=by
 have q:(h.update a f).objs=h.objs.modify a f:=rfl;refine⟨by rw[q,Array.size_modify];exact bL _,λb u u' e e'=>?_⟩;rw[q,Array.getElem?_modify]at e'
 split at e'
 ·rw[e]at e';cases e';exact k u
 ·rw[e]at e';cases e';exact⟨rfl,rfl⟩
noncomputable def KT{α:Type}:Sem α->Prop
 |.rule _ k=>∀u,KT (k u)
 |.at _ k=>∀u,KT (k u)
 |.load _ _ k=>∀u,KT (k u)
 |.update _ _ f k=>(∀o,(f o).dict=o.dict/\EZ (f o)=EZ o)/\∀u,KT (k u)
 |.loadIfAlive _ k=>∀u,KT (k u)
 |.point _ k=>∀u,KT (k u)
 |.alloc _ k=>∀u,KT (k u)
 |.fresh k=>∀u,KT (k u)
 |.ask k=>∀u,KT (k u)
 |.handled _ k=>∀u,KT (k u)
 |.stack k=>∀u,KT (k u)
 |.thread k=>∀u,KT (k u)
 |.pure _=>True
 |.raise _=>True
 |.unsupported _=>True
 |.finish _=>True
 |_=>False
theorem KT.keep{M:Model}{Γ:PySem.Ctx}:∀(t:Sem α),KT t->∀(Q:α->Pos->qS->Prop) (E:qQ->Pos->qS->Prop) (p:Pos) (s:qS),Sem.wp M Γ t Q E p s ->
  Sem.wp M Γ t (λa p' s'=>Q a p' s'/\DK s.heap s'.heap) (λe p' s'=>E e p' s'/\DK s.heap s'.heap) p s:=by
 intro t
 induction t with
 |pure x=>exact λ_ Q E p s h=>⟨h,DK.refl _⟩
 |raise v=>exact λ_ Q E p s h=>⟨h,DK.refl _⟩
 |unsupported|finish=>exact λ_ Q E p s h=>h
 |yield|fork|await|register|choose|os|call|genState|newGen|resume=>exact λk=>k.elim
 |rule _ k ih|«at» _ k ih|point _ k ih|loadIfAlive _ k ih|fresh k ih|ask k ih|handled _ k ih|stack k ih|thread k ih=>exact λz Q E p s h=>ih _ (z _) Q E _ _ h
 |alloc o k ih=>exact λz Q E p s h=>Sem.wp_mono _ _ _ (λa p' s' q=>⟨q.1,(DK.push _ _).trans q.2⟩) (λa p' s' q=>⟨q.1,(DK.push _ _).trans q.2⟩) _ _ (ih _ (z _) Q E _ _ h)
 |load a _ k ih=>exact λz Q E p s ⟨o,ho,h⟩=>⟨o,ho,ih _ (z _) Q E _ _ h⟩
 |update a _ f k ih=>exact λz Q E p s ⟨ha,h⟩=>⟨ha,Sem.wp_mono _ _ _ (λa p' s' q=>⟨q.1,(DK.update _ _ z.1).trans q.2⟩) (λa p' s' q=>⟨q.1,(DK.update _ _ z.1).trans q.2⟩) _ _ (ih _ (z.2 _) Q E _ _ h)⟩
theorem KT.run{M:Model}{A:Around}{t:Sem α}{Q:α->qS->Prop}{s:qS}(k:KT t)(h:wpAny M A t Q E s):
  wpAny M A t (λa s'=>Q a s'/\DK s.heap s'.heap) (λe s'=>E e s'/\DK s.heap s'.heap) s:=λΓ p hΓ=>KT.keep t k _ _ p s (h Γ p hΓ)
theorem KT.bind{m:Sem α}{f:α->Sem β}(a:KT m)(b:∀x,KT (f x)):KT (m >>= f):=by
 show KT (m.bind f)
 induction m with
 |pure x=>exact b x
 |raise v=>exact a
 |unsupported|finish=>exact a
 |yield|fork|await|register|choose|os|call|genState|newGen|resume=>exact a.elim
 |rule _ k ih|«at» _ k ih|point _ k ih|loadIfAlive _ k ih|fresh k ih|ask k ih|handled _ k ih|stack k ih|thread k ih|alloc _ k ih|load _ _ k ih=>exact λu=>ih u (a u)
 |update _ _ f' k ih=>exact⟨a.1,λu=>ih u (a.2 u)⟩
theorem KT.pure(x:α):KT (Pure.pure x:Sem α):=trivial
theorem KT.ite{c:Prop}[Decidable c]{a b:Sem α}(x:KT a)(y:KT b):KT (if c then a else b):=by split<;>assumption
theorem FR(x:String):KT (PySem.unsupported x:Sem α):=trivial
theorem Ky(a:qR):KT (PySem.load a):=λ_=>trivial
theorem Ly(v:qQ):KT (fieldsOf v):=by
 unfold fieldsOf;split
 ·refine KT.bind (Ky _) λo=>?_;split
  ·exact KT.pure _
  ·exact FR _
 ·exact FR _
theorem Fy(v:qQ)(i:Nat):KT (field v i):=by
 unfold field;refine KT.bind (Ly v) λo=>?_;split
 ·exact KT.pure _
 ·exact FR _
theorem En(v x:qQ)(i:Nat)(hi:i≠2):KT (setField v i x):=by
 unfold setField;split
 ·unfold updateField;refine KT.bind (Ky _) λo=>?_;split
  ·refine KT.ite ⟨λo=>?_,λ_=>trivial⟩ (FR _);obtain⟨c,d,dt,sl⟩:=o;cases dt with
   |fields vs=>exact⟨rfl,Array.getElem?_setIfInBounds_ne hi⟩
   |_=>exact⟨rfl,rfl⟩
  ·exact FR _
 ·exact FR _
theorem EF(e:qQ)(f:Option qR):KT (setFlight e f):=by unfold setFlight;refine KT.bind (Fy _ _) λtb=>?_;exact KT.ite (En _ _ _ 0#8) (KT.pure _)
theorem IT:KT PySem.stack:=λ_=>trivial
theorem Lz:∀l:List Env,KT (readyFrames l)
 |[]=>trivial
 |env::outer=>by
  unfold readyFrames;split
  ·refine KT.bind (Ky _) λo=>KT.ite (KT.pure _) ?_
   refine KT.bind ?_ λi=>KT.bind ?_ λback=>KT.bind ⟨λo=>⟨rfl,rfl⟩,λ_=>trivial⟩ λ_=>Lz outer
   ·unfold behindIsImport;exact KT.ite (KT.pure _) (KT.ite (KT.pure _) (KT.bind (Fy _ _) λ_=>KT.pure _))
   ·unfold keptBack;split
    ·refine KT.ite (KT.pure _) (KT.bind ?_ λ_=>KT.pure _);unfold underTheClaimsCaller;exact KT.bind IT λ_=>KT.pure _
    ·exact KT.pure _
  ·exact FR _
theorem NZ(env:Env):KT (PySem.frameOf env):=by
 unfold PySem.frameOf frameEnvs;refine KT.bind (KT.bind IT λ_=>KT.pure _) λl=>KT.bind ?_ λr=>?_
 ·unfold frameObject;split
  ·exact KT.pure _
  ·exact KT.bind (Lz _) λ_=>KT.pure _
 ·split
  ·exact KT.pure _
  ·exact FR _
theorem Kz(ty:String)(vs:List qQ):KT (newFields ty vs):=by
 unfold newFields newObj;dsimp only;split
 ·exact FR _
 ·exact λ_=>trivial
theorem RL(f:qR)(b:Bool):KT (entryPlaceOf f b):=by
 unfold entryPlaceOf;refine KT.bind IT λ_=>?_
 split<;>exact KT.pure _
theorem Ox(e:qQ)(env:Env):KT (noteFrame e env):=by
 have last:∀h:qQ,∀f:qR,KT (do setField e 1 (<-EntryCells.newEntry h (<-PySem.frameOf env) .none (rawInt f) .none (<-entryPlaceOf f (h != .none)))):=λh f =>
  KT.bind (NZ env) λ_=>KT.bind (RL _ _) λ_=>KT.bind (Kz _ _) λ_=>En _ _ _ 0#8
 unfold noteFrame;split
 ·refine KT.bind (Fy _ _) λh=>?_;split
  ·refine KT.bind (Fy _ _) λx=>KT.ite (KT.pure _) (KT.bind (En _ _ _ 0#8) λ_=>last h _)
  ·exact last h _
 ·exact FR _
theorem IU(e:qQ)(env:Env):KT (leaving env e):=by unfold leaving;exact KT.bind (Ox _ _) λ_=>EF _ _
structure Tz(nc:Bool)(P:qT)(w:qU)(outer:List Env)(H:Hp)(s:qS)(a:qR)(cls a0:qQ)(D:Option qR)(B:Heap)(H':Hp)(s':qS):Prop where
 os:s'.os=s.os
 bare:AllBare s'.gens
 un:Un (Ed outer) [] H H' s.heap s'.heap
 hok:EC P w H' s'.heap
 fly:Heap.FlyingW B outer a cls a0 s'.heap
 old:∀b o,s.heap.get? b=some o->b∉Ed outer->∀o',s'.heap.get? b=some o'->B.get? b=some o'
 trk:∀b u,H' b=some u->∀o',s'.heap.get? b=some o'->B.get? b=some o'
 dct:∃oe,s'.heap.get? a=some oe/\oe.dict=D
 ctx:nc=true->∃oe,s'.heap.get? a=some oe/\EZ oe=some .none
def L0(nc:Bool)(P:qT)(w:qU):Tc:=λouter H s E e s'=>∃a cls a0 D B H',e=.ref a/\Tz nc P w outer H s a cls a0 D B H' s'/\E cls D H'
abbrev Js(P:qT)(w:qU):Tc:=L0 false P w
theorem Ax.somewhere{P:qT}{w:qU}{h:Heap}(x:Ax P w H h a o):∃ob,h.get? a=some ob:=by
 cases o with
 |lst xs=>obtain⟨_,_,_,_,e⟩:=x;exact⟨_,e⟩
 |tup xs=>obtain⟨_,_,_,ob,e,_⟩:=x;exact⟨ob,e⟩
 |dK kvs=>obtain⟨_,_,_,_,ob,_,_,e,_⟩:=x;exact⟨ob,e⟩
 |dT kvs=>obtain⟨_,_,_,_,ob,_,_,e,_⟩:=x;exact⟨ob,e⟩
 |set S n=>obtain⟨ob,_,_,_,e,_⟩:=x;exact⟨ob,e⟩
 |ins C dx fs=>obtain⟨_,_,_,e,_⟩:=x;exact⟨_,e⟩
 |own y=>exact x
 |xd fs=>obtain⟨_,⟨ob,_,_,e,_⟩,_⟩:=x;exact⟨ob,e⟩
 |rng lo hi=>obtain⟨_,_,_,e⟩:=x;exact⟨_,e⟩
 |frz ob u=>obtain⟨e,_⟩:=x;exact⟨ob,e⟩
 |tbl ps=>exact⟨_,(show h.get? a=some _ from x)⟩
 |met f y=>exact⟨_,(show h.get? a=some _ from x)⟩
 |ext φ=>obtain⟨_,e,_⟩:=x;exact e
variable{nc:Bool}{cls a0:qQ}
section
variable{X:Cx}{s:qS}
theorem AT.slotted(I:AT X ad σ H s)(k:∀b o,s.heap.get? b=some o->b∉Ed X.stack->h'.get? b=some o)
  (f:∀b o,s.heap.get? b=some o->b∈Ed X.stack->∃sl,h'.get? b=some {o with slots:=sl}):AT X ad σ H {s with heap:=h',toks:=t'}:=by
 have u:Un (Ed X.stack) [] H H s.heap h':=⟨λb o e _ hb _=>k b o e hb,λb o e _ hb _=>f b o e hb,λ_ _ _ n _=>n,λb o e _=>by
  by_cases hb:b∈Ed X.stack
  ·obtain⟨sl,q⟩:=f b o e hb;exact⟨_,q⟩
  ·exact⟨o,k b o e hb⟩,λ_ _ q=>q,λ_ _ _ q=>q,λb ps q=>⟨#[],by rw[q];simp⟩⟩
 have hok:EC X.prog X.w H h':=λb u q=>(I.hok b u q).stay (λc v hc r=>k c v r λhm=>by
  have z:=I.stkFree c hm;rcases hc with e|e
  ·rw[e,q]at z;cases z
  ·rw[e]at z;cases z) (λ_ q=>q) λ_ _ q=>q
 exact I.call (g':=s.gens) (d':=s.drawn) (ch:=[]) u hok I.bare (λb z=>qG z 1#4)
theorem AT.frameData(I:AT X ad σ H s){b:qR}{o:Obj}(e:s.heap.get? b=some o)(hb:b∈Ed X.stack):∀vs,o.data≠.fields vs:=by obtain⟨_,o',e',nf⟩:=I.stack.mem hb;rw[e]at e';cases e';exact nf
theorem Tz.fresh{D:Option qR}{B:Heap}(F:Tz nc X.prog X.w X.stack H s a cls a0 D B H' s'):H' a=none/\s.heap.get? a=none:=by
 have hB:=F.fly.2.1;obtain⟨oe,vs,he,_,hd,_⟩:=F.fly.first;refine⟨?_,?_⟩
 ·cases q:H' a with
  |none=>rfl
  |some u =>
   have z:=F.trk a u q oe he;rw[hB]at z;cases z
 ·cases q:s.heap.get? a with
  |none=>rfl
  |some o =>
   by_cases hm:a∈Ed X.stack
   ·obtain⟨_,o',e',nf⟩:=F.fly.2.2.1.mem hm;rw[he]at e';cases e';exact qG hd (nf vs)
   ·have z:=F.old a o q hm oe he;rw[hB]at z;cases z
theorem Tz.unAt{D:Option qR}{B:Heap}(I:AT X ad σ H s)(F:Tz nc X.prog X.w X.stack H s a cls a0 D B H' s')(hB:B.StaysIn h')(sm:s'.heap.UpToSlots h'):
  Un (Ed X.stack) [] H H' s.heap h'/\EC X.prog X.w H' h':=by
 have up:∀b o,s.heap.get? b=some o->b∈Ed X.stack->∃sl,h'.get? b=some {o with slots:=sl}:=λb o e hb=>by obtain⟨sl,e1⟩:=F.un.slot b o e (I.stkFree b hb) hb 1#4;obtain⟨sl',e2⟩:=sm b _ e1 (show ∀vs,o.data≠.fields vs from I.frameData e hb);exact⟨sl',e2⟩
 refine⟨⟨λb o e n hb hx=>hB b o (F.old b o e hb o (F.un.keep b o e n hb hx)),λb o e _ hb _=>up b o e hb,F.un.free,λb o e hx=>?_,F.un.tups,F.un.frzs,F.un.tbls⟩,λb u q=>?_⟩
 ·by_cases hb:b∈Ed X.stack
  ·obtain⟨sl,q⟩:=up b o e hb;exact⟨_,q⟩
  ·obtain⟨o',e1⟩:=F.un.there b o e hx;exact⟨o',hB b o' (F.old b o e hb o' e1)⟩
 ·refine (F.hok b u q).stay (λc v hc r=>?_) (λ_ q=>q) λ_ _ q=>q
  rcases hc with e|e
  ·subst e;exact hB c v (F.trk c u q v r)
  ·exact hB c v (F.trk c _ e v r)
theorem Tz.land{D:Option qR}{B:Heap}(I:AT X ad σ H s)(F:Tz nc X.prog X.w X.stack H s a cls a0 D B H' s')(hB:B.StaysIn h')(sm:s'.heap.UpToSlots h'):AT X ad σ H' {s' with heap:=h',toks:=t'}:=by obtain⟨u,hok⟩:=F.unAt I hB sm;exact I.call' (s':={s' with heap:=h',toks:=t'}) (ch:=[]) F.os u hok F.bare (λb z=>qG z 1#4)
def HB(a:qR)(cls:qQ)(D:Option qR)(n:Bool)(h:Heap):Prop:=∃o vs,h.get? a=some o/\o.cls=cls/\o.data=.fields vs/\o.dict=D/\(n=true->∃t:qR,vs=#[.ref t,.none,.none,.none,.bool false,.none])
noncomputable def bD(a:qR)(cls:qQ)(D:Option qR)(n:Bool):HO:=.ext (HB a cls D n)
end
def RM(X:Cx)(C:qQ)(E:XK):Prop:=
 ∀(ad:List (qR×Obj)) (σ:St) (H:Hp) (s:qS) (h':Heap) (e:qR) (args:List qQ),AT X ad σ H s->Heap.MadeExcOf s.heap h' e C args->E C none H->X.xe (.ref e) {s with heap:=h'}
def FD(CX:Tc)(X:Cx)(E:St->XK):Prop:=∀(ad:List (qR×Obj)) (σ:St) (H:Hp) (s:qS) (e:qQ) (s':qS),AT X ad σ H s->CX X.stack H s (E σ) e s'->X.xe e s'
section
variable{P:qT}{w:qU}{K:qV}{mg:Str->Option qQ}{base:Heap}{N:List Str}{f:qR}{cd:qQ}{A:Around}{outer:List Env}{s:qS}{E:XK}
theorem B5{C:qQ}:RM (DX (L0 nc P w) P w K mg base N qual scope f cd A outer s H E) C E:=by
 intro ad σ H1 s1 h1 e args I hx hE;generalize hX:DX (L0 nc P w) P w K mg base N qual scope f cd A outer s H E=X at I⊢;have hst:X.stack=X.env::X.outer:=by rw[<-hX];rfl
 have hfr:X.env.frame=some X.env.locals:=by rw[<-hX];rfl
 have hxe:X.xe=λe s'=>wpAny (model P w) X.A (leaving X.env e) (λ_ s''=>L0 nc P w X.outer X.H₀ X.s₀ E e s'') (λe' s''=>L0 nc P w X.outer X.H₀ X.s₀ E e' s'') s':=by rw[<-hX];rfl
 have hex:X.ex=[]:=by rw[<-hX];rfl
 have hp:X.prog=P:=by rw[<-hX];rfl
 have hw:X.w=w:=by rw[<-hX];rfl
 subst hp hw;rw[hxe];have fr:=I.stack;have hin:∀env∈X.stack,∀b,env.frame=some b->b∈Ed X.stack:=λenv he b hb=>fq.mpr ⟨env,he,hb⟩
 have fr':s1.heap.FunFrames (PySem.W.hideAll s1.heap (Ed X.stack)) (X.env::X.outer):=by rw[<-hst];exact PySem.W.funFrames_hide fr hin
 refine qM (KT.run (IU _ _) (wpAny_leaves_madeW (Q:=λ_ s2=>∃h2 t,s2={s1 with heap:=h2}/\Heap.FlyingW (PySem.W.hideAll s1.heap (Ed X.stack)) X.outer e C (.ref t) h2/\h1.UpToSlots h2) (E:=λ_ _=>False) (base:=PySem.W.hideAll s1.heap (Ed X.stack)) (h:=s1.heap) (L:=X.env.locals) (by rw[<-hst];exact I.ok.frames) hfr (λb o q=>PySem.W.of_hideAll _ q) fr' hx λh2 t x1 x2 x3 x4=>⟨h2,t,rfl,x1,x4⟩)) (λ_ s2 q=>?_) λ_ _ q=>q.1.elim
 obtain⟨⟨h2,t,rfl,x1,x4⟩,dk⟩:=q;have kept:∀b o,s1.heap.get? b=some o->b∉Ed X.stack->h2.get? b=some o:=λb o q hb=>x1.1 b o (fg _ q hb)
 have J:AT X ad σ H1 {s1 with heap:=h2,toks:=s1.toks}:=I.slotted kept λb o q hb=>x4 b o (hx.keeps b o q) (I.frameData q hb)
 have un:Un (Ed X.outer) [] X.H₀ H1 X.s₀.heap h2:=by have z:=J.base;rw[hex]at z;exact z
 have hdc:∃oe,h2.get? e=some oe/\oe.dict=none:=by obtain⟨ob,hob,_⟩:=x1.there;obtain⟨t',he,_,_⟩:=hx.there;exact⟨ob,hob,(dk.get he hob).1.trans rfl⟩
 have hcx:∃oe,h2.get? e=some oe/\EZ oe=some .none:=by obtain⟨ob,hob,_⟩:=x1.there;obtain⟨t',he,_,_⟩:=hx.there;exact⟨ob,hob,(dk.get he hob).2.trans rfl⟩
 refine⟨e,C,.ref t,none,_,H1,rfl,⟨J.os,J.bare,un,J.hok,x1,λb o q hb o' q'=>?_,λb u q o' q'=>?_,hdc,λ_=>hcx⟩,hE⟩
 ·obtain⟨o1,q1⟩:=I.base.there b o q (by rw[hex];simp)
  have hn:b∉Ed X.stack:=λz=>by
   rcases br.mp (I.stkSub b z) with y|y
   ·exact qG (bR (bP q) I.ok.above) (by rw[y];exact bu _)
   ·exact hb y
  have q2:=kept b o1 q1 hn;rw[q']at q2;cases q2;exact fg _ q1 hn
 ·have hn:b∉Ed X.stack:=λz=>by
   have y:=I.stkFree b z;rw[q]at y;cases y
  obtain⟨o1,r⟩:=(I.hok b u q).somewhere;have q2:=kept b o1 r hn;rw[q']at q2;cases q2;exact fg _ r hn
theorem Dd:FD (L0 nc P w) (DX (L0 nc P w) P w K mg base N qual scope f cd A outer s H E) (λ_=>E):=by
 intro ad σ H1 s1 e s2 I h;generalize hX:DX (L0 nc P w) P w K mg base N qual scope f cd A outer s H E=X at I h⊢;have hst:X.stack=X.env::X.outer:=by rw[<-hX];rfl
 have hfr:X.env.frame=some X.env.locals:=by rw[<-hX];rfl
 have hxe:X.xe=λe s'=>wpAny (model P w) X.A (leaving X.env e) (λ_ s''=>L0 nc P w X.outer X.H₀ X.s₀ E e s'') (λe' s''=>L0 nc P w X.outer X.H₀ X.s₀ E e' s'') s':=by rw[<-hX];rfl
 have hex:X.ex=[]:=by rw[<-hX];rfl
 have hp:X.prog=P:=by rw[<-hX];rfl
 have hw:X.w=w:=by rw[<-hX];rfl
 subst hp hw;rw[hxe];rcases h with⟨a,cls,a0,D,B,H',rfl,F,hE⟩;have fl:Heap.FlyingW B (X.env::X.outer) a cls a0 s2.heap:=by rw[<-hst];exact F.fly
 refine qM (KT.run (IU _ _) (wpAny_leaves_onW (Q:=λ_ s3=>∃h3,s3={s2 with heap:=h3}/\Heap.FlyingW B X.outer a cls a0 h3/\s2.heap.UpToSlots h3) (E:=λ_ _=>False) (by rw[<-hst];exact I.ok.frames) hfr fl λh3 x1 x2=>⟨h3,rfl,x1,x2⟩)) (λ_ s3 q=>?_) λ_ _ q=>q.1.elim
 rcases q with⟨⟨h3,rfl,x1,x2⟩,dk⟩;have J:AT X ad σ H' {s2 with heap:=h3,toks:=s2.toks}:=F.land I x1.1 x2;have un:Un (Ed X.outer) [] X.H₀ H' X.s₀.heap h3:=by have z:=J.base;rw[hex]at z;exact z
 have hdc:∃oe,h3.get? a=some oe/\oe.dict=D:=by obtain⟨ob,hob,_⟩:=x1.there;obtain⟨ow,hw,hwd⟩:=F.dct;exact⟨ob,hob,(dk.get hw hob).1.trans hwd⟩
 have hcx:nc=true->∃oe,h3.get? a=some oe/\EZ oe=some .none:=λhnc=>by obtain⟨ob,hob,_⟩:=x1.there;obtain⟨ow,hw,hwd⟩:=F.ctx hnc;exact⟨ob,hob,(dk.get hw hob).2.trans hwd⟩
 refine⟨a,cls,a0,D,B,H',rfl,⟨J.os,J.bare,un,J.hok,x1,λb o q hb o' q'=>?_,λb u q o' q'=>?_,hdc,hcx⟩,hE⟩
 ·obtain⟨o1,q1⟩:=I.base.there b o q (by rw[hex];simp)
  have hn:b∉Ed X.stack:=λz=>by
   rcases br.mp (I.stkSub b z) with y|y
   ·exact qG (bR (bP q) I.ok.above) (by rw[y];exact bu _)
   ·exact hb y
  obtain⟨o2,q2⟩:=F.un.there b o1 q1 1#4;have q3:=F.old b o1 q1 hn o2 q2;have q4:=x1.1 b o2 q3;rw[q']at q4;cases q4;exact q3
 ·obtain⟨o2,q2⟩:=(F.hok b u q).somewhere;have q3:=F.trk b u q o2 q2;have q4:=x1.1 b o2 q3;rw[q']at q4;cases q4;exact q3
end
abbrev Na:List qQ:=[.type "ValueError",.type "Exception",.type "BaseException",.type "object"]
theorem RN{p:Prop}(h:false=true):p:=nomatch h
theorem T0{F:qR->List qQ->Option qQ->Option qQ->Option qQ->Option qQ->String->Option qQ->Bool}{G:Prop}:∀{m:List qQ} {l:List (Option qQ)},(∀C' bm k0 k1 k2 k3 n k5,m=.ref C'::bm->l=[k0,k1,k2,k3,some (.builtin n),k5]->F C' bm k0 k1 k2 k3 n k5=true->G)->PySem.W.excIn.match_1 (λ_ _=>Bool) m l F (λ_ _=>false)=true->G:=by
 intro m l hG q;rcases m with _|⟨v,bm⟩
 ·exact RN q
 cases v
 case ref C2 =>
  rcases l with _|⟨k0,_|⟨k1,_|⟨k2,_|⟨k3,_|⟨k4,l⟩⟩⟩⟩⟩
  iterate 5 exact RN q
  rcases k4 with _|k4
  ·exact RN q
  cases k4
  case builtin n =>
   rcases l with _|⟨k5,_|_⟩
   ·exact RN q
   ·exact hG _ _ _ _ _ _ _ _ rfl rfl q
   ·exact RN q
  all_goals exact RN q
 all_goals exact RN q
theorem T3{F:Option qR->ClassData->Array (Option qQ)->Bool}{G:Prop}{o:Option Obj}(hG:∀dd cd sl,o=some ⟨.type "type",dd,.cls cd,sl⟩->F dd cd sl=true->G)(q:PySem.W.excIn.match_6 (λ_=>Bool) o F (λ_=>false)=true):G:=by
 rcases o with _|⟨cls,dd,data,sl⟩
 ·exact RN q
 cases cls
 case type s =>
  by_cases hs:s="type"
  ·subst hs;cases data
   case cls cd=>exact hG _ _ _ rfl q
   all_goals exact RN q
  ·delta PySem.W.excIn.match_6 PySem.W.nsOkIn._sparseCasesOn_4 PySem.W.excIn._sparseCasesOn_6 at q
   dsimp only at q;rw[dif_neg hs]at q;exact RN q
 all_goals exact RN q
theorem T4{K:qV}{h:Heap}{newId:String}{bmB:List qQ}(kin:K.In h)(q:PySem.W.excIn K C bmB newId=true):
  ∃tl N nm qn bs dy sn sub ab col dd k0 k1 k2 k3 k5 mN,h.get? C=some (excClassObj nm qn C N bs tl dy sn sub ab col dd k0 k1 k2 k3 k5 newId)/\h.Ns N mN/\mN "__init__"=none/\OwnTail h bmB tl:=by
 unfold PySem.W.excIn at q;refine T3 (λdd cd sl ho q=>?_) q;refine T0 (λC2 tl k0 k1 k2 k3 n k5 hm hs q=>?_) q;rcases cd with⟨nm,bs,mro,N,qn,dy,sn,sub,ab,col,del⟩;obtain⟨l⟩:=sl;dsimp only at hm hs q;subst hm hs;simp only[Bool.and_eq_true,beq_iff_eq,Bool.not_eq_true']at q;rcases q with⟨⟨⟨⟨⟨e1,e2⟩,e3⟩,e4⟩,e5⟩,e6⟩;subst e1 e2 e3;exact⟨tl,N,nm,qn,bs,dy,sn,sub,ab,col,dd,k0,k1,k2,k3,k5,_,kin _ _ ho,.of_isNs (PySem.W.isNs_of_in kin e5),PySem.W.nsMap_none_of_in kin e5 e6,PySem.W.tail_of_in kin e4⟩
def RO(C:qR)(E:XK)(t:TA):TS:=λ_ σ H=>t σ H λvs H1=>vs.length<=sizeLine/\E (.ref C) none H1
section
variable{X:Cx}{x:Str}{E:XK}{e:Expr}{t:TA}{np cpos pos:Pos}
theorem DG(hc:X.calm=true)(hC:PySem.W.excIn X.K C Na "ValueError.__new__"=true)(hg:Gl X x)(hm:X.mg x=some (.ref C))(hx:RM X (.ref C) E)(ha:PA X (e::es) t)
  (hdb:(x==("__debug__":Str))=false:=by decide) (he:starEach (e::es) X.env=(false,eval e X.env)::starEach es X.env:=by rfl) (hpl:(backTo cpos (starEach es X.env)).any (·.1)=false:=by rfl):
  PS X (.Raise (some (.Call (.Name x np) (e::es) [] cpos)) none pos) (RO C E t):=by
 intro ad s σ H D I h;rcases T4 I.mod.kin hC with⟨tl,N,nm,qn,bs,dy,sn,sub,ab,col,dd,k0,k1,k2,k3,k5,mN,hO,hN,hni,T⟩;have FB:=PySem.F.excBase_ValueError;have arg:=ha cpos ad s σ H _ I h;refine wpAny_Raise_call_subT (C:=C) (nm:=nm) (q:=qn) (N:=N) (bs:=bs) (bm:=tl) (hdct:=dy) (sn:=sn) (sub:=sub) (ab:=ab) (col:=col) (dd:=dd) (k0:=k0) (k1:=k1) (k2:=k2) (k3:=k3) (k5:=k5) FB (mN:=mN) (T.hasType FB.hasBase) (I.ok.hd hc) ?_ hni (Fn I hg hm ⟨rfl,?_⟩ hdb)
 ·rw[he];show (false||(backTo cpos (starEach es X.env)).any (·.1))=false;rw[hpl];rfl
 ·rw[he]at arg⊢;refine Calls.evalArgs_plain (BN arg λus s2 z9=>?_);obtain⟨vs,H2,I2,r,z,q⟩:=z9;exact⟨rfl,by rw[<-r.length];exact z,I2.bk _ _ hO,hN.keeps I2.bk,T.keeps I2.bk,λh2 a hq=>hx ad σ H2 s2 h2 a us I2 hq q⟩
end
def GV(sp:Sp)(dvs:List V)(E:St->XK)(t:TA):TE:=λσ H Q=>t σ H λvs H1=>sp (vs++dvs) H1 Q (E σ)
section
variable{X:Cx}{k:Nat}{f:qR}{sp:Sp}{dvs:List V}{ds:List qQ}{E:St->XK}{x:Str}{p pos:Pos}{e:Expr}{t:TA}
theorem L5(F:FW X.prog X.w X.K X.mg X.base CX k f fd ps sp)(hr:Br k X.A)(hg:Gl X x)(hm:X.mg x=some (.ref f))(hk:PySem.W.keepIn X.K (.ref f)=true)(hb:Dv X.K fd ps ds)(hd:Av dvs ds)(hx:FD CX X E)
  (ha:PA X (e::es) t) (hdb:(x==("__debug__":Str))=false:=by decide) (he:starEach (e::es) X.env=(false,eval e X.env)::starEach es X.env:=by rfl) (hpl:(backTo pos (starEach es X.env)).any (·.1)=false:=by rfl):
  PE X (.Call (.Name x p) (e::es) [] pos) (GV sp dvs E t):=by
 intro ad s σ H Q I h;refine wpAny_Call_Name_kw (Fn I hg hm ?_ hdb);refine PySem.W.callWith_K (h₀:=X.base) I.ok.mod.kin hk (BN (ha pos ad s σ H _ I h) λus s1 ⟨vs,H1,I1,r,q⟩=>⟨I1.kIn,?_⟩) he hpl;have r2:Av (vs++dvs) (us++ds):=r.append hd;have hl:(us++ds).length=ps.length:=by rw[<-r2.length];exact F.len _ _ _ _ q
 refine wpAny_call (codeAny_mono (F.run X.A X.stack s1 H1 ⟨us,[]⟩ (us++ds) (vs++dvs) Q (E σ) hr I1.env0 (hb s1 us I1.kIn hl) r2 q) λrs s2 hq=>?_);rcases rs with er|fl
 ·exact hx ad σ H1 s1 er s2 I1 hq
 ·cases fl with
  |ret u=>exact I1.after hq
  |next=>exact False.elim hq
  |brk=>exact False.elim hq
  |cont=>exact False.elim hq
end
variable{sp:Sp}
section
variable{P:qT}{w:qU}{K:qV}{mg:Str->Option qQ}{base:Heap}
theorem Bl.okX{x:Str}{f:qR}{N:List Str}{k:Nat}(F:Bl K x qual st f fd)(S:AJ N ps (AG st))(len:∀vs H Q E,sp vs H Q E->vs.length=ps.length)
  (hbody:∀(gu:qQ) (A:Around) (outer:List Env) (s:qS) (H:Hp) (vs:List V) (Q:VK) (E:XK),Br k (A.deeper (envOfC qual (AG st) s.heap.objs.size f gu))->sp vs H Q E ->
   ∃t,FU (DX (L0 nc P w) P w K mg base N qual (AG st) f gu A outer s H E) (BH st) t/\t {nx:=λ_ H'=>Q .non H',rt:=Q} (B4 N vs) H):FW P w K mg base (L0 nc P w) (k+1) f fd ps sp:=by
 rcases F.ex with⟨oc,od,kV,doc,pm,an,gu,ct,osl,rfl,lk,hcd⟩;exact RG lk hcd S len λA outer s H vs Q E hr hsp=>hbody gu A outer s H vs Q E hr hsp
end
theorem PS.nox{X:Cx}{t:TS}(h:PS X.nox st t):PS X st t:=λad s σ H D I hw =>
 qM (h ad s σ H D (I.wish _) hw) (λ_ _ q=>q.unwish) λ_ _ q=>q.elim
abbrev Cx.but(X:Cx)(p:List (qR×Obj))(E:qQ->qS->Prop):Cx:={X with pn:=p,xe:=E}
theorem Cx.Ok.but{X:Cx}(ok:X.Ok)(p:List (qR×Obj))(E:qQ->qS->Prop):(X.but p E).Ok:=
 ⟨ok.mod,ok.kind,ok.glob,ok.blt,ok.above,ok.inj,ok.has,ok.cab,ok.hd,ok.frames,ok.stk,ok.exf,ok.bs,ok.bsz,ok.noex,ok.exfs,ok.funs,ok.frf⟩
theorem Cx.Ok.unbut{X:Cx}{p:List (qR×Obj)}(ok:(X.but p E).Ok):X.Ok:=
 ⟨ok.mod,ok.kind,ok.glob,ok.blt,ok.above,ok.inj,ok.has,ok.cab,ok.hd,ok.frames,ok.stk,ok.exf,ok.bs,ok.bsz,ok.noex,ok.exfs,ok.funs,ok.frf⟩
noncomputable def Cx.hdl(X:Cx)(v:qQ):Cx:={X with A:=X.A.mark (some v),calm:=false,xe:=λ_ _=>False}
section
variable{X:Cx}{pins' p:List (qR×Obj)}{s:qS}{E':qQ->qS->Prop}
theorem AT.but(I:AT X ad σ H s)(E:qQ->qS->Prop):AT (X.but (X.pn++ad) E) [] σ H s:=
 ⟨I.ok.but _ _,I.os,I.bare,I.base,I.loc,I.cell,I.free,I.freeC,λq hq=>I.pin q (by simpa using hq),I.hok,I.len⟩
theorem AT.unbut(I:AT (X.but (X.pn++ad) E) pins' σ H s):AT X ad σ H s:=
 ⟨I.ok.unbut,I.os,I.bare,I.base,I.loc,I.cell,I.free,I.freeC,λq hq=>I.pin q (eL _ hq),I.hok,I.len⟩
theorem AT.rebut(I:AT (X.but p E) ad σ H s):AT (X.but p E') ad σ H s:=
 ⟨I.ok.unbut.but _ _,I.os,I.bare,I.base,I.loc,I.cell,I.free,I.freeC,I.pin,I.hok,I.len⟩
theorem AT.hdl(I:AT X ad σ H s)(v:qQ):AT (X.hdl v) ad σ H s:=
 ⟨⟨I.ok.mod,I.ok.kind,I.ok.glob,I.ok.blt,I.ok.above,I.ok.inj,I.ok.has,I.ok.cab,λz=>qG z (by show ¬(false=true);decide),I.ok.frames,I.ok.stk,I.ok.exf,I.ok.bs,I.ok.bsz,I.ok.noex,I.ok.exfs,I.ok.funs,I.ok.frf⟩,
  I.os,I.bare,I.base,I.loc,I.cell,I.free,I.freeC,I.pin,I.hok,I.len⟩
theorem AT.unhdl{v:qQ}(hd:X.calm=true->X.A.handled=none)(I:AT (X.hdl v) ad σ H s):AT X ad σ H s:=
 ⟨⟨I.ok.mod,I.ok.kind,I.ok.glob,I.ok.blt,I.ok.above,I.ok.inj,I.ok.has,I.ok.cab,hd,I.ok.frames,I.ok.stk,I.ok.exf,I.ok.bs,I.ok.bsz,I.ok.noex,I.ok.exfs,I.ok.funs,I.ok.frf⟩,
  I.os,I.bare,I.base,I.loc,I.cell,I.free,I.freeC,I.pin,I.hok,I.len⟩
theorem SP.unbut{f:Flow}(h:SP (X.but (X.pn++ad) E) pins' D f s'):SP X ad D f s':=by
 cases f with
 |next=>obtain⟨a,b,I,q⟩:=h;exact⟨a,b,I.unbut,q⟩
 |brk=>obtain⟨a,b,I,q⟩:=h;exact⟨a,b,I.unbut,q⟩
 |cont=>obtain⟨a,b,I,q⟩:=h;exact⟨a,b,I.unbut,q⟩
 |ret u=>obtain⟨v,a,b,I,q⟩:=h;exact⟨v,a,b,I.unbut,q⟩
end
structure QD(K:qV)(D:qR):Prop where
 ci:(PySem.W.clsIn K D).isSome=true
 ga:PySem.W.findIn K (.ref D) "__getattribute__"=some (some (.builtin "BaseException.__getattribute__"))
 gn:PySem.W.findIn K (.ref D) "__getattr__"=some none
 ca:PySem.W.findIn K (.ref D) "__class__"=some (some (.builtin "object.__class__"))
 sg:PySem.W.specialIn K (.builtin "object.__class__") "__get__"=some (some (.builtin "getset_descriptor.__get__"))
 tk:PySem.W.takesIn K (.builtin "object.__class__")=some true
 mo:PySem.W.mroIn K D (.type "object")=some true
 mb:PySem.W.mroIn K D (.type "BaseException")=some true
section
variable{K:qV}{D:qR}{dy:Option qR}{n:Bool}
theorem QD.isCls(c:QD K D){M:Model}{h:Heap}(kin:K.In h):PySem.W.Looks M h (isType (.ref D)) true:=by
 have z:=c.ci;unfold PySem.W.clsIn at z
 split at z
 next ho =>
  intro A Q E s k q;unfold isType loadHead;exact qC (wpAny_loadPart (k _ _ (kin _ _ ho)) (qD q))
 next=>cases z
theorem HB.ty{M:Model}{h:Heap}(x:HB a cls dy n h):PySem.W.Looks M h (typeOf (.ref a)) cls:=by rcases x with⟨o,vs,e,c,_⟩;subst c;exact (PySem.W.Looks.ld e).andThen .now
theorem Nb{M:Model}{h:Heap}{x:qQ}{g:qQ}(kin:K.In h)(h1:PySem.W.findIn K (.ref D) name=some (some u))(h2:PySem.W.specialIn K u "__get__"=some (some g))(h3:PySem.W.takesIn K u=some true):
  PySem.W.Looks M h (Builtin.ObjectAttr.find x (.ref D) name) (.bind g u):=by
 have a1:=gW (M:=M) kin h1;have a2:PySem.W.Looks M h (Builtin.ObjectAttr.getOf (some u)) (some g):=PySem.W.looks_specialIn kin h2;have a3:PySem.W.Looks M h (Builtin.ObjectAttr.dataDescriptor? (some u) (some g)) (some (g,u)):=(PySem.W.looks_takesIn (M:=M) kin h3).andThen .now;exact a1.andThen (a2.andThen (a3.andThen (PySem.W.Looks.tag .now)))
theorem T5{prog:qT}{w:qU}{A:Around}{R:Result->qS->Prop}{s:qS}{tp:qQ}(c:QD K D)(kin:K.In s.heap)(x:HB a (.ref D) dy n s.heap)(q:R (.ok (.ret (.ref D))) s):
  codeAny 0#7 A (.call (.builtin "getset_descriptor.__get__") ⟨[.builtin "object.__class__",.ref a,tp],[]⟩) R s:=by
 obtain⟨hp,g,d,t,os⟩:=s;have a1:=x.ty (M:=model prog w);have a2:=PySem.W.looks_mroIn (M:=model prog w) kin c.mo;refine codeAny_call_builtin PySem.W.KF.slot_gs.plain PySem.W.KF.entry_gs (PySem.W.KF.slot_gs.check _ _ _ _ _ _ _ _ PySem.W.KF.type_class (PySem.W.KF.args_gs _ _ _) ?_)
 (unfold Builtin.«getset_descriptor.__get__» Builtin.Getset_descriptor.descrGet;rw[PySem.W.dga_obj];refine qC (qD ?_))
 (unfold Builtin.Getset_descriptor.descrGetter Builtin.Getset_descriptor.descrCheckInstance Builtin.Getset_descriptor.descrNameAndClass isInstance;simp only[PySem.W.KF.owner_class])
 repeat lk
 refine⟨Code.quiet_builtin _ (by decide +kernel),codeAny_builtin PySem.W.KF.entry_class ?_⟩
 (unfold Builtin.«object.__class__» shownTypeOf;repeat lk)
 exact q
theorem QE{prog:qT}{w:qU}{A:Around}{Q:Option qQ->qS->Prop}{s:qS}(c:QD K D)(kin:K.In s.heap)(x:HB a (.ref D) dy n s.heap)
  (q:Q (some (.ref D)) {s with toks:=s.toks+1}):wpAny 0#7 A (getAttr? (.ref a) "__class__") Q E s:=by
 rcases s with⟨hp,g,d,t,os⟩;have LT:=x.ty (M:=model prog w);have L1:=gW (M:=model prog w) kin c.ga;have L2:=gW (M:=model prog w) kin c.gn;have L3:=Nb (M:=model prog w) (x:=.ref a) kin c.ca c.sg c.tk;have L4:PySem.W.Looks 0#7 hp (isInstance (.ref a) (.type "BaseException")) true:=LT.andThen (PySem.W.looks_mroIn kin c.mb);have FA:=PySem.F.excAttr_ValueError;unfold getAttr? getAttrBy? getAttrBy;refine qC (wpAny_mkText (qC (wpAny_attempt (qO (qC (LT.at (qC (L1.at ?_))))))));show wpAny _ _ (getAttrByItsOwn _ _ _ _ _ _) _ _ _;unfold getAttrByItsOwn;refine qC (show wpAny _ _ (typeLookup (.ref D) "__getattr__") _ _ _ from L2.at ?_);refine qC (wpAny_attempt (qO ?_));show wpAny _ _ (boundAndCalled _ _ _) _ _ _;unfold boundAndCalled;refine qC (wpAny_of_eq (FA.ga.bind _) ?_);refine wpAny_call (codeAny_call_builtin FA.ga.plain PySem.F.entry_bexc_ga ?_);have hk:builtinKind "BaseException.__getattribute__"=some .slot:=by decide +kernel
 have hsp:splitId "BaseException.__getattribute__"=some ("BaseException","__getattribute__"):=by decide +kernel
 have ha:=PySem.F.args_bexc_ga (.ref a) (.str "__class__" t);show wpAny _ _ (checkBuiltinCall "BaseException.__getattribute__" ⟨[.ref a,.str "__class__" t],[]⟩) _ _ _;simp only[checkBuiltinCall,hk,hsp];refine qC (L4.at ?_)
 repeat (any_goals (first|assumption|wp_step))
 rcases id x with⟨o,vs,eo,co,vo⟩;refine wpAny_loadPart eo ?_;refine qD ?_;rw[co];refine qC (L3.at ?_);show wpAny _ _ (call (.builtin "getset_descriptor.__get__") [.builtin "object.__class__",.ref a,.ref D] >>= λv=>ret v) _ _ _;refine qC (wpAny_call (T5 c kin ⟨o,vs,eo,co,vo⟩ ?_));refine qD ?_;show wpAny _ _ (handedOut (.ref D)) _ _ _;exact qD (qD q)
theorem L6(c:QD K D):PySem.W.KitX K (.ref a) (.ref D) (HB a (.ref D) dy n) where
 ty:=λ_ _ _ x=>x.ty
 it:=λ_ _ kin _=>c.isCls kin
 ne:=λh tp dd its n sl kin htp=>by
  refine Bool.eq_false_iff.mpr λq=>?_;have e:D=tp:=Value.ref.inj (beq_iff_eq.mp q);subst e;have z:=c.ci;unfold PySem.W.clsIn at z
  split at z
  next ho =>
   have y:=(kin _ _ ho).symm.trans htp;cases y
  next=>cases z
 ca:=λkin x q=>QE c kin x q
end
inductive Xv(K:qV)(H:Hp):V->qQ->Prop where
 |of {x:V} {t:qQ} (h:GQ K H x t):Xv K H x t
 |exc {a D:qR} {dy:Option qR} {n:Bool} (e:H a=some (bD a (.ref D) dy n)) (c:QD K D):Xv K H (.ref a) (.ref D)
section
variable{X:Cx}
noncomputable def RP:V->Option qQ
 |.ty n=>some (.type n)
 |.ref a=>some (.ref a)
 |_=>none
noncomputable def V5(K:qV):List V->Hp->VK->Prop
 |[x,c],H,Q=>∃t u b,Xv K H x t/\RP c=some u/\PySem.W.kitOne K t u=some b/\Q (.bl b) H
 |_,_,_=>False
theorem RQ:Cf X (.builtin "isinstance") (V5 X.K):=by
 intro ad s σ H xs us Q I rv h
 match xs,h with
 |[x,c],h =>
 rcases h with⟨t,u,b,ty,rc,k,q⟩;rcases On rv with⟨v1,v2,rfl,r1,r2⟩
 have e:v2=u:=by
  cases c with
  |ty n=>cases rc;exact r2
  |ref a=>cases rc;exact r2
  |_=>cases rc
 subst e;cases ty with
 |of ty=>exact P9 I r1 ty k λtk=>⟨.bl b,H,I.tok tk,rfl,q⟩
 | @exc a D dy n e ck =>
  cases (show v1=Value.ref a from r1);obtain⟨x,_,_⟩:=(show Ax X.prog X.w H s.heap a (.ext (HB a (.ref D) _ _)) from I.hok a _ e);exact dB (L6 ck) I.kIn x k (λz=>nomatch z) λtk=>⟨.bl b,H,I.tok tk,rfl,q⟩
end
variable{items:Array qQ}
section
variable{prog:qT}{w:qU}{A:Around}{s:qS}
theorem QF:typeLookup (.type "list_reverseiterator") "__len__"=pure none:=by rw[typeLookup_type,builtinLookup_eq_fast];kernel_rfl
theorem RT:typeLookup (.type "list_reverseiterator") "__length_hint__"=pure (some (.builtin "list_reverseiterator.__length_hint__")):=by rw[typeLookup_type,builtinLookup_eq_fast];kernel_rfl
theorem RU{I:qR}{Q:Bool->qS->Prop}(hT:s.TypeIs (.ref I) "list_reverseiterator")(q:Q false s):wpAny 0#7 A (Builtin.List.listLengthHint (.ref I)) Q E s:=by
 unfold Builtin.List.listLengthHint;refine qC (wpAny_specialOf hT QF ?_);show wpAny _ A (specialOf (Value.ref I) (Str.ofString "__length_hint__") >>= _) _ _ _;refine qC (wpAny_specialOf hT RT ?_);generalize hz:("list_reverseiterator.__length_hint__":String)=zz
 wp_delta
 rw[show splitId zz=some ("list_reverseiterator","__length_hint__") from by subst hz;decide +kernel];subst hz;refine qC (wpAny_isInstance (b:=true) hT (by rw[isSubtype_type];kernel_rfl) ?_);exact qD q
theorem L7{I l:qR}{Q:qQ->qS->Prop}(hh:A.handled=none)(hIl:l≠I)(hit:s.heap.IsRevIter I l ((items.size:Int)-1))(hl:s.heap.IsList l items)(hz:items.size<=sizeLine)
  (hQ:∀h' tk c' gt,(∀b o,b≠I->s.heap.get? b=some o->h'.get? b=some o)->h'.get? s.heap.objs.size=some {cls:=.type "list",dict:=none,data:=.seq gt c',slots:=#[]} ->
   gt.toList=items.toList.reverse->Q (.ref s.heap.objs.size) {s with heap:=h',toks:=tk}):wpAny 0#7 A (call (.type "list") [.ref I]) Q E s:=by
 have W:=(Walks.listRev (prog:=prog) (w:=w) (A:=A.in1.in1) hh I l hIl items).toS;have hIlt:I<s.heap.objs.size:=by obtain⟨o,e,_⟩:=hit;exact bP e
 have hllt:l<s.heap.objs.size:=by obtain⟨o,e,_⟩:=hl;exact bP e
 refine callType_codes (Q₁:=λobj s₁=>obj=.ref s.heap.objs.size/\s₁={s with heap:=s.heap.push {cls:=.type "list",data:=.seq #[]}}) PySem.F.called_list (PySem.F.typeCall_list_1 _) PySem.F.entry_list_init
  (code_list_new _ ⟨rfl,rfl⟩) λobj s₁ h₁=>?_
 obtain⟨rfl,rfl⟩:=h₁;have hS:(s.heap.push {cls:=.type "list",data:=.seq #[]}).get? s.heap.objs.size=some {cls:=.type "list",data:=.seq #[]}:=ba _ rfl;refine⟨⟨_,hS,rfl⟩,PySem.F.args_list_init_2 _ _,?_⟩;show wpAny _ _ (do let old <-Builtin.List.listItems (.ref s.heap.objs.size);Builtin.List.listUpdate (.ref s.heap.objs.size) (λ_=>#[]);letGo old.toList.reverse;Builtin.List.listExtendWith (.ref s.heap.objs.size) (.ref I) .none) _ _ _;refine qC ?_;unfold Builtin.List.listItems;refine qC (wpAny_seqItems hS rfl (qD ?_));show wpAny _ _ (updateSeq s.heap.objs.size (λ_=>#[]) >>= λ_=>letGo (#[]:Array qQ).toList.reverse >>= λ_=>Builtin.List.listExtendWith (.ref s.heap.objs.size) (.ref I) .none) _ _ _;refine qC (wpAny_updateSeq hS rfl ?_);have hS2:=fI (Obj.mapSeq (λ_=>(#[]:Array qQ))) hS rfl
 have kp:∀b o,s.heap.get? b=some o->((s.heap.push {cls:=.type "list",data:=.seq #[]}).update s.heap.objs.size (Obj.mapSeq (λ_=>(#[]:Array qQ)))).get? b=some o:=
  λb o e=>(gD _ _ (fG (bP e))).trans (bK _ e)
 refine qC (wpAny_letGo ?_);have hit2:=hit.at λo e=>kp I o e
 have hl2:=hl.at λo e=>kp l o e
 unfold Builtin.List.listExtendWith;refine qC (wpAny_typeOf (T:="list_reverseiterator") hit2.typeIs ?_);have h1:Builtin.List.listSameRef (.ref s.heap.objs.size) (.ref I)=false:=by simp[Builtin.List.listSameRef,Nat.ne_of_gt hIlt]
 rw[qE (by rw[h1];decide)];refine qC (wpAny_pyIter_revIter hit2 ?_);refine qC (qO (RU hit2.typeIs ?_));rw[qE 0#8]
 have nf:s.heap.objs.size∉[I,l]:=by simp only[List.mem_cons,List.not_mem_nil,or_false,not_or];exact⟨fG hIlt,fG hllt⟩
 refine qD ⟨plainId_quiet PySem.F.plain_extend_loop _,codeAny_extend_loopS W hz _ nf _ items.size 0 _ _ _ rfl (Nat.zero_le _) ⟨Nat.zero_le _,by simpa using hit2,hl2⟩ hS2 (ItemsOf.nil _) λs' gt c' hm hS' hacc=>?_⟩;refine⟨rfl,?_⟩;rw[Moved.eq_with hm];refine hQ s'.heap s'.toks c' gt (λb o hb e=>hm.heap b o (λz=>?_) (kp b o e)) hS' ?_
 ·rcases br.mp z with z|z
  ·exact qG (bP e) (by rw[z];exact bu _)
  ·exact hb (bV.mp z)
 ·apply List.ext_getElem?;intro i
  by_cases hi:i<items.size
  ·have hi2:i<gt.size:=by rw[hacc.1];exact hi
   have p:=hacc.2 i gt[i] (fW hi2);rw[List.getElem?_reverse (by simpa using hi),Array.getElem?_toList,Array.getElem?_eq_getElem hi2,Array.getElem?_toList,Array.length_toList];exact p.symm
  ·rw[fJ (by rw[cg,hacc.1];lia),fJ (by rw[dq,cg];lia)]
end
noncomputable def Xw(K:qV)(a:qR)(n:Nat):It:=
 ⟨λi H=>i<n/\∃xs,Ae K H a xs/\xs.length=n,λi H x H'=>H'=H/\∀xs,Ae K H a xs->xs.reverse[i]?=some x,λi _=>i=n⟩
theorem RV{P:qT}{w:qU}{K:qV}(a it:qR)(n:Nat):Kr P w K tg (Xw K a n) [it] it (λi h=>i<=n/\h.IsRevIter it a ((n:Int)-1-(i:Int))) where
 mem:=by simp
 obj:=λi h st b hb=>by
  have e:b=it:=by simpa using hb
  subst e;rcases st with⟨_,o,e,c,d⟩;exact⟨o,e,λv z=>by rw[d]at z;cases z⟩
 keep:=λi h h' st k=>⟨st.1,st.2.at λo e=>k it 1#4 o e⟩
 item:=by
  intro X hP hw hK hc i ad s σ H E I hf st hg;subst hP hw hK;rcases hg with⟨hi,xs,hq,hn⟩;rcases I.list hq with⟨its,rv,p,hz⟩;have hlen:=rv.length;rcases hf it 1#4 with⟨f0,f1,f2,f3,f4,f5⟩;have e:(n:Int)-1-(i:Int)=((n-1-i:Nat):Int):=by lia
  have hit:=st.2;rw[e]at hit;have hx:xs[n-1-i]?=some (xs[n-1-i]' 0#1):=bI 0#1;obtain⟨u,hu,ru⟩:=rv.get hx;refine wpAny_pyNext_rev_item hit p.isList (x:=u) (by simpa using hu) λh' st' sb=>?_;have I1:AT X ad σ H {s with heap:=h'}:=I.turned (t':=s.toks) (λb o hb e=>(sb.2 b hb).trans e) f0 f1 f3 f4 f5;rcases id st' with⟨o,e,c,d⟩
  have st2:i+1<=n/\h'.IsRevIter it a ((n:Int)-1-((i+1:Nat):Int)):=⟨hi,by
   have e2:((n-1-i:Nat):Int)-1=(n:Int)-1-((i+1:Nat):Int):=by lia
   rw[<-e2];exact st'⟩
  refine⟨u,rfl,Lr (s:={s with heap:=h'}) e c d 0#8 ⟨_,H,I1,ru,⟨rfl,λys hy=>?_⟩,st2,λb hb=>(hf b hb).1⟩⟩;rw[I.list_inj hy hq,gK 0#1,<-hx]
  congr 1
  lia
 done:=by
  intro X hP hw hK hc i ad s σ H E I hf st hg;subst hP hw hK;rcases hf it 1#4 with⟨f0,f1,f2,f3,f4,f5⟩;have hg':i=n:=hg;subst hg';have hit:=st.2;have e:(i:Int)-1-(i:Int)=-1:=by lia
  rw[e]at hit;exact wpAny_pyNext_rev_end (I.ok.hd hc) hit λh' eb=>⟨rfl,I.turned (t':=s.toks) (λb o hb e=>eb b o hb e) f0 f1 f3 f4 f5⟩
 self:=λ_ _ _ _ _ st h=>wpAny_pyIter_revIter st.2 h
section
variable{X:Cx}
def Z3(K:qV)(ta:TA):TI:=λσ H R=>ta σ H λvs H1=>∃a xs,vs=[.ref a]/\Ae K H1 a xs/\R (Xw K a xs.length) H1
theorem V6{l:Expr}{p pos:Pos}(hg:Gl X "reversed")(hm:X.mg "reversed"=none)(ha:PA X [l] ta)(hs:starEach [l] X.env=[(false,eval l X.env)]:=by rfl):PI X tg (.Call (.Name "reversed" p) [l] [] pos) (Z3 X.K ta):=by
 intro ad s σ H R I h;refine Call_ (CL I hg hm boot_reversed (bz (BN (ha pos ad s σ H _ I h) λus s1 z9=>?_) hs rfl));obtain⟨vs,H1,I1,r1,q1⟩:=z9;rcases q1 with⟨a,xs,e,hq,q⟩;subst e;cases r1 with
 |cons r rr =>
  cases rr;cases r;rcases I1.list hq with⟨its,rv,pl,hz⟩;have hlen:=rv.length;refine call_reversed_list pl.isList ?_;have I2:AT X ad σ H1 {s1 with heap:=s1.heap.push (revObj a ((its.toArray.size:Int)-1)),toks:=s1.toks}:=I1.kept λb o e=>bK _ e
  have st:(s1.heap.push (revObj a ((its.toArray.size:Int)-1))).IsRevIter s1.heap.objs.size a ((xs.length:Int)-1-((0:Nat):Int)):=by
   have e:((xs.length:Int)-1-((0:Nat):Int))=(its.toArray.size:Int)-1:=by rw[cC,hlen];lia
   rw[e];exact⟨_,ba _ rfl,rfl,rfl⟩
  refine wpAny_pyIter_revIter st ?_;refine⟨s1.heap.objs.size,[s1.heap.objs.size],_,_,H1,rfl,I2,RV a _ xs.length,⟨cS _,st⟩,λb hb=>?_,q⟩;have e:b=s1.heap.objs.size:=by simpa using hb
  subst e;exact I1.fpOk (bL _) (I1.hok.fresh (bL _))
theorem T6{K:qV}{g:TG}{tb:TS}(Pv:Nat->St->Hp->Prop)(h0:Pv 0 σ H)(hl:∀i σ H,i<=xs.length->Pv i σ H->Ae K H a xs)
  (hs:∀i x σ H,xs.reverse[i]?=some x->Pv i σ H->g x σ H λσ2 H2=>tb {D with nx:=Pv (i+1),ct:=Pv (i+1),bk:=D.nx} σ2 H2) (hd:∀σ H,Pv xs.length σ H->D.nx σ H):
  ∃W:Nat->Nat->St->Hp->Prop,(∃m,W 0 m σ H)/\∀i m σ H,W i m σ H ->
   ((Xw K a xs.length).stop i H/\D.nx σ H)\/((Xw K a xs.length).go i H/\∃N:St->Hp->Prop,(∀σ' H',N σ' H'->∃m',m'<m/\W (i+1) m' σ' H')/\∀x H',(Xw K a xs.length).yld i H x H'->g x σ H' λσ2 H2=>tb {D with nx:=N,ct:=N,bk:=D.nx} σ2 H2):=by
 refine⟨λi m σ H=>m=xs.length-i/\i<=xs.length/\Pv i σ H,⟨xs.length,by simp,Nat.zero_le _,h0⟩,?_⟩;rintro i m σ H ⟨rfl,hi,p⟩;have q:=hl i σ H hi p
 by_cases hlt:i<xs.length
 ·refine .inr ⟨⟨hlt,xs,q,rfl⟩,Pv (i+1),λσ' H' p'=>⟨xs.length-(i+1),by lia,rfl,hlt,p'⟩,λx H' y=>?_⟩;obtain⟨e,y⟩:=y;subst e;exact hs i x σ _ (y xs q) p
 ·have e:i=xs.length:=by lia
  subst e;exact .inl ⟨rfl,hd σ H p⟩
def VG(K:qV)(ta:TA):TE:=λσ H Q=>ta σ H λvs H1=>∃a xs,vs=[.ref a]/\Ae K H1 a xs/\∀p,H1 p=none->Q (.ref p) (Ad H1 p (.lst xs.reverse))
theorem Oy{l:Expr}{p1 p2 pos1 pos2:Pos}(hc:X.calm=true)(hg:Gl X "reversed")(hm:X.mg "reversed"=none)(hg2:Gl X "list")(hm2:X.mg "list"=none)(ha:PA X [l] ta)(hs:starEach [l] X.env=[(false,eval l X.env)]:=by rfl)
  (hs2:starEach [.Call (.Name "reversed" p1) [l] [] pos1] X.env=[(false,eval (.Call (.Name "reversed" p1) [l] [] pos1) X.env)]:=by rfl):
  PE X (.Call (.Name "list" p2) [.Call (.Name "reversed" p1) [l] [] pos1] [] pos2) (VG X.K ta):=by
 intro ad s σ H Q I h;refine Call_ (CL I hg2 hm2 PyProof.Rows.boot_list (bz (T:="list") ?_ hs2 rfl));rw[hs2];show wpAny _ _ (spliced ((false,eval (.Call (.Name "reversed" p1) [l] [] pos1) X.env)::[])) _ _ s;refine Calls.spliced_cons (Call_ (CL I hg hm boot_reversed (bz (BN (ha pos1 ad s σ H _ I h) λus s1 z9=>?_) hs rfl)));obtain⟨vs,H1,I1,r1,q1⟩:=z9;rcases q1 with⟨a,xs,e,hq,q⟩;subst e;cases r1 with
 |cons r rr =>
  cases rr;cases r;rcases I1.list hq with⟨its,rv,pl,hz⟩;have hlen:=rv.length;refine call_reversed_list pl.isList ?_;refine Calls.spliced_nil ?_;have ne:a≠s1.heap.objs.size:=by obtain⟨o,e,_⟩:=pl.isList;exact b9 (bP e)
  have hL:(s1.heap.push (revObj a ((its.toArray.size:Int)-1))).IsList a its.toArray:=pl.isList.at λo e=>bK _ e
  refine L7 (s:={s1 with heap:=s1.heap.push (revObj a ((its.toArray.size:Int)-1))}) (I.ok.hd hc) ne ⟨_,ba _ rfl,rfl,rfl⟩ hL (by rw[cC,<-hlen];exact hz) λh' tk c' gt kp hD hacc=>?_;have kp2:∀b o,s1.heap.get? b=some o->h'.get? b=some o:=λb o e=>kp b o (b9 (bP e)) (bK _ e)
  have hf:H1 (s1.heap.push (revObj a ((its.toArray.size:Int)-1))).objs.size=none:=I1.hok.fresh (by rw[dM];lia);have rv2:Av xs.reverse gt.toList:=by rw[hacc];simpa using rv.reverse
  refine⟨.ref _,_,I1.laid (t':=tk) kp2 (by rw[dM];lia) ?_,rfl,q _ hf⟩;exact⟨by rw[List.length_reverse];exact hz,gt.toList,c',rv2,by simpa using hD⟩
def Xx(K:qV):R2:=λx y H Q=>∃(a b:qR) (ns ms:qW),x=.ref a/\y=.ref b/\Ae K H a 1#3/\Ae K H b (ms.map V.int)/\Q (.bl (decide (ns=ms))) H
def Xy(K:qV):R2:=λx y H Q=>∃(a b:qR) (ns ms:qW),x=.ref a/\y=.ref b/\Ae K H a 1#3/\Ae K H b (ms.map V.int)/\Q (.bl (!decide (ns=ms))) H
theorem Nc(hu:X.A.units+64<cLine):Ft X (compareOp .Eq) (Xx X.K):=by intro ad s σ H x y v u Q I rx ry h;rcases h with⟨a,b,ns,ms,rfl,rfl,ha,hb,q⟩;cases rx;cases ry;rcases I.list ha with⟨va,ra,pa,_⟩;rcases I.list hb with⟨vb,rb,pb,_⟩;exact PySem.W.eq_intsK pa.isList (ED ra) pb.isList (ED rb) hu ⟨.bl _,H,I,rfl,q⟩
theorem V7(hu:X.A.units+64<cLine):Ft X (compareOp .NotEq) (Xy X.K):=by intro ad s σ H x y v u Q I rx ry h;rcases h with⟨a,b,ns,ms,rfl,rfl,ha,hb,q⟩;cases rx;cases ry;rcases I.list ha with⟨va,ra,pa,_⟩;rcases I.list hb with⟨vb,rb,pb,_⟩;exact PySem.W.ne_intsK pa.isList (ED ra) pb.isList (ED rb) hu ⟨.bl _,H,I,rfl,q⟩
end
theorem RX{P:qT}{w:qU}{K:qV}{mg:Str->Option qQ}{base:Heap}{N:List Str}{f:qR}{cd:qQ}{A:Around}{outer:List Env}{s:qS}{E:XK}:(DX CX P w K mg base N qual scope f cd A outer s H E).K=K:=rfl
theorem VH{X:Cx}{v:qQ}:(X.hdl v).K=X.K:=rfl
theorem Oz{P:qT}{w:qU}{X:Cx}:FD (Js P w) X (λ_=>E0):=λ_ _ _ _ _ _ _ h=>by obtain⟨_,_,_,_,_,_,_,_,h⟩:=h;exact h.elim
theorem AH.new{p:qR}(h:H p=none)(o:HO):AH H (Ad H p o):=λb u q=>by rw[AK (BQ q h)];exact q
theorem RY{p q:qR}(h:Ad H p o q=none):q≠p/\H q=none:=by
 have ne:q≠p:=λz=>by rw[z,AE]at h;cases h
 rw[AK ne]at h;exact⟨ne,h⟩
theorem RZ{n:Nat}(h:n<=1000):n<=sizeLine:=dA (AY h)
section
variable{X:Cx}{x:Str}{pos p:Pos}{a c:Expr}{ta tc:TE}
theorem O0{n:String}(hg:Gl X x)(hm:X.mg x=none)(hv:bootBuiltins x=some (.type n))(hn:x≠"__name__":=by decide)(hd:(x==("__debug__":Str))=false:=by decide):PE X (.Name x pos) (tC (.ty n)):=
 Tk (v:=.ty n) hg hm hv rfl hn hd
theorem IV(hg:Gl X x)(hm:X.mg x=some (.ref C))(hd:(x==("__debug__":Str))=false:=by decide):PE X (.Name x pos) (tC (.ref C)):=Og (v:=.ref C) hg hm rfl hd
theorem Ra{i:Int}{t:Tok}(hg:Gl X x)(hm:X.mg x=some (.int i t))(hd:(x==("__debug__":Str))=false:=by decide):PE X (.Name x pos) (tC (.int i)):=Og (v:=.int i) hg hm ⟨t,rfl⟩ hd
theorem Rc(hg:Gl X "isinstance")(hm:X.mg "isinstance"=none)(ha:PE X a ta)(hc:PE X c tc)(h1:starEach [a,c] X.env=(false,eval a X.env)::starEach [c] X.env:=by rfl)(h2:starEach [c] X.env=(false,eval c X.env)::starEach [] X.env:=by rfl)
  (h3:(backTo pos (starEach [c] X.env)).any (·.1)=false:=by rfl):PE X (.Call (.Name "isinstance" p) [a,c] [] pos) (Xo (V5 X.K) (Fu ta (Fu tc Kt))):=
 Ap RQ hg hm PyProof.Rows.boot_isinstance (AA ha (AA hc AC h2) h1) 0#8 0#8 h1 h3
end
theorem Z4{t u:TS}(Z:St->Hp->Prop)(h1:∀N:St->Hp->Prop,(∀σ' H',Z σ' H'->N σ' H')->t {D with nx:=N} σ H)(h2:∀σ' H',Z σ' H'->u D σ' H'):P3 t u D σ H:=h1 (u D) h2
noncomputable def Re(ns:qW)(lo hi:Option Int):qW:=(ns.drop (HT.KH ns.length 0 lo)).take (HT.KH ns.length ns.length hi-HT.KH ns.length 0 lo)
theorem Rf(ns:qW)(lo hi:Option Int):IR 1#3 lo hi=(Re ns lo hi).map V.int:=by unfold IR Re;rw[bG,ez,List.map_drop]
theorem Rg(k:Nat)(v:V):(List.replicate k [v]).flatten=List.replicate k v:=by
 induction k with
 |zero=>rfl
 |succ k ih=>rw[dQ,fS,ih,dQ];rfl
def AV(K:qV)(x:Str)(st:Stmt)(f:qR):Prop:=(∃fd,Bl K x x st f fd)/\PySem.W.nsIn K mainGlobals x=some (some (.ref f))
theorem AW{K:qV}{x:Str}{f:qR}{kV pm ct:qQ}(a:PySem.W.nsIn K mainGlobals x=some (some (.ref f)))
  (l:K.lookup f=some ⟨oc,od,.func (PySem.W.fnOf x x (Cd st) (BH st) (AG st) .none kV doc pm an gu ct),osl⟩) (c:PySem.W.codeIn K gu x=true) (k:PySem.W.keepIn K (.ref f)=true):AV K x st f:=
 ⟨⟨_,V3 l c k⟩,a⟩
section
variable{X:Cx}{s:qS}
theorem AT.turnedNew{ch:List qR}{p:qR}(I:AT X ad σ H s)(hf:∀b∈ch,C5 X ad H b)(k:∀b u,b∉ch->s.heap.get? b=some u->h'.get? b=some u)(hp:s.heap.objs.size<=p)
  (new:Ax X.prog X.w (Ad H p o) h' p o):AT X ad σ (Ad H p o) {s with heap:=h',toks:=t'}:=by
 have hpn:H p=none:=I.hok.fresh hp;have nit:∀b u,H b=some u->b∉ch:=λb u e z=>by rw[(hf b z).1]at e;cases e
 have np:∀b u,s.heap.get? b=some u->b≠p:=λb u e=>b9 (bR (bP e) hp)
 refine I.step (g':=s.gens) (d':=s.drawn) (ch:=ch) (λb hb=>⟨(hf b hb).2.2.2.1,(hf b hb).2.1,(hf b hb).2.2.2.2.1,(hf b hb).2.2.2.2.2⟩) (λb u _ _ hc e _=>k b u hc e) (λb u _ _ hc e _=>⟨u.slots,k b u hc e⟩)
  (λb u _ e n=>by rw[AK (np b u e)];exact n) (λb u hc e=>⟨u,k b u hc e⟩) (λb xs e=>by rw[AK (BQ e hpn)];exact e) (λb u v e=>by rw[AK (BQ e hpn)];exact e)
  (λb ps e=>⟨#[],by rw[AK (BQ e hpn),e];simp⟩) (λm hm=>?_) (λb u e=>?_) I.bare
 ·obtain⟨o,es,ep,ho,r⟩:=hm;exact⟨o,es,ep,k _ o (λz=>(hf _ z).2.1 rfl) ho,r⟩
 ·by_cases z:b=p
  ·subst z;rw[AE]at e;cases e;exact new
  ·rw[AK z]at e;refine (I.hok b u e).stay (λc v hc q=>k c v ?_ q) (λc q=>by rw[AK (BQ q hpn)];exact q) λc xs q=>by rw[AK (BQ q hpn)];exact q
   rcases hc with y|y
   ·rw[y];exact nit b u e
   ·exact nit c _ y
end
noncomputable def Xz(K:qV)(a:qR):It:=
 ⟨λi H=>∃xs x,Ae K H a xs/\xs[i]?=some x,λi H v H'=>∃p x,v=.ref p/\H p=none/\H'=Ad H p (.tup [.int i,x])/\∀xs,Ae K H a xs->xs[i]?=some x,λi H=>∃xs,Ae K H a xs/\xs.length<=i⟩
theorem QG{P:qT}{w:qU}{K:qV}{elts:List Expr}{ctx}{tpos:Pos}(a e it:qR)(hne:e≠it):
  Kr P w K (.Tuple elts ctx tpos) (Xz K a) [e,it] e (λi h=>(∃old,IsEnum h e it ((i:Nat):Int) old)/\h.IsListIter it a i) where
 mem:=by simp
 obj:=λi h st b hb=>by
  rcases st with⟨⟨old,q⟩,o,e1,c,d⟩;rcases br.mp hb with z|z
  ·rw[z];exact⟨_,q,λv y=>by cases y⟩
  ·rw[bV.mp z];exact⟨o,e1,λv y=>by rw[d]at y;cases y⟩
 keep:=λi h h' st k=>by obtain⟨⟨old,q⟩,li⟩:=st;exact⟨⟨old,k e 1#4 _ q⟩,li.at λo z=>k it 1#4 o z⟩
 item:=by
  intro X hP hw hK hc i ad s σ H E I hf st hg;subst hP hw hK;rcases hg with⟨xs,x,hq,hx⟩;rcases I.list hq with⟨its,rv,p,hz⟩;obtain⟨u,hu,ru⟩:=rv.get hx;obtain⟨⟨old,he⟩,li⟩:=st;refine wpAny_pyNext_enum_item he li p.isList (x:=u) (by simpa using hu) hne λh1 out li1 ht hsz k1=>?_;refine⟨_,rfl,wpAny_letOwnedTupleGo_enum out λh2 he2 sb=>?_⟩
  have k2:∀b o,b∉[e,it]->s.heap.get? b=some o->h2.get? b=some o:=λb o hb z=>by
   have hb1:b≠e:=λy=>hb (by simp[y])
   have hb2:b≠it:=λy=>hb (by simp[y])
   exact (sb.2 b hb1).trans (k1 b o hb1 hb2 z)
  have hpe:s.heap.objs.size≠e:=fG (bP he);have ht2:h2.get? s.heap.objs.size=some {cls:=.type "tuple",data:=.seq #[.int ((i:Nat):Int) s.toks,u]}:=(sb.2 _ hpe).trans ht;have hn:H s.heap.objs.size=none:=I.hok.fresh (bL _);refine⟨.ref s.heap.objs.size,Ad H s.heap.objs.size (.tup [.int ((i:Nat):Int),x]),I.turnedNew (h':=h2) (t':=s.toks+1) hf k2 (bL _) ?_,rfl,⟨_,x,rfl,hn,rfl,λys hy=>by rw[I.list_inj hy hq];exact hx⟩,⟨⟨u,?_⟩,?_⟩,λb hb=>?_⟩
  ·exact⟨by show 2<=sizeLine;decide,[.int ((i:Nat):Int) s.toks,u],.cons ⟨_,rfl⟩ (.cons ru .nil),⟨_,ht2,rfl,_,rfl⟩⟩
  ·have ec:(((i+1:Nat)):Int)=((i:Nat):Int)+1:=by push_cast;rfl
   rw[ec];exact he2
  ·exact li1.at λo z=>(sb.2 it (Ne.symm hne)).trans z
  ·have b0:=(hf b hb).1;rw[AK λz=>?_]
   ·exact b0
   ·obtain⟨o,z1,_⟩:=id li;rcases br.mp hb with y|y
    ·exact hpe (z.symm.trans y)
    ·exact qG (bP z1) (by rw[<-bV.mp y,z];exact bu _)
 done:=by intro X hP hw hK hc i ad s σ H E I hf st hg;subst hP hw hK;obtain⟨xs,hq,hx⟩:=hg;rcases I.list hq with⟨its,rv,p,hz⟩;obtain⟨⟨old,he⟩,li⟩:=st;rcases hf it 1#4 with⟨f0,f1,f2,f3,f4,f5⟩;have hl:=rv.length;exact wpAny_pyNext_enum_end (I.ok.hd hc) he li p.isList (by simp;lia) λh' eb=>⟨rfl,I.turned (t':=s.toks) (λb o hb e=>eb b o hb e) f0 f1 f3 f4 f5⟩
 self:=λ_ _ _ _ _ st h=>by obtain⟨⟨old,he⟩,_⟩:=st;exact wpAny_pyIter_enum he h
section
variable{X:Cx}{elts:List Expr}{ctx}{tpos:Pos}
def X0(K:qV)(ta:TA):TI:=λσ H R=>ta σ H λvs H1=>∃a xs,vs=[.ref a]/\Ae K H1 a xs/\R (Xz K a) H1
theorem K0{l:Expr}{p pos:Pos}(hg:Gl X "enumerate")(hm:X.mg "enumerate"=none)(ha:PA X [l] ta)(hs:starEach [l] X.env=[(false,eval l X.env)]:=by rfl):PI X (.Tuple elts ctx tpos) (.Call (.Name "enumerate" p) [l] [] pos) (X0 X.K ta):=by
 intro ad s σ H R I h;refine Call_ (CL I hg hm boot_enumerate (bz (BN (ha pos ad s σ H _ I h) λus s1 z9=>?_) hs rfl));obtain⟨vs,H1,I1,r1,q1⟩:=z9;obtain⟨a,xs,e,hq,q⟩:=q1;subst e;cases r1 with
 |cons r rr =>
  cases rr;cases r;obtain⟨its,rv,pl,hz⟩:=I1.list hq;refine call_enumerate_list pl.isList λh1 he li hsz k1=>?_;refine wpAny_pyIter_enum he ?_;have n1:H1 (s1.heap.objs.size+1)=none:=I1.hok.fresh (eg _);have n0:H1 s1.heap.objs.size=none:=I1.hok.fresh (bL _);refine⟨s1.heap.objs.size+1,[s1.heap.objs.size+1,s1.heap.objs.size],_,_,H1,rfl,I1.kept (t':=s1.toks) k1,QG a _ _ (Nat.succ_ne_self _),⟨⟨_,he⟩,li⟩,λb hb=>?_,q⟩;rcases br.mp hb with z|z
  ·rw[z];exact I1.fpOk (eg _) n1
  ·rw[bV.mp z];exact I1.fpOk (bL _) n0
theorem IW{K:qV}{g:TG}{tb:TS}(Pv:Nat->St->Hp->Prop)(h0:Pv 0 σ H)(hl:∀i σ H,i<=xs.length->Pv i σ H->Ae K H a xs)
  (hs:∀i x p σ H,xs[i]?=some x->Pv i σ H->H p=none->g (.ref p) σ (Ad H p (.tup [.int ((i:Nat):Int),x])) λσ2 H2=>tb {D with nx:=Pv (i+1),ct:=Pv (i+1),bk:=D.nx} σ2 H2) (hd:∀σ H,Pv xs.length σ H->D.nx σ H):
  ∃W:Nat->Nat->St->Hp->Prop,(∃m,W 0 m σ H)/\∀i m σ H,W i m σ H ->
   ((Xz K a).stop i H/\D.nx σ H)\/((Xz K a).go i H/\∃N:St->Hp->Prop,(∀σ' H',N σ' H'->∃m',m'<m/\W (i+1) m' σ' H')/\∀x H',(Xz K a).yld i H x H'->g x σ H' λσ2 H2=>tb {D with nx:=N,ct:=N,bk:=D.nx} σ2 H2):=by
 refine⟨λi m σ H=>m=xs.length-i/\i<=xs.length/\Pv i σ H,⟨xs.length,by simp,Nat.zero_le _,h0⟩,?_⟩;rintro i m σ H ⟨rfl,hi,p⟩;have q:=hl i σ H hi p
 by_cases hlt:i<xs.length
 ·refine .inr ⟨⟨xs,xs[i],q,by simp[hlt]⟩,Pv (i+1),λσ' H' p'=>⟨xs.length-(i+1),by lia,rfl,hlt,p'⟩,λv H' y=>?_⟩;rcases y with⟨p2,x,e1,e2,e3,y⟩;subst e1 e3;exact hs i x p2 σ H (y xs q) p e2
 ·have e:i=xs.length:=by lia
  subst e;exact .inl ⟨⟨xs,q,bL _⟩,hd σ H p⟩
end
theorem K1:∀{xs:List V} {us:List qQ},xs.length=us.length->(∀(i:Nat) (x:V) (u:qQ),xs[i]?=some x->us[i]?=some u->A5 x u)->Av xs us
 |[],[],_,_=>.nil
 |x::xs,u::us,hl,h=>.cons (h 0 x u rfl rfl) (K1 (by simpa using hl) λi y v e1 e2=>h (i+1) y v (by simpa using e1) (by simpa using e2))
 |[],_::_,hl,_=>by simp at hl
 |_::_,[],hl,_=>by simp at hl
noncomputable def CM(n:Nat):qW:=(List.range n).map λi:Nat=>(i:Int)
theorem DH{n:Nat}(h:i<n):(CM n)[i]?=some (i:Int):=by unfold CM;rw[List.getElem?_map,List.getElem?_range h];rfl
theorem Be(n:Nat):(CM n).length=n:=by unfold CM;rw[List.length_map,List.length_range]
section
variable{X:Cx}{a:Expr}{cs:List Expr}{ta:TE}{tc:TA}{p pos tpos:Pos}{ctx}
noncomputable def Rh(K:qV):List V->Hp->VK->Prop
 |[x,c],H,Q=>∃t tp vs us b,Xv K H x t/\c=.ref tp/\H tp=some (.tup vs)/\vs.map RP=us.map some/\PySem.W.kitAny K t us=some b/\Q (.bl b) H
 |_,_,_=>False
theorem L8:∀{vs:List V} {its us:List qQ},Av vs its->vs.map RP=us.map some->its=us
 |_,_,[],.nil,_=>rfl
 |_,_,_::_,.nil,e=>by simp at e
 |_,_,[],.cons _ _,e=>by simp at e
 |x::xs,_,u::us,.cons r rr,e=>by
  simp only[List.map_cons,List.cons.injEq]at e;obtain⟨e1,e2⟩:=e;rw[L8 rr e2]
  congr 1
  cases x with
  |ty n=>cases e1;exact r
  |ref a=>cases e1;exact r
  |_=>cases e1
theorem V8{s:qS}{x:V}{v t:qQ}(I:AT X ad σ H s)(rx:A5 x v)(ty:Xv X.K H x t):(∃φ,PySem.W.KitX X.K v t φ/\φ s.heap)/\v≠.builtin "__main__.__loader__#opaque":=by
 cases ty with
 |of ty =>
  cases ty with
  |non=>cases (show v=Value.none from rx);exact⟨⟨_,PySem.W.kitx_none,True.intro⟩,λz=>nomatch z⟩
  |bl y=>cases (show v=Value.bool y from rx);exact⟨⟨_,PySem.W.kitx_bool,True.intro⟩,λz=>nomatch z⟩
  |int i=>obtain⟨t,q⟩:=(show ∃t,v=Value.int i t from rx);cases q;exact⟨⟨_,PySem.W.kitx_int,True.intro⟩,λz=>nomatch z⟩
  |str y=>obtain⟨t,q⟩:=(show ∃t,v=Value.str y t from rx);cases q;exact⟨⟨_,PySem.W.kitx_str,True.intro⟩,λz=>nomatch z⟩
  |flt y=>obtain⟨t,q⟩:=(show ∃t,v=Value.float y t from rx);cases q;exact⟨⟨_,PySem.W.kitx_float,True.intro⟩,λz=>nomatch z⟩
  | @lst a xs ea =>
   cases (show v=Value.ref a from rx);obtain⟨_,_,n,_,h1⟩:=(show Ax X.prog X.w H s.heap a (.lst xs) from I.hok a _ ea);exact⟨⟨_,gE,⟨_,h1,rfl⟩⟩,λz=>nomatch z⟩
  | @frz a ob xs ea =>
   cases (show v=Value.ref a from rx);obtain⟨_,_,_,n,_,h1⟩:=(show Ax X.prog X.w H s.heap a (.frz ob (.lst xs)) from I.hok a _ ea);exact⟨⟨_,gE,⟨_,h1,rfl⟩⟩,λz=>nomatch z⟩
  | @tup a xs ea =>
   cases (show v=Value.ref a from rx);obtain⟨_,_,_,p⟩:=(show Ax X.prog X.w H s.heap a (.tup xs) from I.hok a _ ea);obtain⟨o,h1,h2,_⟩:=p;exact⟨⟨_,PySem.W.kitx_tuple,⟨o,h1,h2⟩⟩,λz=>nomatch z⟩
  | @dK a kvs ea =>
   cases (show v=Value.ref a from rx);obtain⟨_,_,vs,_,p⟩:=(show Ax X.prog X.w H s.heap a (.dK kvs) from I.hok a _ ea);obtain⟨o,es,ep,h1,h2,_⟩:=p;exact⟨⟨_,gH,⟨o,h1,h2.1⟩⟩,λz=>nomatch z⟩
  | @dT a kvs ea =>
   cases (show v=Value.ref a from rx);obtain⟨_,_,xs,_,o,es,ep,h1,h2,_⟩:=(show Ax X.prog X.w H s.heap a (.dT kvs) from I.hok a _ ea);exact⟨⟨_,gH,⟨o,h1,h2.1⟩⟩,λz=>nomatch z⟩
  | @ins a C dx fs ea cl ha hn htk hm =>
   cases (show v=Value.ref a from rx);obtain⟨mA,O,_⟩:=Oo I.hok ea;obtain⟨od,J,_⟩:=O.look;exact⟨⟨_,PySem.W.kitx_own (cl.get _) cl.hd ha hn htk hm,J⟩,λz=>nomatch z⟩
 | @exc a D dy n e ck =>
  cases (show v=Value.ref a from rx);obtain⟨x,_,_⟩:=(show Ax X.prog X.w H s.heap a (.ext (HB a (.ref D) _ _)) from I.hok a _ e);exact⟨⟨_,L6 ck,x⟩,λz=>nomatch z⟩
theorem QH:Cf X (.builtin "isinstance") (Rh X.K):=by
 intro ad s σ H xs us Q I rv h
 match xs,h with
 |[x,c],h =>
 rcases h with⟨t,tp,vs,ucs,b,ty,rfl,ht,hcs,k,q⟩;rcases On rv with⟨v1,v2,rfl,r1,r2⟩;cases (show v2=Value.ref tp from r2);rcases (show Ax X.prog X.w H s.heap tp (.tup vs) from I.hok tp _ ht) with⟨_,its,rits,o,ho,hcl,n,hd⟩;rcases o with⟨c1,c2,c3,c4⟩;dsimp only at hcl hd;subst hcl hd;have e:=L8 rits hcs;subst e;rcases V8 I r1 ty with⟨⟨φ,Z,hφ⟩,hx⟩;exact PySem.W.kia_tup Z I.kIn hφ ho k hx λtk=>⟨.bl b,H,I.tok tk,rfl,q⟩
theorem T7(hg:Gl X "isinstance")(hm:X.mg "isinstance"=none)(ha:PE X a ta)(hc:PA X cs tc)(h1:starEach [a,.Tuple cs ctx tpos] X.env=(false,eval a X.env)::starEach [.Tuple cs ctx tpos] X.env:=by rfl)
  (h2:starEach [.Tuple cs ctx tpos] X.env=(false,eval (.Tuple cs ctx tpos) X.env)::starEach [] X.env:=by rfl)
  (h3:(backTo pos (starEach [.Tuple cs ctx tpos] X.env)).any (·.1)=false:=by rfl):PE X (.Call (.Name "isinstance" p) [a,.Tuple cs ctx tpos] [] pos) (Xo (Rh X.K) (Fu ta (Fu (Vy tc) Kt))):=
 Ap QH hg hm PyProof.Rows.boot_isinstance (AA ha (AA (Cb hc) AC h2) h1) 0#8 0#8 h1 h3
end
section
variable{K:qV}
theorem X1:PySem.W.kitOne K (.type "int") (.type "int")=some true:=by kernel_rfl
theorem X2:PySem.W.kitOne K (.type "int") (.type "bool")=some false:=by kernel_rfl
theorem X3:PySem.W.kitOne K (.type "bool") (.type "int")=some true:=by kernel_rfl
theorem X4:PySem.W.kitOne K (.type "bool") (.type "bool")=some true:=by kernel_rfl
theorem X5:PySem.W.kitOne K (.type "NoneType") (.type "int")=some false:=by kernel_rfl
theorem X6:PySem.W.kitOne K (.type "str") (.type "int")=some false:=by kernel_rfl
theorem X7:PySem.W.kitOne K (.type "list") (.type "int")=some false:=by kernel_rfl
theorem X8:PySem.W.kitOne K (.type "list") (.type "list")=some true:=by kernel_rfl
theorem X9:PySem.W.kitOne K (.type "tuple") (.type "int")=some false:=by kernel_rfl
end
structure Ak(P:qT)(w:qU)(K:qV)(mg:Str->Option qQ)(base:Heap)(k:Nat)(f:qR)(ps:List Str)(sp:Sp):Prop where
 ex:∃fd,FW P w K mg base (Js P w) k f fd ps sp/\Dv K fd ps []
 kp:PySem.W.keepIn K (.ref f)=true
section
variable{P:qT}{w:qU}{K:qV}{mg:Str->Option qQ}{base:Heap}{x:Str}{f:qR}{N:List Str}{k:Nat}
theorem Bl.ok0(F:Bl K x qual st f fd)(S:AJ N ps (AG st))(len:∀vs H Q E,sp vs H Q E->vs.length=ps.length)
  (hbody:∀(gu:qQ) (A:Around) (outer:List Env) (s:qS) (H:Hp) (vs:List V) (Q:VK) (E:XK),Br k (A.deeper (envOfC qual (AG st) s.heap.objs.size f gu))->sp vs H Q E ->
   ∃t,FU (DX (Js P w) P w K mg base N qual (AG st) f gu A outer s H E).nox (BH st) t/\t {nx:=λ_ H'=>Q .non H',rt:=Q} (B4 N vs) H):FW P w K mg base (Js P w) (k+1) f fd ps sp:=
 F.okX S len λgu A outer s H vs Q E hr hsp=>by obtain⟨t,h,q⟩:=hbody gu A outer s H vs Q E hr hsp;exact⟨t,h.nox,q⟩
abbrev DI(x qual:Str)(st:Stmt)(ps:List Str):Prop:=∀(kV doc pm:qQ) (an:Option qR) (gu ct:qQ) (us:List qQ),us.length=ps.length->bindArgs (PySem.W.fnOf x qual (Cd st) (BH st) (AG st) .none kV doc pm an gu ct) ⟨us,[]⟩=pure (ps.zip us)
theorem T8(D:∃fd,Bl K x qual st f fd)(S:AJ N ps (AG st))(bd:DI x qual st ps)(len:∀vs H Q E,sp vs H Q E->vs.length=ps.length)
  (hbody:∀(gu:qQ) (A:Around) (outer:List Env) (s:qS) (H:Hp) (vs:List V) (Q:VK) (E:XK),Br k (A.deeper (envOfC qual (AG st) s.heap.objs.size f gu))->sp vs H Q E ->
   ∃t,FU (DX (Js P w) P w K mg base N qual (AG st) f gu A outer s H E).nox (BH st) t/\t {nx:=λ_ H'=>Q .non H',rt:=Q} (B4 N vs) H):Ak P w K mg base (k+1) f ps sp:=by
 obtain⟨fd,F⟩:=D;exact⟨⟨fd,F.ok0 S len hbody,F.binds bd⟩,F.kp⟩
theorem T9(D:∃fd,Bl K x qual st f fd)(S:AJ N ps (AG st))(bd:DI x qual st ps)(len:∀vs H Q E,sp vs H Q E->vs.length=ps.length)
  (hbody:∀(gu:qQ) (A:Around) (outer:List Env) (s:qS) (H:Hp) (vs:List V) (Q:VK) (E:XK),Br k (A.deeper (envOfC qual (AG st) s.heap.objs.size f gu))->sp vs H Q E ->
   ∃t,FU (DX (Js P w) P w K mg base N qual (AG st) f gu A outer s H E) (BH st) t/\t {nx:=λ_ H'=>Q .non H',rt:=Q} (B4 N vs) H):Ak P w K mg base (k+1) f ps sp:=by
 obtain⟨fd,F⟩:=D;exact⟨⟨fd,F.okX S len hbody,F.binds bd⟩,F.kp⟩
end
section
variable{X:Cx}{k:Nat}{f:qR}{E:St->XK}{EX:XK}{x:Str}{np p pos cpos:Pos}{e:Expr}{t:TA}
theorem Cr(G:Ak X.prog X.w X.K X.mg X.base k f ps sp)(hr:Br k X.A)(hg:Gl X x)(hm:X.mg x=some (.ref f))(hx:FD (Js X.prog X.w) X E)
  (ha:PA X (e::es) t) (hdb:(x==("__debug__":Str))=false:=by decide) (he:starEach (e::es) X.env=(false,eval e X.env)::starEach es X.env:=by rfl) (hpl:(backTo pos (starEach es X.env)).any (·.1)=false:=by rfl):
  PE X (.Call (.Name x p) (e::es) [] pos) (GV sp [] E t):=by
 rcases G with⟨⟨fd,F,b⟩,kp⟩;exact L5 F hr hg hm kp b .nil hx ha hdb he hpl
theorem DB{i:Int}(hg:Gl X x)(hm:∃t,X.mg x=some (.int i t))(hd:(x==("__debug__":Str))=false:=by decide):PE X (.Name x pos) (tC (.int i)):=by obtain⟨t,hm⟩:=hm;exact Ra hg hm hd
end
inductive Nd(K:qV)(vs:List V)(H:Hp)(Q:VK)(z3_:XK):Prop
 |m (a:qR) (ns:qW) (k:Nat):vs=[.ref a,.int k]->Ae K H a 1#3->ns.length<=63->Q (.int (ns.getD k 0)) H->Nd K vs H Q z3_
noncomputable def Kd(H:Hp):V->Prop
 |.int _=>True
 |.bl _=>True
 |.non=>True
 |.str _=>True
 |.ref a=>∃xs,H a=some (.lst xs)\/H a=some (.tup xs)
 |_=>False
theorem Kd.same(e:AH H H'):∀{x:V},Kd H x->Kd H' x
 |.int _,_=>True.intro
 |.bl _,_=>True.intro
 |.non,_=>True.intro
 |.str _,_=>True.intro
 |.ref a,h=>by obtain⟨xs,h⟩:=h;exact⟨xs,h.elim (λq=>.inl (e _ _ q)) λq=>.inr (e _ _ q)⟩
noncomputable def Z5:V->Bool
 |.int _=>true
 |_=>false
inductive Hg(vs:List V)(H:Hp)(Q:VK)(z3_:XK):Prop
 |m (x:V):vs=[x]->Kd H x->Q (.bl (Z5 x)) H->Hg vs H Q z3_
noncomputable def Td(g:Int):V->Bool
 |.int i=>decide (0<=i)&&decide (i<g)
 |_=>false
inductive K2(vs:List V)(H:Hp)(Q:VK)(z3_:XK):Prop
 |m (x:V) (g:Int):vs=[x,.int g]->Kd H x->Q (.bl (Td g x)) H->K2 vs H Q z3_
noncomputable def CU(g:Int)(xs:List V):Option Nat:=xs.findIdx? λx=>!Td g x
noncomputable def Nf(g n:Int)(ns:qW):Int:=ns.foldl (λm x=>m*g+x) n
noncomputable def Ao(g:Int)(ns:qW):Int:=Nf g 0 ns
theorem FX{g:Int}(h:CU g xs=none):∃ns:qW,xs=ns.map V.int/\∀n∈ns,0<=n/\n<g:=by
 unfold CU at h;rw[fX]at h
 induction xs with
 |nil=>exact⟨[],rfl,λn z=>qG z 1#4⟩
 |cons x xs ih =>
  obtain⟨ns,e,b⟩:=ih λy hy=>h y (bi _ hy)
  have hx:=h x bo;cases x with
  |int i =>
   simp only[Td,Bool.not_eq_false',Bool.and_eq_true,decide_eq_true_eq]at hx;exact⟨i::ns,by rw[e];rfl,λn z=>(br.mp z).elim (λq=>q▸hx) (b n)⟩
  |_=>simp[Td]at hx
theorem EG{g:Int}{ns:qW}(h:∀n∈ns,0<=n/\n<g):CU g 1#3=none:=by unfold CU;rw[fX];intro x hx;obtain⟨n,hn,e⟩:=bg.mp hx;subst e;have q:=h n hn;simp[Td,q.1,q.2]
theorem FE{ns:qW}:∀x∈ns.map V.int,Kd H x:=λx hx=>by obtain⟨n,_,e⟩:=bg.mp hx;subst e;exact True.intro
end L2
namespace L2
open PySem
variable{D:HU}{H':Hp}{i:Nat}{xs:List V}{σ:St}
theorem FY{t:TS}(Z:Hp->Prop)(hz:Z H')(h:∀H2,Z H2->t D σ H2):t D σ H':=h H' hz
theorem Eo{ns ms:qW}(h:ns.map V.int=ms.map V.int):ns=ms:=(List.map_inj_right (f:=V.int) λ_ _ e=>V.int.inj e).mp h
theorem UA(ns:qW)(lo hi:Option Int):(Re ns lo hi).length<=ns.length:=by unfold Re;rw[bq,bj];lia
theorem UB{g:Int}(h:2<=g)(l:qW):∀n∈l.map (·%g),0<=n/\n<g:=λn hn=>by obtain⟨m,_,e⟩:=bg.mp hn;subst e;exact⟨eQ _ 0#1,d9 _ 0#1⟩
theorem Ng{g:Int}{x:V}(hb:CU g (xs.take i)=none)(hx:xs[i]?=some x)(hs:Td g x=true):CU g (xs.take (i+1))=none:=by
 unfold CU at *;rw[fX]at hb⊢;intro y hy;rw[dg,hx]at hy;rcases bQ.mp hy with z|z
 ·exact hb y z
 ·have e:y=x:=by simpa using z
  rw[e,hs];rfl
theorem Nh{g:Int}{x:V}(hb:CU g (xs.take i)=none)(hx:xs[i]?=some x)(hs:Td g x=false):CU g xs=some i:=by
 obtain⟨hi,ex⟩:=bJ.mp hx
 have e:xs=xs.take i++x::xs.drop (i+1):=by rw[<-ex,<-cj hi,cq]
 unfold CU at *;rw[e,List.findIdx?_append,hb];simp[List.findIdx?_cons,hs,List.length_take];lia
theorem Ch{ns:qW}{x:V}(h:(ns.map V.int)[i]?=some x):∃n,ns[i]?=some n/\x=.int n:=by rw[bO]at h;obtain⟨n,e1,e2⟩:=cM.mp h;exact⟨n,e1,e2.symm⟩
theorem Fz{g n:Int}{ns:qW}(h:ns[i]?=some n):Ao g (ns.take (i+1))=Ao g (ns.take i)*g+n:=by unfold Ao Nf;rw[dg,h,List.foldl_append];rfl
noncomputable def low(g:Int):qW->Int
 |[]=>0
 |x::r=>x+g*low g r
theorem L9(g x:Int):∀l:qW,low g (l++[x])=low g l+x*g^l.length
 |[]=>by simp[low]
 |y::l=>by
  rw[gQ,low,low,L9 g x l,cW,cB,Int.mul_add,gf]
  congr 2
  rw[dh g,Int.mul_assoc]
theorem DJ(g x:Int)(l:qW):Ao g (l++[x])=Ao g l*g+x:=by unfold Ao Nf;rw[List.foldl_append];rfl
theorem K3(g:Int):∀l:qW,Ao g l.reverse=low g l
 |[]=>rfl
 |x::l=>by rw[List.reverse_cons,DJ,K3 g l,low,dh,di]
theorem O1(g:Int)(ns:qW):Ao g ns=low g ns.reverse:=by rw[<-K3,List.reverse_reverse]
end L2
namespace L2
open PySem PySem.Spec PyProof.Rows
variable{C a it:qR}{D:HU}{E Q:qQ->qS->Prop}{H H' H2:Hp}{T:String}{a0 gu cls doc oc:qQ}{an od:Option qR}{es:List Expr}{fd:FuncData}{fp:List qR}{h' h1:Heap}{i t':Nat}{items:Array qQ}{its:List qQ}{lo:Int}{osl:Array (Option qQ)}{ad:List (qR×Obj)}{ps:List Str}{qual:Str}{s':qS}{scope:Scope}{sp:Sp}{st:Stmt}{ta:TA}{te:TE}{xs:List V}{σ:St}
mutual
inductive FP(K:qV)(H:Hp):V->PyData->Prop
 |non:FP K H .non .none
 |bl (b:Bool):FP K H (.bl b) (.bool b)
 |int (i:Int):FP K H (.int i) (.int i)
 |str (x:Str):FP K H (.str x) (.str x)
 |lst {a:qR} {xs:List V} {ds:List PyData}:Ae K H a xs->DL K H xs ds->FP K H (.ref a) (.list ds)
 |tup {a:qR} {xs:List V} {ds:List PyData}:Ah K H a xs->DL K H xs ds->FP K H (.ref a) (.tuple ds)
inductive DL(K:qV)(H:Hp):List V->List PyData->Prop
 |nil:DL K H [] []
 |cons {x:V} {xs:List V} {d:PyData} {ds:List PyData}:FP K H x d->DL K H xs ds->DL K H (x::xs) (d::ds)
end
section
variable{X:Cx}{s:qS}
mutual
theorem FP.reads(I:AT X ad σ H s):∀{x:V} {d:PyData} {u:qQ},FP X.K H x d->A5 x u->∃as,Reads s.heap u d as
 |_,_,_,.non,r=>by cases r;exact⟨_,.none⟩
 |_,_,_,.bl b,r=>by cases r;exact⟨_,.bool b⟩
 |_,_,_,.int i,r=>by obtain⟨t,e⟩:=r;subst e;exact⟨_,.int i t⟩
 |_,_,_,.str x,r=>by obtain⟨t,e⟩:=r;subst e;exact⟨_,.str x t⟩
 |_,_,_,.lst hq ha,r=>by cases r;obtain⟨its,rv,⟨o,n,e,c,_,d⟩,_⟩:=I.list hq;obtain⟨as,q⟩:=DL.reads I ha rv;exact⟨_,.list e c d (by simpa using q)⟩
 |_,_,_,.tup hq ha,r=>by cases r;obtain⟨its,rv,⟨o,e,c,n,d⟩,_⟩:=I.tuple hq;obtain⟨as,q⟩:=DL.reads I ha rv;exact⟨_,.tuple e c d (by simpa using q)⟩
theorem DL.reads(I:AT X ad σ H s):∀{xs:List V} {ds:List PyData} {us:List qQ},DL X.K H xs ds->Av xs us->∃as,ReadsAll s.heap us ds as
 |_,_,_,.nil,.nil=>⟨_,.nil⟩
 |_,_,_,.cons h t,.cons r rr=>by obtain⟨as,q⟩:=FP.reads I h r;obtain⟨bs,q2⟩:=DL.reads I t rr;exact⟨_,.cons q q2⟩
end
def Z6(K:qV):R2:=λx y H Q=>∃d e,FP K H x d/\FP K H y e/\d.canLay0=true/\e.canLay0=true/\d.depth<=60/\Q (.bl (PyData.eqv d e)) H
theorem V9(hu:X.A.units+64<cLine):Ft X (compareOp .Eq) (Z6 X.K):=by intro ad s σ H x y v u Q I rx ry h;obtain⟨d,e,hd,he,c1,c2,dd,q⟩:=h;obtain⟨as,r1⟩:=hd.reads I rx;obtain⟨bs,r2⟩:=he.reads I ry;have z:=SeqAt.rcAt_reads (A:=X.A) r1 r2 c1 c2 (by have:=Nat.min_le_left d.depth e.depth;lia);exact z X.prog X.w X.xe _ ⟨.bl _,H,I,rfl,q⟩
end
theorem IX{K:qV}:∀ns:qW,DL K H 1#3 (ns.map PyData.int)
 |[]=>.nil
 |n::ns=>.cons (.int n) (IX ns)
theorem IY:∀ns:qW,PyData.canLayAll0 (ns.map PyData.int)=true
 |[]=>by simp only[List.map_nil,PyData.canLayAll0]
 |n::ns=>by simp only[List.map_cons,PyData.canLayAll0,PyData.canLay0,IY ns,Bool.and_self]
theorem bE{K:qV}{t:qQ}(h:PySem.W.kitOne K t (.type T)=some true)(r:List qQ):PySem.W.kitAny K t (.type T::r)=some true:=by unfold PySem.W.kitAny;rw[h]
theorem IZ{X:Cx}{K:qV}(h:X.K=K):VE X (Tt K):=h▸Ov
theorem Hh{X:Cx}{K:qV}(h:X.K=K):VE X (Tu K):=h▸RH
structure UC(P:qT)(w:qU)(K:qV)(mg:Str->Option qQ)(base:Heap)(k:Nat)(f:qR)(ps:List Str)(sp:Sp):Prop where
 ex:∃fd,FW P w K mg base (L0 true P w) k f fd ps sp/\Dv K fd ps []
 kp:PySem.W.keepIn K (.ref f)=true
section
variable{P:qT}{w:qU}{K:qV}{mg:Str->Option qQ}{base:Heap}{x:Str}{f:qR}{N:List Str}{k:Nat}
theorem UD(D:∃fd,Bl K x qual st f fd)(S:AJ N ps (AG st))(bd:DI x qual st ps)(len:∀vs H Q E,sp vs H Q E->vs.length=ps.length)
  (hbody:∀(gu:qQ) (A:Around) (outer:List Env) (s:qS) (H:Hp) (vs:List V) (Q:VK) (E:XK),Br k (A.deeper (envOfC qual (AG st) s.heap.objs.size f gu))->sp vs H Q E ->
   ∃t,FU (DX (L0 true P w) P w K mg base N qual (AG st) f gu A outer s H E) (BH st) t/\t {nx:=λ_ H'=>Q .non H',rt:=Q} (B4 N vs) H):UC P w K mg base (k+1) f ps sp:=by
 obtain⟨fd,F⟩:=D;exact⟨⟨fd,F.okX S len hbody,F.binds bd⟩,F.kp⟩
end
section
variable{X:Cx}{k:Nat}{f:qR}{E:St->XK}{x:Str}{p pos:Pos}{e:Expr}{t:TA}
theorem Ri(G:UC X.prog X.w X.K X.mg X.base k f ps sp)(hr:Br k X.A)(hg:Gl X x)(hm:X.mg x=some (.ref f))(hx:FD (L0 true X.prog X.w) X E)
  (ha:PA X (e::es) t) (hdb:(x==("__debug__":Str))=false:=by decide) (he:starEach (e::es) X.env=(false,eval e X.env)::starEach es X.env:=by rfl) (hpl:(backTo pos (starEach es X.env)).any (·.1)=false:=by rfl):
  PE X (.Call (.Name x p) (e::es) [] pos) (GV sp [] E t):=by
 rcases G with⟨⟨fd,F,b⟩,kp⟩;exact L5 F hr hg hm kp b .nil hx ha hdb he hpl
end
noncomputable def Cx.trN(X:Cx)(p:List (qR×Obj))(W:St->XK):Cx:=X.but p λe s'=>∃ad σ H s,AT (X.but p λ_ _=>False) ad σ H s/\L0 true X.prog X.w X.stack H s (W σ) e s'
section
variable{X:Cx}{p:List (qR×Obj)}
theorem YA{W:St->XK}:(X.trN p W).K=X.K:=rfl
theorem ME{W:St->XK}:FD (L0 true X.prog X.w) (X.trN p W) W:=λad σ H s e s' I h=>⟨ad,σ,H,s,AT.rebut (X:=X) I,h⟩
end
noncomputable def K4(a:qR):HO:=.ext (λh=>∃o vs,h.get? a=some o/\o.data=.fields vs/\vs[2]?=some .none)
section
variable{X:Cx}{s:qS}
theorem Tz.landN{D:Option qR}{B:Heap}{l:List Env}(I:AT X ad σ H s)(F:Tz true X.prog X.w X.stack H s a cls a0 D B H' s')(fl:Heap.FlyingW B l a cls a0 h')(sm:s'.heap.UpToSlots h')(dk:DK s'.heap h'):
  AT X ad σ (Ad H' a (K4 a)) {s' with heap:=h',toks:=t'}:=by
 obtain⟨u,hok⟩:=F.unAt I fl.1 sm;obtain⟨n1,n2⟩:=F.fresh;rcases fl.first with⟨oe,vs,he,hc,hd,_⟩;have ne:∀b o,s.heap.get? b=some o->b≠a:=λb o e z=>by rw[z,n2]at e;cases e
 have ne2:∀b o,H' b=some o->b≠a:=λb o e z=>by rw[z,n1]at e;cases e
 refine I.call' (s':={s' with heap:=h',toks:=t'}) (ch:=[]) F.os ⟨u.keep,u.slot,λb o e n hx=>?_,u.there,λb xs q=>?_,λb o v q=>?_,λb ps q=>?_⟩ (λb v q=>?_) F.bare (λb z=>qG z 1#4)
 ·rw[AK (ne b o e)];exact u.free b o e n hx
 ·have q':=u.tups b xs q;rw[AK (ne2 b _ q')];exact q'
 ·have q':=u.frzs b o v q;rw[AK (ne2 b _ q')];exact q'
 ·obtain⟨more,q'⟩:=u.tbls b ps q;exact⟨more,by rw[AK (ne2 b _ q')];exact q'⟩
 ·by_cases hb:b=a
  ·subst hb;rw[AE]at q;cases q;obtain⟨ow,hw,hwd⟩:=F.ctx rfl;refine⟨⟨oe,vs,he,hd,?_⟩,⟨oe,he⟩,λh1 h2 ⟨o,ws,e,r⟩ k=>⟨o,ws,k o e,r⟩⟩;have z:=(dk.get hw he).2.trans hwd;unfold EZ at z;rw[hd]at z;exact z
  ·rw[AK hb]at q;exact (hok b v q).stay (λc v' _ r=>r) (λc z=>by rw[AK (ne2 c _ z)];exact z) λc xs z=>by rw[AK (ne2 c _ z)];exact z
end
theorem Jx:entryFor table "proto.unchain"=some Builtin.«proto.unchain»:=entryFor_of_tree (by kernel_rfl)
noncomputable def Ea(X:Cx)(s2:qS)(H2:Hp)(env:Env)(fp:List qR)(N:List Str):Cx:={X with N:=N,s₀:=s2,H₀:=H2,env:=env,outer:=X.stack,ex:=fp,fn:=λ_=>false,pn:=[],xe:=λ_ _=>False}
theorem VI{X:Cx}{s2:qS}{env:Env}{N:List Str}:(Ea X s2 H2 env fp N).K=X.K:=rfl
noncomputable def HV(env:Env):List (Str×qR)->Prop
 |[]=>True
 | (y,c)::r=>env.cells.lookup y=some c/\HV env r
theorem HV.at'{env:Env}:∀{cl:List (Str×qR)},HV env cl->∀{y:Str} {c:qR},cl.lookup y=some c->env.cells.lookup y=some c
 |[],_,_,_,h=>by cases h
 | (z,d)::r,⟨h1,h2⟩,y,c,h=>by
  rw[fA]at h;cases e:y==z with
  |true =>
   rw[e]at h;cases h;rw[eq_of_beq e];exact h1
  |false =>
   rw[e]at h;exact h2.at' h
noncomputable def Zl:Option NameKind->Bool
 |some .cell=>true
 |some .free=>true
 |_=>false
theorem Rj{k:Option NameKind}(h:Zl k=true):k=some .cell\/k=some .free:=by
 unfold Zl at h
 split at h
 ·exact .inl rfl
 ·exact .inr rfl
 ·cases h
noncomputable def Ia(X:Cx)(scope:Scope)(cl:List (Str×qR)):List (Nat×Str)->Prop
 |[]=>True
 | (j,y)::r=>(X.N[j]?=some y/\Zl (X.env.scope.names.lookup y)=true/\(relabel scope X.env).names.lookup y=X.env.scope.names.lookup y/\(cl.lookup y).isSome=true)/\Ia X scope cl r
variable{cl:List (Str×qR)}
theorem Ia.at'{X:Cx}:∀{fv:List (Nat×Str)},Ia X scope cl fv->∀q∈fv,X.N[q.1]?=some q.2/\Zl (X.env.scope.names.lookup q.2)=true/\(relabel scope X.env).names.lookup q.2=X.env.scope.names.lookup q.2/\(cl.lookup q.2).isSome=true
 |[],_,q,h=>by cases h
 | (j,y)::r,⟨h1,h2⟩,q,h=>(br.mp h).elim (λe=>by rw[e];exact h1) λz=>h2.at' q z
noncomputable def C6(σ:St)(fv:List (Nat×Str)):List (Option V):=fv.map λq=>(σ[q.1]?).join
def PF(X:Cx)(ifs:List Expr)(t:TT):Prop:=∀(ad:List (qR×Obj)) (s:qS) (σ:St) (H:Hp) (Q:Bool->Hp->Prop),AT X ad σ H s->t σ H Q ->
 wpAny 0#6 X.A (forIn ifs true λc r=>if r=true then do let ok <-isTrue c X.env (eval c X.env);pure (ForInStep.yield ok) else pure (ForInStep.yield r)) (TP X ad σ Q) X.xe s
def UE:TT:=λ_ H Q=>Q true H
theorem DM{X:Cx}:PF X [] UE:=λad s σ H Q I h=>qD ⟨H,I,h⟩
theorem GW{X:Cx}{c:Expr}{t:TT}(h:PT X c t):PF X [c] t:=λad s σ H Q I q=>by simp only[List.forIn_cons,List.forIn_nil,if_true];exact qC (qC (BN (h ad s σ H Q I q) λb s1 z=>qD (qD z)))
def Ep(J:It)(tt:TT)(te:TE)(σf:List (Option V))(D:qR)(Q:VK)(H:Hp):Prop:=∃W:Nat->Nat->List V->Hp->Prop,(∃n,W n 0 [] (Ad H D (.lst [])))/\∀n i gt H2,W n i gt H2 ->
 (J.stop i H2/\Q (.ref D) H2)\/(J.go i H2/\∃N:List V->Hp->Prop,(∀l H',N l H'->∃n',n'<n/\W n' (i+1) l H')/\∀v H3,J.yld i H2 v H3->tt (some v::σf) H3 λb H4 =>
  if b=true then te (some v::σf) H4 λy H5=>H5 D=some (.lst gt)/\gt.length<sizeLine/\N (gt++[y]) (Ad H5 D (.lst (gt++[y]))) else N gt H4)
def Rk(wi:TI)(fv:List (Nat×Str))(tt:TT)(te:TE):TE:=λσ H Q=>wi σ H λJ H1=>∀D,H1 D=none->Ep J tt te (C6 σ fv) D Q H1
section
variable{X:Cx}{x:Str}{px pos:Pos}{elt iter:Expr}{ifs:List Expr}{scope:Scope}{cl:List (Str×qR)}{fv:List (Nat×Str)}{wi:TI}{tt:TT}{te:TE}
 {ad:List (qR×Obj)} {σ:St} {H2:Hp} {s2:qS} {fp:List qR} {it:qR} {tn:Nat->Heap->Prop} {J:It}
theorem Rm{N:List Str}(I2:AT X ad σ H2 s2)(f2:∀b∈fp,C5 X ad H2 b)(o2:∀b∈fp,∃o,s2.heap.get? b=some o/\∀v,o.data≠.cell v)(hC:s2.heap.objs.size<=C)(hk:scope.kind=.function)(hcl:HV X.env cl)
  (hhas:((relabel scope X.env).names.all λz=>!(z.2==.cell||z.2==.free)||(cl.lookup z.1).isSome)=true):(Ea X s2 H2 0#9 fp N).Ok where
 mod:=I2.ok.mod
 kind:=hk
 glob:=I2.ok.glob
 blt:=I2.ok.blt
 above:=hC
 inj:=λx y c h1 h2=>I2.ok.inj x y c (hcl.at' h1) (hcl.at' h2)
 has:=λy h=>by
  have key:∀k:NameKind,(relabel scope X.env).names.lookup y=some k->(k==.cell||k==.free)=true->∃c,cl.lookup y=some c:=λk hl hk=>by
   have mem:(y,k)∈(relabel scope X.env).names:=by
    generalize (relabel scope X.env).names=l at hl
    induction l with
    |nil=>cases hl
    |cons q r ih =>
     rw[fA]at hl;cases e:y==q.1 with
     |true =>
      rw[e]at hl;cases hl;rw[eq_of_beq e];exact bo
     |false =>
      rw[e]at hl;exact bi _ (ih hl)
   have z:=fZ.mp hhas _ mem;simp only[hk,Bool.not_true,Bool.false_or]at z;exact eO.mp z
  rcases h with h|h
  ·exact key _ h rfl
  ·exact key _ h rfl
 cab:=λ_ _ h=>nomatch h
 hd:=I2.ok.hd
 frames:=I2.ok.frames
 stk:=.inl rfl
 exf:=λb hb=>by obtain⟨o,e,_⟩:=o2 b hb;exact⟨b9 (bR (bP e) hC),λy c h=>(f2 b hb).2.2.2.2.1 y c (hcl.at' h)⟩
 bs:=λb o e=>I2.bs b o e
 bsz:=cK I2.ok.bsz I2.sz
 noex:=λb o e hb=>by
  obtain⟨_,_,_,h,_⟩:=f2 b hb;rcases h with h|h
  ·exact I2.ok.noex b o e h
  ·exact qG (bR (bP e) (cK I2.ok.bsz h)) (bu _)
 exfs:=λb hb z=>(br.mp (I2.stkSub b z)).elim (f2 b hb).2.1 (f2 b hb).2.2.1
 funs:=I2.stack
 frf:=I2.stkFree
theorem Ic{env:Env}{N:List Str}{σ':St}{pl:List (qR×Obj)}(I2:AT X ad σ H2 s2)(f2:∀b∈fp,C5 X ad H2 b)(Ib:AT (Ea X s2 H2 env fp N) pl σ' H' s'):AT X ad σ H' s':=
 I2.call' (ch:=fp) Ib.os Ib.base Ib.hok Ib.bare λb hb=>⟨(f2 b hb).2.2.2.1,(f2 b hb).2.1,(f2 b hb).2.2.2.2.1,(f2 b hb).2.2.2.2.2⟩
theorem WA{D:qR}{t1:Nat}(I2:AT X ad σ H2 s2)(f2:∀b∈fp,C5 X ad H2 b)(o2:∀b∈fp,∃o,s2.heap.get? b=some o/\∀v,o.data≠.cell v)(hD:s2.heap.objs.size<=D)(hC:s2.heap.objs.size<=C)(hDC:D≠C)
  (old:∀b o,s2.heap.get? b=some o->h1.get? b=some o) (hl:h1.PlainList D #[]) (hn:h1.Ns C (λ_=>none)) (hk:scope.kind=.function) (hcl:HV X.env cl)
  (hhas:((relabel scope X.env).names.all λz=>!(z.2==.cell||z.2==.free)||(cl.lookup z.1).isSome)=true) (hfv:Ia X scope cl fv):
  AT (Ea X s2 H2 0#9 fp (x::fv.map (·.2))) [] (none::C6 σ fv) (Ad H2 D (.lst [])) {s2 with heap:=h1,toks:=t1} where
 ok:=Rm I2 f2 o2 hC hk hcl hhas
 os:=rfl
 bare:=I2.bare
 base:=Un.laid old hD (I2.hok.fresh hD)
 loc:=by
  refine⟨_,hn,λi y v h1' h2' _=>?_⟩;cases i with
  |zero=>cases h2'
  |succ i =>
   have h1':(fv.map (·.2))[i]?=some y:=h1';have h2':(C6 σ fv)[i]?=some (some v):=h2'
   obtain⟨q,hq,e1⟩:∃q,fv[i]?=some q/\q.2=y:=by rw[bO]at h1';exact cM.mp h1'
   subst e1;rcases hfv.at' q (bT hq) with⟨g1,g2,g3,g4⟩;unfold C6 at h2';rw[bO,hq]at h2';have e2:(σ[q.1]?).join=some v:=Option.some.inj h2'
   have e3:σ[q.1]?=some (some v):=by
    cases z:σ[q.1]? with
    |none=>rw[z]at e2;cases e2
    |some w=>rw[z]at e2;exact qP some e2
   obtain⟨m,_,lk⟩:=I2.loc;have g2:=Rj g2;obtain⟨u,ru,lu⟩:=lk q.1 q.2 v g1 e3 (.inr g2);refine⟨u,ru,.inr ⟨g2.imp (λz=>g3.trans z) (λz=>g3.trans z),?_⟩⟩;obtain⟨c,hc⟩:=eO.mp g4;refine⟨c,hc,?_⟩;rcases lu with⟨kk,_⟩|⟨_,c',e',⟨o,eo,d⟩⟩
   ·rcases g2 with z|z<;>(rw[show X.env.kindOf q.2=_ from z]at kk;cases kk)
   ·have e4:=hcl.at' hc;rw[e']at e4;cases e4;exact⟨o,old c o eo,d⟩
 cell:=λy c h=>by rcases I2.cell y c (hcl.at' h) with⟨v,o,eo,d⟩;exact⟨v,o,old c o eo,d⟩
 free:=by show Ad H2 D _ C=none;rw[AK (Ne.symm hDC)];exact I2.hok.fresh hC
 freeC:=λy c h=>by rcases I2.cell y c (hcl.at' h) with⟨v,o,eo,d⟩;rw[AK (b9 (bR (bP eo) hD))];exact I2.freeC y c (hcl.at' h)
 pin:=λp hp=>nomatch hp
 hok:=I2.hok.laid old hD (by obtain⟨n,e⟩:=hl;exact⟨Nat.zero_le _,[],n,.nil,by simpa using e⟩)
 len:=by simp[C6,Ea]
theorem O2{RR:qQ->qR->Result->qS->Prop}{Q:VK}(hc:X.calm=true)(I2:AT X ad σ H2 s2)(T:Kr X.prog X.w X.K (.Name x px) J fp it tn)(st2:tn 0 s2.heap)(f2:∀b∈fp,C5 X ad H2 b)
  (hcell:∀y∈scope.names,y.2≠.cell) (hk:scope.kind=.function) (hx:scope.names.lookup x=some .local) (hcl:HV X.env cl) (hhas:((relabel scope X.env).names.all λz=>!(z.2==.cell||z.2==.free)||(cl.lookup z.1).isSome)=true) (hfv:Ia X scope cl fv) (hnd:(x::fv.map (·.2)).Nodup)
  (hf:∀s H C fp,PF (Ea X s H 0#9 fp (x::fv.map (·.2))) ifs tt) (he:∀s H C fp,PE (Ea X s H 0#9 fp (x::fv.map (·.2))) elt te)
  (hw:∀D,H2 D=none->Ep J tt te (C6 σ fv) D Q H2)
  (hRR:∀D C σ' H' s',s2.heap.objs.size<=C->AT (Ea X s2 H2 0#9 fp (x::fv.map (·.2))) [] σ' H' s'->Q (.ref D) H'->RR (.ref D) C (.ok .next) s'):
  wpAny 0#6 X.A (newList []) (λgt s3=>wpAny 0#6 X.A (newFunctionEnv scope X.env.globals cl [] X.env.qual none .none (some X.env)) (λcenv s4 =>
   codeAny 0#6 X.A (.compStart (.ListComp elt [⟨.Name x px,iter,ifs,0⟩] scope pos) 0 (.ref it) gt {cenv with scope:=relabel scope X.env}) (RR gt cenv.locals) s4) E s3) E s2:=by
 refine wpAny_newObj_type (wpAny_newFunctionEnv hcell (by intro y hy;simp at hy) (λh1 hns hsb=>?_) hk);dsimp only at hns hsb⊢;generalize hH:s2.heap.push {cls:=.type "list",dict:=none,data:=.seq ([]:List qQ).toArray}=HH at hns hsb⊢;have eC:HH.objs.size=s2.heap.objs.size+1:=by rw[<-hH,dM]
 have hDC:s2.heap.objs.size≠HH.objs.size:=by rw[eC];exact b9 (d7 _)
 have hC:s2.heap.objs.size<=HH.objs.size:=by rw[eC];exact eg _
 have old:∀b o,s2.heap.get? b=some o->h1.get? b=some o:=λb o e=>hsb.extBut b o (by rw[eC];exact b9 (dE (bP e))) (bK _ (hH▸bK _ e))
 have hacc:h1.PlainList s2.heap.objs.size #[]:=⟨_,hsb.extBut _ _ hDC (bK _ (hH▸ba _ rfl))⟩;have o2:=T.obj _ _ st2;rcases hw s2.heap.objs.size (I2.hok.fresh (bL _)) with⟨W,⟨n0,w0⟩,turn⟩;generalize eD:s2.heap.objs.size=D at *;generalize eCC:HH.objs.size=C at *;have Ib:=WA (x:=x) (t1:=s2.toks+([]:List (Str×qQ)).length) I2 f2 o2 (by rw[eD];exact bL _) (by rw[eD];exact hC) hDC old hacc hns hk hcl hhas hfv;have st1:tn 0 h1:=T.keep _ _ _ st2 λb _ o e=>old b o e
 have nD:∀b∈fp,b≠D:=λb hb=>by obtain⟨o,e,_⟩:=o2 b hb;rw[<-eD];exact b9 (bP e)
 have fr1:∀b∈fp,Ad H2 D (.lst []) b=none:=λb hb=>by rw[AK (nD b hb)];exact (f2 b hb).1
 have hxl:(relabel scope X.env).names.lookup x=some .local:=lookup_relabel_local hx
 have stat:∀{H':Hp},(∀b∈fp,H' b=none)->∀b∈fp,C5 (Ea X s2 H2 0#9 fp (x::fv.map (·.2))) [] H' b:=λhn b hb=>by obtain⟨o,e,_⟩:=o2 b hb;exact⟨hn b hb,λz=>qG (bP e) (by rw[z,eD];exact Nat.not_lt.mpr hC),λz=>(br.mp (I2.stkSub b z)).elim (f2 b hb).2.1 (f2 b hb).2.2.1,.inl hb,λy c h=>(f2 b hb).2.2.2.2.1 y c (hcl.at' h),λq hq=>nomatch hq⟩
 have loop:codeAny 0#6 X.A (.compLoop (.ListComp elt [⟨.Name x px,iter,ifs,0⟩] scope pos) 0 (.ref it) (.ref D) 0#9) (RR (.ref D) C) {s2 with heap:=h1,toks:=s2.toks+([]:List (Str×qQ)).length}:=by
  refine codeAny_compLoop_tests (λn s'=>∃i gt σb H',AT (Ea X s2 H2 0#9 fp (x::fv.map (·.2))) [] σb H' s'/\σb.tail=C6 σ fv/\tn i s'.heap/\(∀b∈fp,H' b=none)/\W n i gt H') ?_ n0 ⟨0,[],_,_,Ib,rfl,st1,fr1,w0⟩;intro n s3 hRq;rcases hRq with⟨i,gt,σ3,H3,I3,t3,st3,fr3,w3⟩;rcases turn n i gt H3 w3 with⟨stop,qn⟩|⟨go,NN,hNN,step⟩
  ·refine BN (T.done (Ea X s2 H2 0#9 fp (x::fv.map (·.2))) rfl rfl rfl hc i [] s3 σ3 H3 _ I3 (stat fr3) st3 stop) λr s4 q4=>?_;obtain⟨hr,I4⟩:=q4;subst hr;exact hRR D C σ3 H3 s4 hC I4 qn
  ·refine BN (T.item (Ea X s2 H2 0#9 fp (x::fv.map (·.2))) rfl rfl rfl hc i [] s3 σ3 H3 _ I3 (stat fr3) st3 go) λr s4 q4=>?_;obtain⟨u,hr,h4⟩:=q4;subst hr;refine (show wpAny _ _ (letOwnedTupleGo (.Name x px) (.ref it) u >>= λ_=>assign (.Name x px) 0#9 u) _ _ _ from qC (BN h4 λ_ s5 q5=>?_));rcases q5 with⟨v,H5,I5,r5,y5,st5,fr5⟩;have I5':=I5.pinned (stat fr5) (T.obj _ _ st5);have again:∀{σ7:St} {H7:Hp} {s7:qS},AT (Ea X s2 H2 0#9 fp (x::fv.map (·.2))) ([]++GP fp s5.heap) σ7 H7 s7->tn (i+1) s7.heap/\∀b∈fp,H7 b=none:=λ{σ7 H7 s7} I7=>by refine⟨T.keep _ _ _ st5 λb hb o e=>(I7.pin (b,o) (bW _ (bW _ (Cg hb e)))).1,λb hb=>?_⟩;obtain⟨o,e,d⟩:=T.obj _ _ st5 b hb;exact (I7.pin (b,o) (bW _ (bW _ (Cg hb e)))).2.1
   have sσ:σ3.set 0 (some v)=some v::C6 σ fv:=by
    cases σ3 with
    |nil =>
     have z:=I3.len;simp[Ea]at z
    |cons a b =>
     have z:b=C6 σ fv:=t3;rw[z];rfl
   have g:=Hf (X:=Ea X s2 H2 0#9 fp (x::fv.map (λq:Nat×Str=>q.2))) (pos:=px) (i:=0) (x:=x) hnd rfl (.inl hxl) (.inr hxl);refine wpAny_noRaise (BN (g _ s5 σ3 H5 v u (λσ' H'=>σ'=some v::C6 σ fv/\H'=H5) I5' r5 ⟨sσ,rfl⟩) λ_ s6 q6=>?_);rcases q6 with⟨σ6,H6,I6,rfl,rfl⟩;refine wpAny_noRaise (BN (hf _ _ _ _ _ s6 _ _ _ I6 (step v _ y5)) λb s7 q7=>?_);obtain⟨H7,I7,q7⟩:=q7;cases b with
   |false =>
    rw[qE 0#8]at q7⊢;obtain⟨n',hn',w7⟩:=hNN _ _ q7;exact⟨n',hn',i+1,gt,_,H7,I7.unpinned,rfl,(again I7).1,(again I7).2,w7⟩
   |true =>
    rw[qF rfl]at q7⊢;refine wpAny_noRaise (BN (he _ _ _ _ _ s7 _ _ _ I7 q7) λyv s8 q8=>?_);rcases q8 with⟨y,H8,I8,r8,e8,l8,q8⟩;obtain⟨n',hn',w8⟩:=hNN _ _ q8;refine wpAny_noRaise (BN (GU (X:=Ea X s2 H2 0#9 fp (x::fv.map (·.2))) _ s8 _ H8 (.ref D) [y] (.ref D) [yv] (λ_ H'=>H'=Ad H8 D (.lst (gt++[y]))) I8 rfl (.cons r8 .nil) ⟨D,gt,y,rfl,rfl,e8,l8,rfl⟩) λ_ s9 q9=>?_);rcases q9 with⟨_,H9,I9,_,rfl⟩;exact⟨n',hn',i+1,gt++[y],_,_,I9.unpinned,rfl,(again I9).1,(again I9).2,w8⟩
 exact codeAny_compStart_list loop (T.self X.A 0 _ _ _ st1 loop)
theorem AT.letGo(I2:AT X ad σ H2 s2){σ':St}(J:AT X ad σ' H' s')(hC:s2.heap.objs.size<=C)(hn:H' C=none)(sb:Heap.SameBut C s'.heap h'):AT X ad σ' H' {s' with heap:=h',toks:=s'.toks}:=
 J.turned (it:=C) (λb o hb e=>(sb.2 b hb).trans e) hn (fG (bR I2.lt hC)) (.inr (cK I2.sz hC)) (λy c e z=>by obtain⟨v,o,eo,d⟩:=I2.cell y c e;exact qG (bR (bP eo) (by rw[z];exact hC)) (bu _)) λp hp z=>qG (bR (bP (I2.pin p hp).1) (by rw[z];exact hC)) (bu _)
theorem UF(hc:X.calm=true)(hi:PI X (.Name x px) iter wi)(hclos:closureFor scope X.env=pure cl)(hcell:∀y∈scope.names,y.2≠.cell)(hk:scope.kind=.function)(hnames:∀z∈scope.names,z.2=.local->scope.names.lookup z.1=some .local)
  (hx:scope.names.lookup x=some .local) (hcl:HV X.env cl) (hhas:((relabel scope X.env).names.all λz=>!(z.2==.cell||z.2==.free)||(cl.lookup z.1).isSome)=true) (hfv:Ia X scope cl fv) (hnd:(x::fv.map (·.2)).Nodup)
  (hf:∀s H C fp,PF (Ea X s H 0#9 fp (x::fv.map (·.2))) ifs tt) (he:∀s H C fp,PE (Ea X s H 0#9 fp (x::fv.map (·.2))) elt te)
  (hs:∀x,foldedSetIterable iter X.env x=pure x:=by intro _;rfl):PE X (.ListComp elt [⟨.Name x px,iter,ifs,0⟩] scope pos) (Rk wi fv tt te):=by
 intro ad s σ H Q I h;rw[eval_ListComp];refine wpAny_comprehension_free (use:=none) rfl hs hclos hk hnames (BN (hi ad s σ H _ I h) λv s1 h1=>BN h1 λitv s2 h2=>?_);rcases h2 with⟨it,fp,tn,J,H2,e,I2,T,st2,f2,hw⟩;subst e;refine O2 (RR:=λgt C=>compPost 0#6 X.A X.xe none (EP X ad σ Q) gt C) hc I2 T st2 f2 hcell hk hx hcl hhas hfv hnd hf he hw λD C σ' H' s' hC Ib q=>?_;obtain⟨m,hn,_⟩:=Ib.loc;exact⟨m,hn,λh' sb=>⟨.ref D,H',AT.letGo I2 (Ic I2 f2 Ib) hC Ib.free sb,rfl,q⟩⟩
theorem EH{y:Str}{iy:Nat}{py spos:Pos}(hc:X.calm=true)(hN:X.N.Nodup)(hy:X.N[iy]?=some y)(hyl:U4 X.env.scope y)(hi:PI X (.Name x px) iter wi)(hsw:swapsWith (.ListComp elt [⟨.Name x px,iter,ifs,0⟩] scope pos) (some (.Name y py)) spos.line X.env=pure true)
  (hclos:closureFor scope X.env=pure cl) (hcell:∀y∈scope.names,y.2≠.cell) (hk:scope.kind=.function) (hnames:∀z∈scope.names,z.2=.local->scope.names.lookup z.1=some .local)
  (hx:scope.names.lookup x=some .local) (hcl:HV X.env cl) (hhas:((relabel scope X.env).names.all λz=>!(z.2==.cell||z.2==.free)||(cl.lookup z.1).isSome)=true) (hfv:Ia X scope cl fv) (hnd:(x::fv.map (·.2)).Nodup)
  (hf:∀s H C fp,PF (Ea X s H 0#9 fp (x::fv.map (·.2))) ifs tt) (he:∀s H C fp,PE (Ea X s H 0#9 fp (x::fv.map (·.2))) elt te)
  (hyf:X.fn y=true\/X.env.scope.names.lookup y=some .local:=by first|exact .inl rfl|exact .inr rfl) (hs:∀x,foldedSetIterable iter X.env x=pure x:=by intro _;rfl):
  PS X (.Assign [.Name y py] (.ListComp elt [⟨.Name x px,iter,ifs,0⟩] scope pos) spos) (P4 (Rk wi fv tt te) (Fq iy)):=by
 intro ad s σ H D h' h;have I:=h';rw[exec_Assign_Name_used _ _ _ _ hsw];refine qC (wpAny_standAt (qC ?_));show wpAny _ X.A (do let _ <-comprehension (.ListComp elt [⟨.Name x px,iter,ifs,0⟩] scope pos) scope X.env _ (newList []) false (eval iter X.env) (some (assign (.Name y py) X.env))) _ _ s;refine qC (qM (wpAny_comprehension_free (use:=some (assign (.Name y py) X.env)) (Q:=λ_ s'=>SP X ad D .next s') rfl hs hclos hk hnames (BN (hi ad s σ H _ I h) λv s1 h1=>BN h1 λitv s2 h2=>?_)) (λ_ s' hq=>qD (qD hq)) λ_ _ e=>e);obtain⟨it,fp,tn,J,H2,e,I2,T,st2,f2,hw⟩:=h2;subst e;refine O2 (Q:=λv H1=>Fq iy v σ H1 D.nx) (RR:=λgt C=>compPost 0#6 X.A X.xe (some (assign (.Name y py) X.env)) (λ_ s'=>SP X ad D .next s') gt C) hc I2 T st2 f2 hcell hk hx hcl hhas hfv hnd hf he hw λD' C σ' H' s' hC Ib q=>?_;obtain⟨m,hn,_⟩:=Ib.loc;show wpAny _ X.A (assign (.Name y py) X.env (.ref D')) _ _ _;refine wpAny_assign_Name (J9 (Ic I2 f2 Ib) hN hy hyl (v:=.ref D') rfl (λs3 I3 hsb=>?_) hyf);obtain⟨a,sb3,ha⟩:=hsb
 have nC:C≠a:=λz=>by
  rcases ha with e|e
  ·exact qG (bR I2.lt hC) (by rw[z,e];exact bu _)
  ·obtain⟨v,o,eo,d⟩:=I2.cell y a e;exact qG (bR (bP eo) (by rw[<-z];exact hC)) (bu _)
 exact⟨m,hn.sameBut sb3 nC,λh'' sb=>⟨_,H',AT.letGo I2 I3 hC Ib.free sb,q⟩⟩
end
variable{tt:TT}{σf:List (Option V)}
theorem Bu{n:Nat}{D:qR}{Q:VK}(Pv:Nat->List V->Hp->Prop)(h0:Pv 0 [] (Ad H D (.lst [])))
  (hs:∀i gt H2,i<n->Pv i gt H2->tt (some (.int (lo+i))::σf) H2 λb H4=>if b=true then te (some (.int (lo+i))::σf) H4 λy H5=>H5 D=some (.lst gt)/\gt.length<sizeLine/\Pv (i+1) (gt++[y]) (Ad H5 D (.lst (gt++[y]))) else Pv (i+1) gt H4)
  (hd:∀gt H2,Pv n gt H2->Q (.ref D) H2):Ep (U9 lo n) tt te σf D Q H:=by
 refine⟨λk i gt H=>k=n-i/\i<=n/\Pv i gt H,⟨n,by simp,Nat.zero_le _,h0⟩,?_⟩;rintro k i gt H2 ⟨rfl,hi,p⟩
 by_cases hlt:i<n
 ·refine .inr ⟨hlt,Pv (i+1),λl H' p'=>⟨n-(i+1),by lia,rfl,hlt,p'⟩,λx H' y=>?_⟩;obtain⟨e,y⟩:=y;subst e y;exact hs i gt _ hlt p
 ·have e:i=n:=by lia
  subst e;exact .inl ⟨bL _,hd gt H2 p⟩
theorem FF{K:qV}{D:qR}{Q:VK}(Pv:Nat->List V->Hp->Prop)(h0:Pv 0 [] (Ad H D (.lst [])))(hl:∀i gt H,i<=xs.length->Pv i gt H->Ae K H a xs)
  (hs:∀i x gt H2,xs[i]?=some x->Pv i gt H2->tt (some x::σf) H2 λb H4=>if b=true then te (some x::σf) H4 λy H5=>H5 D=some (.lst gt)/\gt.length<sizeLine/\Pv (i+1) (gt++[y]) (Ad H5 D (.lst (gt++[y]))) else Pv (i+1) gt H4)
  (hd:∀gt H2,Pv xs.length gt H2->Q (.ref D) H2):Ep (Xa K a) tt te σf D Q H:=by
 refine⟨λk i gt H=>k=xs.length-i/\i<=xs.length/\Pv i gt H,⟨xs.length,by simp,Nat.zero_le _,h0⟩,?_⟩;rintro k i gt H2 ⟨rfl,hi,p⟩;have q:=hl i gt H2 hi p
 by_cases hlt:i<xs.length
 ·refine .inr ⟨⟨xs,xs[i],q,by simp[hlt]⟩,Pv (i+1),λl H' p'=>⟨xs.length-(i+1),by lia,rfl,hlt,p'⟩,λx H' y=>?_⟩;obtain⟨e,y⟩:=y;subst e;exact hs i x gt _ (y xs q) p
 ·have e:i=xs.length:=by lia
  subst e;exact .inl ⟨⟨xs,q,bL _⟩,hd gt H2 p⟩
section
variable{X:Cx}
theorem Ie:Cf X (.type "int") (λxs H Q=>∃i:Int,(xs=[.int i]\/∃b,xs=[.bl b]/\i=if b=true then 1 else 0)/\Q (.int i) H):=by
 intro ad s σ H xs us Q I r h;obtain⟨i,h,q⟩:=h;rcases h with rfl|⟨b,rfl,e⟩
 ·obtain⟨u,rfl,⟨t,rfl⟩⟩:=FQ r;exact call_int_int ⟨.int i,H,I,⟨t,rfl⟩,q⟩
 ·obtain⟨u,rfl,rx⟩:=FQ r;cases rx;subst e;exact call_int_bool ⟨.int _,H,I.tok _,⟨_,rfl⟩,q⟩
theorem HD:∀(ns:qW) (k:Nat),k<=ns.length->preSum (λi=>ns.getD i 0) k=(ns.take k).sum
 |ns,0,_=>by simp[preSum]
 |ns,k+1,h=>by
  have e:ns.take (k+1)=ns.take k++[ns[k]]:=by rw[dg,bI 0#1];rfl
  rw[preSum,HD ns k 0#1,e,fK,bH,bI 0#1];simp
theorem Er(hc:X.calm=true):Cf X (.builtin "sum") (λxs H Q=>∃(p:qR) (ns:qW),xs=[.ref p]/\Ae X.K H p 1#3/\Q (.int ns.sum) H):=by
 intro ad s σ H xs us Q I r h;obtain⟨p,ns,rfl,hq,q⟩:=h;obtain⟨u,rfl,rx⟩:=FQ r;cases rx;obtain⟨its,rits,pl,hz⟩:=I.list hq;have hlen:=rits.length;rw[bG]at hlen;have alt:p<s.heap.objs.size:=by obtain⟨o,e,_⟩:=pl.isList;exact bP e
 refine call_sum_walkG (wpAny_pyIter_list pl.isList ?_);have up:∀b o,s.heap.get? b=some o->(s.heap.push {cls:=.type "list_iterator",data:=.fields #[.ref p,.int 0 0]}).get? b=some o:=λb o e=>bK _ e
 refine⟨s.heap.objs.size,[s.heap.objs.size,p],[s.heap.objs.size],its.toArray.size,_,_,λi=>ns.getD i 0,rfl,Walks.list (A:=X.A.in1) (I.ok.hd hc) _ p (b9 alt) its.toArray,⟨⟨_,ba _ rfl,rfl,rfl⟩,pl.isList.at λo e=>up p o e⟩,λb hb=>?_,λi v hv=>?_,λh' tk t' kk=>?_⟩
 ·show b<(s.heap.push _).objs.size;rw[dM];rcases br.mp hb with z|z
  ·rw[z];exact d7 _
  ·rw[bV.mp z];exact dE alt
 ·have hv':its[i]?=some v:=by simpa using hv
  have hi:=(bJ.mp hv').1;obtain⟨u2,hu2,ru2⟩:=rits.get (x:=.int (ns.getD i 0)) (i:=i) (by rw[bO,bI 0#1,bH,bI 0#1];rfl);rw[hv']at hu2;cases hu2;exact ru2
 ·refine⟨.int ns.sum,H,I.kept (t':=tk) λb o e=>kk b o (λz=>?_) (up b o e),⟨t',?_⟩,q⟩
  ·rw[bV.mp z]at e;exact qG (bP e) (bu _)
  ·rw[HD ns _ (by simp[<-hlen]),List.size_toArray,<-hlen,List.take_length]
end
section
variable{X:Cx}{pos:Pos}
def Z7(K:qV)(n:Nat)(t:Tn):TG:=λv σ H Q=>∃a xs,v=.ref a/\Ae K H a xs/\xs.length=n/\t xs σ H Q
theorem WB{k:Nat}{t:Tn}{n:Nat}(hc:X.calm=true)(h:Xi X es t)
  (hn:(assignEach es X.env).length=n:=by rfl) (hst:(assignEach es X.env).findIdx? (·.1)=none:=by rfl):PG X (.Tuple es k pos) (Z7 X.K n t):=by
 intro ad s σ H v u Q I r hw;rcases hw with⟨a,xs,e1,hq,hl,hw⟩;subst e1;cases r;rcases I.list hq with⟨its,rv,p,hz⟩;have hn2:(assignEach es X.env).length=its.toArray.size:=by simp[hn,<-hl,rv.length]
 rw[assign_Tuple];refine qC (wpAny_standAt ?_);unfold unpack;rw[hn2,hst];refine qC (qO (PySem.W.kun_itemsOf (I.ok.hd hc) p.isList λh' hx=>?_));have I1:AT X ad σ H {s with heap:=h'}:=I.kept (t':=s.toks) λb o e=>hx b o (b9 (bP e)) e
 exact h ad _ σ H xs _ Q I1 (by simpa using rv) hw
end
structure QI(K:qV)(x qual:Str)(st:Stmt)(f:qR)(fd:FuncData)(dT:qR)(its:List qQ):Prop where
 ex:∃(oc:qQ) (od:Option qR) (kV doc pm:qQ) (an:Option qR) (gu ct:qQ) (osl:Array (Option qQ)),
  fd=PySem.W.fnOf x qual (Cd st) (BH st) (AG st) (.ref dT) kV doc pm an gu ct/\K.lookup f=some ⟨oc,od,.func fd,osl⟩/\PySem.W.codeIn K gu qual=true
 df:∃(oc:qQ) (od:Option qR) (n:Nat) (osl:Array (Option qQ)),K.lookup dT=some ⟨oc,od,.seq its.toArray n,osl⟩
 kp:PySem.W.keepIn K (.ref f)=true
structure Ni(P:qT)(w:qU)(K:qV)(mg:Str->Option qQ)(base:Heap)(k:Nat)(f:qR)(ps:List Str)(sp:Sp)(dvs:List V):Prop where
 ex:∃fd,FW P w K mg base (Js P w) k f fd ps sp/\Dv K fd ps []/\∃ds,Av dvs ds/\Dv K fd ps ds
 kp:PySem.W.keepIn K (.ref f)=true
section
variable{P:qT}{w:qU}{K:qV}{mg:Str->Option qQ}{base:Heap}{x:Str}{f:qR}{N:List Str}{k:Nat}{dvs:List V}
theorem Ni.all(G:Ni P w K mg base k f ps sp dvs):Ak P w K mg base k f ps sp:=by obtain⟨⟨fd,F,b,_⟩,kp⟩:=G;exact⟨⟨fd,F,b⟩,kp⟩
abbrev Nj(x qual:Str)(st:Stmt)(ps:List Str)(dT:qR)(its ds:List qQ)(n:Nat):Prop:=∀(kV doc pm:qQ) (an:Option qR) (gu ct:qQ) (us:List qQ),us.length=n ->
 ∃c:Option (Array qQ)->Sem (List (Str×qQ)),bindArgs (PySem.W.fnOf x qual (Cd st) (BH st) (AG st) (.ref dT) kV doc pm an gu ct) ⟨us,[]⟩=seqItems? (.ref dT) >>= c/\c (some its.toArray)=pure (ps.zip (us++ds))
theorem QI.binds{dT:qR}{ds:List qQ}{n:Nat}(F:QI K x qual st f fd dT its)(h:Nj x qual st ps dT its ds n)(hn:n+ds.length=ps.length):Dv K fd ps ds:=by rcases F with⟨⟨oc,od,kV,doc,pm,an,gu,ct,osl,rfl,lk,hcd⟩,⟨oc2,od2,n2,osl2,l2⟩,_⟩;intro s us X hl;obtain⟨c,h1,h2⟩:=h kV doc pm an gu ct us (by rw[bN]at hl;lia);exact BindsTo.of_defaults (T:=dT) rfl (X _ _ l2) rfl h1 h2
theorem O3{n:Nat}(D:∃fd dT,QI K x qual st f fd dT its)(hv:Av dvs its)(S:AJ N ps (AG st))(bd:∀dT,Nj x qual st ps dT its [] ps.length)(hn:n+its.length=ps.length)(bd2:∀dT,Nj x qual st ps dT its its n)(len:∀vs H Q E,sp vs H Q E->vs.length=ps.length)
  (hbody:∀(gu:qQ) (A:Around) (outer:List Env) (s:qS) (H:Hp) (vs:List V) (Q:VK) (E:XK),Br k (A.deeper (envOfC qual (AG st) s.heap.objs.size f gu))->sp vs H Q E ->
   ∃t,FU (DX (Js P w) P w K mg base N qual (AG st) f gu A outer s H E) (BH st) t/\t {nx:=λ_ H'=>Q .non H',rt:=Q} (B4 N vs) H):Ni P w K mg base (k+1) f ps sp dvs:=by
 obtain⟨fd,dT,F⟩:=D;have b1:=F.binds (bd dT) rfl;have b2:=F.binds (bd2 dT) hn;rcases F with⟨⟨oc,od,kV,doc,pm,an,gu,ct,osl,rfl,lk,hcd⟩,_,kp⟩;exact⟨⟨_,RG lk hcd S len λA outer s H vs Q E hr hsp=>hbody gu A outer s H vs Q E hr hsp,b1,its,hv,b2⟩,kp⟩
end
def K6(K:qV)(x:Str)(st:Stmt)(f:qR)(i:Int):Prop:=(∃tk fd dT,QI K x x st f fd dT [.int i tk])/\PySem.W.nsIn K mainGlobals x=some (some (.ref f))
theorem O4{K:qV}{x:Str}{f dT:qR}{i:Int}{tk:Tok}{oc2:qQ}{od2:Option qR}{osl2:Array (Option qQ)}{kV pm ct:qQ}{n2:Nat}(a:PySem.W.nsIn K mainGlobals x=some (some (.ref f)))
  (l:K.lookup f=some ⟨oc,od,.func (PySem.W.fnOf x x (Cd st) (BH st) (AG st) (.ref dT) kV doc pm an gu ct),osl⟩) (e:PySem.W.codeIn K gu x=true) (k:PySem.W.keepIn K (.ref f)=true) (d:K.lookup dT=some ⟨oc2,od2,.seq #[.int i tk] n2,osl2⟩):K6 K x st f i:=
 ⟨⟨tk,_,dT,⟨⟨oc,od,kV,doc,pm,an,gu,ct,osl,rfl,l,e⟩,⟨oc2,od2,n2,osl2,d⟩,k⟩⟩,a⟩
section
variable{prog:qT}{w:qU}{A:Around}{s:qS}
theorem Ha{t:qR}{items}{x:qQ}(hit:s.heap.IsTupleIter it t i)(ht:s.heap.IsTuple t items)(hx:items[i]?=some x)
  (hQ:∀h',h'.IsTupleIter it t (i+1)->Heap.SameBut it s.heap h'->Q x {s with heap:=h'}):wpAny 0#7 A (Builtin.SmallTypes.nextOf (.ref it)) Q E s:=by
 rcases id hit with⟨o,ho,hc,hd⟩;rcases ht with⟨ol,hol,_,nl,hdl⟩;unfold Builtin.SmallTypes.nextOf;refine qC (wpAny_callSpecial?_slot (name:=Str.ofString "__next__") hit.typeIs F.slot_tuple_iterator_next (wpAny_call_entry F.slot_tuple_iterator_next hit.typeIs F.entry_tuple_iterator_next ?_ (F.args_tuple_iterator_next_1 _)))
 (show wpAny _ _ (field (.ref it) 0 >>= _) _ _ s);refine qC (wpAny_field ho hd (x:=.ref t) rfl ?_)
 (show wpAny _ _ (if (Value.ref t==Value.none)=true then _ else _) _ _ s);rw[qE (show ¬((Value.ref t==Value.none)=true) from bf)]
 (show wpAny _ _ (field (.ref it) 1 >>= _) _ _ s);refine qC (wpAny_field ho hd (x:=.int i 0) rfl ?_)
 (show wpAny _ _ (seqItems? (.ref t) >>= _) _ _ s);refine qC (wpAny_seqItems hol hdl ?_)
 simp only[Int.toNat_natCast,hx];refine qC (wpAny_setField ho hd 1#4 (qD ⟨x,rfl,qD (hQ _ ⟨_,Heap.get?_update_self _ ho (Obj.isFreed_of_fields (Obj.data_mapFields hd _)),(Obj.cls_mapFields ..).trans hc,by rw[Obj.data_mapFields hd];simp[rawInt]⟩ (Heap.SameBut.update ..))⟩))
theorem Es{t:qR}{items}(hh:A.handled=none)(hit:s.heap.IsTupleIter it t i)(ht:s.heap.IsTuple t items)(hx:items[i]?=none)
  (hE:∀h' e,Heap.ExtBut it s.heap h'->(∃o,h'.get? e=some o/\o.cls=.type "StopIteration")->E (.ref e) {s with heap:=h'}):wpAny 0#7 A (Builtin.SmallTypes.nextOf (.ref it)) Q E s:=by
 rcases id hit with⟨o,ho,hc,hd⟩;rcases ht with⟨ol,hol,_,nl,hdl⟩;unfold Builtin.SmallTypes.nextOf;refine qC (wpAny_callSpecial?_slot (name:=Str.ofString "__next__") hit.typeIs F.slot_tuple_iterator_next (wpAny_call_entry F.slot_tuple_iterator_next hit.typeIs F.entry_tuple_iterator_next ?_ (F.args_tuple_iterator_next_1 _)))
 (show wpAny _ _ (field (.ref it) 0 >>= _) _ _ s);refine qC (wpAny_field ho hd (x:=.ref t) rfl ?_)
 (show wpAny _ _ (if (Value.ref t==Value.none)=true then _ else _) _ _ s);rw[qE (show ¬((Value.ref t==Value.none)=true) from bf)]
 (show wpAny _ _ (field (.ref it) 1 >>= _) _ _ s);refine qC (wpAny_field ho hd (x:=.int i 0) rfl ?_)
 (show wpAny _ _ (seqItems? (.ref t) >>= _) _ _ s);refine qC (wpAny_seqItems hol hdl ?_)
 simp only[Int.toNat_natCast,hx];refine qC (wpAny_rule (qC (wpAny_setField ho hd 1#4 ?_)));show wpAny _ _ (newExc (.type "StopIteration") [] >>= _) _ _ _;refine qC ?_;simp only[newExc,newTuple];refine qC (wpAny_newObj_type ?_ (by size_fits));refine qC (m:=firstArgMember _ _) (wpAny_of_eq (a:=Value.none) (by first|rfl|(simp only[firstArgMember];rfl)) ?_);refine wpAny_newObj_type ?_ (by size_fits);simp only[raiseNew];refine qC (wpAny_handled ?_);(first|rw[show A.in1.handled=none from hh]|rw[hh]);refine qC (qD (wpAny_throw ?_));exact (hE _ _ (((Heap.SameBut.update ..).extBut.push _).push _) ⟨_,ba _ rfl,rfl⟩)
theorem QJ(hh:A.handled=none)(it t:qR)(hne:t≠it)(items:Array qQ):Draws prog w A it [it,t] items.size (λi v=>items[i]?=some v) (λi h=>h.IsTupleIter it t i/\h.IsTuple t items) where
 live:=λ_ _ ⟨⟨o,ho,_⟩,_⟩=>⟨o,ho⟩
 frame:=λ_ _ _ ⟨st,o,ho,r⟩ hk=>⟨st.at λo e=>hk it 1#4 o e,o,hk t 1#4 o ho,r⟩
 item:=λi s Q E hi st hQ=>Ha st.1 st.2 (x:=items[i]) (by simp[hi]) λh' hit' hs'=>hQ _ h' s.toks (by simp[hi]) ⟨hit',st.2.extBut hs'.extBut hne⟩ hs'
 done:=λs Q E st hE=>Es hh st.1 st.2 1#4 hE
open AutoSeq1 (wpAny_loadPart') in
theorem MF(l:qR)(items:Array qQ)(n:Nat)(dct:Option qR)(sl:Array (Option qQ)):
  Meets (Builtin.«enumerate.__new__» ⟨[.type "enumerate",.ref l],[]⟩) (λ_ R s=>s.heap.get? l=some {cls:=.type "tuple",dict:=dct,data:=.seq items n,slots:=sl} /\
   R (.ok (.ret (.ref (s.heap.push {cls:=.type "tuple_iterator",data:=.fields #[.ref l,.int 0 0]}).objs.size)))
    {s with heap:=(s.heap.push {cls:=.type "tuple_iterator",data:=.fields #[.ref l,.int 0 0]}).push {cls:=.type "enumerate",data:=.fields #[.none,.bool false,.ref s.heap.objs.size,rawInt 0,.none,.none]}}):=
 .of_wp λprog w A R s h=>by
  obtain⟨hp,g,d,tk,os⟩:=s;obtain⟨hl,h⟩:=h;have hsub:=sub_enumerate;have hL:Heap.IsTuple (Shared.heap ⟨hp,g,d,tk,os⟩) l items:=⟨_,hl,rfl,n,rfl⟩
  wp_walk using wpAny_loadPart' hl
  refine wpAny_stack_any λst=>qD ?_
  split
  ·rename_i c _ _ _ _ _
   cases (c==Value.type "enumerate")<;>(wp_walk using wpAny_loadPart' hl,wpAny_pyIter_tuple hL)<;>exact⟨_,rfl,h⟩
  ·(wp_walk using wpAny_loadPart' hl,wpAny_pyIter_tuple hL);exact⟨_,rfl,h⟩
theorem Nk{l:qR}(hL:s.heap.IsTuple l items)
  (h:∀h',IsEnum h' 1#5 s.heap.objs.size 0 .none->h'.IsTupleIter s.heap.objs.size l 0->h'.objs.size=s.heap.objs.size+2->(∀b o,s.heap.get? b=some o->h'.get? b=some o)->Q (.ref 1#5) {s with heap:=h'}):
  wpAny 0#7 A (call (.type "enumerate") [.ref l]) Q E s:=by
 rcases hL with⟨⟨c,dct,dt,sl⟩,hl,hc,n,hd⟩;replace hc:c=.type "tuple":=hc;replace hd:dt=.seq items n:=hd;subst hc hd;refine callType_new F.called_enumerate 0#8 (F.typeCall_enumerate_1 _) (F.newCall_enumerate_1 _) (λobj=>F.args_object_init_2 obj _) F.entry_enumerate_new (MF l items n dct sl) ⟨hl,?_⟩;have hz:(s.heap.push {cls:=.type "tuple_iterator",data:=.fields #[.ref l,.int 0 0]}).objs.size=s.heap.objs.size+1:=dM ..;show _/\_;rw[hz]
 have he:IsEnum ((s.heap.push {cls:=.type "tuple_iterator",data:=.fields #[.ref l,.int 0 0]}).push {cls:=.type "enumerate",data:=.fields #[.none,.bool false,.ref s.heap.objs.size,rawInt 0,.none,.none]}) 1#5 s.heap.objs.size 0 .none:=by have:=ba (s.heap.push {cls:=.type "tuple_iterator",data:=.fields #[.ref l,.int 0 0]}) (o:={cls:=.type "enumerate",data:=.fields #[.none,.bool false,.ref s.heap.objs.size,rawInt 0,.none,.none]}) rfl;rw[hz]at this;exact this
 exact⟨⟨_,he,rfl⟩,h _ he ⟨_,bK _ (ba _ rfl),rfl,rfl⟩ (by rw[dM,hz]) λb o x=>bK _ (bK _ x)⟩
theorem GX{e t:qR}{old:qQ}{Q:Option qQ->qS->Prop}(hh:A.handled=none)(he:IsEnum s.heap e it i old)(hit:s.heap.IsTupleIter it t i)(ht:s.heap.IsTuple t items)(hx:items[i]?=none)
  (hQ:∀h',Heap.ExtBut it s.heap h'->Q none {s with heap:=h'}):wpAny 0#7 A (pyNext (.ref e)) Q E s:=by
 have hT:s.TypeIs (.ref e) "enumerate":=⟨_,he,rfl⟩;unfold pyNext;refine qC (wpAny_attempt (wpAny_callSpecial?_slot (name:=Str.ofString "__next__") hT F.slot_enumerate_next (wpAny_call_entry F.slot_enumerate_next hT F.entry_enumerate_next ?_ (F.args_enumerate_next_1 _))))
 (show wpAny _ _ (field (.ref e) 2 >>= _) _ _ _);refine qC (wpAny_field he rfl (x:=.ref it) rfl ?_)
 refine qC (Es hh hit ht hx λh' x he' hx'=>?_);obtain⟨o,ho,hc⟩:=hx';exact qC (wpAny_isInstance (T:="StopIteration") (b:=true) ⟨o,ho,hc⟩ isSubtype_stop (qD (hQ _ he')))
end
noncomputable def QK(K:qV)(a:qR):It:=
 ⟨λi H=>∃xs x,Ah K H a xs/\xs[i]?=some x,λi H v H'=>∃p x,v=.ref p/\H p=none/\H'=Ad H p (.tup [.int i,x])/\∀xs,Ah K H a xs->xs[i]?=some x,λi H=>∃xs,Ah K H a xs/\xs.length<=i⟩
theorem Nl{P:qT}{w:qU}{K:qV}{elts:List Expr}{ctx}{tpos:Pos}(a e it:qR)(hne:e≠it)(hna:a≠it)(hea:e≠a):
  Kr P w K (.Tuple elts ctx tpos) (QK K a) [e,it] e (λi h=>(∃old,IsEnum h e it ((i:Nat):Int) old)/\h.IsTupleIter it a i) where
 mem:=by simp
 obj:=λi h st b hb=>by
  rcases st with⟨⟨old,q⟩,o,e1,c,d⟩;rcases br.mp hb with z|z
  ·rw[z];exact⟨_,q,λv y=>by cases y⟩
  ·rw[bV.mp z];exact⟨o,e1,λv y=>by rw[d]at y;cases y⟩
 keep:=λi h h' st k=>by obtain⟨⟨old,q⟩,li⟩:=st;exact⟨⟨old,k e 1#4 _ q⟩,li.at λo z=>k it 1#4 o z⟩
 item:=by
  intro X hP hw hK hc i ad s σ H E I hf st hg;subst hP hw hK;rcases hg with⟨xs,x,hq,hx⟩;rcases I.tuple hq with⟨its,rv,p,hz⟩;obtain⟨u,hu,ru⟩:=rv.get hx;obtain⟨⟨old,he⟩,li⟩:=st
  have hil:i<its.toArray.size:=by have:=(bJ.mp hu).1;simpa using this
  refine wpAny_pyNext_enum_itemD (QJ (A:=X.A.in1) (show X.A.in1.handled=none from I.ok.hd hc) it a hna its.toArray) he ⟨li,show s.heap.IsTuple a its.toArray from p⟩ hil hne (by simp[hne,hea]) λy h1 tk hy out li1 ht hsz k1=>?_
  have ey:y=u:=by
   have e1:its.toArray[i]?=some u:=by simpa using hu
   rw[e1]at hy;exact (Option.some.inj hy).symm
  subst ey;refine⟨_,rfl,wpAny_letOwnedTupleGo_enum out λh2 he2 sb=>?_⟩;have k2:∀b o,b∉[e,it]->s.heap.get? b=some o->h2.get? b=some o:=λb o hb z=>(sb.2 b λy=>hb (by simp[y])).trans (k1 b o (λy=>hb (by simp[y])) (λy=>hb (by simp[y])) z)
  have hpe:s.heap.objs.size≠e:=fG (bP he);have ht2:h2.get? s.heap.objs.size=some {cls:=.type "tuple",data:=.seq #[.int ((i:Nat):Int) tk,y]}:=(sb.2 _ hpe).trans ht;have hn:H s.heap.objs.size=none:=I.hok.fresh (bL _);refine⟨.ref s.heap.objs.size,Ad H s.heap.objs.size (.tup [.int ((i:Nat):Int),x]),I.turnedNew (h':=h2) (t':=tk+1) hf k2 (bL _) ⟨by show 2<=sizeLine;decide,[.int ((i:Nat):Int) tk,y],.cons ⟨_,rfl⟩ (.cons ru .nil),⟨_,ht2,rfl,_,rfl⟩⟩,rfl,⟨_,x,rfl,hn,rfl,λys hy=>by rw[I.tuple_inj hy hq];exact hx⟩,⟨⟨y,?_⟩,?_⟩,λb hb=>?_⟩
  ·have ec:(((i+1:Nat)):Int)=((i:Nat):Int)+1:=by push_cast;rfl
   rw[ec];exact he2
  ·exact li1.1.at λo z=>(sb.2 it (Ne.symm hne)).trans z
  ·have b0:=(hf b hb).1;rw[AK λz=>?_]
   ·exact b0
   ·obtain⟨o,z1,_⟩:=id li;rcases br.mp hb with y|y
    ·exact hpe (z.symm.trans y)
    ·exact qG (bP z1) (by rw[<-bV.mp y,z];exact bu _)
 done:=by intro X hP hw hK hc i ad s σ H E I hf st hg;subst hP hw hK;obtain⟨xs,hq,hx⟩:=hg;rcases I.tuple hq with⟨its,rv,p,hz⟩;obtain⟨⟨old,he⟩,li⟩:=st;rcases hf it 1#4 with⟨f0,f1,f2,f3,f4,f5⟩;have hl:=rv.length;exact GX (I.ok.hd hc) he li p (by simp;lia) λh' eb=>⟨rfl,I.turned (t':=s.toks) (λb o hb e=>eb b o hb e) f0 f1 f3 f4 f5⟩
 self:=λ_ _ _ _ _ st h=>by obtain⟨⟨old,he⟩,_⟩:=st;exact wpAny_pyIter_enum he h
section
variable{X:Cx}{elts:List Expr}{ctx}{tpos:Pos}
def WC(K:qV)(ta:TA):TI:=λσ H R=>ta σ H λvs H1=>∃a xs,vs=[.ref a]/\Ah K H1 a xs/\R (QK K a) H1
theorem F0{l:Expr}{p pos:Pos}(hg:Gl X "enumerate")(hm:X.mg "enumerate"=none)(ha:PA X [l] ta)(hs:starEach [l] X.env=[(false,eval l X.env)]:=by rfl):PI X (.Tuple elts ctx tpos) (.Call (.Name "enumerate" p) [l] [] pos) (WC X.K ta):=by
 intro ad s σ H R I h;refine Call_ (CL I hg hm boot_enumerate (bz (BN (ha pos ad s σ H _ I h) λus s1 z9=>?_) hs rfl));obtain⟨vs,H1,I1,r1,q1⟩:=z9;rcases q1 with⟨a,xs,e,hq,q⟩;subst e;cases r1 with
 |cons r rr =>
  cases rr;cases r;rcases I1.tuple hq with⟨its,rv,pl,hz⟩;have hal:a<s1.heap.objs.size:=by obtain⟨o,ho,_⟩:=id pl;exact bP ho
  refine Nk pl λh1 he li hsz k1=>?_;refine wpAny_pyIter_enum he ?_;have n1:H1 (s1.heap.objs.size+1)=none:=I1.hok.fresh (eg _);have n0:H1 s1.heap.objs.size=none:=I1.hok.fresh (bL _);refine⟨s1.heap.objs.size+1,[s1.heap.objs.size+1,s1.heap.objs.size],_,_,H1,rfl,I1.kept (t':=s1.toks) k1,Nl a _ _ (Nat.succ_ne_self _) (b9 hal) (fG (dE hal)),⟨⟨_,he⟩,li⟩,λb hb=>?_,q⟩;rcases br.mp hb with z|z
  ·rw[z];exact I1.fpOk (eg _) n1
  ·rw[bV.mp z];exact I1.fpOk (bL _) n0
theorem GY{K:qV}{g:TG}{tb:TS}(Pv:Nat->St->Hp->Prop)(h0:Pv 0 σ H)(hl:∀i σ H,i<=xs.length->Pv i σ H->Ah K H a xs)
  (hs:∀i x p σ H,xs[i]?=some x->Pv i σ H->H p=none->g (.ref p) σ (Ad H p (.tup [.int ((i:Nat):Int),x])) λσ2 H2=>tb {D with nx:=Pv (i+1),ct:=Pv (i+1),bk:=D.nx} σ2 H2) (hd:∀σ H,Pv xs.length σ H->D.nx σ H):
  ∃W:Nat->Nat->St->Hp->Prop,(∃m,W 0 m σ H)/\∀i m σ H,W i m σ H ->
   ((QK K a).stop i H/\D.nx σ H)\/((QK K a).go i H/\∃N:St->Hp->Prop,(∀σ' H',N σ' H'->∃m',m'<m/\W (i+1) m' σ' H')/\∀x H',(QK K a).yld i H x H'->g x σ H' λσ2 H2=>tb {D with nx:=N,ct:=N,bk:=D.nx} σ2 H2):=by
 refine⟨λi m σ H=>m=xs.length-i/\i<=xs.length/\Pv i σ H,⟨xs.length,by simp,Nat.zero_le _,h0⟩,?_⟩;rintro i m σ H ⟨rfl,hi,p⟩;have q:=hl i σ H hi p
 by_cases hlt:i<xs.length
 ·refine .inr ⟨⟨xs,xs[i],q,by simp[hlt]⟩,Pv (i+1),λσ' H' p'=>⟨xs.length-(i+1),by lia,rfl,hlt,p'⟩,λv H' y=>?_⟩;rcases y with⟨p2,x,e1,e2,e3,y⟩;subst e1 e3;exact hs i x p2 σ H (y xs q) p e2
 ·have e:i=xs.length:=by lia
  subst e;exact .inl ⟨⟨xs,q,bL _⟩,hd σ H p⟩
end
section
variable{X:Cx}
def YB(K:qV):R2:=λx y H Q=>∃d e,FP K H x d/\FP K H y e/\d.canLay0=true/\e.canLay0=true/\d.depth<=60/\Q (.bl (!PyData.eqv d e)) H
theorem WD(hu:X.A.units+64<cLine):Ft X (compareOp .NotEq) (YB X.K):=by intro ad s σ H x y v u Q I rx ry h;rcases h with⟨d,e,hd,he,c1,c2,dd,q⟩;obtain⟨as,r1⟩:=hd.reads I rx;obtain⟨bs,r2⟩:=he.reads I ry;have z:=SeqAt.rcNeAt_reads (A:=X.A) r1 r2 c1 c2 (by have:=Nat.min_le_left d.depth e.depth;lia);exact z X.prog X.w X.xe _ ⟨.bl _,H,I,rfl,q⟩
theorem O5(ns:qW):(PyData.tuple (ns.map PyData.int)).canLay0=true:=by simp only[PyData.canLay0,IY]
end
end L2
namespace RW
noncomputable def dr(g n:Int):Nat->Int
 |0=>n
 |i+1=>dr g n i/g
noncomputable def DN(g n:Int):Nat->qW
 |0=>[]
 |i+1=>DN g n i++[dr g n i%g]
theorem De(g n:Int):∀i,(DN g n i).length=i
 |0=>rfl
 |i+1=>by rw[DN,bN,De g n i];rfl
theorem Ag{g:Int}(hg:2<=g):∀m:Nat,0<g^m
 |0=>by rw[cF];decide
 |m+1=>by rw[cB];exact Int.mul_pos (Ag hg m) 0#1
theorem Rn{g:Int}(hg:2<=g)(n:Int):∀i:Nat,dr g n i=n/g^i
 |0=>by rw[dr,cF,Int.ediv_one]
 |i+1=>by rw[dr,Rn hg n i,cB,Int.ediv_ediv_of_nonneg (dG (Ag hg i))]
theorem O6{g n:Int}(hg:2<=g)(hn:0<=n){m:Nat}(h:n<g^m):dr g n m=0:=by rw[Rn hg];exact fC hn h
theorem WE{g n:Int}(hg:2<=g){m:Nat}(h:g^m<=n):0<dr g n m:=by
 rw[Rn hg];have h1:1*g^m<=n:=by rw[dR];exact h
 have h2:=(Int.le_ediv_iff_mul_le (Ag hg m)).mpr h1;lia
end RW
namespace L2
open PySem
variable{H H' H1:Hp}{a:qR}{i:Nat}{lo:Int}{o:HO}{xs:List V}{α:Type}
theorem Bx{g:Int}(hg:2<=g){m n:Nat}(h:m<=n):g^m<=g^n:=by obtain⟨k,rfl⟩:=Nat.exists_eq_add_of_le h;rw[Int.pow_add];have h1:=RW.Ag hg m;have h2:=RW.Ag hg k;have h3:=dU (show 1<=g^k by lia) (dG h1);lia
theorem Ro{g:Int}(hg:2<=g){m n:Nat}(h:m<n):g^m<g^n:=by have h1:=Bx hg (show m+1<=n from h);rw[cB]at h1;have h2:=RW.Ag hg m;have h3:=dU hg (dG h2);lia
theorem EI{g:Int}(hg:2<=g){m n:Nat}(h:g^m=g^n):m=n:=by
 rcases Nat.lt_trichotomy m n with z|z|z
 ·have:=Ro hg z;lia
 ·exact z
 ·have:=Ro hg z;lia
theorem KM{g:Int}(hg:2<=g):∀{rs:qW},(∀n∈rs,0<=n/\n<g)->0<=low g rs/\low g rs<g^rs.length
 |[],_=>⟨dz _,by show (0:Int)<g^0;rw[cF];decide⟩
 |x::r,h=>by
  obtain⟨h1,h2⟩:=KM hg (rs:=r) λn hn=>h n (bi _ hn)
  obtain⟨h3,h4⟩:=h x bo;have h5:=Int.mul_nonneg (show 0<=g by lia) h1;have h6:=dU (show low g r+1<=g^r.length by lia) (show 0<=g by lia);rw[Int.mul_add,fH]at h6;refine⟨by show 0<=x+g*low g r;lia,?_⟩;show x+g*low g r<g^(r.length+1);rw[cB,dh (g^r.length)];lia
theorem BR{g:Int}(hg:2<=g){ns:qW}(h:∀n∈ns,0<=n/\n<g):0<=Ao g ns/\Ao g ns<g^ns.length:=by rw[O1,<-dq];exact KM hg λn hn=>h n (List.mem_reverse.mp hn)
theorem O7{l b:qR}{zs:List V}{Q:VK}(h1:H l=some (.lst xs))(h2:H b=some (.lst zs))(hz:xs.length+zs.length<=1000)(q:∀p H',AH H H'->H p=none->H' p=some (.lst (xs++zs))->Q (.ref p) H'):Xt (.ref l) (.ref b) H Q:=
 ⟨l,b,xs,zs,rfl,rfl,h1,h2,RZ hz,λp hp=>q p _ (AH.new hp _) hp AE⟩
theorem GZ{K:qV}{lo hi:Option Int}{Q:VK}(h:Ae K H a xs)(q:∀p H',AH H H'->H p=none->H' p=some (.lst (IR xs lo hi))->Q (.ref p) H'):Xr K (.ref a) lo hi H Q:=
 ⟨a,xs,rfl,h,λp hp=>q p _ (AH.new hp _) hp AE⟩
theorem K7{l:qR}{x:V}{k:Int}{Q:VK}(h:H l=some (.lst [x]))(k0:0<=k)(k1:k<=1000)(q:∀p H',AH H H'->H p=none->H' p=some (.lst (List.replicate k.toNat x))->Q (.ref p) H'):Xu (.ref l) (.int k) H Q:=
 ⟨l,k,[x],rfl,rfl,h,by lia,by lia,by rw[cP,Nat.one_mul];exact RZ 0#1,λp hp=>q p _ (AH.new hp _) hp (by rw[AE,Rg])⟩
theorem Hi{k:Nat}:IR xs none (some ((k:Nat):Int))=xs.take k:=by
 have e:HT.KH xs.length xs.length (some ((k:Nat):Int))=min k xs.length:=by show (if ((k:Nat):Int)<0 then (((k:Nat):Int)+(xs.length:Int)).toNat else min ((k:Nat):Int).toNat xs.length)=_;rw[qE 0#1,bM]
 unfold IR;rw[e];show (xs.drop 0).take (min k xs.length-0)=_;rw[dj,fi]
 by_cases z:k<=xs.length
 ·rw[eS z]
 ·rw[Nat.min_eq_right 0#1,cT,cm 0#1]
theorem QL{k:Nat}:IR xs (some ((k:Nat):Int)) none=xs.drop k:=by
 have e:HT.KH xs.length 0 (some ((k:Nat):Int))=min k xs.length:=by show (if ((k:Nat):Int)<0 then (((k:Nat):Int)+(xs.length:Int)).toNat else min ((k:Nat):Int).toNat xs.length)=_;rw[qE 0#1,bM]
 unfold IR;rw[e];show (xs.drop (min k xs.length)).take (xs.length-min k xs.length)=_;rw[cm (by rw[bj];exact bL _)]
 by_cases z:k<=xs.length
 ·rw[eS z]
 ·rw[Nat.min_eq_right 0#1,List.drop_length,List.drop_of_length_le 0#1]
theorem Dy{ns:qW}{k:Nat}(h:k<ns.length):Lm 1#3 ((k:Nat):Int)=some (.int (ns.getD k 0)):=by refine Cc ?_;rw[bO,bI h,bH,bI h];rfl
def Au(H:Hp)(r:qR)(g lo:Int)(g6:qW):Prop:=∃tb,H r=some (.tup [.int g,.int lo,.ref tb])/\H tb=some (.tup (g6.map V.int))
variable{g6:qW}
theorem Au.same{r:qR}{g:Int}(e:AH H H')(h:Au H r g lo g6):Au H' r g lo g6:=by obtain⟨tb,h1,h2⟩:=h;exact⟨tb,e _ _ h1,e _ _ h2⟩
inductive Df(vs:List V)(H:Hp)(Q:VK)(z3_:XK):Prop
 |m (g n:Int):vs=[.int g,.int n]->2<=g->g<=9->(∀m:Nat,n=g^m->Q (.int ((m:Nat):Int)) H)->((∀m:Nat,n≠g^m)->Q (.int 0) H)->Df vs H Q z3_
inductive Bm(vs:List V)(H:Hp)(Q:VK)(z3_:XK):Prop
 |m (r:qR) (g lo:Int) (g6:qW) (m:Nat):vs=[.ref r]->2<=g->g<=9->Au H r g lo g6->(g6.length:Int)=g^m->Q (.int ((m:Nat):Int)) H->Bm vs H Q z3_
noncomputable def Et(g:Int)(m:Nat)(xs:List V):Option Nat:=match CU g (xs.take m) with
 |some i=>some i
 |none=>if xs.length=m then none else some (min xs.length m)
theorem MG{g:Int}{m:Nat}(h:Et g m xs=none):xs.length=m/\CU g xs=none:=by
 unfold Et at h;cases e:CU g (xs.take m) with
 |some i=>rw[e]at h;cases h
 |none =>
  rw[e]at h
  by_cases z:xs.length=m
  ·refine⟨z,?_⟩;rw[<-z,cT]at e;exact e
  ·rw[qE z]at h;cases h
theorem HI{g:Int}{ns:qW}(h:∀n∈ns,0<=n/\n<g):Et g ns.length 1#3=none:=by unfold Et;have e:(ns.map V.int).take ns.length=ns.map V.int:=cm (by rw[bG];exact bL _);rw[e,EG h,bG];exact qF rfl
theorem K8{n:Nat}(h:i<n):Oq n ((i:Nat):Int)=some i:=by unfold Oq;rw[qF 0#1,qF 0#1,bM]
theorem Au.dat{K:qV}{r:qR}{g:Int}(h:Au H r g lo g6):FP K H (.ref r) (.tuple [.int g,.int lo,.tuple (g6.map PyData.int)]):=by obtain⟨tb,h1,h2⟩:=h;exact .tup (Ah.of h1) (.cons (.int g) (.cons (.int lo) (.cons (.tup (Ah.of h2) (IX g6)) .nil)))
theorem Eu(g lo:Int)(g6:qW):(PyData.tuple [.int g,.int lo,.tuple (g6.map PyData.int)]).canLay0=true:=by simp only[PyData.canLay0,PyData.canLayAll0,IY,Bool.and_self,Bool.true_and]
theorem FZ:∀ns:qW,PyData.depthAll (ns.map PyData.int)=0
 |[]=>by simp only[List.map_nil,PyData.depthAll]
 |n::ns=>by simp only[List.map_cons,PyData.depthAll,PyData.depth,FZ ns,Nat.max_self]
theorem Ig(g lo:Int)(g6:qW):(PyData.tuple [.int g,.int lo,.tuple (g6.map PyData.int)]).depth<=60:=by
 simp only[PyData.depth,PyData.depthAll,FZ]
 decide
theorem MH(g lo:Int)(g6:qW):PyData.eqv (.tuple [.int g,.int lo,.tuple (g6.map PyData.int)]) (.tuple [.int g,.int lo,.tuple (g6.map PyData.int)])=true:=by have h:=SeqAt.eqvAll_refl [PyData.int g,.int lo,.tuple (g6.map PyData.int)] (Eu g lo g6);exact h
def Fa(H H':Hp)(r:qR)(ns:qW):Prop:=AH H H'/\H r=none/\H' r=some (.lst 1#3)
inductive Ga(vs:List V)(H:Hp)(Q:VK)(z3_:XK):Prop
 |m (g m:Int):vs=[.int g,.int m]->2<=g->g<=9->1<=m->(g^m.toNat<=256->Q (.int (g^m.toNat)) H)->(256<g^m.toNat->∀r:Int,256<r->Q (.int r) H)->Ga vs H Q z3_
inductive Hj(vs:List V)(H:Hp)(Q:VK)(z3_:XK):Prop
 |m (g m:Int):vs=[.int g,.int m]->2<=g->g<=9->0<=m->m<=256->Q (.int (g^m.toNat)) H->Hj vs H Q z3_
theorem O8(g n:Int):∀i:Nat,RW.dr g n (i+1)=RW.dr g (n/g) i
 |0=>rfl
 |i+1=>by rw[RW.dr,O8 g n i];rfl
theorem KN(g n:Int):∀i:Nat,RW.DN g n (i+1)=n%g::RW.DN g (n/g) i
 |0=>rfl
 |i+1=>by rw[RW.DN,KN g n i,O8];rfl
theorem MI{g:Int}(hg:2<=g):∀{l:qW},(∀n∈l,0<=n/\n<g)->RW.DN g (low g l) l.length=l
 |[],_=>rfl
 |x::r,h=>by obtain⟨h0,h1⟩:=h x bo;rw[cW,KN,low,d6,cI h0 h1,Int.add_mul_ediv_left _ _ (show g≠0 by lia),fC h0 h1,b7,MI hg λn hn=>h n (bi _ hn)]
theorem O9{g:Int}(hg:2<=g)(n:Int):∀i:Nat,∀x∈RW.DN g n i,0<=x/\x<g
 |0,x,h=>qG h (by simp[RW.DN])
 |i+1,x,h=>by
  rw[RW.DN]at h;rcases bQ.mp h with z|z
  ·exact O9 hg n i x z
  ·rw[bV.mp z];exact⟨eQ _ 0#1,d9 _ 0#1⟩
theorem HJ(g n:Int):∀i:Nat,low g (RW.DN g n i)+g^i*RW.dr g n i=n
 |0=>by rw[RW.DN,low,RW.dr,cF];lia
 |i+1=>by have h:=HJ g n i;have e:=Int.emod_add_mul_ediv (RW.dr g n i) g;rw[RW.DN,L9,RW.De,RW.dr,cB,Int.mul_assoc,dh (RW.dr g n i%g),gf,<-Int.mul_add,e];exact h
theorem Rp{g n:Int}(hg:2<=g)(hn:0<=n)(h:n<g^i):low g (RW.DN g n i)=n:=by have e:=HJ g n i;rw[RW.O6 hg hn h,fM,cr]at e;exact e
theorem AH.into{p:qR}(e:AH H H1)(hp:H p=none):AH H (Ad H1 p o):=λb u q=>by rw[AK (BQ q hp)];exact e b u q
theorem K9(g:Int):∀(n:Int) (l:qW),Nf g n l=n*g^l.length+Ao g l
 |n,[]=>by show n=n*g^0+0;rw[cF];lia
 |n,x::r=>by show Nf g (n*g+x) r=n*g^(r.length+1)+Nf g (0*g+x) r;rw[K9 g (n*g+x) r,K9 g (0*g+x) r,fN,b7,Int.add_mul,cB,Int.mul_assoc,dh g,gf]
theorem CO(g:Int)(a b:qW):Ao g (a++b)=Ao g a*g^b.length+Ao g b:=by show (a++b).foldl (λm x=>m*g+x) 0=_;rw[List.foldl_append];exact K9 g (Nf g 0 a) b
theorem FG{ns:qW}{k m:Nat}(h:k+m<=ns.length):((ns.drop k).take m).length=m:=by rw[bq,bj];lia
theorem UG{g:Int}(hg:2<=g){ns:qW}(hb:∀n∈ns,0<=n/\n<g){k m:Nat}(h:k+m<=ns.length):Ao g (ns.take (k+m))%g^m=Ao g ((ns.drop k).take m):=by
 have b:=BR hg (ns:=(ns.drop k).take m) λn hn=>hb n (bv (cO hn))
 rw[FG h]at b;rw[List.take_add,CO,FG h,di,dh,d6,cI b.1 b.2]
theorem Rq(N g s G:Int):((N%G)*g+s)%G=(N*g+s)%G:=by rw[gN,Int.mul_emod,Int.emod_emod,<-Int.mul_emod,<-gN]
theorem Bf{g:Int}(hg:2<=g)(hb:∀n∈g6,0<=n/\n<g)(k:Nat):0<=g6.getD k 0/\g6.getD k 0<g:=by
 rw[bH];cases e:g6[k]? with
 |none=>exact⟨dz _,by show (0:Int)<g;lia⟩
 |some v=>exact hb v (bT e)
noncomputable def MJ(g:Int)(g6:qW)(m:Nat)(ns:qW)(k:Nat):Int:=g6.getD (Ao g ((ns.drop k).take m)).toNat 0
noncomputable def Aw(g:Int)(g6:qW)(m:Nat)(ns:qW):qW:=(List.range (ns.length+1-m)).map (MJ g g6 m ns)
theorem BD(g:Int)(g6:qW)(m:Nat)(ns:qW):(Aw g g6 m ns).length=ns.length+1-m:=by unfold Aw;rw[List.length_map,List.length_range]
theorem F1{g:Int}(hg:2<=g)(hb:∀n∈g6,0<=n/\n<g)(m:Nat)(ns:qW):∀n∈Aw g g6 m ns,0<=n/\n<g:=λn hn=>by unfold Aw at hn;obtain⟨k,_,rfl⟩:=bg.mp hn;exact Bf hg hb _
theorem Ay(f:Nat->α)(i:Nat):(List.range (i+1)).map f=(List.range i).map f++[f i]:=by rw[cH,bS];rfl
theorem Nm{g:Int}(hg:2<=g){ns:qW}(hb:∀n∈ns,0<=n/\n<g){m:Nat}(hl:(g6.length:Int)=g^m){k:Nat}(h:k+m<=ns.length):0<=Ao g ((ns.drop k).take m)/\(Ao g ((ns.drop k).take m)).toNat<g6.length:=by
 have b:=BR hg (ns:=(ns.drop k).take m) λn hn=>hb n (bv (cO hn))
 rw[FG h]at b;exact⟨b.1,by lia⟩
variable{z:Int}
theorem B6{ns:qW}(h0:0<=z)(h:z.toNat<ns.length):Lm 1#3 z=some (.int (ns.getD z.toNat 0)):=by have e:=Dy (ns:=ns) h;rw[show ((z.toNat:Nat):Int)=z by lia]at e;exact e
inductive LA(K:qV)(vs:List V)(H:Hp)(Q:VK)(z3_:XK):Prop
 |m (r a:qR) (g lo:Int) (g6:qW) (m:Nat) (ns:qW):vs=[.ref r,.ref a]->2<=g->g<=9->Au H r g lo g6->(g6.length:Int)=g^m->1<=m->Ae K H a 1#3->(∀n∈ns,0<=n/\n<g)->ns.length<=900->(∀p H',Fa H H' p (Aw g g6 m ns)->Q (.ref p) H')->LA K vs H Q z3_
noncomputable def A7(ring:qW)(z:Int):Int:=ring.getD (z%(ring.length:Int)).toNat 0
noncomputable def Bn(ring:qW)(m:Nat)(z:Int):qW:=(List.range m).map λj:Nat=>A7 ring (z+(j:Int))
noncomputable def A1(g lo:Int)(g6:qW)(m:Nat)(ring:qW):qW:=(List.range ring.length).map λi:Nat=>g6.getD (Ao g (Bn ring m ((i:Int)+lo))).toNat 0
theorem Ci(g lo:Int)(g6:qW)(m:Nat)(ring:qW):(A1 g lo g6 m ring).length=ring.length:=by unfold A1;rw[List.length_map,List.length_range]
theorem MK{g:Int}(hg:2<=g)(lo:Int)(hb:∀n∈g6,0<=n/\n<g)(m:Nat)(ring:qW):∀n∈A1 g lo g6 m ring,0<=n/\n<g:=λn hn=>by unfold A1 at hn;obtain⟨k,_,rfl⟩:=bg.mp hn;exact Bf hg hb _
theorem Rr{g:Int}(hg:2<=g){ring:qW}(hb:∀n∈ring,0<=n/\n<g)(m:Nat)(z:Int):∀n∈Bn ring m z,0<=n/\n<g:=λn hn=>by unfold Bn at hn;obtain⟨k,_,rfl⟩:=bg.mp hn;exact Bf hg hb _
theorem KO(ring:qW)(m:Nat)(z:Int):(Bn ring m z).length=m:=by unfold Bn;rw[List.length_map,List.length_range]
theorem Nn(ring:qW)(z y:Int):A7 ring (z%(ring.length:Int)+y)=A7 ring (z+y):=by unfold A7;rw[Int.emod_add_emod]
noncomputable def F2(lo:Int)(m:Nat)(ring:qW):qW:=(List.range (ring.length+m-1)).map λk:Nat=>A7 ring (lo%(ring.length:Int)+(k:Int))
theorem Rs{g:Int}(hg:2<=g){ring:qW}(hb:∀n∈ring,0<=n/\n<g)(lo:Int)(m:Nat):∀n∈F2 lo m ring,0<=n/\n<g:=λn hn=>by unfold F2 at hn;obtain⟨k,_,rfl⟩:=bg.mp hn;exact Bf hg hb _
theorem Eb(n k m:Nat)(h:k+m<=n):((List.range n).drop k).take m=(List.range m).map (k+·):=by
 apply List.ext_getElem?;intro i;rw[fu,bO]
 by_cases hi:i<m
 ·rw[qF hi,eB,d4 0#1,d4 hi];rfl
 ·rw[qE hi,fJ (by rw[bn];lia)];rfl
theorem QM(lo:Int){m:Nat}(ring:qW)(h:i<ring.length)(hm:1<=m):((F2 lo m ring).drop i).take m=Bn ring m ((i:Int)+lo):=by
 unfold F2 Bn;rw[<-List.map_drop,<-ez,Eb _ _ _ 0#1,c9];refine bU λj _=>?_;show A7 ring (lo%(ring.length:Int)+((i+j:Nat):Int))=_;rw[Nn]
 congr 1
 lia
theorem QN(g lo:Int)(g6:qW){m:Nat}(ring:qW)(hm:1<=m):Aw g g6 m (F2 lo m ring)=A1 g lo g6 m ring:=by
 unfold Aw A1
 have e:(F2 lo m ring).length+1-m=ring.length:=by unfold F2;rw[List.length_map,List.length_range];lia
 rw[e];refine bU λi hi=>?_;have:=bh.mp hi;unfold MJ;rw[QM lo ring this hm]
noncomputable def Bs(g lo:Int)(g6:qW)(m:Nat)(ring:qW):Nat->qW
 |0=>ring
 |n+1=>A1 g lo g6 m (Bs g lo g6 m ring n)
theorem Bc(g lo:Int)(g6:qW)(m:Nat)(ring:qW):∀n,(Bs g lo g6 m ring n).length=ring.length
 |0=>rfl
 |n+1=>by rw[Bs,Ci,Bc g lo g6 m ring n]
theorem DO{g:Int}(hg:2<=g)(lo:Int)(hb:∀n∈g6,0<=n/\n<g)(m:Nat){ring:qW}(hr:∀n∈ring,0<=n/\n<g):∀k,∀n∈Bs g lo g6 m ring k,0<=n/\n<g
 |0=>hr
 |k+1=>MK hg lo hb m _
inductive EJ(K:qV)(vs:List V)(H:Hp)(Q:VK)(z3_:XK):Prop
 |m (r a:qR) (g lo:Int) (g6:qW) (m:Nat) (ns:qW):vs=[.ref r,.ref a]->2<=g->g<=9->Au H r g lo g6->(g6.length:Int)=g^m->1<=m->m<=8->Ae K H a 1#3->(∀n∈ns,0<=n/\n<g)->1<=ns.length->ns.length<=800->(∀p H',Fa H H' p (A1 g lo g6 m ns)->Q (.ref p) H')->EJ K vs H Q z3_
inductive No(K:qV)(vs:List V)(H:Hp)(Q:VK)(z3_:XK):Prop
 |m (r a:qR) (g lo:Int) (g6:qW) (m:Nat) (ns:qW):vs=[.ref r,.int ((m:Nat):Int),.ref a]->2<=g->g<=9->Au H r g lo g6->(g6.length:Int)=g^m->m<=8->Ae K H a 1#3->(∀n∈ns,0<=n/\n<g)->1<=ns.length->ns.length<=300->(∀p H',Fa H H' p (A1 g lo g6 m ns)->Q (.ref p) H')->No K vs H Q z3_
noncomputable def Ai(g n:Int)(m:Nat):qW:=(RW.DN g n m).reverse
theorem BE(g n:Int)(m:Nat):(Ai g n m).length=m:=by unfold Ai;rw[List.length_reverse,RW.De]
theorem By{g:Int}(hg:2<=g)(n:Int)(m:Nat):∀x∈Ai g n m,0<=x/\x<g:=λx hx=>O9 hg n m x (List.mem_reverse.mp hx)
theorem Cj{g n:Int}(hg:2<=g)(h0:0<=n){m:Nat}(h:n<g^m):Ao g (Ai g n m)=n:=by unfold Ai;rw[K3,Rp hg h0 h]
theorem B8{g:Int}(hg:2<=g){ws:qW}(hb:∀x∈ws,0<=x/\x<g):Ai g (Ao g ws) ws.length=ws:=by
 unfold Ai;have e:=MI hg (l:=ws.reverse) λn hn=>hb n (List.mem_reverse.mp hn)
 rw[dq]at e;rw[O1,e,List.reverse_reverse]
theorem AS{f:Nat->Int}{n k:Nat}(h:k<n):((List.range n).map f).getD k 0=f k:=by rw[bH,bO,d4 h];rfl
theorem AU{a b:qW}(hl:a.length=b.length)(h:∀k,k<a.length->a.getD k 0=b.getD k 0):a=b:=by apply List.ext_getElem hl;intro i h1 h2;have:=h i h1;rw[bH,bH,bI h1,bI h2]at this;exact this
theorem Hk{n:Nat}(h:1<=n):(z%(n:Int)).toNat<n/\(((z%(n:Int)).toNat:Nat):Int)=z%(n:Int):=by have h1:=eQ z (show (n:Int)≠0 by lia);have h2:=d9 z (show 0<(n:Int) by lia);exact⟨by lia,by lia⟩
theorem C7{ring:qW}{y:Int}(h:y%(ring.length:Int)=z%(ring.length:Int)):A7 ring y=A7 ring z:=by unfold A7;rw[h]
theorem Ih{f:Nat->Int}{n:Nat}(h:1<=n)(z:Int):A7 ((List.range n).map f) z=f (z%(n:Int)).toNat:=by unfold A7;rw[bG,bn,AS (Hk h).1]
theorem ML{ring:qW}{m:Nat}{y:Int}(h:y%(ring.length:Int)=z%(ring.length:Int)):Bn ring m y=Bn ring m z:=by
 unfold Bn;refine bU λj _=>C7 ?_
 rw[gN,h,<-gN]
theorem LB{g:Int}{m:Nat}{ring:qW}(h:1<=ring.length)(z:Int):A7 (A1 g lo g6 m ring) z=g6.getD (Ao g (Bn ring m (z+lo))).toNat 0:=by
 unfold A1;rw[Ih h,(Hk h).2]
 congr 3
 apply ML;rw[gN,Int.emod_emod,<-gN]
inductive Hl(vs:List V)(H:Hp)(Q:VK)(z3_:XK):Prop
 |m (n g m:Int):vs=[.int n,.int g,.int m]->2<=g->g<=9->0<=m->m<=100->(∀p H',Fa H H' p (Ai g n m.toNat)->Q (.ref p) H')->Hl vs H Q z3_
noncomputable def BW(g:Int)(g6:qW)(w:Int):Bool:=(List.range g6.length).any λk:Nat=>!decide (g6.getD k 0=g6.getD ((k:Int)-(k:Int)/w%g*w).toNat 0)
noncomputable def Bo(g lo:Int)(g6:qW)(m:Nat):qW:=((List.range m).filter λj=>BW g g6 (g^(m-1-j))).map λj:Nat=>lo+(j:Int)
inductive Ii(vs:List V)(H:Hp)(Q:VK)(z3_:XK):Prop
 |m (r:qR) (g lo:Int) (g6:qW) (w:Int):vs=[.ref r,.int w]->2<=g->g<=9->Au H r g lo g6->0<w->w<=1000->g6.length<=256->(∀H',AH H H'->Q (.bl (BW g g6 w)) H')->Ii vs H Q z3_
inductive EK(vs:List V)(H:Hp)(Q:VK)(z3_:XK):Prop
 |m (r:qR) (g lo:Int) (g6:qW) (m:Nat):vs=[.ref r]->2<=g->g<=9->Au H r g lo g6->(g6.length:Int)=g^m->1<=m->m<=8->g^m<=256->(∀p H',Fa H H' p (Bo g lo g6 m)->Q (.ref p) H')->EK vs H Q z3_
theorem WF{k w g:Int}(hk:0<=k)(hw:0<w)(hg:2<=g):0<=k-k/w%g*w/\k-k/w%g*w<=k:=by
 have h1:=eQ (k/w) (show g≠0 by lia);have h2:=Int.ediv_nonneg hk (dG hw)
 have h3:k/w%g<=k/w:=by
  by_cases z:k/w<g
  ·rw[cI h2 z];lia
  ·have:=d9 (k/w) (show 0<g by lia);lia
 have h4:=Int.mul_le_mul_of_nonneg_right h3 (dG hw);have h5:=Int.mul_nonneg h1 (dG hw);have h6:=Int.ediv_mul_le k (show w≠0 by lia);exact⟨by lia,by lia⟩
end L2
namespace L2
variable{i j:Nat}{lo z:Int}{g6:qW}
theorem LC(g x:Int):Ao g [x]=x:=by show 0*g+x=x;rw[fN,b7]
theorem Gb(g:Int)(a:qW)(x:Int)(b:qW):Ao g (a++x::b)=(Ao g a*g+x)*g^b.length+Ao g b:=by rw[show a++x::b=(a++[x])++b by rw[cN];rfl,CO,DJ]
theorem QO{g:Int}(hg:2<=g){a b:qW}{x:Int}(hb:∀n∈b,0<=n/\n<g)(hx:0<=x/\x<g):Ao g (a++x::b)/g^b.length%g=x:=by have b1:=BR hg hb;have gp:=RW.Ag hg b.length;rw[Gb,di,dh,Int.add_mul_ediv_left _ _ 0#1,fC b1.1 b1.2,b7,di,dh,d6,cI hx.1 hx.2]
theorem MM{w:qW}(h:j<w.length):w=w.take j++w.getD j 0::w.drop (j+1):=by rw[bH,bI h];show w=w.take j++w[j]::w.drop (j+1);rw[<-cj h,cq]
theorem QP{w:qW}(h:j<w.length)(v:Int):w.set j v=w.take j++v::w.drop (j+1):=List.set_eq_take_append_cons_drop▸qF h
theorem EL{g:Int}(hg:2<=g){w:qW}(hb:∀n∈w,0<=n/\n<g)(h:j<w.length):Ao g w/g^(w.length-1-j)%g=w.getD j 0:=by
 have hl:(w.drop (j+1)).length=w.length-1-j:=by rw[bj];lia
 have e:=QO hg (a:=w.take j) (b:=w.drop (j+1)) (x:=w.getD j 0) (λn hn=>hb n (bv hn)) (Bf hg hb j);rw[<-MM h,hl]at e;exact e
theorem Ij{g:Int}(hg:2<=g){w:qW}(hb:∀n∈w,0<=n/\n<g)(h:j<w.length):Ao g w-Ao g w/g^(w.length-1-j)%g*g^(w.length-1-j)=Ao g (w.set j 0):=by
 rw[EL hg hb h,QP h];have hl:(w.drop (j+1)).length=w.length-1-j:=by rw[bj];lia
 have e:=Gb g (w.take j) (w.getD j 0) (w.drop (j+1));rw[<-MM h]at e;rw[e,Gb,hl,Int.add_mul,cr];lia
theorem Np{g:Int}{w:Int}(h:BW g g6 w=false){k:Nat}(hk:k<g6.length):g6.getD k 0=g6.getD ((k:Int)-(k:Int)/w%g*w).toNat 0:=by unfold BW at h;rw[List.any_eq_false]at h;have:=h k (bh.mpr hk);simpa using this
theorem Nq{g:Int}(hg:2<=g){m:Nat}(hl:(g6.length:Int)=g^m){w:qW}(hb:∀n∈w,0<=n/\n<g)(hw:w.length=m)(hj:j<m)(hc:BW g g6 (g^(m-1-j))=false):g6.getD (Ao g w).toNat 0=g6.getD (Ao g (w.set j 0)).toNat 0:=by have b:=BR hg hb;rw[hw]at b;have e:=Np hc (k:=(Ao g w).toNat) 0#1;have n0:=Ij hg hb (j:=j) 0#1;rw[hw]at n0;rw[show (((Ao g w).toNat:Nat):Int)=Ao g w by lia,n0]at e;exact e
noncomputable def zk(keep:Nat->Bool)(w:qW)(k:Nat):qW:=(List.range w.length).map λj=>if j<k/\keep j=false then 0 else w.getD j 0
theorem Ck(keep:Nat->Bool)(w:qW)(k:Nat):(zk keep w k).length=w.length:=by unfold zk;rw[List.length_map,List.length_range]
theorem Fb(keep:Nat->Bool)(w:qW)(k:Nat)(h:j<w.length):(zk keep w k).getD j 0=if j<k/\keep j=false then 0 else w.getD j 0:=by unfold zk;exact AS h
theorem UH(keep:Nat->Bool)(w:qW):zk keep w 0=w:=by refine AU (Ck keep w 0) λj hj=>?_;rw[Ck]at hj;rw[Fb keep w 0 hj,qE 0#1]
theorem YC{g:Int}(hg:2<=g){keep:Nat->Bool}{w:qW}(hb:∀n∈w,0<=n/\n<g)(k:Nat):∀n∈zk keep w k,0<=n/\n<g:=λn hn=>by
 unfold zk at hn;obtain⟨j,_,e⟩:=bg.mp hn;subst e;split
 ·exact⟨dz _,by lia⟩
 ·exact Bf hg hb _
theorem F3{w:qW}{v:Int}(h:i<w.length):(w.set i v).getD j 0=if i=j then v else w.getD j 0:=by
 rw[bH,List.getElem?_set]
 by_cases e:i=j
 ·rw[qF e,qF e];subst e;rw[qF h];rfl
 ·rw[qE e,qE e,bH]
theorem UI(keep:Nat->Bool)(w:qW){k:Nat}(hk:k<w.length):zk keep w (k+1)=if keep k=false then (zk keep w k).set k 0 else zk keep w k:=by
 by_cases e:keep k=false
 ·rw[qF e];refine AU (by rw[eP,Ck,Ck]) λj hj=>?_;rw[Ck]at hj;rw[Fb keep w _ hj,F3 (by rw[Ck];exact hk),Fb keep w _ hj]
  by_cases z:k=j
  ·subst z;rw[qF ⟨by lia,e⟩,qF rfl]
  ·rw[qE z]
   by_cases y:j<k/\keep j=false
   ·rw[qF y,qF ⟨by lia,y.2⟩]
   ·rw[qE y,qE (λx=>y ⟨by lia,x.2⟩)]
 ·rw[qE e];refine AU (by rw[Ck,Ck]) λj hj=>?_;rw[Ck]at hj;rw[Fb keep w _ hj,Fb keep w _ hj]
  by_cases y:j<k/\keep j=false
  ·rw[qF y,qF ⟨by lia,y.2⟩]
  ·rw[qE y,qE (λx=>y ⟨fD 0#1 (λz=>e (z▸x.2)),x.2⟩)]
theorem Hm{g:Int}(hg:2<=g){m:Nat}(hl:(g6.length:Int)=g^m){keep:Nat->Bool}(hc:∀j,j<m->keep j=false->BW g g6 (g^(m-1-j))=false){w:qW}(hb:∀n∈w,0<=n/\n<g)(hw:w.length=m):∀k,k<=m->g6.getD (Ao g (zk keep w k)).toNat 0=g6.getD (Ao g w).toNat 0
 |0,_=>by rw[UH]
 |k+1,h=>by
  rw[UI keep w 0#1]
  by_cases e:keep k=false
  ·rw[qF e,<-Nq hg hl (YC hg hb k) (by rw[Ck,hw]) 0#1 (hc k 0#1 e)];exact Hm hg hl hc hb hw k 0#1
  ·rw[qE e];exact Hm hg hl hc hb hw k 0#1
theorem Nr{g:Int}(hg:2<=g){m:Nat}(hl:(g6.length:Int)=g^m){v w:qW}(hv:∀n∈v,0<=n/\n<g)(hw:∀n∈w,0<=n/\n<g)(lv:v.length=m)(lw:w.length=m)
  (h:∀j,j<m->BW g g6 (g^(m-1-j))=true->v.getD j 0=w.getD j 0):g6.getD (Ao g v).toNat 0=g6.getD (Ao g w).toNat 0:=by
 have key:∀j,j<m->(λj=>BW g g6 (g^(m-1-j))) j=false->BW g g6 (g^(m-1-j))=false:=λj _ e=>e
 rw[<-Hm hg hl key hv lv m (bL _),<-Hm hg hl key hw lw m (bL _)]
 congr 3
 refine AU (by rw[Ck,Ck,lv,lw]) λj hj=>?_;rw[Ck,lv]at hj;rw[Fb _ _ _ 0#1,Fb _ _ _ 0#1]
 by_cases e:j<m/\BW g g6 (g^(m-1-j))=false
 ·rw[qF e,qF e]
 ·rw[qE e,qE e];refine h j hj ?_;cases z:BW g g6 (g^(m-1-j)) with
  |true=>rfl
  |false=>exact qG ⟨hj,z⟩ e
noncomputable def sn(v:qW)(z:Int):Int:=if z<0\/(v.length:Int)<=z then 0 else v.getD z.toNat 0
theorem VJ{g:Int}(hg:2<=g){v:qW}(hb:∀n∈v,0<=n/\n<g)(z:Int):0<=sn v z/\sn v z<g:=by
 unfold sn;split
 ·exact⟨dz _,by lia⟩
 ·exact Bf hg hb _
theorem Cw{v:qW}(h:j<v.length):sn v ((j:Nat):Int)=v.getD j 0:=by unfold sn;rw[qE 0#1,bM]
noncomputable def Ho(v:qW)(d:Int)(m:Nat):qW:=(List.range m).map λj:Nat=>sn v (d+(j:Int))
theorem C8(v:qW)(d:Int)(m:Nat):(Ho v d m).length=m:=by unfold Ho;rw[List.length_map,List.length_range]
theorem Nt{g:Int}(hg:2<=g){v:qW}(hb:∀n∈v,0<=n/\n<g)(d:Int)(m:Nat):∀n∈Ho v d m,0<=n/\n<g:=λn hn=>by unfold Ho at hn;obtain⟨j,_,e⟩:=bg.mp hn;subst e;exact VJ hg hb _
theorem Hq(v:qW)(d:Int){m:Nat}(h:j<m):(Ho v d m).getD j 0=sn v (d+(j:Int)):=by unfold Ho;exact AS h
theorem MN(v:qW):Ho v 0 v.length=v:=by refine AU (C8 _ _ _) λj hj=>?_;rw[C8]at hj;rw[Hq v 0 hj,b7,Cw hj]
noncomputable def Cy(g lo:Int)(g6:qW)(m:Nat)(low:Int)(M:Nat):qW:=(List.range (g^M).toNat).map λn:Nat=>g6.getD (Ao g (Ho (Ai g (n:Int) M) (lo-low) m)).toNat 0
theorem BZ{g:Int}(hg:2<=g)(lo:Int)(g6:qW)(m:Nat)(low:Int)(M:Nat):((Cy g lo g6 m low M).length:Int)=g^M:=by unfold Cy;rw[bG,bn,bp (dG (RW.Ag hg M))]
theorem Ik{g:Int}(hg:2<=g)(lo:Int)(hb:∀n∈g6,0<=n/\n<g)(m:Nat)(low:Int)(M:Nat):∀n∈Cy g lo g6 m low M,0<=n/\n<g:=λn hn=>by unfold Cy at hn;obtain⟨j,_,e⟩:=bg.mp hn;subst e;exact Bf hg hb _
theorem MO{g:Int}(hg:2<=g)(lo:Int)(g6:qW)(m:Nat)(low:Int){v:qW}(hb:∀n∈v,0<=n/\n<g):(Cy g lo g6 m low v.length).getD (Ao g v).toNat 0=g6.getD (Ao g (Ho v (lo-low) m)).toNat 0:=by have b:=BR hg hb;unfold Cy;rw[AS 0#1,show (((Ao g v).toNat:Nat):Int)=Ao g v by lia,B8 hg hb]
theorem LD{g:Int}(hg:2<=g){m k:Nat}(h:(k:Int)<g^m):∃w:qW,w.length=m/\(∀n∈w,0<=n/\n<g)/\Ao g w=(k:Int):=⟨Ai g (k:Int) m,BE _ _ _,By hg _ _,Cj hg 0#1 h⟩
theorem Rt{g:Int}(hg:2<=g){a b:qW}{m:Nat}(la:(a.length:Int)=g^m)(lb:(b.length:Int)=g^m)(h:∀w:qW,w.length=m->(∀n∈w,0<=n/\n<g)->a.getD (Ao g w).toNat 0=b.getD (Ao g w).toNat 0):a=b:=by refine AU 0#1 λk hk=>?_;obtain⟨w,h1,h2,h3⟩:=LD hg (m:=m) (k:=k) 0#1;have:=h w h1 h2;rw[h3,bM]at this;exact this
theorem Il{g:Int}(hg:2<=g)(lo:Int){m:Nat}(hl:(g6.length:Int)=g^m):Cy g lo g6 m lo m=g6:=by refine Rt hg (BZ hg _ _ _ _ _) hl λw hw hb=>?_;subst hw;rw[MO hg lo g6 _ lo hb,Int.sub_self,MN]
theorem Nu{g:Int}{m:Nat}:z∈Bo g lo g6 m↔∃j:Nat,j<m/\BW g g6 (g^(m-1-j))=true/\z=lo+(j:Int):=by
 unfold Bo;constructor
 ·intro h;obtain⟨j,hj,e⟩:=bg.mp h;obtain⟨h1,h2⟩:=cE.mp hj;exact⟨j,bh.mp h1,h2,e.symm⟩
 ·rintro⟨j,hj,hc,rfl⟩;exact bg.mpr ⟨j,cE.mpr ⟨bh.mpr hj,hc⟩,rfl⟩
theorem Gc{g:Int}{w:Int}:BW g g6 w=true↔∃k:Nat,k<g6.length/\g6.getD k 0≠g6.getD ((k:Int)-(k:Int)/w%g*w).toNat 0:=by
 unfold BW;rw[List.any_eq_true];constructor
 ·rintro⟨k,hk,h⟩;exact⟨k,List.mem_range.mp hk,by simpa using h⟩
 ·rintro⟨k,hk,h⟩;exact⟨k,List.mem_range.mpr hk,by simpa using h⟩
theorem Nv{g:Int}(hg:2<=g){m:Nat}(hl:(g6.length:Int)=g^m)(hj:j<m):BW g g6 (g^(m-1-j))=true↔∃w:qW,w.length=m/\(∀n∈w,0<=n/\n<g)/\g6.getD (Ao g w).toNat 0≠g6.getD (Ao g (w.set j 0)).toNat 0:=by
 rw[Gc];constructor
 ·rintro⟨k,hk,h⟩;rcases LD hg (m:=m) (k:=k) 0#1 with⟨w,h1,h2,h3⟩;refine⟨w,h1,h2,?_⟩;have n0:=Ij hg h2 (j:=j) 0#1;rw[h1,h3]at n0;rw[<-n0,h3,bM];exact h
 ·intro hRq;rcases hRq with⟨w,h1,h2,h⟩;have b:=BR hg h2;rw[h1]at b;refine⟨(Ao g w).toNat,by lia,?_⟩;have n0:=Ij hg h2 (j:=j) 0#1;rw[h1]at n0;rw[show (((Ao g w).toNat:Nat):Int)=Ao g w by lia,n0];exact h
structure CP(g lo:Int)(g6:qW)(m:Nat)(low:Int)(M:Nat):Prop where
 one:1<=M
 all:∀j,j<m->BW g g6 (g^(m-1-j))=true->low<=lo+(j:Int)/\lo+(j:Int)<low+(M:Int)
 ends:((∀j,j<m->BW g g6 (g^(m-1-j))=false)/\low=0/\M=1)\/∃j0 j1:Nat,j0<=j1/\j1<m/\low=lo+(j0:Int)/\M=j1-j0+1/\BW g g6 (g^(m-1-j0))=true/\BW g g6 (g^(m-1-j1))=true
theorem Jy(p:Nat->Bool)(n:Nat):((List.range n).filter p).Pairwise (·<·):=List.Pairwise.filter p List.pairwise_lt_range
theorem Nw:∀{l:List Nat},l.Pairwise (·<·)->∀x∈l,l.getD 0 0<=x
 |[],_,x,h=>qG h 1#4
 |a::r,hp,x,h=>by
  rcases br.mp h with z|z
  ·rw[z];exact bL _
  ·exact dA ((List.pairwise_cons.mp hp).1 x z)
theorem Gd:∀{l:List Nat},l.Pairwise (·<·)->∀x∈l,x<=l.getD (l.length-1) 0
 |[],_,x,h=>qG h 1#4
 |[a],_,x,h=>by rw[bV.mp h];exact bL _
 |a::b::r,hp,x,h=>by
  have ih:=Gd (l:=b::r) (List.pairwise_cons.mp hp).2;have e:(a::b::r).getD ((a::b::r).length-1) 0=(b::r).getD ((b::r).length-1) 0:=rfl;rw[e];rcases br.mp h with z|z
  ·rw[z];exact cK (dA ((List.pairwise_cons.mp hp).1 b bo)) (ih b bo)
  ·exact ih x z
theorem Im:∀{l:List Nat} {k:Nat},k<l.length->l.getD k 0∈l:=λ{l k} h=>by rw[bH,bI h];exact dO h
theorem HK{f:Nat->Int}{l:List Nat}{k:Nat}(h:k<l.length):(l.map f).getD k 0=f (l.getD k 0):=by rw[bH,bO,bI h,bH,bI h];rfl
theorem MQ{g:Int}{m:Nat}(h:Bo g lo g6 m=[]):CP g lo g6 m 0 1:=by
 have f:∀j,j<m->BW g g6 (g^(m-1-j))=false:=λj hj=>by
  cases z:BW g g6 (g^(m-1-j)) with
  |false=>rfl
  |true=>exact qG (Nu.mpr ⟨j,hj,z,rfl⟩) (by rw[h];simp)
 exact⟨bL _,λj hj hc=>qG hc (by rw[f j hj];decide),.inl ⟨f,rfl,rfl⟩⟩
theorem KP{g:Int}{m:Nat}(h:Bo g lo g6 m≠[]):∃M:Nat,(M:Int)=(Bo g lo g6 m).getD ((Bo g lo g6 m).length-1) 0-(Bo g lo g6 m).getD 0 0+1/\M<=m/\CP g lo g6 m ((Bo g lo g6 m).getD 0 0) M:=by
 unfold Bo at h⊢;generalize hl:((List.range m).filter λj=>BW g g6 (g^(m-1-j)))=l at h⊢
 have hne:0<l.length:=by
  cases l with
  |nil=>exact qG rfl h
  |cons a r=>simp
 have hm:∀j,j∈l↔j<m/\BW g g6 (g^(m-1-j))=true:=λj=>by rw[<-hl,cE,bh]
 have hp:l.Pairwise (·<·):=by rw[<-hl];exact Jy _ _
 rw[bG,HK (show l.length-1<l.length by lia),HK hne];have m0:=(hm _).mp (Im hne);have m1:=(hm _).mp (Im (show l.length-1<l.length by lia));have le:=Gd hp _ (Im hne);refine⟨l.getD (l.length-1) 0-l.getD 0 0+1,by lia,by lia,⟨by lia,λj hj hc=>?_,.inr ⟨l.getD 0 0,l.getD (l.length-1) 0,le,m1.1,rfl,rfl,m0.2,m1.2⟩⟩⟩;have a1:=Nw hp j ((hm j).mpr ⟨hj,hc⟩);have a2:=Gd hp j ((hm j).mpr ⟨hj,hc⟩);lia
variable{low':Int}{M':Nat}
theorem CP.uniq{g:Int}{m:Nat}{low:Int}{M:Nat}(h:CP g lo g6 m low M)(h':CP g lo g6 m low' M'):low=low'/\M=M':=by
 rcases h.ends with⟨f,e1,e2⟩|⟨j0,j1,le,lt,e1,e2,c0,c1⟩
 ·rcases h'.ends with⟨f',e1',e2'⟩|⟨j0',j1',le',lt',e1',e2',c0',c1'⟩
  ·exact⟨by lia,by lia⟩
  ·rw[f j1' lt']at c1';cases c1'
 ·rcases h'.ends with⟨f',e1',e2'⟩|⟨j0',j1',le',lt',e1',e2',c0',c1'⟩
  ·rw[f' j1 lt]at c1;cases c1
  ·have a:=h.all j0' 0#1 c0';have b:=h.all j1' lt' c1';have c:=h'.all j0 0#1 c0;have d:=h'.all j1 lt c1;exact⟨by lia,by lia⟩
theorem Io{w:qW}{M:Nat}(h:j+M<=w.length):Ho w (j:Int) M=(w.drop j).take M:=by refine AU (by rw[C8,bq,bj];lia) λk hk=>?_;rw[C8]at hk;rw[Hq _ _ hk,show (j:Int)+(k:Int)=((j+k:Nat):Int) by lia,Cw 0#1,bH,bH,fu,qF hk,eB]
end L2
namespace L2
variable{j:Nat}{g6:qW}
noncomputable def Aq(n:Nat)(f:Nat->Int):Int:=((List.range n).map f).sum
theorem Bz(f:Nat->Int):Aq 0 f=0:=rfl
theorem Ar(n:Nat)(f:Nat->Int):Aq (n+1) f=Aq n f+f n:=by unfold Aq;rw[cH,bS,fK];show _+([f n]:qW).sum=_;rw[dc,List.sum_nil,cr]
theorem As{n:Nat}{f g:Nat->Int}(h:∀k,k<n->f k=g k):Aq n f=Aq n g:=by unfold Aq;rw[bU λk hk=>h k (bh.mp hk)]
theorem MR(n:Nat)(f g:Nat->Int):Aq n (λk=>f k+g k)=Aq n f+Aq n g:=by
 induction n with
 |zero=>rfl
 |succ n ih=>rw[Ar,Ar,Ar,ih];lia
theorem MS(n:Nat)(f:Nat->Int)(c:Int):Aq n (λk=>f k*c)=Aq n f*c:=by
 induction n with
 |zero=>rw[Bz,Bz,fN]
 |succ n ih=>rw[Ar,Ar,ih,Int.add_mul]
theorem BK(n:Nat)(c:Int):Aq n (λ_=>c)=(n:Int)*c:=by
 induction n with
 |zero=>rw[Bz];simp
 |succ n ih=>rw[Ar,ih,Int.natCast_add,Int.add_mul];simp
theorem HL{n:Nat}{f:Nat->Int}(h:∀k,k<n->0<=f k):0<=Aq n f:=by
 induction n with
 |zero=>exact dz _
 |succ n ih =>
  rw[Ar];have h1:=ih λk hk=>h k (dE hk)
  have h2:=h n (d7 n);lia
theorem UJ{n:Nat}{f:Nat->Int}(h:∀k,k<n->0<=f k)(hj:j<n):f j<=Aq n f:=by
 induction n with
 |zero=>exact qG hj (fO _)
 |succ n ih =>
  rw[Ar]
  by_cases e:j=n
  ·subst e;have h1:=HL (n:=j) (f:=f) λk hk=>h k (dE hk)
   lia
  ·have h1:=ih (λk hk=>h k (dE hk)) 0#1;have h2:=h n (d7 n);lia
theorem Dz(a b:Nat)(f:Nat->Nat->Int):Aq a (λi=>Aq b (λj=>f i j))=Aq b (λj=>Aq a (λi=>f i j)):=by
 induction a with
 |zero =>
  rw[Bz];have:Aq b (λ_=>(0:Int))=0:=by rw[BK,fM]
  exact this.symm
 |succ a ih =>
  rw[Ar,ih,<-MR];exact As λj _=>(Ar a _).symm
theorem Fc(a b:Nat)(f:Nat->Int):Aq (a+b) f=Aq a f+Aq b (λk=>f (a+k)):=by
 induction b with
 |zero=>rw[Bz,cr];rfl
 |succ b ih=>rw[<-fT,Ar,Ar,ih,gf]
theorem QQ(a b:Nat)(f:Nat->Int):Aq (a*b) f=Aq a (λi=>Aq b (λj=>f (i*b+j))):=by
 induction a with
 |zero=>rw[Nat.zero_mul];rfl
 |succ a ih=>rw[Nat.succ_mul,Fc,Ar,ih]
noncomputable def Dq(p:Bool)(x:Int):Int:=if p then x else 0
theorem Nx{p:Bool}{x:Int}(h:0<=x):0<=Dq p x:=by unfold Dq;split<;>lia
theorem MT(n j:Nat)(hj:j<n)(x:Int):Aq n (λk=>Dq (decide (k=j)) x)=x:=by
 induction n with
 |zero=>exact qG hj (fO _)
 |succ n ih =>
  rw[Ar]
  by_cases e:j=n
  ·subst e;have z:Aq j (λk=>Dq (decide (k=j)) x)=0:=by rw[As (g:=λ_=>0) λk hk=>by unfold Dq;rw[qI 0#1];rfl,BK,Int.mul_zero]
   rw[z];unfold Dq;rw[qH rfl];simp
  ·rw[ih 0#1];unfold Dq;rw[qI 0#1];simp
noncomputable def Hr(G:Nat)(g6:qW):qW->Nat->Int
 |[],_=>1
 |s::r,h=>Aq G λj=>Dq (decide (g6.getD (h*G+j) 0=s)) (Hr G g6 r ((h*G+j)%(g6.length/G)))
theorem Iq(G:Nat)(g6:qW):∀(r:qW) (h:Nat),0<=Hr G g6 r h
 |[],_=>by show (0:Int)<=1;decide
 |s::r,h=>HL λj _=>Nx (Iq G g6 r _)
noncomputable def Fd(G:Nat)(g6:qW)(r:qW):Int:=Aq (g6.length/G) (Hr G g6 r)
variable{G:Nat}
theorem QR{v:Int}(h0:0<=v)(h1:v<(G:Int))(x:Int):Aq G (λs=>Dq (decide (v=(s:Int))) x)=x:=by
 refine Eq.trans (As λs _=>?_) (MT G v.toNat 0#1 x);unfold Dq
 by_cases e:s=v.toNat
 ·rw[qH (show v=(s:Int) by lia),qH e]
 ·rw[qI (show ¬v=(s:Int) by lia),qI e]
theorem Ir(hG:2<=G)(hb:∀n∈g6,0<=n/\n<(G:Int)):∀(r:qW) (h:Nat),Aq G (λs=>Hr G g6 (r++[(s:Int)]) h)=Hr G g6 r h*(G:Int)
 |[],h=>by
  show Aq G (λs=>Aq G λj=>Dq (decide (g6.getD (h*G+j) 0=(s:Int))) 1)=1*(G:Int);rw[Dz]
  have:Aq G (λj=>Aq G (λs=>Dq (decide (g6.getD (h*G+j) 0=(s:Int))) 1))=Aq G (λ_=>1):=As λj _=>by have b:0<=g6.getD (h*G+j) 0/\g6.getD (h*G+j) 0<(G:Int):=Bf 0#1 hb _;exact QR b.1 b.2 1
  rw[this,BK,dR,fH]
 |a::r,h=>by
  show Aq G (λs=>Aq G λj=>Dq (decide (g6.getD (h*G+j) 0=a)) (Hr G g6 (r++[(s:Int)]) ((h*G+j)%(g6.length/G))))=(Aq G λj=>Dq (decide (g6.getD (h*G+j) 0=a)) (Hr G g6 r ((h*G+j)%(g6.length/G))))*(G:Int);rw[Dz,<-MS];refine As λj _=>?_;unfold Dq;cases decide (g6.getD (h*G+j) 0=a) with
  |true=>exact Ir hG hb r _
  |false =>
   show Aq G (λ_=>(0:Int))=0*(G:Int);rw[BK,fM,fN]
theorem Ny(hG:2<=G)(hb:∀n∈g6,0<=n/\n<(G:Int))(r:qW):Aq G (λs=>Fd G g6 (r++[(s:Int)]))=Fd G g6 r*(G:Int):=by unfold Fd;rw[Dz,<-MS];exact As λh _=>Ir hG hb r h
theorem MU{g:Int}{m:Nat}{ns:qW}(h:ns.length<m):Aw g g6 m ns=[]:=by unfold Aw;rw[show ns.length+1-m=0 by lia];rfl
theorem QS{g:Int}{m:Nat}{y:Int}{ns:qW}(h:m<=ns.length+1):Aw g g6 m (y::ns)=MJ g g6 m (y::ns) 0::Aw g g6 m ns:=by unfold Aw;rw[cW,show ns.length+1+1-m=(ns.length+1-m)+1 by lia,List.range_succ_eq_map,cU,c9];rfl
theorem A8{g:Int}(hg:2<=g){m:Nat}(hl:(g6.length:Int)=g^m)(hm:1<=m):((g6.length/g.toNat:Nat):Int)=g^(m-1)/\g6.length=g6.length/g.toNat*g.toNat:=by
 obtain⟨k,rfl⟩:∃k,m=k+1:=⟨m-1,by lia⟩
 have e:g6.length=(g^k).toNat*g.toNat:=by have p:=RW.Ag hg k;rw[cB]at hl;apply Int.ofNat.inj;show (g6.length:Int)=(((g^k).toNat*g.toNat:Nat):Int);rw[hl,cx,bp (dG p),bp 0#1]
 have q:g6.length/g.toNat=(g^k).toNat:=by rw[e];exact f6 _ 0#1
 rw[q,eI];exact⟨bp (dG (RW.Ag hg k)),e⟩
end L2
namespace L2
open PySem
variable{G:Nat}{H H':Hp}{lo:Int}{g6:qW}
noncomputable def B7(G:Nat)(g6:qW)(h:Nat)(s:Int):List Nat:=((List.range G).filter λj=>decide (g6.getD (h*G+j) 0=s)).map λj=>h*G+j
theorem Nz(n:Nat)(p:Nat->Bool)(f:Nat->Int):(((List.range n).filter p).map f).sum=Aq n λj=>Dq (p j) (f j):=by
 induction n with
 |zero=>rfl
 |succ n ih =>
  rw[Ar,cH,ce,bS,fK,ih]
  congr 1
  unfold Dq;cases h:p n<;>simp[List.filter,h]
theorem MV(G:Nat)(g6:qW)(h:Nat)(s:Int)(f:Nat->Int):((B7 G g6 h s).map f).sum=Aq G λj=>Dq (decide (g6.getD (h*G+j) 0=s)) (f (h*G+j)):=by unfold B7;rw[c9];exact Nz G _ _
theorem Iu(G:Nat)(g6:qW)(h:Nat)(s:Int)(r:qW):((B7 G g6 h s).map λn=>Hr G g6 r (n%(g6.length/G))).sum=Hr G g6 (s::r) h:=MV G g6 h s _
noncomputable def Ev(G:Nat)(g6 r:qW):qW:=(List.range (g6.length/G)).map (Hr G g6 r)
theorem Iv(G:Nat)(g6 r:qW):(Ev G g6 r).length=g6.length/G:=by unfold Ev;rw[List.length_map,List.length_range]
theorem MW(G:Nat)(g6 r:qW):(Ev G g6 r).sum=Fd G g6 r:=rfl
theorem Iw{r:qW}{h:Nat}(hh:h<g6.length/G):(Ev G g6 r).getD h 0=Hr G g6 r h:=by unfold Ev;exact AS hh
noncomputable def Ix(ns:List Nat):qW:=ns.map λn:Nat=>(n:Int)
structure Aj(H:Hp)(r:qR)(g lo:Int)(g6:qW)(m:Nat):Prop where
 v:Au H r g lo g6
 g2:2<=g
 g9:g<=9
 m1:1<=m
 m8:m<=8
 len:(g6.length:Int)=g^m
 sz:g^m<=256
 tb:∀n∈g6,0<=n/\n<g
theorem Aj.same{r:qR}{g:Int}{m:Nat}(e:AH H H')(h:Aj H r g lo g6 m):Aj H' r g lo g6 m:=⟨h.v.same e,h.g2,h.g9,h.m1,h.m8,h.len,h.sz,h.tb⟩
inductive Cq(vs:List V)(H:Hp)(Q:VK)(z3_:XK):Prop
 |m (r:qR) (g lo:Int) (g6:qW) (m:Nat):vs=[.ref r]->Aj H r g lo g6 m->Q (.int ((g6.length/g.toNat:Nat):Int)) H->Cq vs H Q z3_
inductive LF(vs:List V)(H:Hp)(Q:VK)(z3_:XK):Prop
 |m (r:qR) (g lo:Int) (g6:qW) (m h:Nat) (s:Int):vs=[.ref r,.int ((h:Nat):Int),.int s]->Aj H r g lo g6 m->h<g6.length/g.toNat->(∀p H',Fa H H' p (Ix (B7 g.toNat g6 h s))->Q (.ref p) H')->LF vs H Q z3_
inductive F4(vs:List V)(H:Hp)(Q:VK)(z3_:XK):Prop
 |m (r f w:qR) (g lo:Int) (g6:qW) (m:Nat) (fs:List Nat) (ws:qW):vs=[.ref r,.ref f,.ref w]->Aj H r g lo g6 m->H f=some (.lst ((Ix fs).map V.int))->fs.length<=300->H w=some (.lst (ws.map V.int))->ws.length=g6.length/g.toNat->(∀p H',Fa H H' p (fs.map λn=>ws.getD (n%0#5) 0)->Q (.ref p) H')->F4 vs H Q z3_
def VL(H:Hp)(p:qR)(G:Nat)(g6 row:qW):Prop:=∃ps:List qR,H p=some (.lst (ps.map V.ref))/\ps.length=row.length+1/\∀(k:Nat) (q:qR),ps[k]?=some q->H q=some (.lst ((Ev G g6 (row.drop k)).map V.int))
inductive N0(K:qV)(vs:List V)(H:Hp)(Q:VK)(z3_:XK):Prop
 |m (r a:qR) (g lo:Int) (g6:qW) (m:Nat) (ns:qW):vs=[.ref r,.ref a]->Aj H r g lo g6 m->Ae K H a 1#3->ns.length<=900->(∀p H',AH H H'->H p=none->VL H' p g.toNat g6 ns->Q (.ref p) H')->N0 K vs H Q z3_
theorem N1{X:Cx}{K:qV}(h:X.K=K):Cf X (.builtin "len") (λxs H Q=>∃p ys,xs=[V.ref p]/\(Ae K H p ys\/Ah K H p ys)/\Q (.int ((ys.length:Nat):Int)) H):=h▸Fx
theorem N3{X:Cx}{K:qV}(h:X.K=K)(hc:X.calm=true):Cf X (.builtin "sum") (λxs H Q=>∃(p:qR) (ns:qW),xs=[.ref p]/\Ae K H p 1#3/\Q (.int ns.sum) H):=h▸Er hc
theorem QT(ns:qW):(PyData.tuple (ns.map PyData.int)).depth<=60:=by
 simp only[PyData.depth,FZ]
 decide
inductive Iy(K:qV)(vs:List V)(H:Hp)(Q:VK)(z3_:XK):Prop
 |m (a:qR) (v:qW) (z:Int):vs=[.ref a,.int z]->Ae K H a (v.map V.int)->Q (.int (sn v z)) H->Iy K vs H Q z3_
theorem EM{g:Int}(hg:2<=g){M:Nat}(h:g^M<=256):M<=8:=by
 apply gP;intro z;have h1:=Bx hg (show 9<=M by lia)
 have h2:(512:Int)<=g^9:=by
  have h2:2*2<=g*g:=gJ hg hg 0#8 0#1;have h4:4*4<=(g*g)*(g*g):=gJ 0#1 0#1 0#8 0#1;have h8:16*16<=((g*g)*(g*g))*((g*g)*(g*g)):=gJ 0#1 0#1 0#8 0#1;have h9:256*2<=(((g*g)*(g*g))*((g*g)*(g*g)))*g:=gJ 0#1 hg 0#8 0#1;have e:g^9=(((g*g)*(g*g))*((g*g)*(g*g)))*g:=by simp only[Int.pow_succ,Int.pow_zero,Int.one_mul,Int.mul_assoc]
  rw[e];lia
 lia
theorem Aj.bw{r r':qR}{g:Int}{m:Nat}(h:Aj H r g lo g6 m){low:Int}{M:Nat}(hM:1<=M)(hz:g^M<=256)(hv:Au H' r' g low (Cy g lo g6 m low M)):Aj H' r' g low (Cy g lo g6 m low M) M:=
 ⟨hv,h.g2,h.g9,hM,EM h.g2 hz,BZ h.g2 _ _ _ _ _,hz,Ik h.g2 _ h.tb _ _ _⟩
inductive Hs(vs:List V)(H:Hp)(Q:VK)(z3_:XK):Prop
 |m (r:qR) (g lo:Int) (g6:qW) (m:Nat) (low:Int) (M:Nat):vs=[.ref r,.int low,.int ((M:Nat):Int)]->Aj H r g lo g6 m->1<=M->g^M<=256->(∀r' H',AH H H'->Aj H' r' g low (Cy g lo g6 m low M) M->Q (.ref r') H')->Hs vs H Q z3_
inductive D0(vs:List V)(H:Hp)(Q:VK)(z3_:XK):Prop
 |m (r:qR) (g lo:Int) (g6:qW) (m:Nat):vs=[.ref r]->Aj H r g lo g6 m->(∀(low:Int) (M:Nat),CP g lo g6 m low M->∀r' H',AH H H'->Aj H' r' g low (Cy g lo g6 m low M) M->Q (.ref r') H')->D0 vs H Q z3_
def UK(g lo:Int)(g6:qW)(m:Nat)(low high:Int):Prop:=high<low\/∃z∈Bo g lo g6 m,z<low\/high<z
inductive Ge(CW CT:qR)(vs:List V)(H:Hp)(Q:VK)(E:XK):Prop
 |m (r:qR) (g lo:Int) (g6:qW) (m:Nat) (low high:Int):vs=[.ref r,.int low,.int high]->Aj H r g lo g6 m->(UK g lo g6 m low high->∀H',AH H H'->E (.ref CW) none H')->(¬UK g lo g6 m low high->256<g^(high-low+1).toNat->∀H',AH H H'->E (.ref CT) none H')->(¬UK g lo g6 m low high->g^(high-low+1).toNat<=256->∀r' H',AH H H'->Aj H' r' g low (Cy g lo g6 m low (high-low+1).toNat) (high-low+1).toNat->Q (.ref r') H')->Ge CW CT vs H Q E
theorem CP.small{g:Int}{m:Nat}{low:Int}{M:Nat}(h:CP g lo g6 m low M)(hm:1<=m):M<=m:=by
 rcases h.ends with⟨_,_,e⟩|⟨j0,j1,le,lt,_,e,_,_⟩
 ·lia
 ·lia
theorem QU{ns:qW}(h:0<ns.length):Lm 1#3 (-1)=some (.int (ns.getD (ns.length-1) 0)):=by
 have e:=Dy (ns:=ns) (k:=ns.length-1) 0#1
 have z:Oq (ns.map V.int).length (-1)=some (ns.length-1):=by
  unfold Oq;rw[bG];rw[qE 0#8,qF 0#1]
  congr 1
  lia
 have y:Oq (ns.map V.int).length (((ns.length-1:Nat)):Int)=some (ns.length-1):=by rw[bG];exact K8 0#1
 unfold Lm at e⊢;rw[z];rw[y]at e;exact e
end L2
namespace L2
open PySem PySem.Spec PyProof.Rows
variable{es:List Expr}{i:Nat}{st:Stmt}{tc:TT}{te:TE}{pos:Pos}
section
variable{X:Cx}{t:TA}
theorem Ac{i:Int}{j}(hr:PA X es t):PA X (.Constant (.int i) j pos::es) (Fu (tC (.int i)) t):=AA AD hr (by rfl)
end
@[irreducible] def Te (X:Cx) (st:Stmt) (t:TS):Prop:=PS X st t
@[irreducible] def F5 (X:Cx) (ss:List Stmt) (t:TS):Prop:=FU X ss t
section
variable{X:Cx}{rest ss:List Stmt}{t u:TS}
theorem Te.of(h:PS X st t):Te X st t:=by unfold Te;exact h
theorem Te.out(h:Te X st t):PS X st t:=by unfold Te at h;exact h
theorem F5.of(h:FU X ss t):F5 X ss t:=by unfold F5;exact h
theorem F5.out(h:F5 X ss t):FU X ss t:=by unfold F5 at h;exact h
theorem CG(h1:Te X st t)(h2:F5 X rest u):F5 X (st::rest) (P3 t u):=.of (AB h1.out h2.out)
theorem Ht(h1:Te X st t):F5 X [st] t:=.of (AF h1.out)
end
@[irreducible] def Ru (X:Cx) (e:Expr) (te:TE):Prop:=PE X e te
@[irreducible] def Tf (X:Cx) (es:List Expr) (t:TA):Prop:=PA X es t
section
variable{X:Cx}{e a b:Expr}{ta tb:TE}{t:TA}
theorem Ru.of(h:PE X e te):Ru X e te:=by unfold Ru;exact h
theorem Ru.out(h:Ru X e te):PE X e te:=by unfold Ru at h;exact h
theorem Tf.of(h:PA X es t):Tf X es t:=by unfold Tf;exact h
theorem Tf.out(h:Tf X es t):PA X es t:=by unfold Tf at h;exact h
theorem Hu:Tf X [] Kt:=.of AC
theorem AZ{i:Int}{j}{p:Pos}(hr:Tf X es t):Tf X (.Constant (.int i) j p::es) (Fu (tC (.int i)) t):=.of (Ac hr.out)
theorem Hv(h:Tf X es t):Ru X (.List es pos) (Vz t):=.of (BC h.out)
theorem LG{r:R2}(hr:VE X r)(ha:Ru X a ta)(hb:Ru X b tb)(hs:Ou b):Ru X (.Subscript a b pos) (Xb r ta tb):=.of (AM hr ha.out hb.out hs)
theorem Dg{x:Str}{pos':Pos}(hN:X.N.Nodup)(hi:X.N[i]?=some x)(hx:U4 X.env.scope x)(he:Ru X e te)(hs:swapsWith e (some (.Name x pos')) pos.line X.env=pure false)(hf:X.fn x=true\/X.env.scope.names.lookup x=some .local):
  Te X (.Assign [.Name x pos'] e pos) (P4 te (Fq i)):=.of (IL hN hi hx he.out hs hf)
theorem N4{c:Expr}{a b:List Stmt}{t u:TS}(hc:PT X c tc)(ha:F5 X a t)(hb:F5 X b u):Te X (.If c a b pos) (Vs tc t u):=.of (A3 hc ha.out hb.out)
theorem LH:F5 X [] Q8:=.of AX
end
end L2
namespace L2
open PySem
variable{D:HU}{H:Hp}{M' j:Nat}{lo low' z:Int}{g6:qW}{σ:St}
noncomputable def BL(x:Int->Int)(lo:Int)(m:Nat):qW:=(List.range m).map λj:Nat=>x (lo+(j:Int))
theorem A6(x:Int->Int)(lo:Int)(m:Nat):(BL x lo m).length=m:=by unfold BL;rw[List.length_map,List.length_range]
theorem CH(x:Int->Int)(lo:Int){m:Nat}(h:j<m):(BL x lo m).getD j 0=x (lo+(j:Int)):=by unfold BL;exact AS h
def Ei(g:Int)(x:Int->Int):Prop:=∀z,0<=x z/\x z<g
theorem EN{g:Int}{x:Int->Int}(hx:Ei g x)(lo:Int)(m:Nat):∀n∈BL x lo m,0<=n/\n<g:=λn hn=>by unfold BL at hn;obtain⟨j,_,rfl⟩:=bg.mp hn;exact hx _
noncomputable def CV(g lo:Int)(g6:qW)(m:Nat)(x:Int->Int):Int:=g6.getD (Ao g (BL x lo m)).toNat 0
noncomputable def Bj(w:qW)(lo:Int):Int->Int:=λz=>sn w (z-lo)
theorem B1{g:Int}(hg:2<=g){w:qW}(hb:∀n∈w,0<=n/\n<g)(lo:Int):Ei g (Bj w lo):=λz=>VJ hg hb _
theorem PB(w:qW)(low lo:Int)(m:Nat):BL (Bj w low) lo m=Ho w (lo-low) m:=by unfold BL Ho Bj;exact bU λj _=>by rw[show lo+(j:Int)-low=lo-low+(j:Int) by lia]
theorem Dh(w:qW)(lo:Int):BL (Bj w lo) lo w.length=w:=by rw[PB,Int.sub_self,MN]
theorem Rv(x:Int->Int){low:Int}{m M:Nat}(h1:low<=lo)(h2:lo+(m:Int)<=low+(M:Int)):Ho (BL x low M) (lo-low) m=BL x lo m:=by
 refine AU (by rw[C8,A6]) λj hj=>?_;rw[C8]at hj;rw[Hq _ _ hj,CH _ _ hj,show lo-low+(j:Int)=((((lo-low).toNat+j:Nat):Nat):Int) by lia,Cw (by rw[A6];lia),CH _ _ 0#1]
 congr 1
 lia
theorem Di{g:Int}(hg:2<=g){low:Int}{m M:Nat}(hl:(g6.length:Int)=g^m)(hc:∀j,j<m->BW g g6 (g^(m-1-j))=true->low<=lo+(j:Int)/\lo+(j:Int)<low+(M:Int)){x:Int->Int}(hx:Ei g x):CV g low (Cy g lo g6 m low M) M x=CV g lo g6 m x:=by
 unfold CV;have z:=MO hg lo g6 m low (v:=BL x low M) (EN hx low M);rw[A6]at z;rw[z];refine Nr hg hl (Nt hg (EN hx low M) _ _) (EN hx lo m) (C8 ..) (A6 ..) λj hj hcj=>?_;obtain⟨a,b⟩:=hc j hj hcj;rw[Hq _ _ hj,CH _ _ hj,show lo-low+(j:Int)=(((lo+(j:Int)-low).toNat:Nat):Int) by lia,Cw (by rw[A6];lia),CH _ _ 0#1]
 congr 1
 lia
def Rw(g:Int)(f:(Int->Int)->Int)(z:Int):Prop:=∃x,Ei g x/\f x≠f λy=>if y=z then 0 else x y
theorem Z8{g:Int}(hg:2<=g){x:Int->Int}(hx:Ei g x)(z:Int):Ei g λy=>if y=z then 0 else x y:=λy=>by
 show 0<=(if y=z then 0 else x y)/\(if y=z then 0 else x y)<g;split
 ·lia
 ·exact hx y
theorem MX(x:Int->Int)(lo:Int){m:Nat}(hj:j<m):BL (λy=>if y=lo+(j:Int) then 0 else x y) lo m=(BL x lo m).set j 0:=by
 refine AU (by rw[eP,A6,A6]) λk hk=>?_;rw[A6]at hk;rw[CH _ _ hk,F3 (by rw[A6];exact hj),CH _ _ hk]
 by_cases e:j=k
 ·subst e;rw[qF rfl,qF rfl]
 ·rw[qE e,qE 0#1]
theorem FH{g:Int}(hg:2<=g){m:Nat}(hl:(g6.length:Int)=g^m)(hj:j<m):BW g g6 (g^(m-1-j))=true↔Rw g (CV g lo g6 m) (lo+(j:Int)):=by
 rw[Nv hg hl hj];constructor
 ·rintro⟨w,wl,wb,ne⟩;subst wl;refine⟨Bj w lo,B1 hg wb lo,?_⟩;unfold CV;rw[MX _ _ hj,Dh];exact ne
 ·rintro⟨x,hx,ne⟩;unfold CV at ne;rw[MX _ _ hj]at ne;exact⟨_,A6 ..,EN hx lo m,ne⟩
theorem Rx{g:Int}{m:Nat}(h:Rw g (CV g lo g6 m) z):∃j:Nat,j<m/\z=lo+(j:Int):=by
 obtain⟨x,hx,ne⟩:=h
 by_cases e:lo<=z/\z<lo+(m:Int)
 ·exact⟨(z-lo).toNat,by lia,by lia⟩
 ·exfalso;apply ne;unfold CV
  congr 3
  unfold BL;refine bU λj hj=>?_;have:=bh.mp hj;show x (lo+(j:Int))=if lo+(j:Int)=z then 0 else x (lo+(j:Int));rw[qE 0#1]
structure N5(g:Int)(f:(Int->Int)->Int)(low:Int)(M:Nat):Prop where
 one:1<=M
 all:∀z,Rw g f z->low<=z/\z<low+(M:Int)
 ends:((∀z,¬Rw g f z)/\low=0/\M=1)\/(Rw g f low/\Rw g f (low+(M:Int)-1))
theorem CP.toF{g:Int}(hg:2<=g){m:Nat}(hl:(g6.length:Int)=g^m){low:Int}{M:Nat}(h:CP g lo g6 m low M):N5 g (CV g lo g6 m) low M:=by
 refine⟨h.one,λz hz=>?_,?_⟩
 ·obtain⟨j,hj,rfl⟩:=Rx hz;exact h.all j hj ((FH hg hl hj).mpr hz)
 ·rcases h.ends with⟨f,a,b⟩|⟨j0,j1,le,lt,a,b,c0,c1⟩
  ·refine .inl ⟨λz hz=>?_,a,b⟩;obtain⟨j,hj,rfl⟩:=Rx hz;rw[<-FH hg hl hj,f j hj]at hz;cases hz
  ·have d0:=(FH (lo:=lo) hg hl (show j0<m by lia)).mp c0;have d1:=(FH (lo:=lo) hg hl lt).mp c1;refine .inr ⟨a▸d0,?_⟩;rw[show low+(M:Int)-1=lo+(j1:Int) by lia];exact d1
theorem N5.uniq{g:Int}{f:(Int->Int)->Int}{low:Int}{M:Nat}(h:N5 g f low M)(h':N5 g f low' M'):low=low'/\M=M':=by
 have o:=h.one;have o':=h'.one;rcases h.ends with⟨n,a,b⟩|⟨d0,d1⟩
 ·rcases h'.ends with⟨_,a',b'⟩|⟨d0',_⟩
  ·lia
  ·exact qG d0' (n _)
 ·rcases h'.ends with⟨n',_,_⟩|⟨d0',d1'⟩
  ·exact qG d0 (n' _)
  ·have:=h.all _ d0';have:=h.all _ d1';have:=h'.all _ d0;have:=h'.all _ d1;lia
theorem FI{g:Int}(hg:2<=g){f f':(Int->Int)->Int}(h:∀x,Ei g x->f x=f' x)(d:Rw g f z):Rw g f' z:=by obtain⟨x,hx,ne⟩:=d;refine⟨x,hx,?_⟩;rw[<-h x hx,<-h _ (Z8 hg hx z)];exact ne
theorem N5.congr{g:Int}(hg:2<=g){f f':(Int->Int)->Int}(h:∀x,Ei g x->f x=f' x){low:Int}{M:Nat}(n:N5 g f low M):N5 g f' low M:=by
 have h2:∀x,Ei g x->f' x=f x:=λx hx=>(h x hx).symm
 refine⟨n.one,λz d=>n.all z (FI hg h2 d),?_⟩;rcases n.ends with⟨a,b,c⟩|⟨a,b⟩
 ·exact .inl ⟨λz d=>a z (FI hg h2 d),b,c⟩
 ·exact .inr ⟨FI hg h a,FI hg h b⟩
def Ba(g lo:Int)(g6:qW)(m:Nat)(lo':Int)(tab':qW)(m':Nat):Prop:=∀x,Ei g x->CV g lo g6 m x=CV g lo' tab' m' x
theorem WG{g:Int}(hg:2<=g){a b:qW}{m:Nat}(la:(a.length:Int)=g^m)(lb:(b.length:Int)=g^m)(h:∀x,Ei g x->CV g lo a m x=CV g lo b m x):a=b:=by refine Rt hg la lb λw wl wb=>?_;subst wl;have z:=h (Bj w lo) (B1 hg wb lo);unfold CV at z;rw[Dh]at z;exact z
variable{lo':Int}{tab':qW}{m':Nat}
theorem Ce{g:Int}(hg:2<=g){m:Nat}(hl:(g6.length:Int)=g^m)(hl':(tab'.length:Int)=g^m'){low:Int}{M:Nat}(n:CP g lo g6 m low M)(n':CP g lo' tab' m' low' M'):
  Ba g lo g6 m lo' tab' m'↔low=low'/\Cy g lo g6 m low M=Cy g lo' tab' m' low' M':=by
 constructor
 ·intro h;obtain⟨e1,e2⟩:=((n.toF hg hl).congr hg h).uniq (n'.toF hg hl');subst e1 e2;refine⟨rfl,WG hg (lo:=low) (BZ hg ..) (BZ hg ..) λx hx=>?_⟩;rw[Di hg hl n.all hx,Di hg hl' n'.all hx];exact h x hx
 ·rintro⟨rfl,e⟩ x hx;have hM:M=M':=by have a:=BZ hg lo g6 m low M;have b:=BZ hg lo' tab' m' low M';rw[e,b]at a;exact EI hg a.symm
  subst hM;rw[<-Di hg hl n.all hx,<-Di hg hl' n'.all hx,e]
theorem Iz{g:Int}(hg:2<=g){low:Int}{m M:Nat}(hl:(g6.length:Int)=g^m)(h1:low<=lo)(h2:lo+(m:Int)<=low+(M:Int)){x:Int->Int}(hx:Ei g x):CV g low (Cy g lo g6 m low M) M x=CV g lo g6 m x:=
 Di hg hl (λj hj _=>by lia) hx
theorem Ba.symm{g:Int}{m:Nat}(h:Ba g lo g6 m lo' tab' m'):Ba g lo' tab' m' lo g6 m:=λx hx=>(h x hx).symm
theorem Am{t u:TS}(h:∀N:St->Hp->Prop,(∀σ' H',u D σ' H'->N σ' H')->t {D with nx:=N} σ H):P3 t u D σ H:=h (u D) λ_ _ z=>z
inductive N6(K:qV)(vs:List V)(H:Hp)(Q:VK)(z3_:XK):Prop
 |m (r a:qR) (g lo:Int) (g6:qW) (m:Nat) (low:Int) (ws:qW):vs=[.ref r,.int ((m:Nat):Int),.int low,.ref a]->Aj H r g lo g6 m->Ae K H a (ws.map V.int)->(∀n∈ws,0<=n/\n<g)->low<=lo->lo+(m:Int)<=low+(ws.length:Int)->Q (.int (g6.getD (Ao g (Ho ws (lo-low) m)).toNat 0)) H->N6 K vs H Q z3_
end L2
namespace L2
open PySem PySem.Spec PyProof.Rows
section
variable{X:Cx}
theorem QV(bs:List Bool):(List.range bs.length).all (λi=>bs.getD i false)=bs.all id:=by
 rw[ft,fZ,fZ];constructor
 ·intro h b hb;obtain⟨i,hi,e⟩:=List.getElem_of_mem hb;have z:=h i (bh.mpr hi);rw[bH,bI hi,e]at z;exact z
 ·intro h i hi;have hi':=bh.mp hi;rw[bH,bI hi'];exact h _ (dO hi')
theorem MY(hc:X.calm=true):Cf X (.builtin "all") (λxs H Q=>∃(p:qR) (bs:List Bool),xs=[.ref p]/\Ae X.K H p (bs.map V.bl)/\Q (.bl (bs.all id)) H):=by
 intro ad s σ H xs us Q I r h;rcases h with⟨p,bs,rfl,hq,q⟩;obtain⟨u,rfl,rx⟩:=FQ r;cases rx;rcases I.list hq with⟨its,rits,pl,hz⟩;have hlen:=rits.length;rw[bG]at hlen;have alt:p<s.heap.objs.size:=by obtain⟨o,e,_⟩:=pl.isList;exact bP e
 refine call_all_walk (wpAny_pyIter_list pl.isList ?_);have up:∀b o,s.heap.get? b=some o->(s.heap.push {cls:=.type "list_iterator",data:=.fields #[.ref p,.int 0 0]}).get? b=some o:=λb o e=>bK _ e
 refine⟨s.heap.objs.size,[s.heap.objs.size,p],[s.heap.objs.size],its.toArray.size,_,_,λi=>bs.getD i false,rfl,Walks.list (A:=X.A.in1) (I.ok.hd hc) _ p (b9 alt) its.toArray,⟨⟨_,ba _ rfl,rfl,rfl⟩,pl.isList.at λo e=>up p o e⟩,λi v Q' E' s' hv hq'=>?_,λh' tk kk=>?_⟩
 ·have hv':its[i]?=some v:=by simpa using hv
  have hi:=(bJ.mp hv').1;obtain⟨u2,hu2,ru2⟩:=rits.get (x:=.bl (bs.getD i false)) (i:=i) (by rw[bO,bI 0#1,bH,bI 0#1];rfl);rw[hv']at hu2;cases hu2;cases ru2;exact wpAny_truthy_bool hq'
 ·refine⟨.bl (bs.all id),H,I.kept (t':=tk) λb o e=>kk b o (λz=>?_) (up b o e),?_,q⟩
  ·rw[bV.mp z]at e;exact qG (bP e) (bu _)
  ·rw[cC,<-hlen,QV];rfl
end
end L2
namespace L2
theorem PD{i j:Int}:P7 (.int i) (.int j)=true:=rfl
theorem PH{i j:Bool}:P7 (.bl i) (.bl j)=true:=rfl
theorem PJ:P7 .non .non=true:=rfl
theorem PL{i:Int}:P7 (.int i) .non=true:=rfl
end L2
namespace L2
open PySem PySem.Spec PyProof.Rows
variable{E Q:qQ->qS->Prop}{H H':Hp}{T:String}{a:qR}{h':Heap}{ad:List (qR×Obj)}{pos:Pos}{t':Nat}{u:qQ}{σ:St}
section
variable{κ:Type}[DecidableEq κ]
noncomputable def Bg(kvs:List (κ×V))(k:κ):Option V:=(kvs.find? λkv=>decide (kv.1=k)).map (·.2)
noncomputable def D1(kvs:List (κ×V))(k:κ)(v:V):List (κ×V):=
 if (kvs.any λkv=>decide (kv.1=k))=true then kvs.map (λkv=>if kv.1=k then (kv.1,v) else kv) else kvs++[(k,v)]
theorem Ew{p:κ×V}{r:List (κ×V)}{k:κ}(e:p.1=k):Bg (p::r) k=some p.2:=by simp[Bg,List.find?_cons,e]
theorem D4{p:κ×V}{r:List (κ×V)}{k:κ}(e:¬p.1=k):Bg (p::r) k=Bg r k:=by simp[Bg,List.find?_cons,e]
theorem F6(k:κ):∀kvs:List (κ×V),(kvs.any λkv=>decide (kv.1=k))=(Bg kvs k).isSome
 |[]=>rfl
 |p::r=>by
  rw[gd]
  by_cases e:p.1=k
  ·simp only[Ew e,qH e,Bool.true_or,Option.isSome_some]
  ·rw[D4 e,qI e,Bool.false_or];exact F6 k r
theorem HM(kvs:List (κ×V))(k:κ)(v:V):(D1 kvs k v).length<=kvs.length+1:=by
 unfold D1;split
 ·rw[bG];lia
 ·rw[bN,cW,gi];lia
theorem MZ{kvs:List (κ×V)}{k:κ}(v:V)(h:Bg kvs k=none):D1 kvs k v=kvs++[(k,v)]:=by unfold D1;rw[F6,h];exact qE 0#8
theorem Jt.isSome_eq{o:Option V}{u:Option qQ}(r:Jt o u):o.isSome=u.isSome:=by
 cases o with
 |none=>cases u with
  |none=>rfl
  |some _=>exact (show False from r).elim
 |some _=>cases u with
  |none=>exact (show False from r).elim
  |some _=>rfl
end
theorem YD{P:qT}{w:qU}{k:Bq}(r:A5 (kV k) u):(BO P w).is k u=true:=by
 cases k with
 |inl i=>obtain⟨t,e⟩:=(show ∃t,u=Value.int i t from r);subst e;exact Ln P w i t
 |inr x=>obtain⟨t,e⟩:=(show ∃t,u=Value.str x t from r);subst e;exact Lo P w x t
theorem Gf{P:qT}{w:qU}:∀{ks:List Bq} {us:List qQ},Av (ks.map kV) us->ItemsAre (BO P w) ks us
 |[],_,r=>by rw[List.map_nil]at r;cases r;exact .nil
 |k::ks,_,r=>by
  rw[cU]at r;cases r with
  |cons h t=>exact .cons (YD h) (Gf t)
abbrev Ma(H:Hp):List (List Bq×V)->List (List Bq×qR×qQ)->Prop:=Paired λp q=>p.1=q.1/\H q.2.1=some (.tup (p.1.map kV))/\A5 p.2 q.2.2
variable{kvs:List (List Bq×V)}
theorem Ma.val{xs:List (List Bq×qR×qQ)}(r:Ma H kvs xs)(k:List Bq):Jt (Bg kvs k) ((atKey xs k).map (·.2)):=by
 induction r with
 |nil=>exact True.intro
 | @cons p q ps qs h t ih =>
  obtain⟨h1,_,h2⟩:=h
  by_cases e:p.1=k
  ·have e':q.1=k:=h1.symm.trans e;have b:atKey (q::qs) k=some q.2:=by simp[atKey,List.find?_cons,e']
   rw[Ew e,b];exact h2
  ·have e':¬q.1=k:=λz=>e (h1.trans z)
   have b:atKey (q::qs) k=atKey qs k:=by simp[atKey,List.find?_cons,e']
   rw[D4 e,b];exact ih
theorem Ma.repl{xs:List (List Bq×qR×qQ)}(r:Ma H kvs xs)(k:List Bq){y:V}(ry:A5 y u):
  Ma H (kvs.map λkv=>if kv.1=k then (kv.1,y) else kv) (xs.map (putAt k u)):=by
 induction r with
 |nil=>exact .nil
 | @cons p q ps qs h t ih =>
  rw[cU,cU];refine .cons ?_ ih;obtain⟨h1,h2,h3⟩:=h;unfold putAt
  by_cases e:p.1=k
  ·rw[qF e,qF (h1.symm.trans e)];exact⟨h1,h2,ry⟩
  ·rw[qE e,qE (λz=>e (h1.trans z))];exact⟨h1,h2,h3⟩
theorem Ma.put{xs:List (List Bq×qR×qQ)}(r:Ma H kvs xs)(k:List Bq){b:qR}{y:V}(hb:H b=some (.tup (k.map kV)))(ry:A5 y u):
  Ma H (D1 kvs k y) (storedH xs k b u):=by
 have e:(kvs.any λkv=>decide (kv.1=k))=(atKey xs k).isSome:=by rw[F6,(r.val k).isSome_eq,gI]
 unfold D1 storedH;rw[e]
 by_cases q:(atKey xs k).isSome=true
 ·rw[qF q,qF q];exact r.repl k ry
 ·rw[qE q,qE q];exact Paired.snoc r ⟨rfl,hb,ry⟩
theorem Ma.keeps{xs:List (List Bq×qR×qQ)}(r:Ma H kvs xs)(ht:∀b ys,H b=some (.tup ys)->H' b=some (.tup ys)):Ma H' kvs xs:=
 Paired.mapP r λ_ _ z=>⟨z.1,ht _ _ z.2.1,z.2.2⟩
section
variable{P:qT}{w:qU}{h:Heap}
theorem YE{u:HO}(ok:EC P w H h)(e:Rd H a u):Ax P w H h a u:=e.ok ok
theorem N7{ks:List Bq}(ok:EC P w H h)(e:H a=some (.tup (ks.map kV))):(tupleKind (BO P w)).is h ks a:=by rcases (show Ax P w H h a (.tup (ks.map kV)) from ok a _ e) with⟨_,its,r,o,h1,h2,n,h3⟩;exact⟨o,its.toArray,n,h1,h2,h3,by simpa using Gf r⟩
theorem YF(ok:EC P w H h)(e:Rd H a (.dT kvs)):kvs.length<=sizeLine/\(a==sysModules)=false /\
  ∃xs,Ma H kvs xs/\h.DictOfH (tupleKind (BO P w)) a xs:=by
 rcases (show Ax P w H h a (.dT kvs) from YE ok e) with⟨z,y,xs,r,o,es,ep,h1,h2,h3,h4,h5⟩;refine⟨z,y,xs,r,o,es,ep,h1,h2,h3,h4,λx hx=>?_,h5⟩
 have all:∀{l:List (List Bq×V)} {m:List (List Bq×qR×qQ)},Ma H l m->∀x∈m,(tupleKind (BO P w)).is h x.1 x.2.1:=by
  intro l m q
  induction q with
  |nil=>intro x hx;exact nomatch hx
  | @cons p q ps qs hq t ih =>
   intro x hx;rcases br.mp hx with e|hx
   ·subst e;exact N7 ok (by rw[<-hq.1];exact hq.2.1)
   ·exact ih x hx
 exact all r x hx
theorem VM(ok:EC P w H h)(e:H a=some (.dT kvs)):kvs.length<=sizeLine/\(a==sysModules)=false /\
  ∃xs,Ma H kvs xs/\h.DictOfH (tupleKind (BO P w)) a xs:=YF ok (.inl e)
end
section
variable{X:Cx}{s:qS}{y v:V}{r:qQ}{o:Option V}{A:Around}
theorem AT.big(I:AT X ad σ H s):sysModules<s.heap.objs.size:=by have h:mainGlobals<s.heap.objs.size:=(I.mod.glob.keeps I.bk).lt;exact Nat.lt_trans 0#8 h
theorem LI{ob:HO}(I:AT X ad σ H s)(mu:Xd (H a))(hs:Heap.SameBut a s.heap h')(he:∃q,h'.get? a=some q)(new:Ax X.prog X.w (Ad H a ob) h' a ob):
  AT X ad σ (Ad H a ob) {s with heap:=h',toks:=t'}:=
 I.write (x:=a) (e:=a) mu (.inl rfl) (λb q hb z=>(hs.2 b hb).trans z) he new
end
def WH(i:Expr):Prop:=∀ov iv,subscripted i false ov iv=operate [ov,iv] (getItem ov iv)
theorem UL{prog:qT}{w:qU}{A:Around}{s:qS}{env:Env}{value slice:Expr}{id:String}
  (hl:typeLookup (.type T) "__getitem__"=pure (some (.builtin id))) (hs:WH slice)
  (h:wpAny 0#7 A (eval value env) (λo s₁=>wpAny 0#7 A (eval slice env) (λi s₂=>s₂.TypeIs o T/\wpAny 0#7 A (getItem o i) Q E s₂) E s₁) E s):
  wpAny 0#7 A (eval (.Subscript value slice pos) env) Q E s:=by
 refine Subscript_ (qM h (λo s₁ h₁=>qM h₁ (λi s₂ h₂=>?_) λ_ _ x=>x) λ_ _ x=>x);obtain⟨hT,h₂⟩:=h₂;unfold subscriptTail;refine qC ?_;rw[getitemInPython_of_ne hT.not_modules];refine qC (wpAny_specialOf hT hl ?_)
 have fin:wpAny 0#7 A (subscripted slice false o i) (λr s₃=>wpAny 0#7 A (letTemporaryGo value o r >>= λ_=>pure r) Q E s₃) E s₂:=by rw[hs o i];exact wpAny_operating (qM h₂ (λr s₃ h₃=>qC (wpAny_letTemporaryGo (qD h₃))) λ_ _ x=>x)
 first
  |exact qD (qC fin)
  |exact qC (qD (qC fin))
  |exact qC fin
theorem Ry{P:qT}{w:qU}(h:Heap)(hb:sysModules<h.objs.size):Ax P w H (h.push {cls:=.type "dict",data:=.dict #[]}) h.objs.size (.dT []):=
 ⟨cS _,beq_eq_false_iff_ne.mpr (Ne.symm (b9 hb)),[],.nil,_,#[],0,ba _ rfl,⟨rfl,rfl,rfl⟩,rfl,rfl,dm⟩
noncomputable def Rz:List (TE×TE)->St->Hp->(List (V×V)->Hp->Prop)->Prop
 |[],_,H,Q=>Q [] H
 | (tk,tv)::r,σ,H,Q=>tk σ H λx H1=>tv σ H1 λy H2=>Rz r σ H2 λps H3=>Q ((x,y)::ps) H3
abbrev VV:List (V×V)->List (qQ×qQ)->Prop:=Paired λp q=>A5 p.1 q.1/\A5 p.2 q.2
def Z9(X:Cx)(pos:Pos)(keys:List (Option Expr))(values:List Expr)(trs:List (TE×TE)):Prop:=
 ∀(ad:List (qR×Obj)) (s:qS) (σ:St) (H:Hp) (Q:List (V×V)->Hp->Prop),AT X ad σ H s->Rz trs σ H Q ->
  wpAny 0#6 X.A (evalPairs (pairTrees keys values X.env pos)) (λvs s'=>∃ps H',AT X ad σ H' s'/\VV ps vs/\Q ps H') X.xe s
theorem UM{X:Cx}:Z9 X pos [] [] []:=λad s σ H Q I h=>pairTrees_nil_walk ⟨[],H,I,.nil,h⟩
theorem R4{X:Cx}{k v:Expr}{ks:List (Option Expr)}{vs:List Expr}{tk tv:TE}{trs:List (TE×TE)}(hk:PE X k tk)(hv:PE X v tv)(hr:Z9 X pos ks vs trs):
  Z9 X pos (some k::ks) (v::vs) ((tk,tv)::trs):=λad s σ H Q I h =>
 pairTrees_cons_walk (BN (hk ad s σ H _ I h) λu s1 ⟨x,H1,I1,rx,q1⟩=>BN (hv ad s1 σ H1 _ I1 q1) λw2 s2 ⟨y,H2,I2,ry,q2⟩ =>
  BN (hr ad s2 σ H2 _ I2 q2) λws s3 ⟨ps,H3,I3,rel,q3⟩=>⟨(x,y)::ps,H3,I3,.cons ⟨rx,ry⟩ rel,q3⟩)
end L2
namespace PySem
section
variable{prog:qT}{w:qU}{K:Type}[DecidableEq K]{knd:HeapKind prog w K}{A:Around}{E:qQ->qS->Prop}{s:qS}
theorem setDef_heap{dd b:qR}{ents:List (K×qR×qQ)}{key:K}{dv:qQ}{Q:qQ->qS->Prop}(room:knd.room A)(isk:knd.is s.heap key b)(dof:s.heap.DictOfH knd dd ents)(few:ents.length<=sizeLine)
  (old:∀p,atKey ents key=some p->Q p.2 {s with toks:=s.toks+knd.draws key})
  (new:atKey ents key=none->∀hp,hp.DictOfH knd dd (storedH ents key b dv)->Heap.SameBut dd s.heap hp->Q dv {s with heap:=hp,toks:=s.toks+knd.draws key}):
  wpAny 0#7 A (dictSetDefault dd (.ref b) dv) Q E s:=by
 rcases dof with⟨ob,rows,ep,got,cls,dat,rowsE,each,once⟩;unfold dictSetDefault
 try with_reducible refine qO ?_
 refine qC (knd.pyHash room isk (qC (wpAny_dictFind_heap (s:={s with toks:=s.toks+knd.draws key}) room isk got dat rowsE each once (λnowhere=>?_) (λj p there=>?_))))
 ·have none':=atKey_none_of_get nowhere;have newE:=storedH_new (a:=b) (v:=dv) none';have rz:=size_of_entries rowsE;refine qC (wpAny_rule (qC (wpAny_updateDictKeys (hz:=by lia) (s:={s with toks:=s.toks+knd.draws key}) got dat (qD ?_))));refine new none' _ ⟨_,_,ep+1,fI _ got (Obj.isFreed_of_dict (Obj.data_mapDictKeys dat _)),cls.mapDictKeys _,Obj.data_mapDictKeys dat _,?_,?_,?_⟩ (Heap.SameBut.update ..)
  ·rw[newE];simp[rowsE,entryOfKey]
  ·rw[newE];intro x hx;rcases bQ.mp hx with z|z
   ·exact knd.keeps (each x z) got dat (Heap.SameBut.update ..)
   ·rw[bV.mp z];exact knd.keeps isk got dat (Heap.SameBut.update ..)
  ·rw[newE,bS,dF];refine⟨once,by simp,λx hx y hy e=>?_⟩;have:y=key:=by simpa using hy
   exact not_mem_keys_of_get nowhere (by rw[<-this,<-e];exact hx)
 ·refine qC (wpAny_dictEntries (s:={s with toks:=s.toks+knd.draws key}) got dat ?_);rw[entry_at rowsE j,there];exact qC (wpAny_rule (qD (old p (atKey_of_get once there))))
end
section
variable{prog:qT}{w:qU}{K:Type}[DecidableEq K](knd:HeapKind prog w K)(dd b:qR)
theorem meetsH_setDef(hm:(dd==sysModules)=false)(dv:qQ):
  MeetsIn prog w (Builtin.«dict.setdefault» ⟨[.ref dd,.ref b,dv],[]⟩) (λA R s=>knd.room A.in1/\∃key ents,knd.is s.heap key b/\s.heap.DictOfH knd dd ents/\ents.length<=sizeLine /\
   (∀p,atKey ents key=some p->R (.ok (.ret p.2)) {s with toks:=s.toks+knd.draws key}) /\
   (atKey ents key=none->∀hp,hp.DictOfH knd dd (storedH ents key b dv)->Heap.SameBut dd s.heap hp->R (.ok (.ret dv)) {s with heap:=hp,toks:=s.toks+knd.draws key})):=
 .of_wp λA R s h=>by obtain⟨room,key,ents,isk,dof,few,old,new⟩:=h;unfold Builtin.«dict.setdefault»;refine qC ?_;unfold Builtin.Dict.keyAndDefault;refine qC (wpAny_notOrdered_dict dof.typeIs ?_);show wpAny _ _ (pure (dd,Value.ref b,some dv)) _ _ s;refine qD ?_;show wpAny _ _ (if (dd==sysModules)=true then _ else (dictSetDefault dd (.ref b) dv >>= _)) _ _ s;rw[qE (by rw[hm];decide)];exact qC (setDef_heap room isk dof few (λp z=>qD ⟨_,rfl,old p z⟩) λz hp d2 sb=>qD ⟨_,rfl,new z hp d2 sb⟩)
end
end PySem
namespace L2
open PySem PySem.Spec PyProof.Rows
variable{cl:List (Str×qR)}{es:List Expr}{fd:FuncData}{i:Nat}{pos:Pos}{ps:List Str}{qual:Str}{scope:Scope}{sp:Sp}{st:Stmt}{te:TE}{tt:TT}
section
variable{X:Cx}
theorem QW(hu:X.A.units+1<cLine):Xp X "dict.setdefault" (λx xs H Q=>∃(d b:qR) (kvs:List (List Bq×V)) (k:List Bq) (y:V),x=.ref d/\xs=[.ref b,y]/\H d=some (.dT kvs)/\H b=some (.tup (k.map kV))/\kvs.length<sizeLine /\
  (∀z,Bg kvs k=some z->Q z H)/\(Bg kvs k=none->Q y (Ad H d (.dT (D1 kvs k y))))):=by
 intro ad s σ H x xs v us Q I rx rs h;rcases h with⟨d,b,kvs,k,y,rfl,rfl,e,eb,hz,h1,h2⟩;rcases On rs with⟨u1,u2,rfl,r1,r2⟩;cases rx;cases r1;rcases VM I.hok e with⟨z,hd,es,rel,dd⟩;have hl:es.length<=sizeLine:=by rw[<-Paired.length rel];exact z
 have rk:=rel.val k;refine call_meetsIn dL dd.typeIs PySem.F.entry_dict_setdefault (PySem.F.args_dict_setdefault_3 _ _ _) (meetsH_setDef (tupleKind (BO X.prog X.w)) d b hd u2) ⟨tupleKind_room_in1 hu,k,es,N7 I.hok eb,dd,hl,λp hp=>?_,λhn hp dd' sb=>?_⟩
 ·rw[hp]at rk;cases hv:Bg kvs k with
  |none=>rw[hv]at rk;exact (show False from rk).elim
  |some t =>
   rw[hv]at rk;exact⟨t,H,I.tok _,rk,h1 t hv⟩
 ·have hv:Bg kvs k=none:=by
   cases hv:Bg kvs k with
   |none=>rfl
   |some t=>rw[hv,hn]at rk;exact (show False from rk).elim
  have hlen:(D1 kvs k y).length<=sizeLine:=by have:=HM kvs k y;lia
  rcases dd' with⟨q,rows,ep,hq,g2,g3,g4,_,g5⟩;refine⟨y,_,LI (ob:=.dT (D1 kvs k y)) I (by rw[e];exact True.intro) sb ⟨q,hq⟩ ⟨hlen,hd,_,(rel.put k eb r2).keeps λc ys ec=>?_,q,rows,ep,hq,g2,g3,g4,g5⟩,r2,h2 hv⟩;rw[AK (Dc ec e (λz=>nomatch z))];exact ec
def WI(tk tv:TE):TE:=λσ H Q=>∀p,H p=none->tk σ (Ad H p (.dT [])) λx H1=>tv σ H1 λy H2=>∃(b:qR) (k:List Bq),x=.ref b/\H2 p=some (.dT [])/\H2 b=some (.tup (k.map kV))/\Q (.ref p) (Ad H2 p (.dT [(k,y)]))
theorem R7{k v:Expr}{tk tv:TE}(hu:X.A.units<cLine)(hk:PE X k tk)(hv:PE X v tv):PE X (.Dict [some k] [v] pos) (WI tk tv):=by
 intro ad s σ H Q I q;have hn:=I.hok.fresh (bL s.heap.objs.size);have I1:=I.laid (a:=s.heap.objs.size) (o:=.dT []) (h':=s.heap.push {cls:=.type "dict",data:=.dict #[]}) (t':=s.toks) (λ_ _ z=>bK _ z) (bL _) (Ry s.heap I.big);have h:=R4 (pos:=pos) hk hv (UM (X:=X) (pos:=pos));refine wpAny_Dict_any rfl rfl 1#4 (show 1<=15 by decide) (BN (h ad _ σ _ (λps H2=>match ps with|[(x,y)]=>∃(b:qR) (k:List Bq),x=.ref b/\H2 s.heap.objs.size=some (.dT [])/\H2 b=some (.tup (k.map kV))/\Q (.ref s.heap.objs.size) (Ad H2 s.heap.objs.size (.dT [(k,y)]))|_=>False) I1 (q _ hn)) λws s2 ⟨ps,H2,I2,rel,z0⟩=>?_);cases ps with
 |nil=>exact (show False from z0).elim
 |cons p ps =>
 cases ps with
 |cons _ _=>exact (show False from z0).elim
 |nil =>
  obtain⟨x,y⟩:=p;rcases z0 with⟨b,k,ex,e,eb,q2⟩;subst ex;cases rel with
  | @cons p1 p2 r1 r2 hh t =>
  cases t;obtain⟨u1,u2⟩:=p2;obtain⟨ru,rw'⟩:=hh;cases ru;rcases VM I2.hok e with⟨z,hd,es,rel,dd⟩;cases rel;unfold storeAll;rw[List.forIn_cons];refine qC (qC (wpAny_dictSet_heap (hsz:=cS _) (knd:=tupleKind (BO X.prog X.w)) hu (N7 I2.hok eb) dd λhp dd' sb=>qD ?_));show wpAny _ _ (forIn [] PUnit.unit _) _ _ _;rw[List.forIn_nil];refine qD ?_;rcases dd' with⟨q,rows,ep,hq,g2,g3,g4,_,g5⟩;refine⟨.ref s.heap.objs.size,_,LI (ob:=.dT [(k,y)]) I2 (by rw[e];exact True.intro) sb ⟨q,hq⟩ ⟨show 1<=sizeLine by decide,hd,_,Ma.keeps (Ma.put (show Ma H2 [] [] from Paired.nil) k eb rw') λc ys ec=>?_,q,rows,ep,hq,g2,g3,g4,g5⟩,rfl,q2⟩;rw[AK (Dc ec e (λz=>nomatch z))];exact ec
end
section
variable{p:List qQ->Prop}
theorem b0(h:p []):∀us:List qQ,us.length=0->p us:=λus e=>by cases us with
 |nil=>exact h
 |cons a r=>cases e
theorem b1(h:∀a,p [a]):∀us:List qQ,us.length=1->p us:=λus e=>by cases us with
 |nil=>cases e
 |cons a r=>exact b0 (p:=λl=>p (a::l)) (h a) r (Nat.succ.inj e)
theorem b2(h:∀a b,p [a,b]):∀us:List qQ,us.length=2->p us:=λus e=>by cases us with
 |nil=>cases e
 |cons a r=>exact b1 (p:=λl=>p (a::l)) (h a) r (Nat.succ.inj e)
theorem b3(h:∀a b c,p [a,b,c]):∀us:List qQ,us.length=3->p us:=λus e=>by cases us with
 |nil=>cases e
 |cons a r=>exact b2 (p:=λl=>p (a::l)) (h a) r (Nat.succ.inj e)
theorem b4(h:∀a b c d,p [a,b,c,d]):∀us:List qQ,us.length=4->p us:=λus e=>by cases us with
 |nil=>cases e
 |cons a r=>exact b3 (p:=λl=>p (a::l)) (h a) r (Nat.succ.inj e)
end
noncomputable def a9(N P:List Str)(sc:Scope):Bool:=decide (sc.kind=.function)&&!sc.isCoroutine&&!sc.isGenerator&&decide N.Nodup&&decide (N.take P.length=P) &&
 P.all (λx=>decide (sc.names.lookup x=some .local\/sc.names.lookup x=some .cell))&&sc.names.all λy=>decide (y.2≠.free)
theorem CD{N P:List Str}{sc:Scope}(h:a9 N P sc=true:=by decide +kernel):AJ N P sc:=by unfold a9 at h;simp only[Bool.and_eq_true,decide_eq_true_eq,Bool.not_eq_true',List.all_eq_true]at h;obtain⟨⟨⟨⟨⟨⟨a,b⟩,c⟩,d⟩,e⟩,f⟩,g⟩:=h;exact⟨a,b,c,d,e,f,g⟩
section
variable{P:qT}{w:qU}{K:qV}{mg:Str->Option qQ}{base:Heap}{x:Str}{f:qR}{N:List Str}{k:Nat}
theorem Bl.okY(F:Bl K x qual st f fd)(S:AJ N ps (AG st)) (h:∀vs H Q E,sp vs H Q E->vs.length=ps.length /\
  ∀(gu:qQ) (A:Around) (outer:List Env) (s:qS),Br k (A.deeper (envOfC qual (AG st) s.heap.objs.size f gu)) ->
   ∃t,FU (DX (Js P w) P w K mg base N qual (AG st) f gu A outer s H E).nox (BH st) t/\t {nx:=λ_ H'=>Q .non H',rt:=Q} (B4 N vs) H):FW P w K mg base (Js P w) (k+1) f fd ps sp:=
 F.ok0 S (λvs H Q E q=>(h vs H Q E q).1) λgu A outer s H vs Q E hr q=>(h vs H Q E q).2 gu A outer s hr
theorem Al(D:∃fd,Bl K x qual st f fd)(S:AJ N ps (AG st)) (h:∀vs H Q E,sp vs H Q E->vs.length=ps.length /\
  ∀(gu:qQ) (A:Around) (outer:List Env) (s:qS),Br k (A.deeper (envOfC qual (AG st) s.heap.objs.size f gu)) ->
   ∃t,FU (DX (Js P w) P w K mg base N qual (AG st) f gu A outer s H E).nox (BH st) t/\t {nx:=λ_ H'=>Q .non H',rt:=Q} (B4 N vs) H) (bd:DI x qual st ps:=by first|exact λ_ _ _ _ _ _=>b1 λ_=>rfl|exact λ_ _ _ _ _ _=>b2 λ_ _=>rfl|exact λ_ _ _ _ _ _=>b3 λ_ _ _=>rfl|exact λ_ _ _ _ _ _=>b4 λ_ _ _ _=>rfl):Ak P w K mg base (k+1) f ps sp:=
 T8 D S bd (λvs H Q E q=>(h vs H Q E q).1) λgu A outer s H vs Q E hr q=>(h vs H Q E q).2 gu A outer s hr
theorem PM(D:∃fd,Bl K x qual st f fd)(S:AJ N ps (AG st)) (h:∀vs H Q E,sp vs H Q E->vs.length=ps.length /\
  ∀(gu:qQ) (A:Around) (outer:List Env) (s:qS),Br k (A.deeper (envOfC qual (AG st) s.heap.objs.size f gu)) ->
   ∃t,FU (DX (Js P w) P w K mg base N qual (AG st) f gu A outer s H E) (BH st) t/\t {nx:=λ_ H'=>Q .non H',rt:=Q} (B4 N vs) H) (bd:DI x qual st ps:=by first|exact λ_ _ _ _ _ _=>b1 λ_=>rfl|exact λ_ _ _ _ _ _=>b2 λ_ _=>rfl|exact λ_ _ _ _ _ _=>b3 λ_ _ _=>rfl|exact λ_ _ _ _ _ _=>b4 λ_ _ _ _=>rfl):Ak P w K mg base (k+1) f ps sp:=
 T9 D S bd (λvs H Q E q=>(h vs H Q E q).1) λgu A outer s H vs Q E hr q=>(h vs H Q E q).2 gu A outer s hr
end
section
variable{X:Cx}{x:Str}{e elt iter:Expr}{t:TA}{pos' p px:Pos}{N:List Str}{sc:Scope}{k k':Nat}{f:qR}{fv:List (Nat×Str)}{ifs:List Expr}{wi:TI}
theorem AL(hr:Br k' X.A)(G:Ak X.prog X.w X.K X.mg X.base k f ps sp)(hm:X.mg x=some (.ref f))(ha:PA X (e::es) t)(hk:k<=k':=by decide)(hg:Gl X x:=by rfl)
  (hdb:(x==("__debug__":Str))=false:=by decide) (he:starEach (e::es) X.env=(false,eval e X.env)::starEach es X.env:=by rfl) (hpl:(backTo pos (starEach es X.env)).any (·.1)=false:=by rfl):
  PE X (.Call (.Name x p) (e::es) [] pos) (GV sp [] (λ_=>E0) t):=Cr G (hr.mono hk) hg hm Oz ha hdb he hpl
theorem AN(i:Nat)(S:AJ X.N ps sc)(he:PE X e te)(hi:X.N[i]?=some x:=by rfl)(hx:U4 X.env.scope x:=by first|exact Or.inl rfl|exact Or.inr rfl)(hs:swapsWith e (some (.Name x pos')) pos.line X.env=pure false:=by rfl)
  (hf:X.fn x=true\/X.env.scope.names.lookup x=some .local:=by first|exact .inl rfl|exact .inr rfl|assumption):PS X (.Assign [.Name x pos'] e pos) (P4 te (Fq i)):=IL S.nd hi hx he hs hf
theorem BF(i:Nat)(S:AJ X.N ps sc)(hi:X.N[i]?=some x:=by rfl)(hx:U4 X.env.scope x:=by first|exact Or.inl rfl|exact Or.inr rfl)
  (hf:X.fn x=true\/X.env.scope.names.lookup x=some .local:=by first|exact .inl rfl|exact .inr rfl|assumption):PG X (.Name x pos) (Fq i):=Hf S.nd hi hx hf
theorem F7(fv:List (Nat×Str))(cl:List (Str×qR))(hi:PI X (.Name x px) iter wi)(hf:∀s H C fp,PF (Ea X s H 0#9 fp (x::fv.map (·.2))) ifs tt)(he:∀s H C fp,PE (Ea X s H 0#9 fp (x::fv.map (·.2))) elt te)
  (hclos:closureFor scope X.env=pure cl:=by with_unfolding_all rfl) (hcell:∀y∈scope.names,y.2≠.cell:=by decide +kernel) (hk:scope.kind=.function:=by rfl) (hnames:∀z∈scope.names,z.2=.local->scope.names.lookup z.1=some .local:=by decide +kernel)
  (hx:scope.names.lookup x=some .local:=by rfl) (hcl:HV X.env cl:=by repeat' first|exact trivial|with_unfolding_all rfl|constructor) (hhas:((relabel scope X.env).names.all λz=>!(z.2==.cell||z.2==.free)||(cl.lookup z.1).isSome)=true:=by with_unfolding_all rfl)
  (hfv:Ia X scope cl fv:=by repeat' first|exact trivial|with_unfolding_all rfl|constructor) (hnd:(x::fv.map (·.2)).Nodup:=by decide) (hc:X.calm=true:=by rfl) (hs:∀x,foldedSetIterable iter X.env x=pure x:=by intro _;rfl):
  PE X (.ListComp elt [⟨.Name x px,iter,ifs,0⟩] scope pos) (Rk wi fv tt te):=UF hc hi hclos hcell hk hnames hx hcl hhas hfv hnd hf he hs
end
end L2
namespace PySem
open Sem (wp)
section
variable{prog:qT}{w:qU}{A:Around}{E:qQ->qS->Prop}{s:qS}
theorem collect_rng{Q:List qQ->qS->Prop}{r:qR}{a b c:Int}{t u v:Tok}{n:Nat}(hh:A.handled=none)(hr:IsRange s.heap r a b c t u v)(sm:Builtin.Range.small a b c=true)(hn:Builtin.Range.rangeSize a b c=n)(hz:n<=2^24)
  (q:∀(h':Heap) (tk:Nat) (gt:Array qQ),(∀b o,s.heap.get? b=some o->h'.get? b=some o)->ItemsOf (λi v=>∃t,v=.int (a+i*c) t) gt n->Q gt.toList {s with heap:=h',toks:=tk}):wpAny 0#7 A (collect (.ref r)) Q E s:=by
 unfold collect;apply qC;apply wpAny_runValue;refine codeAny_builtin F.entry_proto_collect ?_;rw[A.under_plainId F.plain_proto_collect];show wpAny _ A.in1 (newList [] >>= λz=>again (.builtin "list.__iadd__" ⟨[z,.ref r],[]⟩)) _ _ s;apply qC;refine wpAny_newObj_type ?_;apply qD;refine⟨plainId_quiet F.plain_list_iadd _,?_⟩;refine codeAny_builtin F.entry_list_iadd ?_;rw[A.under_plainId F.plain_list_iadd];generalize hS:s.heap.objs.size=S;generalize hG:s.heap.push {cls:=.type "list",data:=.seq ([]:List qQ).toArray}=G;have gS:G.get? S=some {cls:=.type "list",data:=.seq #[] 0}:=by rw[<-hG,<-hS];exact ba _ rfl
 have gk:∀b o,s.heap.get? b=some o->G.get? b=some o:=λb o e=>by rw[<-hG];exact bK _ e
 show wpAny _ A.in1 (Builtin.List.listExtendWith (.ref S) (.ref r) (.ref S)) _ _ _;refine qM (wpAny_extend_range (A:=A) (s:={s with heap:=G}) (R:=λx s'=>x=.ok (.ret (.ref S))/\∃(h':Heap) (tk:Nat) (gt:Array qQ) (c':Nat),s'={s with heap:=h',toks:=tk}/\(∀b o,s.heap.get? b=some o->h'.get? b=some o)/\h'.get? S=some {cls:=.type "list",dict:=none,data:=.seq gt c',slots:=#[]}/\ItemsOf (λi v=>∃t,v=.int (a+i*c) t) gt n) hh (gk _ _ hr) sm hn hz S (.ref S) 0 gS λh' tk gt c' hk hS' hacc=>⟨rfl,h',tk,gt,c',rfl,λb o e=>hk b o (λz=>?_) (gk b o e),hS',hacc⟩) (λfin s' h=>?_) (λe s' h=>?_)
 ·have:=bP e;rw[z,hS]at this;exact bu _ this
 ·have last:∀(x:Result) (s':qS),(x=.ok (.ret (.ref S))/\∃(h':Heap) (tk:Nat) (gt:Array qQ) (c':Nat),s'={s with heap:=h',toks:=tk}/\(∀b o,s.heap.get? b=some o->h'.get? b=some o)/\h'.get? S=some {cls:=.type "list",dict:=none,data:=.seq gt c',slots:=#[]}/\ItemsOf (λi v=>∃t,v=.int (a+i*c) t) gt n)->wpAny 0#7 A (match Value.ref S with
    |Value.ref a=>do
     match (<-load a).data with
      |Data.seq xs _=>pure xs.toList
      |_=>unsupported "internal:collect"
    |_=>unsupported "internal:collect") Q E s':=by
   intro x s' hRq;rcases hRq with⟨rfl,h',tk,gt,c',rfl,hk,hS',hacc⟩;show wpAny _ A (load S >>= _) _ _ _;apply qC;refine wpAny_load hS' ?_;exact qD (q h' tk gt hk hacc)
  cases fin with
  |done f =>
   have e:=h.1;cases e;exact last _ _ h
  |again c'=>exact⟨h.1,codeAny_mono h.2 λx s2 hx=>by have e:=hx.1;subst e;exact last _ _ hx⟩
 ·exact nomatch h.1
end
theorem tuple_new_rng(r:qR)(a b c:Int)(t u v:Tok)(n:Nat)(sm:Builtin.Range.small a b c=true)(hn:Builtin.Range.rangeSize a b c=n)(hz:n<=2^24):
  Meets (Builtin.«tuple.__new__» ⟨[.type "tuple",.ref r],[]⟩)
   (λA R s=>A.handled=none/\IsRange s.heap r a b c t u v/\∀(h':Heap) (tk:Nat) (gt:Array qQ),(∀b o,s.heap.get? b=some o->h'.get? b=some o)->ItemsOf (λi v=>∃t,v=.int (a+i*c) t) gt n->R (.ok (.ret (.ref h'.objs.size))) {s with heap:=h'.push {cls:=.type "tuple",data:=.seq gt},toks:=tk}):=
 .of_wp λprog w A R s h=>by
  obtain⟨hh,hr,q⟩:=h;have s1:=sub_tuple_self;have s2:=init_tuple_lookup;have s3:=madeHere_tuple;have hT:s.TypeIs (.ref r) "range":=⟨_,hr,rfl⟩;have hh1:A.in1.handled=none:=hh
  wp_walk using wpAny_typeOf hT,collect_rng hh1 hr sm hn hz
  intro h' tk gt hk hacc;show wpAny _ _ (Builtin.Tuple.tupleExact gt.toList.toArray >>= λz=>ret z) _ _ _;rw[show gt.toList.toArray=gt by simp];unfold Builtin.Tuple.tupleExact;have z:gt.size<=sizeLine:=by rw[hacc.1,sizeLine_eq];lia
  apply qC;refine wpAny_newObj_type ?_ z;exact qD ⟨_,rfl,q h' tk gt hk hacc⟩
section
variable{prog:qT}{w:qU}{A:Around}{E:qQ->qS->Prop}{s:qS}
theorem call_tuple_rng{Q:qQ->qS->Prop}{r:qR}{a b c:Int}{t u v:Tok}{n:Nat}(hh:A.handled=none)(hr:IsRange s.heap r a b c t u v)(sm:Builtin.Range.small a b c=true)(hn:Builtin.Range.rangeSize a b c=n)(hz:n<=2^24)
  (q:∀(h':Heap) (tk:Nat) (gt:Array qQ),(∀b o,s.heap.get? b=some o->h'.get? b=some o)->ItemsOf (λi v=>∃t,v=.int (a+i*c) t) gt n->Q (.ref h'.objs.size) {s with heap:=h'.push {cls:=.type "tuple",data:=.seq gt},toks:=tk}):
  wpAny 0#7 A (call (.type "tuple") [.ref r]) Q E s:=
 callType_new F.called_tuple 0#8 (F.typeCall_tuple_1 _) (F.newCall_tuple_1 _) (λx=>F.args_object_init_2 x _) F.entry_tuple_new (tuple_new_rng r a b c t u v n sm hn hz) ⟨hh,hr,λh' tk gt hk hacc=>⟨⟨_,ba _ rfl,rfl⟩,q h' tk gt hk hacc⟩⟩
end
end PySem
namespace L2
open PySem PySem.Spec PyProof.Rows RW
variable{ta:TA}
section
variable{X:Cx}
def UN(ta:TA):TE:=λσ H Q=>ta σ H λvs H1=>∃j:Int,vs=[.int j]/\0<=j/\j<=1000/\∀p,H1 p=none->Q (.ref p) (Ad H1 p (.tup ((CM j.toNat).map V.int)))
theorem QX{l:Expr}{p1 p2 pos1 pos2:Pos}(hc:X.calm=true)(hg:Gl X "range")(hm:X.mg "range"=none)(hg2:Gl X "tuple")(hm2:X.mg "tuple"=none)(ha:PA X [l] ta)(hs:starEach [l] X.env=[(false,eval l X.env)]:=by rfl)
  (hs2:starEach [.Call (.Name "range" p1) [l] [] pos1] X.env=[(false,eval (.Call (.Name "range" p1) [l] [] pos1) X.env)]:=by rfl):
  PE X (.Call (.Name "tuple" p2) [.Call (.Name "range" p1) [l] [] pos1] [] pos2) (UN ta):=by
 intro ad s σ H Q I h;refine Call_ (CL I hg2 hm2 dN (bz (T:="tuple") ?_ hs2 rfl));rw[hs2];show wpAny _ _ (spliced ((false,eval (.Call (.Name "range" p1) [l] [] pos1) X.env)::[])) _ _ s;refine Calls.spliced_cons (Call_ (CL I hg hm boot_range (bz (BN (ha pos1 ad s σ H _ I h) λus s1 z9=>?_) hs rfl)));obtain⟨vs,H1,I1,r1,q1⟩:=z9;rcases q1 with⟨j,e,j0,j1,q⟩;subst e;cases r1 with
 |cons r rr =>
  cases rr;obtain⟨t,rfl⟩:=r;refine call_range_1 (Calls.spliced_nil ?_);have sm:Builtin.Range.small 0 j 1=true:=small_one 0#1 0#1 0#1 0#1;refine call_tuple_rng (I.ok.hd hc) (IsRange.new ..) sm (n:=j.toNat) (by rw[rangeSize_one];split<;>lia) 0#1 λh1 tk gt k1 hacc=>?_;have k2:∀b o,s1.heap.get? b=some o->h1.get? b=some o:=λb o z=>k1 b o (bK _ z)
  have I2:AT X ad σ H1 {s1 with heap:=h1,toks:=tk}:=I1.kept (t':=tk) k2;refine⟨.ref h1.objs.size,_,I2.laid (t':=tk) (λb o e=>bK _ e) (bL _) (show Ax X.prog X.w _ _ _ (.tup ((CM j.toNat).map V.int)) from⟨by rw[bG,Be];exact RZ 0#1,gt.toList,?_,IsTup.new _ _⟩),rfl,q _ (I2.hok.fresh (bL _))⟩;refine K1 (by rw[bG,Be,cg,hacc.1]) λi x u e1 e2=>?_
  have hi:i<j.toNat:=by have z:=(bJ.mp e1).1;rw[bG,Be]at z;exact z
  rw[bO,DH hi]at e1;cases e1;obtain⟨t',z⟩:=hacc.2 i u (by simpa using e2);exact⟨t',by rw[z,b7,fH]⟩
end
end L2
namespace L2
open PySem PySem.Spec PyProof.Rows
end L2
namespace L2
open PySem PySem.Spec PyProof.Rows RW
variable{G M' m':Nat}{lo lo' low':Int}{g6 tab':qW}
theorem B2{l:qW}{n k:Nat}(h:k<n):(l.take n).getD k 0=l.getD k 0:=by rw[bH,fu,qF h,bH]
theorem Mb{g:Int}{m:Nat}(hm:1<=m)(c0:BW g g6 (g^(m-1))=true)(c1:BW g g6 1=true):CP g lo g6 m lo m:=
 ⟨hm,λj hj _=>by lia,.inr ⟨0,m-1,by lia,by lia,by lia,by lia,by rw[fi];exact c0,by rw[dJ,cF];exact c1⟩⟩
theorem R9{g:Int}(hg:2<=g){m:Nat}(hl:(g6.length:Int)=g^m)(hl':(tab'.length:Int)=g^m')(al:Ba g lo' tab' m' lo g6 m)(n':CP g lo' tab' m' lo' m'){low:Int}{M:Nat}(n:CP g lo g6 m low M):low=lo'/\M=m'/\Cy g lo g6 m low M=tab':=by obtain⟨e1,e2⟩:=(Ce hg hl' hl n' n).mp al;rw[Il hg lo' hl']at e2;refine⟨e1.symm,?_,e2.symm⟩;have a:=BZ hg lo g6 m low M;rw[<-e2,hl']at a;exact (EI hg a).symm
def BU(g lo:Int)(g6:qW)(m:Nat)(lf:Int)(tf:qW)(mf:Nat):Prop:=∃(low:Int) (M:Nat),CP g lo g6 m low M/\lf=low/\((M=1/\mf=2/\tf=Cy g low (Cy g lo g6 m low 1) 1 low 2)\/(2<=M/\mf=M/\tf=Cy g lo g6 m low M))
theorem SA{g:Int}(hg:2<=g){m:Nat}(hl:(g6.length:Int)=g^m){low:Int}{M:Nat}(n:CP g lo g6 m low M)(n':CP g lo g6 m low' M'):low=low'/\M=M':=by
 obtain⟨e1,e2⟩:=(Ce hg hl hl n n').mp λ_ _=>rfl
 refine⟨e1,?_⟩;have a:=BZ hg lo g6 m low M;rw[e2,BZ hg]at a;exact (EI hg a).symm
theorem LJ(g lo:Int)(g6:qW)(m:Nat):∃low M,CP g lo g6 m low M:=by
 by_cases hc:Bo g lo g6 m=[]
 ·exact⟨0,1,MQ hc⟩
 ·obtain⟨M,_,_,hW⟩:=KP hc;exact⟨_,M,hW⟩
theorem JA{g:Int}(hg:2<=g){m:Nat}(hl:(g6.length:Int)=g^m)(hl':(tab'.length:Int)=g^m')(al:Ba g lo' tab' m' lo g6 m)(h2:2<=m')(c0:BW g tab' (g^(m'-1))=true)(c1:BW g tab' 1=true):BU g lo g6 m lo' tab' m':=by obtain⟨low,M,n⟩:=LJ g lo g6 m;obtain⟨rfl,rfl,e⟩:=R9 hg hl hl' al (Mb 0#1 c0 c1) n;exact⟨_,_,n,rfl,.inr ⟨h2,rfl,e.symm⟩⟩
theorem KQ{g:Int}(hg:2<=g){m:Nat}(hl:(g6.length:Int)=g^m)(hl':(tab'.length:Int)=g^1)(al:Ba g lo' tab' 1 lo g6 m)(c1:BW g tab' 1=true):BU g lo g6 m lo' (Cy g lo' tab' 1 lo' 2) 2:=by obtain⟨low,M,n⟩:=LJ g lo g6 m;obtain⟨rfl,rfl,e⟩:=R9 hg hl hl' al (Mb (bL _) (by rw[dJ,cF];exact c1) c1) n;exact⟨_,_,n,rfl,.inl ⟨rfl,rfl,by rw[e]⟩⟩
theorem N8{g:Int}(hg:2<=g)(hG:(G:Int)=g)(x:Int)(T:qW):Cy g x T 1 x 2=(List.range (G*G)).map λk=>T.getD (k/G) 0:=by
 have g22:g^2=((G*G:Nat):Int):=by rw[show (2:Nat)=0+1+1 from rfl,cB,cB,cF,dR,<-hG,cx]
 have hL:=BZ hg x T 1 x 2;refine AU (by rw[bG,bn];lia) λk hk=>?_;have hk2:k<G*G:=by lia
 rw[AS hk2];unfold Cy;rw[AS 0#1]
 congr 1
 have e:Ho (Ai g (k:Int) 2) (x-x) 1=[((k/G:Nat):Int)]:=by obtain⟨a,b,hw,ha,hb⟩:∃a b:Int,Ai g (k:Int) 2=[a,b]/\a=(k:Int)/g%g/\b=(k:Int)%g:=⟨_,_,rfl,rfl,rfl⟩;rw[hw];show[sn [a,b] (x-x+((0:Nat):Int))]=_;rw[show x-x+((0:Nat):Int)=0 by lia];show[a]=_;rw[ha,<-hG,<-dP,<-cD,dH (cc hk2)]
 rw[e,LC,bM]
variable{lf:Int}{tf:qW}{mf:Nat}
theorem BU.two{g:Int}{m:Nat}(h:BU g lo g6 m lf tf mf):2<=mf:=by
 obtain⟨low,M,_,_,z|z⟩:=h
 ·lia
 ·lia
inductive F8(CT:qR)(vs:List V)(H:Hp)(Q:VK)(E:XK):Prop
 |m (r:qR) (g lo:Int) (g6:qW) (m:Nat) (lf:Int) (tf:qW) (mf:Nat):vs=[.ref r]->Aj H r g lo g6 m->BU g lo g6 m lf tf mf->(g^(mf-1)<=9->∀r' H',AH H H'->Aj H' r' g lf tf mf->Q (.ref r') H')->(9<g^(mf-1)->∀H',AH H H'->E (.ref CT) none H')->F8 CT vs H Q E
end L2
namespace L2
noncomputable def D5(g:Int)(ta:qW)(ma:Nat)(tb:qW)(M:Nat):qW:=(List.range (g^M).toNat).map λn:Nat=>tb.getD (Ao g (Aw g ta ma (Ai g (n:Int) M))).toNat 0
theorem KR{g:Int}(hg:2<=g)(ta:qW)(ma:Nat)(tb:qW)(M:Nat):((D5 g ta ma tb M).length:Int)=g^M:=by unfold D5;rw[bG,bn,bp (dG (RW.Ag hg M))]
theorem SB{g:Int}(hg:2<=g)(ta:qW)(ma:Nat){tb:qW}(hb:∀n∈tb,0<=n/\n<g)(M:Nat):∀n∈D5 g ta ma tb M,0<=n/\n<g:=λn hn=>by unfold D5 at hn;obtain⟨j,_,e⟩:=bg.mp hn;subst e;exact Bf hg hb _
theorem N9{g:Int}(hg:2<=g)(ta:qW)(ma:Nat)(tb:qW){w:qW}(hb:∀n∈w,0<=n/\n<g):(D5 g ta ma tb w.length).getD (Ao g w).toNat 0=tb.getD (Ao g (Aw g ta ma w)).toNat 0:=by have b:=BR hg hb;unfold D5;rw[AS 0#1,show (((Ao g w).toNat:Nat):Int)=Ao g w by lia,B8 hg hb]
end L2
namespace L2
open PySem PySem.Spec PyProof.Rows RW
variable{G M' i m' mf:Nat}{H H':Hp}{lf lo lo' low':Int}{g6 tab' tf:qW}{α β:Type}
theorem Mc{g:Int}(hg:2<=g){m:Nat}(hl:(g6.length:Int)=g^m)(hl':(tab'.length:Int)=g^m')(al:Ba g lo g6 m lo' tab' m'){low:Int}{M:Nat}(n:CP g lo g6 m low M)(n':CP g lo' tab' m' low' M'):low=low'/\M=M'/\Cy g lo g6 m low M=Cy g lo' tab' m' low' M':=by obtain⟨e1,e2⟩:=(Ce hg hl hl' n n').mp al;have a:=BZ hg lo g6 m low M;rw[e2,BZ hg]at a;exact⟨e1,(EI hg a).symm,e2⟩
theorem Md{g:Int}(hg:2<=g){m:Nat}(hl:(g6.length:Int)=g^m){low:Int}{M:Nat}(n:CP g lo g6 m low M):Ba g low (Cy g lo g6 m low M) M lo g6 m:=λx hx=>Di hg hl n.all hx
theorem LK{g:Int}(hg:2<=g){m:Nat}(al:Ba g lo g6 m lo' tab' m'){ring:qW}(hb:∀n∈ring,0<=n/\n<g):A1 g lo g6 m ring=A1 g lo' tab' m' ring:=by
 unfold A1;refine bU λi _=>?_;have z:=al (λz=>A7 ring ((i:Int)+z)) λz=>Bf hg hb _
 unfold CV at z
 have e:∀(l:Int) (k:Nat),BL (λz=>A7 ring ((i:Int)+z)) l k=Bn ring k ((i:Int)+l):=λl k=>by
  unfold BL Bn;refine bU λj _=>?_;show A7 ring ((i:Int)+(l+(j:Int)))=_
  congr 1;lia
 rw[e,e]at z;exact z
theorem SC(x:Int->Int)(l:Int){M k m:Nat}(h:k+m<=M):((BL x l M).drop k).take m=BL x (l+(k:Int)) m:=by
 unfold BL;rw[<-List.map_drop,<-ez,Eb _ _ _ h,c9];refine bU λj _=>?_;show x (l+((k+j:Nat):Int))=_
 congr 1;lia
theorem SD{g:Int}(hg:2<=g)(la lb:Int)(ta:qW){ma:Nat}(tb:qW){mb:Nat}(h1:1<=ma)(h2:1<=mb){x:Int->Int}(hx:Ei g x):CV g (la+lb) (D5 g ta ma tb (ma+mb-1)) (ma+mb-1) x=CV g lb tb mb λz=>CV g la ta ma λy=>x (z+y):=by
 unfold CV;have e:=N9 hg ta ma tb (EN hx (la+lb) (ma+mb-1));rw[A6]at e;rw[e]
 congr 3
 refine AU ?_ λk hk=>?_
 ·rw[BD,A6,A6];lia
 rw[BD,A6]at hk
 have e1:(Aw g ta ma (BL x (la+lb) (ma+mb-1))).getD k 0=MJ g ta ma (BL x (la+lb) (ma+mb-1)) k:=by unfold Aw;exact AS (by rw[A6];exact hk)
 rw[e1];unfold MJ;rw[SC x _ 0#1]
 have e2:(BL (λz=>ta.getD (Ao g (BL (λy=>x (z+y)) la ma)).toNat 0) lb mb).getD k 0=ta.getD (Ao g (BL (λy=>x (lb+(k:Int)+y)) la ma)).toNat 0:=by show ((List.range mb).map _).getD k 0=_;rw[AS 0#1]
 rw[e2]
 congr 3
 unfold BL;refine bU λj _=>?_;show x (la+lb+(k:Int)+(j:Int))=x (lb+(k:Int)+(la+(j:Int)))
 congr 1;lia
theorem EO{l:List α}{F G:α->List β}(h:∀a∈l,F a=G a):l.flatMap F=l.flatMap G:=by
 induction l with
 |nil=>rfl
 |cons a r ih=>rw[cV,cV,h a bo,ih λb hb=>h b (bi _ hb)]
theorem OA{g:Int}(hg:2<=g){a b:Nat}{i j:Int}(i0:0<=i)(i1:i<g^a)(j0:0<=j)(j1:j<g^b):Ai g (i*g^b+j) (a+b)=Ai g i a++Ai g j b:=by
 have hb:∀x∈Ai g i a++Ai g j b,0<=x/\x<g:=λx hx=>(bQ.mp hx).elim (By hg _ _ x) (By hg _ _ x)
 have e:=B8 hg hb;rw[CO,BE,Cj hg i0 i1,Cj hg j0 j1,bN,BE,BE]at e;exact e
theorem OB(A B:Nat):List.range (A*B)=(List.range A).flatMap λi=>(List.range B).map λj=>i*B+j:=by
 induction A with
 |zero=>rw[Nat.zero_mul];rfl
 |succ A ih =>
  rw[Nat.succ_mul,cH,d5,<-ih,List.range_add];simp
noncomputable def BV(g:Int)(m:Nat):List (qW):=(List.range (g^m).toNat).map λn:Nat=>Ai g (n:Int) m
theorem OC(g:Int):BV g 0=[[]]:=by unfold BV;rw[cF];rfl
theorem UO{g:Int}(hg:2<=g)(a b:Nat):(g^(a+b)).toNat=(g^a).toNat*(g^b).toNat:=by have pa:=RW.Ag hg a;have pb:=RW.Ag hg b;rw[Int.pow_add,Int.toNat_mul (dG pa) (dG pb)]
theorem KS{g:Int}(hg:2<=g)(a b:Nat):BV g (a+b)=(BV g a).flatMap λu=>(BV g b).map (u++·):=by have pa:=RW.Ag hg a;have pb:=RW.Ag hg b;unfold BV;rw[UO hg,OB,List.map_flatMap,gR];refine EO λi hi=>?_;rw[c9,c9];refine bU λj hj=>?_;have hi':=bh.mp hi;have hj':=bh.mp hj;show Ai g ((i*(g^b).toNat+j:Nat):Int) (a+b)=Ai g (i:Int) a++Ai g (j:Int) b;rw[<-OA hg 0#1 0#1 0#1 0#1,cy,cx,bp (dG pb)]
theorem SE{g:Int}(hg:2<=g){n:Nat}(h:(n:Int)<g):Ai g (n:Int) 1=[(n:Int)]:=by show[(n:Int)%g]=_;rw[cI 0#1 h]
theorem OD{g:Int}(hg:2<=g)(n:Nat):BV g (n+1)=(List.range g.toNat).flatMap λj:Nat=>(BV g n).map ((j:Int)::·):=by rw[eV,KS hg];unfold BV;rw[show g^1=g by rw[cB,cF,dR],gR];refine EO λj hj=>?_;have hj':=bh.mp hj;rw[SE hg 0#1];rfl
noncomputable def Hw(G:Nat)(g6:qW):qW->Nat->List (qW)
 |[],_=>[[]]
 |s::r,h=>(B7 G g6 h s).flatMap λf=>(Hw G g6 r (f%(g6.length/G))).map (((f%G:Nat):Int)::·)
theorem F9(l:List Nat):((l.sum:Nat):Int)=(l.map λn:Nat=>(n:Int)).sum:=by
 induction l with
 |nil=>rfl
 |cons a r ih=>rw[dc,cU,dc,cy,ih]
theorem FJ(G:Nat)(g6:qW):∀(r:qW) (h:Nat),((Hw G g6 r h).length:Int)=Hr G g6 r h
 |[],_=>rfl
 |s::r,h=>by
  rw[Hw,List.length_flatMap,F9,c9,<-Iu]
  congr 1
  refine bU λf _=>?_;show (((Hw G g6 r (f%(g6.length/G))).map _).length:Int)=_;rw[bG,FJ G g6 r]
theorem QY{g:Int}(hg:2<=g){m:Nat}(hl:(g6.length:Int)=g^m)(hm:1<=m){w:qW}(hw:w.length=m-1){x:Int}(hb:∀n∈w++[x],0<=n/\n<g):∃w':qW,w'.length=m-1/\(∀n∈w',0<=n/\n<g)/\((Ao g w).toNat*g.toNat+x.toNat)%0#5=(Ao g w').toNat/\∀r,Aw g g6 m (w++x::r)=g6.getD ((Ao g w).toNat*g.toNat+x.toNat) 0::Aw g g6 m (w'++r):=by
 have hx:=hb x 1#4
 obtain⟨y,w',e⟩:∃y w',w++[x]=y::w':=by
  cases w with
  |nil=>exact⟨x,[],rfl⟩
  |cons a t=>exact⟨a,t++[x],rfl⟩
 have e2:∀r,w++x::r=y::(w'++r):=λr=>by rw[<-gQ,<-e,cN];rfl
 have hw':w'.length=m-1:=by have:=qP List.length e;rw[bN,cW]at this;simp only[List.length_cons,List.length_nil]at this;lia
 have hbw:∀n∈w,0<=n/\n<g:=λn hn=>hb n (bQ.mpr (.inl hn))
 have hbw':∀n∈w',0<=n/\n<g:=λn hn=>hb n (by rw[e];exact bi _ hn)
 have hd:=A8 hg hl hm;have b1:=BR hg hbw;have b2:=BR hg hbw';rw[hw']at b2;have nx:Ao g [x]=x:=by show 0*g+x=x;rw[fN,b7]
 refine⟨w',hw',hbw',?_,λr=>?_⟩
 ·have z:Ao g w*g+x=Ao g w'+y*g^(m-1):=by
   have q:=qP (Ao g) e;rw[CO,show y::w'=[y]++w' from rfl,CO,hw']at q;have ny:Ao g [y]=y:=by show 0*g+y=y;rw[fN,b7]
   rw[nx,ny]at q;have g1:g^([x]:qW).length=g:=by show g^1=g;rw[cB,cF,dR]
   rw[g1]at q;lia
  apply Int.ofNat.inj;show (((Ao g w).toNat*g.toNat+x.toNat)%0#5:Nat)=(((Ao g w').toNat:Nat):Int);rw[cD,cy,cx,hd.1,bp b1.1,bp 0#1,bp hx.1,bp b2.1,z,dh y,d6,cI b2.1 b2.2]
 ·rw[e2 r,QS (by rw[bN];lia)]
  congr 1
  unfold MJ
  have t1:(List.drop 0 (y::(w'++r))).take m=w++[x]:=by rw[List.drop_zero,<-List.cons_append,<-e,List.take_append_of_le_length (by simp only[List.length_append,List.length_cons,List.length_nil];lia),List.take_of_length_le (by simp only[List.length_append,List.length_cons,List.length_nil];lia)]
  rw[t1,CO]
  congr 1
  show (Ao g w*g^1+Ao g [x]).toNat=_;rw[nx,cB,cF,dR,Int.toNat_add (Int.mul_nonneg b1.1 0#1) hx.1,Int.toNat_mul b1.1 0#1]
theorem Me(p:α->Bool)(F:α->List β)(l:List α):(l.filter p).flatMap F=l.flatMap λa=>if p a then F a else[]:=by
 induction l with
 |nil=>rfl
 |cons a r ih =>
  rw[dW,cV];split
  ·rw[cV,ih]
  ·rw[ih];rfl
theorem Ex(p:β->Bool)(F:α->List β)(l:List α):(l.flatMap F).filter p=l.flatMap λa=>(F a).filter p:=by
 induction l with
 |nil=>rfl
 |cons a r ih=>rw[cV,ce,ih,cV]
theorem JB{g:Int}(hg:2<=g){m:Nat}(hl:(g6.length:Int)=g^m)(hm:1<=m):∀(row w:qW),w.length=m-1->(∀n∈w,0<=n/\n<g)->(BV g row.length).filter (λc=>decide (Aw g g6 m (w++c)=row))=Hw g.toNat g6 row (Ao g w).toNat
 |[],w,hw,_=>by show (BV g 0).filter _=[[]];rw[OC];have:Aw g g6 m w=[]:=MU 0#1;simp[this]
 |s::r,w,hw,hb=>by
  show (BV g (r.length+1)).filter _=_;rw[OD hg,Ex,Hw];unfold B7;rw[gR,Me];refine EO λj hj=>?_;have hj':=bh.mp hj;refine byG λGq hGq=>?_;obtain⟨w',hw',hbw',hmod,hled⟩:=QY hg hl hm hw (x:=(j:Int)) (λn hn=>(bQ.mp hn).elim (hb n) λz=>by rw[bV.mp z];lia);refine hGq ?_;clear hGq Gq;rw[bM]at hmod hled;have ih:=JB hg hl hm r w' hw' hbw';rw[gl];have jm:((Ao g w).toNat*g.toNat+j)%g.toNat=j:=by rw[fU,dH hj']
  by_cases e:g6.getD ((Ao g w).toNat*g.toNat+j) 0=s
  ·rw[qF (qH e),hmod,jm,<-ih]
   congr 1
   refine List.filter_congr λc _=>?_;show decide (Aw g g6 m (w++(j:Int)::c)=s::r)=_;rw[hled,e];simp
  ·rw[qE (by rw[qI e];decide)];have:(BV g r.length).filter ((λc=>decide (Aw g g6 m (w++c)=s::r))∘λx=>(j:Int)::x)=[]:=by rw[List.filter_eq_nil_iff];intro c _;show ¬decide (Aw g g6 m (w++(j:Int)::c)=s::r)=true;rw[decide_eq_true_iff,hled];exact λz=>e (List.cons.inj z).1
   rw[this];rfl
noncomputable def Dr(g:Int)(g6:qW)(m:Nat)(row:qW):List (qW):=(List.range 0#5).flatMap λh=>(Hw g.toNat g6 row h).map (Ai g (h:Int) (m-1)++·)
theorem KU{g:Int}(hg:2<=g){m:Nat}(hl:(g6.length:Int)=g^m)(hm:1<=m)(row:qW):(BV g (row.length+m-1)).filter (λw=>decide (Aw g g6 m w=row))=Dr g g6 m row:=by have hd:=A8 hg hl hm;have hp:=RW.Ag hg (m-1);rw[show row.length+m-1=(m-1)+row.length by lia,KS hg,Ex];unfold Dr;show ((List.range (g^(m-1)).toNat).map λn:Nat=>Ai g (n:Int) (m-1)).flatMap _=_;rw[gR,show (g^(m-1)).toNat=g6.length/g.toNat by lia];refine EO λh hh=>?_;have hh':=bh.mp hh;rw[gl];have e:=JB hg hl hm row (Ai g (h:Int) (m-1)) (BE _ _ _) (By hg _ _);rw[Cj hg 0#1 0#1,bM]at e;rw[<-e];rfl
theorem LL{g:Int}(g6:qW)(m:Nat)(row:qW):((Dr g g6 m row).length:Int)=Fd g.toNat g6 row:=by
 unfold Dr;rw[List.length_flatMap,F9,c9];show _=Aq _ _;unfold Aq
 congr 1
 refine bU λh _=>?_;show (((Hw g.toNat g6 row h).map _).length:Int)=_;rw[bG,FJ]
theorem JC(F:α->List β):∀(l:List α) (k rest:Nat) (a:α),l[k]?=some a->rest<(F a).length->(l.flatMap F)[((l.take k).map λx=>(F x).length).sum+rest]?=(F a)[rest]?
 |[],k,rest,a,h,_=>by simp at h
 |b::l,0,rest,a,h,hr=>by
  have:b=a:=by simpa using h
  subst this;rw[List.take_zero,List.map_nil,List.sum_nil,fj,cV,b8 hr]
 |b::l,k+1,rest,a,h,hr=>by rw[List.take_succ_cons,cU,dc,cV,fT,bt 0#1,de];exact JC F l k rest a (by simpa using h) hr
theorem Jz{ps:qW}{k:Nat}(h:k<ps.length):(ps.take (k+1)).sum=(ps.take k).sum+ps.getD k 0:=by rw[dg,bI h,fK,bH,bI h];simp
inductive JD(vs:List V)(H:Hp)(Q:VK)(z3_:XK):Prop
 |m (p:qR) (ps:qW) (n:Int):vs=[.ref p,.int n]->H p=some (.lst (ps.map V.int))->0<=n->n<ps.sum->(∀(k rest:Nat) (b:qR) (H':Hp),AH H H'->k<ps.length->(rest:Int)<ps.getD k 0->n=(ps.take k).sum+(rest:Int)->H' b=some (.tup [.int ((k:Nat):Int),.int ((rest:Nat):Int)])->Q (.ref b) H')->JD vs H Q z3_
inductive JE(K:qV)(vs:List V)(H:Hp)(Q:VK)(z3_:XK):Prop
 |m (r a p:qR) (g lo:Int) (g6:qW) (m:Nat) (row:qW) (n:Nat):vs=[.ref r,.ref a,.ref p,.int ((n:Nat):Int)]->Aj H r g lo g6 m->Ae K H a (row.map V.int)->row.length<=100->VL H p g.toNat g6 row->(n:Int)<Fd g.toNat g6 row->(∀q H' w,(Dr g g6 m row)[n]?=some w->Fa H H' q w->Q (.ref q) H')->JE K vs H Q z3_
variable{c row:qW}
theorem WJ{g:Int}{m:Nat}{h rest n:Nat}(hh:h<g6.length/g.toNat)(hr:(rest:Int)<Hr g.toNat g6 row h)(hn:(n:Int)=((Ev g.toNat g6 row).take h).sum+(rest:Int))(hc:(Hw g.toNat g6 row h)[rest]?=some c):(Dr g g6 m row)[n]?=some (Ai g (h:Int) (m-1)++c):=by
 have hl:=FJ g.toNat g6 row h;have z:=JC (λh:Nat=>(Hw g.toNat g6 row h).map (Ai g (h:Int) (m-1)++·)) (List.range 0#5) h rest h (by rw[d4 hh]) (by rw[bG];lia)
 have en:n=(((List.range 0#5).take h).map λx:Nat=>((Hw g.toNat g6 row x).map (Ai g (x:Int) (m-1)++·)).length).sum+rest:=by
  apply Int.ofNat.inj;show (n:Int)=((_:Nat):Int);rw[hn,cy,F9,c9]
  congr 1
  unfold Ev;rw[<-ez]
  congr 1
  refine bU λx _=>?_;show _=(((Hw g.toNat g6 row x).map _).length:Int);rw[bG,FJ]
 rw[<-en]at z;unfold Dr;rw[z,bO,hc];rfl
theorem YG{s:Int}{r:qW}{h k rest n f:Nat}(hf:(B7 G g6 h s)[k]?=some f)(hr:(rest:Int)<Hr G g6 r (f%(g6.length/G)))(hn:(n:Int)=(((B7 G g6 h s).map λf=>Hr G g6 r (f%(g6.length/G))).take k).sum+(rest:Int))(hc:(Hw G g6 r (f%(g6.length/G)))[rest]?=some c):(Hw G g6 (s::r) h)[n]?=some (((f%G:Nat):Int)::c):=by
 have hl:=FJ G g6 r (f%(g6.length/G));have z:=JC (λf:Nat=>(Hw G g6 r (f%(g6.length/G))).map (((f%G:Nat):Int)::·)) (B7 G g6 h s) k rest f hf (by rw[bG];lia)
 have en:n=(((B7 G g6 h s).take k).map λx:Nat=>((Hw G g6 r (x%(g6.length/G))).map (((x%G:Nat):Int)::·)).length).sum+rest:=by
  apply Int.ofNat.inj;show (n:Int)=((_:Nat):Int);rw[hn,cy,F9,c9]
  congr 1
  rw[<-ez]
  congr 1
  refine bU λx _=>?_;show _=(((Hw G g6 r (x%(g6.length/G))).map _).length:Int);rw[bG,FJ]
 rw[<-en]at z;rw[Hw,z,bO,hc];rfl
theorem JF(g x:Int)(r:qW):Ao g (x::r)=x*g^r.length+Ao g r:=by
 have e:=CO g [x] r;have nx:Ao g [x]=x:=by show 0*g+x=x;rw[fN,b7]
 rw[nx]at e;exact e
noncomputable def Gg(G:Nat)(g6:qW)(h:Nat):qW->Nat->Nat->Int
 |[],u,v=>if u=v then 1 else 0
 |s::r,u,v=>Aq G λj=>Dq (decide (g6.getD (u*G+j) 0=s)) (Gg G g6 h r ((u*G+j)%h) v)
noncomputable def Mf(G h:Nat)(u:Nat)(c:qW):Nat:=c.foldl (λu x=>(u*G+x.toNat)%h) u
theorem Mg(F:α->List β):∀l:List α,((l.flatMap F).length:Int)=(l.map λa=>((F a).length:Int)).sum
 |[]=>rfl
 |a::l=>by rw[cV,bN,cU,dc,<-Mg F l];lia
theorem Mh(G1:1<=G)(g6:qW)(v:Nat):∀(row:qW) (u:Nat),(((Hw G g6 row u).filter λc=>decide (Mf G (g6.length/G) u c=v)).length:Int)=Gg G g6 (g6.length/G) row u v
 |[],u=>by
  show ((([[]]:List (qW)).filter λc=>decide (Mf G (g6.length/G) u c=v)).length:Int)=if u=v then 1 else 0
  by_cases z:u=v
  ·rw[qF z,dW,qF (qH (show Mf G (g6.length/G) u []=v from z))];rfl
  ·rw[qE z,dW,qE (by rw[qI (show ¬Mf G (g6.length/G) u []=v from z)];decide)];rfl
 |s::r,u=>by
  show ((((B7 G g6 u s).flatMap λf=>(Hw G g6 r (f%(g6.length/G))).map (((f%G:Nat):Int)::·)).filter _).length:Int)=Aq G _;rw[Ex,Mg]
  have e:∀f∈B7 G g6 u s,((((Hw G g6 r (f%(g6.length/G))).map (((f%G:Nat):Int)::·)).filter λc=>decide (Mf G (g6.length/G) u c=v)).length:Int)=Gg G g6 (g6.length/G) r (f%(g6.length/G)) v:=λf hf=>by
   obtain⟨j,hj,hs,rfl⟩:∃j,j<G/\g6.getD (u*G+j) 0=s/\f=u*G+j:=by unfold B7 at hf;obtain⟨j,hj,rfl⟩:=bg.mp hf;have z:=cE.mp hj;exact⟨j,bh.mp z.1,qN z.2,rfl⟩
   have m:(u*G+j)%G=j:=by rw[dS,Nat.mul_add_mod,dH hj]
   rw[m,<-Mh G1 g6 v r,gl,bG];rfl
  rw[bU e];exact MV G g6 u s _
theorem KW{g:Int}(hg:2<=g){m:Nat}(hl:(g6.length:Int)=g^m)(hm:1<=m){w:qW}(hw:w.length=m-1){x:Int}(hb:∀n∈w++[x],0<=n/\n<g):((Ao g w).toNat*g.toNat+x.toNat)%0#5=(Ao g ((w++[x]).drop 1)).toNat:=by
 have hd:=A8 hg hl hm;have hx:=hb x 1#4;have wb:∀n∈w,0<=n/\n<g:=λn hn=>hb n (bQ.mpr (.inl hn))
 have nw:=BR hg wb
 obtain⟨y,u,e⟩:∃y u,w++[x]=y::u:=by
  cases w with
  |nil=>exact⟨x,[],rfl⟩
  |cons y v=>exact⟨y,v++[x],rfl⟩
 have ul:u.length=m-1:=by have:=qP List.length e;rw[bN,cW]at this;simp only[List.length_cons,List.length_nil]at this;lia
 have ub:∀n∈u,0<=n/\n<g:=λn hn=>hb n (by rw[e];exact bi _ hn)
 have nu:=BR hg ub;have yb:=hb y (by rw[e];exact bo ..);rw[ul]at nu;have gn:((g.toNat:Nat):Int)=g:=by lia
 have e1:Ao g (w++[x])=Ao g w*g+x:=DJ ..;have e2:Ao g (w++[x])=y*g^(m-1)+Ao g u:=by rw[e,JF,ul]
 rw[e,List.drop_succ_cons,dj];have z:(((Ao g w).toNat*g.toNat+x.toNat:Nat):Int)=Ao g w*g+x:=by rw[cy,cx,gn,bp nw.1,bp hx.1]
 have q:((((Ao g w).toNat*g.toNat+x.toNat)%0#5:Nat):Int)=Ao g u:=by rw[cD,z,hd.1,<-e1,e2,di,fP,cI nu.1 nu.2]
 lia
theorem PN{g:Int}(hg:2<=g){m:Nat}(hl:(g6.length:Int)=g^m)(hm:1<=m):∀(c w:qW),w.length=m-1->(∀n∈w++c,0<=n/\n<g)->Mf g.toNat 0#5 (Ao g w).toNat c=(Ao g ((w++c).drop c.length)).toNat
 |[],w,_,_=>by rw[cA];rfl
 |x::r,w,hw,hb=>by
  have hb1:∀n∈w++[x],0<=n/\n<g:=λn hn=>hb n (by
   rcases bQ.mp hn with z|z
   ·exact bQ.mpr (.inl z)
   ·rw[bV.mp z];exact bQ.mpr (.inr (bo ..)))
  show Mf g.toNat 0#5 (((Ao g w).toNat*g.toNat+x.toNat)%0#5) r=_;rw[KW hg hl hm hw hb1];have l1:((w++[x]).drop 1).length=m-1:=by rw[List.length_drop,List.length_append];simp only[List.length_cons,List.length_nil];lia
  have e:(w++[x]).drop 1++r=(w++x::r).drop 1:=by
   cases w with
   |nil=>rfl
   |cons y v=>show (v++[x])++r=v++x::r;rw[cN];rfl
  rw[PN hg hl hm r _ l1 (λn hn=>hb n (by rw[e]at hn;exact bv hn)),e,eJ,cW,eV]
noncomputable def Cs(k:Nat)(c:qW):qW:=(List.range k).map λi:Nat=>A7 c ((i:Int)-(k:Int))
theorem Bp(k:Nat)(c:qW):(Cs k c).length=k:=by unfold Cs;rw[List.length_map,List.length_range]
theorem Mi{k:Nat}(n1:1<=c.length)(hi:i<k+c.length):(Cs k c++c).getD i 0=A7 c ((i:Int)-(k:Int)):=by
 by_cases z:i<k
 ·rw[bH,b8 (by rw[Bp];exact z),<-bH];unfold Cs;rw[AS z]
 ·rw[bH,bt (by rw[Bp];lia),Bp,<-bH];unfold A7;rw[cI 0#1 0#1]
  congr 1
  lia
theorem QZ{k:Nat}{w:qW}(n1:1<=c.length)(hw:w.length=k):(w++c).drop c.length=w↔w=Cs k c:=by
 constructor
 ·intro e
  have st:∀i,i<k->w.getD i 0=(w++c).getD (i+c.length) 0:=λi hi=>by
   have this:((w++c).drop c.length).getD i 0=w.getD i 0:=by rw[e]
   rw[<-this,bH,eB,bH,eV]
  have key:∀j i,k-i<=j->i<k+c.length->(w++c).getD i 0=A7 c ((i:Int)-(k:Int)):=λj=>by
   induction j with
   |zero =>
    intro i hj hi;rw[bH,bt 0#1,hw,<-bH];unfold A7;rw[cI 0#1 0#1]
    congr 1
    lia
   |succ j ih =>
    intro i hj hi
    by_cases z:i<k
    ·have a:(w++c).getD i 0=w.getD i 0:=by rw[bH,b8 0#1,<-bH]
     rw[a,st i z,ih (i+c.length) 0#1 0#1];refine C7 ?_;rw[show ((i+c.length:Nat):Int)-(k:Int)=(i:Int)-(k:Int)+(c.length:Int) by lia,Int.add_emod_right]
    ·exact ih i 0#1 hi
  refine AU (by rw[hw,Bp]) λi hi=>?_;have a:(w++c).getD i 0=w.getD i 0:=by rw[bH,b8 hi,<-bH]
  rw[<-a,key k i 0#1 0#1];unfold Cs;rw[AS 0#1]
 ·intro e;subst e;refine AU (by rw[bj,bN,Bp];lia) λi hi=>?_;rw[bj,bN,Bp]at hi;rw[bH,eB,<-bH,Mi n1 0#1];unfold Cs;rw[AS 0#1];refine C7 ?_;rw[show ((c.length+i:Nat):Int)-(k:Int)=(i:Int)-(k:Int)+(c.length:Int) by lia,Int.add_emod_right]
theorem SF{k:Nat}(n1:1<=c.length){m:Nat}(hi:i+m<=k+c.length):((Cs k c++c).drop i).take m=Bn c m ((i:Int)-(k:Int)):=by
 refine AU ?_ λj hj=>?_
 ·rw[bq,bj,bN,Bp,KO];lia
 rw[bq,bj,bN,Bp]at hj;rw[bH,List.getElem?_take_of_lt 0#1,eB,<-bH,Mi n1 0#1];unfold Bn;rw[AS 0#1]
 congr 1
 lia
theorem SG(g:Int)(g6:qW){m:Nat}(hm:1<=m)(n1:1<=c.length):Aw g g6 m (Cs (m-1) c++c)=A1 g (1-(m:Int)) g6 m c:=by
 unfold Aw A1;rw[bN,Bp,show m-1+c.length+1-m=c.length by lia];refine bU λi hi=>?_;have il:=bh.mp hi;unfold MJ;rw[SF n1 0#1]
 congr 4
 lia
theorem Mk{g:Int}(hg:2<=g)(hc:∀n∈c,0<=n/\n<g)(k:Nat):∀n∈Cs k c,0<=n/\n<g:=λn hn=>by unfold Cs at hn;obtain⟨i,_,rfl⟩:=bg.mp hn;exact Bf hg hc _
theorem Fe(p:α->Bool):∀l:List α,((l.filter p).length:Int)=(l.map λa=>if p a=true then (1:Int) else 0).sum
 |[]=>rfl
 |a::l=>by
  rw[dW,cU,dc,<-Fe p l];split
  ·rw[cW];lia
  ·lia
theorem Ml(h:Nat)(f:Nat->α->Int):∀l:List α,Aq h (λu=>(l.map (f u)).sum)=(l.map λc=>Aq h λu=>f u c).sum
 |[]=>by show Aq h (λ_=>0)=0;rw[BK,fM]
 |c::l=>by rw[cU,dc,<-Ml h f l,<-MR];exact As λu _=>by rw[cU,dc]
theorem Mm{h u:Nat}(hu:u<h)(x:Int):Aq h (λk=>if k=u then x else 0)=x:=by
 have e:h=u+(1+(h-u-1)):=by lia
 rw[e,Fc,Fc]
 have a:Aq u (λk=>if k=u then x else 0)=0:=by rw[As (g:=λ_=>0) λk hk=>qE 0#1,BK,fM]
 have b:Aq (h-u-1) (λk=>if u+(1+k)=u then x else 0)=0:=by rw[As (g:=λ_=>0) λk hk=>qE 0#1,BK,fM]
 have c:Aq 1 (λk=>if u+k=u then x else 0)=x:=by rw[show (1:Nat)=0+1 from rfl,Ar,Bz,b7];exact qF rfl
 rw[a,b,c];lia
theorem Cm{g:Int}(hg:2<=g){n:Nat}:c∈BV g n↔c.length=n/\∀x∈c,0<=x/\x<g:=by
 unfold BV;constructor
 ·intro h;obtain⟨k,_,rfl⟩:=bg.mp h;exact⟨BE ..,By hg _ _⟩
 ·rintro⟨rfl,hb⟩;have nb:=BR hg hb;refine bg.mpr ⟨(Ao g c).toNat,bh.mpr 0#1,?_⟩;rw[show (((Ao g c).toNat:Nat):Int)=Ao g c by lia];exact B8 hg hb
theorem LM{g:Int}(hg:2<=g){m:Nat}(hl:(g6.length:Int)=g^m)(hm:1<=m)(n1:1<=row.length):Aq 0#5 (λv=>Gg g.toNat g6 0#5 row v v)=(((BV g row.length).filter λc=>decide (A1 g (1-(m:Int)) g6 m c=row)).length:Int):=by
 have hd:=A8 hg hl hm;have gn:((g.toNat:Nat):Int)=g:=by lia
 obtain⟨h,hh⟩:∃h,h=g6.length/g.toNat:=⟨_,rfl⟩;have h1:(h:Int)=g^(m-1):=by rw[hh];exact hd.1
 have one:∀u,u<h->Gg g.toNat g6 h row u u=((BV g row.length).map λc=>if u=(Ao g (Cs (m-1) c)).toNat then (if A1 g (1-(m:Int)) g6 m c=row then (1:Int) else 0) else 0).sum:=λu hu=>by
  rcases LD hg (m:=m-1) (k:=u) 0#1 with⟨w,wl,wb,wn⟩;have on:=JB hg hl hm row w wl wb;rw[wn,bM]at on;rw[hh,<-Mh 0#1 g6 u row u,<-on,List.filter_filter,Fe]
  congr 1
  refine bU λc hc=>?_;obtain⟨cl,cb⟩:=(Cm hg).mp hc;have c1:1<=c.length:=by lia
  have wcb:∀n∈w++c,0<=n/\n<g:=λn hn=>by
   rcases bQ.mp hn with z|z
   ·exact wb n z
   ·exact cb n z
  have en:=PN hg hl hm c w wl wcb;rw[wn,bM]at en;have db:∀n∈(w++c).drop c.length,0<=n/\n<g:=λn hn=>wcb n (bv hn)
  have dl:((w++c).drop c.length).length=m-1:=by rw[bj,bN];lia
  have hb:=Mk hg cb (m-1);have nh:=BR hg hb;have nd:=BR hg db;have ho:=QZ (k:=m-1) c1 wl
  have eu:Mf g.toNat 0#5 u c=u↔w=Cs (m-1) c:=by
   rw[en,<-ho];constructor
   ·intro z;have:Ao g ((w++c).drop c.length)=Ao g w:=by rw[wn];lia
    have a:=B8 hg db;have b:=B8 hg wb;rw[this,dl,<-wl,b]at a;exact a.symm
   ·intro z;rw[z,wn,bM]
  have eh:u=(Ao g (Cs (m-1) c)).toNat↔w=Cs (m-1) c:=by
   constructor
   ·intro z;have:Ao g (Cs (m-1) c)=Ao g w:=by rw[wn];lia
    have a:=B8 hg hb;have b:=B8 hg wb;rw[this,Bp]at a;rw[wl]at b;exact b.symm.trans a
   ·intro z;rw[<-z,wn,bM]
  by_cases z:w=Cs (m-1) c
  ·rw[qF (eh.mpr z),qH (eu.mpr z),Bool.true_and];rw[z,SG g g6 hm c1]
   by_cases y:A1 g (1-(m:Int)) g6 m c=row
   ·rw[qH y,qF rfl,qF y]
   ·rw[qI y,qE 0#8,qE y]
  ·rw[qE (λy=>z (eh.mp y)),qI (λy=>z (eu.mp y)),Bool.false_and,qE 0#8]
 rw[<-hh,As one,Ml,Fe]
 congr 1
 refine bU λc hc=>?_;obtain⟨cl,cb⟩:=(Cm hg).mp hc;have hb:=Mk hg cb (m-1);have nh:=BR hg hb;rw[Bp]at nh;rw[Mm 0#1]
 by_cases y:A1 g (1-(m:Int)) g6 m c=row
 ·rw[qF y,qH y,qF rfl]
 ·rw[qE y,qI y,qE 0#8]
noncomputable def Ee(k:Int)(c:qW):qW:=(List.range c.length).map λi:Nat=>A7 c ((i:Int)+k)
theorem DP(k:Int)(c:qW):(Ee k c).length=c.length:=by unfold Ee;rw[List.length_map,List.length_range]
theorem PP(n1:1<=c.length)(k z:Int):A7 (Ee k c) z=A7 c (z+k):=by unfold Ee;rw[Ih n1];have h0:=eQ z (show (c.length:Int)≠0 by lia);rw[bp h0];refine C7 ?_;rw[Int.emod_add_emod]
theorem Qa(g lo:Int)(g6:qW)(m:Nat)(n1:1<=c.length)(k:Int):A1 g lo g6 m (Ee k c)=A1 g (lo+k) g6 m c:=by
 unfold A1;rw[DP];refine bU λi _=>?_
 have e:Bn (Ee k c) m ((i:Int)+lo)=Bn c m ((i:Int)+(lo+k)):=by
  unfold Bn;refine bU λj _=>?_;rw[PP n1]
  congr 1
  lia
 rw[e]
theorem Gh(n1:1<=c.length)(k:Int):Ee (-k) (Ee k c)=c:=by
 refine AU (by rw[DP,DP]) λi hi=>?_;rw[DP,DP]at hi
 have a:(Ee (-k) (Ee k c)).getD i 0=A7 (Ee k c) ((i:Int)+-k):=by show ((List.range (Ee k c).length).map _).getD i 0=_;rw[AS (by rw[DP];exact hi)]
 rw[a,PP n1,show (i:Int)+-k+k=(i:Int) by lia];unfold A7;rw[cI 0#1 0#1,bM]
theorem JG{g:Int}(hg:2<=g){n:Nat}(k:Int)(h:c∈BV g n):Ee k c∈BV g n:=by obtain⟨cl,cb⟩:=(Cm hg).mp h;refine (Cm hg).mpr ⟨by rw[DP];exact cl,λx hx=>?_⟩;unfold Ee at hx;obtain⟨i,_,rfl⟩:=bg.mp hx;exact Bf hg cb _
theorem Gi{f:α->β}:∀{l:List α},(∀a∈l,∀b∈l,f a=f b->a=b)->l.Nodup->(l.map f).Nodup
 |[],_,_=>dm
 |a::l,h,n=>by rw[cU,cn];have z:=cn.mp n;refine⟨λhm=>?_,Gi (λx hx y hy=>h x (bi _ hx) y (bi _ hy)) z.2⟩;obtain⟨b,hb,e⟩:=bg.mp hm;have:=h b (bi _ hb) a (bo ..) e;rw[this]at hb;exact z.1 hb
theorem Ff{g:Int}(hg:2<=g)(n:Nat):(BV g n).Nodup:=by unfold BV;refine Gi ?_ List.nodup_range;intro i hi j hj e;have il:=bh.mp hi;have jl:=bh.mp hj;have a:=Cj hg (n:=(i:Int)) 0#1 (m:=n) 0#1;have b:=Cj hg (n:=(j:Int)) 0#1 (m:=n) 0#1;rw[e,b]at a;lia
theorem Qb{g:Int}(hg:2<=g)(g6:qW)(m:Nat){n:Nat}(n1:1<=n)(lo lo':Int)(row:qW):((BV g n).filter λc=>decide (A1 g lo g6 m c=row)).length=((BV g n).filter λc=>decide (A1 g lo' g6 m c=row)).length:=by
 have len1:∀c∈BV g n,1<=c.length:=λc hc=>by rw[((Cm hg).mp hc).1];exact n1
 have nd:((BV g n).map (Ee (lo'-lo))).Nodup:=by refine Gi ?_ (Ff hg n);intro c hc d hd e;have a:=Gh (len1 c hc) (lo'-lo);rw[e,Gh (len1 d hd)]at a;exact a.symm
 have pm:((BV g n).map (Ee (lo'-lo))).Perm (BV g n):=by
  refine (List.perm_ext_iff_of_nodup nd (Ff hg n)).mpr λc=>?_;constructor
  ·intro h;obtain⟨d,hd,rfl⟩:=bg.mp h;exact JG hg _ hd
  ·intro h;refine bg.mpr ⟨Ee (-(lo'-lo)) c,JG hg _ h,?_⟩;have:=Gh (len1 c h) (-(lo'-lo));rw[Int.neg_neg]at this;exact this
 have e:=(pm.filter λc=>decide (A1 g lo g6 m c=row)).length_eq;rw[<-e,gl,bG]
 congr 1
 refine List.filter_congr λc hc=>?_;show decide (A1 g lo g6 m (Ee (lo'-lo) c)=row)=decide (A1 g lo' g6 m c=row);rw[Qa g lo g6 m (len1 c hc),show lo+(lo'-lo)=lo' by lia]
theorem LN(p:Bool)(n:Nat)(f:Nat->Int):Dq p (Aq n f)=Aq n λk=>Dq p (f k):=by
 cases p with
 |true=>rfl
 |false =>
  show (0:Int)=Aq n λ_=>0
  rw[BK,fM]
theorem SH(p q:Bool)(x:Int):Dq p (Dq q x)=Dq q (Dq p x):=by cases p<;>cases q<;>rfl
theorem PQ{h:Nat}(G1:1<=G)(h1:1<=h)(g6:qW)(s:Int)(v:Nat):∀(row:qW) (u:Nat),u<h->Gg G g6 h (row++[s]) u v=Aq (h*G) λk=>Dq (decide (g6.getD k 0=s/\k%h=v)) (Gg G g6 h row u (k/G))
 |[],u,hu=>by
  rw[QQ]
  have e:∀i,i<h->(Aq G λj=>Dq (decide (g6.getD (i*G+j) 0=s/\(i*G+j)%h=v)) (Gg G g6 h [] u ((i*G+j)/G)))=if i=u then Gg G g6 h [s] u v else 0:=λi hi=>by
   have d:∀j,j<G->(i*G+j)/G=i:=λj hj=>by rw[dS,Nat.mul_add_div G1,Nat.div_eq_of_lt hj,fQ]
   by_cases z:i=u
   ·rw[qF z,z];refine As λj hj=>?_;rw[<-z,d j hj];show Dq _ (if i=i then (1:Int) else 0)=Dq (decide (g6.getD (i*G+j) 0=s)) (if (i*G+j)%h=v then (1:Int) else 0);rw[qF rfl]
    by_cases a:g6.getD (i*G+j) 0=s
    ·by_cases b:(i*G+j)%h=v
     ·rw[qH ⟨a,b⟩,qH a,qF b]
     ·rw[qI (λy=>b y.2),qH a,qE b];rfl
    ·rw[qI (λy=>a y.1),qI a];rfl
   ·rw[qE z];rw[As (g:=λ_=>0) λj hj=>?_,BK,fM];rw[d j hj];show Dq _ (if u=i then (1:Int) else 0)=0;rw[qE (λy=>z y.symm)];unfold Dq
    split<;>rfl
  rw[As e,Mm hu];rfl
 |s'::row,u,hu=>by show (Aq G λj=>Dq (decide (g6.getD (u*G+j) 0=s')) (Gg G g6 h (row++[s]) ((u*G+j)%h) v))=_;rw[As λj hj=>by rw[PQ G1 h1 g6 s v row ((u*G+j)%h) (cJ _ h1),LN],Dz];refine As λk hk=>?_;show _=Dq _ (Aq G λj=>Dq (decide (g6.getD (u*G+j) 0=s')) (Gg G g6 h row ((u*G+j)%h) (k/G)));rw[LN];exact As λj _=>SH ..
noncomputable def Ef(g6:qW)(s:Int)(n:Nat):List Nat:=(List.range n).filter λk=>decide (g6.getD k 0=s)
theorem JH{s:Int}{n:Nat}(h:g6.getD n 0=s):Ef g6 s (n+1)=Ef g6 s n++[n]:=by unfold Ef;rw[cH,ce,dW,qF (qH h)];rfl
theorem LO{s:Int}{n:Nat}(h:¬g6.getD n 0=s):Ef g6 s (n+1)=Ef g6 s n:=by unfold Ef;rw[cH,ce,dW,qE (by rw[qI h];decide),List.filter_nil,cA]
theorem UP{s:Int}{n k:Nat}(h:k∈Ef g6 s n):k<n:=bh.mp (cE.mp h).1
theorem SI(g6:qW)(s:Int)(n:Nat):(Ef g6 s n).length<=n:=by have:=dC (λk=>decide (g6.getD k 0=s)) (List.range n);rw[bn]at this;exact this
theorem UQ(g6:qW)(s:Int)(f:Nat->Int)(n:Nat):((Ef g6 s n).map f).sum=Aq n λk=>Dq (decide (g6.getD k 0=s)) (f k):=by
 induction n with
 |zero=>rfl
 |succ n ih =>
  rw[Ar,<-ih]
  by_cases z:g6.getD n 0=s
  ·rw[JH z,bS,fK,qH z];show _+([f n]:qW).sum=_+f n;rw[dc,List.sum_nil,cr]
  ·rw[LO z,qI z];show _=_+(0:Int);rw[cr]
noncomputable def Gj(h G:Nat)(ws:qW)(ks:List Nat):qW:=(List.range h).map λv=>(ks.map λk=>if k%h=v then ws.getD (k/G) 0 else 0).sum
theorem D6(h G:Nat)(ws:qW)(ks:List Nat):(Gj h G ws ks).length=h:=by unfold Gj;rw[List.length_map,List.length_range]
theorem SJ(h G:Nat)(ws:qW):Gj h G ws []=List.replicate h 0:=by unfold Gj;rw[List.eq_replicate_iff];refine⟨by rw[bG,bn],λb hb=>?_⟩;obtain⟨x,_,e⟩:=bg.mp hb;rw[<-e];rfl
theorem Qc{h:Nat}(h1:1<=h)(G:Nat)(ws:qW)(ks:List Nat)(k:Nat):(Gj h G ws ks).set (k%h) ((Gj h G ws ks).getD (k%h) 0+ws.getD (k/G) 0)=Gj h G ws (ks++[k]):=by
 have kl:=cJ k h1;refine AU (by rw[eP,D6,D6]) λv hv=>?_;rw[eP,D6]at hv;have at':∀(ls:List Nat) (u:Nat),u<h->(Gj h G ws ls).getD u 0=(ls.map λk=>if k%h=u then ws.getD (k/G) 0 else 0).sum:=λls u hu=>by unfold Gj;rw[AS hu]
 rw[F3 (by rw[D6];exact kl),at' _ v hv,at' _ v hv,at' _ _ kl,bS,fK];show _=_+([if k%h=v then ws.getD (k/G) 0 else 0]:qW).sum;rw[dc,List.sum_nil,cr]
 by_cases z:k%h=v
 ·rw[qF z,qF z,z]
 ·rw[qE z,qE z,cr]
noncomputable def Gk(G:Nat)(g6:qW)(h:Nat)(row:qW)(u:Nat):qW:=(List.range h).map λv=>Gg G g6 h row u v
theorem JI(G:Nat)(g6:qW)(h:Nat)(row:qW)(u:Nat):(Gk G g6 h row u).length=h:=by unfold Gk;rw[List.length_map,List.length_range]
theorem LQ(G:Nat)(g6:qW){h:Nat}(row:qW)(u:Nat){v:Nat}(hv:v<h):(Gk G g6 h row u).getD v 0=Gg G g6 h row u v:=by unfold Gk;rw[AS hv]
theorem SK(G:Nat)(g6:qW){h u:Nat}(hu:u<h):(List.replicate h (0:Int)).set u 1=Gk G g6 h [] u:=by
 refine AU (by rw[eP,cL,JI]) λv hv=>?_;rw[eP,cL]at hv;rw[LQ G g6 [] u hv,F3 (by rw[cL];exact hu)];show _=if u=v then (1:Int) else 0;split
 ·rfl
 ·rw[bH,eW,qF hv];rfl
theorem SL{h:Nat}(G1:1<=G)(g6:qW)(s:Int)(row:qW){u:Nat}(hu:u<h):Gj h G (Gk G g6 h row u) (Ef g6 s (h*G))=Gk G g6 h (row++[s]) u:=by
 show (List.range h).map _=(List.range h).map λv=>Gg G g6 h (row++[s]) u v
 refine bU λv hv=>?_;rw[UQ,PQ G1 0#1 g6 s v row u hu];refine As λk hk=>?_;rw[LQ G g6 row u (cc (by rw[dS];exact hk))]
 by_cases a:g6.getD k 0=s
 ·by_cases b:k%h=v
  ·rw[qH a,qH ⟨a,b⟩,qF b]
  ·rw[qH a,qI (λy=>b y.2),qE b];rfl
 ·rw[qI a,qI (λy=>a y.1)];rfl
noncomputable def Gm(g:Int)(g6 row:qW):Int:=Aq 0#5 λv=>Gg g.toNat g6 0#5 row v v
noncomputable def OE(g lo:Int)(g6:qW)(m:Nat)(row:qW):Int:=(((BV g row.length).filter λc=>decide (A1 g lo g6 m c=row)).length:Int)
theorem JJ{g:Int}(hg:2<=g){m:Nat}(hl:(g6.length:Int)=g^m)(hm:1<=m)(lo:Int)(n1:1<=row.length):Gm g g6 row=OE g lo g6 m row:=by unfold Gm OE;rw[LM hg hl hm n1,Qb hg g6 m n1 (1-(m:Int)) lo row]
theorem OF{g:Int}(hg:2<=g){m:Nat}(al:Ba g lo g6 m lo' tab' m')(row:qW):OE g lo g6 m row=OE g lo' tab' m' row:=by
 unfold OE
 congr 2
 refine List.filter_congr λc hc=>?_;rw[LK hg al ((Cm hg).mp hc).2]
theorem Mn{g:Int}(hg:2<=g){m:Nat}(al:Ba g lo g6 m lo' tab' m')(hl:(g6.length:Int)=g^m)(hm:1<=m)(hl':(tab'.length:Int)=g^m')(hm':1<=m')(n1:1<=row.length):Gm g g6 row=Gm g tab' row:=by rw[JJ hg hl hm lo n1,JJ hg hl' hm' lo' n1,OF hg al]
theorem BU.alike{g:Int}(hg:2<=g){m:Nat}(hl:(g6.length:Int)=g^m)(fw:BU g lo g6 m lf tf mf):Ba g lf tf mf lo g6 m/\(tf.length:Int)=g^mf:=by
 obtain⟨low,M,n,rfl,⟨rfl,rfl,rfl⟩|⟨h2,rfl,rfl⟩⟩:=fw
 ·refine⟨λx hx=>?_,BZ hg ..⟩;rw[Iz hg (BZ hg ..) (dz _) 0#1 hx];exact Md hg hl n x hx
 ·exact⟨Md hg hl n,BZ hg ..⟩
structure SM(H:Hp)(p:qR)(ps:List qR)(G:Nat)(g6:qW)(h k0:Nat):Prop where
 l:H p=some (.lst (ps.map V.ref))
 n:ps.length=G
 e:∀(s:Nat) (q:qR),ps[s]?=some q->∃ts:List qR,H q=some (.lst (ts.map V.ref))/\ts.length=(Ef g6 (s:Int) k0).length/\∀(i:Nat) (t:qR) (k:Nat),ts[i]?=some t->(Ef g6 (s:Int) k0)[i]?=some k->H t=some (.tup [.int ((k/G:Nat):Int),.int ((k%h:Nat):Int)])
theorem SM.same{p:qR}{ps:List qR}{h n:Nat}(s:AH H H')(v:SM H p ps G g6 h n):SM H' p ps G g6 h n:=⟨s _ _ v.l,v.n,λk q hq=>by obtain⟨ts,h1,h2,h3⟩:=v.e k q hq;exact⟨ts,s _ _ h1,h2,λi t k a b=>s _ _ (h3 i t k a b)⟩⟩
theorem SM.put{p:qR}{ps:List qR}{h n:Nat}(v:SM H p ps G g6 h n)(nd:ps.Nodup)(np:¬p∈ps){s:Nat}{q t:qR}(hq:ps[s]?=some q)(hs:g6.getD n 0=(s:Int)){ts:List qR}(t1:H q=some (.lst (ts.map V.ref)))(t2:ts.length=(Ef g6 (s:Int) n).length)
  (t3:∀(i:Nat) (t:qR) (k:Nat),ts[i]?=some t->(Ef g6 (s:Int) n)[i]?=some k->H t=some (.tup [.int ((k/G:Nat):Int),.int ((k%h:Nat):Int)])) (ht:H t=some (.tup [.int ((n/G:Nat):Int),.int ((n%h:Nat):Int)])):
  SM (Ad H q (.lst (ts.map V.ref++[V.ref t]))) p ps G g6 h (n+1):=by
 have qm:=bT hq
 have keep:∀{a:qR} {xs:List V},H a=some (.tup xs)->Ad H q (.lst (ts.map V.ref++[V.ref t])) a=some (.tup xs):=λ{a xs} ha=>by rw[AK (Dc ha t1 (λz=>nomatch z))];exact ha
 refine⟨?_,v.n,λs2 q2 hq2=>?_⟩
 ·rw[AK (λz=>np (by rw[z];exact qm))];exact v.l
 by_cases c:s2=s
 ·subst c;rw[hq]at hq2;cases hq2;refine⟨ts++[t],by rw[AE,bS];rfl,by rw[JH hs,bN,bN,t2];rfl,λi t' k a b=>?_⟩;rw[JH hs]at b
  by_cases d:i<ts.length
  ·rw[b8 d]at a;rw[b8 0#1]at b;exact keep (t3 i t' k a b)
  ·rw[bt 0#1]at a;rw[bt 0#1]at b;have i0:i-ts.length=0:=by have:=(bJ.mp a).1;rw[cP]at this;lia
   rw[i0]at a;rw[<-t2,i0]at b;cases a;cases b;exact keep ht
 ·obtain⟨ts2,a1,a2,a3⟩:=v.e s2 q2 hq2;have qq:q2≠q:=λz=>c (by rw[z,<-hq]at hq2;exact (List.getElem?_inj (by have:=(bJ.mp hq).1;rw[hq]at hq2;exact (bJ.mp hq2).1) nd).mp hq2)
  have no:¬g6.getD n 0=(s2:Int):=λz=>c 0#1
  refine⟨ts2,by rw[AK qq];exact a1,by rw[LO no];exact a2,λi t' k a b=>?_⟩;rw[LO no]at b;exact keep (a3 i t' k a b)
inductive Gn(vs:List V)(H:Hp)(Q:VK)(z3_:XK):Prop
 |m (r:qR) (g lo:Int) (g6:qW) (m:Nat):vs=[.ref r]->Aj H r g lo g6 m->(∀(p:qR) (ps:List qR) (H':Hp),AH H H'->SM H' p ps g.toNat g6 0#5 g6.length->Q (.ref p) H')->Gn vs H Q z3_
inductive LR(K:qV)(vs:List V)(H:Hp)(Q:VK)(z3_:XK):Prop
 |m (p a:qR) (ps:List qR) (G h u:Nat) (g6 ns:qW):vs=[.int ((h:Nat):Int),.ref p,.ref a,.int ((u:Nat):Int)]->SM H p ps G g6 h g6.length->g6.length=h*G->1<=G->u<h->h<=9->Ae K H a 1#3->(∀n∈ns,0<=n/\n<(G:Int))->(∀H',AH H H'->Q (.int (Gg G g6 h ns u u)) H')->LR K vs H Q z3_
end L2
namespace L2
open PySem PySem.Spec PyProof.Rows
def Go(K:qV)(J:It)(tt:TT)(te:TE)(σf:List (Option V))(D:qR)(Q:VK)(H:Hp):Prop:=∃W:Nat->Nat->List V->Hp->Prop,(∃n,W n 0 [] (Ad H D (.lst [])))/\∀n i gt H2,W n i gt H2 ->
 (J.stop i H2/\Q (.ref D) H2)\/(J.go i H2/\∃N:List V->Hp->Prop,(∀l H',N l H'->∃n',n'<n/\W n' (i+1) l H')/\∀v H3,J.yld i H2 v H3->∃(a:qR) (v1 v2:V),v=.ref a/\Ah K H3 a [v1,v2]/\tt (some v1::some v2::σf) H3 λb H4 =>
  if b=true then te (some v1::some v2::σf) H4 λy H5=>H5 D=some (.lst gt)/\gt.length<sizeLine/\N (gt++[y]) (Ad H5 D (.lst (gt++[y]))) else N gt H4)
def WK(K:qV)(wi:TI)(fv:List (Nat×Str))(tt:TT)(te:TE):TE:=λσ H Q=>wi σ H λJ H1=>∀D,H1 D=none->Go K J tt te (C6 σ fv) D Q H1
end L2
namespace PySem
section
variable{prog:qT}{w:qU}{A:Around}{s:qS}{R:Result->qS->Prop}
theorem compLoop_own{elt tg iter:Expr}{ifs:List Expr}{scope:Scope}{pos:Pos}{it gt:qQ}{env:Env}(I:Nat->qS->Prop)
  (turn:∀n s,I n s->wpAny 0#7 A (pyNext it) (λr s1=>match r with
   |none=>R (.ok .next) s1
   |some v=>wpAny 0#7 A (letOwnedTupleGo tg it v) (λ_ s1b=>wpAny 0#7 A (assign tg env v) (λ_ s2 =>
     wpAny 0#7 A (forIn ifs true λc r=>if r=true then do let ok <-isTrue c env (eval c env);pure (ForInStep.yield ok) else pure (ForInStep.yield r)) (λok s3 =>
      if ok=true then wpAny 0#7 A (eval elt env) (λx s4 =>
       wpAny 0#7 A (call (.builtin "list.append") [gt,x]) (λ_ s5=>∃m,m<n/\I m s5) (notedBy 0#7 A env λe s'=>R (.error e) s') s4) (notedBy 0#7 A env λe s'=>R (.error e) s') s3
      else ∃m,m<n/\I m s3) (notedBy 0#7 A env λe s'=>R (.error e) s') s2) (notedBy 0#7 A env λe s'=>R (.error e) s') s1b) (notedBy 0#7 A env λe s'=>R (.error e) s') s1) (notedBy 0#7 A env λe s'=>R (.error e) s') s)
  (n:Nat) (h:I n s):codeAny 0#7 A (.compLoop (.ListComp elt [⟨tg,iter,ifs,0⟩] scope pos) 0 it gt env) R s:=by
 refine codeAny_loop rfl I (λn s hI=>?_) n h;show wpAny _ A ((compTurn (.ListComp elt [⟨tg,iter,ifs,0⟩] scope pos) 0 it gt env).onRaise (λx=>do noteFrame x env;theTreesLotGoes x)) _ _ s;refine wpAny_noted ?_;rw[compTurn_list];refine qC (wpAny_standAt (qC (qM (turn n s hI) (λr s1 h1=>?_) λ_ _ h'=>h')));cases r with
 |none=>exact qD h1
 |some v =>
  refine qC (qM h1 (λ_ s1b h1b=>?_) λ_ _ h'=>h');refine qC (qM h1b (λ_ s2 h2=>qC (qM h2 (λok s3 h3=>?_) λ_ _ h'=>h')) λ_ _ h'=>h');cases ok with
  |false=>exact qD ⟨rfl,h3⟩
  |true =>
   exact qC (qC (qM h3 (λx s4 h4=>qC (qM h4 (λ_ s5 h5=>qD (qD ⟨rfl,h5⟩)) λ_ _ h'=>h')) λ_ _ h'=>h'))
end
end PySem
namespace L2
open PySem PySem.Spec PyProof.Rows
variable{C:qR}{E:qQ->qS->Prop}{h1:Heap}
section
variable{X:Cx}{x x2:Str}{px px2 pt pos:Pos}{kt:Nat}{elt iter:Expr}{ifs:List Expr}{scope:Scope}{cl:List (Str×qR)}{fv:List (Nat×Str)}{wi:TI}{tt:TT}{te:TE}
 {ad:List (qR×Obj)} {σ:St} {H2:Hp} {s2:qS} {fp:List qR} {it:qR} {tn:Nat->Heap->Prop} {J:It}
theorem UR{D:qR}{t1:Nat}(I2:AT X ad σ H2 s2)(f2:∀b∈fp,C5 X ad H2 b)(o2:∀b∈fp,∃o,s2.heap.get? b=some o/\∀v,o.data≠.cell v)(hD:s2.heap.objs.size<=D)(hC:s2.heap.objs.size<=C)(hDC:D≠C)
  (old:∀b o,s2.heap.get? b=some o->h1.get? b=some o) (hl:h1.PlainList D #[]) (hn:h1.Ns C (λ_=>none)) (hk:scope.kind=.function) (hcl:HV X.env cl)
  (hhas:((relabel scope X.env).names.all λz=>!(z.2==.cell||z.2==.free)||(cl.lookup z.1).isSome)=true) (hfv:Ia X scope cl fv):
  AT (Ea X s2 H2 0#9 fp (x::x2::fv.map (·.2))) [] (none::none::C6 σ fv) (Ad H2 D (.lst [])) {s2 with heap:=h1,toks:=t1} where
 ok:=Rm I2 f2 o2 hC hk hcl hhas
 os:=rfl
 bare:=I2.bare
 base:=Un.laid old hD (I2.hok.fresh hD)
 loc:=by
  refine⟨_,hn,λi y v h1' h2' _=>?_⟩;cases i with
  |zero=>cases h2'
  |succ i =>
   cases i with
   |zero=>cases h2'
   |succ i =>
   have h1':(fv.map (·.2))[i]?=some y:=h1';have h2':(C6 σ fv)[i]?=some (some v):=h2'
   obtain⟨q,hq,e1⟩:∃q,fv[i]?=some q/\q.2=y:=by rw[bO]at h1';exact cM.mp h1'
   subst e1;rcases hfv.at' q (bT hq) with⟨g1,g2,g3,g4⟩;unfold C6 at h2';rw[bO,hq]at h2';have e2:(σ[q.1]?).join=some v:=Option.some.inj h2'
   have e3:σ[q.1]?=some (some v):=by
    cases z:σ[q.1]? with
    |none=>rw[z]at e2;cases e2
    |some w=>rw[z]at e2;exact qP some e2
   obtain⟨m,_,lk⟩:=I2.loc;have g2:=Rj g2;obtain⟨u,ru,lu⟩:=lk q.1 q.2 v g1 e3 (.inr g2);refine⟨u,ru,.inr ⟨g2.imp (λz=>g3.trans z) (λz=>g3.trans z),?_⟩⟩;obtain⟨c,hc⟩:=eO.mp g4;refine⟨c,hc,?_⟩;rcases lu with⟨kk,_⟩|⟨_,c',e',⟨o,eo,d⟩⟩
   ·rcases g2 with z|z<;>(rw[show X.env.kindOf q.2=_ from z]at kk;cases kk)
   ·have e4:=hcl.at' hc;rw[e']at e4;cases e4;exact⟨o,old c o eo,d⟩
 cell:=λy c h=>by rcases I2.cell y c (hcl.at' h) with⟨v,o,eo,d⟩;exact⟨v,o,old c o eo,d⟩
 free:=by show Ad H2 D _ C=none;rw[AK (Ne.symm hDC)];exact I2.hok.fresh hC
 freeC:=λy c h=>by rcases I2.cell y c (hcl.at' h) with⟨v,o,eo,d⟩;rw[AK (b9 (bR (bP eo) hD))];exact I2.freeC y c (hcl.at' h)
 pin:=λp hp=>nomatch hp
 hok:=I2.hok.laid old hD (by obtain⟨n,e⟩:=hl;exact⟨Nat.zero_le _,[],n,.nil,by simpa using e⟩)
 len:=by simp[C6,Ea]
theorem SN{RR:qQ->qR->Result->qS->Prop}{Q:VK}(hc:X.calm=true)(I2:AT X ad σ H2 s2)(T:Kr X.prog X.w X.K (.Tuple [.Name x px,.Name x2 px2] kt pt) J fp it tn)(st2:tn 0 s2.heap)(f2:∀b∈fp,C5 X ad H2 b)
  (hcell:∀y∈scope.names,y.2≠.cell) (hk:scope.kind=.function) (hx:scope.names.lookup x=some .local) (hx2:scope.names.lookup x2=some .local) (hcl:HV X.env cl) (hhas:((relabel scope X.env).names.all λz=>!(z.2==.cell||z.2==.free)||(cl.lookup z.1).isSome)=true) (hfv:Ia X scope cl fv) (hnd:(x::x2::fv.map (·.2)).Nodup)
  (hf:∀s H C fp,PF (Ea X s H 0#9 fp (x::x2::fv.map (·.2))) ifs tt) (he:∀s H C fp,PE (Ea X s H 0#9 fp (x::x2::fv.map (·.2))) elt te)
  (hw:∀D,H2 D=none->Go X.K J tt te (C6 σ fv) D Q H2)
  (hRR:∀D C σ' H' s',s2.heap.objs.size<=C->AT (Ea X s2 H2 0#9 fp (x::x2::fv.map (·.2))) [] σ' H' s'->Q (.ref D) H'->RR (.ref D) C (.ok .next) s'):
  wpAny 0#6 X.A (newList []) (λgt s3=>wpAny 0#6 X.A (newFunctionEnv scope X.env.globals cl [] X.env.qual none .none (some X.env)) (λcenv s4 =>
   codeAny 0#6 X.A (.compStart (.ListComp elt [⟨.Tuple [.Name x px,.Name x2 px2] kt pt,iter,ifs,0⟩] scope pos) 0 (.ref it) gt {cenv with scope:=relabel scope X.env}) (RR gt cenv.locals) s4) E s3) E s2:=by
 refine wpAny_newObj_type (wpAny_newFunctionEnv hcell (by intro y hy;simp at hy) (λh1 hns hsb=>?_) hk);dsimp only at hns hsb⊢;generalize hH:s2.heap.push {cls:=.type "list",dict:=none,data:=.seq ([]:List qQ).toArray}=HH at hns hsb⊢;have eC:HH.objs.size=s2.heap.objs.size+1:=by rw[<-hH,dM]
 have hDC:s2.heap.objs.size≠HH.objs.size:=by rw[eC];exact b9 (d7 _)
 have hC:s2.heap.objs.size<=HH.objs.size:=by rw[eC];exact eg _
 have old:∀b o,s2.heap.get? b=some o->h1.get? b=some o:=λb o e=>hsb.extBut b o (by rw[eC];exact b9 (dE (bP e))) (bK _ (hH▸bK _ e))
 have hacc:h1.PlainList s2.heap.objs.size #[]:=⟨_,hsb.extBut _ _ hDC (bK _ (hH▸ba _ rfl))⟩;have o2:=T.obj _ _ st2;rcases hw s2.heap.objs.size (I2.hok.fresh (bL _)) with⟨W,⟨n0,w0⟩,turn⟩;generalize eD:s2.heap.objs.size=D at *;generalize eCC:HH.objs.size=C at *;have Ib:=UR (x:=x) (x2:=x2) (t1:=s2.toks+([]:List (Str×qQ)).length) I2 f2 o2 (by rw[eD];exact bL _) (by rw[eD];exact hC) hDC old hacc hns hk hcl hhas hfv;have st1:tn 0 h1:=T.keep _ _ _ st2 λb _ o e=>old b o e
 have nD:∀b∈fp,b≠D:=λb hb=>by obtain⟨o,e,_⟩:=o2 b hb;rw[<-eD];exact b9 (bP e)
 have fr1:∀b∈fp,Ad H2 D (.lst []) b=none:=λb hb=>by rw[AK (nD b hb)];exact (f2 b hb).1
 have hxl:(relabel scope X.env).names.lookup x=some .local:=lookup_relabel_local hx;have hxl2:(relabel scope X.env).names.lookup x2=some .local:=lookup_relabel_local hx2
 have stat:∀{H':Hp},(∀b∈fp,H' b=none)->∀b∈fp,C5 (Ea X s2 H2 0#9 fp (x::x2::fv.map (·.2))) [] H' b:=λhn b hb=>by obtain⟨o,e,_⟩:=o2 b hb;exact⟨hn b hb,λz=>qG (bP e) (by rw[z,eD];exact Nat.not_lt.mpr hC),λz=>(br.mp (I2.stkSub b z)).elim (f2 b hb).2.1 (f2 b hb).2.2.1,.inl hb,λy c h=>(f2 b hb).2.2.2.2.1 y c (hcl.at' h),λq hq=>nomatch hq⟩
 have loop:codeAny 0#6 X.A (.compLoop (.ListComp elt [⟨.Tuple [.Name x px,.Name x2 px2] kt pt,iter,ifs,0⟩] scope pos) 0 (.ref it) (.ref D) 0#9) (RR (.ref D) C) {s2 with heap:=h1,toks:=s2.toks+([]:List (Str×qQ)).length}:=by
  refine compLoop_own (λn s'=>∃i gt σb H',AT (Ea X s2 H2 0#9 fp (x::x2::fv.map (·.2))) [] σb H' s'/\σb.tail.tail=C6 σ fv/\tn i s'.heap/\(∀b∈fp,H' b=none)/\W n i gt H') ?_ n0 ⟨0,[],_,_,Ib,rfl,st1,fr1,w0⟩;intro n s3 hRq;rcases hRq with⟨i,gt,σ3,H3,I3,t3,st3,fr3,w3⟩;rcases turn n i gt H3 w3 with⟨stop,qn⟩|⟨go,NN,hNN,step⟩
  ·refine BN (T.done (Ea X s2 H2 0#9 fp (x::x2::fv.map (·.2))) rfl rfl rfl hc i [] s3 σ3 H3 _ I3 (stat fr3) st3 stop) λr s4 q4=>?_;obtain⟨hr,I4⟩:=q4;subst hr;exact hRR D C σ3 H3 s4 hC I4 qn
  ·refine BN (T.item (Ea X s2 H2 0#9 fp (x::x2::fv.map (·.2))) rfl rfl rfl hc i [] s3 σ3 H3 _ I3 (stat fr3) st3 go) λr s4 q4=>?_;obtain⟨u,hr,h4⟩:=q4;subst hr;refine BN h4 λ_ s5 q5=>?_;rcases q5 with⟨v,H5,I5,r5,y5,st5,fr5⟩;have I5':=I5.pinned (stat fr5) (T.obj _ _ st5);have again:∀{σ7:St} {H7:Hp} {s7:qS},AT (Ea X s2 H2 0#9 fp (x::x2::fv.map (·.2))) ([]++GP fp s5.heap) σ7 H7 s7->tn (i+1) s7.heap/\∀b∈fp,H7 b=none:=λ{σ7 H7 s7} I7=>by refine⟨T.keep _ _ _ st5 λb hb o e=>(I7.pin (b,o) (bW _ (bW _ (Cg hb e)))).1,λb hb=>?_⟩;obtain⟨o,e,d⟩:=T.obj _ _ st5 b hb;exact (I7.pin (b,o) (bW _ (bW _ (Cg hb e)))).2.1
   rcases step v _ y5 with⟨a5,v1,v2,rfl,hq5,step5⟩
   have sσ:(σ3.set 0 (some v1)).set 1 (some v2)=some v1::some v2::C6 σ fv:=by
    match σ3,t3,I3.len with
    |a::b::r,t3,_ =>
     have z:r=C6 σ fv:=t3;rw[z];rfl
   have hnd2:=cn.mp hnd;have g1:=Hf (X:=Ea X s2 H2 0#9 fp (x::x2::fv.map (λq:Nat×Str=>q.2))) (pos:=px) (i:=0) (x:=x) hnd rfl (.inl hxl) (.inr hxl);have g2:=Hf (X:=Ea X s2 H2 0#9 fp (x::x2::fv.map (λq:Nat×Str=>q.2))) (pos:=px2) (i:=1) (x:=x2) hnd rfl (.inl hxl2) (.inr hxl2);have g:=El (X:=Ea X s2 H2 0#9 fp (x::x2::fv.map (λq:Nat×Str=>q.2))) (pos:=pt) (k:=kt) hc (BJ g1 (BJ g2 C4));refine wpAny_noRaise (BN (g _ s5 σ3 H5 (.ref a5) u (λσ' H'=>σ'=some v1::some v2::C6 σ fv/\H'=H5) I5' r5 ⟨a5,[v1,v2],rfl,hq5,rfl,v1,[v2],rfl,v2,[],rfl,rfl,sσ,rfl⟩) λ_ s6 q6=>?_);rcases q6 with⟨σ6,H6,I6,rfl,rfl⟩;refine wpAny_noRaise (BN (hf _ _ _ _ _ s6 _ _ _ I6 step5) λb s7 q7=>?_);obtain⟨H7,I7,q7⟩:=q7;cases b with
   |false =>
    rw[qE 0#8]at q7⊢;obtain⟨n',hn',w7⟩:=hNN _ _ q7;exact⟨n',hn',i+1,gt,_,H7,I7.unpinned,rfl,(again I7).1,(again I7).2,w7⟩
   |true =>
    rw[qF rfl]at q7⊢;refine wpAny_noRaise (BN (he _ _ _ _ _ s7 _ _ _ I7 q7) λyv s8 q8=>?_);rcases q8 with⟨y,H8,I8,r8,e8,l8,q8⟩;obtain⟨n',hn',w8⟩:=hNN _ _ q8;refine wpAny_noRaise (BN (GU (X:=Ea X s2 H2 0#9 fp (x::x2::fv.map (·.2))) _ s8 _ H8 (.ref D) [y] (.ref D) [yv] (λ_ H'=>H'=Ad H8 D (.lst (gt++[y]))) I8 rfl (.cons r8 .nil) ⟨D,gt,y,rfl,rfl,e8,l8,rfl⟩) λ_ s9 q9=>?_);rcases q9 with⟨_,H9,I9,_,rfl⟩;exact⟨n',hn',i+1,gt++[y],_,_,I9.unpinned,rfl,(again I9).1,(again I9).2,w8⟩
 exact codeAny_compStart_list loop (T.self X.A 0 _ _ _ st1 loop)
theorem SO(hc:X.calm=true)(hi:PI X (.Tuple [.Name x px,.Name x2 px2] kt pt) iter wi)(hclos:closureFor scope X.env=pure cl)(hcell:∀y∈scope.names,y.2≠.cell)(hk:scope.kind=.function)(hnames:∀z∈scope.names,z.2=.local->scope.names.lookup z.1=some .local)
  (hx:scope.names.lookup x=some .local) (hx2:scope.names.lookup x2=some .local) (hcl:HV X.env cl) (hhas:((relabel scope X.env).names.all λz=>!(z.2==.cell||z.2==.free)||(cl.lookup z.1).isSome)=true) (hfv:Ia X scope cl fv) (hnd:(x::x2::fv.map (·.2)).Nodup)
  (hf:∀s H C fp,PF (Ea X s H 0#9 fp (x::x2::fv.map (·.2))) ifs tt) (he:∀s H C fp,PE (Ea X s H 0#9 fp (x::x2::fv.map (·.2))) elt te)
  (hs:∀x,foldedSetIterable iter X.env x=pure x:=by intro _;rfl):PE X (.ListComp elt [⟨.Tuple [.Name x px,.Name x2 px2] kt pt,iter,ifs,0⟩] scope pos) (WK X.K wi fv tt te):=by
 intro ad s σ H Q I h;rw[eval_ListComp];refine wpAny_comprehension_free (use:=none) rfl hs hclos hk hnames (BN (hi ad s σ H _ I h) λv s1 h1=>BN h1 λitv s2 h2=>?_);rcases h2 with⟨it,fp,tn,J,H2,e,I2,T,st2,f2,hw⟩;subst e;refine SN (RR:=λgt C=>compPost 0#6 X.A X.xe none (EP X ad σ Q) gt C) hc I2 T st2 f2 hcell hk hx hx2 hcl hhas hfv hnd hf he hw λD C σ' H' s' hC Ib q=>?_;obtain⟨m,hn,_⟩:=Ib.loc;exact⟨m,hn,λh' sb=>⟨.ref D,H',AT.letGo I2 (Ic I2 f2 Ib) hC Ib.free sb,rfl,q⟩⟩
end
end L2
namespace PySem
section
variable{prog:qT}{w:qU}{A:Around}{E:qQ->qS->Prop}{s:qS}{it d:qR}{i ep:Nat}{od:Obj}{es:Array DictEntry}
theorem keys_item{Q:Option qQ->qS->Prop}(hit:s.heap.IsKeyIter it d i es.size ep)(hod:s.heap.get? d=some od)(hdd:od.data=.dict es ep)(hlt:i<es.size)
  (hQ:∀h',h'.IsKeyIter it d (i+1) es.size ep->Heap.SameBut it s.heap h'->Q (some es[i].key) {s with heap:=h'}):wpAny 0#7 A (pyNext (.ref it)) Q E s:=by
 obtain⟨o,ho,hc,hd⟩:=id hit;have T:=hit.typeIs;unfold pyNext;refine qC (wpAny_attempt (wpAny_callSpecial?_slot (name:=Str.ofString "__next__") T F.slot_dict_keyiterator_next (wpAny_call_entry F.slot_dict_keyiterator_next T F.entry_dict_keyiterator_next ?_ (F.args_dict_keyiterator_next_1 _))));refine qC (qD (qC (qC ?_)));refine qC (wpAny_typeNameOfWhole_keyiter T (qD (qC (wpAny_fieldsOf ho hd ?_))));simp only[show Builtin.Dict_items.ownsTuple "dict_keyiterator"=false by decide,Bool.false_eq_true,if_false];show wpAny _ _ (if (Value.ref d==.none)=true then _ else _) _ _ s;rw[qE (show ¬((Value.ref d==.none)=true) from bf)];refine qC (qD (qC (wpAny_dictEntries hod hdd ?_)));rw[qE 1#4];refine qC (qD (qC (wpAny_dictEpoch hod hdd ?_)));rw[qE 1#4];refine qD ?_;simp only[show ¬((i:Int)<0) by lia,if_false,Int.toNat_natCast,Array.getElem?_eq_getElem hlt];refine qC (qC (wpAny_typeNameOfWhole_keyiter T (qD (qC (wpAny_isOneOf_keyiter T ?_)))));show wpAny _ _ (setField (.ref it) 1 (rawInt ((i:Int)+1)) >>= _) _ _ s;have hit':(s.heap.update it (Obj.mapFields (·.setIfInBounds 1 (rawInt ((i:Int)+1))))).IsKeyIter it d (i+1) es.size ep:=⟨_,Heap.get?_update_self _ ho (Obj.isFreed_of_fields (Obj.data_mapFields hd _)),(Obj.cls_mapFields ..).trans hc,by rw[Obj.data_mapFields hd];simp[rawInt]⟩;refine qC (wpAny_setField ho hd 1#4 (qC (qO (qC (wpAny_isOneOf_keyiter (s:={s with heap:=s.heap.update it (Obj.mapFields (·.setIfInBounds 1 (rawInt ((i:Int)+1))))}) hit'.typeIs ?_)))));show wpAny _ _ (pure es[i].key) _ _ _;exact qD (qD ⟨_,rfl,qD (hQ _ hit' (Heap.SameBut.update ..))⟩)
theorem keys_end{Q:Option qQ->qS->Prop}(hh:A.handled=none)(hit:s.heap.IsKeyIter it d i es.size ep)(hod:s.heap.get? d=some od)(hdd:od.data=.dict es ep)(hge:es.size<=i)
  (hQ:∀h',Heap.ExtBut it s.heap h'->Q none {s with heap:=h'}):wpAny 0#7 A (pyNext (.ref it)) Q E s:=by
 obtain⟨o,ho,hc,hd⟩:=id hit;have T:=hit.typeIs;unfold pyNext;refine qC (wpAny_attempt (wpAny_callSpecial?_slot (name:=Str.ofString "__next__") T F.slot_dict_keyiterator_next (wpAny_call_entry F.slot_dict_keyiterator_next T F.entry_dict_keyiterator_next ?_ (F.args_dict_keyiterator_next_1 _))));refine qC (qD (qC (qC ?_)));refine qC (wpAny_typeNameOfWhole_keyiter T (qD (qC (wpAny_fieldsOf ho hd ?_))));simp only[show Builtin.Dict_items.ownsTuple "dict_keyiterator"=false by decide,Bool.false_eq_true,if_false];show wpAny _ _ (if (Value.ref d==.none)=true then _ else _) _ _ s;rw[qE (show ¬((Value.ref d==.none)=true) from bf)];refine qC (qD (qC (wpAny_dictEntries hod hdd ?_)));rw[qE 1#4];refine qC (qD (qC (wpAny_dictEpoch hod hdd ?_)));rw[qE 1#4];refine qD ?_;simp only[show ¬((i:Int)<0) by lia,if_false,Int.toNat_natCast,Array.getElem?_eq_none hge];refine qC (qC (wpAny_typeNameOfWhole_keyiter T (qD ?_)));show wpAny _ _ (setField (.ref it) 0 .none >>= _) _ _ s;refine qC (wpAny_setField ho hd 1#4 ?_);show wpAny _ _ (newExc (.type "StopIteration") [] >>= _) _ _ _;refine qC ?_;simp only[newExc,newTuple];refine qC (wpAny_newObj_type (qC (m:=firstArgMember _ _) (wpAny_of_eq (a:=Value.none) (by first|rfl|(simp only[firstArgMember];rfl)) (wpAny_newObj_type ?_ (by size_fits)))) (by size_fits));simp only[raiseNew];refine qC (wpAny_handled ?_);rw[show A.in1.handled=none from hh];refine qC (qD (wpAny_throw ?_));exact qC (wpAny_isInstance (T:="StopIteration") (b:=true) ⟨_,ba _ rfl,rfl⟩ isSubtype_stop (qD (hQ _ (((Heap.SameBut.update ..).extBut.push _).push _))))
theorem keys_iter{Q:qQ->qS->Prop}(hm:(d==sysModules)=false)(hT:s.TypeIs (.ref d) "dict")(hod:s.heap.get? d=some od)(hdd:od.data=.dict es ep)
  (hQ:Q (.ref s.heap.objs.size) {s with heap:=s.heap.push {cls:=.type "dict_keyiterator",data:=.fields #[.ref d,.int 0 0,.int es.size 0,.int ep 0]}}):wpAny 0#7 A (pyIter (.ref d)) Q E s:=by
 refine wpAny_pyIter_slot hT F.slot_dict_iter (wpAny_call_entry F.slot_dict_iter hT F.entry_dict_iter ?_ (F.args_dict_iter_1 _));unfold Builtin.«dict.__iter__»;refine qC ?_;unfold Builtin.Dict.dictSlotNone;refine qC (wpAny_notOrdered_dict hT ?_);show wpAny _ _ (pure (Value.ref d)) _ _ s;refine qD ?_;show wpAny _ _ (Builtin.Dict.showsAll d >>= _) _ _ s;unfold Builtin.Dict.showsAll;rw[qE (by rw[hm];exact bf)];refine qC (qD (qC (wpAny_dictEntries hod hdd (qC (wpAny_dictEpoch hod hdd ?_)))));exact qC (wpAny_newObj_type (qD ⟨_,rfl,"dict_keyiterator",_,⟨_,Heap.get?_push_size _ rfl,rfl⟩,F.slot_dict_keyiterator_next.lookup,by simpa [rawInt] using hQ⟩))
end
end PySem
namespace L2
open PySem PySem.Spec PyProof.Rows
variable{E Q:qQ->qS->Prop}{H H':Hp}{a:qR}{h' h1:Heap}{kvs:List (List Bq×V)}{ad:List (qR×Obj)}{t':Nat}{tg:Expr}{u:qQ}{xs:List V}{α β:Type}{σ:St}
theorem Bv{F:α->β->Prop}:∀{l₁:List α} {l₂:List β} {i:Nat} {x:α},Paired F l₁ l₂->l₁[i]?=some x->∃y,l₂[i]?=some y/\F x y
 |_,_,_,_,.nil,e=>by simp at e
 |_,_,0,_,.cons r _,e=>by simp at e;subst e;exact⟨_,rfl,r⟩
 |_,_,i+1,x,.cons _ t,e=>by obtain⟨u,h1,h2⟩:=Bv (i:=i) (x:=x) t (by simpa using e);exact⟨u,by simpa using h1,h2⟩
section
variable{X:Cx}
theorem AT.freeze{s:qS}{d:qR}{u:HO}(I:AT X ad σ H s)(e:H d=some u)(nt:∀ys,u≠.tup ys)(nf:∀o v,u≠.frz o v)(nb:∀ps,u≠.tbl ps)(no:∀x,u≠.own x){o:Obj}(ho:s.heap.get? d=some o):AT X ad σ (Ad H d (.frz o u)) s:=
 have up:∀{b:qR} {v:HO},H b=some v->v≠u->Ad H d (.frz o u) b=some v:=λ{b v} z n=>by rw[AK λy=>n (by rw[y,e]at z;exact (Option.some.inj z).symm)];exact z
 have un:∀{b:qR},H b=none->Ad H d (.frz o u) b=none:=λ{b} z=>by rw[AK λy=>by rw[y,e]at z;cases z];exact z
 {I with
  base:=⟨I.base.keep,I.base.slot,λb ob q n hx=>un (I.base.free b ob q n hx),I.base.there,λb xs q=>up (I.base.tups b xs q) λz=>nt _ z.symm,λb ob v q=>up (I.base.frzs b ob v q) λz=>nf _ _ z.symm,λb ps q=>by obtain⟨m,z⟩:=I.base.tbls b ps q;exact⟨m,up z λy=>nb _ y.symm⟩⟩
  free:=un I.free
  freeC:=λx c q=>un (I.freeC x c q)
  pin:=λp hp=>⟨(I.pin p hp).1,un (I.pin p hp).2.1,(I.pin p hp).2.2⟩
  hok:=λb v q=>by
   have st:∀{b:qR} {v:HO},H b=some v->Ax X.prog X.w (Ad H d (.frz o u)) s.heap b v:=λ{b v} q=>(I.hok b v q).stay (λ_ _ _ z=>z) (λc z=>up z λy=>no _ y.symm) λc xs z=>up z λy=>nt _ y.symm
   by_cases hb:b=d
   ·subst hb;rw[AE]at q;cases q;exact⟨ho,st e⟩
   ·rw[AK hb]at q;exact st q}
theorem WL{d:qR}{u:HO}(e:H d=some u):Ad H d u=H:=funext λb=>by
 by_cases z:b=d
 ·subst z;rw[AE,e]
 ·rw[AK z]
end
abbrev PR:=List Bq×qR×V
noncomputable def JK(p:PR):List Bq×V:=(p.1,p.2.2)
def Fg(p:PR)(q:List Bq×qR×qQ):Prop:=p.1=q.1/\p.2.1=q.2.1/\A5 p.2.2 q.2.2
def US(P:qT)(w:qU)(d:qR)(bs:List PR)(h:Heap):Prop:=bs.length<=sizeLine/\(d==sysModules)=false/\∃xs:List (List Bq×qR×qQ),Paired Fg bs xs /\
 ∃o es ep,h.get? d=some o/\o.ExactDict/\o.data=.dict es ep/\es.toList=xs.map (entryOfKey (tupleKind (BO P w)))/\(xs.map (·.1)).Nodup
noncomputable def Tg(P:qT)(w:qU)(d:qR)(bs:List PR):HO:=.ext (US P w d bs)
def SQ(K:qV)(H:Hp)(bs:List PR):Prop:=∀p∈bs,Ah K H p.2.1 (p.1.map kV)
def DW(P:qT)(w:qU)(K:qV)(H:Hp)(d:qR)(kvs:List (List Bq×V)):Prop:=∃bs,H d=some (Tg P w d bs)/\bs.map JK=kvs/\SQ K H bs
def DR(P:qT)(w:qU)(K:qV)(H:Hp)(d:qR)(u:HO)(kvs:List (List Bq×V)):Prop:=∃bs,H d=some u/\(u=Tg P w d bs\/∃o,u=.frz o (Tg P w d bs))/\bs.map JK=kvs/\SQ K H bs
section
variable{P:qT}{w:qU}{K:qV}{h:Heap}{d:qR}{u:HO}
theorem Ah.same'(e:AH H H')(q:Ah K H a xs):Ah K H' a xs:=q.imp (λz=>z.imp (e _ _) λ⟨o,z⟩=>⟨o,e _ _ z⟩) id
theorem DR.same(e:AH H H')(r:DR P w K H d u kvs):DR P w K H' d u kvs:=by obtain⟨bs,h1,h2,h3,h4⟩:=r;exact⟨bs,e _ _ h1,h2,h3,λp hp=>(h4 p hp).same' e⟩
theorem DW.same(e:AH H H')(r:DW P w K H d kvs):DW P w K H' d kvs:=by obtain⟨bs,h1,h3,h4⟩:=r;exact⟨bs,e _ _ h1,h3,λp hp=>(h4 p hp).same' e⟩
theorem DW.r(r:DW P w K H d kvs):∃u,DR P w K H d u kvs:=by obtain⟨bs,h1,h3,h4⟩:=r;exact⟨_,bs,h1,.inl rfl,h3,h4⟩
theorem Fg.val{bs:List PR}{xs:List (List Bq×qR×qQ)}(r:Paired Fg bs xs)(k:List Bq):Jt (Bg (bs.map JK) k) ((atKey xs k).map (·.2)):=by
 induction r with
 |nil=>exact True.intro
 | @cons p q ps qs hh t ih =>
  obtain⟨h1,_,h2⟩:=hh
  by_cases e:p.1=k
  ·have e':q.1=k:=h1.symm.trans e;have b:atKey (q::qs) k=some q.2:=by simp[atKey,List.find?_cons,e']
   rw[cU,Ew (show (JK p).1=k from e),b];exact h2
  ·have e':¬q.1=k:=λz=>e (h1.trans z)
   have b:atKey (q::qs) k=atKey qs k:=by simp[atKey,List.find?_cons,e']
   rw[cU,D4 (show ¬(JK p).1=k from e),b];exact ih
end
section
variable{X:Cx}{s:qS}{d b:qR}{u:HO}{k:List Bq}
theorem EQ(I:AT X ad σ H s)(q:Ah X.K H b (k.map kV)):(tupleKind (BO X.prog X.w)).is s.heap k b:=by obtain⟨its,rv,p,hz⟩:=I.tuple q;obtain⟨o,h1,h2,n,h3⟩:=p;exact⟨o,its.toArray,n,h1,h2,h3,by simpa using Gf rv⟩
theorem DR.at(I:AT X ad σ H s)(r:DR X.prog X.w X.K H d u kvs):∃bs xs,bs.map JK=kvs/\SQ X.K H bs/\Paired Fg bs xs/\bs.length<=sizeLine/\(d==sysModules)=false/\s.heap.DictOfH (tupleKind (BO X.prog X.w)) d xs:=by
 rcases r with⟨bs,h1,h2,h3,h4⟩
 have ok:US X.prog X.w d bs s.heap:=by
  rcases h2 with e|⟨o,e⟩
  ·subst e;exact (show Ax X.prog X.w H s.heap d (.ext _) from I.hok d _ h1).1
  ·subst e;exact (show Ax X.prog X.w H s.heap d (.ext _) from (show Ax X.prog X.w H s.heap d (.frz o _) from I.hok d _ h1).2).1
 rcases ok with⟨z,hd,xs,rel,o,es,ep,e1,e2,e3,e4,e5⟩;refine⟨bs,xs,h3,h4,rel,z,hd,o,es,ep,e1,e2,e3,e4,λx hx=>?_,e5⟩;obtain⟨i,hi⟩:=cQ.mp hx;have hl:=Paired.length rel;have hi':=(bJ.mp hi).1;rcases Bv rel (i:=i) (x:=bs[i]) (by simp[show i<bs.length by lia]) with⟨y,hy,r1,r2,_⟩;rw[hi]at hy;cases hy;rw[<-r1,<-r2];exact EQ I (h4 _ (dO _))
variable{A:Around}{v:V}
theorem Qd(hu:A.units+1<cLine)(I:AT X ad σ H s)(r:DR X.prog X.w X.K H d u kvs)(q:Ah X.K H b (k.map kV))(l:Bg kvs k=some v)(h:∀w' s',AT X ad σ H s'->A5 v w'->Q w' s'):
  wpAny 0#6 A (getItem (.ref d) (.ref b)) Q E s:=by
 obtain⟨bs,xs,h3,h4,rel,z,hd,dd⟩:=r.at I;obtain⟨w',hw,rw'⟩:=Jt.some_of (v:=v) (o:=(atKey xs k).map (·.2)) (by rw[<-l,<-h3];exact Fg.val rel k);obtain⟨p,hp,hp2⟩:=cM.mp hw;refine wpAny_getItem_heap (tupleKind_room_in1 hu) (EQ I q) dd hp ?_;rw[hp2];exact h w' _ (I.tok _) rw'
theorem aB(hu:A.units+1<cLine)(I:AT X ad σ H s)(r:DR X.prog X.w X.K H d u kvs)(q:Ah X.K H b (k.map kV))(h:∀s',AT X ad σ H s'->Q (.bool (Bg kvs k).isSome) s'):
  wpAny 0#6 A (compareOp .In (.ref b) (.ref d)) Q E s:=by
 rcases r.at I with⟨bs,xs,h3,h4,rel,z,hd,dd⟩;refine wpAny_in_heap (tupleKind_room_in1 hu) (EQ I q) hd dd ?_;have q:=(Fg.val rel k).isSome_eq;rw[gI,h3]at q;rw[<-q];exact h _ (I.tok _)
theorem UT(hu:A.units+1<cLine)(I:AT X ad σ H s)(r:DR X.prog X.w X.K H d u kvs)(q:Ah X.K H b (k.map kV))(h:∀s',AT X ad σ H s'->Q (.bool (!(Bg kvs k).isSome)) s'):
  wpAny 0#6 A (compareOp .NotIn (.ref b) (.ref d)) Q E s:=by
 obtain⟨bs,xs,h3,h4,rel,z,hd,dd⟩:=r.at I;refine wpAny_notIn_heap (tupleKind_room_in1 hu) (EQ I q) hd dd ?_;have q:=(Fg.val rel k).isSome_eq;rw[gI,h3]at q;rw[<-q];exact h _ (I.tok _)
end
noncomputable def Mo(bs:List PR)(k:List Bq)(b:qR)(v:V):List PR:=if (bs.any λp=>decide (p.1=k))=true then bs.map (λp=>if p.1=k then (p.1,p.2.1,v) else p) else bs++[(k,b,v)]
theorem PU(bs:List PR)(k:List Bq)(b:qR)(v:V):(Mo bs k b v).map JK=D1 (bs.map JK) k v:=by
 unfold Mo D1;have e:((bs.map JK).any λkv=>decide (kv.1=k))=bs.any λp=>decide (p.1=k):=by rw[List.any_map];rfl
 rw[e]
 by_cases z:(bs.any λp=>decide (p.1=k))=true
 ·rw[qF z,qF z,c9,c9];refine bU λp _=>?_;show JK (if p.1=k then (p.1,p.2.1,v) else p)=if (JK p).1=k then ((JK p).1,v) else JK p
  by_cases y:p.1=k
  ·rw[qF y,qF (show (JK p).1=k from y)];rfl
  ·rw[qE y,qE (show ¬(JK p).1=k from y)]
 ·rw[qE z,qE z,bS];rfl
theorem Fg.put{bs:List PR}{xs:List (List Bq×qR×qQ)}(r:Paired Fg bs xs)(k:List Bq)(b:qR){y:V}(ry:A5 y u):Paired Fg (Mo bs k b y) (storedH xs k b u):=by
 have e:(bs.any λp=>decide (p.1=k))=(atKey xs k).isSome:=by have q:=(Fg.val r k).isSome_eq;rw[gI]at q;rw[<-q,<-F6,List.any_map];rfl
 unfold Mo storedH;rw[e]
 by_cases q:(atKey xs k).isSome=true
 ·rw[qF q,qF q];clear e q
  induction r with
  |nil=>exact .nil
  | @cons p q ps qs hh t ih =>
   rw[cU,cU];refine .cons ?_ ih;obtain⟨h1,h2,h3⟩:=hh;unfold putAt
   by_cases e:p.1=k
   ·rw[qF e,qF (h1.symm.trans e)];exact⟨h1,h2,ry⟩
   ·rw[qE e,qE (λz=>e (h1.trans z))];exact⟨h1,h2,h3⟩
 ·rw[qE q,qE q];exact Paired.snoc r ⟨rfl,rfl,ry⟩
theorem SR{bs:List PR}{k:List Bq}{b:qR}{v:V}{p:PR}(h:p∈Mo bs k b v):(∃q∈bs,p.1=q.1/\p.2.1=q.2.1)\/(p.1=k/\p.2.1=b):=by
 unfold Mo at h
 split at h
 ·obtain⟨q,hq,e⟩:=bg.mp h;refine .inl ⟨q,hq,?_⟩
  by_cases z:q.1=k
  ·rw[qF z]at e;subst e;exact⟨rfl,rfl⟩
  ·rw[qE z]at e;subst e;exact⟨rfl,rfl⟩
 ·rcases bQ.mp h with z|z
  ·exact .inl ⟨p,z,rfl,rfl⟩
  ·rw[bV.mp z];exact .inr ⟨rfl,rfl⟩
theorem US.stay{P:qT}{w:qU}{d:qR}{bs:List PR}{h2:Heap}(x:US P w d bs h1)(k:∀o,h1.get? d=some o->h2.get? d=some o):US P w d bs h2:=by rcases x with⟨z,hd,xs,rel,o,es,ep,e1,e2⟩;exact⟨z,hd,xs,rel,o,es,ep,k _ e1,e2⟩
theorem Ah.upd'{K:qV}{d:qR}{φ:Heap->Prop}{u:HO}(hd:H d=some (.ext φ))(q:Ah K H a xs):Ah K (Ad H d u) a xs:=by
 rcases q with (z|⟨o,z⟩)|z
 ·exact .inl (.inl (by rw[AK (Dc z hd λy=>nomatch y)];exact z))
 ·exact .inl (.inr ⟨o,by rw[AK (Dc z hd λy=>nomatch y)];exact z⟩)
 ·exact .inr z
section
variable{X:Cx}{s:qS}{d b:qR}{k:List Bq}{A:Around}{v:V}{r:qQ}
theorem DW.put(I:AT X ad σ H s){bs:List PR}{xs:List (List Bq×qR×qQ)}(h1:H d=some (Tg X.prog X.w d bs))(h4:SQ X.K H bs)(rel:Paired Fg bs xs)(hd:(d==sysModules)=false)(q:Ah X.K H b (k.map kV))(hz:(bs.map JK).length<sizeLine)(rv:A5 v r)
  (dd':h'.DictOfH (tupleKind (BO X.prog X.w)) d (storedH xs k b r)) (sb:Heap.SameBut d s.heap h'):∃u',DW X.prog X.w X.K (Ad H d u') d (D1 (bs.map JK) k v)/\AT X ad σ (Ad H d u') {s with heap:=h',toks:=t'}:=by
 have hl:(Mo bs k b v).length<=sizeLine:=by have a:=HM (bs.map JK) k v;rw[<-PU bs k b v,bG]at a;lia
 rcases dd' with⟨o,es,ep,g1,g2,g3,g4,_,g5⟩;refine⟨Tg X.prog X.w d (Mo bs k b v),⟨_,AE,PU ..,λp hp=>?_⟩,LI I (by rw[h1];exact True.intro) sb ⟨o,g1⟩ ⟨⟨hl,hd,_,Fg.put rel k b rv,o,es,ep,g1,g2,g3,g4,g5⟩,⟨o,g1⟩,λh1 h2 x k=>US.stay x k⟩⟩;rcases SR hp with⟨p',hp',e1,e2⟩|⟨e1,e2⟩
 ·rw[e1,e2];exact (h4 p' hp').upd' h1
 ·rw[e1,e2];exact q.upd' h1
theorem DW.at(I:AT X ad σ H s)(w:DW X.prog X.w X.K H d kvs):∃bs xs,H d=some (Tg X.prog X.w d bs)/\bs.map JK=kvs/\SQ X.K H bs/\Paired Fg bs xs/\xs.length<=sizeLine/\(d==sysModules)=false/\s.heap.DictOfH (tupleKind (BO X.prog X.w)) d xs:=by rcases w with⟨bs,h1,h3,h4⟩;rcases (show Ax X.prog X.w H s.heap d (.ext _) from I.hok d _ h1).1 with⟨z,hd,xs,rel,o,es,ep,e1,e2,e3,e4,e5⟩;refine⟨bs,xs,h1,h3,h4,rel,by rw[<-Paired.length rel];exact z,hd,o,es,ep,e1,e2,e3,e4,λx hx=>?_,e5⟩;obtain⟨i,hi⟩:=cQ.mp hx;have hl:=Paired.length rel;have hi':=(bJ.mp hi).1;rcases Bv rel (i:=i) (x:=bs[i]) (by simp[show i<bs.length by lia]) with⟨y,hy,r1,r2,_⟩;rw[hi]at hy;cases hy;rw[<-r1,<-r2];exact EQ I (h4 _ (dO _))
theorem Qe{Q:Unit->qS->Prop}(hu:A.units+1<cLine)(I:AT X ad σ H s)(w:DW X.prog X.w X.K H d kvs)(q:Ah X.K H b (k.map kV))(hz:kvs.length<sizeLine)(rv:A5 v r)(h:∀u' s',DW X.prog X.w X.K (Ad H d u') d (D1 kvs k v)->AT X ad σ (Ad H d u') s'->Q () s'):
  wpAny 0#6 A (setItem (.ref d) (.ref b) r) Q E s:=by
 rcases w.at I with⟨bs,xs,h1,h3,h4,rel,hl,hd,dd⟩;subst h3;refine wpAny_setItem_heap (hsz:=hl) (tupleKind_room_in1 hu) (EQ I q) dd λh' dd' sb=>?_;obtain⟨u',w',I'⟩:=DW.put (t':=s.toks+(tupleKind (BO X.prog X.w)).draws k) I h1 h4 rel hd q hz rv dd' sb;exact h u' _ w' I'
end
end L2
namespace PySem
section
variable{prog:qT}{w:qU}{A:Around}{E:qQ->qS->Prop}{s:qS}{d:qR}{o:Obj}{es:Array DictEntry}{ep:Nat}
theorem meets_lenR(hd:(d==sysModules)=false):MeetsIn prog w (Builtin.«dict.__len__» ⟨[.ref d],[]⟩) (λ_ R s=>∃o es ep,s.heap.get? d=some o/\o.data=.dict es ep/\R (.ok (.ret (.int es.size s.toks))) {s with toks:=s.toks+1}):=
 .of_wp λA R s ⟨o,es,ep,ho,hdat,h⟩=>by show wpAny _ _ (dictSize d >>= _) _ _ s;unfold dictSize;refine qC (qC (wpAny_dictEntries ho hdat (qD ?_)));show wpAny _ _ (Builtin.Dict.pendingCount d >>= _) _ _ s;refine qC (wpAny_pendingCount_other hd (wpAny_ret_mkInt ?_));rw[fQ];exact h
theorem len_dictR{Q:qQ->qS->Prop}(hd:(d==sysModules)=false)(hT:s.TypeIs (.ref d) "dict")(ho:s.heap.get? d=some o)(hdat:o.data=.dict es ep)(hfit:(es.size:Int)<2^63)
  (h:Q (.int es.size (s.toks+1)) {s with toks:=s.toks+1+1}):wpAny 0#7 A (call (.builtin "len") [.ref d]) Q E s:=by
 refine Calls.call_function_entry kind_len plain_len entry_len (args_len1 _) ?_;unfold Builtin.«len»
 refine qC (m:=oneArg "len" _) (qD (qC (m:=callSpecial? (.ref d) (Str.ofString "__len__")) (wpAny_callSpecial?_slot (name:=Str.ofString "__len__") hT F.slot_dict_len
  (call_meetsIn F.slot_dict_len hT F.entry_dict_len (F.args_dict_len_1 _) (meets_lenR hd) ⟨o,es,ep,ho,hdat,?_⟩))))
 show wpAny _ _ _ _ _ {s with toks:=s.toks+1};refine qC (qO (qD (qC (wpAny_letGo ?_))));show wpAny _ _ (if ((es.size:Nat):Int)<0 then _ else _) _ _ _;rw[qE 0#1];show wpAny _ _ (if ((es.size:Nat):Int)≥2^63 then _ else _) _ _ _;rw[qE 0#1];exact qC (wpAny_mkInt (qD ⟨_,rfl,h⟩))
end
end PySem
namespace L2
open PySem PySem.Spec PyProof.Rows
variable{D:HU}{H:Hp}{a it:qR}{es:List Expr}{kvs:List (List Bq×V)}{name:Str}{pos:Pos}{te tl to:TE}{tg:Expr}{tt:TT}{σ:St}{σf:List (Option V)}
section
variable(P:qT)(w:qU)(K:qV)
def VN(td ty:TE):TE:=λσ H Q=>td σ H λx H1=>ty σ H1 λy H2=>∃(d b:qR) (u:HO) (kvs:List (List Bq×V)) (k:List Bq) (v:V),x=.ref d/\y=.ref b/\DR P w K H2 d u kvs/\Ah K H2 b (k.map kV)/\Bg kvs k=some v/\Q v H2
def YH(ty td:TE):TE:=λσ H Q=>ty σ H λy H1=>td σ H1 λx H2=>∃(d b:qR) (u:HO) (kvs:List (List Bq×V)) (k:List Bq),x=.ref d/\y=.ref b/\DR P w K H2 d u kvs/\Ah K H2 b (k.map kV)/\Q (.bl (Bg kvs k).isSome) H2
def PV(ty td:TE):TE:=λσ H Q=>ty σ H λy H1=>td σ H1 λx H2=>∃(d b:qR) (u:HO) (kvs:List (List Bq×V)) (k:List Bq),x=.ref d/\y=.ref b/\DR P w K H2 d u kvs/\Ah K H2 b (k.map kV)/\Q (.bl (!(Bg kvs k).isSome)) H2
def VO(td ty tv:TE):TS:=λD σ H=>tv σ H λv H1=>td σ H1 λx H2=>ty σ H2 λy H3=>∃(d b:qR) (kvs:List (List Bq×V)) (k:List Bq),x=.ref d/\y=.ref b/\DW P w K H3 d kvs/\Ah K H3 b (k.map kV)/\kvs.length<sizeLine/\∀u',DW P w K (Ad H3 d u') d (D1 kvs k v)->D.nx σ (Ad H3 d u')
def VP:TE:=λ_ H Q=>∀p u',H p=none->DW P w K (Ad H p u') p []->Q (.ref p) (Ad H p u')
noncomputable def Xc(d:qR)(u:HO)(kvs:List (List Bq×V)):It:=
 ⟨λi H=>DR P w K H d u kvs/\i<kvs.length,λi H x H'=>H'=H/\∃(b:qR) (k:List Bq) (v:V),x=.ref b/\kvs[i]?=some (k,v)/\Ah K H b (k.map kV),λi H=>DR P w K H d u kvs/\kvs.length<=i⟩
def SS(tl:TE):TI:=λσ H R=>tl σ H λx H1=>∃(d:qR) (u:HO) (kvs:List (List Bq×V)),x=.ref d/\DR P w K H1 d u kvs/\∀u',DR P w K (Ad H1 d u') d u' kvs->R (Xc P w K d u' kvs) (Ad H1 d u')
end
section
variable{X:Cx}{o i value:Expr}{pos':Pos}{td ty tv:TE}
theorem UU(hu:X.A.units+1<cLine)(ho:PE X o td)(hi:PE X i ty)(hs:WH i):PE X (.Subscript o i pos) (VN X.prog X.w X.K td ty):=by intro ad s σ H Q I h;refine UL PySem.F.slot_dict_getitem.lookup hs (BN (ho ad s σ H _ I h) λu s1 ⟨x,H1,I1,rx,q1⟩=>BN (hi ad s1 σ H1 _ I1 q1) λiv s2 z9=>?_);obtain⟨y,H2,I2,ry,d,b,uu,kvs,k,v,ex,ey,r,q,l,q2⟩:=z9;subst ex ey;cases rx;cases ry;rcases r.at I2 with⟨bs,xs,_,_,_,_,_,dd⟩;exact⟨dd.typeIs,Qd hu I2 r q l λw' s3 I3 rw'=>⟨v,H2,I3,rw',q2⟩⟩
theorem WM(hu:X.A.units+1<cLine)(hi:PE X i ty)(ho:PE X o td):PC X .In i o (YH X.prog X.w X.K ty td):=by
 intro ad s σ H Q I h;refine BN (hi ad s σ H _ I h) λiv s1 ⟨y,H1,I1,ry,q1⟩=>BN (ho ad s1 σ H1 _ I1 q1) λu s2 z9=>?_
 obtain⟨x,H2,I2,rx,d,b,uu,kvs,k,ex,ey,r,q,q2⟩:=z9;subst ex ey;cases rx;cases ry;exact aB hu I2 r q λs3 I3=>⟨.bl (Bg kvs k).isSome,H2,I3,rfl,q2⟩
theorem Qf(hu:X.A.units+1<cLine)(hi:PE X i ty)(ho:PE X o td):PC X .NotIn i o (PV X.prog X.w X.K ty td):=by
 intro ad s σ H Q I h;refine BN (hi ad s σ H _ I h) λiv s1 ⟨y,H1,I1,ry,q1⟩=>BN (ho ad s1 σ H1 _ I1 q1) λu s2 z9=>?_
 obtain⟨x,H2,I2,rx,d,b,uu,kvs,k,ex,ey,r,q,q2⟩:=z9;subst ex ey;cases rx;cases ry;exact UT hu I2 r q λs3 I3=>⟨.bl (!(Bg kvs k).isSome),H2,I3,rfl,q2⟩
theorem UV(hu:X.A.units+1<cLine)(ho:PE X o td)(hi:PE X i ty)(hv:PE X value tv)(hs:swapsWith value (some (.Subscript o i pos')) pos.line X.env=pure false):
  PS X (.Assign [.Subscript o i pos'] value pos) (VO X.prog X.w X.K td ty tv):=by
 intro ad s σ H D I h;refine wpAny_Assign_Subscript (BN (hv ad s σ H _ I h) λr s1 ⟨v,H1,I1,rv,q1⟩=>BN (ho ad s1 σ H1 _ I1 q1) λu s2 ⟨x,H2,I2,rx,q2⟩=>BN (hi ad s2 σ H2 _ I2 q2) λiv s3 z9=>?_) hs;obtain⟨y,H3,I3,ry,d,b,kvs,k,ex,ey,g,q,l,q3⟩:=z9;subst ex ey;cases rx;cases ry;exact Qe hu I3 g q l rv λu' s4 w4 I4=>⟨σ,_,I4,q3 u' w4⟩
theorem UW:PE X (.Dict [] [] pos) (VP X.prog X.w X.K):=λad s σ H Q I h =>
 wpAny_Dict_empty ⟨.ref s.heap.objs.size,_,I.laid (a:=s.heap.objs.size) (o:=Tg X.prog X.w s.heap.objs.size []) (t':=s.toks) (λ_ _ q=>bK _ q) (bL _)
  ⟨⟨cS _,beq_eq_false_iff_ne.mpr (Ne.symm (b9 I.big)),[],.nil,_,#[],0,ba _ rfl,⟨rfl,rfl,rfl⟩,rfl,rfl,dm⟩,⟨_,ba _ rfl⟩,λh1 h2 x k=>US.stay x k⟩,rfl,
  h _ _ (I.hok.fresh (bL _)) ⟨[],AE,rfl,λp hp=>nomatch hp⟩⟩
theorem Qg:Cf X (.builtin "len") (λxs H Q=>∃(d:qR) (u:HO) (kvs:List (List Bq×V)),xs=[V.ref d]/\DR X.prog X.w X.K H d u kvs/\Q (.int kvs.length) H):=by
 intro ad s σ H xs us Q I r h;rcases h with⟨d,u,kvs,rfl,ha,q⟩;obtain⟨uu,rfl,ru⟩:=FQ r;cases ru;rcases ha.at I with⟨bs,ys,h3,_,rel,z,hd,dd⟩;have hT:s.TypeIs (.ref d) "dict":=dd.typeIs;rcases dd with⟨ob,es,ep,g1,g2,g3,g4,_⟩
 have hz:es.size=kvs.length:=by have a:=qP List.length g4;have b:=Paired.length rel;rw[<-h3];simp at a;simp;lia
 have l1:bs.length=kvs.length:=by rw[<-h3,bG]
 refine len_dictR hd hT g1 g3 (by rw[sizeLine_eq]at z;lia) ⟨.int kvs.length,H,I.tok _,⟨_,by rw[hz]⟩,q⟩
theorem OG(hu:X.A.units+1<cLine):Xp X "dict.setdefault" (λx xs H Q=>∃(d b:qR) (kvs:List (List Bq×V)) (k:List Bq) (y:V),x=.ref d/\xs=[.ref b,y]/\DW X.prog X.w X.K H d kvs/\Ah X.K H b (k.map kV)/\kvs.length<sizeLine /\
  (∀z,Bg kvs k=some z->Q z H)/\(Bg kvs k=none->∀u',DW X.prog X.w X.K (Ad H d u') d (D1 kvs k y)->Q y (Ad H d u'))):=by
 intro ad s σ H x xs v us Q I rx rs h;rcases h with⟨d,b,kvs,k,y,rfl,rfl,e,eb,hz,h1,h2⟩;rcases On rs with⟨u1,u2,rfl,r1,r2⟩;cases rx;cases r1;rcases e.at I with⟨bs,es,g1,g3,g4,rel,hl,hd,dd⟩;subst g3;have rk:=Fg.val rel k;refine call_meetsIn dL dd.typeIs PySem.F.entry_dict_setdefault (PySem.F.args_dict_setdefault_3 _ _ _) (meetsH_setDef (tupleKind (BO X.prog X.w)) d b hd u2) ⟨tupleKind_room_in1 hu,k,es,EQ I eb,dd,hl,λp hp=>?_,λhn hp dd' sb=>?_⟩
 ·rw[hp]at rk;cases hv:Bg (bs.map JK) k with
  |none=>rw[hv]at rk;exact (show False from rk).elim
  |some t =>
   rw[hv]at rk;exact⟨t,H,I.tok _,rk,h1 t hv⟩
 ·have hv:Bg (bs.map JK) k=none:=by
   cases hv:Bg (bs.map JK) k with
   |none=>rfl
   |some t=>rw[hv,hn]at rk;exact (show False from rk).elim
  obtain⟨u',w',I'⟩:=DW.put (t':=s.toks+(tupleKind (BO X.prog X.w)).draws k) I g1 g4 rel hd eb hz r2 dd' sb;exact⟨y,_,I',r2,h2 hv u' w'⟩
theorem OH{P:qT}{w:qU}{K:qV}{d:qR}{ob:Obj}{φ:Heap->Prop}{es:Array DictEntry}{ep:Nat}(ho:ob.data=.dict es ep)(hl:es.size=kvs.length):Kr P w K tg (Xc P w K d (.frz ob (.ext φ)) kvs) [it] it (λi h=>h.IsKeyIter it d i es.size ep) where
 mem:=by simp
 obj:=λi h st b hb=>by
  have e:b=it:=by simpa using hb
  subst e;rcases st with⟨o,e,c,d⟩;exact⟨o,e,λv z=>by rw[d]at z;cases z⟩
 keep:=λi h h' st k=>st.at λo e=>k it 1#4 o e
 item:=by
  rintro X hP hw hK hc i ad s σ H E I hf st ⟨hg,hi⟩;subst hP hw hK;rcases hf it 1#4 with⟨f0,f1,f2,f3,f4,f5⟩;rcases hg with⟨bs,h1,h2,h3,h4⟩;obtain⟨g0,g1,_⟩:=(show Ax X.prog X.w H s.heap d (.frz ob (.ext φ)) from I.hok d _ h1)
  have dx:US X.prog X.w d bs s.heap:=by
   rcases h2 with e|⟨o',e⟩
   ·cases e
   ·cases e;exact g1
  rcases dx with⟨_,_,xs,rel,o2,es2,ep2,e2,_,d2,rows,_⟩;rw[g0]at e2;cases e2;rw[ho]at d2;cases d2;have hie:i<es.size:=by lia
  have hib:i<bs.length:=by rw[<-h3,bG]at hi;exact hi
  rcases Bv rel (i:=i) (x:=bs[i]) (by simp[hib]) with⟨q,hq,r1,r2,r3⟩
  have he:es[i].key=.ref bs[i].2.1:=by
   have z:es.toList[i]?=some es[i]:=by simp[hie]
   rw[rows,bO,hq]at z;rw[r2];exact (qP DictEntry.key (Option.some.inj z)).symm
  refine keys_item st g0 ho hie λh' st' sb=>?_;have I1:AT X ad σ H {s with heap:=h'}:=I.turned (t':=s.toks) (λb o hb e=>(sb.2 b hb).trans e) f0 f1 f3 f4 f5;rcases id st' with⟨oo,e,c,dd⟩;exact⟨_,rfl,Lr (s:={s with heap:=h'}) e c dd 0#8 ⟨.ref bs[i].2.1,H,I1,by rw[he];rfl,⟨rfl,bs[i].2.1,bs[i].1,bs[i].2.2,rfl,by rw[<-h3,List.getElem?_map];simp[hib,JK],h4 _ (List.getElem_mem _)⟩,st',λb hb=>(hf b hb).1⟩⟩
 done:=by rintro X hP hw hK hc i ad s σ H E I hf st ⟨hg,hi⟩;subst hP hw hK;rcases hf it 1#4 with⟨f0,f1,f2,f3,f4,f5⟩;obtain⟨bs,h1,_⟩:=hg;obtain⟨g0,g1⟩:=(show Ax X.prog X.w H s.heap d (.frz ob (.ext φ)) from I.hok d _ h1);exact keys_end (I.ok.hd hc) st g0 ho 0#1 λh' eb=>⟨rfl,I.turned (t':=s.toks) (λb o hb e=>eb b o hb e) f0 f1 f3 f4 f5⟩
 self:=λ_ _ _ _ _ st h=>wpAny_pyIter_keyiter st h
theorem SU{l:Expr}(hl:PE X l tl):PI X tg l (SS X.prog X.w X.K tl):=by
 intro ad s σ H R I h;refine BN (hl ad s σ H _ I h) λv s1 z9=>?_;obtain⟨x,H1,I1,r1,q1⟩:=z9;rcases q1 with⟨d,u,kvs,e,hq,q⟩;subst e;cases r1;rcases hq with⟨bs,h1,h2,h3,h4⟩
 have dx:US X.prog X.w d bs s1.heap:=by
  rcases h2 with e|⟨o,e⟩
  ·subst e;exact (show Ax X.prog X.w H1 s1.heap d (.ext _) from I1.hok d _ h1).1
  ·subst e;exact (show Ax X.prog X.w H1 s1.heap d (.ext _) from (show Ax X.prog X.w H1 s1.heap d (.frz o _) from I1.hok d _ h1).2).1
 rcases dx with⟨z,hm,xs,rel,o,es,ep,ho,hx,hd,rows,nd⟩
 have I2:AT X ad σ (Ad H1 d (.frz o (Tg X.prog X.w d bs))) s1:=by
  rcases h2 with e|⟨o',e⟩
  ·subst e;exact I1.freeze h1 (λ_ z=>nomatch z) (λ_ _ z=>nomatch z) (λ_ z=>nomatch z) (λ_ z=>nomatch z) ho
  ·subst e;obtain⟨g0,_⟩:=(show Ax X.prog X.w H1 s1.heap d (.frz o' _) from I1.hok d _ h1);rw[ho]at g0;cases g0;rw[WL h1];exact I1
 have hsz:es.size=kvs.length:=by have a:=qP List.length rows;have b:=Paired.length rel;rw[<-h3];simp at a;simp;lia
 have dr:DR X.prog X.w X.K (Ad H1 d (.frz o (Tg X.prog X.w d bs))) d (.frz o (Tg X.prog X.w d bs)) kvs:=⟨bs,AE,.inr ⟨o,rfl⟩,h3,λp hp=>by
  have k:=h4 p hp;rcases h2 with e|⟨o',e⟩
  ·subst e;exact k.upd' h1
  ·subst e;rcases k with (z|⟨o2,z⟩)|z
   ·exact .inl (.inl (by rw[AK (Dc z h1 λy=>nomatch y)];exact z))
   ·exact .inl (.inr ⟨o2,by rw[AK (Dc z h1 λy=>by cases y)];exact z⟩)
   ·exact .inr z⟩
 refine keys_iter hm ⟨o,ho,hx.1⟩ ho hd ⟨s1.heap.objs.size,[s1.heap.objs.size],_,_,_,rfl,I2.kept (t':=s1.toks) λb o e=>bK _ e,OH hd hsz,⟨_,ba _ rfl,rfl,rfl⟩,λb hb=>?_,q _ dr⟩;have e:b=s1.heap.objs.size:=by simpa using hb
 subst e;exact I2.fpOk (bL _) (I2.hok.fresh (bL _))
theorem Qh{P:qT}{w:qU}{K:qV}{d:qR}{u:HO}{g:TG}{tb:TS}(Pv:Nat->St->Hp->Prop)(h0:Pv 0 σ H)(hl:∀i σ H,i<=kvs.length->Pv i σ H->DR P w K H d u kvs)
  (hs:∀i b k v σ H,kvs[i]?=some (k,v)->Ah K H b (k.map kV)->Pv i σ H->g (.ref b) σ H λσ2 H2=>tb {D with nx:=Pv (i+1),ct:=Pv (i+1),bk:=D.nx} σ2 H2) (hd:∀σ H,Pv kvs.length σ H->D.nx σ H):
  ∃W:Nat->Nat->St->Hp->Prop,(∃m,W 0 m σ H)/\∀i m σ H,W i m σ H ->
   ((Xc P w K d u kvs).stop i H/\D.nx σ H)\/((Xc P w K d u kvs).go i H/\∃N:St->Hp->Prop,(∀σ' H',N σ' H'->∃m',m'<m/\W (i+1) m' σ' H')/\∀x H',(Xc P w K d u kvs).yld i H x H'->g x σ H' λσ2 H2=>tb {D with nx:=N,ct:=N,bk:=D.nx} σ2 H2):=by
 refine⟨λi m σ H=>m=kvs.length-i/\i<=kvs.length/\Pv i σ H,⟨kvs.length,by simp,Nat.zero_le _,h0⟩,?_⟩;rintro i m σ H ⟨rfl,hi,p⟩;have q:=hl i σ H hi p
 by_cases hlt:i<kvs.length
 ·refine .inr ⟨⟨q,hlt⟩,Pv (i+1),λσ' H' p'=>⟨kvs.length-(i+1),by lia,rfl,hlt,p'⟩,λx H' y=>?_⟩;rcases y with⟨e,b,k,v,ex,hk,hb⟩;subst e ex;exact hs i b k v σ _ hk hb p
 ·have e:i=kvs.length:=by lia
  subst e;exact .inl ⟨⟨q,bL _⟩,hd σ H p⟩
theorem Fh{P:qT}{w:qU}{K:qV}{d:qR}{u:HO}{D:qR}{Q:VK}(Pv:Nat->List V->Hp->Prop)(h0:Pv 0 [] (Ad H D (.lst [])))(hl:∀i gt H,i<=kvs.length->Pv i gt H->DR P w K H d u kvs)
  (hs:∀i b k v gt H2,kvs[i]?=some (k,v)->Ah K H2 b (k.map kV)->Pv i gt H2->tt (some (.ref b)::σf) H2 λt H4=>if t=true then te (some (.ref b)::σf) H4 λy H5=>H5 D=some (.lst gt)/\gt.length<sizeLine/\Pv (i+1) (gt++[y]) (Ad H5 D (.lst (gt++[y]))) else Pv (i+1) gt H4)
  (hd:∀gt H2,Pv kvs.length gt H2->Q (.ref D) H2):Ep (Xc P w K d u kvs) tt te σf D Q H:=by
 refine⟨λk i gt H=>k=kvs.length-i/\i<=kvs.length/\Pv i gt H,⟨kvs.length,by simp,Nat.zero_le _,h0⟩,?_⟩;rintro k i gt H2 ⟨rfl,hi,p⟩;have q:=hl i gt H2 hi p
 by_cases hlt:i<kvs.length
 ·refine .inr ⟨⟨q,hlt⟩,Pv (i+1),λl H' p'=>⟨kvs.length-(i+1),by lia,rfl,hlt,p'⟩,λx H' y=>?_⟩;rcases y with⟨e,b,k,v,ex,hk,hb⟩;subst e ex;exact hs i b k v gt _ hk hb p
 ·have e:i=kvs.length:=by lia
  subst e;exact .inl ⟨⟨q,bL _⟩,hd gt H2 p⟩
section
variable{P:qT}{w:qU}{K:qV}
theorem DQ(hP:X.prog=P)(hw:X.w=w)(hK:X.K=K)(hu:X.A.units+1<cLine)(ho:PE X o td)(hi:PE X i ty)(hs:WH i):PE X (.Subscript o i pos) (VN P w K td ty):=by subst hP hw hK;exact UU hu ho hi hs
theorem UX(hP:X.prog=P)(hw:X.w=w)(hK:X.K=K)(hu:X.A.units+1<cLine)(hi:PE X i ty)(ho:PE X o td):PC X .In i o (YH P w K ty td):=by subst hP hw hK;exact WM hu hi ho
theorem OI(hP:X.prog=P)(hw:X.w=w)(hK:X.K=K)(hu:X.A.units+1<cLine)(hi:PE X i ty)(ho:PE X o td):PC X .NotIn i o (PV P w K ty td):=by subst hP hw hK;exact Qf hu hi ho
theorem Mp(hP:X.prog=P)(hw:X.w=w)(hK:X.K=K)(hu:X.A.units+1<cLine)(ho:PE X o td)(hi:PE X i ty)(hv:PE X value tv)(hs:swapsWith value (some (.Subscript o i pos')) pos.line X.env=pure false):PS X (.Assign [.Subscript o i pos'] value pos) (VO P w K td ty tv):=by subst hP hw hK;exact UV hu ho hi hv hs
theorem JL(hP:X.prog=P)(hw:X.w=w)(hK:X.K=K):PE X (.Dict [] [] pos) (VP P w K):=by subst hP hw hK;exact UW
theorem OJ(hP:X.prog=P)(hw:X.w=w)(hK:X.K=K):Cf X (.builtin "len") (λxs H Q=>∃(d:qR) (u:HO) (kvs:List (List Bq×V)),xs=[V.ref d]/\DR P w K H d u kvs/\Q (.int kvs.length) H):=by subst hP hw hK;exact Qg
theorem HN(hP:X.prog=P)(hw:X.w=w)(hK:X.K=K)(hu:X.A.units+1<cLine):Xp X "dict.setdefault" (λx xs H Q=>∃(d b:qR) (kvs:List (List Bq×V)) (k:List Bq) (y:V),x=.ref d/\xs=[.ref b,y]/\DW P w K H d kvs/\Ah K H b (k.map kV)/\kvs.length<sizeLine /\
  (∀z,Bg kvs k=some z->Q z H)/\(Bg kvs k=none->∀u',DW P w K (Ad H d u') d (D1 kvs k y)->Q y (Ad H d u'))):=by subst hP hw hK;exact OG hu
theorem FK(hP:X.prog=P)(hw:X.w=w)(hK:X.K=K){l:Expr}(hl:PE X l tl):PI X tg l (SS P w K tl):=by subst hP hw hK;exact SU hl
noncomputable def PX(K:qV)(a:qR)(ns:qW):Bool:=match K.lookup a with
 |some o=>o.cls==.type "tuple"&&(match o.data with|.seq its _=>decide (its.size<=1000)&&decide (its.toList.map Tl=ns.map λn=>some (V.int n))|_=>false)
 |none=>false
end
end
theorem Mq:∀{ns:qW} {us:List qQ},us.map Tl=ns.map (λn=>some (V.int n))->Av 1#3 us
 |[],[],_=>.nil
 |[],_::_,h=>by cases h
 |_::_,[],h=>by cases h
 |n::ns,u::us,h=>by
  rw[cU,cU]at h
  injection h with h1 h2
  refine .cons ?_ (Mq h2);cases u<;>simp[Tl]at h1;subst h1;exact⟨_,rfl⟩
theorem GA{K:qV}{ns:qW}(h:PX K a ns=true)(H:Hp):Ah K H a 1#3:=by
 unfold PX at h
 split at h
 ·rename_i o e
  rw[dD]at h;obtain⟨h1,h2⟩:=h
  split at h2
  ·rename_i its n ed
   rw[dD]at h2;have s:=qN h2.1;exact .inr ⟨o,its,n,e,eq_of_beq h1,ed,by rw[sizeLine_eq];lia,Mq (qN h2.2)⟩
  ·cases h2
 ·cases h
def aC(P:qT)(w:qU)(K:qV)(r:V->List V->Hp->VK->Prop)(to:TE)(t:TA):TE:=λσ H Q=>to σ H λx H1=>(∃(d:qR) (u:HO) (kvs:List (List Bq×V)),x=.ref d/\DR P w K H1 d u kvs)/\t σ H1 λxs H2=>r x xs H2 Q
theorem SV{X:Cx}{P:qT}{w:qU}{K:qV}{o e:Expr}{t:TA}{apos cpos:Pos}{id:String}{r:V->List V->Hp->VK->Prop}(hP:X.prog=P)(hw:X.w=w)(hK:X.K=K)(slot:Slot "dict" name id)(hty:typeOf (.builtin id)=pure (.type "method_descriptor"))(hm:Xp X id r)(ho:PE X o to)(ha:PA X (e::es) t)(hbase:attributeBase o name X.env (eval o X.env)=eval o X.env:=by rfl)(hfew:((backTo cpos (starEach (e::es) X.env)).all (λx=>!x.1)&&(backToKw cpos (keywordEach [] X.env)).all (λx=>x.1.isSome)&&decide ((e::es).length+([]:List Keyword).length+(if ([]:List Keyword).isEmpty then 0 else 1)<30))=true:=by rfl)(hline:(apos.endLine==cpos.line)=true:=by rfl)
  (hs:starEach (e::es) X.env=(false,eval e X.env)::starEach es X.env:=by rfl) (hplain:(backTo cpos (starEach es X.env)).any (·.1)=false:=by rfl):PE X (.Call (.Attribute o name apos) (e::es) [] cpos) (aC P w K r to t):=by
 subst hP hw hK;intro ad s σ H Q I h;refine wpAny_Call_method_late hbase hfew hline rfl (BN (ho ad s σ H _ I h) λv s1 z9=>?_);obtain⟨x,H1,I1,r1,⟨d,u,kvs,ex,dr⟩,q1⟩:=z9;subst ex;cases r1;rcases dr.at I1 with⟨bs,xs,_,_,_,_,_,dd⟩;have h1:s1.TypeIs (.ref d) "dict":=dd.typeIs
 refine⟨"dict",id,PySem.F.plainAttrs_dict,slot,hty,h1,λb q=>by cases q;rcases dd with⟨ob,_,_,g1,g2,_⟩;exact⟨ob,g1,g2.2.1⟩,?_⟩
 have hA:=ha cpos ad s1 σ H1 _ I1 q1;rw[hs]at hA⊢;refine Calls.callWith_builtin (by show (false||(backTo cpos (starEach es X.env)).any (·.1))=false;rw[hplain]<;>rfl) (Calls.evalArgs_plain (BN hA λus s2 ⟨vs,H2,I2,r2,q2⟩=>hm ad s2 σ H2 (.ref d) vs (.ref d) us Q I2 rfl r2 q2))
end L2
namespace PySem
open Sem (wp)
end PySem
namespace L2
open PySem PySem.Spec PyProof.Rows
end L2
namespace L2
open PySem PySem.Spec PyProof.Rows RW
variable{G i j:Nat}{H H':Hp}{a:qR}{c g6:qW}{kvs:List (List Bq×V)}{te tl:TE}{tg:Expr}{tt:TT}{xs ys:List V}{α β:Type}{σf:List (Option V)}
noncomputable def DC(p:qX):qX:=if p.1=p.2 then (0,0) else p
theorem CI(u:Nat):DC (u,u)=(0,0):=qF rfl
def FS(G h:Nat)(g6:qW)(p q:qX):Prop:=∃a b,a<h*G/\b<h*G/\a≠b/\g6.getD a 0=g6.getD b 0/\p=DC (a/G,b/G)/\q=DC (a%h,b%h)
def Hb(G h:Nat)(g6:qW)(rk:qX->Nat):Prop:=∀p q,FS G h g6 p q->rk p<rk q
theorem GB{n:Nat}{f:Nat->Int}(h:1<=Aq n f):∃j,j<n/\1<=f j:=by
 induction n with
 |zero=>rw[Bz]at h;lia
 |succ n ih =>
  rw[Ar]at h
  by_cases z:1<=f n
  ·exact⟨n,by lia,z⟩
  ·obtain⟨j,hj,hf⟩:=ih 0#1;exact⟨j,by lia,hf⟩
theorem SW{n:Nat}{f:Nat->Int}(h1:∀j,j<n->f j<=1)(h2:∀i j,i<n->j<n->i≠j->1<=f i->f j<=0):Aq n f<=1:=by
 induction n with
 |zero=>rw[Bz];lia
 |succ n ih =>
  rw[Ar];have a:=ih (λj hj=>h1 j 0#1) λi j hi hj=>h2 i j 0#1 0#1
  have b:=h1 n 0#1
  by_cases z:1<=f n
  ·have c:Aq n f<=0:=by
    by_cases y:1<=Aq n f
    ·obtain⟨j,hj,hf⟩:=GB y;have:=h2 n j 0#1 0#1 0#1 z;lia
    ·lia
   lia
  ·lia
theorem Gp{n:Nat}{f g:Nat->Int}(h:∀k,k<n->f k<=g k):Aq n f<=Aq n g:=by
 induction n with
 |zero=>rw[Bz,Bz];lia
 |succ n ih =>
  rw[Ar,Ar];have:=ih λk hk=>h k 0#1
  have:=h n 0#1;lia
theorem Hz{p:Bool}{x:Int}(h:1<=Dq p x):p=true/\1<=x:=by
 unfold Dq at h
 split at h
 ·rename_i z;exact⟨z,h⟩
 ·lia
section
variable{h:Nat}
theorem PY{s:Int}{r:qW}{u v:Nat}(hw:1<=Gg G g6 h (s::r) u v):∃j,j<G/\g6.getD (u*G+j) 0=s/\1<=Gg G g6 h r ((u*G+j)%h) v:=by obtain⟨j,hj,hf⟩:=GB (show 1<=Aq G _ from hw);obtain⟨h1,h2⟩:=Hz hf;exact⟨j,hj,qN h1,h2⟩
theorem IA{u:Nat}(hu:u<h)(hj:j<G):u*G+j<h*G:=by have:=fV G (show u+1<=h from hu);rw[Nat.add_mul,Nat.one_mul]at this;lia
theorem Ct{u:Nat}(hj:j<G):(u*G+j)/G=u:=by rw[eV,Nat.add_mul_div_right _ _ 0#1,Nat.div_eq_of_lt hj,fj]
theorem VQ{rk:qX->Nat}(hr:Hb G h g6 rk)(h0:0<h){v:Nat}:∀(r:qW) {u u':Nat},u<h->u'<h->1<=Gg G g6 h r u v->1<=Gg G g6 h r u' v->rk (DC (u,u'))<=rk (0,0)
 |[],u,u',_,_,h1,h2=>by
  have e:∀{u:Nat},1<=Gg G g6 h [] u v->u=v:=λ{u} z=>by
   have z:(1:Int)<=if u=v then 1 else 0:=z
   by_cases y:u=v
   ·exact y
   ·rw[qE y]at z;lia
  rw[e h1,e h2,CI];exact bL _
 |s::r,u,u',hu,hu',h1,h2=>by
  obtain⟨j,hj,hs,hw⟩:=PY h1;obtain⟨j',hj',hs',hw'⟩:=PY h2
  by_cases e:u*G+j=u'*G+j'
  ·have:u=u':=by rw[<-Ct (u:=u) hj,e,Ct hj']
   rw[this,CI];exact bL _
  ·have a:=hr _ _ ⟨u*G+j,u'*G+j',IA hu hj,IA hu' hj',e,hs.trans hs'.symm,rfl,rfl⟩;rw[Ct hj,Ct hj']at a;have b:=VQ hr h0 r (cJ (u*G+j) h0) (cJ (u'*G+j') h0) hw hw';lia
theorem SY{rk:qX->Nat}(hr:Hb G h g6 rk)(h0:0<h){v:Nat}:∀(r:qW) {u:Nat},u<h->Gg G g6 h r u v<=1
 |[],u,_=>by
  show (if u=v then (1:Int) else 0)<=1
  split<;>lia
 |s::r,u,hu=>by
  refine SW (λj hj=>?_) λi j hi hj ne hp=>?_
  ·have a:=SY hr h0 (v:=v) r (cJ (u*G+j) h0);unfold Dq
   split<;>lia
  ·obtain⟨p1,p2⟩:=Hz hp
   by_cases z:1<=Dq (decide (g6.getD (u*G+j) 0=s)) (Gg G g6 h r ((u*G+j)%h) v)
   ·obtain⟨q1,q2⟩:=Hz z;have a:=hr _ _ ⟨u*G+i,u*G+j,IA hu hi,IA hu hj,by lia,(qN p1).trans (qN q1).symm,rfl,rfl⟩;rw[Ct hi,Ct hj,CI]at a;have b:=VQ hr h0 r (cJ (u*G+i) h0) (cJ (u*G+j) h0) p2 q2;lia
   ·lia
end
theorem Sa(h0:0<g6.length/G):∀(r:qW) {u:Nat},u<g6.length/G->Hr G g6 r u=Aq (g6.length/G) λv=>Gg G g6 (g6.length/G) r u v
 |[],u,hu=>by
  have z:=MT (g6.length/G) u hu 1;refine z.symm.trans (As λv _=>?_);show Dq (decide (v=u)) 1=if u=v then 1 else 0;unfold Dq
  by_cases e:v=u
  ·rw[qF (qH e),qF e.symm]
  ·rw[qE (by rw[decide_eq_true_iff];exact e),qE λy=>e y.symm]
 |s::r,u,hu=>by
  show Aq G (λj=>Dq (decide (g6.getD (u*G+j) 0=s)) (Hr G g6 r ((u*G+j)%(g6.length/G))))=Aq _ λv=>Aq G λj=>Dq (decide (g6.getD (u*G+j) 0=s)) (Gg G g6 (g6.length/G) r ((u*G+j)%(g6.length/G)) v)
  rw[Dz];refine As λj _=>?_;rw[Sa h0 r (cJ _ h0),LN]
theorem WN{rk:qX->Nat}(hr:Hb G (g6.length/G) g6 rk)(h0:0<g6.length/G)(r:qW):Fd G g6 r<=((g6.length/G:Nat):Int)*((g6.length/G:Nat):Int):=by unfold Fd;refine Int.le_trans (Gp (g:=λ_=>((g6.length/G:Nat):Int)) λu hu=>?_) (by rw[BK];exact dz _);rw[Sa h0 r hu];refine Int.le_trans (Gp (g:=λ_=>(1:Int)) λv _=>SY hr h0 r hu) ?_;rw[BK,fH];exact dz _
theorem Mr(h0:0<g6.length/G)(c:qW):∀(r:qW) {u:Nat},u<g6.length/G->1<=Hr G g6 (r++c) u->∃v,v<g6.length/G/\1<=Hr G g6 c v
 |[],u,hu,h=>⟨u,hu,h⟩
 |s::r,u,hu,h=>by obtain⟨j,hj,hf⟩:=GB (show 1<=Aq G _ from h);exact Mr h0 c r (cJ _ h0) (Hz hf).2
theorem Sb(h0:0<g6.length/G){r:qW}(h:1<=Fd G g6 (r++c)):1<=Fd G g6 c:=by obtain⟨u,hu,hc⟩:=GB (show 1<=Aq _ _ from h);obtain⟨v,hv,hw⟩:=Mr h0 c r hu hc;exact Int.le_trans hw (UJ (λk _=>Iq G g6 c k) hv)
theorem Sc{n:Nat}{f:Nat->Int}{M:Int}(h:∀k,k<n->f k<=M)(e:(n:Int)*M<=Aq n f):∀k,k<n->f k=M:=by
 induction n with
 |zero=>intro k hk;lia
 |succ n ih =>
  rw[Ar]at e
  have a:Aq n f<=(n:Int)*M:=by rw[<-BK];exact Gp λk hk=>h k 0#1
  have b:=h n 0#1;have c:((n+1:Nat):Int)*M=(n:Int)*M+M:=by rw[cy,Int.add_mul];lia
  intro k hk
  by_cases z:k=n
  ·subst z;lia
  ·exact ih (λk hk=>h k (by omega)) (by omega) k (by omega)
theorem HP(G2:2<=G)(hb:∀n∈g6,0<=n/\n<(G:Int)){rk:qX->Nat}(hr:Hb G (g6.length/G) g6 rk)(h0:0<g6.length/G)(hc:∀n∈c,0<=n/\n<(G:Int)):1<=Fd G g6 c:=by
 have bd:=WN hr h0;generalize ((g6.length/G:Nat):Int)*((g6.length/G:Nat):Int)=B at bd
 have top:∀(k:Nat) (r:qW),B-Fd G g6 r<=(k:Int)->∃r':qW,Fd G g6 r<=Fd G g6 r'/\∀s:qW,Fd G g6 s<=Fd G g6 r':=by
  intro k
  induction k with
  |zero =>
   intro r hk;exact⟨r,dz _,λs=>by have:=bd s;lia⟩
  |succ k ih =>
   intro r hk
   by_cases z:∃s,Fd G g6 r<Fd G g6 s
   ·obtain⟨s,hs⟩:=z;obtain⟨r',h1,h2⟩:=ih s 0#1;exact⟨r',by lia,h2⟩
   ·exact⟨r,dz _,λs=>by
     by_cases y:Fd G g6 s<=Fd G g6 r
     ·exact y
     ·exact qG ⟨s,by lia⟩ z⟩
 obtain⟨r,h1,h2⟩:=top (B-Fd G g6 []).toNat [] 0#1
 have one:1<=Fd G g6 []:=by have z:Fd G g6 []=((g6.length/G:Nat):Int)*1:=BK _ _;rw[z];lia
 have ext:∀(k:Nat) (c:qW),c.length=k->(∀n∈c,0<=n/\n<(G:Int))->Fd G g6 (r++c)=Fd G g6 r:=by
  intro k
  induction k with
  |zero =>
   intro c hl _;rw[gB.mp hl,cA]
  |succ k ih =>
   intro c hl hcb;have ne:c≠[]:=λz=>by rw[z]at hl;cases hl
   have e:=List.dropLast_concat_getLast ne;have lb:=hcb _ (List.getLast_mem ne);have a:=ih c.dropLast (by rw[List.length_dropLast];lia) λn hn=>hcb n ((List.dropLast_subset c) hn)
   have b:=Ny G2 hb (r++c.dropLast);rw[a]at b;have d:=Sc (n:=G) (f:=λs=>Fd G g6 (r++c.dropLast++[(s:Int)])) (M:=Fd G g6 r) (λk _=>h2 _) (by rw[b,dh];exact dz _) (c.getLast ne).toNat 0#1;rw[show (((c.getLast ne).toNat:Nat):Int)=c.getLast ne by lia,cN,e]at d;exact d
 exact Sb h0 (r:=r) (by rw[ext _ c rfl hc];lia)
variable{gq:Nat}
section
variable{S:qX->qX->Prop}{rk:qX->Nat}{p:Nat->qX}{n:Nat}
def KY(S:qX->qX->Prop)(p:Nat->qX)(n:Nat):Prop:=∀i,i<n->(p i=(0,0)/\p (i+1)=(0,0))\/S (p i) (p (i+1))
theorem KY.up(hr:∀a b,S a b->rk a<rk b)(t:KY S p n):∀(k i:Nat),i+k<=n->rk (p i)<=rk (p (i+k))
 |0,i,_=>bL _
 |k+1,i,h=>by
  have a:=KY.up hr t k i 0#1;rcases t (i+k) 0#1 with⟨x,y⟩|y
  ·rw[show i+(k+1)=i+k+1 by lia,y,<-x];exact a
  ·have:=hr _ _ y;rw[show i+(k+1)=i+k+1 by lia];lia
theorem KY.gone(hr:∀a b,S a b->rk a<rk b)(t:KY S p n)(h0:p i=(0,0))(h1:p (i+1)≠(0,0))(hij:i<j)(hj:j<=n):p j≠(0,0):=λe=>by
 rcases t i 0#1 with⟨_,y⟩|y
 ·exact h1 y
 ·have a:=hr _ _ y;have b:=t.up hr (j-(i+1)) (i+1) 0#1;rw[show i+1+(j-(i+1))=j by lia,e]at b;rw[h0]at a;lia
theorem KZ(h0:p i=(0,0))(hij:i<=j)(h1:p j≠(0,0)):∃k,i<=k/\k<j/\p k=(0,0)/\p (k+1)≠(0,0):=by
 induction j with
 |zero =>
  have:i=0:=by lia
  subst this;exact qG h0 h1
 |succ j ih =>
  by_cases e:p j=(0,0)
  ·refine⟨j,?_,by lia,e,h1⟩
   by_cases z:i=j+1
   ·rw[z]at h0;exact qG h0 h1
   ·lia
  ·by_cases z:i=j+1
   ·rw[z]at h0;exact qG h0 h1
   ·rcases ih 0#1 e with⟨k,a,b,c,d⟩;exact⟨k,a,by lia,c,d⟩
theorem KY.after(hr:∀a b,S a b->rk a<rk b)(t:KY S p n){left:Nat}(hL:∀(q:Nat->qX) (k:Nat),q 0=(0,0)->(∀i,i<k->S (q i) (q (i+1)))->k<=left)(h0:p i=(0,0))(hij:i<=j)(hj:j+left<=n):p j=(0,0):=by
 by_cases e:p j=(0,0)
 ·exact e
 ·exfalso;obtain⟨k,a,b,c,d⟩:=KZ h0 hij e
  have z:=hL (λx=>p (k+x)) (n-k) c λx hx=>by
   rcases t (k+x) 0#1 with⟨y,y'⟩|y
   ·exfalso
    by_cases x0:x=0
    ·subst x0;exact d y'
    ·exact t.gone hr c d (show k<k+x by lia) 0#1 y
   ·exact y
  lia
theorem OK(h1:p j≠(0,0)):∀(d:Nat),p (j+d)=(0,0)->∃k,j<k/\k<=j+d/\p k=(0,0)/\∀x,j<=x->x<k->p x≠(0,0):=λd=>by
 induction d using Nat.strongRecOn with
 |_ d ih =>
  intro h0
  by_cases z:∃x,x<d/\p (j+x)=(0,0)
  ·obtain⟨x,hx,e⟩:=z;obtain⟨k,a,b,c⟩:=ih x hx e;exact⟨k,a,by lia,c⟩
  ·refine⟨j+d,?_,bL _,h0,λx hx hxi e=>z ⟨x-j,by lia,by rw[show j+(x-j)=x by lia];exact e⟩⟩
   by_cases e:d=0
   ·subst e;exact qG h0 h1
   ·lia
theorem KY.ahead(hr:∀a b,S a b->rk a<rk b)(t:KY S p n)(hE:∀(q:Nat->qX) (k:Nat),q k=(0,0)->(∀i,i<k->S (q i) (q (i+1)))->k<=gq)(h0:p i=(0,0))(hij:j<=i)(hi:i<=n)(hj:gq<=j):p j=(0,0):=by
 by_cases e:p j=(0,0)
 ·exact e
 ·exfalso;obtain⟨k,jk,ki,k0,kn⟩:=OK e (i-j) (by rw[show j+(i-j)=i by lia];exact h0)
  have z:=hE p k k0 λx hx=>by
   rcases t x 0#1 with⟨y,y'⟩|y
   ·exfalso
    by_cases xj:x<=j
    ·obtain⟨k',a,b,c,d⟩:=KZ y xj e;exact t.gone hr c d (show k'<k by lia) 0#1 k0
    ·exact kn x 0#1 hx y
   ·exact y
  lia
theorem KY.some(hr:∀a b,S a b->rk a<rk b)(t:KY S p n)(hn:∀i,rk (p i)<n):∃i,i<=n/\p i=(0,0):=by
 by_cases z:∃i,i<=n/\p i=(0,0)
 ·exact z
 ·exfalso
  have a:∀k,k<=n->k<=rk (p k):=by
   intro k
   induction k with
   |zero=>intro _;lia
   |succ k ih =>
    intro hk;have:=ih 0#1;rcases t k 0#1 with⟨y,_⟩|y
    ·exact qG ⟨k,by lia,y⟩ z
    ·have:=hr _ _ y;lia
  have:=a n (bL _);have:=hn n;lia
end
theorem Cz{g:Int}{m:Nat}{ns:qW}(h:i+m<=ns.length):(Aw g g6 m ns).getD i 0=g6.getD (Ao g ((ns.drop i).take m)).toNat 0:=by unfold Aw;rw[AS 0#1];rfl
theorem Bh(l:qW)(k i:Nat):(l.drop k).getD i 0=l.getD (k+i) 0:=by rw[bH,bH,eB]
theorem Ms{g:Int}{m:Nat}{ns:qW}{k:Nat}(hk:k<=ns.length)(m1:1<=m):Aw g g6 m (ns.take k)=(Aw g g6 m ns).take (k+1-m):=by
 have l1:(ns.take k).length=k:=by rw[bq];lia
 refine AU (by rw[BD,l1,bq,BD,eS (Nat.sub_le_sub_right (Nat.succ_le_succ hk) m)]) λi hi=>?_;rw[BD,l1]at hi;rw[B2 hi,Cz 0#1,Cz 0#1]
 congr 3
 rw[eK,List.take_take,eS 0#1]
theorem Mt{g:Int}{m:Nat}{ns:qW}{k:Nat}(hk:k+m<=ns.length+1)(m1:1<=m):Aw g g6 m (ns.drop k)=(Aw g g6 m ns).drop k:=by have l1:(ns.drop k).length=ns.length-k:=bj ..;refine AU (by rw[BD,l1,bj,BD,Nat.sub_right_comm (ns.length+1),Nat.sub_add_comm (show k<=ns.length by lia)]) λi hi=>?_;rw[BD,l1]at hi;rw[Bh,Cz 0#1,Cz 0#1,eJ]
theorem LS{g:Int}(hg:2<=g){a b:qW}(ha:∀n∈a,0<=n/\n<g)(hb:∀n∈b,0<=n/\n<g)(hl:a.length=b.length)(e:Ao g a=Ao g b):a=b:=
 AU hl λj hj=>by rw[<-EL hg ha hj,<-EL hg hb 0#1,e,hl]
noncomputable def D7(g:Int)(m:Nat)(y:qW)(i:Nat):Nat:=(Ao g ((y.drop i).take (m-1))).toNat
variable{y:qW}
section
variable{g:Int}(hg:2<=g){m:Nat}(hl:(g6.length:Int)=g^m)(m2:2<=m)
include hg hl m2
theorem JM(hy:∀n∈y,0<=n/\n<g)(hi:i+m<=y.length):(Ao g ((y.drop i).take m)).toNat/g.toNat=D7 g m y i/\(Ao g ((y.drop i).take m)).toNat%0#5=D7 g m y (i+1):=by
 have hd:((y.drop i).take m)=(y.drop i).take (m-1)++[y.getD (i+(m-1)) 0]:=by
  have hlt:m-1<(y.drop i).length:=by rw[bj];lia
  rw[show m=m-1+1 by lia,cp,bI hlt,List.getElem_drop,bH,bI 0#1];rfl
 have wl:((y.drop i).take (m-1)).length=m-1:=FG 0#1
 have wb:∀n∈(y.drop i).take (m-1)++[y.getD (i+(m-1)) 0],0<=n/\n<g:=by rw[<-hd];exact λn hn=>hy n (bv (cO hn))
 have xb:=wb _ (bQ.mpr (.inr (bV.mpr rfl)));have nb:=BR hg λn hn=>wb n (bQ.mpr (.inl hn))
 have e:(Ao g ((y.drop i).take m)).toNat=(Ao g ((y.drop i).take (m-1))).toNat*g.toNat+(y.getD (i+(m-1)) 0).toNat:=by
  rw[hd,DJ];have:((Ao g ((y.drop i).take (m-1))).toNat:Int)*(g.toNat:Int)=Ao g ((y.drop i).take (m-1))*g:=by rw[bp nb.1,bp 0#1]
  have:=Int.mul_nonneg nb.1 (show 0<=g by lia);have z:(((Ao g ((y.drop i).take (m-1))).toNat*g.toNat+(y.getD (i+(m-1)) 0).toNat:Nat):Int)=Ao g ((y.drop i).take (m-1))*g+y.getD (i+(m-1)) 0:=by rw[cy,cx];lia
  lia
 refine⟨?_,?_⟩
 ·rw[e];exact Ct 0#1
 ·rw[e,KW hg hl 0#1 wl wb,<-hd,eK,eJ];rfl
theorem PZ{z:qW}(hy:∀n∈y,0<=n/\n<g)(hz:∀n∈z,0<=n/\n<g)(le:y.length=z.length)(hi:i+(m-1)<=y.length)(e:DC (D7 g m y i,D7 g m z i)=(0,0))(hj:j<m-1):y.getD (i+j) 0=z.getD (i+j) 0:=by
 have a:D7 g m y i=D7 g m z i:=by
  unfold DC at e
  split at e
  ·assumption
  ·have e1:=qP Prod.fst e;have e2:=qP Prod.snd e;exact e1.trans e2.symm
 unfold D7 at a;have by':∀n∈(y.drop i).take (m-1),0<=n/\n<g:=λn hn=>hy n (bv (cO hn))
 have bz':∀n∈(z.drop i).take (m-1),0<=n/\n<g:=λn hn=>hz n (bv (cO hn))
 have n1:=BR hg by'
 have n2:=BR hg bz';have b:=LS hg by' bz' (by rw[FG hi,FG 0#1]) 0#1
 have c:=qP (λl:qW=>l.getD j 0) b;have c:((y.drop i).take (m-1)).getD j 0=((z.drop i).take (m-1)).getD j 0:=c;rw[B2 hj,B2 hj,Bh,Bh]at c;exact c
theorem Ka{z:qW}(hy:∀n∈y,0<=n/\n<g)(hz:∀n∈z,0<=n/\n<g)(le:y.length=z.length)(e:Aw g g6 m y=Aw g g6 m z):KY (FS g.toNat 0#5 g6) (λi=>DC (D7 g m y i,D7 g m z i)) (y.length+1-m):=λi hi=>by
 obtain⟨a1,a2⟩:=JM hg hl m2 hy (show i+m<=y.length by lia);obtain⟨b1,b2⟩:=JM hg hl m2 hz (show i+m<=z.length by lia);have hd:=(A8 hg hl 0#1).2;have ya:=(Nm hg hy hl (show i+m<=y.length by lia)).2;have za:=(Nm hg hz hl (show i+m<=z.length by lia)).2;have te:g6.getD (Ao g ((y.drop i).take m)).toNat 0=g6.getD (Ao g ((z.drop i).take m)).toNat 0:=by rw[<-Cz 0#1,<-Cz 0#1,e]
 generalize (Ao g ((y.drop i).take m)).toNat=a at *;generalize (Ao g ((z.drop i).take m)).toNat=b at *
 by_cases ab:a=b
 ·subst ab;refine .inl ⟨?_,?_⟩
  ·show DC (D7 g m y i,D7 g m z i)=_;rw[<-a1,<-b1,CI]
  ·show DC (D7 g m y (i+1),D7 g m z (i+1))=_;rw[<-a2,<-b2,CI]
 ·refine .inr ⟨a,b,by rw[<-hd];exact ya,by rw[<-hd];exact za,ab,te,?_,?_⟩
  ·rw[a1,b1]
  ·rw[a2,b2]
end
variable{S:qX->qX->Prop}
section
variable{g:Int}(hg:2<=g){m:Nat}(hl:(g6.length:Int)=g^m)(m2:2<=m)(hb:∀n∈g6,0<=n/\n<g)
include hg hl m2
theorem KY.less{p:Nat->qX}{n k:Nat}(t:KY S p n)(h:k<=n):KY S p k:=λi hi=>t i 0#1
theorem KY.from{p:Nat->qX}{n:Nat}(t:KY S p n){k d:Nat}(h:d+k<=n):KY S (λi=>p (d+i)) k:=λi hi=>t (d+i) 0#1
include hb
theorem Mu{rk:qX->Nat}(hr:Hb g.toNat 0#5 g6 rk)(hc:∀n∈c,0<=n/\n<g):∃w:qW,w.length=c.length+m-1/\(∀n∈w,0<=n/\n<g)/\Aw g g6 m w=c:=by
 have hG:(g.toNat:Int)=g:=by lia
 have hd:=A8 hg hl (show 1<=m by lia);have hp:=RW.Ag hg (m-1);have z:=HP (G:=g.toNat) 0#1 (by rw[hG];exact hb) hr 0#1 (c:=c) (by rw[hG];exact hc);rw[<-LL (g:=g) g6 m c]at z;obtain⟨w,hw⟩:=List.exists_mem_of_length_pos (show 0<(Dr g g6 m c).length by lia);rw[<-KU hg hl 0#1 c]at hw;obtain⟨h1,h2⟩:=cE.mp hw;obtain⟨n,hn,rfl⟩:=bg.mp h1;have hn:=bh.mp hn;exact⟨_,BE ..,By hg _ _,qN h2⟩
theorem Qi{rk:qX->Nat}(hr:Hb g.toNat 0#5 g6 rk){R:Nat}(hR:∀p,rk p<R){left:Nat}
  (hE:∀(q:Nat->qX) (k:Nat),q k=(0,0)->(∀i,i<k->FS g.toNat 0#5 g6 (q i) (q (i+1)))->k<=gq)
  (hL:∀(q:Nat->qX) (k:Nat),q 0=(0,0)->(∀i,i<k->FS g.toNat 0#5 g6 (q i) (q (i+1)))->k<=left)
  {y z:qW} (hy:∀n∈y,0<=n/\n<g) (hz:∀n∈z,0<=n/\n<g) (ly:y.length=gq+left+1) (lz:z.length=gq+left+1) (e:Aw g g6 m y=Aw g g6 m z):y.getD gq 0=z.getD gq 0:=by
 have rb:∀k,∀n∈List.replicate k (0:Int),0<=n/\n<g:=λk n hn=>by rw[(List.mem_replicate.mp hn).2];lia
 obtain⟨A,hA⟩:∃A:qW,A=List.replicate (R+m) 0:=⟨_,rfl⟩;obtain⟨B,hB⟩:∃B:qW,B=List.replicate (R+gq+m) 0:=⟨_,rfl⟩;have lA:A.length=R+m:=by rw[hA,cL]
 have lB:B.length=R+gq+m:=by rw[hB,cL]
 have Yb:∀n∈A++y,0<=n/\n<g:=λn hn=>(bQ.mp hn).elim (λh=>rb _ n (hA▸h)) (hy n)
 have Zb:∀n∈z++B,0<=n/\n<g:=λn hn=>(bQ.mp hn).elim (hz n) (λh=>rb _ n (hB▸h))
 clear hA hB;have lY:(A++y).length=R+m+(gq+left+1):=by rw[bN,lA,ly]
 have lZ:(z++B).length=gq+left+1+(R+gq+m):=by rw[bN,lB,lz]
 obtain⟨X,lX,bX,x1,x2⟩:∃X:qW,X.length=R+(gq+left+1)+(R+gq+m)+1/\(∀n∈X,0<=n/\n<g)/\X.take (R+(gq+left+1)+1)=Aw g g6 m (A++y)/\X.drop (R+m)=Aw g g6 m (z++B):=by
  have b1:=F1 hg hb m (A++y);have b2:=F1 hg hb m (z++B);have l1:(Aw g g6 m (A++y)).length=R+(gq+left+1)+1:=by rw[BD,lY,fE R,fE,eI]
  have l2:(Aw g g6 m (z++B)).length=gq+left+1+(R+gq)+1:=by rw[BD,lZ,<-fT,fE,eI]
  by_cases c:m<=gq+left+1+1
  ·have f1:(Aw g g6 m (A++y)).drop (R+m)=Aw g g6 m y:=by
    rw[<-Mt 0#1 0#1,show R+m=A.length from lA.symm,List.drop_left]
   have f2:(Aw g g6 m (z++B)).take (gq+left+1+1-m)=Aw g g6 m z:=by rw[<-Ms 0#1 0#1,show gq+left+1=z.length from lz.symm,List.take_left]
   refine⟨Aw g g6 m (A++y)++(Aw g g6 m (z++B)).drop (gq+left+1+1-m),?_,?_,?_,?_⟩
   ·rw[bN,bj,l1,l2];obtain⟨d,hd⟩:=Nat.exists_eq_add_of_le c;rw[hd,de,show gq+left+1+(R+gq)+1=R+gq+m+d by lia,eI];lia
   ·exact λn hn=>(bQ.mp hn).elim (b1 n) λh=>b2 n (bv h)
   ·rw[<-l1,List.take_left]
   ·rw[List.drop_append_of_le_length 0#1,f1,e,<-f2,cq]
  ·refine⟨Aw g g6 m (A++y)++(List.replicate (m-(gq+left+1+1)) 0++Aw g g6 m (z++B)),?_,?_,?_,?_⟩
   ·rw[bN,bN,cL,l1,l2];lia
   ·exact λn hn=>(bQ.mp hn).elim (b1 n) λh=>(bQ.mp h).elim (rb _ n) (b2 n)
   ·rw[<-l1,List.take_left]
   ·rw[List.drop_append,List.drop_eq_nil_of_le 0#1,gh,List.drop_append,List.drop_eq_nil_of_le (by rw[cL];lia),gh,cL,l1,show R+m-(R+(gq+left+1)+1)-(m-(gq+left+1+1))=0 by lia,dj]
 obtain⟨W,lW,Wb,hW⟩:=Mu hg hl m2 hb hr bX;replace lW:W.length=R+(gq+left+1)+(R+gq+m)+m:=by rw[lW,lX];lia
 clear lX bX e;have hrS:∀a b,FS g.toNat 0#5 g6 a b->rk a<rk b:=hr
 have s1:y.getD gq 0=W.getD (R+m+gq) 0:=by
  have lw:(W.take (R+m+(gq+left+1))).length=(A++y).length:=by rw[bq,lY];lia
  have wb:∀n∈W.take (R+m+(gq+left+1)),0<=n/\n<g:=λn hn=>Wb n (cO hn)
  have le:Aw g g6 m (A++y)=Aw g g6 m (W.take (R+m+(gq+left+1))):=by rw[Ms 0#1 0#1,hW,<-x1,show R+m+(gq+left+1)+1-m=R+(gq+left+1)+1 by rw[fE R,fE,eI]]
  have t:=Ka hg hl m2 Yb wb lw.symm le;rw[lY]at t;obtain⟨i0,hi,e0⟩:=(KY.less hg hl m2 t (k:=R) 0#1).some hrS λi=>hR _
  have ee:=t.after hrS hL e0 (j:=R+gq+2) 0#1 0#1;have s:=PZ hg hl m2 Yb wb lw.symm 0#1 ee (j:=m-2) 0#1;rw[show R+gq+2+(m-2)=R+m+gq by lia,B2 0#1]at s;rw[<-s,bH,bH,bt 0#1,show R+m+gq-A.length=gq by lia]
 have s2:z.getD gq 0=W.getD (R+m+gq) 0:=by
  have lw:(W.drop (R+m)).length=(z++B).length:=by rw[bj,lZ];lia
  have wb:∀n∈W.drop (R+m),0<=n/\n<g:=λn hn=>Wb n (bv hn)
  have le:Aw g g6 m (z++B)=Aw g g6 m (W.drop (R+m)):=by rw[Mt 0#1 0#1,hW,x2]
  have t:=Ka hg hl m2 Zb wb lw.symm le;rw[lZ]at t;obtain⟨i0,hi,e0⟩:=(KY.from hg hl m2 t (k:=R) (d:=gq) 0#1).some hrS λi=>hR _
  have ee:=t.ahead hrS hE e0 (j:=gq) 0#1 0#1 (bL _);have s:=PZ hg hl m2 Zb wb lw.symm 0#1 ee (j:=0) 0#1;rw[Bh,fQ]at s;rw[<-s,bH,bH,b8 0#1]
 rw[s1,s2]
end
def Sd(p:qX):List V:=[.int (p.1:Int),.int (p.2:Int)]
abbrev Cu(K:qV)(H:Hp):List qR->List (qX)->Prop:=Paired λp x=>Ah K H p (Sd x)
variable{L:List (qX)}
theorem Cu.same{K:qV}{ps:List qR}(e:AH H H')(h:Cu K H ps L):Cu K H' ps L:=Paired.mapP h λ_ _ z=>z.same' e
theorem Paired.app{F:α->β->Prop}{a:List α}{b:List β}{c:List α}{d:List β}(p:Paired F a b)(h:Paired F c d):Paired F (a++c) (b++d):=by
 induction p with
 |nil=>exact h
 |cons r _ ih=>exact .cons r ih
theorem Ah.updL{K:qV}{d:qR}{u:HO}(hd:H d=some (.lst ys))(q:Ah K H a xs):Ah K (Ad H d u) a xs:=by
 rcases q with (z|⟨o,z⟩)|z
 ·exact .inl (.inl (by rw[AK (Dc z hd λy=>nomatch y)];exact z))
 ·exact .inl (.inr ⟨o,by rw[AK (Dc z hd λy=>nomatch y)];exact z⟩)
 ·exact .inr z
theorem Cu.upd{K:qV}{ps:List qR}{d:qR}{u:HO}(hd:H d=some (.lst ys))(h:Cu K H ps L):Cu K (Ad H d u) ps L:=Paired.mapP h λ_ _ z=>z.updL hd
inductive GC(K:qV)(vs:List V)(H:Hp)(Q:VK)(z3_:XK):Prop
 |m (a b:Nat):vs=[.int (a:Int),.int (b:Int)]->(∀p H',AH H H'->Ah K H' p (Sd (DC (a,b)))->Q (.ref p) H')->GC K vs H Q z3_
inductive LU(K:qV)(vs:List V)(H:Hp)(Q:VK)(z3_:XK):Prop
 |m (r q:qR) (g lo:Int) (g6:qW) (m a b:Nat):vs=[.ref r,.ref q]->Aj H r g lo g6 m->Ah K H q (Sd (a,b))->(∀p H',AH H H'->Ah K H' p (Sd (DC (a/g.toNat,b/g.toNat)))->Q (.ref p) H')->LU K vs H Q z3_
inductive Se(K:qV)(vs:List V)(H:Hp)(Q:VK)(z3_:XK):Prop
 |m (r q:qR) (g lo:Int) (g6:qW) (m a b:Nat):vs=[.ref r,.ref q]->Aj H r g lo g6 m->Ah K H q (Sd (a,b))->(∀p H',AH H H'->Ah K H' p (Sd (DC (a%0#5,b%0#5)))->Q (.ref p) H')->Se K vs H Q z3_
noncomputable def OL(h n:Nat):List (qX):=((List.range h).filter λo=>decide (o≠n)).map λo=>(n,o)
theorem UY(h n:Nat):(OL h n).length<=h:=by unfold OL;rw[bG];exact cK (dC ..) (by rw[bn];exact bL _)
theorem GD(h:Nat):∀i:Nat,((List.range i).flatMap (OL h)).length<=i*h
 |0=>cS _
 |i+1=>by rw[cH,d5,bN,Nat.add_mul,cV,fe,cA];have:=GD h i;have:=UY h i;lia
noncomputable def BX(h:Nat):List (qX):=(0,0)::(List.range h).flatMap (OL h)
noncomputable def Sf(g6:qW)(a:Nat):List (qX):=((List.range g6.length).filter λb=>decide (g6.getD b 0=g6.getD a 0)&&decide (b≠a)).map λb=>(a,b)
noncomputable def Eg(g6:qW):List (qX):=(List.range g6.length).flatMap (Sf g6)
inductive LV(K:qV)(vs:List V)(H:Hp)(Q:VK)(z3_:XK):Prop
 |m (r:qR) (g lo:Int) (g6:qW) (m:Nat):vs=[.ref r]->Aj H r g lo g6 m->g^(m-1)<=9->(∀D H' ps,AH H H'->H D=none->H' D=some (.lst (ps.map V.ref))->Cu K H' ps (BX 0#5)->Q (.ref D) H')->LV K vs H Q z3_
inductive OM(K:qV)(vs:List V)(H:Hp)(Q:VK)(z3_:XK):Prop
 |m (r:qR) (g lo:Int) (g6:qW) (m:Nat):vs=[.ref r]->Aj H r g lo g6 m->g^(m-1)<=9->(∀D H' ps,AH H H'->H D=none->H' D=some (.lst (ps.map V.ref))->Cu K H' ps (Eg g6)->Q (.ref D) H')->OM K vs H Q z3_
theorem Mv{K:qV}{D:qR}{Q:VK}(Pv:Nat->List V->Hp->Prop)(h0:Pv 0 [] (Ad H D (.lst [])))(hl:∀i gt H,i<=xs.length->Pv i gt H->Ah K H a xs)
  (hs:∀i x p gt H2,xs[i]?=some x->Pv i gt H2->H2 p=none->tt (some (.int ((i:Nat):Int))::some x::σf) (Ad H2 p (.tup [.int ((i:Nat):Int),x])) λb H4=>if b=true then te (some (.int ((i:Nat):Int))::some x::σf) H4 λy H5=>H5 D=some (.lst gt)/\gt.length<sizeLine/\Pv (i+1) (gt++[y]) (Ad H5 D (.lst (gt++[y]))) else Pv (i+1) gt H4)
  (hd:∀gt H2,Pv xs.length gt H2->Q (.ref D) H2):Go K (QK K a) tt te σf D Q H:=by
 refine⟨λk i gt H=>k=xs.length-i/\i<=xs.length/\Pv i gt H,⟨xs.length,by simp,Nat.zero_le _,h0⟩,?_⟩;rintro k i gt H2 ⟨rfl,hi,p⟩;have q:=hl i gt H2 hi p
 by_cases hlt:i<xs.length
 ·refine .inr ⟨⟨xs,xs[i],q,by simp[hlt]⟩,Pv (i+1),λl H' p'=>⟨xs.length-(i+1),by lia,rfl,hlt,p'⟩,λv H' y=>?_⟩;rcases y with⟨p2,x,e1,e2,e3,y⟩;subst e1 e3;exact⟨p2,_,_,rfl,Ah.of AE,hs i x p2 gt H2 (y xs q) p e2⟩
 ·have e:i=xs.length:=by lia
  subst e;exact .inl ⟨⟨xs,q,bL _⟩,hd gt H2 p⟩
theorem UZ(g6:qW)(a:Nat):(Sf g6 a).length<=g6.length:=by unfold Sf;rw[bG];exact cK (dC ..) (by rw[bn];exact bL _)
theorem Ey(g6:qW):∀i:Nat,((List.range i).flatMap (Sf g6)).length<=i*g6.length
 |0=>cS _
 |i+1=>by rw[cH,d5,bN,Nat.add_mul,cV,fe,cA];have:=Ey g6 i;have:=UZ g6 i;lia
theorem Sg{p:α->Bool}{j:α}(h:p j=true):[j].filter p=[j]:=by rw[List.filter_cons_of_pos h];rfl
theorem Pa{p:α->Bool}{j:α}(h:p j=false):[j].filter p=[]:=by rw[List.filter_cons_of_neg (by rw[h];decide)];rfl
noncomputable def Bb(p:qX):List Bq:=[Sum.inl (p.1:Int),Sum.inl (p.2:Int)]
variable{p:qX}
theorem JN{q:qX}(h:Bb p=Bb q):p=q:=by
 unfold Bb at h
 injection h with h1 h2
 injection h2 with h2 _
 have a:=Sum.inl.inj h1;have b:=Sum.inl.inj h2;exact Prod.ext 0#1 0#1
noncomputable def An(A:List (qX))(vs:List V):List (List Bq×V):=List.zipWith (λa v=>(Bb a,v)) A vs
theorem B9{A:List (qX)}{vs:List V}(h:vs.length=A.length):(An A vs).length=A.length:=by unfold An;rw[List.length_zipWith,h,Nat.min_self]
theorem D8:∀{A:List (qX)} {vs:List V} {a:qX},a∉A->Bg (An A vs) (Bb a)=none
 |[],_,_,_=>rfl
 |_::_,[],_,_=>rfl
 |b::A,v::vs,a,h=>by
  have n1:¬Bb b=Bb a:=λe=>h (by rw[JN e];exact bo)
  show Bg ((Bb b,v)::An A vs) (Bb a)=none;rw[D4 (show ¬(Bb b,v).1=Bb a from n1)];exact D8 λe=>h (bi _ e)
theorem CA:∀{A:List (qX)} {vs:List V} {i:Nat} {a:qX} {v:V},A.Nodup->A[i]?=some a->vs[i]?=some v->Bg (An A vs) (Bb a)=some v
 |[],_,_,_,_,_,h,_=>by simp at h
 |_::_,[],_,_,_,_,_,h=>by simp at h
 |b::A,v::vs,0,a,w,nd,h1,h2=>by simp at h1 h2;subst h1 h2;exact Ew rfl
 |b::A,v::vs,i+1,a,w,nd,h1,h2=>by
  simp at h1 h2;have nd':=cn.mp nd;have n1:¬Bb b=Bb a:=λe=>nd'.1 (by rw[JN e];exact bT h1)
  show Bg ((Bb b,v)::An A vs) (Bb a)=some w;rw[D4 (show ¬(Bb b,v).1=Bb a from n1)];exact CA nd'.2 h1 h2
theorem JO{A:List (qX)}{vs:List V}{a:qX}{v:V}(hl:vs.length=A.length)(h:a∉A):D1 (An A vs) (Bb a) v=An (A++[a]) (vs++[v]):=by rw[MZ _ (D8 h)];unfold An;rw[List.zipWith_append hl.symm];rfl
theorem Ez{h:Nat}:p∈BX h↔p=(0,0)\/(p.1<h/\p.2<h/\p.1≠p.2):=by unfold BX;rw[br,gT];refine or_congr Iff.rfl ⟨λz9=>?_,λ⟨h1,h2,h3⟩=>⟨p.1,bh.mpr h1,bg.mpr ⟨p.2,cE.mpr ⟨bh.mpr h2,qH (Ne.symm h3)⟩,rfl⟩⟩⟩;obtain⟨n,hn,hp⟩:=z9;obtain⟨o,ho,rfl⟩:=bg.mp hp;obtain⟨h1,h2⟩:=cE.mp ho;exact⟨bh.mp hn,bh.mp h1,Ne.symm (qN h2)⟩
theorem LW{h a b:Nat}(ha:a<h)(hb:b<h):DC (a,b)∈BX h:=by
 rw[Ez];unfold DC;split
 ·exact .inl rfl
 ·rename_i e
  exact .inr ⟨ha,hb,e⟩
theorem JP(h:Nat):∀n:Nat,((List.range n).flatMap (OL h)).Nodup
 |0=>dm
 |n+1=>by
  rw[cH,d5,cV,fe,cA,dF];refine⟨JP h n,?_,λx hx y hy e=>?_⟩
  ·unfold OL;exact List.Pairwise.map _ (λa b e z=>e (Prod.mk.inj z).2) (List.nodup_range.filter _)
  ·obtain⟨k,hk,hx⟩:=gT.mp hx;obtain⟨_,_,e1⟩:=bg.mp hx;obtain⟨_,_,e2⟩:=bg.mp hy;have:=bh.mp hk;have a:=qP Prod.fst e1;have b:=qP Prod.fst e2;rw[e]at a;have a:k=y.1:=a;have b:n=y.1:=b;lia
theorem Cn(h:Nat):(BX h).Nodup:=by unfold BX;refine cn.mpr ⟨λe=>?_,JP h h⟩;obtain⟨n,_,hp⟩:=gT.mp e;obtain⟨o,ho,e1⟩:=bg.mp hp;have h2:=qN (cE.mp ho).2;have a:=qP Prod.fst e1;have b:=qP Prod.snd e1;have a:n=0:=a;have b:o=0:=b;lia
theorem JQ{a b:Nat}:(a,b)∈Eg g6↔a<g6.length/\b<g6.length/\a≠b/\g6.getD a 0=g6.getD b 0:=by
 unfold Eg;rw[gT];constructor
 ·rintro⟨n,hn,hp⟩;obtain⟨o,ho,e⟩:=bg.mp hp;obtain⟨h1,h2⟩:=cE.mp ho;rw[dD]at h2;cases e;exact⟨bh.mp hn,bh.mp h1,Ne.symm (qN h2.2),(qN h2.1).symm⟩
 ·rintro⟨h1,h2,h3,h4⟩;exact⟨a,bh.mpr h1,bg.mpr ⟨b,cE.mpr ⟨bh.mpr h2,by rw[dD];exact⟨qH h4.symm,qH (Ne.symm h3)⟩⟩,rfl⟩⟩
structure EB(K:qV)(H:Hp)(ls:List qR)(A:List (qX))(F:qX->List (qX)):Prop where
 n:ls.length=A.length
 nd:ls.Nodup
 e:∀(i:Nat) (a:qX) (l:qR),A[i]?=some a->ls[i]?=some l->∃ps:List qR,H l=some (.lst (ps.map V.ref))/\Cu K H ps (F a)
variable{ls:List qR}{F:qX->List (qX)}
theorem EB.same{K:qV}{A:List (qX)}(e:AH H H')(g:EB K H ls A F):EB K H' ls A F:=
 ⟨g.n,g.nd,λi a l h1 h2=>by obtain⟨ps,h3,h4⟩:=g.e i a l h1 h2;exact⟨ps,e _ _ h3,Cu.same e h4⟩⟩
theorem EB.snoc{K:qV}{A:List (qX)}(g:EB K H ls A F){l:qR}{a:qX}(hl:l∉ls)(h:H l=some (.lst []))(hF:F a=[]):EB K H (ls++[l]) (A++[a]) F:=by
 refine⟨by rw[bN,bN,g.n];rfl,dF.mpr ⟨g.nd,cn.mpr ⟨cG,dm⟩,λx hx y hy e=>hl (by rw[<-bV.mp hy,<-e];exact hx)⟩,λi b k h1 h2=>?_⟩
 by_cases z:i<A.length
 ·rw[b8 z]at h1;rw[b8 (by rw[g.n];exact z)]at h2;exact g.e i b k h1 h2
 ·rw[bt 0#1]at h1;rw[bt (by rw[g.n];lia),g.n]at h2;have z0:i-A.length=0:=by have:=(bJ.mp h1).1;simp at this;lia
  rw[z0]at h1 h2;cases h1;cases h2;exact⟨[],h,by rw[hF];exact .nil⟩
noncomputable def Hc(G h:Nat)(W:List (qX))(p:qX):List (qX):=(W.filter λx=>decide (DC (x.1/G,x.2/G)=p)).map λx=>DC (x.1%h,x.2%h)
inductive IB(P:qT)(w:qU)(K:qV)(vs:List V)(H:Hp)(Q:VK)(z3_:XK):Prop
 |m (r:qR) (g lo:Int) (g6:qW) (m:Nat):vs=[.ref r]->Aj H r g lo g6 m->g^(m-1)<=9->(∀d H' ls,AH H H'->H d=none->(∀l∈ls,H l=none)->DW P w K H' d (An (BX 0#5) (ls.map V.ref))->EB K H' ls (BX 0#5) (Hc g.toNat 0#5 (Eg g6))->Q (.ref d) H')->IB P w K vs H Q z3_
section
variable{P:qT}{w:qU}{K:qV}{d:qR}
theorem DW.lst(z:DW P w K H d kvs){b:qR}(h:H b=some (.lst xs))(u:HO):Ad H d u b=some (.lst xs):=by obtain⟨bs,h1,_⟩:=z;rw[AK (Dc h h1 λy=>nomatch y)];exact h
theorem DW.prv(z:DW P w K H d kvs){ps:List qR}(h:Cu K H ps L)(u:HO):Cu K (Ad H d u) ps L:=by obtain⟨bs,h1,_⟩:=z;exact Paired.mapP h λ_ _ y=>y.upd' h1
theorem DW.grl(z:DW P w K H d kvs){A:List (qX)}(g:EB K H ls A F)(u:HO):EB K (Ad H d u) ls A F:=
 ⟨g.n,g.nd,λi a l h1 h2=>by obtain⟨ps,h3,h4⟩:=g.e i a l h1 h2;exact⟨ps,z.lst h3 u,z.prv h4 u⟩⟩
theorem EB.out{A:List (qX)}(g:EB K H ls A F){l:qR}(h:H l=none):l∉ls:=λz=>by
 obtain⟨i,hi⟩:=cQ.mp z;have hlt:=(bJ.mp hi).1;have hA:i<A.length:=by rw[<-g.n];exact hlt
 obtain⟨ps,h3,_⟩:=g.e i A[i] l (bI hA) hi;rw[h]at h3;cases h3
end
theorem GF{A:List (qX)}(nd:A.Nodup){a:qX}(h:A[i]?=some a):a∉A.take i:=λz=>by
 obtain⟨j,hj⟩:=cQ.mp z;rw[fu]at hj
 split at hj
 ·rename_i lt
  have a1:=bJ.mp h;have a2:=bJ.mp hj;have:=(fY (h₀:=a2.1) (h₁:=a1.1) nd).mp (by rw[a2.2,a1.2]);lia
 ·cases hj
section
variable{P:qT}{w:qU}{K:qV}{d:qR}
theorem DW.updL(z:DW P w K H d kvs){l:qR}(hl:H l=some (.lst xs))(u:HO):DW P w K (Ad H l u) d kvs:=by obtain⟨bs,h1,h3,h4⟩:=z;exact⟨bs,by rw[AK (Dc h1 hl λy=>nomatch y)];exact h1,h3,λp hp=>Ah.updL hl (h4 p hp)⟩
theorem EB.push{A:List (qX)}{F':qX->List (qX)}(g:EB K H ls A F)(nd:A.Nodup){a:qX}{l:qR}{ps:List qR}{q:qR}{x:qX}(hj:A[j]?=some a)(hl:ls[j]?=some l)(h:H l=some (.lst (ps.map V.ref)))(hp:Cu K H ps (F a))(hq:Ah K H q (Sd x))
  (hF:∀b,F' b=if a=b then F b++[x] else F b):EB K (Ad H l (.lst ((ps++[q]).map V.ref))) ls A F':=by
 refine⟨g.n,g.nd,λi b k h1 h2=>?_⟩
 by_cases e:i=j
 ·subst e;rw[hj]at h1;rw[hl]at h2;cases h1;cases h2;refine⟨_,AE,?_⟩;rw[hF,qF rfl];exact Paired.app (Cu.upd h hp) (.cons (Ah.updL h hq) .nil)
 ·have nk:k≠l:=λz=>by
   have a1:=bJ.mp h2;have a2:=bJ.mp hl;exact e ((fY (h₀:=a1.1) (h₁:=a2.1) g.nd).mp (by rw[a1.2,a2.2,z]))
  have nb:¬a=b:=λz=>by have a1:=bJ.mp h1;have a2:=bJ.mp hj;exact e ((fY (h₀:=a1.1) (h₁:=a2.1) nd).mp (by rw[a1.2,a2.2,z]))
  obtain⟨ps',h3,h4⟩:=g.e i b k h1 h2;refine⟨ps',by rw[AK nk];exact h3,?_⟩;rw[hF,qE nb];exact Cu.upd h h4
end
theorem Sh{h:Nat}{W:List (qX)}{x:qX}(hx:W[i]?=some x)(b:qX):Hc G h (W.take (i+1)) b=if DC (x.1/G,x.2/G)=b then Hc G h (W.take i) b++[DC (x.1%h,x.2%h)] else Hc G h (W.take i) b:=by
 unfold Hc;rw[cp,hx,ce,bS]
 by_cases e:DC (x.1/G,x.2/G)=b
 ·rw[qF e,show (some x).toList=[x] from rfl,Sg (p:=λx:Nat×Nat=>decide (DC (x.1/G,x.2/G)=b)) (qH e)];rfl
 ·rw[qE e,show (some x).toList=[x] from rfl,Pa (p:=λx:Nat×Nat=>decide (DC (x.1/G,x.2/G)=b)) (qI e)];exact cA _
theorem LX(G h:Nat)(W:List (qX))(p:qX):(Hc G h W p).length<=W.length:=by unfold Hc;rw[bG];exact dC ..
structure Pb(A:List (qX))(F:qX->List (qX))(A2:List (qX))(B:qX->List (qX)):Prop where
 nd:A2.Nodup
 all:∀p,p∈A2↔p∈A
 on:∀p q,q∈B p↔q∈A/\p∈F q
 len:∀p,(B p).length<=7000000
inductive LY(P:qT)(w:qU)(K:qV)(vs:List V)(H:Hp)(Q:VK)(z3_:XK):Prop
 |m (d:qR) (u:HO) (ls:List qR) (A:List (qX)) (F:qX->List (qX)):vs=[.ref d]->DR P w K H d u (An A (ls.map V.ref))->EB K H ls A F->A.Nodup->(∀a∈A,∀p∈F a,p∈A)->A.length<=100->(∀a∈A,(F a).length<=70000)->(∀u' H' d2 ls2 A2 B,AH (Ad H d u') H'->DR P w K H' d u' (An A (ls.map V.ref))->H d2=none->(∀l∈ls2,H l=none)->DW P w K H' d2 (An A2 (ls2.map V.ref))->EB K H' ls2 A2 B->Pb A F A2 B->Q (.ref d2) H')->LY P w K vs H Q z3_
variable{d2:qR}
section
variable{P:qT}{w:qU}{K:qV}{d:qR}{u:HO}
theorem DR.updL(z:DR P w K H d u kvs){l:qR}(hl:H l=some (.lst xs))(v:HO):DR P w K (Ad H l v) d u kvs:=by
 rcases z with⟨bs,h1,h2,h3,h4⟩
 have ne:d≠l:=by
  refine Dc h1 hl λy=>?_;rcases h2 with e|⟨o,e⟩
  ·rw[e]at y;cases y
  ·rw[e]at y;cases y
 exact⟨bs,by rw[AK ne];exact h1,h2,h3,λp hp=>Ah.updL hl (h4 p hp)⟩
theorem DR.updX(z:DR P w K H d u kvs){kvs2:List (List Bq×V)}(x:DW P w K H d2 kvs2)(ne:d≠d2)(v:HO):DR P w K (Ad H d2 v) d u kvs:=by rcases z with⟨bs,h1,h2,h3,h4⟩;obtain⟨bs2,g1,_⟩:=x;exact⟨bs,by rw[AK ne];exact h1,h2,h3,λp hp=>(h4 p hp).upd' g1⟩
end
def VR(P:qT)(w:qU)(K:qV)(H HX:Hp)(d2:qR)(A2:List (qX))(B:qX->List (qX)):Prop:=∃ls2:List qR,(∀l∈ls2,H l=none)/\DW P w K HX d2 (An A2 (ls2.map V.ref))/\EB K HX ls2 A2 B
variable{A2:List (qX)}
theorem Si{P:qT}{w:qU}{K:qV}{HX:Hp}{B:qX->List (qX)}{ls2:List qR}{l:qR}{k:qX}{u:HO}(ln:∀l∈ls2,H l=none)(w0:DW P w K HX d2 (An A2 (ls2.map V.ref)))(g:EB K HX ls2 A2 B)(hl:HX l=some (.lst []))(nl:l∉ls2)(h0:H l=none)(hk:k∉A2)(hB:B k=[])
  (w1:DW P w K (Ad HX d2 u) d2 (D1 (An A2 (ls2.map V.ref)) (Bb k) (.ref l))):(∀x∈ls2++[l],H x=none)/\DW P w K (Ad HX d2 u) d2 (An (A2++[k]) ((ls2++[l]).map V.ref))/\EB K (Ad HX d2 u) (ls2++[l]) (A2++[k]) B:=by
 rw[JO (by rw[bG];exact g.n) hk]at w1;refine⟨λx hx=>?_,by rw[bS];exact w1,(w0.grl g u).snoc nl (w0.lst hl u) hB⟩;rcases bQ.mp hx with z|z
 ·exact ln x z
 ·rw[bV.mp z];exact h0
theorem VR.put{P:qT}{w:qU}{K:qV}{HX:Hp}{B:qX->List (qX)}{ls2:List qR}{l:qR}{k:qX}{u:HO}(ln:∀l∈ls2,H l=none)(w0:DW P w K HX d2 (An A2 (ls2.map V.ref)))(g:EB K HX ls2 A2 B)(hl:HX l=some (.lst []))(nl:l∉ls2)(h0:H l=none)(hk:k∉A2)(hB:B k=[])
  (w1:DW P w K (Ad HX d2 u) d2 (D1 (An A2 (ls2.map V.ref)) (Bb k) (.ref l))):VR P w K H (Ad HX d2 u) d2 (A2++[k]) B:=⟨_,Si ln w0 g hl nl h0 hk hB w1⟩
structure Q5(A:List (qX))(F:qX->List (qX))(i:Nat)(D:(qX)->(qX)->Prop)(n:Nat)(A2:List (qX))(B:qX->List (qX)):Prop where
 nd:A2.Nodup
 sub:∀p∈A2,p∈A
 got:∀p∈A.take i,p∈A2
 no:∀p,p∉A2->B p=[]
 on:∀p q,q∈B p↔(q∈A.take i/\p∈F q)\/D p q
 len:∀p,(B p).length<=n
theorem Q5.key{A:List (qX)}{n:Nat}{D:(qX)->(qX)->Prop}{B:qX->List (qX)}(t:Q5 A F i D n A2 B){k:qX}(hk:k∉A2)(hA:k∈A):Q5 A F i D n (A2++[k]) B where
 nd:=dF.mpr ⟨t.nd,cn.mpr ⟨cG,dm⟩,λx hx y hy e=>hk (by rw[<-bV.mp hy,<-e];exact hx)⟩
 sub:=λp hp=>(bQ.mp hp).elim (t.sub p) λz=>by rw[bV.mp z];exact hA
 got:=λp hp=>bQ.mpr (.inl (t.got p hp))
 no:=λp hp=>t.no p λz=>hp (bQ.mpr (.inl z))
 on:=t.on
 len:=t.len
section
variable{P:qT}{w:qU}{K:qV}{d:qR}{u:HO}
theorem DR.isX(z:DR P w K H d u kvs):∃φ,H d=some u/\(u=.ext φ\/∃o,u=.frz o (.ext φ)):=by rcases z with⟨bs,h1,h2,_⟩;exact⟨_,h1,h2⟩
theorem DR.sqt(z:DR P w K H d u kvs)(q:Ah K H a xs)(v:HO):Ah K (Ad H d v) a xs:=by
 obtain⟨φ,h1,h2⟩:=z.isX;have ne:∀{b:qR} {y:HO},H b=some y->y≠u->b≠d:=λ{b y} hb n e=>n (by rw[e,h1]at hb;exact (Option.some.inj hb).symm)
 rcases q with (y|⟨o,y⟩)|y
 ·exact .inl (.inl (by rw[AK (ne y (by rcases h2 with e|⟨o',e⟩<;>rw[e]<;>exact λt=>nomatch t))];exact y))
 ·exact .inl (.inr ⟨o,by rw[AK (ne y (by rcases h2 with e|⟨o',e⟩<;>rw[e]<;>intro t<;>cases t))];exact y⟩)
 ·exact .inr y
theorem DR.lst(z:DR P w K H d u kvs){b:qR}(h:H b=some (.lst xs))(v:HO):Ad H d v b=some (.lst xs):=by
 obtain⟨φ,h1,h2⟩:=z.isX
 have ne:b≠d:=λe=>by rw[e,h1]at h;have h:=Option.some.inj h;rcases h2 with t|⟨o,t⟩<;>rw[t]at h<;>cases h
 rw[AK ne];exact h
theorem DR.grl(z:DR P w K H d u kvs){A:List (qX)}(g:EB K H ls A F)(v:HO):EB K (Ad H d v) ls A F:=
 ⟨g.n,g.nd,λi a l h1 h2=>by obtain⟨ps,h3,h4⟩:=g.e i a l h1 h2;exact⟨ps,z.lst h3 v,Paired.mapP h4 λ_ _ y=>z.sqt y v⟩⟩
theorem EB.keep{A:List (qX)}(g:EB K H ls A F){l:qR}(hl:H l=some (.lst xs))(nl:l∉ls)(v:HO):EB K (Ad H l v) ls A F:=
 ⟨g.n,g.nd,λi a k h1 h2=>by obtain⟨ps,h3,h4⟩:=g.e i a k h1 h2;exact⟨ps,by rw[AK λe=>nl (by rw[<-e];exact bT h2)];exact h3,Cu.upd hl h4⟩⟩
theorem AH.both{H0:Hp}(e:AH H H0)(d:qR)(v:HO):AH (Ad H d v) (Ad H0 d v):=λb y h=>by
 by_cases z:b=d
 ·subst z;rw[AE]at h⊢;exact h
 ·rw[AK z]at h⊢;exact e b y h
end
theorem LZ{A:List (qX)}{k:List Bq}{v:V}(h:(An A (ls.map V.ref))[i]?=some (k,v)):∃a l,A[i]?=some a/\ls[i]?=some l/\k=Bb a/\v=.ref l:=by
 unfold An at h;rw[List.getElem?_zipWith,bO]at h;cases ha:A[i]? with
 |none=>rw[ha]at h;simp at h
 |some a =>
  cases hl:ls[i]? with
  |none=>rw[ha,hl]at h;simp at h
  |some l =>
   rw[ha,hl]at h;simp at h;exact⟨a,l,rfl,rfl,h.1.symm,h.2.symm⟩
theorem Q5.push{A:List (qX)}{n:Nat}{a p0:qX}{B:qX->List (qX)}(t:Q5 A F i (λp q=>q=a/\p∈L.take j) n A2 B)(hp:L[j]?=some p0)(m:p0∈A2):Q5 A F i (λp q=>q=a/\p∈L.take (j+1)) (n+1) A2 (λp=>if p0=p then B p++[a] else B p) where
 nd:=t.nd
 sub:=t.sub
 got:=t.got
 no:=λp h=>by rw[qE λe=>h (by rw[<-e];exact m)];exact t.no p h
 on:=λp q=>by
  rw[cp,hp,show (some p0).toList=[p0] from rfl,bQ,bV]
  by_cases e:p0=p
  ·rw[qF e,bQ,bV,t.on];constructor
   ·rintro ((h|⟨h1,h2⟩)|h)
    ·exact .inl h
    ·exact .inr ⟨h1,.inl h2⟩
    ·exact .inr ⟨h,.inr e.symm⟩
   ·rintro (h|⟨h1,_⟩)
    ·exact .inl (.inl h)
    ·exact .inr h1
  ·rw[qE e,t.on];constructor
   ·rintro (h|⟨h1,h2⟩)
    ·exact .inl h
    ·exact .inr ⟨h1,.inl h2⟩
   ·rintro (h|⟨h1,h2|h2⟩)
    ·exact .inl h
    ·exact .inr ⟨h1,h2⟩
    ·exact qG h2.symm e
 len:=λp=>by
  have:=t.len p
  by_cases e:p0=p
  ·rw[qF e,bN,cP];lia
  ·rw[qE e];lia
structure Pd(A:List (qX))(B:qX->List (qX))(M:List (qX))(f:qX->Nat):Prop where
 nd:M.Nodup
 sub:∀p∈M,p∈A
 low:∀p∈M,∀q∈B p,q∈M/\f q<f p
 top:∀p∈M,f p=0\/∃q∈B p,q∈M/\f p=f q+1
 rest:∀p∈A,p∉M->∃q∈B p,q∉M
 few:∀p∈M,f p<=A.length
inductive La(P:qT)(w:qU)(K:qV)(vs:List V)(H:Hp)(Q:VK)(z3_:XK):Prop
 |m (d:qR) (u:HO) (ls:List qR) (A:List (qX)) (B:qX->List (qX)):vs=[.ref d]->DR P w K H d u (An A (ls.map V.ref))->EB K H ls A B->A.Nodup->(∀a∈A,∀p∈B a,p∈A)->A.length<=100->(∀a∈A,(B a).length<=7000000)->(∀u' H' d2 M f,AH (Ad H d u') H'->DR P w K H' d u' (An A (ls.map V.ref))->H d2=none->DW P w K H' d2 (An M (M.map λp=>V.int (f p:Int)))->Pd A B M f->Q (.ref d2) H')->La P w K vs H Q z3_
theorem ON{X:Cx}{K:qV}(h:X.K=K)(hc:X.calm=true):Cf X (.builtin "all") (λxs H Q=>∃(p:qR) (bs:List Bool),xs=[.ref p]/\Ae K H p (bs.map V.bl)/\Q (.bl (bs.all id)) H):=h▸MY hc
theorem Sj{X:Cx}{K:qV}(h:X.K=K):Ft X (binaryOp .Add) (VD K):=h▸Ts
theorem Pe{X:Cx}{K:qV}(h:X.K=K)(hu:X.A.units+64<cLine):Ft X (compareOp .NotEq) (YB K):=h▸WD hu
theorem Sk{X:Cx}{K:qV}{l:Expr}(h:X.K=K)(hl:PE X l tl):PI X tg l (RB K tl):=h▸Oh hl
structure Sl(A:List (qX))(B:qX->List (qX))(M:List (qX))(f:qX->Nat)(FL:List (qX))(n:Nat):Prop where
 nd:M.Nodup
 sub:∀p∈M,p∈A
 ndF:FL.Nodup
 on:∀p,p∈FL↔p∈A/\p∉M/\∀q∈B p,q∈M
 lt:∀p∈M,f p<n
 low:∀p∈M,∀q∈B p,q∈M/\f q<f p
 top:∀p∈M,f p=0\/∃q∈B p,q∈M/\f p=f q+1
 due:∀p∈FL,n=0\/∃q∈B p,q∈M/\n=f q+1
 le:n<=M.length
theorem Sm{A:List (qX)}{B:qX->List (qX)}(nd:A.Nodup)(f:qX->Nat):Sl A B [] f (A.filter λp=>decide (B p=[])) 0 where
 nd:=dm
 sub:=λp hp=>qG hp cG
 ndF:=nd.filter _
 on:=λp=>by
  rw[cE,decide_eq_true_eq];refine and_congr Iff.rfl ⟨λe=>⟨cG,λq hq=>?_⟩,λ⟨_,e⟩=>?_⟩
  ·rw[e]at hq;exact hq
  ·exact List.eq_nil_iff_forall_not_mem.mpr λq hq=>qG (e q hq) cG
 lt:=λp hp=>qG hp cG
 low:=λp hp=>qG hp cG
 top:=λp hp=>qG hp cG
 due:=λ_ _=>.inl rfl
 le:=bL _
noncomputable def WO(M:List (qX))(f:qX->Nat)(n:Nat):qX->Nat:=λp=>if p∈M then f p else n
variable{M:List (qX)}{f:qX->Nat}
theorem ER{n:Nat}(h:p∈M):WO M f n p=f p:=qF h
theorem GG{n:Nat}(h:p∉M):WO M f n p=n:=qE h
theorem Sl.step{A:List (qX)}{B:qX->List (qX)}{FL:List (qX)}{n:Nat}(m:Sl A B M f FL n)(ndA:A.Nodup)(h:FL≠[]):
  Sl A B (M++FL) (WO M f n) (A.filter λp=>decide (p∉M++FL)&&decide (∀q∈B p,q∈M++FL)) (n+1):=by
 have out:∀p∈FL,p∉M:=λp hp=>((m.on p).mp hp).2.1
 refine⟨dF.mpr ⟨m.nd,m.ndF,λx hx y hy e=>out y hy (by rw[<-e];exact hx)⟩,λp hp=>?_,ndA.filter _,λp=>?_,λp hp=>?_,λp hp q hq=>?_,λp hp=>?_,λp hp=>?_,?_⟩
 ·rcases bQ.mp hp with z|z
  ·exact m.sub p z
  ·exact ((m.on p).mp z).1
 ·rw[cE,dD,decide_eq_true_eq,decide_eq_true_eq]
 ·rcases bQ.mp hp with z|z
  ·rw[ER z];have:=m.lt p z;lia
  ·rw[GG (out p z)];lia
 ·rcases bQ.mp hp with z|z
  ·obtain⟨h1,h2⟩:=m.low p z q hq;rw[ER z,ER h1];exact⟨bQ.mpr (.inl h1),h2⟩
  ·have h1:=((m.on p).mp z).2.2 q hq;rw[GG (out p z),ER h1];exact⟨bQ.mpr (.inl h1),m.lt q h1⟩
 ·rcases bQ.mp hp with z|z
  ·rcases m.top p z with e|⟨q,hq,h1,e⟩
   ·rw[ER z];exact .inl e
   ·exact .inr ⟨q,hq,bQ.mpr (.inl h1),by rw[ER z,ER h1];exact e⟩
  ·rw[GG (out p z)];rcases m.due p z with e|⟨q,hq,h1,e⟩
   ·exact .inl e
   ·exact .inr ⟨q,hq,bQ.mpr (.inl h1),by rw[ER h1];exact e⟩
 ·rw[cE,dD,decide_eq_true_eq,decide_eq_true_eq]at hp;obtain⟨pA,pn,pq⟩:=hp;refine .inr ?_
  by_cases all:∀q∈B p,q∈M
  ·exact qG (bQ.mpr (.inr ((m.on p).mpr ⟨pA,λz=>pn (bQ.mpr (.inl z)),all⟩))) pn
  ·obtain⟨q,hq⟩:=Classical.not_forall.mp all;obtain⟨hq,nq⟩:=Classical.not_imp.mp hq;exact⟨q,hq,pq q hq,by rw[GG nq]⟩
 ·have:0<FL.length:=fh.mpr h;have:=m.le;rw[bN];lia
theorem Sl.few{A:List (qX)}{B:qX->List (qX)}{FL:List (qX)}{n:Nat}(m:Sl A B M f FL n):M.length+FL.length<=A.length:=by
 rw[<-bN];refine (dF.mpr ⟨m.nd,m.ndF,λx hx y hy e=>((m.on y).mp hy).2.1 (by rw[<-e];exact hx)⟩).length_le_of_subset λp hp=>?_;rcases bQ.mp hp with z|z
 ·exact m.sub p z
 ·exact ((m.on p).mp z).1
theorem Sl.done{A:List (qX)}{B:qX->List (qX)}{n:Nat}(m:Sl A B M f [] n):Pd A B M f where
 nd:=m.nd
 sub:=m.sub
 low:=m.low
 top:=m.top
 rest:=λp hp np=>by
  by_cases all:∀q∈B p,q∈M
  ·exact qG ((m.on p).mpr ⟨hp,np,all⟩) cG
  ·obtain⟨q,hq⟩:=Classical.not_forall.mp all;obtain⟨hq,nq⟩:=Classical.not_imp.mp hq;exact⟨q,hq,nq⟩
 few:=λp hp=>by have:=m.lt p hp;have:=m.le;have:=m.few;lia
def Zm(P:qT)(w:qU)(K:qV)(H:Hp)(d d2:qR)(ls:List qR)(A:List (qX))(B:qX->List (qX))(D:qR)(M:List (qX))(f:qX->Nat)(FL:List (qX))(HX:Hp):Prop:=
 ∃u' ps,AH (Ad H d u') HX/\DR P w K HX d u' (An A (ls.map V.ref))/\EB K HX ls A B/\H D=none/\HX D=some (.lst (ps.map V.ref))/\Cu K HX ps FL/\DW P w K HX d2 (An M (M.map λp=>V.int (f p:Int)))
theorem JR:(Bg (An M (M.map λp=>V.int (f p:Int))) (Bb p)).isSome=decide (p∈M):=by
 by_cases h:p∈M
 ·obtain⟨i,hi⟩:=cQ.mp h;rw[qH h]
  suffices ∀(M:List (qX)),p∈M->(Bg (An M (M.map λp=>V.int (f p:Int))) (Bb p)).isSome=true from this M h
  intro M
  induction M with
  |nil=>intro z;exact qG z cG
  |cons a M ih =>
   intro z;show (Bg ((Bb a,V.int (f a:Int))::An M (M.map λp=>V.int (f p:Int))) (Bb p)).isSome=true
   by_cases e:a=p
   ·rw[Ew (show (Bb a,V.int (f a:Int)).1=Bb p by rw[e])];rfl
   ·rw[D4 (show ¬(Bb a,V.int (f a:Int)).1=Bb p from λy=>e (JN y))];exact ih ((br.mp z).resolve_left λy=>e y.symm)
 ·rw[D8 h,qI h];rfl
theorem Kb{L:List α}{a:α}{p:α->Bool}(h:L[i]?=some a):(L.take (i+1)).filter p=(L.take i).filter p++(if p a=true then[a] else[]):=by
 rw[cp,h,show (some a).toList=[a] from rfl,ce]
 by_cases e:p a=true
 ·rw[qF e,Sg e]
 ·rw[qE e,Pa (by cases z:p a;rfl;exact qG z e)]
end L2
namespace L2
open PySem PySem.Spec PyProof.Rows
variable{E Q:qQ->qS->Prop}{a:qR}{h':Heap}{i j:Nat}{us:List qQ}{α β:Type}
section
variable{prog:qT}{w:qU}{A:Around}{s:qS}{k:SortKind}{a₀:Array Keyed}{st:SortSt}
def JS(prog:qT)(w:qU)(A:Around)(s:qS)(k:SortKind)(a₀:Array Keyed):Prop:=
 ∀x∈a₀.toList,∀y∈a₀.toList,∃b:Bool,∀(E:qQ->qS->Prop) (Q:Bool->qS->Prop),Q b s->wpAny 0#7 A (keyLt' k x.1 y.1) Q E s
end
theorem OO(b:Bool)(x y:qQ):keyLt' (tuples' b) x y=(do
  let xs <-Builtin.List.listItems x
  let ys <-Builtin.List.listItems y
  for ((p,q),i) in (xs.toList.zip ys.toList).zipIdx do
   if !(<-eqBool p q) then return <-oneLt' (b&&i==0) p q
  return decide (xs.size<ys.size)):=rfl
variable{vs:List qQ}
section
variable{prog:qT}{w:qU}{A:Around}{s:qS}
theorem OP(o:Bool){a b:Int}{t u:Tok}{Q:Bool->qS->Prop}(h:Q (decide (a<b)) s):wpAny 0#7 A (oneLt' o (.int a t) (.int b u)) Q E s:=by
 cases o with
 |true=>exact oneLt_int h
 |false =>
  rw[oneLt'_eq];simp only[Bool.false_eq_true,if_false];refine qC ((lt_int ?_:wpAny 0#7 A (compareOp .Lt (.int a t) (.int b u)) _ E s));exact wpAny_truthy_bool h
theorem Qj(b:Bool){x y:qR}{ws:List qQ}{ns ms:qW}(hx:IsTup s.heap x vs.toArray)(hy:IsTup s.heap y ws.toArray)(iv:IntsAre vs ns)(iw:IntsAre ws ms){Q:Bool->qS->Prop}(h:Q (HT.Dw ns ms) s):
  wpAny 0#7 A (keyLt' (tuples' b) (.ref x) (.ref y)) Q E s:=by
 rcases hx with⟨ox,gx,_,nx,dx⟩;rcases hy with⟨oy,gy,_,ny,dy⟩;rw[OO];refine qC (listItems_at gx dx (qC (listItems_at gy dy ?_)));have l1:vs.length=ns.length:=iv.length;have l2:ws.length=ms.length:=iw.length
 refine qC (qM (wpAny_forIn_list _ (λrest c s'=>c=(none,())/\s'=s/\∃(k:Nat) (vs' ws':List qQ) (ns' ms':qW),rest=(vs'.zip ws').zipIdx k/\IntsAre vs' ns'/\IntsAre ws' ms'/\ns'.length+ms.length=ms'.length+ns.length/\HT.Dw ns' ms'=HT.Dw ns ms)
  (λc s'=>s'=s/\(c=(some (HT.Dw ns ms),())\/(c=(none,())/\decide (ns.length<ms.length)=HT.Dw ns ms))) ?_ ?_ _ _ ⟨rfl,rfl,0,vs,ws,ns,ms,by simp,iv,iw,Nat.add_comm ..,rfl⟩) ?_ λ_ _ e=>e)
 ·rintro⟨⟨p,q⟩,i⟩ rest c s' ⟨rfl,rfl,j,vs',ws',ns',ms',hz,hv,hw,hl,he⟩;cases hv with
  |nil=>simp at hz
  |cons a t hv' =>
   cases hw with
   |nil=>simp at hz
   |cons c u hw' =>
    rw[List.zip_cons_cons,List.zipIdx_cons]at hz
    injection hz with h1 h2
    injection h1 with h1 h3
    injection h1 with h4 h5
    subst h4 h5;rw[HT.NW]at he;refine qC (wpAny_eqBool_int ?_)
    by_cases e:a=c
    ·rw[qF e]at he;rw[show (a==c)=true by simp[e]];refine qD ⟨rfl,rfl,_,_,_,_,_,h2,hv',hw',?_,he⟩;simp only[List.length_cons]at hl;lia
    ·rw[qE e]at he;rw[show (a==c)=false by simp[e]];refine qC (OP _ (qD ⟨rfl,.inl ?_⟩));rw[he]
 ·intro c s' hRq;rcases hRq with⟨rfl,rfl,j,vs',ws',ns',ms',hz,hv,hw,hl,he⟩;refine⟨rfl,.inr ⟨rfl,?_⟩⟩;rw[<-he];cases hv with
  |nil =>
   cases hw with
   |nil =>
    simp only[List.length_nil]at hl;rw[HT.Jv,qI 0#1]
   |cons c u hw' =>
    simp only[List.length_nil,List.length_cons]at hl;rw[HT.IP,qH 0#1]
  |cons a t hv' =>
   cases hw with
   |nil =>
    simp only[List.length_nil,List.length_cons]at hl;rw[HT.IQ,qI 0#1]
   |cons c u hw'=>simp at hz
 ·rintro c s' ⟨rfl,z|⟨z,y⟩⟩
  ·subst z;exact qD h
  ·subst z;refine qD ?_;rw[show decide (vs.toArray.size<ws.toArray.size)=HT.Dw ns ms by rw[<-y,cC,cC,l1,l2]];exact h
theorem Gr(v:qQ):firstOfTuple' v=(do
  if (<-typeOf v) != .type "tuple" then return none
  return (<-Builtin.List.listItems v)[0]?):=rfl
def HR(h:Heap)(v:qQ):Prop:=∃(t:qR) (vs:List qQ) (ns:qW),v=.ref t/\IsTup h t vs.toArray/\IntsAre vs ns/\ns≠[]
theorem Qk{v:qQ}(h:HR s.heap v){Q:Option qQ->qS->Prop}(q:∀n t,Q (some (.int n t)) s):wpAny 0#7 A (firstOfTuple' v) Q E s:=by
 rcases h with⟨t,vs,ns,rfl,⟨o,g,c,m,d⟩,i,ne⟩;rw[Gr];refine qC (wpAny_typeOf (T:="tuple") ⟨o,g,c⟩ ?_);rw[qE 1#4];refine qC (listItems_at g d (qD ?_));cases i with
 |nil=>exact qG rfl ne
 |cons n t i=>exact q n t
theorem JT{f:α->Sem β}{R:β->Prop}{Q:List β->qS->Prop}:∀(l:List α),(∀x∈l,∀Q':β->qS->Prop,(∀y,R y->Q' y s)->wpAny 0#7 A (f x) Q' E s)->(∀ys,ys.length=l.length->(∀y∈ys,R y)->Q ys s)->wpAny 0#7 A (l.mapM f) Q E s
 |[],_,q=>by rw[List.mapM_nil];exact qD (q [] rfl λ_ z=>qG z cG)
 |x::l,h,q=>by
  rw[List.mapM_cons];refine qC (h x bo _ λy hy=>qC (JT l (λz hz=>h z (bi _ hz)) λys hl hys=>qD (q (y::ys) (by rw[cW,cW,hl]) λz hz=>?_)));rcases br.mp hz with e|e
  ·rw[e];exact hy
  ·exact hys z e
theorem Sn{v₁ v₂:qQ}(h:∀v∈v₁::v₂::vs,HR s.heap v){Q:SortKind->qS->Prop}(q:∀b,Q (tuples' b) s):wpAny 0#7 A (keyKind' (v₁::v₂::vs).toArray) Q E s:=by
 rw[keyKind'_eq,List.mapM_toArray];refine qC (wpAny_map ?_);refine JT (R:=λy=>∃n t,y=some (.int n t)) (v₁::v₂::vs) (λv hv Q' q'=>Qk (h v hv) λn t=>q' _ ⟨n,t,rfl⟩) λys hl hys=>?_
 have al:(ys.toArray.all λx=>x.isSome)=true:=by rw[List.all_toArray,fZ];intro y hy;obtain⟨n,t,e⟩:=hys y hy;rw[e];rfl
 rw[qF al];refine qC (wpAny_rule (qC ?_));rw[oneTypeOnly'_eq,List.filterMap_toArray,List.mapM_toArray];refine qC (wpAny_map (JT (R:=λ_=>True) _ (λv hv Q' q'=>?_) λts _ _=>?_))
 ·obtain⟨y,hy,e⟩:=fq.mp hv;obtain⟨n,t,e2⟩:=hys y hy;rw[e2]at e;have e:v=.int n t:=(Option.some.inj e).symm;rw[e];exact wpAny_typeOf (typeIs_int s n t) (q' _ True.intro)
 ·split
  ·exact qD (qD (q _))
  ·exact qD (qD (q _))
theorem HR.at{h:Heap}{v:qQ}(x:HR h v)(k:∀t o,h.get? t=some o->o.cls=.type "tuple"->h'.get? t=some o):HR h' v:=by obtain⟨t,vs,ns,e,⟨o,g,c,d⟩,i,ne⟩:=x;exact⟨t,vs,ns,e,⟨o,k t o g c,c,d⟩,i,ne⟩
end
theorem Kc{ws:List qQ}(p:us.Perm ws):∀{xs:List V},Av xs ws->∃zs,zs.Perm xs/\Av zs us:=by
 induction p with
 |nil=>intro xs h;exact⟨xs,.refl _,h⟩
 |cons a _ ih =>
  intro xs h;cases h with
  |cons r h =>
   obtain⟨zs,p1,v1⟩:=ih h;exact⟨_::zs,p1.cons _,.cons r v1⟩
 |swap a b l =>
  intro xs h;cases h with
  |cons r h =>
   cases h with
   |cons r2 h=>exact⟨_,.swap ..,.cons r2 (.cons r h)⟩
 |trans _ _ ih1 ih2 =>
  intro xs h;obtain⟨zs,p2,v2⟩:=ih2 h;obtain⟨ys,p1,v1⟩:=ih1 v2;exact⟨ys,p1.trans p2,v1⟩
theorem C9:∀{ns:qW} {us:List qQ},Av 1#3 us->IntsAre us ns
 |[],_,.nil=>.nil
 |n::ns,_,.cons ⟨t,e⟩ h=>by subst e;exact .cons n t (C9 h)
noncomputable def Ua:Bool->Keyed->Array Keyed->Nat->Nat->Nat->StateT SortSt Sem (Option Nat):=sortPriv% PySem.Builtin.gallop
noncomputable def So:Array Keyed->Array Keyed->StateT SortSt Sem (Array Keyed):=sortPriv% PySem.Builtin.mergeLo
noncomputable def Sq:Array Keyed->Array Keyed->StateT SortSt Sem (Array Keyed):=sortPriv% PySem.Builtin.mergeHi
noncomputable def Ub:Nat->StateT SortSt Sem Unit:=sortPriv% PySem.Builtin.setMinGallop
structure SX(k:SortKind)(xs:Array Keyed)(p:Array (Nat×Nat×Nat))(st:SortSt):Prop where
 kd:kindOf st=k
 ar:arrOf st=xs
 pd:pendingOf st=p
 fl:failedOf st=none
structure SZ(k:SortKind)(a₀:Array Keyed)(p:Array (Nat×Nat×Nat))(st:SortSt):Prop where
 kd:kindOf st=k
 pm:(arrOf st).toList.Perm a₀.toList
 pd:pendingOf st=p
 fl:failedOf st=none
section
variable{prog:qT}{w:qU}{A:Around}{s:qS}{k:SortKind}{a₀ xs:Array Keyed}{p:Array (Nat×Nat×Nat)}{st:SortSt}
theorem SZ.x(Z:SZ k a₀ p st):SX k (arrOf st) p st:=⟨Z.kd,rfl,Z.pd,Z.fl⟩
theorem SZ.n(Z:SZ k a₀ p st):(arrOf st).size=a₀.size:=by have z:=Z.pm.length_eq;simpa using z
theorem Aa{c:Prop}[Decidable c]{m n:StateT SortSt Sem α}{Q:α->SortSt->Prop}(h1:c->wpS 0#7 A E s m Q st)(h2:¬c->wpS 0#7 A E s n Q st):wpS 0#7 A E s (if c then m else n) Q st:=by
 split
 ·exact h1 ‹_›
 ·exact h2 ‹_›
theorem Co{m n:Nat}(h:¬(m==n)=true):m≠n:=λe=>h (by simp[e])
theorem Pg{c:Prop}[Decidable c]{f:β->StateT SortSt Sem α}{x y:β}{Q:α->SortSt->Prop}(J:∀g,wpS 0#7 A E s (f g) Q st):wpS 0#7 A E s (if c then f x else f y) Q st:=by
 split
 ·exact J _
 ·exact J _
theorem IC{γ:Type}{f:β->γ->StateT SortSt Sem α}{m:StateT SortSt Sem α}{Q:α->SortSt->Prop}(R:β->γ->Prop)(J:∀x y,R x y->wpS 0#7 A E s (f x y) Q st)(h:(∀x y,R x y->wpS 0#7 A E s (f x y) Q st)->wpS 0#7 A E s m Q st):wpS 0#7 A E s m Q st:=h J
theorem Sr{f:β->StateT SortSt Sem α}{m:StateT SortSt Sem α}{Q:α->SortSt->Prop}(R:β->SortSt->Prop)(J:∀x t,R x t->wpS 0#7 A E s (f x) Q t)(h:(∀x t,R x t->wpS 0#7 A E s (f x) Q t)->wpS 0#7 A E s m Q st):wpS 0#7 A E s m Q st:=h J
theorem Uc{t:SortSt}{Q:PUnit->SortSt->Prop}(h:Q ⟨⟩ t):wpS 0#7 A E s (set t:StateT SortSt Sem PUnit) Q st:=by unfold wpS;rw[StateT.run_set];exact qD ⟨rfl,h⟩
theorem BY{arr:Array Keyed}(h:i<arr.size){Q:Keyed->SortSt->Prop}(q:Q arr[i] st):wpS 0#7 A E s (elem' arr i) Q st:=by rw[elem'_eq,getElem?_pos arr i h];exact qK q
theorem Mw(hc:JS prog w A s k a₀)(hk:kindOf st=k){x y:Keyed}(mx:x∈a₀.toList)(my:y∈a₀.toList){Q:Option Bool->SortSt->Prop}(h:∀b,Q (some b) st):wpS 0#7 A E s (lt' x y) Q st:=by obtain⟨b,hb⟩:=hc x mx y my;rw[lt'_eq];refine qJ (wpS_get ?_);rw[hk];exact qJ (wpS_lift (wpAny_attempt (hb _ _ ⟨rfl,qK (h b)⟩)))
theorem ID(hc:JS prog w A s k a₀)(Z:SZ k a₀ p st)(hi:i<a₀.size)(hj:j<a₀.size){Q:Option Bool->SortSt->Prop}(h:∀b,Q (some b) st):wpS 0#7 A E s (ltAt' i j) Q st:=by have n:=Z.n;rw[ltAt'_eq];refine qJ (wpS_get ?_);exact qJ (BY (arr:=arrOf st) 0#1 (qJ (BY (arr:=arrOf st) 0#1 (Mw hc Z.kd (Z.pm.mem_iff.mp 1#4) (Z.pm.mem_iff.mp 1#4) h))))
theorem Lb(Z:SZ k a₀ p st){Q:Unit->SortSt->Prop}(h:∀t,SZ k a₀ p t->Q () t):wpS 0#7 A E s (reverseSlice' i j) Q st:=by rw[reverseSlice'_eq];exact wpS_modify (h _ ⟨Z.kd,(Array.perm_iff_toList_perm.mp (mirror_perm ..)).trans Z.pm,Z.pd,Z.fl⟩)
theorem Ud(Z:SZ k a₀ p st){Q:Unit->SortSt->Prop}(h:∀t,SZ k a₀ p t->Q () t):wpS 0#7 A E s (moveDown' i j) Q st:=by rw[moveDown'_eq];exact wpS_modify (h _ ⟨Z.kd,(Array.perm_iff_toList_perm.mp (bubble_perm ..)).trans Z.pm,Z.pd,Z.fl⟩)
theorem GH(X:SX k xs p st){g:Nat}{Q:Unit->SortSt->Prop}(h:∀t,SX k xs p t->Q () t):wpS 0#7 A E s (Ub g) Q st:=
 wpS_modify (h _ ⟨X.kd,X.ar,X.pd,X.fl⟩)
theorem DD(hc:JS prog w A s k a₀)(hk:kindOf st=k){left:Bool}{key:Keyed}{arr:Array Keyed}{base n hint:Nat}(mk:key∈a₀.toList)(ma:∀x∈arr.toList,x∈a₀.toList)(hb:base+n<=arr.size)(hh:hint<n)
  {Q:Option Nat->SortSt->Prop} (h:∀r,r<=n->Q (some r) st):wpS 0#7 A E s (Ua left key arr base n hint) Q st:=by
 obtain⟨B,hB⟩:∃B:Nat->StateT SortSt Sem (Option Bool),B=(λi=>do
   let x <-elem' arr (base+i)
   if left=true then lt' x key else do
    let r <-lt' key x
    pure (Option.map (λx=>!x) r)):=⟨_,rfl⟩
 have bey:∀{i:Nat} {Q:Option Bool->SortSt->Prop},i<n->(∀b,Q (some b) st)->wpS 0#7 A E s (B i) Q st:=λ{i Q} hi q=>by
  rw[hB];refine qJ (BY 0#1 ?_);have mx:=ma (arr[base+i]' 0#1) 1#4;cases left
  ·exact qJ (Mw hc hk mk mx λb=>qK (q _))
  ·exact Mw hc hk mx mk q
 have half:∀{lo hi:Nat},hi<=n->∀{Q':Option (Option Nat)×Nat×Nat->SortSt->Prop},(∀l r,r<=n->Q' (none,l,r) st)->wpS 0#7 A E s (forIn [:n] ((none,lo,hi):Option (Option Nat)×Nat×Nat) λ_ c=>if c.2.1≥c.2.2 then pure (ForInStep.done (none,c.2.1,c.2.2)) else do
   let m <-B (c.2.1+(c.2.2-c.2.1)/2)
   match m with
   |some more=>if more=true then pure (ForInStep.yield (none,c.2.1+(c.2.2-c.2.1)/2+1,c.2.2)) else pure (ForInStep.yield (none,c.2.1,c.2.1+(c.2.2-c.2.1)/2))
   |_=>pure (ForInStep.done (some none,c.2.1,c.2.2))) Q' st:=λ{lo hi} h2 {Q'} q=>by
  refine qL (I:=λ_ c t=>t=st/\∃lo hi,c=(none,lo,hi)/\hi<=n) ?_ ?_ ⟨rfl,lo,hi,rfl,h2⟩
  ·rintro i c t _ _ ⟨rfl,lo,hi,rfl,a⟩;dsimp only;refine Aa (λz=>qK (q lo hi a)) λz=>qJ (bey 0#1 λb=>?_)
   dsimp only;exact Aa (λ_=>qK ⟨rfl,_,_,rfl,a⟩) λ_=>qK ⟨rfl,_,_,rfl,by lia⟩
  ·rintro c t ⟨rfl,lo,hi,rfl,a⟩;exact q lo hi a
 subst hB;refine qJ (bey hh λb=>?_);dsimp only;refine Aa (λ_=>?_) λ_=>?_
 ·refine qJ (wpS_mono (qL (I:=λ_ c t=>t=st/\∃la fo,c=(none,la,fo)) (Q:=λc t=>t=st/\∃la fo,c=(none,la,fo)) ?_ (λ_ _ z=>z) ⟨rfl,0,1,rfl⟩) ?_)
  ·rintro i c t _ hi ⟨rfl,la,fo,rfl⟩;dsimp only;refine Aa (λ_=>qK ⟨rfl,_,_,rfl⟩) λz=>qJ (bey 0#1 λb=>?_)
   dsimp only;exact Aa (λ_=>qK ⟨rfl,_,_,rfl⟩) λ_=>qK ⟨rfl,_,_,rfl⟩
  ·rintro c t ⟨rfl,la,fo,rfl⟩;dsimp only;exact qJ (half 0#1 λl r hr=>qK (h r hr))
 ·refine qJ (wpS_mono (qL (I:=λ_ c t=>t=st/\∃la fo,c=(none,la,fo)) (Q:=λc t=>t=st/\∃la fo,c=(none,la,fo)) ?_ (λ_ _ z=>z) ⟨rfl,0,1,rfl⟩) ?_)
  ·rintro i c t _ hi ⟨rfl,la,fo,rfl⟩;dsimp only;refine Aa (λ_=>qK ⟨rfl,_,_,rfl⟩) λz=>qJ (bey 0#1 λb=>?_)
   dsimp only;exact Aa (λ_=>qK ⟨rfl,_,_,rfl⟩) λ_=>qK ⟨rfl,_,_,rfl⟩
  ·rintro c t ⟨rfl,la,fo,rfl⟩;dsimp only;exact qJ (half 0#1 λl r hr=>qK (h r hr))
end
def MP(a b:Array Keyed)(out:Array Keyed)(L R:List Keyed):Prop:=(out.toList++(L++R)).Perm (a.toList++b.toList)
section
variable{a b out:Array Keyed}{L R:List Keyed}
theorem MP.l{o:Array Keyed}{x L':List Keyed}(M:MP a b out L R)(ho:o.toList.Perm (out.toList++x))(h:L.Perm (x++L')):MP a b o L' R:=by refine ((ho.append_right _).trans ?_).trans M;rw[cN,<-cN x];exact (h.symm.append_right R).append_left _
theorem MP.r{o:Array Keyed}{x R':List Keyed}(M:MP a b out L R)(ho:o.toList.Perm (out.toList++x))(h:R.Perm (x++R')):MP a b o L R':=by refine ((ho.append_right _).trans ?_).trans M;rw[cN];refine .append_left _ (List.Perm.trans ?_ (h.symm.append_left L));rw[<-cN,<-cN];exact List.perm_append_comm.append_right _
theorem MP.all{o:List Keyed}(M:MP a b out L R)(h:o.Perm (out.toList++(L++R))):o.Perm (a.toList++b.toList):=h.trans M
theorem Fi(a:Array Keyed)(i j:Nat):(a.extract i j).toList=(a.toList.take j).drop i:=by rw[Array.toList_extract,List.extract_eq_take_drop,eK]
theorem E1(h:i<a.size):(a.toList.drop i).Perm ([a[i]]++a.toList.drop (i+1)):=by rw[List.drop_eq_getElem_cons (by simpa using h)];simp
theorem My(a:Array Keyed)(i k:Nat):(a.toList.drop i).Perm ((a.extract i (i+k)).toList++a.toList.drop (i+k)):=by rw[Fi,eK,de,eV i k,<-eJ,eJ,eV k i,<-eJ,cq]
theorem E2(h:i<a.size):(a.toList.take (i+1)).Perm ([a[i]]++a.toList.take i):=by rw[List.take_add_one,List.getElem?_eq_getElem (by simpa using h)];simpa using (List.perm_append_comm (l₁:=a.toList.take i) (l₂:=[a[i]]))
theorem Mz(h:i<=j):(a.toList.take j).Perm ((a.extract i j).toList++a.toList.take i):=by
 rw[Fi];refine List.Perm.trans (.of_eq ?_) List.perm_append_comm
 conv=>lhs;rw[<-cq i (a.toList.take j)]
 rw[List.take_take,eS h]
theorem IE(a:Array Keyed)(i:Nat):(a.extract i a.size).toList=a.toList.drop i:=by rw[Fi,List.take_of_length_le 1#4]
theorem GI(a:Array Keyed)(i:Nat):(a.extract 0 i).toList=a.toList.take i:=by rw[Fi,dj]
theorem E3{x:Keyed}:(out.push x).toList.Perm (out.toList++[x]):=by rw[Array.toList_push]
theorem VS{x:Array Keyed}:(out++x).toList.Perm (out.toList++x.toList):=by rw[cZ]
theorem VT{x:Array Keyed}:(out++x.reverse).toList.Perm (out.toList++x.toList):=by rw[cZ,gc];exact (List.reverse_perm _).append_left _
theorem MP.doneL(M:MP a b out (a.toList.drop i) (b.toList.drop j)):(out++a.extract i a.size++b.extract j b.size).toList.Perm (a.toList++b.toList):=M.all (by rw[cZ,cZ,IE,IE,cN])
theorem MP.lastL(M:MP a b out (a.toList.drop i) (b.toList.drop j)):(out++b.extract j b.size++a.extract i a.size).toList.Perm (a.toList++b.toList):=M.all (by rw[cZ,cZ,IE,IE,cN];exact List.perm_append_comm.append_left _)
theorem MP.doneH(M:MP a b out (a.toList.take i) (b.toList.take j)):(a.extract 0 i++b.extract 0 j++out.reverse).toList.Perm (a.toList++b.toList):=M.all (by rw[cZ,cZ,GI,GI,gc];exact List.perm_append_comm.trans ((List.reverse_perm _).append_right _))
theorem MP.lastH(M:MP a b out (a.toList.take i) (b.toList.take j)):(b.extract 0 j++a.extract 0 i++out.reverse).toList.Perm (a.toList++b.toList):=M.all (by rw[cZ,cZ,GI,GI,gc];exact List.perm_append_comm.trans (((List.reverse_perm _).append_right _).trans (List.perm_append_comm.append_left _)))
end
structure M4(a b:Array Keyed)(P:Nat)(out:Array Keyed)(ia ib:Nat):Prop where
 mi:MP a b out (a.toList.drop ia) (b.toList.drop ib)
 la:ia+1<a.size
 lb:ib<b.size
 ge:P<=ia+ib
structure VU(a b:Array Keyed)(P:Nat)(out:Array Keyed)(na nb:Nat):Prop where
 mi:MP a b out (a.toList.take na) (b.toList.take nb)
 la:1<=na
 lb:2<=nb
 za:na<=a.size
 zb:nb<=b.size
 ge:P+na+nb<=a.size+b.size
section
variable{prog:qT}{w:qU}{A:Around}{s:qS}{k:SortKind}{a₀ xs a b:Array Keyed}{p:Array (Nat×Nat×Nat)}{st:SortSt}
theorem OQ(hc:JS prog w A s k a₀)(X:SX k xs p st)(ma:∀x∈a.toList,x∈a₀.toList)(mb:∀x∈b.toList,x∈a₀.toList)(ha:0<a.size)(hb:0<b.size)
  {Q:Array Keyed->SortSt->Prop} (h:∀out t,SX k xs p t->out.toList.Perm (a.toList++b.toList)->Q out t):wpS 0#7 A E s (So a b) Q st:=by
 have ga:∀{i:Nat} (hi:i<a.size),a[i]∈a₀.toList:=λ{i} hi=>ma _ 1#4
 have gb:∀{i:Nat} (hi:i<b.size),b[i]∈a₀.toList:=λ{i} hi=>mb _ 1#4
 refine qJ (wpS_lift (wpAny_rule ⟨rfl,?_⟩));refine qJ (BY hb ?_);have M0:MP a b #[b[0]] (a.toList.drop 0) (b.toList.drop 1):=MP.r (out:=#[]) (x:=[b[0]]) (.refl _) (.refl _) (E1 hb);refine Aa (λ_=>qK (h _ _ X M0.doneL)) λe=>Aa (λ_=>qK (h _ _ X M0.lastL)) λe2=>?_
 have e:1≠b.size:=Co e;have e2:0+1≠a.size:=Co e2;refine qJ (wpS_get ?_);refine qJ (qL (I:=λi c t=>SX k xs p t/\∃out ia ib mg,c=(none,out,ia,ib,mg)/\M4 a b (i+1) out ia ib) ?_ ?_ ⟨X,_,_,_,_,rfl,M0,by lia,by lia,by lia⟩)
 ·clear X;intro i c t _ hi hRq;rcases hRq with⟨X,out,ia,ib,mg,rfl,M⟩;refine qJ (wpS_mono (qL (I:=λ_ c t=>SX k xs p t/\∃out ia ib ac bc,c=(none,out,ia,ib,ac,bc)/\M4 a b (i+1) out ia ib) (Q:=λc t=>SX k xs p t/\((∃r o,c=(some r,o)/\r.toList.Perm (a.toList++b.toList))\/∃out ia ib ac bc,c=(none,out,ia,ib,ac,bc)/\M4 a b (i+1) out ia ib)) ?_ ?_ ⟨X,out,ia,ib,0,0,rfl,M⟩) ?_)
  ·clear M X;intro j c t _ hj hRq;rcases hRq with⟨X,out,ia,ib,ac,bc,rfl,M,la,lb,ge⟩;have la':ia<a.size:=Nat.lt_of_succ_lt la;refine qJ (BY lb (qJ (BY la' (qJ (Mw hc X.kd (gb lb) (ga la') λ_=>Aa (λ_=>?_) λ_=>?_)))))
   ·have M2:=M.r (E3 (x:=b[ib])) (E1 lb);have M3:ib+1≠b.size->M4 a b (i+1) (out.push b[ib]) ia (ib+1):=λq=>⟨M2,la,fD lb q,Nat.le_succ_of_le ge⟩
    exact qJ (BY lb (Aa (λ_=>qK ⟨X,.inl ⟨_,_,rfl,M2.doneL⟩⟩) λz=>Aa (λ_=>qK ⟨X,.inr ⟨_,_,_,_,_,rfl,M3 (Co z)⟩⟩) λ_=>qK ⟨X,_,_,_,_,_,rfl,M3 (Co z)⟩))
   ·have M2:=M.l (E3 (x:=a[ia])) (E1 la');have M3:ia+1+1≠a.size->M4 a b (i+1) (out.push a[ia]) (ia+1) ib:=λq=>⟨M2,fD la q,lb,by lia⟩
    exact qJ (BY la' (Aa (λ_=>qK ⟨X,.inl ⟨_,_,rfl,M2.lastL⟩⟩) λz=>Aa (λ_=>qK ⟨X,.inr ⟨_,_,_,_,_,rfl,M3 (Co z)⟩⟩) λ_=>qK ⟨X,_,_,_,_,_,rfl,M3 (Co z)⟩))
  ·rintro c t ⟨X,z⟩;exact⟨X,.inr z⟩
  clear M X;rintro c t ⟨X,⟨r,o,rfl,R⟩|⟨out,ia,ib,ac,bc,rfl,M⟩⟩
  ·exact qK (qK (h _ _ X R))
  refine qJ (wpS_lift (wpAny_rule ⟨rfl,?_⟩));refine qJ (wpS_mono (qL (I:=λj c t=>SX k xs p t/\∃out ia ib mg ac bc,c=(none,out,ia,ib,mg,ac,bc)/\M4 a b (i+1+j) out ia ib) (Q:=λc t=>SX k xs p t/\((∃r o,c=(some r,o)/\r.toList.Perm (a.toList++b.toList))\/∃out ia ib mg ac bc,c=(none,out,ia,ib,mg,ac,bc)/\M4 a b (i+1+1) out ia ib)) ?_ ?_ ⟨X,_,_,_,_,_,_,rfl,M⟩) ?_)
  ·clear M X;intro j c t _ hj hRq;rcases hRq with⟨X,out,ia,ib,mg,ac,bc,rfl,M,la,lb,ge⟩;dsimp (config:={zeta:=false,zetaHave:=false}) only
   extract_lets c1 out1 c2 ia1 c3 ib1 c4 mg1 c5 ac1 bc1 ib2 jp mg2
   refine Pg (f:=jp ()) λg=>?_;refine qJ (GH X λt X=>qJ (BY lb (qJ (DD hc X.kd (gb lb) ma (show ia+(a.size-ia)<=a.size by lia) (show 0<a.size-ia by lia) λr (hr:r<=a.size-ia)=>?_))));dsimp (config:={zeta:=false,zetaHave:=false}) only
   extract_lets ac2 jp2 out2 ia2
   refine IC (f:=jp2 ()) (λout' ia'=>MP a b out' (a.toList.drop ia') (b.toList.drop ib)/\ia'+1<a.size/\ia<=ia') (λout' ia' ⟨R1,R2,R3⟩=>?_) λJ=>?_
   ·have MB:=R1.r (E3 (x:=b[ib])) (E1 lb);refine qJ (BY lb (Aa (λz=>qK ⟨X,.inl ⟨_,_,rfl,MB.doneL⟩⟩) λz=>?_));have lb2:ib+1<b.size:=fD lb (Co z);have la2:ia'<a.size:=Nat.lt_of_succ_lt R2;refine qJ (BY la2 (qJ (DD hc X.kd (ga la2) mb (show ib+1+(b.size-(ib+1))<=b.size by lia) (show 0<b.size-(ib+1) by lia) λr' (hr':r'<=b.size-(ib+1))=>?_)));dsimp (config:={zeta:=false,zetaHave:=false}) only
    extract_lets bc2 ia4 jp3 out3 ib3
    refine IC (f:=jp3 ()) (λout' ib'=>MP a b out' (a.toList.drop ia') (b.toList.drop ib')/\ib'<b.size/\ib+1<=ib') (λout' ib' ⟨S1,S2,S3⟩=>?_) λJ=>?_
    ·have MA:=S1.l (E3 (x:=a[ia'])) (E1 la2);have MD:∀P,P<=i+1+(j+1)->ia'+1+1≠a.size->M4 a b P (out'.push a[ia']) (ia'+1) ib':=λP hP q=>⟨MA,fD R2 q,S2,by lia⟩
     exact qJ (BY la2 (Aa (λz=>qK ⟨X,.inl ⟨_,_,rfl,MA.lastL⟩⟩) λz=>Aa (λ_=>qK ⟨X,.inr ⟨_,_,_,_,_,_,rfl,MD _ 0#1 (Co z)⟩⟩) λ_=>qK ⟨X,_,_,_,_,_,_,rfl,MD _ (bL _) (Co z)⟩))
    ·have MC:=MB.r (VS (x:=b.extract (ib+1) (ib+1+r'))) (My b (ib+1) r');refine Aa (λz1=>Aa (λz=>qK ⟨X,.inl ⟨_,_,rfl,MC.doneL⟩⟩) λz=>J _ _ ⟨MC,?_,gU _ _⟩) λz1=>J _ _ ⟨MB,lb2,bL _⟩
     have q:ib+1+r'≠b.size:=Co z;exact (show ib+1+r'<b.size by lia)
   ·have MC:=M.l (VS (x:=a.extract ia (ia+r))) (My a ia r);refine Aa (λz1=>Aa (λz=>qK ⟨X,.inl ⟨_,_,rfl,MC.lastL⟩⟩) λz=>Aa (λy=>qK ⟨X,.inl ⟨_,_,rfl,MC.doneL⟩⟩) λy=>J _ _ ⟨MC,?_,gU _ _⟩) λz1=>J _ _ ⟨M,la,bL _⟩
    have q:ia+r+1≠a.size:=Co z;have q2:ia+r≠a.size:=Co y;exact (show ia+r+1<a.size by lia)
  ·intro c t hRq;rcases hRq with⟨X,out,ia,ib,mg,ac,bc,rfl,M,la,lb,ge⟩;lia
  clear M X;rintro c t ⟨X,⟨r,o,rfl,R⟩|⟨out,ia,ib,mg,ac,bc,rfl,M⟩⟩
  ·exact qK (qK (h _ _ X R))
  exact qJ (GH X λt X=>qK ⟨X,_,_,_,_,rfl,M⟩)
 ·intro c t hRq;rcases hRq with⟨X,out,ia,ib,mg,rfl,M,la,lb,ge⟩;lia
theorem OR(hc:JS prog w A s k a₀)(X:SX k xs p st)(ma:∀x∈a.toList,x∈a₀.toList)(mb:∀x∈b.toList,x∈a₀.toList)(ha:0<a.size)(hb:0<b.size)
  {Q:Array Keyed->SortSt->Prop} (h:∀out t,SX k xs p t->out.toList.Perm (a.toList++b.toList)->Q out t):wpS 0#7 A E s (Sq a b) Q st:=by
 have ga:∀{i:Nat} (hi:i<a.size),a[i]∈a₀.toList:=λ{i} hi=>ma _ 1#4
 have gb:∀{i:Nat} (hi:i<b.size),b[i]∈a₀.toList:=λ{i} hi=>mb _ 1#4
 refine qJ (wpS_lift (wpAny_rule ⟨rfl,?_⟩));have ha1:a.size-1<a.size:=Nat.sub_lt ha Nat.one_pos;refine qJ (BY ha1 ?_)
 have M0:MP a b #[a[a.size-1]] (a.toList.take (a.size-1)) (b.toList.take b.size):=by
  have z:MP a b #[] (a.toList.take (a.size-1+1)) (b.toList.take b.size):=by rw[show a.size-1+1=a.size by lia];exact .of_eq (by rw[List.take_of_length_le 1#4,List.take_of_length_le 1#4];rfl)
  exact z.l (.refl _) (E2 ha1)
 refine Aa (λ_=>qK (h _ _ X M0.doneH)) λe=>Aa (λ_=>qK (h _ _ X M0.lastH)) λe2=>?_
 have e:a.size-1≠0:=Co e;have e2:b.size≠1:=Co e2;refine qJ (wpS_get ?_);refine qJ (qL (I:=λi c t=>SX k xs p t/\∃na nb out mg,c=(none,na,nb,out,mg)/\VU a b (i+1) out na nb) ?_ ?_ ⟨X,_,_,_,_,rfl,M0,by lia,by lia,by lia,bL _,by lia⟩)
 ·clear X;intro i c t _ hi hRq;rcases hRq with⟨X,na,nb,out,mg,rfl,M⟩;refine qJ (wpS_mono (qL (I:=λ_ c t=>SX k xs p t/\∃na nb out ac bc,c=(none,na,nb,out,ac,bc)/\VU a b (i+1) out na nb) (Q:=λc t=>SX k xs p t/\((∃r o,c=(some r,o)/\r.toList.Perm (a.toList++b.toList))\/∃na nb out ac bc,c=(none,na,nb,out,ac,bc)/\VU a b (i+1) out na nb)) ?_ ?_ ⟨X,na,nb,out,0,0,rfl,M⟩) ?_)
  ·clear M X;intro j c t _ hj hRq;rcases hRq with⟨X,na,nb,out,ac,bc,rfl,M,la,lb,za,zb,ge⟩;obtain⟨m,rfl⟩:∃m,na=m+1:=⟨na-1,by lia⟩;obtain⟨n,rfl⟩:∃n,nb=n+1:=⟨nb-1,by lia⟩;refine qJ (BY zb (qJ (BY za (qJ (Mw hc X.kd (gb zb) (ga za) λ_=>Aa (λ_=>?_) λ_=>?_)))))
   ·have M2:=M.l (E3 (x:=a[m])) (E2 za);have M3:m≠0->VU a b (i+1) (out.push a[m]) m (n+1):=λq=>⟨M2,Nat.pos_of_ne_zero q,lb,dA za,zb,by lia⟩
    exact qJ (BY za (Aa (λ_=>qK ⟨X,.inl ⟨_,_,rfl,M2.doneH⟩⟩) λz=>Aa (λ_=>qK ⟨X,.inr ⟨_,_,_,_,_,rfl,M3 (Co z)⟩⟩) λ_=>qK ⟨X,_,_,_,_,_,rfl,M3 (Co z)⟩))
   ·have M2:=M.r (E3 (x:=b[n])) (E2 zb);have M3:n≠1->VU a b (i+1) (out.push b[n]) (m+1) n:=λq=>⟨M2,la,by lia,za,dA zb,by lia⟩
    exact qJ (BY zb (Aa (λ_=>qK ⟨X,.inl ⟨_,_,rfl,M2.lastH⟩⟩) λz=>Aa (λ_=>qK ⟨X,.inr ⟨_,_,_,_,_,rfl,M3 (Co z)⟩⟩) λ_=>qK ⟨X,_,_,_,_,_,rfl,M3 (Co z)⟩))
  ·rintro c t ⟨X,z⟩;exact⟨X,.inr z⟩
  clear M X;rintro c t ⟨X,⟨r,o,rfl,R⟩|⟨na,nb,out,ac,bc,rfl,M⟩⟩
  ·exact qK (qK (h _ _ X R))
  refine qJ (wpS_lift (wpAny_rule ⟨rfl,?_⟩));refine qJ (wpS_mono (qL (I:=λj c t=>SX k xs p t/\∃na nb out mg ac bc,c=(none,na,nb,out,mg,ac,bc)/\VU a b (i+1+j) out na nb) (Q:=λc t=>SX k xs p t/\((∃r o,c=(some r,o)/\r.toList.Perm (a.toList++b.toList))\/∃na nb out mg ac bc,c=(none,na,nb,out,mg,ac,bc)/\VU a b (i+1+1) out na nb)) ?_ ?_ ⟨X,_,_,_,_,_,_,rfl,M⟩) ?_)
  ·clear M X;intro j c t _ hj hRq;rcases hRq with⟨X,na,nb,out,mg,ac,bc,rfl,M,la,lb,za,zb,ge⟩;obtain⟨n,rfl⟩:∃n,nb=n+1:=⟨nb-1,by lia⟩;dsimp (config:={zeta:=false,zetaHave:=false}) only
   extract_lets c1 na1 c2 nb1 c3 out1 c4 mg1 c5 ac1 bc1 nb2 jp mg2
   refine Pg (f:=jp ()) λg=>?_;refine qJ (GH X λt X=>qJ (BY zb (qJ (DD hc X.kd (gb zb) ma (show 0+na<=a.size by lia) (show na-1<na by lia) λr (hr:r<=na)=>?_))));dsimp (config:={zeta:=false,zetaHave:=false}) only
   extract_lets k1 ac2 jp2 out2 na2
   refine IC (f:=jp2 ()) (λna' out'=>MP a b out' (a.toList.take na') (b.toList.take (n+1))/\1<=na'/\na'<=na) (λna' out' ⟨R1,R2,R3⟩=>?_) λJ=>?_
   ·have MB:=R1.r (E3 (x:=b[n])) (E2 zb);refine qJ (BY zb (Aa (λz=>qK ⟨X,.inl ⟨_,_,rfl,MB.lastH⟩⟩) λz=>?_));have lb2:n≠1:=Co z;obtain⟨m,rfl⟩:∃m,na'=m+1:=⟨na'-1,by lia⟩;have lm:m<a.size:=by lia
    refine qJ (BY lm (qJ (DD hc X.kd (ga lm) mb (show 0+n<=b.size by lia) (show n-1<n by lia) λr' (hr':r'<=n)=>?_)));dsimp (config:={zeta:=false,zetaHave:=false}) only
    extract_lets k2 bc2 na4 jp3 out3 nb3
    refine IC (f:=jp3 ()) (λnb' out'=>MP a b out' (a.toList.take (m+1)) (b.toList.take nb')/\2<=nb'/\nb'<=n) (λnb' out' ⟨S1,S2,S3⟩=>?_) λJ=>?_
    ·have MA:=S1.l (E3 (x:=a[m])) (E2 lm);have MD:∀P,P<=i+1+(j+1)->m≠0->VU a b P (out'.push a[m]) m nb':=λP hP q=>⟨MA,Nat.pos_of_ne_zero q,S2,dA lm,by lia,by lia⟩
     exact qJ (BY lm (Aa (λz=>qK ⟨X,.inl ⟨_,_,rfl,MA.doneH⟩⟩) λz=>Aa (λ_=>qK ⟨X,.inr ⟨_,_,_,_,_,_,rfl,MD _ 0#1 (Co z)⟩⟩) λ_=>qK ⟨X,_,_,_,_,_,_,rfl,MD _ (bL _) (Co z)⟩))
    ·have MC:=MB.r (VT (x:=b.extract r' n)) (Mz hr');refine Aa (λz1=>Aa (λz=>qK ⟨X,.inl ⟨_,_,rfl,MC.lastH⟩⟩) λz=>Aa (λy=>qK ⟨X,.inl ⟨_,_,rfl,MC.doneH⟩⟩) λy=>J _ _ ⟨MC,?_,hr'⟩) λz1=>J _ _ ⟨MB,(show 2<=n by lia),bL _⟩
     have q:r'≠1:=Co z;have q2:r'≠0:=Co y;exact (show 2<=r' by lia)
   ·have MC:=M.l (VT (x:=a.extract r na)) (Mz hr);exact Aa (λz1=>Aa (λz=>qK ⟨X,.inl ⟨_,_,rfl,MC.doneH⟩⟩) λz=>J _ _ ⟨MC,Nat.pos_of_ne_zero (Co z),hr⟩) λz1=>J _ _ ⟨M,la,bL _⟩
  ·intro c t hRq;rcases hRq with⟨X,na,nb,out,mg,ac,bc,rfl,M,la,lb,za,zb,ge⟩;lia
  clear M X;rintro c t ⟨X,⟨r,o,rfl,R⟩|⟨na,nb,out,mg,ac,bc,rfl,M⟩⟩
  ·exact qK (qK (h _ _ X R))
  exact qJ (GH X λt X=>qK ⟨X,_,_,_,_,rfl,M⟩)
 ·intro c t hRq;rcases hRq with⟨X,na,nb,out,mg,rfl,M,la,lb,za,zb,ge⟩;lia
end
variable{pw:Nat}
section
variable{xs:Array Keyed}
theorem Ue(at':Nat)(v l:List Keyed):∀(off:Nat) (xs:Array Keyed) (u m:List Keyed),u.length=at'+off->m.length=l.length->xs.toList=u++(m++v)->((l.zipIdx off).foldl (λa x=>a.setIfInBounds (at'+x.2) x.1) xs).toList=u++(l++v):=by
 induction l with
 |nil =>
  intro off xs u m _ h2 h;have e:m=[]:=gB.mp h2;subst e;exact h
 |cons x l ih =>
  intro off xs u m h1 h2 h;obtain⟨y,m,rfl⟩:=List.exists_cons_of_length_eq_add_one h2;rw[List.zipIdx_cons,List.foldl_cons,ih (off+1) _ (u++[x]) m (by rw[bN,h1];rfl) (Nat.succ.inj h2) ?_]
  ·rw[cN];rfl
  ·rw[Array.toList_setIfInBounds,h,List.set_append_right _ _ (by rw[h1];exact bL _),h1,dJ,cN];rfl
theorem Uf{l:List Keyed}{at' n:Nat}(h:at'+n<=xs.size)(hp:l.Perm ((xs.toList.drop at').take n)):((l.zipIdx 0).foldl (λa x=>a.setIfInBounds (at'+x.2) x.1) xs).toList.Perm xs.toList:=by
 have e:xs.toList=xs.toList.take at'++((xs.toList.drop at').take n++(xs.toList.drop at').drop n):=by rw[cq,cq]
 rw[Ue at' _ l 0 xs _ _ (by rw[bq,cg];lia) hp.length_eq.symm e]
 conv=>rhs;rw[e]
 exact (hp.append_right _).append_left _
noncomputable def Rl:Nat->List (Nat×Nat×Nat)->Nat->Prop
 |at',[],lo=>at'=lo
 |at',x::l,lo=>x.1=at'/\1<=x.2.1/\Rl (at'+x.2.1) l lo
theorem Rl.len:∀{l:List (Nat×Nat×Nat)} {at' lo:Nat},Rl at' l lo->at'+l.length<=lo
 |[],_,_,h=>fm h
 |x::l,at',lo,⟨_,h2,h4⟩=>by have z:=Rl.len h4;rw[cW];lia
theorem Rl.app:∀{l1 l2:List (Nat×Nat×Nat)} {at' lo:Nat},Rl at' (l1++l2) lo↔∃m,Rl at' l1 m/\Rl m l2 lo
 |[],l2,at',lo=>⟨λh=>⟨at',rfl,h⟩,λ⟨m,h1,h2⟩=>by rw[show at'=m from h1];exact h2⟩
 |x::l1,l2,at',lo=>⟨λ⟨h1,h2,h4⟩=>by obtain⟨m,q1,q2⟩:=Rl.app.mp h4;exact⟨m,⟨h1,h2,q1⟩,q2⟩,λ⟨m,⟨h1,h2,h4⟩,q⟩=>⟨h1,h2,Rl.app.mpr ⟨m,h4,q⟩⟩⟩
theorem M5:∀(l:List (Nat×Nat×Nat)) (x:Nat×Nat×Nat),(l++[x]).modify l.length (λx=>(x.1,x.2.1,pw))=l++[(x.1,x.2.1,pw)]
 |[],_=>rfl
 |y::l,x=>qP (y::·) (M5 l x)
theorem Rl.last{p:Array (Nat×Nat×Nat)}{lo:Nat}(h:Rl 0 p.toList lo):Rl 0 (p.modify (p.size-1) λx=>(x.1,x.2.1,pw)).toList lo:=by
 rw[Array.toList_modify,<-cg];rcases List.eq_nil_or_concat p.toList with e|⟨l,x,e⟩
 ·rw[e]at h⊢;exact h
 ·rw[e,List.concat_eq_append]at h⊢;rw[bN,cP,eI,M5];obtain⟨m,h1,h2⟩:=Rl.app.mp h;exact Rl.app.mpr ⟨m,h1,h2⟩
end
section
variable{prog:qT}{w:qU}{A:Around}{s:qS}{k:SortKind}{a₀:Array Keyed}{p:Array (Nat×Nat×Nat)}{st:SortSt}{lo:Nat}
theorem OS(hc:JS prog w A s k a₀)(Z:SZ k a₀ p st){sa na nb pw2:Nat}(e1:p[i]?=some (sa,na,pw))(e2:p[i+1]?=some (sa+na,nb,pw2))(hna:1<=na)(hnb:1<=nb)(hz:sa+na+nb<=a₀.size)
  {Q:Bool->SortSt->Prop} (h:∀t,SZ k a₀ ((p.setIfInBounds i (sa,na+nb,pw)).eraseIdxIfInBounds (i+1)) t->Q true t):wpS 0#7 A E s (mergeAt' i) Q st:=by
 have zn:=Z.n;obtain⟨k',xs,p',gm,fl⟩:=st;have ek:=Z.kd;have pm:=Z.pm;have ep:=Z.pd;have ef:=Z.fl;dsimp only[kindOf,arrOf,pendingOf,failedOf]at ek pm ep ef zn;subst ek ep ef;have gx:∀{i:Nat} (hi:i<xs.size),xs[i]∈a₀.toList:=λ{i} hi=>pm.mem_iff.mp 1#4
 have mx:∀x∈xs.toList,x∈a₀.toList:=λx=>pm.mem_iff.mp
 rw[<-zn]at hz;refine qJ (wpS_get ?_);dsimp (config:={zeta:=false,zetaHave:=false}) only;rw[e1,e2];obtain⟨sb,hsb⟩:∃sb,sb=sa+na:=⟨_,rfl⟩;rw[<-hsb]at hz⊢;have Z2:SZ k' a₀ ((p'.setIfInBounds i (sa,na+nb,pw)).eraseIdxIfInBounds (i+1)) (SortSt.mk' k' xs ((p'.setIfInBounds i (sa,na+nb,pw)).eraseIdxIfInBounds (i+1)) gm none):=⟨rfl,pm,rfl,rfl⟩;have lsb:sb<xs.size:=by lia
 refine qJ (Uc ?_);refine qJ (BY lsb (qJ (DD hc rfl (gx lsb) mx 0#1 0#1 λr hr=>?_)));refine Aa (λ_=>qK (h _ Z2)) λz=>?_;have z:na-r≠0:=Co z;have ll:sb-1<xs.size:=by lia
 have e3:sa+r+(na-r)-1=sb-1:=by lia
 rw[e3];refine qJ (BY ll (qJ (DD hc rfl (gx ll) mx 0#1 0#1 λr' hr'=>?_)));refine Aa (λ_=>qK (h _ Z2)) λz=>?_;have z2:r'≠0:=Co z
 extract_lets x y jp
 have zx1:0<(xs.extract (sa+r) sb).size:=by rw[Array.size_extract];lia
 have zy1:0<(xs.extract sb (sb+r')).size:=by rw[Array.size_extract];lia
 have mx1:∀{i j:Nat},∀q∈(xs.extract i j).toList,q∈a₀.toList:=λq hq=>mx q (by rw[Fi]at hq;exact cO (bv hq))
 have J:∀m t,SX k' xs ((p'.setIfInBounds i (sa,na+nb,pw)).eraseIdxIfInBounds (i+1)) t->m.toList.Perm ((xs.extract (sa+r) sb).toList++(xs.extract sb (sb+r')).toList)->wpS 0#7 A E s (jp m) Q t:=λm t T R=>by
  refine qJ (wpS_modify (qJ (wpS_get (qK ?_))))
  have sw:((m.toList.zipIdx 0).foldl (λa x=>a.setIfInBounds (sa+r+x.2) x.1) xs).toList.Perm xs.toList:=by refine Uf (n:=sb+r'-(sa+r)) 0#1 (R.trans (.of_eq ?_));rw[Fi,Fi,eK,eK,<-cq (sb-(sa+r)) ((xs.toList.drop (sa+r)).take (sb+r'-(sa+r))),List.take_take,eK,eJ,eS 0#1,show sa+r+(sb-(sa+r))=sb by lia,show sb+r'-(sa+r)-(sb-(sa+r))=sb+r'-sb by lia]
  have q:=h (SortSt.mk' (kindOf t) ((m.toList.zipIdx 0).foldl (λa x=>a.setIfInBounds (sa+r+x.2) x.1) (arrOf t)) (pendingOf t) (gallopOf t) (failedOf t)) ⟨T.kd,by show (List.foldl _ (arrOf t) _).toList.Perm _;rw[T.ar];exact sw.trans pm,T.pd,T.fl⟩;show Q (failedOf t).isNone _;rw[T.fl];exact q
 exact Aa (λ_=>qJ (OQ hc Z2.x mx1 mx1 zx1 zy1 J)) λ_=>qJ (OR hc Z2.x mx1 mx1 zx1 zy1 J)
theorem Ke(hc:JS prog w A s k a₀)(Z:SZ k a₀ p st)(R:Rl 0 p.toList lo)(hz:lo<=a₀.size)(hi:i+1<p.size){Q:Bool->SortSt->Prop}
  (h:∀q t,SZ k a₀ q t->Rl 0 q.toList lo->q.size+1=p.size->Q true t):wpS 0#7 A E s (mergeAt' i) Q st:=by
 have e0:p.toList=p.toList.take i++(p[i]::p[i+1]::p.toList.drop (i+2)):=by
  conv=>lhs;rw[<-cq i p.toList]
  congr 1
  rw[List.drop_eq_getElem_cons (by simp;lia),List.drop_eq_getElem_cons (by simp;lia)];simp
 rw[e0]at R;obtain⟨m,R1,R2,R3,R5,R6,R8⟩:=Rl.app.mp R;have z2:=R8.len;rcases ep:p[i] with⟨sa,na,pw⟩;rcases ep2:p[i+1] with⟨sb,nb,pw2⟩;rw[ep]at R2 R3 R5 R8 z2;rw[ep2]at R5 R6 R8 z2;dsimp only at R2 R3 R5 R6 R8 z2;subst R2;subst R5;refine OS hc Z (by rw[getElem?_pos p i 0#1,ep]) (by rw[getElem?_pos p (i+1) hi,ep2]) R3 R6 0#1 λt T=>?_
 have e1:((p.setIfInBounds i (sa,na+nb,pw)).eraseIdxIfInBounds (i+1)).toList=p.toList.take i++((sa,na+nb,pw)::p.toList.drop (i+2)):=by
  rw[Array.toList_eraseIdxIfInBounds,Array.toList_setIfInBounds]
  conv=>lhs;rw[e0]
  have ll:(p.toList.take i).length=i:=by rw[bq,cg];lia
  rw[List.set_append_right _ _ 0#1,ll,dJ,List.set_cons_zero,List.eraseIdx_append_of_length_le 0#1,ll,show i+1-i=1 by lia];rfl
 refine h _ t T ?_ ?_
 ·rw[e1];refine Rl.app.mpr ⟨sa,R1,rfl,cK R3 (gU ..),?_⟩;show Rl (sa+(na+nb)) _ lo;rw[<-fT];exact R8
 ·have z:=qP List.length e1;have z0:=qP List.length e0;simp only[Array.length_toList,List.length_append,List.length_cons]at z z0;lia
theorem Ql(hc:JS prog w A s k a₀)(Z:SZ k a₀ p st){n ok:Nat}(hz:lo+n<=a₀.size){Q:Bool->SortSt->Prop}
  (h:∀t,SZ k a₀ p t->Q true t):wpS 0#7 A E s (binarySort' lo n ok) Q st:=by
 refine qJ (wpS_mono (qL (I:=λ_ c t=>c=(none,())/\SZ k a₀ p t) (Q:=λc t=>c=(none,())/\SZ k a₀ p t) ?_ (λ_ _ z=>z) ⟨rfl,Z⟩) ?_)
 ·rintro x c t q1 q2 ⟨rfl,Z⟩;refine qJ (wpS_mono (qL (I:=λ_ c u=>u=t/\∃l r,c=(none,l,r)/\r<=x) (Q:=λc u=>u=t/\∃l r,c=(none,l,r)) ?_ ?_ ⟨rfl,0,x,rfl,bL _⟩) ?_)
  ·rintro i c u _ ix ⟨rfl,l,r,rfl,a2⟩;refine Aa (λz=>qK ⟨rfl,l,r,rfl⟩) λz=>?_;have z:¬l≥r:=z;exact qJ (ID hc Z (show lo+x<a₀.size by lia) (show lo+(l+r)/2<a₀.size by lia) λ_=>Aa (λ_=>qK ⟨rfl,l,(l+r)/2,rfl,by lia⟩) λ_=>qK ⟨rfl,(l+r)/2+1,r,rfl,a2⟩)
  ·rintro c u ⟨rfl,l,r,rfl,_⟩;exact⟨rfl,l,r,rfl⟩
  ·rintro c u ⟨rfl,l,r,rfl⟩;exact qJ (Ud Z λt Z=>qK ⟨rfl,Z⟩)
 ·rintro c t ⟨rfl,Z⟩;exact qK (h t Z)
theorem Ss(hc:JS prog w A s k a₀)(Z:SZ k a₀ p st){nrem:Nat}(h1:1<=nrem)(hz:lo+nrem<=a₀.size){Q:Option Nat->SortSt->Prop}
  (h:∀r t,1<=r->r<=nrem->SZ k a₀ p t->Q (some r) t):wpS 0#7 A E s (countRun' lo nrem) Q st:=by
 have lt:∀{t:SortSt} {n:Nat},SZ k a₀ p t->n<nrem->∀{Q:Option Bool->SortSt->Prop},(∀b,Q (some b) t)->wpS 0#7 A E s (ltAt' (lo+n) (lo+n-1)) Q t:=λ{t n} Z hn {Q} q=>ID hc Z 0#1 0#1 q
 refine qJ (wpS_mono (qL (I:=λn c t=>t=st/\c=(none,n)) (Q:=λc t=>t=st/\∃n,c=(none,n)/\1<=n/\n<=nrem) ?_ ?_ ⟨rfl,rfl⟩) ?_)
 ·rintro n c t q1 q2 ⟨rfl,rfl⟩;exact qJ (lt Z q2 λ_=>Aa (λ_=>qK ⟨rfl,n,rfl,q1,dA q2⟩) λ_=>qK ⟨rfl,rfl⟩)
 ·rintro c t ⟨rfl,rfl⟩;exact⟨rfl,_,rfl,Nat.le_max_left ..,Nat.max_le.mpr ⟨h1,bL _⟩⟩
 rintro c t ⟨rfl,n,rfl,n1,nn⟩;refine Aa (λz=>qK (h n _ n1 nn Z)) λz=>?_;have z:n≠nrem:=Co z
 extract_lets n2 n3 jp
 have J:∀t,SZ k a₀ p t->wpS 0#7 A E s (jp ()) Q t:=λt Z=>by
  refine qJ (wpS_lift (wpAny_rule ⟨rfl,?_⟩));refine qJ (wpS_mono (qL (I:=λm c t=>∃q,c=(none,m,q)/\SZ k a₀ p t) (Q:=λc t=>∃m q,c=(none,m,q)/\1<=m/\m<=nrem/\SZ k a₀ p t) ?_ ?_ ⟨0,rfl,Z⟩) ?_)
  ·rintro m c t (q1:n+1<=m) q2 ⟨q,rfl,Z⟩;refine qJ (lt Z q2 λ_=>Aa (λ_=>Aa (λg=>qJ (Lb Z λt Z=>qK ⟨0,rfl,Z⟩)) λg=>qK ⟨0,rfl,Z⟩) λ_=>qJ (ID hc Z (show lo+m-1<a₀.size by lia) (show lo+m<a₀.size by lia) λ_=>Aa (λ_=>qK ⟨m,q,rfl,by lia,dA q2,Z⟩) λ_=>qK ⟨q+1,rfl,Z⟩))
  ·rintro c t ⟨q,rfl,Z⟩;exact⟨_,q,rfl,cK (Nat.le_add_left 1 n) (Nat.le_max_left ..),Nat.max_le.mpr ⟨show n+1<=nrem by lia,bL _⟩,Z⟩
  rintro c t ⟨m,q,rfl,m1,mn,Z⟩
  extract_lets c1 c2 c3 c4 jp2
  have J2:∀t,SZ k a₀ p t->wpS 0#7 A E s (jp2 ()) Q t:=λt Z=>by
   refine qJ (Lb Z λt Z=>?_);refine qJ (wpS_mono (qL (I:=λn c u=>u=t/\c=(none,n)) (Q:=λc u=>u=t/\∃n,c=(none,n)/\1<=n/\n<=nrem) ?_ ?_ ⟨rfl,rfl⟩) ?_)
   ·rintro n c t (q1:m<=n) q2 ⟨rfl,rfl⟩;exact qJ (lt Z q2 λ_=>Aa (λ_=>qK ⟨rfl,n,rfl,cK m1 q1,dA q2⟩) λ_=>qK ⟨rfl,rfl⟩)
   ·rintro c u ⟨rfl,rfl⟩;exact⟨rfl,_,rfl,cK m1 (Nat.le_max_left ..),Nat.max_le.mpr ⟨mn,bL _⟩⟩
   ·rintro c u ⟨rfl,n,rfl,q1,q2⟩;exact qK (h n _ q1 q2 Z)
  exact Aa (λg=>qJ (Lb Z J2)) λg=>J2 _ Z
 exact Aa (λg=>qJ (ID hc Z (show lo<a₀.size by lia) (show lo+n-1<a₀.size by lia) λ_=>Aa (λ_=>qK (h n _ n1 nn Z)) λ_=>qJ (Lb Z J))) λg=>J _ Z
theorem Ph(hc:JS prog w A s k a₀)(Z:SZ k a₀ #[] st){Q:Unit->SortSt->Prop}(h:∀t,(arrOf t).toList.Perm a₀.toList->failedOf t=none->Q () t):wpS 0#7 A E s sortRuns' Q st:=by
 refine qJ (wpS_get ?_);have ea:(arrOf st).size=a₀.size:=Z.n
 extract_lets n0 mr lo0
 obtain⟨n,hn⟩:∃n,n=n0:=⟨_,rfl⟩;have en:n=a₀.size:=hn.trans ea;clear_value mr;rw[<-hn];clear_value n0;refine qJ (wpS_mono (qL (I:=λi c t=>∃lo p,c=(none,lo)/\SZ k a₀ p t/\Rl 0 p.toList lo/\lo<=n/\i<=lo) (Q:=λc t=>∃p,c=(none,n)/\SZ k a₀ p t/\Rl 0 p.toList n) ?_ ?_ ⟨0,#[],rfl,Z,rfl,cS _,cS _⟩) ?_)
 ·clear Z;intro i c t _ hi hRq;rcases hRq with⟨lo,p,rfl,Z,R,ln,li⟩;refine Aa (λz=>?_) λz=>?_
  ·have z:lo≥n:=z;obtain rfl:lo=n:=by lia
   exact qK ⟨p,rfl,Z,R⟩
  have z:¬lo≥n:=z;refine qJ (Ss hc Z (show 1<=n-lo by lia) (show lo+(n-lo)<=a₀.size by lia) λr t r1 r2 Z=>?_);dsimp (config:={zeta:=false,zetaHave:=false}) only
  extract_lets f jp fc
  refine Sr (f:=jp ()) (λm t=>1<=m/\lo+m<=n/\SZ k a₀ p t) (λm t ⟨m1,m2,Z⟩=>?_) λJ=>?_
  ·refine qJ (wpS_get ?_)
   extract_lets lo1 jp2
   refine Sr (f:=jp2) (λ_ t=>∃p,SZ k a₀ p t/\Rl 0 p.toList lo) (λ_ t ⟨p,Z,R⟩=>?_) λJ2=>?_
   ·refine qJ (wpS_modify (qK ⟨lo+m,p.push (lo,m,0),rfl,⟨Z.kd,Z.pm,by show (pendingOf t).push _=_;rw[Z.pd],Z.fl⟩,?_,m2,by lia⟩));rw[Array.toList_push];exact Rl.app.mpr ⟨lo,R,rfl,m1,rfl⟩
   have ep:(sortPriv% PySem.Builtin.SortState.pending) t=p:=Z.pd;rw[ep];rcases eb:p.back? with _|⟨s1,n1,w1⟩
   ·exact J2 () t ⟨p,Z,R⟩
   refine qJ (wpS_mono (qL (I:=λ_ c t=>∃p,c=(none,())/\SZ k a₀ p t/\Rl 0 p.toList lo) (Q:=λc t=>∃p,c=(none,())/\SZ k a₀ p t/\Rl 0 p.toList lo) ?_ (λ_ _ z=>z) ⟨p,rfl,Z,R⟩) ?_)
   ·intro j c t _ _ hRq;rcases hRq with⟨p,rfl,Z,R⟩;refine qJ (wpS_get ?_);have ep:(sortPriv% PySem.Builtin.SortState.pending) t=p:=Z.pd;rw[ep]
    extract_lets p2
    by_cases c1:p.size>1
    ·rw[qF c1,getElem?_pos p (p.size-2) 0#1];obtain⟨a1,a2,a3⟩:=p[p.size-2];exact Aa (λ_=>qK ⟨p,rfl,Z,R⟩) λ_=>qJ (Ke hc Z R 0#1 (show p.size-2+1<p.size by lia) λq t Z R _=>Aa (λz=>qG z 0#8) λ_=>qK ⟨q,rfl,Z,R⟩)
    ·rw[qE c1];exact qK ⟨p,rfl,Z,R⟩
   ·intro c t hRq;rcases hRq with⟨p,rfl,Z,R⟩;exact qJ (wpS_modify (J2 () _ ⟨p.modify (p.size-1) λx=>(x.1,x.2.1,power' n (2*s1+n1) (2*s1+n1+n1+m) n),⟨Z.kd,Z.pm,qP (λz:Array (Nat×Nat×Nat)=>z.modify (z.size-1) λx=>(x.1,x.2.1,power' n (2*s1+n1) (2*s1+n1+n1+m) n)) Z.pd,Z.fl⟩,R.last⟩))
  refine Aa (λg=>?_) λg=>J r t ⟨r1,by lia,Z⟩
  have g:r<mr:=g;exact qJ (wpS_lift (wpAny_rule ⟨rfl,qJ (Ql hc Z (show lo+min (n-lo) mr<=a₀.size by lia) λt Z=>Aa (λz=>qG z 0#8) λ_=>J _ t ⟨show 1<=min (n-lo) mr by lia,show lo+min (n-lo) mr<=n by lia,Z⟩)⟩))
 ·intro c t hRq;rcases hRq with⟨lo,p,rfl,Z,R,ln,li⟩;obtain rfl:lo=n:=by lia
  exact⟨p,rfl,Z,R⟩
 clear Z;intro c t hRq;rcases hRq with⟨p,rfl,Z,R⟩;have zp:=R.len;refine qJ (wpS_mono (qL (I:=λj c t=>∃p,c=(none,())/\SZ k a₀ p t/\Rl 0 p.toList n) (Q:=λc t=>c=(none,())/\Q () t) ?_ ?_ ⟨p,rfl,Z,R⟩) ?_)
 ·intro j c t _ hj hRq;rcases hRq with⟨p,rfl,Z,R⟩;refine qJ (wpS_get ?_);have ep:(sortPriv% PySem.Builtin.SortState.pending) t=p:=Z.pd;rw[ep];refine Aa (λz=>qK ⟨rfl,h t Z.pm Z.fl⟩) λz=>?_;have z:¬p.size<=1:=z;refine qJ (Ke hc Z R 0#1 ?_ λq t Z R e=>Aa (λz=>qG z 0#8) λ_=>qK ⟨q,rfl,Z,R⟩)
  (repeat' split)<;>lia
 ·intro c t hRq;rcases hRq with⟨p,rfl,Z,R⟩;exact⟨rfl,h t Z.pm Z.fl⟩
 ·rintro c t ⟨rfl,q⟩;exact qK q
end
theorem Ug{l:List α}(h:2<=l.length):∃x y r,l=x::y::r:=by
 rcases l with _|⟨x,_|⟨y,l⟩⟩
 ·exact qG h (by rw[gi];decide)
 ·exact qG h (by rw[cP];decide)
 ·exact⟨_,_,_,rfl⟩
section
variable{prog:qT}{w:qU}{A:Around}{s:qS}
theorem M6{n:Nat}{P:Fin->qS->Prop}(ho:s.heap.get? a=some (seqObj "list" vs.toArray n))(hT:∀v∈vs,HR s.heap v)(h64:vs.length<=100000)
  (h:∀out:Array qQ,out.toList.Perm vs->P (.done (.ret .none)) {s with heap:=sortedHeap s.heap a vs out}):wpAny 0#7 A (Builtin.«list.sort» ⟨[.ref a],[]⟩) P E s:=by
 rw[list_sort_plain];have lt:=bP ho;obtain⟨e1,ho1⟩:∃e1,(s.heap.update a (Obj.mapSeq λ_=>#[])).get? a=some (seqObj "list" #[] e1):=⟨_,get?_update_seq ho (λ_=>#[])⟩;refine qC (listItems_at ho rfl (qC (listUpdate_at ho rfl (qC (seqEpoch_at ho1 rfl (qC (wpAny_newTuple (qC (wpAny_newList (qO ?_))))))))))
 have up:∀t o,t≠a->s.heap.get? t=some o->(((s.heap.update a (Obj.mapSeq λ_=>#[])).push (seqObj "tuple" vs.toArray 0)).push (seqObj "list" #[] 0)).get? t=some o:=λt o ne g =>
  bK _ (bK _ (by rw[dI _ _ _ _ ne];exact g))
 have hl:(((s.heap.update a (Obj.mapSeq λ_=>#[])).push (seqObj "tuple" vs.toArray 0)).push (seqObj "list" #[] 0)).get? a=some (seqObj "list" #[] e1):=bK _ (bK _ ho1);show wpAny 0#7 A _ P E {s with heap:=((s.heap.update a (Obj.mapSeq λ_=>#[])).push (seqObj "tuple" vs.toArray 0)).push (seqObj "list" #[] 0)};dsimp only;have sz:vs.toArray.size=vs.length:=by simp
 have line:vs.length<=sizeLine+1:=by rw[sizeLine_eq];lia
 have hT6:∀v∈vs,HR (((s.heap.update a (Obj.mapSeq λ_=>#[])).push (seqObj "tuple" vs.toArray 0)).push (seqObj "list" #[] 0)) v:=λv hv=>(hT v hv).at λt o g c=>up t o (λz=>by rw[z,ho]at g;cases g;exact qG (Value.type.inj c) 0#8) g
 by_cases h2:vs.toArray.size<2
 ·rw[qF h2,qF h2];refine qC (qD ?_);rw[StateT.run_pure];refine qC (qD (qC (seqEpoch_at hl rfl (qC (listUpdate_at hl rfl ?_ (hsz2:=by rw[Array.size_map];show (pairsOf vs).size<=_;rw[pairsOf_size];exact line))))));simp only[bne_self_eq_false,Bool.false_eq_true,if_false];exact qD (h _ (by simp[List.map_snd_zip]))
 ·rw[qE h2,qE h2];obtain⟨v₁,v₂,rest,rfl⟩:∃v₁ v₂ rest,vs=v₁::v₂::rest:=by rw[cC]at h2;exact Ug (gP h2)
  refine qC (Sn hT6 λb=>?_);refine qC (qM (Ph (k:=tuples' b) (a₀:=pairsOf (v₁::v₂::rest)) (Q:=λ_ t=>(arrOf t).toList.Perm (pairsOf (v₁::v₂::rest)).toList/\failedOf t=none) ?_ ⟨rfl,.refl _,rfl,rfl⟩ λt h1 h2=>⟨h1,h2⟩) ?_ λ_ _ e=>e)
  ·intro x hx y hy;rw[pairsOf_toList]at hx hy;rcases hT6 _ (mem_zip_self hx).2 with⟨tx,vx,nx,ex,gx,ix,_⟩;rcases hT6 _ (mem_zip_self hy).2 with⟨ty,vy,ny,ey,gy,iy,_⟩;refine⟨HT.Dw nx ny,λE Q q=>?_⟩;rw[ex,ey];exact Qj b gx gy ix iy q
  ·rintro⟨⟨⟩,t⟩ s' ⟨rfl,hp,hf⟩;have pl:((arrOf t).map (·.2)).toList.Perm (v₁::v₂::rest):=by have z:=hp.map (·.2);rw[pairsOf_toList,List.map_snd_zip (bL _)]at z;rw[Array.toList_map];exact z
   have ln:((arrOf t).map (·.2)).size<=sizeLine+1:=by have z:=pl.length_eq;rw[cg]at z;rw[z];exact line
   dsimp only;refine qC (seqEpoch_at hl rfl (qC (listUpdate_at hl rfl ?_ (hsz2:=ln))));rw[hf];simp only[bne_self_eq_false,Bool.false_eq_true,if_false];exact qD (h _ pl)
theorem Qm{l:qR}(hl:s.heap.IsList l vs.toArray)(hT:∀v∈vs,HR s.heap v)(h64:vs.length<=100000)
  (h:∀out:Array qQ,out.toList.Perm vs->Q (.ref 1#5) {s with heap:=sortedAll s.heap vs out}):wpAny 0#7 A (call (.builtin "sorted") [.ref l]) Q E s:=by
 refine Calls.call_function_entry kind_sorted plain_sorted entry_sorted (args_sorted1 _) ?_;unfold Builtin.«sorted»;refine qC (m:=checkCount "sorted" 1 1 _) (qD (qC (collect_list hl (qC (wpAny_newList ?_)))));have sz:((s.heap.push (seqObj "list" #[] 0)).update s.heap.objs.size (Obj.mapSeq (·++vs.toArray))).objs.size=s.heap.objs.size+1:=by rw[Heap.size_update,size_push']
 have gL:(((s.heap.push (seqObj "list" #[] 0)).update s.heap.objs.size (Obj.mapSeq (·++vs.toArray))).push (seqObj "list" vs.toArray 0)).get? 1#5=some (seqObj "list" vs.toArray 0):=by rw[<-sz];exact ba _ rfl
 show wpAny _ _ _ _ _ {s with heap:=((s.heap.push (seqObj "list" #[] 0)).update s.heap.objs.size (Obj.mapSeq (·++vs.toArray))).push (seqObj "list" vs.toArray 0)};rw[sz];refine qC (qO (wpAny_call_entry slot_list_sort ⟨_,gL,rfl⟩ entry_list_sort (M6 gL (λv hv=>(hT v hv).at λt o g _=>?_) h64 λout p=>⟨_,rfl,qD ⟨_,rfl,h out p⟩⟩) (args_list_sort _)));exact bK _ (by rw[dI _ _ _ _ (b9 (bP g))];exact bK _ g)
end
theorem OT{X:Cx}:Cf X (.builtin "sorted") (λxs H Q=>∃(a:qR) (ys:List V),xs=[.ref a]/\Ae X.K H a ys/\ys.length<=100000/\(∀y∈ys,∃t ns,y=.ref t/\Ah X.K H t 1#3/\ns≠[])/\∀D zs,H D=none->zs.Perm ys->Q (.ref D) (Ad H D (.lst zs))):=by
 intro ad s σ H xs us Q I r h;rcases h with⟨a,ys,rfl,ha,l64,ht,q⟩;obtain⟨u,rfl,ru⟩:=FQ r;cases ru;rcases I.list ha with⟨its,rv,pl,hz⟩;have ln:=rv.length;refine Qm (vs:=its) pl.isList (λv hv=>?_) 0#1 λout p=>?_
 ·obtain⟨i,hi⟩:=cQ.mp hv;have il:=(bJ.mp hi).1;obtain⟨w',hw,rw'⟩:=rv.get (i:=i) (x:=ys[i]) (by simp[show i<ys.length by lia]);rw[hi]at hw;cases hw;rcases ht ys[i] (dO _) with⟨t,ns,e,st,ne⟩;rw[e]at rw';rcases I.tuple st with⟨tv,rt,pt,_⟩;exact⟨t,tv,ns,rw',pt,C9 rt,ne⟩
 ·obtain⟨zs,pz,vz⟩:=Kc p rv;obtain⟨e,he⟩:=sortedAll_at s.heap its out;refine⟨.ref 1#5,_,I.laid (a:=s.heap.objs.size+1) (o:=.lst zs) (t':=s.toks) (λb o g=>sortedAll_old g) (eg _) ⟨by rw[pz.length_eq];exact hz,out.toList,e,vz,by rw[Array.toArray_toList];exact he⟩,rfl,q _ _ (I.hok.fresh (eg _)) pz⟩
theorem M7{X:Cx}{K:qV}(h:X.K=K):Cf X (.builtin "sorted") (λxs H Q=>∃(a:qR) (ys:List V),xs=[.ref a]/\Ae K H a ys/\ys.length<=100000/\(∀y∈ys,∃t ns,y=.ref t/\Ah K H t 1#3/\ns≠[])/\∀D zs,H D=none->zs.Perm ys->Q (.ref D) (Ad H D (.lst zs))):=h▸OT
end L2
namespace L2
open PySem PySem.Spec PyProof.Rows RW
variable{G gq i mf:Nat}{H:Hp}{M:List (qX)}{S:qX->qX->Prop}{a:qR}{c row g6 tf y:qW}{f:qX->Nat}{lf lo:Int}{p:qX}{α:Type}
theorem Qn{g:Int}(hg:2<=g){m:Nat}(hl:(g6.length:Int)=g^m)(m1:1<=m):g6.length=g6.length/g.toNat*g.toNat:=by
 have z:g6.length%g.toNat=0:=by
  have e:g^m=g^(m-1)*g:=by rw[<-cB];congr 1;lia
  have:((g6.length%g.toNat:Nat):Int)=0:=by rw[cD,hl,e,bp 0#1];exact Int.mul_emod_left ..
  lia
 have:=fR g6.length g.toNat;rw[z,fQ,dS]at this;exact this.symm
structure Qo(h:Nat)(S:qX->qX->Prop)(M:List (qX))(f:qX->Nat):Prop where
 nd:M.Nodup
 sub:∀p∈M,p∈BX h
 low:∀p∈M,∀q,S q p->q∈M/\f q<f p
 top:∀p∈M,f p=0\/∃q,S q p/\q∈M/\f p=f q+1
 rest:∀p∈BX h,p∉M->∃q,S q p/\q∈BX h/\q∉M
 few:∀p∈M,f p<=100
theorem E4{h:Nat}(h9:h<=9):(BX h).length<=100:=by have a:=GD h h;have b:=dn h9 h9;unfold BX;rw[cW];lia
theorem Pd.rk{h:Nat}(h9:h<=9){A:List (qX)}{B:qX->List (qX)}(hA:∀p,p∈A↔p∈BX h)(nA:A.Nodup)(hB:∀p∈BX h,∀q,q∈B p↔S q p)(hS:∀p q,S q p->q∈BX h)(m:Pd A B M f):Qo h S M f where
 nd:=m.nd
 sub:=λp hp=>(hA p).mp (m.sub p hp)
 low:=λp hp q hq=>m.low p hp q ((hB p ((hA p).mp (m.sub p hp)) q).mpr hq)
 top:=λp hp=>(m.top p hp).imp id λ⟨q,h1,h2,h3⟩=>⟨q,(hB p ((hA p).mp (m.sub p hp)) q).mp h1,h2,h3⟩
 rest:=λp hp np=>by obtain⟨q,h1,h2⟩:=m.rest p ((hA p).mpr hp) np;have z:=(hB p hp q).mp h1;exact⟨q,z,hS p q z,h2⟩
 few:=λp hp=>by
  have a:=m.few p hp;have b:=nA.length_le_of_subset λq hq=>(hA q).mp hq
  have:=E4 h9;lia
theorem Qo.all{h:Nat}(m:Qo h S M f){rk:qX->Nat}(hr:∀p q,S p q->rk p<rk q):∀p∈BX h,p∈M:=by
 suffices ∀(n:Nat) (p:qX),p∈BX h->rk p<=n->p∈M from λp hp=>this _ p hp (bL _)
 intro n
 induction n with
 |zero =>
  intro p hp hn
  by_cases z:p∈M
  ·exact z
  ·obtain⟨q,hq,_⟩:=m.rest p hp z;have:=hr q p hq;lia
 |succ n ih =>
  intro p hp hn
  by_cases z:p∈M
  ·exact z
  ·obtain⟨q,hq,qa,nq⟩:=m.rest p hp z;have:=hr q p hq;exact qG (ih q qa 0#1) nq
theorem IF{h:Nat}(hl:g6.length=h*G){q:qX}:q∈Hc G h (Eg g6) p↔FS G h g6 p q:=by
 unfold Hc FS;rw[bg];constructor
 ·intro hRq;rcases hRq with⟨⟨a,b⟩,hx,rfl⟩;obtain⟨h1,h2⟩:=cE.mp hx;rcases JQ.mp h1 with⟨ha,hb,ne,e⟩;exact⟨a,b,by lia,by lia,ne,e,(qN h2).symm,rfl⟩
 ·intro hRq;rcases hRq with⟨a,b,ha,hb,ne,e,h1,h2⟩;exact⟨(a,b),cE.mpr ⟨JQ.mpr ⟨by lia,by lia,ne,e⟩,qH h1.symm⟩,h2.symm⟩
theorem Dj{h:Nat}(h0:0<h){q:qX}(s:FS G h g6 p q):p∈BX h/\q∈BX h:=by
 rcases s with⟨a,b,ha,hb,ne,e,h1,h2⟩;have c:∀{x:Nat},x<h*G->x/G<h:=λ{x} hx=>cc (by rw[dS];exact hx)
 rw[h1,h2];exact⟨LW (c ha) (c hb),LW (cJ _ h0) (cJ _ h0)⟩
variable{q:Nat->qX}
theorem Qo.way{h:Nat}(m:Qo h S M f){k:Nat}(hk:q k∈M)(hq:∀i,i<k->S (q i) (q (i+1))):k<=f (q k):=by
 induction k with
 |zero=>exact cS _
 |succ k ih =>
  obtain⟨h1,h2⟩:=m.low _ hk _ (hq k (d7 k));have:=ih h1 λi hi=>hq i 0#1
  lia
theorem OU[DecidableEq α]{M A:List α}(nM:M.Nodup)(sub:∀p∈M,p∈A)(le:A.length<=M.length):∀p∈A,p∈M:=λp hp=>by
 by_cases z:p∈M
 ·exact z
 ·have:=(cn.mpr ⟨z,nM⟩).length_le_of_subset (l₂:=A) λx hx=>(br.mp hx).elim (λe=>by rw[e];exact hp) (sub x)
  rw[cW]at this;lia
theorem Gs(nd:M.Nodup)(hp:p∈M):Bg (An M (M.map λp=>V.int (f p:Int))) (Bb p)=some (.int (f p:Int)):=by obtain⟨i,hi⟩:=cQ.mp hp;exact CA nd hi (by rw[bO,hi];rfl)
theorem Su{k:List Bq}{v:V}(h:(An M (M.map λp=>V.int (f p:Int)))[i]?=some (k,v)):∃a,M[i]?=some a/\k=Bb a/\v=.int (f a:Int):=by
 unfold An at h;rw[List.getElem?_zipWith,bO]at h;cases ha:M[i]? with
 |none=>rw[ha]at h;simp at h
 |some a =>
  rw[ha]at h;simp at h;exact⟨a,rfl,h.1.symm,h.2.symm⟩
theorem Sv{K:qV}{ns:qW}(h:Ah K H a 1#3):FP K H (.ref a) (.tuple (ns.map PyData.int)):=.tup h (IX ns)
inductive JU(P:qT)(w:qU)(K:qV)(vs:List V)(H:Hp)(Q:VK)(z3_:XK):Prop
 |m (r:qR) (g lo:Int) (g6:qW) (m:Nat):vs=[.ref r]->Aj H r g lo g6 m->g^(m-1)<=9->(∀d H' M f,AH H H'->H d=none->DW P w K H' d (An M (M.map λp=>V.int (f p:Int)))->Qo 0#5 (FS g.toNat 0#5 g6) M f->Q (.ref d) H')->JU P w K vs H Q z3_
theorem Gu{g:Int}(hg:2<=g){m:Nat}(hl:(g6.length:Int)=g^m)(hm:1<=m){w:qW}(h:w∈Dr g g6 m row):Aw g g6 m w=row/\(∀x∈w,0<=x/\x<g)/\w.length=row.length+m-1:=by rw[<-KU hg hl hm]at h;obtain⟨n,_,rfl⟩:=bg.mp (show w∈(List.range (g^(row.length+m-1)).toNat).map λn:Nat=>Ai g (n:Int) (row.length+m-1) from (cE.mp h).1);exact⟨qN (cE.mp h).2,By hg _ _,BE ..⟩
noncomputable def WP(g:Int)(g6:qW)(m gq gs n:Nat):Int:=((Dr g g6 m (Ai g (n:Int) gs)).getD 0 []).getD gq 0
noncomputable def Kf(g:Int)(g6:qW)(m gq gs:Nat):qW:=(List.range (g^gs).toNat).map (WP g g6 m gq gs)
structure DY(g:Int)(g6:qW)(m gq left:Nat):Prop where
 ex:∃rk:qX->Nat,Hb g.toNat 0#5 g6 rk/\∃R,∀p,rk p<R
 e:∀(q:Nat->qX) (k:Nat),q k=(0,0)->(∀i,i<k->FS g.toNat 0#5 g6 (q i) (q (i+1)))->k<=gq
 l:∀(q:Nat->qX) (k:Nat),q 0=(0,0)->(∀i,i<k->FS g.toNat 0#5 g6 (q i) (q (i+1)))->k<=left
section
variable{g:Int}(hg:2<=g){m:Nat}(hl:(g6.length:Int)=g^m)(m2:2<=m)(hb:∀n∈g6,0<=n/\n<g){left:Nat}(B:DY g g6 m gq left)
include hg hl m2 hb B
theorem DY.sign{z:qW}(hy:∀n∈y,0<=n/\n<g)(hz:∀n∈z,0<=n/\n<g)(ly:y.length=gq+left+1)(lz:z.length=gq+left+1)(e:Aw g g6 m y=Aw g g6 m z):y.getD gq 0=z.getD gq 0:=by obtain⟨rk,hr,R,hR⟩:=B.ex;exact Qi hg hl m2 hb hr hR B.e B.l hy hz ly lz e
theorem DY.many:m<=gq+left+1:=by
 by_cases c:m<=gq+left+1
 ·exact c
 ·have z:∀x:Int,Aw g g6 m (List.replicate (gq+left+1) x)=[]:=λx=>MU (by rw[cL];lia)
  have b:∀x:Int,0<=x/\x<g->∀n∈List.replicate (gq+left+1) x,0<=n/\n<g:=λx hx n hn=>by rw[(List.mem_replicate.mp hn).2];exact hx
  have s:=DY.sign hg hl m2 hb B (y:=List.replicate (gq+left+1) 0) (z:=List.replicate (gq+left+1) 1) (b 0 ⟨by decide,by lia⟩) (b 1 ⟨by decide,by lia⟩) (cL ..) (cL ..) (by rw[z,z]);rw[bH,eW,qF 0#1,bH,eW,qF 0#1]at s;cases s
theorem DY.first{gs:Nat}(hc:∀n∈c,0<=n/\n<g):∃w,(Dr g g6 m c)[0]?=some w:=by
 obtain⟨rk,hr,_⟩:=B.ex;have hG:(g.toNat:Int)=g:=by lia
 have hd:=A8 hg hl (show 1<=m by lia);have hp:=RW.Ag hg (m-1);have z:=HP (G:=g.toNat) 0#1 (by rw[hG];exact hb) hr 0#1 (c:=c) (by rw[hG];exact hc);rw[<-LL (g:=g) g6 m c]at z;exact⟨_,bI 0#1⟩
theorem DY.at{gs:Nat}(em:gq+left+2=m+gs){v:qW}(hv:∀n∈v,0<=n/\n<g)(lv:v.length=m+gs-1):WP g g6 m gq gs (Ao g (Aw g g6 m v)).toNat=v.getD gq 0:=by
 have cb:=F1 hg hb m v;have cl:=BD g g6 m v;have nb:=BR hg cb;obtain⟨w,hw⟩:=DY.first (gs:=gs) hg hl m2 hb B cb;obtain⟨w1,w2,w3⟩:=Gu hg hl 0#1 (bT hw)
 have e:Ai g (((Ao g (Aw g g6 m v)).toNat:Nat):Int) gs=Aw g g6 m v:=by have z:=B8 hg cb;rw[cl,lv,Nat.sub_add_cancel (show 1<=m+gs by lia),de]at z;rw[show (((Ao g (Aw g g6 m v)).toNat:Nat):Int)=Ao g (Aw g g6 m v) by lia];exact z
 unfold WP;rw[e,bH (l:=Dr g g6 m (Aw g g6 m v)),hw];show w.getD gq 0=v.getD gq 0;exact DY.sign hg hl m2 hb B w2 hv (by rw[w3,cl,lv,Nat.sub_add_cancel (show 1<=m+gs by lia),de];clear w3 cl lv;lia) (by rw[lv];clear w3 cl lv;lia) w1
end
theorem IG{g:Int}(hg:2<=g)(g6:qW)(m gq gs:Nat):((Kf g g6 m gq gs).length:Int)=g^gs:=by unfold Kf;rw[bG,bn,bp (dG (RW.Ag hg gs))]
theorem WQ{g:Int}(hg:2<=g){m:Nat}(hl:(g6.length:Int)=g^m)(hm:1<=m)(gq gs:Nat):∀n∈Kf g g6 m gq gs,0<=n/\n<g:=λn hn=>by
 unfold Kf at hn;obtain⟨k,_,rfl⟩:=bg.mp hn;unfold WP;cases e:(Dr g g6 m (Ai g (k:Int) gs))[0]? with
 |none =>
  rw[bH (l:=Dr g g6 m (Ai g (k:Int) gs)),e];show 0<=(0:Int)/\(0:Int)<g;lia
 |some w =>
  rw[bH (l:=Dr g g6 m (Ai g (k:Int) gs)),e];exact Bf hg (Gu hg hl hm (bT e)).2.1 _
theorem YI{g:Int}{m:Nat}(h0:0<g6.length/g.toNat){M':List (qX)}{f':qX->Nat}(r:Qo 0#5 (FS g.toNat 0#5 g6) M f)(all:∀p∈BX 0#5,p∈M)(r':Qo 0#5 (λa b=>FS g.toNat 0#5 g6 b a) M' f'):(∀p∈BX 0#5,p∈M')/\DY g g6 m (f (0,0)) (f' (0,0)):=by
 have al:∀p∈BX 0#5,p∈M':=r'.all (rk:=λp=>101-f p) λp q s=>by obtain⟨a,b⟩:=Dj h0 s;have:=(r.low p (all p b) q s).2;have:=r.few p (all p b);lia
 have ev:(0,0)∈BX 0#5:=Ez.mpr (.inl rfl);refine⟨al,⟨⟨λp=>if p∈M then f p else 0,λp q s=>?_,101,λp=>?_⟩,λq k hk hq=>?_,λq k hk hq=>?_⟩⟩
 ·obtain⟨a,b⟩:=Dj h0 s;show (if p∈M then f p else 0)<(if q∈M then f q else 0);rw[qF (all p a),qF (all q b)];exact (r.low q (all q b) p s).2
 ·show (if p∈M then f p else 0)<101
  by_cases c:p∈M
  ·rw[qF c];have:=r.few p c;lia
  ·rw[qE c]
   decide
 ·have:=r.way (q:=q) (k:=k) (by rw[hk];exact all _ ev) hq;rw[hk]at this;exact this
 ·have:=r'.way (q:=λi=>q (k-i)) (k:=k) (by rw[dJ,hk];exact al _ ev) λi hi=>by
   have z:=hq (k-(i+1)) 0#1;rw[show k-(i+1)+1=k-i by lia]at z;exact z
  rw[dJ,hk]at this;exact this
theorem BU.congr{g:Int}(hg:2<=g){m:Nat}(hl:(g6.length:Int)=g^m){lo0:Int}{tab0:qW}{m0:Nat}(hl0:(tab0.length:Int)=g^m0)(al:Ba g lo g6 m lo0 tab0 m0)(fw:BU g lo0 tab0 m0 lf tf mf):BU g lo g6 m lf tf mf:=by
 rcases fw with⟨low0,M0,n0,rfl,z⟩;obtain⟨low,M,n⟩:=LJ g lo g6 m;obtain⟨rfl,rfl,e⟩:=Mc hg hl hl0 al n n0;refine⟨_,_,n,rfl,?_⟩;rcases z with⟨rfl,rfl,rfl⟩|⟨h2,rfl,rfl⟩
 ·exact .inl ⟨rfl,rfl,by rw[e]⟩
 ·exact .inr ⟨h2,rfl,e.symm⟩
theorem BU.again{g:Int}(hg:2<=g){m:Nat}(hl:(g6.length:Int)=g^m)(fw:BU g lo g6 m lf tf mf):BU g lf tf mf lf tf mf:=by obtain⟨al,tfl⟩:=fw.alike hg hl;exact BU.congr hg tfl hl al fw
theorem Uh(x:Int->Int){k m n:Nat}(h:k+m<=n):BL x (lo+(k:Int)) m=((BL x lo n).drop k).take m:=by rw[<-Rv x (lo:=lo+(k:Int)) (low:=lo) (M:=n) 0#1 0#1,show lo+(k:Int)-lo=(k:Int) by lia,Io (by rw[A6];exact h)]
end L2
namespace L2
open PySem PySem.Spec PyProof.Rows
variable{D:HU}{E:qQ->qS->Prop}{H H' H1 H2:Hp}{a it:qR}{an od:Option qR}{body:List Stmt}{gu doc oc:qQ}{cl:List (Str×qR)}{es:List Expr}{fd:FuncData}{name qual:Str}{o:HO}{osl:Array (Option qQ)}{params:Arguments}{ad:List (qR×Obj)}{pos:Pos}{ps:List Str}{scope:Scope}{sp:Sp}{st:Stmt}{ta:TA}{tg:Expr}{us vs:List qQ}{α β:Type}{σ:St}
def JV(mg:Str->Option qQ)(h:Heap):Prop:=∃bm ob,mg "__builtins__"=some (.ref bm)/\bm≠builtinsNs/\h.get? bm=some ob/\ob.cls=.type "module"/\ob.dict=some builtinsNs/\ob.data=.plain
def VW(ts:List qR)(H:Hp):Prop:=(∀b,H b=none\/(∃o xs,H b=some (.frz o (.lst xs)))\/(b∈ts/\H b=some (.tbl #[])))/\∀b∈ts,H b=some (.tbl #[])
def Sw(K:qV)(cts:List (qR×qR)):Prop:=∀q∈cts,PySem.W.codeHdIn K q.1 q.2=true/\K.lookup q.2=none
theorem Qp{P:qT}{w:qU}{K:qV}{mg mb:Str->Option qQ}{CX:Tc}{k:Nat}{fa:qR}{fd:FuncData}{x:Str}{sp:Sp}{s₁:qS}{ns:qW}{cts:List (qR×qR)}
  (KX:K.In s₁.heap) (hns:s₁.heap.Ns mainGlobals mg) (hb:s₁.heap.Ns builtinsNs mb) (hbb:∀x:Str,x≠"__name__"->mb x=bootBuiltins x) (hlim:s₁.heap.NoLimit) (hbm:JV mg s₁.heap) (hg:s₁.gens=#[])
  (hT:Sw K cts) (hT2:∀q∈cts,s₁.heap.get? q.2=some (PySem.W.tabObj #[]))
  (ha:s₁.heap.get? a=some {cls:=.type "list",data:=.seq vs.toArray}) (hi:IntsAre vs ns) (hl:ns.length<=sizeLine) (hr:Br k callerA)
  (F:∀base:Heap,K.In base->base.Ns mainGlobals mg->JV mg base->FW P w K mg base CX k fa fd [x] sp) (hbind:∀(s:qS) (u:qQ),BindsTo s fd ⟨[u],[]⟩ [(x,u)])
  (hsp:∀H:Hp,VW (cts.map (·.2)) H->Ae K H a 1#3->sp [.ref a] H (λv _=>v=.bl true) λ_ _ _=>False)
  (hCX:∀H e s',CX [] H s₁ (λ_ _ _=>False) e s'->False):
  codeAny (model P w) callerA (.call (.ref fa) ⟨[.ref a],[]⟩) (λr s'=>r=.ok (.ret (.bool true))/\OldK s₁.heap s'.heap/\s'.os=s₁.os/\AllBare s'.gens) s₁:=by
 have rv:=KL hi;have lenV:=hi.length
 have atT:∀b∈cts.map (·.2),s₁.heap.get? b=some (PySem.W.tabObj #[])/\K.lookup b=none/\isCodeTable s₁.heap b:=λb hb=>by obtain⟨q,hq,rfl⟩:=bg.mp hb;exact⟨hT2 q hq,(hT q hq).2,((PySem.W.codeHd_of_K KX (hT q hq).1).tab (hT2 q hq)).isCodeTable⟩
 have aT:a∉cts.map (·.2):=λz=>by have e:=(atT a z).1;rw[ha]at e;cases e
 have core:∀H:Hp,VW (cts.map (·.2)) H->Ae K H a 1#3->EC P w H s₁.heap->(∀b,H b≠none->b=a\/b∈cts.map (·.2))->(H a≠none->K.lookup a=none) ->
   codeAny (model P w) callerA (.call (.ref fa) ⟨[.ref a],[]⟩) (λr s'=>r=.ok (.ret (.bool true))/\OldK s₁.heap s'.heap/\s'.os=s₁.os/\AllBare s'.gens) s₁:=by
  intro H hO hS hok hA hK;have base_of:∀{b:qR} {o:Obj},s₁.heap.get? b=some o->H b=none->(Ju s₁.heap H).get? b=some o:=λe n=>Q7 e n
  have noA:∀{b:qR} {o:Obj},s₁.heap.get? b=some o->(∀xs n,o.data≠.seq xs n)->(∀xs,o.data≠.fields xs)->H b=none:=λ{b o} e d d2=>by
   cases q:H b with
   |none=>rfl
   |some u =>
    rcases hA b (by rw[q];simp) with e'|e'
    ·subst e';rw[ha]at e;cases e;exact (d _ _ rfl).elim
    ·rw[(atT b e').1]at e;cases e;exact (d2 _ rfl).elim
  have nsK:∀{b:qR} {m:Str->Option qQ},s₁.heap.Ns b m->(Ju s₁.heap H).Ns b m:=λ{b m} ⟨o,es,ep,e,d,r⟩=>⟨o,es,ep,base_of e (noA e (λ_ _ z=>by rw[d]at z;cases z) (λ_ z=>by rw[d]at z;cases z)),d,r⟩
  have hKb:K.In (Ju s₁.heap H):=λb o e=>base_of (KX b o e) (by
   cases q:H b with
   |none=>rfl
   |some u =>
    rcases hA b (by rw[q];simp) with e'|e'
    ·subst e';rw[hK (by rw[q];simp)]at e;cases e
    ·rw[(atT b e').2.1]at e;cases e)
  have hM:Zj K mg (Ju s₁.heap H):=⟨hKb,nsK hns,⟨mb,nsK hb,hbb⟩,let ⟨mc,h1,h2⟩:=hlim;⟨mc,nsK h1,h2⟩⟩
  have hB:JV mg (Ju s₁.heap H):=by rcases hbm with⟨bm,ob,b1,b2,b3,b4,b5,b6⟩;exact⟨bm,ob,b1,b2,base_of b3 (noA b3 (λ_ _ z=>by rw[b6]at z;cases z) (λ_ z=>by rw[b6]at z;cases z)),b4,b5,b6⟩
  have e0:NV P w K mg (Ju s₁.heap H) callerA [] s₁ H:=⟨rfl,hM,λb o e=>Tj e,Nat.le_of_eq (P2 _ _),trivial,λb hb=>qG (show b∈([]:List qR) from hb) 1#4,hok,.of_eq hg⟩;refine codeAny_mono ((F _ hKb (nsK hns) hB).run callerA [] s₁ H ⟨[.ref a],[]⟩ [.ref a] [.ref a] _ _ hr e0 (hbind s₁ (.ref a)) (.cons rfl .nil) (hsp H hO hS)) λr s' h=>?_;cases r with
  |error e=>exact (hCX H e s' h).elim
  |ok fl =>
   cases fl with
   |next=>exact False.elim h
   |brk=>exact False.elim h
   |cont=>exact False.elim h
   |ret u =>
    rcases h with⟨v,H',os,bare,un,hok',r',q⟩;have q':v=.bl true:=q;subst q';obtain rfl:u=Value.bool true:=r'
    have keep:∀b o,s₁.heap.get? b=some o->b∉cts.map (·.2)->s'.heap.get? b=some o:=λb o e nb=>by
     cases q:H b with
     |none=>exact un.keep b o e q (by intro z;exact qG (show b∈([]:List qR) from z) 1#4) 1#4
     |some u =>
      rcases hO.1 b with z|⟨ob,xs,z⟩|⟨z,_⟩
      ·rw[q]at z;cases z
      ·have z2:=un.frzs b ob _ z;obtain⟨e1,_⟩:=hok b _ z;obtain⟨e2,_⟩:=hok' b _ z2;rw[e]at e1;cases e1;exact e2
      ·exact qG z nb
    have tabs:∀b∈cts.map (·.2),∃more,s'.heap.get? b=some {cls:=.none,data:=.fields ((#[]:Array qQ)++more)}:=λb hb=>by obtain⟨more,z⟩:=un.tbls b #[] (hO.2 b hb);exact⟨more,hok' b _ z⟩
    refine⟨rfl,⟨λb o e=>?_,λb o e=>?_⟩,os,bare⟩
    ·by_cases hb:b∈cts.map (·.2)
     ·obtain⟨more,z⟩:=tabs b hb;have e1:=(atT b hb).1;rw[e]at e1;cases e1;exact .inr (.inl ⟨(atT b hb).2.2,rfl,#[],more,rfl,z⟩)
     ·exact .inl (keep b o e hb)
    ·by_cases hb:b∈cts.map (·.2)
     ·obtain⟨more,z⟩:=tabs b hb;exact⟨_,z⟩
     ·exact⟨o,keep b o e hb⟩
 cases hk:K.lookup a with
 |some o =>
  have e:=KX a o hk;rw[ha]at e;cases e;refine core (λb=>if b∈cts.map (·.2) then some (.tbl #[]) else none) ⟨λb=>?_,λb hb=>qF hb⟩ (.inr ⟨_,vs.toArray,_,hk,rfl,rfl,rfl,by rw[List.size_toArray,lenV];exact hl,by simpa using rv⟩) (λb u z=>?_) (λb z=>?_) λz=>qG (qE aT) z
  ·by_cases hb:b∈cts.map (·.2)
   ·exact .inr (.inr ⟨hb,qF hb⟩)
   ·exact .inl (qE hb)
  ·by_cases hb:b∈cts.map (·.2)
   ·have z':=(qF hb).symm.trans z;cases z';exact (atT b hb).1
   ·have z':=(qE hb).symm.trans z;cases z'
  ·by_cases hb:b∈cts.map (·.2)
   ·exact .inr hb
   ·exact qG (qE hb) z
 |none =>
  have at1:∀b,b∉cts.map (·.2)->b=a->(if b∈cts.map (·.2) then some (HO.tbl #[]) else if b=a then some (.frz {cls:=.type "list",data:=.seq vs.toArray} (.lst 1#3)) else none)=some (.frz {cls:=.type "list",data:=.seq vs.toArray} (.lst 1#3)):=λb h1 h2=>by rw[qE h1,qF h2]
  have at2:∀b,b∉cts.map (·.2)->b≠a->(if b∈cts.map (·.2) then some (HO.tbl #[]) else if b=a then some (.frz {cls:=.type "list",data:=.seq vs.toArray} (.lst 1#3)) else none)=none:=λb h1 h2=>by rw[qE h1,qE h2]
  refine core (λb=>if b∈cts.map (·.2) then some (.tbl #[]) else if b=a then some (.frz {cls:=.type "list",data:=.seq vs.toArray} (.lst 1#3)) else none) ⟨λb=>?_,λb hb=>qF hb⟩ (.inl (.inr ⟨{cls:=.type "list",data:=.seq vs.toArray},at1 a aT rfl⟩)) (λb u z=>?_) (λb z=>?_) λ_=>hk
  ·by_cases hb:b∈cts.map (·.2)
   ·exact .inr (.inr ⟨hb,qF hb⟩)
   ·by_cases hba:b=a
    ·exact .inr (.inl ⟨_,_,at1 b hb hba⟩)
    ·exact .inl (at2 b hb hba)
  ·by_cases hb:b∈cts.map (·.2)
   ·have z':=(qF hb).symm.trans z;cases z';exact (atT b hb).1
   ·by_cases hba:b=a
    ·have z':=(at1 b hb hba).symm.trans z;cases z';subst hba;exact⟨ha,by rw[bG];exact hl,vs,_,rv,ha⟩
    ·have z':=(at2 b hb hba).symm.trans z;cases z'
  ·by_cases hb:b∈cts.map (·.2)
   ·exact .inr hb
   ·by_cases hba:b=a
    ·exact .inl hba
    ·exact qG (at2 b hb hba) z
abbrev DA:HO:=.ext λ_=>True
theorem JW{P:qT}{w:qU}{h:Heap}{o:Obj}(e:h.get? a=some o):Ax P w H h a (.frz o DA):=⟨e,trivial,⟨o,e⟩,λ_ _ _ _=>trivial⟩
def Sx(oc:Obj)(q:Str):Prop:=∃vs t,oc.data=.fields vs/\vs[1]?=some (.str q t)
def C3(pos:Pos)(q:Str)(P:qR)(H:Hp):Prop:=∃ps:Array qQ,H P=some (.tbl ps)/\TriplesOk ps.toList /\
 ∀cv,codeAmong pos ps.toList=some cv->∃c' oc,cv=.ref c'/\H c'=some (.frz oc DA)/\Sx oc q
theorem C3.same{q:Str}{P:qR}(t:C3 pos q P H)(e:AH H H'):C3 pos q P H':=by obtain⟨ps,h1,h2,h3⟩:=t;refine⟨ps,e _ _ h1,h2,λcv hc=>?_⟩;obtain⟨c',oc,h4,h5,h6⟩:=h3 cv hc;exact⟨c',oc,h4,e _ _ h5,h6⟩
theorem C3.start{q:Str}{P:qR}(h:H P=some (.tbl #[])):C3 pos q P H:=⟨#[],h,trivial,λ_ z=>by cases z⟩
def Dk(P:qR)(H H':Hp):Prop:=∀b o,b≠P->H b=some o->H' b=some o
theorem AH.t{P:qR}(e:AH H H'):Dk P H H':=λb o _ h=>e b o h
theorem Dk.trans{P:qR}(a:Dk P H H1)(b:Dk P H1 H2):Dk P H H2:=λc o n h=>b c o n (a c o n h)
abbrev Ui(q:Str)(params:Arguments)(body:Expr)(scope:Scope)(clos:List (Str×qR))(pm:qQ)(c':qR)(ctv:qQ):Obj:=PySem.W.kla_obj "<lambda>" q params body scope clos pm c' ctv
def VX(q:Str)(params:Arguments)(body:Expr)(scope:Scope)(clos:List (Str×qR))(f:qR)(H:Hp):Prop:=
 ∃pm c' ctv oc,H f=some (.frz (Ui q params body scope clos pm c' ctv) DA)/\H c'=some (.frz oc DA)/\Sx oc q
def aD(P:qR)(pos:Pos)(q:Str)(params:Arguments)(body:Expr)(scope:Scope)(clos:List (Str×qR)):TE:=λ_ H Q=>C3 pos q P H /\
 ∀f H',Dk P H H'->C3 pos q P H'->H f=none->VX q params body scope clos f H'->Q (.ref f) H'
theorem WR{X:Cx}{c P:qR}{body:Expr}{clos:List (Str×qR)}(hB:JV X.mg X.base)(hcode:X.env.code=.ref c)(hc:PySem.W.codeHdIn X.K c P=true)
  (hcl:closureFor scope X.env=pure clos) (hdef:defaultsOf params X.env=([],[])):PE X (.Lambda params body scope pos) (aD P pos (X.env.qual++"<lambda>") params body scope clos):=by
 intro ad s σ H Q I h;rcases h with⟨⟨ps,hP,ht,hh⟩,hq⟩;refine PySem.W.kla_eval hdef ?_;have hPh:s.heap.get? P=some (PySem.W.tabObj ps):=I.hok P _ hP;have hPl:P<s.heap.objs.size:=bP hPh;have C:PySem.W.CodeHd s.heap c P:=PySem.W.codeHd_of_K I.kIn hc;have hgs:s.heap.Ns mainGlobals X.mg:=I.ok.mod.glob.keeps I.bk;rcases hB with⟨bm,ob,b1,b2,b3,b4,b5,b6⟩;have b3':=I.bk _ _ b3
 have hgP:mainGlobals≠P:=λq=>by rcases hgs with⟨o,es,ep,e,hd,_⟩;rw[q,hPh]at e;cases e;cases hd
 have hbP:bm≠P:=λq=>by rw[q,hPh]at b3';cases b3';cases b4
 have hbG:bm≠mainGlobals:=λq=>by rcases hgs with⟨o,es,ep,e,hd,_⟩;rw[q,e]at b3';cases b3';rw[hd]at b6;cases b6
 have BA:s.heap.BuiltinsAt X.mg P:=⟨bm,ob,b1,b2,hbG,hbP,b3',b4,b5,b6⟩;have nP:∀b,H b=none->b≠P:=λb e z=>by rw[z,hP]at e;cases e
 have fresh:∀b,s.heap.objs.size<=b->H b=none:=λb hb=>I.hok.fresh hb
 cases hca:codeAmong pos ps.toList with
 |none =>
  refine PySem.W.kla_makeFunction (mg:=X.mg) hcl I.ok.glob hgs hcode C hPh ht hca hgP BA λc' ctv h' tk hx hge hlt hrec htb=>?_;rcases hrec with⟨c₂,oc,vs,t,e2,hoc,hd,hv⟩;cases e2;have hsz:s.heap.objs.size<=h'.objs.size:=cK hge (dA hlt);obtain⟨f,hf⟩:∃f,f=h'.objs.size:=⟨_,rfl⟩;obtain⟨fo,hfo⟩:∃fo,fo=Ui (X.env.qual++"<lambda>") params body scope clos ((X.mg "__name__").getD .none) c' ctv:=⟨_,rfl⟩;obtain⟨H',hH'⟩:∃H',H'=Ad (Ad (Ad H P (.tbl (ps++#[rawInt pos.line,rawInt pos.col,.ref c']))) c' (.frz oc DA)) f (.frz fo DA):=⟨_,rfl⟩;have cf:c'≠f:=λz=>by rw[z,hf]at hlt;exact qG hlt (bu _)
  have Pc:P≠c':=λz=>qG (bR hPl hge) (by rw[<-z];exact bu _)
  have Pf:P≠f:=λz=>qG (bR hPl hsz) (by rw[<-hf,<-z];exact bu _)
  have nf:H f=none:=fresh f (by rw[hf];exact hsz);have nc:H c'=none:=fresh c' hge;have oth:∀b,b≠P->b≠c'->b≠f->H' b=H b:=λb h1 h2 h3=>by rw[hH',AK h3,AK h2,AK h1]
  have atP:H' P=some (.tbl (ps++#[rawInt pos.line,rawInt pos.col,.ref c'])):=by rw[hH',AK Pf,AK Pc];exact AE
  have atc:H' c'=some (.frz oc DA):=by rw[hH',AK cf];exact AE
  have atf:H' f=some (.frz fo DA):=by rw[hH'];exact AE
  have keep:∀b o,b≠P->s.heap.get? b=some o->(h'.push fo).get? b=some o:=λb o hb e=>bK _ (hx b o hb e)
  have trk:∀b u,H b=some u->b≠c'/\b≠f:=λb u e=>⟨λz=>(by rw[z,nc]at e;cases e),λz=>(by rw[z,nf]at e;cases e)⟩
  have sm:Dk P H H':=λb o hb e=>by rw[oth b hb (trk b o e).1 (trk b o e).2];exact e
  have un:Un (Ed X.stack) [] H H' s.heap (h'.push fo):=by
   refine⟨λb o e n _ _=>keep b o (nP b n) e,λb o e n _ _=>⟨o.slots,keep b o (nP b n) e⟩,λb o e n _=>?_,λb o e _=>?_,λb xs e=>?_,λb o u e=>?_,λb qs e=>?_⟩
   ·have hl:=bP e;rw[oth b (nP b n) (λz=>qG (bR hl hge) (by rw[z];exact bu _)) (λz=>qG (bR hl hsz) (by rw[z,hf];exact bu _))];exact n
   ·by_cases hb:b=P
    ·rw[hb];exact⟨_,bK _ htb⟩
    ·exact⟨o,keep b o hb e⟩
   ·exact sm b _ (λz=>by rw[z,hP]at e;cases e) e
   ·exact sm b _ (λz=>by rw[z,hP]at e;cases e) e
   ·by_cases hb:b=P
    ·subst hb;rw[hP]at e;cases e;exact⟨_,atP⟩
    ·exact⟨#[],by rw[Array.append_empty];exact sm b _ hb e⟩
  have hok:EC X.prog X.w H' (h'.push fo):=λb u e=>by
   by_cases hbf:b=f
   ·subst hbf;rw[atf]at e;cases e;exact JW (by rw[hf];exact ba _ (by rw[hfo];rfl))
   ·by_cases hbc:b=c'
    ·subst hbc;rw[atc]at e;cases e;exact JW (bK _ hoc)
    ·by_cases hb:b=P
     ·subst hb;rw[atP]at e;cases e;exact bK _ htb
     ·rw[oth b hb hbc hbf]at e;refine (I.hok b u e).stay (λd o hd q=>keep d o ?_ q) (λd q=>?_) λd xs q=>?_
      ·rcases hd with z|z
       ·rw[z];exact hb
       ·intro y;rw[y,hP]at z;cases z
      ·exact sm d _ (λy=>by rw[y,hP]at q;cases q) q
      ·exact sm d _ (λy=>by rw[y,hP]at q;cases q) q
  have I':AT X ad σ H' {s with heap:=h'.push fo,toks:=tk}:=I.call (g':=s.gens) (d':=s.drawn) (ch:=[]) un hok I.bare (λb z=>qG z 1#4);refine⟨.ref f,H',?_,by rw[hf];rfl,hq f H' sm ⟨_,atP,?_,λcv hcv=>?_⟩ nf ⟨(X.mg "__name__").getD .none,c',ctv,oc,by rw[atf,hfo],atc,vs,t,hd,hv⟩⟩
  ·subst hfo;exact I'
  ·rw[cZ];exact TriplesOk_snoc _ _ _ _ ht
  ·rw[cZ]at hcv;have e:=codeAmong_snoc (c:=.ref c') ps.toList ht hca;have hcv':codeAmong pos (ps.toList++[rawInt pos.line,rawInt pos.col,.ref c'])=some cv:=hcv;rw[e]at hcv';cases hcv';exact⟨c',oc,rfl,atc,vs,t,hd,hv⟩
 |some cv =>
  rcases hh cv hca with⟨c',oc,rfl,hc',co⟩;refine PySem.W.kla_makeFunctionHit (mg:=X.mg) hcl I.ok.glob hgs hcode C hPh ht hca BA λctv h' tk hk hsz=>?_;obtain⟨f,hf⟩:∃f,f=h'.objs.size:=⟨_,rfl⟩;obtain⟨fo,hfo⟩:∃fo,fo=Ui (X.env.qual++"<lambda>") params body scope clos ((X.mg "__name__").getD .none) c' ctv:=⟨_,rfl⟩;have nf:H f=none:=fresh f (by rw[hf];exact hsz);have keep:∀b o,s.heap.get? b=some o->(h'.push fo).get? b=some o:=λb o e=>bK _ (hk b o e)
  have sm:AH H (Ad H f (.frz fo DA)):=AH.new nf _;have hok:EC X.prog X.w (Ad H f (.frz fo DA)) (h'.push fo):=I.hok.laid keep (by rw[hf];exact hsz) (JW (by rw[hf];exact ba _ (by rw[hfo];rfl)))
  have un:Un (Ed X.stack) [] H (Ad H f (.frz fo DA)) s.heap (h'.push fo):=by refine⟨λb o e n _ _=>keep b o e,λb o e n _ _=>⟨o.slots,keep b o e⟩,λb o e n _=>?_,λb o e _=>⟨o,keep b o e⟩,λb xs e=>sm _ _ e,λb o u e=>sm _ _ e,λb qs e=>⟨#[],by rw[Array.append_empty];exact sm _ _ e⟩⟩;rw[AK (λz=>qG (bR (bP e) hsz) (by rw[z,hf];exact bu _))];exact n
  have I':AT X ad σ (Ad H f (.frz fo DA)) {s with heap:=h'.push fo,toks:=tk}:=I.call (g':=s.gens) (d':=s.drawn) (ch:=[]) un hok I.bare (λb z=>qG z 1#4);refine⟨.ref f,Ad H f (.frz fo DA),?_,by rw[hf];rfl,hq f _ sm.t (C3.same ⟨ps,hP,ht,hh⟩ sm) nf ⟨(X.mg "__name__").getD .none,c',ctv,oc,by rw[AE,hfo],sm _ _ hc',co⟩⟩;subst hfo;exact I'
abbrev Bi(cl:List (Str×qR)):List qR:=cl.map (·.2)
noncomputable def Kg(cl:List (Str×qR))(H:Hp):Hp:=λb=>if b∈Bi cl then none else H b
noncomputable def YJ(cl:List (Str×qR))(H H':Hp):Hp:=λb=>if b∈Bi cl then H b else H' b
def Ds(cl:List (Str×qR))(vs:List V)(H:Hp):Prop:=Paired (λ(p:Str×qR) (v:V)=>∃u o,A5 v u/\o.data=.cell (some u)/\H p.2=some (.frz o DA)) cl vs
theorem CB{b:qR}(h:b∉Bi cl):Kg cl H b=H b:=qE h
theorem JX{b:qR}(h:b∈Bi cl):Kg cl H b=none:=qF h
theorem Dl{b:qR}(h:b∉Bi cl):YJ cl H H' b=H' b:=qE h
theorem OV{b:qR}(h:b∈Bi cl):YJ cl H H' b=H b:=qF h
theorem Paired.left{F:α->β->Prop}{l₁:List α}{l₂:List β}(p:Paired F l₁ l₂):∀a∈l₁,∃b,F a b:=by
 induction p with
 |nil=>intro _ h;cases h
 |cons r _ ih =>
  intro a h;rcases br.mp h with rfl|h
  ·exact⟨_,r⟩
  ·exact ih a h
theorem Paired.at{F:α->β->Prop}{l₁:List α}{l₂:List β}(p:Paired F l₁ l₂):∀{i:Nat} {b:β},l₂[i]?=some b->∃a,l₁[i]?=some a/\F a b:=by
 induction p with
 |nil=>intro _ _ h;cases h
 |cons r _ ih =>
  intro i b h;cases i with
  |zero=>cases h;exact⟨_,rfl,r⟩
  |succ i=>exact ih h
theorem Paired.lens{F:α->β->Prop}{l₁:List α}{l₂:List β}(p:Paired F l₁ l₂):l₁.length=l₂.length:=by
 induction p with
 |nil=>rfl
 |cons _ _ ih=>exact qP Nat.succ ih
section
variable{vs:List V}
theorem Ds.at(c:Ds cl vs H){b:qR}(h:b∈Bi cl):∃u o,o.data=.cell (some u)/\H b=some (.frz o DA):=by obtain⟨p,hp,rfl⟩:=bg.mp h;obtain⟨v,u,o,_,h1,h2⟩:=Paired.left c p hp;exact⟨u,o,h1,h2⟩
theorem Ds.out(c:Ds cl vs H){b:qR}{u:HO}(h:H b=some u)(n:∀o,u≠.frz o DA):b∉Bi cl:=λz=>by obtain⟨_,o,_,e⟩:=c.at z;rw[h]at e;exact n o (Option.some.inj e)
theorem Sy(h0:∀b∈Bi cl,H b=none)(e:AH H H'):AH H (Kg cl H'):=λb o q=>by rw[CB (λz=>by rw[h0 b z]at q;cases q)];exact e b o q
theorem DS{b:qR}(h:H b=none):Kg cl H b=none:=by
 unfold Kg;split
 ·rfl
 ·exact h
theorem Sz(e:AH (Kg cl H) H'):AH H (YJ cl H H'):=λb o q=>by
 by_cases hb:b∈Bi cl
 ·rw[OV hb];exact q
 ·rw[Dl hb];exact e b o (by rw[CB hb];exact q)
theorem EC.unC{P:qT}{w:qU}{h:Heap}(x:EC P w H h)(n:∀b∈Bi cl,∀u,H b=some u->∃o,u=.frz o DA):EC P w (Kg cl H) h:=λb u e=>by
 have hb:b∉Bi cl:=λz=>by rw[JX z]at e;cases e
 rw[CB hb]at e;refine (x b u e).stay (λ_ _ _ q=>q) (λc q=>?_) λc xs q=>?_
 ·rw[CB (λz=>by obtain⟨o,y⟩:=n c z _ q;cases y)];exact q
 ·rw[CB (λz=>by obtain⟨o,y⟩:=n c z _ q;cases y)];exact q
end
def At(σ:St)(is:List Nat)(vs:List V):Prop:=Paired (λ(i:Nat) (v:V)=>σ[i]?=some (some v)) is vs
theorem Dt(cl:List (Str×qR)):∀(names:List (Str×NameKind)) (n:Nat) (gt:List (Str×qR)),cellsFrom n names (gt++cl)=cellsFrom n names gt++cl
 |[],_,_=>rfl
 | (name,kind)::r,n,gt=>by
  unfold cellsFrom;split
  ·exact Dt cl r (n+1) ((name,n)::gt)
  ·exact Dt cl r n gt
theorem Cp{x:Str}:∀{l r:List (Str×α)},(l++r).lookup x=(l.lookup x).or (r.lookup x)
 |[],r=>by simp
 | (k,v)::l,r=>by
  rw[gQ,fA,fA];split
  ·rfl
  ·exact Cp
theorem JY{f g:α->PUnit->Sem (ForInStep PUnit)}:∀{l:List α},(∀x∈l,f x ⟨⟩=g x ⟨⟩)->forIn l (⟨⟩:PUnit) f=forIn l (⟨⟩:PUnit) g
 |[],_=>by rw[List.forIn_nil,List.forIn_nil]
 |x::r,h=>by
  rw[List.forIn_cons,List.forIn_cons,h x bo];refine bind_congr λy=>?_;cases y with
  |done b=>rfl
  |yield b=>exact JY λz hz=>h z (bi _ hz)
theorem OW{e1 e2:Env}{x:Str}{v:qQ}(h1:e1.scope=e2.scope)(h2:e1.locals=e2.locals)(h3:e1.globals=e2.globals)(h4:e1.cells.lookup x=e2.cells.lookup x)(hk:e1.scope.kind=.function)(hx:e1.kindOf x=some .local\/e1.kindOf x=some .cell):storeName e1 x v=storeName e2 x v:=by
 have k2:e2.kindOf x=e1.kindOf x:=by unfold Env.kindOf;rw[h1]
 have c2:cellOf e1 x=cellOf e2 x:=by unfold cellOf;rw[h4]
 unfold storeName;rw[k2];have hk2:e2.scope.kind=.function:=by rw[<-h1];exact hk
 rcases hx with hx|hx<;>rw[hx]<;>simp[h1,h2,h3,c2,hk2]
theorem J1{M:Model}{A:Around}{s:qS}{globals:qR}{binds:List (Str×qQ)}{func:Option qR}{code:qQ}{builtins:qR}{Q:Env->qS->Prop}
  (hk:scope.kind=.function)
  (hkind:∀x∈binds,scope.names.lookup x.1=some .local\/(scope.names.lookup x.1=some .cell/\((cellsFrom 1#5 scope.names []).lookup x.1).isSome=true))
  (hout:∀x∈binds,∀c,(cellsFrom 1#5 scope.names []).lookup x.1=none->cl.lookup x.1≠some c)
  (hQ:∀s',InCallC s s.heap.objs.size (bindL (λx=>scope.names.lookup x) binds λ_=>none) 1#2 (bindC (λx=>scope.names.lookup x) binds λ_=>none) s' ->
   Q (newEnv scope s.heap.objs.size globals (cellsFrom 1#5 scope.names []++cl) qual func code none builtins) s'):
  wpAny M A (newFunctionEnv scope globals cl binds qual func code none builtins) Q E s:=by
 simp only[newFunctionEnv,Option.isSome_none,Bool.false_eq_true,if_false];refine qC (wpAny_alloc ?_);refine qC (wpAny_layCells _ (λname kind cells=>by cases hkc:kind==NameKind.cell<;>simp[hkc]) _ _ _ _ ?_);have ok:=cellsFrom_ok scope.names (s.heap.push {cls:=.type "frame",data:=.dict #[]}) 1#5 [] ⟨λ_ _ hm=>(nomatch hm),List.Pairwise.nil⟩ (by rw[dM];exact bL _);rw[dM]at ok;rw[show ({s with heap:=s.heap.push {cls:=.type "frame",data:=.dict #[]}}:qS).heap.objs.size=s.heap.objs.size+1 from dM ..];have ca:=Dt cl scope.names 1#5 [];rw[gh]at ca;rw[ca]
 have env2:∀x∈binds,(cellsFrom 1#5 scope.names []++cl).lookup x.1=(cellsFrom 1#5 scope.names []).lookup x.1:=λx hx=>by
  rw[Cp];cases e:(cellsFrom 1#5 scope.names []).lookup x.1 with
  |some c=>rfl
  |none =>
   cases e2:cl.lookup x.1 with
   |none=>rfl
   |some c=>exact qG e2 (hout x hx c e)
 refine qC ?_
 rw[JY (g:=λ(x:Str×qQ) _=>(do storeName (newEnv scope s.heap.objs.size globals 1#2 qual func code none builtins) x.1 x.2;pure (.yield ⟨⟩):Sem (ForInStep PUnit))) (λx hx=>by
  exact qP (λz:Sem Unit=>(do z;pure (ForInStep.yield PUnit.unit):Sem (ForInStep PUnit))) (OW (e1:=newEnv scope s.heap.objs.size globals (cellsFrom 1#5 scope.names []++cl) qual func code none builtins) (e2:=newEnv scope s.heap.objs.size globals 1#2 qual func code none builtins) rfl rfl rfl (env2 x hx) hk (by
   rcases hkind x hx with z|z
   ·exact .inl z
   ·exact .inr z.1)))]
 exact wpAny_bindParams (s₀:=s) (env:=newEnv scope s.heap.objs.size globals 1#2 qual func code none builtins)
  _ (λ_ _ _=>rfl) hk binds (λ_=>none) (λ_=>none) _ _
  ⟨⟨⟨_,_,rfl⟩,(Heap.Ns.new s.heap (.type "frame")).keeps (pushCells_keeps _ _),λb o e=>pushCells_keeps _ _ b o (bK _ e),bL _⟩,
   λn c hc=>(ok.empty n c (mem_of_lookup hc)).1,ok.apart,λn c hm=>(ok.empty n c hm).2⟩
  hkind λs' x=>qD (hQ s' x)
structure M9(ps fns:List Str)(sc:Scope):Prop where
 kind:sc.kind=.function
 co:sc.isCoroutine=false
 gen:sc.isGenerator=false
 nd:(ps++fns).Nodup
 par:∀x∈ps,sc.names.lookup x=some .local\/sc.names.lookup x=some .cell
 fre:∀x∈fns,sc.names.lookup x=some .free
 all:∀y∈sc.names,y.2=.free->y.1∈fns
 own:∀y∈sc.names,y.2=.cell->y.1∉fns
noncomputable def Zn(P:qT)(w:qU)(K:qV)(mg:Str->Option qQ)(base:Heap)(N:List Str)(qual:Str)(scope:Scope)(f:qR)(cd:qQ)(cl:List (Str×qR))(A:Around)(outer:List Env)(s:qS)(H:Hp):Cx where
 prog:=P
 w:=w
 K:=K
 mg:=mg
 base:=base
 A:=A.deeper (PySem.W.envX qual scope s.heap.objs.size f cd (cellsFrom 1#5 scope.names []++cl))
 N:=N
 s₀:=s
 H₀:=Kg cl H
 env:=PySem.W.envX qual scope s.heap.objs.size f cd (cellsFrom 1#5 scope.names []++cl)
 outer:=outer
 stack:=PySem.W.envX qual scope s.heap.objs.size f cd (cellsFrom 1#5 scope.names []++cl)::outer
 ex:=[]
 calm:=true
 fn:=λx=>((cellsFrom 1#5 scope.names []).lookup x).isSome
 pn:=[]
 xe:=λ_ _=>False
theorem Gv{x:Str}{c:qR}:∀{names:List (Str×NameKind)} {n:Nat} {gt:List (Str×qR)},(cellsFrom n names gt).lookup x=some c->(∃k,(x,k)∈names/\k=.cell)\/gt.lookup x=some c
 |[],_,_,h=>.inr h
 | (name,kind)::r,n,gt,h=>by
  unfold cellsFrom at h
  split at h
  ·rename_i hk
   rcases Gv h with⟨k,h1,h2⟩|h
   ·exact .inl ⟨k,bi _ h1,h2⟩
   ·rw[fA]at h
    split at h
    ·rename_i hx
     exact .inl ⟨kind,by rw[beq_iff_eq.mp hx];exact bo,beq_iff_eq.mp hk⟩
    ·exact .inr h
  ·rcases Gv h with⟨k,h1,h2⟩|h
   ·exact .inl ⟨k,bi _ h1,h2⟩
   ·exact .inr h
theorem C0{x:Str}{c:α}:∀{l:List (Str×α)},(l.map (·.1)).Nodup->(x,c)∈l->l.lookup x=some c
 |[],_,h=>by cases h
 | (k,v)::r,nd,h=>by
  rw[fA];rcases br.mp h with e|h
  ·cases e;simp
  ·have:x≠k:=λz=>(cn.mp nd).1 (by rw[<-z];exact bg.mpr ⟨(x,c),h,rfl⟩)
   rw[beq_eq_false_iff_ne.mpr this];exact C0 (cn.mp nd).2 h
theorem WS{P:qT}{w:qU}{K:qV}{mg:Str->Option qQ}{base:Heap}{k:Nat}{f c':qR}{q:Str}{body:Expr}{pm ctv:qQ}{fns:List Str}
  (S:M9 ps fns scope) (hcl:cl.map (·.1)=fns) (hnd:(Bi cl).Nodup) (len:∀vs H Q E,sp vs H Q E->vs.length=ps.length)
  (hbody:∀(A:Around) (outer:List Env) (s:qS) (H:Hp) (vs:List V) (Q:VK) (E:XK),Br k (A.deeper (PySem.W.envX q scope s.heap.objs.size f (.ref c') (cellsFrom 1#5 scope.names []++cl)))->sp vs H Q E ->
   ∃C6 oc,H f=some (.frz (Ui q params body scope cl pm c' ctv) DA)/\H c'=some (.frz oc DA)/\Sx oc q/\Ds cl C6 H /\
   ∃t,PE (Zn P w K mg base (ps++fns) q scope f (.ref c') cl A outer s H) body t/\t ((vs++C6).map some) (Kg cl H) (λv H'=>(∀b∈Bi cl,H' b=none)->Q v (YJ cl H H'))):
  FW P w K mg base (Js P w) (k+1) f (PySem.W.kla_fn "<lambda>" q params body scope cl pm (.ref c') ctv) ps sp:=by
 refine⟨len,λA outer s H args us vs Q E hr e0 hb r hsp=>?_⟩;have hl:=len _ _ _ _ hsp;have KX:K.In s.heap:=e0.mod.kin.keeps λb o e=>(e0.bs b o e).1
 have lim:s.heap.NoLimit:=e0.mod.nolimit.keeps λb o e=>(e0.bs b o e).1
 rcases hbody A outer s H vs Q E (hr.deeper _) hsp with⟨C6,oc,hf,hc',⟨cvs,ctk,hcd,hcv⟩,hck,t,ht,hq⟩
 have hkind:∀y∈ps.zip us,scope.names.lookup y.1=some .local\/(scope.names.lookup y.1=some .cell/\((cellsFrom 1#5 scope.names []).lookup y.1).isSome=true):=λ⟨n,v⟩ hy=>by
  rcases S.par n (eM hy).1 with q|q
  ·exact .inl q
  ·exact .inr ⟨q,fB _ _ _ (.inl q)⟩
 have clin:∀{x:Str} {c:qR},cl.lookup x=some c->x∈fns/\c∈Bi cl:=λ{x c} e=>by have m:=cX e;exact⟨by rw[<-hcl];exact bg.mpr ⟨_,m,rfl⟩,bg.mpr ⟨_,m,rfl⟩⟩
 have ndf:fns.Nodup:=(dF.mp S.nd).2.1;have ndp:ps.Nodup:=(dF.mp S.nd).1;have apart:∀x∈ps,x∉fns:=λx h1 h2=>(dF.mp S.nd).2.2 x h1 x h2 rfl
 have old:∀b∈Bi cl,∃u o,o.data=.cell (some u)/\H b=some (.frz o DA)/\s.heap.get? b=some o:=λb hb=>by rcases hck.at hb with⟨u,o,h1,h2⟩;exact⟨u,o,h1,h2,(e0.hok b _ h2).1⟩
 refine PySem.W.kla_callFunE hr.depth (e0.hok f _ hf).1 rfl S.co S.gen rfl ⟨c',oc,cvs,ctk,rfl,(e0.hok c' _ hc').1,hcd,hcv⟩ (hb _ _ _ _ ?_);refine J1 S.kind hkind (λy hy c _ z=>apart y.1 (eM (a:=y.1) (b:=y.2) hy).1 (clin z).1) λs1 x=>?_;refine⟨lim.keeps x.toInCall.keep,PySem.W.kla_codeExpr ?_⟩;rcases x.done with⟨h1,tk,rfl,hk⟩;obtain⟨own,hown⟩:∃own,own=cellsFrom 1#5 scope.names []:=⟨_,rfl⟩
 have ownk:∀{y:Str} {c:qR},own.lookup y=some c->∃k,(y,k)∈scope.names/\k=.cell:=λ{y c} h=>by
  rw[hown]at h;rcases Gv h with z|z
  ·exact z
  ·cases z
 have noA:∀b:qR,b∉(Zn P w K mg base (ps++fns) q scope f (.ref c') cl A outer s H).ex:=λb z=>qG (show b∈([]:List qR) from z) 1#4
 have lk:∀{y:Str} {c:qR},(own++cl).lookup y=some c->(own.lookup y=some c)\/(own.lookup y=none/\cl.lookup y=some c):=λ{y c} h=>by
  rw[Cp]at h;cases e:own.lookup y with
  |some d=>rw[e]at h;left;exact h
  |none=>rw[e]at h;right;exact⟨rfl,h⟩
 have above:∀{y:Str} {c:qR},own.lookup y=some c->s.heap.objs.size<c:=λ{y c} h=>x.above y c (by rw[hown]at h;exact cX h)
 have ltc:∀b∈Bi cl,b<s.heap.objs.size:=λb hb=>by rcases old b hb with⟨_,_,_,_,e⟩;exact bP e
 have I:AT (Zn P w K mg base (ps++fns) q scope f (.ref c') cl A outer s H) [] ((vs++C6).map some) (Kg cl H) {s with heap:=h1,toks:=tk}:=by
  refine⟨⟨e0.mod,S.kind,rfl,rfl,bL _,λy z c h1 h2=>?_,λy hy=>?_,λy c h h2=>?_,λ_=>hr.hd,Around.frames_deeper e0.frames,.inr ⟨rfl,rfl⟩,λb z=>qG z (noA b),λb o e=>⟨(e0.bs b o e).1,DS (e0.bs b o e).2⟩,e0.bsz,λb _ _=>noA b,λb z=>qG z (noA b),e0.funs,λb hb=>DS (e0.frf b hb)⟩,
   rfl,e0.bare,Un.kept hk,⟨_,x.toInCall.ns,λi y v h1 h2 h3=>?_⟩,λy c h=>?_,DS (e0.hok.fresh (Nat.le_refl _)),λy c h=>?_,λp hp=>qG (show p∈([]:List (qR×Obj)) from hp) 1#4,?_,?_⟩
  ·have h1:(own++cl).lookup y=some c:=by rw[hown];exact h1
   have h2:(own++cl).lookup z=some c:=by rw[hown];exact h2
   rcases lk h1 with a|⟨_,a⟩<;>rcases lk h2 with b|⟨_,b⟩
   ·rw[hown]at a b;exact name_of_addr x.apart (cX a) (cX b)
   ·exact qG (Nat.lt_trans (above a) (ltc c (clin b).2)) (bu _)
   ·exact qG (Nat.lt_trans (above b) (ltc c (clin a).2)) (bu _)
   ·refine name_of_addr ?_ (cX a) (cX b);have z:=hnd;unfold Bi List.Nodup at z;rw[List.pairwise_map]at z;exact z
  ·have hy:scope.names.lookup y=some .cell\/scope.names.lookup y=some .free:=hy;show ∃c,(cellsFrom 1#5 scope.names []++cl).lookup y=some c;rw[Cp];rcases hy with hy|hy
   ·obtain⟨c,e⟩:=Fv (n:=s.heap.objs.size+1) hy;rw[e];exact⟨c,rfl⟩
   ·cases e:(cellsFrom 1#5 scope.names []).lookup y with
    |some c=>exact⟨c,rfl⟩
    |none =>
     have m:=S.all _ (cX hy) rfl;rw[<-hcl]at m;obtain⟨p,hp,rfl⟩:=bg.mp m;exact⟨p.2,by rw[Option.none_or];exact C0 (by rw[hcl];exact ndf) hp⟩
  ·have h:((cellsFrom 1#5 scope.names []).lookup y).isSome=true:=h;have h2:(own++cl).lookup y=some c:=by rw[hown];exact h2
   rcases lk h2 with a|⟨a,_⟩
   ·exact dA (above a)
   ·rw[hown]at a;rw[a]at h;cases h
  ·have h1:(ps++fns)[i]?=some y:=h1;rw[bO]at h2;cases e:(vs++C6)[i]? with
   |none=>rw[e]at h2;cases h2
   |some v' =>
    rw[e]at h2;cases h2
    by_cases hi:i<vs.length
    ·rw[b8 hi]at e;rw[b8 0#1]at h1;obtain⟨u,hu,rv⟩:=r.get e;refine⟨u,rv,?_⟩;rcases S.par y (bT h1) with k|k
     ·exact .inl ⟨k,GR ndp h1 hu k⟩
     ·obtain⟨c,e⟩:=Fv (n:=s.heap.objs.size+1) k;refine .inr ⟨.inl k,c,?_,?_⟩
      ·show (cellsFrom 1#5 scope.names []++cl).lookup y=some c;rw[Cp,e];rfl
      ·have q:=x.cell y c e;rw[GS ndp h1 hu (by show scope.names.lookup y≠_;rw[k];decide)]at q;exact q
    ·rw[bt 0#1]at e;rw[bt 0#1]at h1;rcases Paired.at hck e with⟨p,hp,u,o,rv,hd,hH⟩;have hp1:p.1=y:=by rw[<-hcl,bO,<-hl,hp]at h1;exact Option.some.inj h1
     have hy:=S.fre y (bT h1);refine⟨u,rv,.inr ⟨.inr hy,p.2,?_,o,hk _ _ (e0.hok _ _ hH).1,hd⟩⟩;show (cellsFrom 1#5 scope.names []++cl).lookup y=some p.2;rw[Cp];cases ee:(cellsFrom 1#5 scope.names []).lookup y with
     |none=>rw[Option.none_or];exact C0 (by rw[hcl];exact ndf) (by rw[<-hp1];exact bT hp)
     |some c =>
      obtain⟨kk,m1,m2⟩:=ownk (y:=y) (c:=c) (by rw[hown];exact ee);exact qG (bT h1) (S.own _ m1 m2)
  ·have h:(own++cl).lookup y=some c:=by rw[hown];exact h
   rcases lk h with a|⟨_,a⟩
   ·rw[hown]at a;exact⟨_,x.cell y c a⟩
   ·rcases old c (clin a).2 with⟨u,o,hd,_,ho⟩;exact⟨some u,o,hk _ _ ho,hd⟩
  ·have h:(own++cl).lookup y=some c:=by rw[hown];exact h
   rcases lk h with a|⟨_,a⟩
   ·exact DS (e0.hok.fresh (dA (above a)))
   ·exact JX (clin a).2
  ·refine EC.unC (e0.hok.kept hk) λb hb u e=>?_;rcases old b hb with⟨_,o,_,h2,_⟩;rw[h2]at e;cases e;exact⟨o,rfl⟩
  ·show ((vs++C6).map some).length=(ps++fns).length;rw[bG,bN,bN,hl,<-hcl,bG,Paired.lens hck]
 refine qM (ht [] _ _ _ _ I hq) (λu s' hs=>?_) λe s' hs=>hs.elim
 rcases hs with⟨v,H',J,rv,qq⟩
 have frn:∀b∈Ed outer,b∉Bi cl:=λb hb z=>by rcases old b z with⟨_,_,_,h2,_⟩;rw[e0.frf b hb]at h2;cases h2
 have nC:∀{b:qR} {u:HO},H b=some u->(∀o,u≠.frz o DA)->b∉Bi cl:=λh n=>hck.out h n
 have cz:∀b∈Bi cl,H' b=none:=λb hb=>by rcases old b hb with⟨_,o,_,_,ho⟩;exact J.base.free b o ho (JX hb) (noA b)
 refine⟨v,YJ cl H H',J.os,J.bare,⟨λb o e n h1 h2=>J.base.keep b o e (DS n) h1 h2,λb o e n h1 h2=>J.base.slot b o e (DS n) h1 h2,λb o e n h2=>?_,J.base.there,λb xs e=>?_,λb o u e=>?_,λb qs e=>?_⟩,λb u e=>?_,rv,qq cz⟩
 ·have hb:b∉Bi cl:=λz=>by
   rcases old b z with⟨_,_,_,h2,_⟩;rw[n]at h2;cases h2
  rw[Dl hb];exact J.base.free b o e (DS n) h2
 ·have hb:=nC e (by intro o z;cases z);rw[Dl hb];exact J.base.tups b xs (by show Kg cl H b=_;rw[CB hb];exact e)
 ·by_cases hb:b∈Bi cl
  ·rw[OV hb];exact e
  ·rw[Dl hb];exact J.base.frzs b o u (by show Kg cl H b=_;rw[CB hb];exact e)
 ·have hb:=nC e (by intro o z;cases z);rw[Dl hb];exact J.base.tbls b qs (by show Kg cl H b=_;rw[CB hb];exact e)
 ·by_cases hb:b∈Bi cl
  ·rw[OV hb]at e;rcases old b hb with⟨_,o,_,h2,ho⟩;rw[h2]at e;cases e;refine JW (J.base.keep b o ho (JX hb) (λz=>frn b z hb) (noA b))
  ·rw[Dl hb]at e;refine (J.hok b u e).stay (λ_ _ _ q=>q) (λc q=>?_) λc xs q=>?_
   ·rw[Dl (λz=>by rw[cz c z]at q;cases q)];exact q
   ·rw[Dl (λz=>by rw[cz c z]at q;cases q)];exact q
structure WT(K:qV)(x qual:Str)(st:Stmt)(f c Pt:qR)(fd:FuncData):Prop where
 ex:∃(oc:qQ) (od:Option qR) (kV doc pm:qQ) (an:Option qR) (ct:qQ) (osl:Array (Option qQ)),
  fd=PySem.W.fnOf x qual (Cd st) (BH st) (AG st) .none kV doc pm an (.ref c) ct/\K.lookup f=some ⟨oc,od,.func fd,osl⟩/\PySem.W.codeIn K (.ref c) qual=true
 kp:PySem.W.keepIn K (.ref f)=true
 hd:PySem.W.codeHdIn K c Pt=true
section
variable{P:qT}{w:qU}{K:qV}{mg:Str->Option qQ}{base:Heap}{x:Str}{f c Pt:qR}{N:List Str}{k:Nat}
theorem YK(D:∃fd,WT K x qual st f c Pt fd)(S:AJ N ps (AG st))(bd:DI x qual st ps) (h:∀vs H Q E,sp vs H Q E->vs.length=ps.length /\
  ∀(A:Around) (outer:List Env) (s:qS),Br k (A.deeper (envOfC qual (AG st) s.heap.objs.size f (.ref c))) ->
   ∃t,FU (DX (Js P w) P w K mg base N qual (AG st) f (.ref c) A outer s H E) (BH st) t/\t {nx:=λ_ H'=>Q .non H',rt:=Q} (B4 N vs) H):Ak P w K mg base (k+1) f ps sp:=by
 rcases D with⟨fd,⟨oc,od,kV,doc,pm,an,ct,osl,rfl,lk,hcd⟩,kp,hd⟩;exact⟨⟨_,RG lk hcd S (λvs H Q E q=>(h vs H Q E q).1) λA outer s H vs Q E hr q=>(h vs H Q E q).2 A outer s hr,.all (bd kV doc pm an (.ref c) ct)⟩,kp⟩
def Pi(K:qV)(x:Str)(st:Stmt)(f c Pt:qR):Prop:=(∃fd,WT K x x st f c Pt fd)/\PySem.W.nsIn K mainGlobals x=some (some (.ref f))
theorem Uj{kV pm ct:qQ}(a:PySem.W.nsIn K mainGlobals x=some (some (.ref f)))
  (l:K.lookup f=some ⟨oc,od,.func (PySem.W.fnOf x x (Cd st) (BH st) (AG st) .none kV doc pm an (.ref c) ct),osl⟩) (e:PySem.W.codeIn K (.ref c) x=true) (k:PySem.W.keepIn K (.ref f)=true) (h:PySem.W.codeHdIn K c Pt=true):Pi K x st f c Pt:=
 ⟨⟨_,⟨⟨oc,od,kV,doc,pm,an,ct,osl,rfl,l,e⟩,k,h⟩⟩,a⟩
end
section
variable{P:qR}{q:Str}
theorem C3.at(t:C3 pos q P H):∃ps,H P=some (.tbl ps):=by obtain⟨ps,h,_⟩:=t;exact⟨ps,h⟩
theorem Dk.get(e:Dk P H H')(t:C3 pos q P H){b:qR}(h:H b=some o)(n:∀ps,o≠.tbl ps):H' b=some o:=by obtain⟨ps,hp⟩:=t.at;exact e b o (λz=>by rw[z,hp]at h;cases h;exact n _ rfl) h
end
theorem Qq{K:qV}{q:Str}{body:Expr}{pm ct:qQ}
  (h:∀us:List qQ,us.length=ps.length->bindArgs (PySem.W.kla_fn name q params body scope cl pm gu ct) ⟨us,[]⟩=pure (ps.zip us)):Dv K (PySem.W.kla_fn name q params body scope cl pm gu ct) ps []:=.all h
theorem Pj{K:qV}:∀{ts:List qR},(∀P∈ts,∃c,PySem.W.codeHdIn K c P=true)->(∀P∈ts,K.lookup P=none)->∃cts:List (qR×qR),cts.map (·.2)=ts/\Sw K cts
 |[],_,_=>⟨[],rfl,λq hq=>qG hq cG⟩
 |P::ts,h1,h2=>by
  obtain⟨c,hc⟩:=h1 P bo;obtain⟨cts,e,h⟩:=Pj (λP hP=>h1 P (bi _ hP)) λP hP=>h2 P (bi _ hP)
  refine⟨(c,P)::cts,by rw[cU,e],λq hq=>?_⟩;rcases br.mp hq with z|z
  ·rw[z];exact⟨hc,h2 P bo⟩
  ·exact h q z
inductive Lc(K:qV)(ts:List qR)(vs:List V)(H:Hp)(Q:VK)(z3_:XK):Prop
 |m (a:qR) (ns:qW):vs=[.ref a]->Ae K H a 1#3->ns.length<=63->(∀P∈ts,H P=some (.tbl #[]))->(∀H',Q (.bl true) H')->Lc K ts vs H Q z3_
theorem Qr{l:PySem.W.OpenLaw}{n k:Nat}{q:qT}{loose:List Str}{XP:(Str->Option qQ)->Heap->Prop}{YP:qU->Heap->Prop}{d:DefRec}{K:Params->qV}{x:Str}{ts:List qR}
  (hn:l.most=some 63) (hdf:d.params.defaults=[]) (hr:Br k callerA)
  (hY:∀(w:qU) (h:Heap),YP w h->(K w.params).In h/\∀P∈ts,h.get? P=some (PySem.W.tabObj #[])) (hT:∀w:qU,∀P∈ts,(K w.params).lookup P=none)
  (F:∀(w:qU) (mg:Str->Option qQ) (fa:qR) (h:Heap),(K w.params).In h->h.Ns mainGlobals mg->mg d.name=some (.ref fa) ->
   (∀P∈ts,∃c,PySem.W.codeHdIn (K w.params) c P=true)/\∃fd:FuncData,(∀(s:qS) (u:qQ),BindsTo s fd ⟨[u],[]⟩ [(x,u)]) /\
    ∀base:Heap,(K w.params).In base->base.Ns mainGlobals mg->JV mg base->FW l.prog w (K w.params) mg base (Js l.prog w) k fa fd [x] (Lc (K w.params) ts)):
  PySem.W.WalkO q loose XP YP l.row.toRowW d [] (λf vs=>PySem.call f vs):=by
 refine Att.attach_call hn hdf λw s₀ s₁ mg mb fa o pm cd doc a vs ns G Y ho hd hcd hmg hobj hints hlen hg=>?_;obtain⟨KX,TX⟩:=hY w _ Y;rcases F w mg fa _ KX G.T.g hmg with⟨hc,fd,hb,hF⟩;obtain⟨cts,rfl,hT'⟩:=Pj hc (hT w);exact Qp KX G.T.g G.T.b G.T.builtins G.T.nolimit G.T.bmain hg hT' (λq hq=>TX _ (bg.mpr ⟨q,hq,rfl⟩)) hobj hints (cK hlen 0#8) hr hF hb (λH hO hS=>⟨a,ns,rfl,hS,hlen,hO.2,λ_=>rfl⟩) λH e s' ⟨_,_,_,_,_,_,_,_,z⟩=>z
theorem WU{l:List α}(h:2<=l.length):∃x y r,l=x::y::r:=by
 rcases l with _|⟨x,_|⟨y,l⟩⟩
 ·exact qG h (by rw[gi];decide)
 ·exact qG h (by rw[cP];decide)
 ·exact⟨_,_,_,rfl⟩
theorem ES:∀{vs:List qQ} {ns:qW},IntsAre vs ns->Av 1#3 vs
 |_,_,.nil=>.nil
 |_,_,.cons n t h=>.cons ⟨t,rfl⟩ (ES h)
theorem S0{prog:qT}{w:qU}{A:Around}{s:qS}{a₀:Array Keyed}(h:∀x∈a₀.toList,∃n t,x.1=.int n t):JS prog w A s oneType' a₀:=λx hx y hy=>by obtain⟨n,t,e⟩:=h x hx;obtain⟨m,u,e2⟩:=h y hy;refine⟨decide (n<m),λE Q q=>?_⟩;rw[keyLt'_oneType,e,e2];exact oneLt_int q
theorem J3(a f:qR):Builtin.«list.sort» ⟨[.ref a],[(Str.ofString "key",.ref f)]⟩=(do
  let items <-Builtin.List.listItems (.ref a)
  Builtin.List.listUpdate (.ref a) λ_=>#[]
  let before <-seqEpoch a
  let held <-newTuple items.toList
  let keyStore <-newList []
  holding [held,keyStore] do
   rule "list.sort.key"
   for x in items do
    match <-(call (.ref f) [x]).attempt with
    |.ok k=>Builtin.List.listUpdate keyStore (·.push k)
    |.error e =>
     rule "list.sort.key-raised"
     let made <-Builtin.List.listItems keyStore
     Builtin.List.listUpdate keyStore λ_=>#[]
     letGo made.toList.reverse [e]
     Builtin.List.listUpdate (.ref a) λ_=>items;throw e
   let keys <-Builtin.List.listItems keyStore
   let kind <-if items.size<2 then pure general' else keyKind' keys
   let ((),s) <-(if items.size<2 then pure () else sortRuns').run (SortSt.mk' kind (keys.zip items) #[] 7 none)
   let sorted:=(arrOf s).map (·.2)
   Builtin.List.listUpdate keyStore λ_=>#[]
   letGo ((arrOf s).map (·.1)).toList (failedOf s).toList
   let touched:=(<-seqEpoch a) != before
   Builtin.List.listUpdate (.ref a) λ_=>sorted
   if let some e:=failedOf s then rule "list.sort.comparison-raised";throw e
   if touched then rule "list.sort.modified";raiseError "ValueError" "list modified during sort"
   ret .none):=by
 first|rfl|(fail "not by rfl")
theorem Hd(a v:qQ):argsOk "sorted" ⟨[a],[(Str.ofString "key",v)]⟩:=by unfold argsOk;kernel_rfl
theorem Fj(a v:qQ):argsOk "list.sort" ⟨[a],[(Str.ofString "key",v)]⟩:=by unfold argsOk;kernel_rfl
theorem AT.adopt{X:Cx}{s:qS}(I:AT X ad σ H s)(f:C5 X ad H a)(hx:a∉X.ex)(hn:X.s₀.heap.objs.size<=a)(new:Ax X.prog X.w (Ad H a o) s.heap a o):AT X ad σ (Ad H a o) s:=by
 rcases f with⟨f0,f1,f2,f3,f4,f5⟩;have ne:∀{b:qR} {u:HO},H b=some u->b≠a:=λ{b u} e z=>by rw[z,f0]at e;cases e
 have old:∀{b:qR} {u:Obj},X.s₀.heap.get? b=some u->b≠a:=λ{b u} e z=>qG (bR (bP e) hn) (by rw[z];exact bu _)
 refine⟨I.ok,I.os,I.bare,⟨I.base.keep,I.base.slot,λb u e n h=>?_,I.base.there,λb xs e=>?_,λb u v e=>?_,λb ps e=>?_⟩,I.loc,I.cell,?_,λx c e=>?_,λp hp=>?_,λb u e=>?_,I.len⟩
 ·rw[AK (old e)];exact I.base.free b u e n h
 ·have z:=I.base.tups b xs e;rw[AK (ne z)];exact z
 ·have z:=I.base.frzs b u v e;rw[AK (ne z)];exact z
 ·obtain⟨more,z⟩:=I.base.tbls b ps e;exact⟨more,by rw[AK (ne z)];exact z⟩
 ·rw[AK (Ne.symm f1)];exact I.free
 ·rw[AK (f4 x c e)];exact I.freeC x c e
 ·obtain⟨p1,p2,p3⟩:=I.pin p hp;exact⟨p1,by rw[AK (f5 p hp)];exact p2,p3⟩
 ·by_cases z:b=a
  ·subst z;rw[AE]at e;cases e;exact new
  ·rw[AK z]at e;exact (I.hok b u e).stay (λ_ _ _ q=>q) (λc q=>by rw[AK (ne q)];exact q) λc xs q=>by rw[AK (ne q)];exact q
theorem Qs{X:Cx}{k:Nat}{f:qR}{is:List Nat}{C6:List V}{s:qS}{A:Around}{vs:List V}{Q':VK}{R:qQ->qS->Prop}
  (F:FW X.prog X.w X.K X.mg X.base (Js X.prog X.w) k f fd ps sp) (hb:Dv X.K fd ps []) (hr:Br k A) (hA:A.frames=X.A.frames)
  (hcl:Paired (λ(i:Nat) (q:Str×qR)=>X.N[i]?=some q.1/\X.env.kindOf q.1=some .cell/\X.env.cells.lookup q.1=some q.2/\X.fn q.1=true) is cl) (hAt:At σ is C6) (I:AT X ad σ H s) (r:Av vs us)
  (q:∀HC,AH H HC->(∀b∈Bi cl,H b=none)->Ds cl C6 HC->(∀b,b∉Bi cl->HC b=H b)->sp vs HC Q' E0)
  (hR:∀v u H2 s2,A5 v u->AT X ad σ (Kg cl H2) s2->Q' v H2->R u s2):wpAny 0#6 A (call (.ref f) us) R E s:=by
 have each:∀{is:List Nat} {cl:List (Str×qR)} {C6:List V},Paired (λ(i:Nat) (q:Str×qR)=>X.N[i]?=some q.1/\X.env.kindOf q.1=some .cell/\X.env.cells.lookup q.1=some q.2/\X.fn q.1=true) is cl->At σ is C6 ->
   Paired (λ(p:Str×qR) (v:V)=>∃u o,A5 v u/\o.data=.cell (some u)/\s.heap.get? p.2=some o/\X.s₀.heap.objs.size<=p.2/\H p.2=none/\X.env.locals≠p.2) cl C6:=by
  intro is cl C6 h1 h2
  induction h1 generalizing C6 with
  |nil=>cases h2;exact .nil
  |cons a _ ih =>
   cases h2 with
   |cons b h2 =>
    refine .cons ?_ (ih h2);rcases a with⟨n1,n2,n3,n4⟩;obtain⟨m,hn,hl⟩:=I.loc;obtain⟨u,ru,l⟩:=hl _ _ _ n1 b (.inr (.inl n2));rcases l with⟨hk,_⟩|⟨_,c,hc,o,ho,hd⟩
    ·rw[n2]at hk;cases hk
    ·rw[n3]at hc;cases hc;exact⟨u,o,ru,hd,ho,I.ok.cab _ _ n4 n3,I.freeC _ _ n3,(I.cne _ _ n3).symm⟩
 have cells:=each hcl hAt
 have cin:∀b∈Bi cl,∃u o,o.data=.cell (some u)/\s.heap.get? b=some o/\X.s₀.heap.objs.size<=b/\H b=none/\X.env.locals≠b:=λb hb=>by obtain⟨p,hp,rfl⟩:=bg.mp hb;rcases Paired.left cells p hp with⟨v,u,o,_,h1,h2,h3,h4,h5⟩;exact⟨u,o,h1,h2,h3,h4,h5⟩
 obtain⟨HC,hH⟩:∃HC:Hp,HC=λb=>if b∈Bi cl then (s.heap.get? b).map (λo=>HO.frz o DA) else H b:=⟨_,rfl⟩
 have hin:∀b∈Bi cl,∀o,s.heap.get? b=some o->HC b=some (.frz o DA):=λb hb o e=>by rw[hH];show (if _ then _ else _)=_;rw[qF hb,e];rfl
 have hout:∀b,b∉Bi cl->HC b=H b:=λb hb=>by rw[hH];exact qE hb
 have sm:AH H HC:=λb o q=>by rw[hout b (λz=>by obtain⟨_,_,_,_,_,n,_⟩:=cin b z;rw[n]at q;cases q)];exact q
 have ck:Ds cl C6 HC:=by
  have go:∀{cl':List (Str×qR)} {fv:List V},Paired (λ(p:Str×qR) (v:V)=>∃u o,A5 v u/\o.data=.cell (some u)/\s.heap.get? p.2=some o/\X.s₀.heap.objs.size<=p.2/\H p.2=none/\X.env.locals≠p.2) cl' fv->(∀q∈cl',q.2∈Bi cl)->Ds cl' fv HC:=by
   intro cl' fv h1 h2
   induction h1 with
   |nil=>exact .nil
   |cons a _ ih =>
    rcases a with⟨u,o,r1,r2,r3,_⟩;exact .cons ⟨u,o,r1,r2,hin _ (h2 _ bo) o r3⟩ (ih λq hq=>h2 q (bi _ hq))
  exact go cells λq hq=>bg.mpr ⟨q,hq,rfl⟩
 have q1:=q HC sm (λb hb=>by obtain⟨_,_,_,_,_,n,_⟩:=cin b hb;exact n) ck hout;have hl:us.length=ps.length:=by rw[<-r.length];exact F.len _ _ _ _ q1
 have bd:=hb s us I.kIn (by rw[cA];exact hl);rw[cA]at bd
 have stk:∀b∈Ed X.stack,b∉Bi cl:=λb hb z=>by
  rcases cin b z with⟨_,o,_,ho,hs,_,hL⟩;rcases br.mp (I.stkSub b hb) with y|y
  ·exact hL y.symm
  ·rcases I.ok.funs.mem y with⟨_,o',ho',_⟩;exact qG (bR (bP ho') hs) (bu _)
 have hok1:EC X.prog X.w HC s.heap:=λb u e=>by
  by_cases hb:b∈Bi cl
  ·rcases cin b hb with⟨_,o,_,ho,_⟩;rw[hin b hb o ho]at e;cases e;exact JW ho
  ·rw[hout b hb]at e;exact (I.hok b u e).stay (λ_ _ _ q=>q) (λc q=>sm _ _ q) λc xs q=>sm _ _ q
 have e0:NV X.prog X.w X.K X.mg X.base A X.stack s HC:=by
  have e:=I.env0;refine⟨hA.trans e.frames,e.mod,λb o q=>⟨(e.bs b o q).1,?_⟩,e.bsz,e.funs,λb hb=>?_,hok1,e.bare⟩
  ·rw[hout b (λz=>by
    rcases cin b z with⟨_,_,_,_,hs,_⟩;exact qG (bR (bP q) (cK I.ok.bsz hs)) (bu _))]
   exact (e.bs b o q).2
  ·rw[hout b (stk b hb)];exact e.frf b hb
 refine wpAny_call (codeAny_mono (F.run A X.stack s HC ⟨us,[]⟩ us vs _ E0 hr e0 bd r q1) λrs s2 hq=>?_);rcases rs with er|fl
 ·rcases hq with⟨_,_,_,_,_,_,_,_,z⟩;exact z.elim
 ·cases fl with
  |next=>exact False.elim hq
  |brk=>exact False.elim hq
  |cont=>exact False.elim hq
  |ret u =>
   rcases hq with⟨v,H2,os,bare,un,hok,rv,q2⟩
   have fz:∀b∈Bi cl,∃o,s.heap.get? b=some o/\H2 b=some (.frz o DA)/\s2.heap.get? b=some o:=λb hb=>by rcases cin b hb with⟨_,o,_,ho,_⟩;have z:=un.frzs b o _ (hin b hb o ho);exact⟨o,ho,z,(hok b _ z).1⟩
   have nC:∀{b:qR} {o:HO},H b=some o->b∉Bi cl:=λ{b o} e z=>by rcases cin b z with⟨_,_,_,_,_,n,_⟩;rw[n]at e;cases e
   have un':Un (Ed X.stack) [] H (Kg cl H2) s.heap s2.heap:=by
    refine⟨λb o e n h1 h2=>?_,λb o e n h1 h2=>?_,λb o e n h2=>?_,un.there,λb xs e=>?_,λb o u e=>?_,λb qs e=>?_⟩
    ·by_cases hb:b∈Bi cl
     ·rcases fz b hb with⟨o',e1,_,e2⟩;rw[e]at e1;cases e1;exact e2
     ·exact un.keep b o e (by rw[hout b hb];exact n) h1 h2
    ·exact un.slot b o e (by rw[hout b (stk b h1)];exact n) h1 h2
    ·by_cases hb:b∈Bi cl
     ·exact JX hb
     ·rw[CB hb];exact un.free b o e (by rw[hout b hb];exact n) h2
    ·rw[CB (nC e)];exact un.tups b xs (sm _ _ e)
    ·rw[CB (nC e)];exact un.frzs b o u (sm _ _ e)
    ·rw[CB (nC e)];exact un.tbls b qs (sm _ _ e)
   have hok':EC X.prog X.w (Kg cl H2) s2.heap:=hok.unC λb hb u e=>by rcases fz b hb with⟨o,_,z,_⟩;rw[z]at e;cases e;exact⟨o,rfl⟩
   exact hR v u H2 s2 rv (I.call' (ch:=[]) os un' hok' bare (λb z=>qG z 1#4)) q2
def YL(P:qT)(w:qU)(K:qV)(mg:Str->Option qQ)(base:Heap)(k:Nat)(f:qR)(cl:List (Str×qR))(C6:List V)(κ:Nat->Int)(n:Nat)(H:Hp):Prop:=∃fd ps sp,FW P w K mg base (Js P w) k f fd ps sp/\Dv K fd ps [] /\
 ∀x:Nat,x<n->∀(HA HC:Hp) (Q:VK),AH H HA->AH HA HC->Ds cl C6 HC->(∀b,b∉Bi cl->HC b=HA b)->(∀b∈Bi cl,HA b=none)->(∀HE,AH HC HE->Q (.int (κ x)) HE)->sp [.int (x:Int)] HC Q E0
variable{κ:Nat->Int}
theorem Qt{P:qT}{w:qU}{K:qV}{mg:Str->Option qQ}{base:Heap}{k:Nat}{f:qR}{q:Str}{body:Expr}{n:Nat}{C6:List V}{x1:Str}{fns:List Str}
  (la:VX q params body scope cl f H) (S:M9 [x1] fns scope) (hcl:cl.map (·.1)=fns) (hnd:(Bi cl).Nodup) (hbind:∀(pm gu ct:qQ) (us:List qQ),us.length=1->bindArgs (PySem.W.kla_fn "<lambda>" q params body scope cl pm gu ct) ⟨us,[]⟩=pure ([x1].zip us))
  (hbody:∀(c':qR) (A:Around) (outer:List Env) (s:qS) (HC:Hp) (x:Nat),Br k (A.deeper (PySem.W.envX q scope s.heap.objs.size f (.ref c') (cellsFrom 1#5 scope.names []++cl)))->x<n->AH H (Kg cl HC) ->
   ∃t,PE (Zn P w K mg base (x1::fns) q scope f (.ref c') cl A outer s HC) body t/\∀Q:VK,(∀H',AH (Kg cl HC) H'->Q (.int (κ x)) H')->t (some (.int (x:Int))::C6.map some) (Kg cl HC) Q):
  YL P w K mg base (k+1) f cl C6 κ n H:=by
 rcases la with⟨pm,c',ctv,oc,l1,l2,l3⟩;refine⟨_,[x1],λvs HC QA _=>∃(x:Nat) (HA:Hp),vs=[.int (x:Int)]/\x<n/\AH H HA/\AH HA HC/\Ds cl C6 HC/\(∀b,b∉Bi cl->HC b=HA b)/\(∀b∈Bi cl,HA b=none)/\∀HE,AH HC HE->QA (.int (κ x)) HE,WS (q:=q) (params:=params) (body:=body) (scope:=scope) (cl:=cl) (fns:=fns) (pm:=pm) (ctv:=ctv) (c':=c') S hcl hnd ?_ ?_,Qq (hbind pm (.ref c') ctv),λx hx HA HC QA e1 e2 c o z q=>⟨x,HA,rfl,hx,e1,e2,c,o,z,q⟩⟩
 ·intro vs HA QA _ hRq;rcases hRq with⟨x,_,rfl,_⟩;rfl
 ·intro A outer s HC vs QA EA hr hRq;rcases hRq with⟨x,HA,rfl,hx,e1,e2,ck,ho,hz,qA⟩
  obtain⟨t,ht,hq⟩:=hbody c' A outer s HC x hr hx λb o h=>by
   have y:=e1 _ _ h;have nb:b∉Bi cl:=λz=>by rw[hz b z]at y;cases y
   rw[CB nb,ho b nb];exact y
  exact⟨C6,oc,e2 _ _ (e1 _ _ l1),e2 _ _ (e1 _ _ l2),l3,ck,t,ht,hq _ λH' e cz=>qA _ (Sz e)⟩
theorem JZ{h:Heap}{xs:Array qQ}{n:Nat}(ho:h.get? a=some (seqObj "list" xs n))(g:Array qQ->Array qQ):∃e,(h.update a (Obj.mapSeq g)).get? a=some (seqObj "list" (g xs) e):=⟨_,get?_update_seq ho g⟩
section
variable{X:Cx}{s:qS}{A:Around}
theorem WV{f L ks:qR}{oL:Obj}{n:Nat}{R:PUnit->qS->Prop}{e:Nat}(I:AT X ((L,oL)::ad) σ H s)(hk:C5 X ((L,oL)::ad) H ks)(hks:s.heap.get? ks=some (seqObj "list" #[] e))(hv:IntsAre vs (CM n))(hn:n<=1000)
  (hcall:∀(pins':List (qR×Obj)) (H':Hp) (s':qS) (x:Nat) (t:Tok) (R':qQ->qS->Prop),AT X pins' σ H' s'->AH H H'->x<n->(∀u H2 s2,A5 (.int (κ x)) u->AT X pins' σ H2 s2->AH H H2->R' u s2)->wpAny 0#6 A (call (.ref f) [.int (x:Int) t]) R' (λ_ _=>False) s')
  (hR:∀H' s' keys e',AT X ((L,oL)::ad) σ H' s'->AH H H'->C5 X ((L,oL)::ad) H' ks->s'.heap.get? ks=some (seqObj "list" keys e')->IntsAre keys.toList ((List.range n).map κ)->R ⟨⟩ s'):
  wpAny 0#6 A (forIn vs PUnit.unit λx _=>do
    match <-(call (.ref f) [x]).attempt with
    |.ok k=>Builtin.List.listUpdate (.ref ks) (·.push k)
    |.error e =>
     rule "list.sort.key-raised"
     let made <-Builtin.List.listItems (.ref ks)
     Builtin.List.listUpdate (.ref ks) λ_=>#[]
     letGo made.toList.reverse [e]
     Builtin.List.listUpdate (.ref L) λ_=>vs.toArray;throw e
    pure (ForInStep.yield PUnit.unit)) R E s:=by
 have vl:vs.length=n:=by have:=hv.length;rw[this,Be]
 refine wpAny_forIn_list _ (λrest _ s'=>∃(i:Nat) (H':Hp) (keys:Array qQ) (e':Nat),rest=vs.drop i/\i<=n/\AT X ((L,oL)::ad) σ H' s'/\AH H H'/\C5 X ((L,oL)::ad) H' ks/\s'.heap.get? ks=some (seqObj "list" keys e')/\IntsAre keys.toList ((List.range i).map κ)) _ ?_ ?_ vs PUnit.unit ⟨0,H,#[],e,rfl,cS _,I,AH.refl _,hk,hks,.nil⟩
 ·intro x rest _ s' hRq;rcases hRq with⟨i,H',keys,e',hr,hi,I',hS,hk',hg,hK⟩;have hlt:i<vs.length:=by apply Decidable.byContradiction;intro z;rw[List.drop_of_length_le 0#1]at hr;cases hr
  obtain⟨t,ht⟩:∃t,vs[i]?=some (.int (i:Int) t):=by refine byG λGq hGq=>?_;obtain⟨u,hu,t,rt⟩:=(ES hv).get (i:=i) (x:=.int (i:Int)) (by rw[bO,DH 0#1];rfl);refine hGq ?_;clear hGq Gq;exact⟨t,by rw[hu,rt]⟩
  have hx:x=.int (i:Int) t/\rest=vs.drop (i+1):=by
   rw[cj hlt]at hr
   injection hr with h1 h2
   rw[bI hlt]at ht;exact⟨h1.trans (Option.some.inj ht),h2⟩
  obtain⟨rfl,hr2⟩:=hx;rcases hk' with⟨f0,f1,f2,f3,f4,f5⟩
  have Ip:AT X ((ks,seqObj "list" keys e')::(L,oL)::ad) σ H' s':=I'.pins_of λp hp=>by
   rcases br.mp hp with z|z
   ·rw[z];exact⟨hg,f0,f1,f2,λv h=>by cases h⟩
   ·exact I'.pin p (bW _ z)
  refine qC (wpAny_attempt (qM (hcall _ H' s' i t (λu s2=>A5 (.int (κ i)) u/\∃H2,AT X ((ks,seqObj "list" keys e')::(L,oL)::ad) σ H2 s2/\AH H H2) Ip hS 0#1 λu H2 s2 ru I2 hS2=>⟨ru,H2,I2,hS2⟩) ?_ λ_ _ z=>z.elim));intro u s2 hRq;rcases hRq with⟨⟨t2,rfl⟩,H2,I2,hS2⟩;rcases I2.pin _ (bW _ bo) with⟨g2,n2,l2,x2,_⟩;have I2':AT X ((L,oL)::ad) σ H2 s2:=I2.pins_of λp hp=>I2.pin p (bW _ (bi _ hp))
  have kl:keys.size=i:=by have z:=hK.length;rw[List.length_map,List.length_range]at z;simpa using z
  refine qC (listUpdate_at g2 rfl (qD ?_) (by rw[kl,sizeLine_eq];lia) (by rw[Array.size_push,kl,sizeLine_eq];lia));obtain⟨e3,g3⟩:=JZ g2 (λxs=>xs.push (.int (κ i) t2));refine⟨i+1,H2,_,e3,hr2,by lia,I2'.turned (t':=s2.toks) (λb o hb q=>by rw[dI _ _ _ _ hb];exact q) n2 l2 f3 f4 f5,hS2,⟨n2,l2,x2,f3,f4,f5⟩,g3,?_⟩;rw[Array.toList_push,cH,bS];exact hK.append (.cons _ _ .nil)
 ·intro _ s' hRq;rcases hRq with⟨i,H',keys,e',hr,hi,I',hS,hk',hg,hK⟩;have:i=n:=by have z:=qP List.length hr;rw[bj,gi]at z;lia
  subst this;exact hR H' s' keys e' I' hS hk' hg hK
theorem NA{f L:qR}{n:Nat}{P:Fin->qS->Prop}{e:Nat}(I:AT X ad σ H s)(hL:C5 X ad H L)(hg:s.heap.get? L=some (seqObj "list" vs.toArray e))(hv:IntsAre vs (CM n))(hn:n<=1000)
  (hcall:∀(pins':List (qR×Obj)) (H':Hp) (s':qS) (x:Nat) (t:Tok) (R':qQ->qS->Prop),AT X pins' σ H' s'->AH H H'->x<n->(∀u H2 s2,A5 (.int (κ x)) u->AT X pins' σ H2 s2->AH H H2->R' u s2)->wpAny 0#6 A (call (.ref f) [.int (x:Int) t]) R' (λ_ _=>False) s')
  (hP:∀H' s' out ns e',AT X ad σ H' s'->AH H H'->C5 X ad H' L->s'.heap.get? L=some (seqObj "list" out e')->IntsAre out.toList ns->ns.Perm (CM n)->P (.done (.ret .none)) s'):
  wpAny 0#6 A (Builtin.«list.sort» ⟨[.ref L],[(Str.ofString "key",.ref f)]⟩) P E s:=by
 have vl:vs.length=n:=by have:=hv.length;rw[this,Be]
 rw[J3];obtain⟨e1,g1⟩:=JZ hg (λ_=>#[]);refine qC (listItems_at hg rfl (qC (listUpdate_at hg rfl (qC (seqEpoch_at g1 rfl (qC (wpAny_newTuple (qC (wpAny_newList (qO ?_))) (by rw[vl,sizeLine_eq];lia))))) (by rw[cC,vl,sizeLine_eq];lia) (by rw[sizeLine_eq];decide))));rcases hL with⟨f0,f1,f2,f3,f4,f5⟩;have lt:=bP hg;obtain⟨h3,hh3⟩:∃h3,h3=((s.heap.update L (Obj.mapSeq λ_=>#[])).push (seqObj "tuple" vs.toArray 0)).push (seqObj "list" #[] 0):=⟨_,rfl⟩;obtain⟨ks,hks⟩:∃ks,ks=((s.heap.update L (Obj.mapSeq λ_=>#[])).push (seqObj "tuple" vs.toArray 0)).objs.size:=⟨_,rfl⟩;have gL:h3.get? L=some (seqObj "list" #[] e1):=by rw[hh3];exact bK _ (bK _ g1)
 have gk:h3.get? ks=some (seqObj "list" #[] 0):=by rw[hh3,hks];exact ba _ rfl
 have sk:s.heap.objs.size<=ks:=by rw[hks,size_push',Heap.size_update];exact eg _
 have ko:∀b o,b≠L->s.heap.get? b=some o->h3.get? b=some o:=λb o hb q=>by rw[hh3];exact bK _ (bK _ (by rw[dI _ _ _ _ hb];exact q))
 have I3:AT X ad σ H {s with heap:=h3}:=I.turned (t':=s.toks) ko f0 f1 f3 f4 f5
 have I4:AT X ((L,seqObj "list" #[] e1)::ad) σ H {s with heap:=h3}:=I3.pins_of λp hp=>by
  rcases br.mp hp with z|z
  ·rw[z];exact⟨gL,f0,f1,f2,λv h=>by cases h⟩
  ·exact I3.pin p (bW _ z)
 have fk:C5 X ((L,seqObj "list" #[] e1)::ad) H ks:=by
  rcases I.fpOk sk (I.hok.fresh sk) with⟨k0,k1,k2,k3,k4,k5⟩;refine⟨k0,k1,k2,k3,k4,λp hp=>?_⟩;rcases bQ.mp hp with z|z
  ·exact k5 p (eL _ z)
  ·rcases br.mp z with y|y
   ·rw[y];exact b9 (bR lt sk)
   ·exact k5 p (bW _ y)
 have kne:ks≠L:=λz=>fk.2.2.2.2.2 _ (bW _ bo) z.symm
 show wpAny 0#6 A _ P E {s with heap:=((s.heap.update L (Obj.mapSeq λ_=>#[])).push (seqObj "tuple" vs.toArray 0)).push (seqObj "list" #[] 0)};rw[<-hh3,<-hks];refine qC (wpAny_rule (qC ?_));rw[<-Array.forIn_toList];refine WV I4 fk gk hv hn hcall λH5 s5 keys e5 I5 hS5 fk5 gk5 hK=>?_;have kl:keys.size=n:=by have z:=hK.length;rw[List.length_map,List.length_range]at z;simpa using z
 rcases I5.pin _ (bW _ bo) with⟨gL5,nL5,lL5,xL5,_⟩;have I5':AT X ad σ H5 s5:=I5.pins_of λp hp=>I5.pin p (bW _ (bi _ hp))
 rcases fk5 with⟨n5,l5,x5,y5,c5,p5⟩;refine qC (listItems_at gk5 rfl ?_)
 have fin:∀(st:SortSt),(arrOf st).toList.Perm (keys.zip vs.toArray).toList->failedOf st=none->wpAny 0#6 A (do
   Builtin.List.listUpdate (.ref ks) λ_=>#[]
   letGo ((arrOf st).map (·.1)).toList (failedOf st).toList
   let touched:=(<-seqEpoch L) != e1
   Builtin.List.listUpdate (.ref L) λ_=>(arrOf st).map (·.2)
   if let some e:=failedOf st then rule "list.sort.comparison-raised";throw e
   if touched then rule "list.sort.modified";raiseError "ValueError" "list modified during sort"
   ret .none) P E s5:=λst hp hf=>by
  have pl:((arrOf st).map (·.2)).toList.Perm vs:=by have z:=hp.map (·.2);rw[Array.toList_zip,List.map_snd_zip (by simp[kl,vl])]at z;rw[Array.toList_map];exact z
  have al:((arrOf st).map (·.2)).size=n:=by have z:=pl.length_eq;rw[vl]at z;simpa using z
  refine qC (listUpdate_at gk5 rfl (qC (wpAny_letGo ?_)) (by rw[kl,sizeLine_eq];lia) (by rw[sizeLine_eq];decide));have I6:AT X ad σ H5 {s5 with heap:=s5.heap.update ks (Obj.mapSeq λ_=>#[])}:=I5'.turned (t':=s5.toks) (λb o hb q=>by rw[dI _ _ _ _ hb];exact q) n5 l5 y5 c5 λp hp=>p5 p ((bQ.mp hp).elim (eL _) λz=>bW _ (bi _ z))
  have gL6:(s5.heap.update ks (Obj.mapSeq λ_=>#[])).get? L=some (seqObj "list" #[] e1):=by rw[dI _ _ _ _ (Ne.symm kne)];exact gL5
  refine qC (seqEpoch_at gL6 rfl (qC (listUpdate_at gL6 rfl ?_ (by rw[sizeLine_eq];decide) (by rw[al,sizeLine_eq];lia))));rw[hf];simp only[bne_self_eq_false,Bool.false_eq_true,if_false];obtain⟨e7,g7⟩:=JZ gL6 (λ_=>(arrOf st).map (·.2));have I7:AT X ad σ H5 {s5 with heap:=(s5.heap.update ks (Obj.mapSeq λ_=>#[])).update L (Obj.mapSeq λ_=>(arrOf st).map (·.2))}:=I6.turned (t':=s5.toks) (λb o hb q=>by rw[dI _ _ _ _ hb];exact q) nL5 f1 f3 f4 f5
  obtain⟨ns,hns,pn⟩:∃ns,IntsAre ((arrOf st).map (·.2)).toList ns/\ns.Perm (CM n):=by
   obtain⟨zs,pz,vz⟩:=Kc pl (ES hv);refine⟨zs.map λv=>match v with|.int a=>a|_=>0,?_,?_⟩
   ·refine C9 ?_;rw[c9,show zs.map (V.int∘λv=>match v with|.int a=>a|_=>0)=zs from ?_]
    ·exact vz
    ·refine (bU λv hv=>?_).trans (List.map_id _);obtain⟨a,_,rfl⟩:=bg.mp (pz.mem_iff.mp hv);rfl
   ·have z:=pz.map λv=>match v with|.int a=>a|_=>(0:Int)
    rw[c9]at z;exact z.trans (by rw[show (CM n).map ((λv=>match v with|V.int a=>a|_=>(0:Int))∘V.int)=CM n from (bU λ_ _=>rfl).trans (List.map_id _)])
  exact qD (hP H5 _ _ ns e7 I7 hS5 ⟨nL5,f1,f2,f3,f4,f5⟩ g7 hns pn)
 by_cases h2:vs.toArray.size<2
 ·rw[qF h2,qF h2];refine qC (qD ?_);dsimp only;rw[StateT.run_pure];exact qC (qD (fin _ (.refl _) rfl))
 ·rw[qE h2,qE h2];rw[cC,vl]at h2
  obtain⟨v₁,v₂,rest,hke⟩:∃v₁ v₂ rest,keys.toList=v₁::v₂::rest:=by
   have kl2:keys.toList.length=n:=by rw[cg];exact kl
   exact WU 0#1
  have hka:keys=(v₁::v₂::rest).toArray:=by rw[<-hke]
  have kk:keyKind' keys=pure oneType':=by rw[hka];exact keyKind_ints (by rw[<-hke];exact hK)
  rw[kk];refine qC (qD ?_);obtain⟨a₀,ea⟩:∃a₀,a₀=keys.zip vs.toArray:=⟨_,rfl⟩;rw[<-ea]at fin⊢
  refine qC (qM (Ph (k:=oneType') (a₀:=a₀) (st:=SortSt.mk' oneType' a₀ #[] 7 none)
   (Q:=λ_ t=>(arrOf t).toList.Perm a₀.toList/\failedOf t=none) (S0 λx hx=>?_) ⟨rfl,.refl _,rfl,rfl⟩ λt p f=>⟨p,f⟩) ?_ λ_ _ e=>e)
  ·rw[ea,Array.toList_zip]at hx;exact hK.all x.1 (eM (show (x.1,x.2)∈_ from hx)).1
  ·rintro⟨⟨⟩,t⟩ s' ⟨rfl,hp,hf⟩;exact fin t hp hf
end
section
variable{X:Cx}
noncomputable def WW(x:Str):Str:=x++".<locals>."++"<lambda>"
def Uk(P:qT)(w:qU)(K:qV)(mg:Str->Option qQ)(base:Heap)(k:Nat)(cl:List (Str×qR))(is:List Nat)(ta tl:TA):TE:=λσ H Q=>ta σ H λvs H1=>∃n:Nat,vs=[.int (n:Int)]/\n<=1000/\tl σ H1 λws H2=>∃(f:qR) (C6:List V) (κ:Nat->Int),ws=[.ref f]/\At σ is C6/\YL P w K mg base k f cl C6 κ n H2 /\
 ∀(D:qR) (zs:qW) (H':Hp),AH H2 H'->H2 D=none->H' D=some (.lst (zs.map V.int))->zs.Perm (CM n)->Q (.ref D) H'
theorem Qu{k:Nat}{l v:Expr}{tl:TA}{p1 p2 pos1 pos2 kpos:Pos}{is:List Nat}(hc:X.calm=true)(hx:X.ex=[])(hr:Br (k+2) X.A)(hg:Gl X "range")(hm:X.mg "range"=none)(hg2:Gl X "sorted")(hm2:X.mg "sorted"=none)(ha:PA X [l] ta)(hk:PK X [⟨some "key",v,kpos⟩] tl)
  (hcl:Paired (λ(i:Nat) (q:Str×qR)=>X.N[i]?=some q.1/\X.env.kindOf q.1=some .cell/\X.env.cells.lookup q.1=some q.2/\X.fn q.1=true) is cl)
  (hs:starEach [l] X.env=[(false,eval l X.env)]:=by rfl)
  (hs1:backTo pos2 (starEach [.Call (.Name "range" p1) [l] [] pos1] X.env)=(false,eval (.Call (.Name "range" p1) [l] [] pos1) X.env)::backTo pos2 (starEach [] X.env):=by rfl) (hs2:(backTo pos2 (starEach [.Call (.Name "range" p1) [l] [] pos1] X.env)).any (·.1)=false:=by rfl) (hall:(backToKw pos2 (keywordEach [⟨some "key",v,kpos⟩] X.env)).all (·.1.isSome)=true:=by rfl) (hks:(backToKw pos2 (keywordEach [⟨some "key",v,kpos⟩] X.env)).filterMap (·.1)=[Str.ofString "key"]:=by rfl)
  (hkw:(backToKw pos2 (keywordEach [⟨some "key",v,kpos⟩] X.env)).any (·.1.isNone)=false:=by rfl):
  PE X (.Call (.Name "sorted" p2) [.Call (.Name "range" p1) [l] [] pos1] [⟨some "key",v,kpos⟩] pos2) (Uk X.prog X.w X.K X.mg X.base k cl is ta tl):=by
 intro ad s σ H Q I h;refine wpAny_Call_Name_kw (CL I hg2 hm2 PyProof.Rows.boot_sorted ?_);refine callWith_kw ?_ hs1 hs2 hall hkw;rw[hs1];refine Calls.spliced_cons (Call_ (CL I hg hm boot_range (bz (BN (ha pos1 ad s σ H _ I h) λus s1 z9=>?_) hs rfl)));obtain⟨vs,H1,I1,r1,q1⟩:=z9;rcases q1 with⟨n,e,n1,q⟩;subst e;cases r1 with
 |cons r rr =>
  cases rr;obtain⟨t,rfl⟩:=r;refine call_range_1 (Calls.spliced_nil ?_);have sm:Builtin.Range.small 0 (n:Int) 1=true:=small_one 0#1 0#1 0#1 0#1;obtain⟨ro,hro⟩:∃ro:Obj,ro={cls:=.type "range",data:=.fields #[.int 0 s1.toks,.int (n:Int) t,.int 1 (s1.toks+1)]}:=⟨_,rfl⟩;rw[<-hro];obtain⟨a,ha0⟩:∃a,a=s1.heap.objs.size:=⟨_,rfl⟩;have I1':AT X ad σ H1 {s1 with heap:=s1.heap.push ro,toks:=s1.toks+1+1}:=I1.kept (t':=s1.toks+1+1) λb o z=>bK _ z
  have ga:(s1.heap.push ro).get? a=some ro:=by rw[ha0,hro];exact ba _ rfl
  rcases I1.fpOk (fm ha0.symm) (I1.hok.fresh (fm ha0.symm)) with⟨b0,b1,b2,b3,b4,b5⟩
  have Ip:AT X ((a,ro)::ad) σ H1 {s1 with heap:=s1.heap.push ro,toks:=s1.toks+1+1}:=I1'.pins_of λp hp=>by
   rcases br.mp hp with z|z
   ·rw[z];exact⟨ga,b0,b1,b2,λv h=>by rw[hro]at h;cases h⟩
   ·exact I1'.pin p (bW _ z)
  refine BN (hk pos2 _ _ σ H1 _ Ip q) λws s2 z9=>?_;obtain⟨zs,H2,I2p,rz,f,C6,κ,hz,hAt,hF,qf⟩:=z9;subst hz;obtain⟨u,rfl,ru⟩:=FQ rz;obtain rfl:u=Value.ref f:=ru;rw[hks];obtain⟨ga2,_⟩:=I2p.pin _ (bW _ bo);have I2:AT X ad σ H2 s2:=I2p.pins_of λp hp=>I2p.pin p (bW _ (bi _ hp))
  rw[<-ha0];show wpAny _ _ (call (.builtin "sorted") [.ref a] [(Str.ofString "key",.ref f)]) _ _ _;refine call_function_entry_kw kind_sorted plain_sorted entry_sorted (Hd _ _) ?_;unfold Builtin.«sorted»
  have ir:IsRange s2.heap a 0 (n:Int) 1 s1.toks t (s1.toks+1):=by have z:=ga2;rw[hro]at z;exact z
  refine qC (m:=checkCount "sorted" 1 1 _) (qD (qC (collect_rng (A:=X.A.in1) (I.ok.hd hc) ir sm (n:=n) (by rw[rangeSize_one];split<;>lia) 0#1 λh3 tk gt k3 hacc=>?_)))
  have hv:IntsAre gt.toList (CM n):=C9 (K1 (by rw[bG,Be,cg,hacc.1]) λi x u e1 e2=>by
   have hi:i<n:=by have z:=(bJ.mp e1).1;rw[bG,Be]at z;exact z
   rw[bO,DH hi]at e1;cases e1;obtain⟨t',z⟩:=hacc.2 i u (by simpa using e2);exact⟨t',by rw[z,b7,fH]⟩)
  refine qC (wpAny_newList ?_ (by rw[cg,hacc.1,sizeLine_eq];lia));have gL:(h3.push (seqObj "list" gt.toList.toArray 0)).get? h3.objs.size=some (seqObj "list" gt.toList.toArray 0):=ba _ rfl;obtain⟨L,hL0⟩:∃L,L=h3.objs.size:=⟨_,rfl⟩;have I3:AT X ad σ H2 {s2 with heap:=h3,toks:=tk}:=I2.kept (t':=tk) k3;have I4:AT X ad σ H2 {s2 with heap:=h3.push (seqObj "list" gt.toList.toArray 0),toks:=tk}:=I3.kept (t':=tk) λb o z=>bK _ z
  have fL:C5 X ad H2 L:=I3.fpOk (fm hL0.symm) (I3.hok.fresh (fm hL0.symm));have nL:X.s₀.heap.objs.size<=L:=by rw[hL0];exact I3.sz
  rw[<-hL0]at gL;show wpAny _ _ (holding [.ref h3.objs.size] (call (.builtin "list.sort") [.ref h3.objs.size] [(Str.ofString "key",.ref f)]) >>= _) _ _ {s2 with heap:=h3.push (seqObj "list" gt.toList.toArray 0),toks:=tk};rw[<-hL0];rcases hF with⟨fd,ps,sp,F,hb,hsp⟩;refine qC (qO (wpAny_call_entry_kw slot_list_sort ⟨_,gL,rfl⟩ entry_list_sort (NA (A:=X.A.in1.in1) (κ:=κ) (n:=n) I4 fL gL hv n1 (λpins' H' s' x t' R' I' hS hx hR'=>?_) λH' s' out ns e' I' hS fL' gL' hns hp=>⟨_,rfl,qD ⟨_,rfl,?_⟩⟩) (Fj _ _)))
  ·have rm:Br k X.A.in1.in1:=Br.in1 (Br.in1 hr);refine Qs F hb rm rfl hcl hAt I' (vs:=[.int (x:Int)]) (.cons ⟨t',rfl⟩ .nil) (Q':=λv HE=>v=.int (κ x)/\AH H2 (Kg cl HE)) (λHC e1 hn ck ho=>hsp x hx H' HC _ hS e1 ck ho hn λHE eE=>⟨rfl,hS.trans (Sy hn (e1.trans eE))⟩) ?_;rintro v u HE s3 rv I3' ⟨rfl,hE⟩;exact hR' u _ s3 rv I3' hE
  ·have z:=hns.length;rw[hp.length_eq,Be,cg]at z;have nx:L∉X.ex:=by rw[hx];exact cG
   refine⟨.ref L,Ad H' L (.lst 1#3),I'.adopt fL' nx nL ⟨by rw[bG,hp.length_eq,Be,sizeLine_eq];lia,out.toList,e',ES hns,by rw[Array.toArray_toList];exact gL'⟩,rfl,qf L ns _ (hS.into fL.1) fL.1 AE hp⟩
end
noncomputable def S4:Expr->Option Int
 |.Constant (.int i) _ _=>some i
 |_=>none
noncomputable def Gw:List Expr->Option (qW)
 |[]=>some []
 |e::es=>(S4 e).bind λi=>(Gw es).map (i::·)
def YM(ns:qW):TA:=λ_ H Q=>Q 1#3 H
theorem S5{e:Expr}{i:Int}(h:S4 e=some i):∃j pos,e=.Constant (.int i) j pos:=by
 cases e with
 |Constant c j pos =>
  cases c with
  |int k=>cases h;exact⟨_,_,rfl⟩
  |_=>cases h
 |_=>cases h
theorem Ul{X:Cx}:∀{ns:qW},Gw es=some ns->PA X es (YM ns):=by
 induction es with
 |nil =>
  intro ns h;cases h;exact AC
 |cons e es ih =>
  intro ns h;obtain⟨i,h0,h⟩:=Option.bind_eq_some_iff.mp (show (S4 e).bind _=some ns from h);obtain⟨j,pos,rfl⟩:=S5 h0;obtain⟨ms,h1,rfl⟩:=cM.mp h;intro p ad s σ H Q I hq;exact AA (X:=X) (e:=.Constant (.int i) j pos) (AD (X:=X)) (ih h1) (by rfl) p ad s σ H Q I hq
def YN(ns:qW):TE:=λ_ H Q=>ns.length<=sizeLine/\∀p,H p=none->Q (.ref p) (Ad H p (.lst 1#3))
theorem Um{X:Cx}{ns:qW}(h:Gw es=some ns):PE X (.List es pos) (YN ns):=λad s σ H Q I hq =>
 BC (Ul h) ad s σ H Q I (by show (ns.map V.int).length<=sizeLine/\_;rw[bG];exact hq)
theorem YO{X:Cx}{ss:List Stmt}(h:∃t,F5 X ss t/\t D σ H):∃t,FU X ss t/\t D σ H:=by obtain⟨t,a,b⟩:=h;exact⟨t,F5.out a,b⟩
section
variable{prog:qT}{w:qU}{A:Around}{s:qS}
theorem OX{x left step:Int}{oa:Obj}{vs:Array qQ}{Q:Option qQ->qS->Prop}(hh:A.handled=some (.ref a))(ho:s.heap.get? a=some oa)(hd:oa.data=.fields vs)(hv:vs[2]?=some .none)(hit:IsRangeIter s.heap it x left step)(hleft:left<=0)
  (hQ:∀h',(∀b o,s.heap.get? b=some o->h'.get? b=some o)->Q none {s with heap:=h'}):wpAny 0#7 A (pyNext (.ref it)) Q E s:=by
 have hT:s.TypeIs (.ref it) "range_iterator":=⟨_,hit,rfl⟩;unfold pyNext
 refine qC (wpAny_attempt (wpAny_callSpecial?_slot (name:=Str.ofString "__next__") hT F.slot_range_iterator_next
  (wpAny_call_entry F.slot_range_iterator_next hT F.entry_range_iterator_next ?_ (F.args_range_iterator_next_1 _))))
 show wpAny _ _ (field (.ref it) 0 >>= _) _ _ s;refine qC (wpAny_field hit rfl (x:=rawInt x) rfl ?_);show wpAny _ _ (field (.ref it) 1 >>= _) _ _ s;refine qC (wpAny_field hit rfl (x:=rawInt left) rfl ?_);show wpAny _ _ (field (.ref it) 2 >>= _) _ _ s;refine qC (wpAny_field hit rfl (x:=rawInt step) rfl ?_);show wpAny _ _ (if left<=0 then _ else _) _ _ s;rw[qF hleft];refine qC (wpAny_rule ?_);refine qC ?_;show wpAny _ _ (newExc (.type "StopIteration") [] >>= _) _ _ _;refine qC ?_;simp only[newExc,newTuple];refine qC (wpAny_newObj_type ?_ (by size_fits));refine qC (m:=firstArgMember _ _) (wpAny_of_eq (a:=Value.none) (by first|rfl|(simp only[firstArgMember];rfl)) ?_);refine wpAny_newObj_type ?_ (by size_fits);simp only[raiseNew];refine qC (wpAny_handled ?_)
 first|rw[show A.in1.handled=some (.ref a) from hh]|rw[hh]
 dsimp only;have lt:=bP ho;have nlt:a<(s.heap.push {cls:=Value.type "tuple",data:=Data.seq #[]}).objs.size:=by rw[size_push'];exact dE lt
 have kp:∀b o,s.heap.get? b=some o->((s.heap.push {cls:=Value.type "tuple",data:=Data.seq #[]}).push {cls:=Value.type "StopIteration",data:=Data.fields (#[Value.ref s.heap.objs.size,Value.none,Value.none,Value.none,Value.bool false,Value.none]++ownMembersOf (Value.type "StopIteration") [])}).get? b=some o:=λb o e=>bK _ (bK _ e)
 have he:((s.heap.push {cls:=Value.type "tuple",data:=Data.seq #[]}).push {cls:=Value.type "StopIteration",data:=Data.fields (#[Value.ref s.heap.objs.size,Value.none,Value.none,Value.none,Value.bool false,Value.none]++ownMembersOf (Value.type "StopIteration") [])}).get? (s.heap.push {cls:=Value.type "tuple",data:=Data.seq #[]}).objs.size=some {cls:=Value.type "StopIteration",data:=Data.fields (#[Value.ref s.heap.objs.size,Value.none,Value.none,Value.none,Value.bool false,Value.none]++ownMembersOf (Value.type "StopIteration") [])}:=ba _ rfl;have new:∀b o,s.heap.get? b=some o->b≠(s.heap.push {cls:=Value.type "tuple",data:=Data.seq #[]}).objs.size:=λb o e=>by rw[size_push'];exact b9 (dE (bP e))
 generalize (s.heap.push {cls:=Value.type "tuple",data:=Data.seq #[]}).objs.size=n at nlt he new⊢;generalize (s.heap.push {cls:=Value.type "tuple",data:=Data.seq #[]}).push {cls:=Value.type "StopIteration",data:=Data.fields (#[Value.ref s.heap.objs.size,Value.none,Value.none,Value.none,Value.bool false,Value.none]++ownMembersOf (Value.type "StopIteration") [])}=h2 at kp he⊢;have nb:(Value.ref a != Value.ref n)=true:=bne_iff_ne.mpr λz=>b9 nlt (Value.ref.inj z)
 rw[qF nb];refine qC (qO (runValue_entry Jx ?_));unfold Builtin.«proto.unchain»;refine qC (wpAny_field (kp _ _ ho) hd hv ?_);rw[qF (show (Value.none==Value.none)=true from rfl)];refine qD ⟨_,rfl,qC ?_⟩;refine (show wpAny 0#7 A.in1 (setField (.ref n) 2 (.ref a)) _ _ _ from wpAny_setField he rfl (by rw[Array.size_append];exact bR (show 2<6 by decide) (gU 6 _)) (wpAny_throw ?_));refine qC (wpAny_isInstance (T:="StopIteration") (b:=true) ⟨_,fI _ he rfl,rfl⟩ isSubtype_stop ?_);exact qD (hQ _ λb o e=>by rw[dI _ _ _ _ (new b o e)];exact kp b o e)
end
def YQ(a:qR)(ta:TA)(g:TG)(tb:TS):TS:=λD σ H=>ta σ H λvs H1=>∃j:Int,vs=[.int j]/\-(2^62)<=j/\j<2^62/\∃W:Nat->Nat->St->Hp->Prop,(∃m,W 0 m σ H1)/\∀i m σ H,W i m σ H ->
 (j.toNat<=i/\H a=some (K4 a)/\D.nx σ H)\/(i<j.toNat/\∃N:St->Hp->Prop,(∀σ' H',N σ' H'->∃m',m'<m/\W (i+1) m' σ' H')/\g (.int (i:Int)) σ H λσ2 H2=>tb {D with nx:=N,ct:=N,bk:=D.nx} σ2 H2)
section
variable{X:Cx}
theorem Uo{e:Expr}{g:TG}{tb:TS}{p pos' pos:Pos}(hh:X.A.handled=some (.ref a))(hp:PassesOwn 0#6 X.A X.env X.xe)(hr:Gl X "range")(hm:X.mg "range"=none)(ha:PA X [e] ta)(hg:PG X tg g)(hb:FU X body tb)
  (hs1:starEach [e] X.env=[(false,eval e X.env)]:=by rfl) (hs:∀x,foldedSetIterable (.Call (.Name "range" p) [e] [] pos') X.env x=pure x:=by intro _;rfl):PS X (.For tg (.Call (.Name "range" p) [e] [] pos') body [] pos) (YQ a ta g tb):=by
 intro ad s σ H D I h;refine wpAny_For (Call_ (CL I hr hm boot_range (bz (BN (ha pos' ad s σ H _ I h) λus s1 z9=>?_) hs1 rfl))) hs;obtain⟨vs,H1,I1,r1,q1⟩:=z9;obtain⟨j,e,b1,b2,W,⟨m0,w0⟩,turn⟩:=q1;subst e;cases r1 with
 |cons r rr =>
 cases rr;obtain⟨t,rfl⟩:=r;refine call_range_1 ?_;refine wpAny_pyIter_range (IsRange.new ..) (small_one 0#1 0#1 b1 b2) ?_;obtain⟨ro,hro⟩:∃ro:Obj,ro={cls:=.type "range",data:=.fields #[.int 0 s1.toks,.int j t,.int 1 (s1.toks+1)]}:=⟨_,rfl⟩;rw[<-hro];have I2:AT X ad σ H1 {s1 with heap:=s1.heap.push ro,toks:=s1.toks+1+1}:=I1.kept λb o e=>bK _ e
 obtain⟨it,hit⟩:∃it,it=(s1.heap.push ro).objs.size:=⟨_,rfl⟩
 have st0:IsRangeIter ((s1.heap.push ro).push {cls:=.type "range_iterator",data:=.fields #[rawInt 0,rawInt (Builtin.Range.rangeSize 0 j 1),rawInt 1]}) it (((0:Nat):Int)) ((j.toNat:Int)-((0:Nat):Int)) 1:=by
  have e2:((j.toNat:Nat):Int)-((0:Nat):Int)=Builtin.Range.rangeSize 0 j 1:=by rw[rangeSize_one];split<;>lia
  rw[e2,hit];exact ba _ rfl
 have I3:AT X ad σ H1 {s1 with heap:=(s1.heap.push ro).push {cls:=.type "range_iterator",data:=.fields #[rawInt 0,rawInt (Builtin.Range.rangeSize 0 j 1),rawInt 1]},toks:=s1.toks+1+1}:=I2.kept (t':=s1.toks+1+1) λb o e=>bK _ e
 obtain⟨f0,f1,f2,f3,f4,f5⟩:C5 X ad H1 it:=I2.fpOk (fm hit.symm) (I2.hok.fresh (fm hit.symm));rw[<-hit];refine codeAny_forLoop_any (λn s'=>∃i σ' H',AT X ad σ' H' s'/\IsRangeIter s'.heap it ((i:Nat):Int) ((j.toNat:Int)-(i:Nat)) 1/\H' it=none/\W i n σ' H') ?_ m0 ⟨0,σ,H1,I3,st0,f0,w0⟩;clear I3 st0 I2 hit;rintro n s3 ⟨i,σ3,H3,I3,st3,fr3,w3⟩;rcases turn i n σ3 H3 w3 with⟨stop,hx,qn⟩|⟨go,N,hN,step⟩
 ·obtain⟨⟨oh,vh,hoh,hdh,hvh⟩,_,_⟩:=(show Ax X.prog X.w H3 s3.heap a (K4 a) from I3.hok a _ hx);refine wpAny_passesOwn hp (OX hh hoh hdh hvh st3 0#1 λh' kp=>?_);exact wpAny_execs_nil ⟨σ3,H3,I3.kept (t':=s3.toks) kp,qn⟩
 ·refine wpAny_passesOwn hp (wpAny_pyNext_range_item st3 0#1 λh' st' sb=>?_);have I4:AT X ad σ3 H3 {s3 with heap:=h',toks:=s3.toks+1}:=I3.turned (λb o hb e=>(sb.2 b hb).trans e) fr3 f1 f3 f4 f5;refine wpAny_passesOwn hp (Lr (s:={s3 with heap:=h',toks:=s3.toks+1}) (n:="range_iterator") st' rfl rfl 0#8 ?_);obtain⟨io,hio⟩:∃io,h'.get? it=some io/\∀v,io.data≠.cell v:=⟨_,st',λv z=>by have z':Data.fields _=Data.cell v:=z;cases z'⟩;have I5:AT X (ad++[(it,io)]) σ3 H3 {s3 with heap:=h',toks:=s3.toks+1}:=I4.pins_of λq hq=>(bQ.mp hq).elim (λz=>I4.pin q (bW _ z)) λz=>by rw[bV.mp z];exact⟨hio.1,fr3,f1,f2,hio.2⟩
  refine wpAny_passesOwn hp (BN (hg _ _ σ3 H3 (.int (i:Int)) _ _ I5 ⟨_,rfl⟩ step) λ_ s6 z9=>?_);obtain⟨σ6,H6,I6,q6⟩:=z9;refine wpAny_passesOwn hp (BN (hb _ s6 σ6 H6 _ I6 q6) λf s7 q7=>?_)
  have again:∀{σ7:St} {H7:Hp},AT X (ad++[(it,io)]) σ7 H7 s7->N σ7 H7->∃m,m<n/\∃i σ' H',AT X ad σ' H' s7/\IsRangeIter s7.heap it ((i:Nat):Int) ((j.toNat:Int)-(i:Nat)) 1/\H' it=none/\W i m σ' H':=λ{σ7 H7} I7 n7=>by
   obtain⟨m',hm',w7⟩:=hN σ7 H7 n7;obtain⟨z1,z2,_⟩:=I7.pin (it,io) (bW _ (bW _ (bV.mpr rfl)));refine⟨m',hm',i+1,σ7,H7,I7.unpinned,?_,z2,w7⟩;have y:h'.get? it=some io:=hio.1;have e:IsRangeIter h' it ((i:Int)+1) ((j.toNat:Int)-(i:Nat)-1) 1:=st';have x1:((i:Int)+1)=((i+1:Nat):Int):=by lia
   have x2:(j.toNat:Int)-(i:Nat)-1=(j.toNat:Int)-((i+1:Nat):Int):=by lia
   rw[x1,x2]at e;exact z1.trans (y.symm.trans e)
  cases f with
  |next=>obtain⟨σ7,H7,I7,n7⟩:=q7;exact again I7 n7
  |cont=>obtain⟨σ7,H7,I7,n7⟩:=q7;exact again I7 n7
  |brk=>obtain⟨σ7,H7,I7,q7⟩:=q7;exact⟨σ7,H7,I7.unpinned,q7⟩
  |ret v=>obtain⟨x7,σ7,H7,I7,r7,q7⟩:=q7;exact⟨x7,σ7,H7,I7.unpinned,r7,q7⟩
theorem YR{j:Int}{g:TG}{tb:TS}(Pv:Nat->St->Hp->Prop)(h0:Pv 0 σ H)(hs:∀i σ H,i<j.toNat->Pv i σ H->g (.int (i:Int)) σ H λσ2 H2=>tb {D with nx:=Pv (i+1),ct:=Pv (i+1),bk:=D.nx} σ2 H2)(hd:∀σ H,Pv j.toNat σ H->H a=some (K4 a)/\D.nx σ H):
  ∃W:Nat->Nat->St->Hp->Prop,(∃m,W 0 m σ H)/\∀i m σ H,W i m σ H->(j.toNat<=i/\H a=some (K4 a)/\D.nx σ H)\/(i<j.toNat/\∃N:St->Hp->Prop,(∀σ' H',N σ' H'->∃m',m'<m/\W (i+1) m' σ' H')/\g (.int (i:Int)) σ H λσ2 H2=>tb {D with nx:=N,ct:=N,bk:=D.nx} σ2 H2):=by
 refine⟨λi m σ H=>m=j.toNat-i/\i<=j.toNat/\Pv i σ H,⟨_,rfl,cS _,h0⟩,?_⟩;rintro i m σ H ⟨rfl,hi,p⟩
 by_cases hlt:i<j.toNat
 ·exact .inr ⟨hlt,Pv (i+1),λσ' H' p'=>⟨_,by lia,rfl,hlt,p'⟩,hs i σ H hlt p⟩
 ·obtain rfl:i=j.toNat:=by lia
  exact .inl ⟨bL _,hd σ H p⟩
end
structure Kh(k:Nat)(A:Around):Prop where
 dp:A.depth+3*k+5<recursionLimit
 un:A.units+16*k+200<cLine
theorem Kh.deeper{k:Nat}{A:Around}(r:Kh (k+1) A)(env:Env):Kh k (A.deeper env):=
 ⟨by have:=r.dp;show A.depth+1+3*k+5<_;lia,by have:=r.un;show A.units+3+16*k+200<_;lia⟩
structure VY(P:qT)(w:qU)(K:qV)(mg:Str->Option qQ)(base:Heap)(k:Nat)(f:qR)(fd:FuncData)(ps:List Str)(sp:qR->Sp):Prop where
 len:∀a vs H Q,sp a vs H Q E0->vs.length=ps.length
 run:∀(a:qR) (A:Around) (outer:List Env) (s:qS) (H:Hp) (args:Args) (us:List qQ) (vs:List V) (Q:VK),A.handled=some (.ref a)->Kh k A->NV P w K mg base A outer s H->BindsTo s fd args (ps.zip us)->Av vs us->sp a vs H Q E0 ->
  codeAny (model P w) A (.call (.ref f) args) (λr s'=>∃u,r=.ok (.ret u)/\CE outer P w H s Q u s') s
structure Up(P:qT)(w:qU)(K:qV)(mg:Str->Option qQ)(base:Heap)(k:Nat)(f:qR)(ps:List Str)(sp:qR->Sp):Prop where
 ex:∃fd,VY P w K mg base k f fd ps sp/\Dv K fd ps []
 kp:PySem.W.keepIn K (.ref f)=true
noncomputable def Zo(P:qT)(w:qU)(K:qV)(mg:Str->Option qQ)(base:Heap)(N:List Str)(qual:Str)(scope:Scope)(f:qR)(cd:qQ)(A:Around)(outer:List Env)(s:qS)(H:Hp):Cx:=
 {DX (Js P w) P w K mg base N qual scope f cd A outer s H E0 with calm:=false,xe:=λ_ _=>False}
section
variable{P:qT}{w:qU}{K:qV}{mg:Str->Option qQ}{base:Heap}{x:Str}{f:qR}{N:List Str}{k:Nat}{sp:qR->Sp}
theorem Bl.okH(F:Bl K x qual st f fd)(S:AJ N ps (AG st)) (hbody:∀a vs H Q,sp a vs H Q E0->vs.length=ps.length /\
  ∀(gu:qQ) (A:Around) (outer:List Env) (s:qS),A.handled=some (.ref a)->Kh k (A.deeper (envOfC qual (AG st) s.heap.objs.size f gu)) ->
   ∃t,FU (Zo P w K mg base N qual (AG st) f gu A outer s H) (BH st) t/\t {nx:=λ_ H'=>Q .non H',rt:=Q} (B4 N vs) H):VY P w K mg base (k+1) f fd ps sp:=by
 obtain⟨oc,od,kV,doc,pm,an,gu,ct,osl,rfl,lk,hcd⟩:=F.ex;refine⟨λa vs H Q q=>(hbody a vs H Q q).1,λa A outer s H args us vs Q hh hr e0 hb r hsp=>?_⟩;obtain⟨hl,body⟩:=hbody a vs H Q hsp;have KX:K.In s.heap:=e0.mod.kin.keeps λb o e=>(e0.bs b o e).1
 have lim:s.heap.NoLimit:=e0.mod.nolimit.keeps λb o e=>(e0.bs b o e).1
 have hkind:∀y∈ps.zip us,(AG st).names.lookup y.1=some .local\/((AG st).names.lookup y.1=some .cell/\((cellsFrom 1#5 (AG st).names []).lookup y.1).isSome=true):=λ⟨n,v⟩ hy=>by
  rcases S.par n (eM hy).1 with q|q
  ·exact .inl q
  ·exact .inr ⟨q,fB _ _ _ (.inl q)⟩
 refine codeAny_call_function (by have:=hr.dp;lia) (KX _ _ lk) rfl S.co S.gen rfl (PySem.W.codeRec_of KX hcd) (hb _ _ _ _ ?_);refine wpAny_newFunctionEnv_cells S.kind hkind λenv he s1 x=>?_;subst he;refine⟨lim.keeps x.toInCall.keep,codeAny_func ?_⟩;obtain⟨t,ht,hq⟩:=body gu A outer s hh (hr.deeper _);have e1:NV P w K mg base {A with handled:=none} outer s H:=⟨e0.frames,e0.mod,e0.bs,e0.bsz,e0.funs,e0.frf,e0.hok,e0.bare⟩;have I0:AT (DX (Js P w) P w K mg base N qual (AG st) f gu {A with handled:=none} outer s H E0) [] (B4 N vs) H s1:=KE S rfl e1 hl r x
 have I:AT (Zo P w K mg base N qual (AG st) f gu A outer s H) [] (B4 N vs) H s1:=
  ⟨⟨I0.ok.mod,I0.ok.kind,I0.ok.glob,I0.ok.blt,I0.ok.above,I0.ok.inj,I0.ok.has,I0.ok.cab,λz=>qG z (by show ¬(false=true);decide),Around.frames_deeper e0.frames,I0.ok.stk,I0.ok.exf,I0.ok.bs,I0.ok.bsz,I0.ok.noex,I0.ok.exfs,I0.ok.funs,I0.ok.frf⟩,
   I0.os,I0.bare,I0.base,I0.loc,I0.cell,I0.free,I0.freeC,I0.pin,I0.hok,I0.len⟩
 refine qM (ht [] s1 (B4 N vs) H _ I hq) (λfl s' hs=>?_) λe s' hs=>hs.elim
 have fin:∀{σ':St} {H':Hp} {v:V} {u:qQ},AT (Zo P w K mg base N qual (AG st) f gu A outer s H) [] σ' H' s'->A5 v u->Q v H'->CE outer P w H s Q u s':=
  λ{σ' H' v u} J rv q=>⟨v,H',J.os,J.bare,J.base,J.hok,rv,q⟩
 cases fl with
 |ret u =>
  obtain⟨v,σ',H',J,rv,q⟩:=hs;exact⟨u,rfl,fin J rv q⟩
 |next =>
  obtain⟨σ',H',J,q⟩:=hs;exact⟨.none,rfl,fin (v:=V.non) (u:=Value.none) J rfl q⟩
 |brk =>
  obtain⟨_,_,_,q⟩:=hs;exact False.elim q
 |cont =>
  obtain⟨_,_,_,q⟩:=hs;exact False.elim q
theorem YS(D:∃fd,Bl K x qual st f fd)(S:AJ N ps (AG st))(bd:DI x qual st ps) (hbody:∀a vs H Q,sp a vs H Q E0->vs.length=ps.length /\
  ∀(gu:qQ) (A:Around) (outer:List Env) (s:qS),A.handled=some (.ref a)->Kh k (A.deeper (envOfC qual (AG st) s.heap.objs.size f gu)) ->
   ∃t,FU (Zo P w K mg base N qual (AG st) f gu A outer s H) (BH st) t/\t {nx:=λ_ H'=>Q .non H',rt:=Q} (B4 N vs) H):Up P w K mg base (k+1) f ps sp:=by
 obtain⟨fd,F⟩:=D;exact⟨⟨fd,F.okH S hbody,F.binds bd⟩,F.kp⟩
end
section
variable{X:Cx}{k k':Nat}{f:qR}{sp:qR->Sp}{x:Str}{p:Pos}{e:Expr}{t:TA}
theorem S6(hr:Br k' X.A)(G:Up X.prog X.w X.K X.mg X.base k f ps sp)(hm:X.mg x=some (.ref f))(ha:PA (X.hdl (.ref a)) (e::es) t)(hk:k<=k':=by decide)(hg:Gl X x:=by rfl)
  (hdb:(x==("__debug__":Str))=false:=by decide) (he:starEach (e::es) X.env=(false,eval e X.env)::starEach es X.env:=by rfl) (hpl:(backTo pos (starEach es X.env)).any (·.1)=false:=by rfl):
  PE (X.hdl (.ref a)) (.Call (.Name x p) (e::es) [] pos) (GV (sp a) [] (λ_=>E0) t):=by
 obtain⟨⟨fd,F,hb⟩,kp⟩:=G;intro ad s σ H Q I h;refine wpAny_Call_Name_kw (Fn I hg hm ?_ hdb);refine PySem.W.callWith_K (h₀:=X.base) I.ok.mod.kin kp (BN (ha pos ad s σ H _ I h) λus s1 ⟨vs,H1,I1,r,q⟩=>⟨I1.kIn,?_⟩) he hpl;have q:sp a vs H1 Q E0:=by have z:sp a (vs++[]) H1 Q E0:=q;rw[cA]at z;exact z
 have hl:us.length=ps.length:=by rw[<-r.length];exact F.len _ _ _ _ q
 refine wpAny_call (codeAny_mono (F.run a (X.hdl (.ref a)).A X.stack s1 H1 ⟨us,[]⟩ us vs Q rfl ⟨(hr.mono hk).dp,(hr.mono hk).un⟩ I1.env0 (by have z:=hb s1 us I1.kIn (by rw[cA];exact hl);rw[cA]at z;exact z) r q) λrs s2 ⟨u,e,hq⟩=>?_);subst e;exact I1.after hq
end
def YT(K:qV)(R:qQ)(W:St->XK)(tb:TS)(th:qR->TS):TS:=λD σ H=>tb D σ H/\∀σ' cls D' H',W σ' cls D' H'->PySem.W.exmOne K cls R=some true/\∀a,H' a=none->th a D σ' (Ad H' a (K4 a))
section
variable{X:Cx}{x:Str}{R:qR}{W:St->XK}{b:List Stmt}{c0:Stmt}{suite:List Stmt}{tb:TS}{th:qR->TS}{xp hpos:Pos}
theorem Uq(hg:Gl X x)(hm:X.mg x=some (.ref R))(hst:X.stack=X.env::X.outer)(hfr:X.env.frame=some X.env.locals)
  (hb:∀p,FU (X.trN p W) b tb) (hsu:∀a,FU (X.hdl (.ref a)) (c0::suite) (th a)) (hd:(x==("__debug__":Str))=false:=by decide):
  PS X (.Try b [.ExceptHandler (some (.Name x xp)) none (c0::suite) hpos] [] [] pos) (YT X.K (.ref R) W tb th):=by
 intro ad s σ H D I h;obtain⟨h1,h2⟩:=h;refine wpAny_Try_except (qM (hb (X.pn++ad) [] s σ H D (I.but _) h1) (λf s1 q=>?_) λe s1 q=>?_)
 ·have q':SP X ad D f s1:=SP.unbut (pins':=[]) q;cases f with
  |next=>exact wpAny_execs_nil q'
  |ret u=>exact q'
  |brk=>exact q'
  |cont=>exact q'
 ·obtain⟨pins0,σ0,H0,s0,I0,a,cls,a0,D',B,H',rfl,F,hW⟩:=q;have J0:AT X ad σ0 H0 s0:=I0.unbut;obtain⟨hx,hth⟩:=h2 σ0 cls D' H' hW;have fl:Heap.FlyingW B (X.env::X.outer) a cls a0 s1.heap:=by rw[<-hst];exact F.fly
  refine qM (KT.run (Ox _ _) (wpAny_looks_onW (Q:=λ_ s4=>∃h4,s4={s1 with heap:=h4}/\Heap.HeldW B (X.env::X.outer) a cls a0 X.env.locals h4/\s1.heap.UpToSlots h4) (E:=λ_ _=>False) (by rw[<-hst];exact J0.ok.frames) hfr fl λh4 held4 sm4=>⟨h4,rfl,held4,sm4⟩)) (λ_ s4 q=>?_) λ_ _ q=>q.1.elim
  obtain⟨⟨h4,rfl,held4,sm4⟩,dk4⟩:=q;refine qM (KT.run (EF _ _) (wpAny_landsW (Q:=λ_ s5=>∃h5,s5={s1 with heap:=h5}/\Heap.FlyingW B (X.env::X.outer) a cls a0 h5/\h4.UpToSlots h5) (E:=λ_ _=>False) (s:={s1 with heap:=h4}) held4 λh5 fl5 sm5=>⟨h5,rfl,fl5,sm5⟩)) (λ_ s5 q=>?_) λ_ _ q=>q.1.elim
  obtain⟨⟨h5,rfl,fl5,sm5⟩,dk5⟩:=q;have J5:AT X ad σ0 H' {s1 with heap:=h5,toks:=s1.toks}:=F.land J0 fl5.1 (sm4.trans sm5);have K5:=J5.hdl (.ref a);refine wpAny_handleBy_cons (codeAny_handlers_test (Fn K5 hg hm ?_ hd)) (by intro q;cases q);obtain⟨ob,hob,hobc⟩:=fl5.there
  have LT:PySem.W.Looks 0#6 h5 (typeOf (.ref a)) cls:=by subst hobc;exact (PySem.W.Looks.ld hob).andThen .now
  refine (PySem.W.exm_one J5.kIn LT hx).here ?_;show codeAny _ _ _ _ _;refine codeAny_handlers_suite ?_;refine qM (KT.run (EF _ _) (lands_againW (Q:=λ_ s6=>∃h6,s6={s1 with heap:=h6}/\Heap.FlyingW B (X.env::X.outer) a cls a0 h6/\h5.UpToSlots h6) (E:=λ_ _=>False) (s:={s1 with heap:=h5}) fl5 λh6 fl6 sm6=>⟨h6,rfl,fl6,sm6⟩)) (λ_ s6 q=>?_) λ_ _ q=>q.1.elim
  obtain⟨⟨h6,rfl,fl6,sm6⟩,dk6⟩:=q;have J6:AT X ad σ0 (Ad H' a (K4 a)) {s1 with heap:=h6,toks:=s1.toks}:=F.landN J0 fl6 ((sm4.trans sm5).trans sm6) ((dk4.trans dk5).trans dk6);have run:=hsu a ad _ σ0 _ D (J6.hdl (.ref a)) (hth a F.fresh.1);refine qM run (λf s8 q8=>?_) λ_ _ z=>z.elim
  cases f with
  |next=>obtain⟨σ8,H8,I8,q8⟩:=q8;exact⟨σ8,H8,I8.unhdl J5.ok.hd,q8⟩
  |brk=>obtain⟨σ8,H8,I8,q8⟩:=q8;exact⟨σ8,H8,I8.unhdl J5.ok.hd,q8⟩
  |cont=>obtain⟨σ8,H8,I8,q8⟩:=q8;exact⟨σ8,H8,I8.unhdl J5.ok.hd,q8⟩
  |ret u=>obtain⟨v8,σ8,H8,I8,r8,q8⟩:=q8;exact⟨v8,σ8,H8,I8.unhdl J5.ok.hd,r8,q8⟩
end
end L2
namespace L2
open PySem PySem.Spec PyProof.Rows RW
variable{G M' gq i j m' mf:Nat}{H H':Hp}{M:List (qX)}{S:qX->qX->Prop}{a:qR}{f:qX->Nat}{lf lo lo' low' z:Int}{p:qX}{q:Nat->qX}{st:Stmt}{g6 tab' tf:qW}
def WX:TS:=λ_ _ _=>False
theorem Ec{X:Cx}:PS X st WX:=λ_ _ _ _ _ _ h=>h.elim
inductive DT(K:qV)(vs:List V)(H:Hp)(Q:VK)(z3_:XK):Prop
 |m (a:qR) (xs:List V) (g:Int):vs=[.ref a,.int g]->Ae K H a xs->(∀x∈xs,Kd H x)->(match CU g xs with|none=>∀H',AH H H'->Q .non H'|some _=>False)->DT K vs H Q z3_
inductive E5(K:qV)(vs:List V)(H:Hp)(Q:VK)(z3_:XK):Prop
 |m (a:qR) (xs:List V) (g:Int) (m:Nat):vs=[.ref a,.int g,.int ((m:Nat):Int)]->Ae K H a xs->(∀x∈xs,Kd H x)->(match Et g m xs with|none=>∀H',AH H H'->Q .non H'|some _=>False)->E5 K vs H Q z3_
inductive Gx(K:qV)(vs:List V)(H:Hp)(Q:VK)(z3_:XK):Prop
 |m (a:qR) (xs:List V) (g:Int):vs=[.ref a,.int g]->2<=g->g<=9->Ae K H a xs->(∀x∈xs,Kd H x)->(match CU g xs with|none=>∀ns:qW,xs=ns.map V.int->∀H',AH H H'->Q (.int (Ao g ns)) H'|some _=>False)->Gx K vs H Q z3_
inductive IH(K:qV)(vs:List V)(H:Hp)(Q:VK)(z3_:XK):Prop
 |m (r a:qR) (g lo:Int) (g6:qW) (m:Nat) (xs:List V):vs=[.ref r,.ref a]->2<=g->g<=9->Au H r g lo g6->(g6.length:Int)=g^m->Ae K H a xs->(∀x∈xs,Kd H x)->(match Et g m xs with|none=>∀ns:qW,xs=ns.map V.int->∀H',AH H H'->Q (.int (g6.getD (Ao g ns).toNat 0)) H'|some _=>False)->IH K vs H Q z3_
inductive FM(vs:List V)(H:Hp)(Q:VK)(z3_:XK):Prop
 |m (n g m:Int):vs=[.int n,.int g,.int m]->2<=g->g<=9->0<=m->m<=300->((n<0\/g^m.toNat<=n)->False)->(0<=n->n<g^m.toNat->∀r H',Fa H H' r (RW.DN g n m.toNat).reverse->Q (.ref r) H')->FM vs H Q z3_
inductive Ld(vs:List V)(H:Hp)(Q:VK)(z3_:XK):Prop
 |m (g lo:Int):vs=[.int g,.int lo]->2<=g->g<=9->Q .non H->Ld vs H Q z3_
inductive OY(vs:List V)(H:Hp)(Q:VK)(z3_:XK):Prop
 |m (g:Int) (a:qR) (g6:qW) (m:Nat):vs=[.int g,.ref a]->2<=g->g<=9->1<=m->(g6.length:Int)=g^m->g^m<=256->(∀n∈g6,0<=n/\n<g)->H a=some (.lst (g6.map V.int))->(∀H',AH H H'->Q .non H')->OY vs H Q z3_
inductive Gy(vs:List V)(H:Hp)(Q:VK)(z3_:XK):Prop
 |m (g lo:Int) (a:qR) (g6:qW) (m:Nat):vs=[.int g,.int lo,.ref a]->2<=g->g<=9->1<=m->(g6.length:Int)=g^m->g^m<=256->(∀n∈g6,0<=n/\n<g)->H a=some (.lst (g6.map V.int))->(∀r' H',AH H H'->Au H' r' g lo g6->Q (.ref r') H')->Gy vs H Q z3_
theorem Fk{g:Int}{m:Nat}{Q:VK}{E:XK}(g2:2<=g)(g9:g<=9)(m1:1<=m)(len:(g6.length:Int)=g^m)(sz:g^m<=256)(tb:∀n∈g6,0<=n/\n<g)(hs:H a=some (.lst (g6.map V.int))\/False)
  (q:∀r' H',AH H H'->Au H' r' g lo g6->Q (.ref r') H'):Gy [.int g,.int lo,.ref a] H Q E:=by
 obtain hs|z:=hs
 ·exact⟨g,lo,a,g6,m,rfl,g2,g9,m1,len,sz,tb,hs,q⟩
 ·exact z.elim
noncomputable def GJ(k g s h t:Nat):Nat:=
 if k=1 then h/s*s+t%s
 else if k=2 then (if h=g-1\/t≠g-1 then h else (h+s)%(g-1))
 else if k=4 then (s/16*h+s%16*t)%g
 else if k=5 then (h/4+t/2)%2*4+(h/2+t)%2*2+h%2
 else if h<2 then (h+if t=3 then 1 else 0)%2 else if h<g-1/\t=g-1 then 2+(h-1)%(g-3) else h
noncomputable def C1(k g s d a:Nat):Nat:=
 if k=3 then
  if s%2=0 then (a/4%2+if a/8%2=s/2/\a/2%2=1-s/2/\a%2=s/2 then 1 else 0)%2
  else (a/2%2+if a/8%2=s/2/\a/4%2=1-s/2/\a%2=s/2 then 1 else 0)%2
 else if d=0 then GJ k g s (a/g) (a%g) else GJ k g s (a%g) (a/g)
structure Bt where
 k:Nat
 g:Nat
 s:Nat
 d:Nat
 h:Nat
 R:Nat
 e:Nat
 top:Nat
 ch:List (qX)
noncomputable def OZ (n:Nat) (f:Nat->Bool):Bool:=Nat.rec true (λi r=>cond (f i) r false) n
noncomputable def Ur (n:Nat) (f:Nat->Bool):Bool:=Nat.rec false (λi r=>cond (f i) true r) n
theorem ET{f:Nat->Bool}:∀{n:Nat},OZ n f=true->∀i,i<n->f i=true
 |n+1,h,i,hi=>by
  have h:cond (f n) (OZ n f) false=true:=h;cases e:f n with
  |false=>rw[e]at h;cases h
  |true =>
   rw[e]at h;rcases Nat.lt_succ_iff_lt_or_eq.mp hi with z|z
   ·exact ET h i z
   ·rw[z];exact e
theorem Le{f:Nat->Bool}:∀{n:Nat},Ur n f=true->∃i,i<n/\f i=true
 |0,h=>by cases h
 |n+1,h=>by
  have h:cond (f n) true (Ur n f)=true:=h;cases e:f n with
  |true=>exact⟨n,d7 n,e⟩
  |false =>
   rw[e]at h;obtain⟨i,hi,z⟩:=Le h;exact⟨i,dE hi,z⟩
noncomputable def Bt.tab (c:Bt):Nat:=Nat.rec 0 (λi r=>Nat.lor r (Nat.shiftLeft (C1 c.k c.g c.s c.d i) (4*i))) (c.h*c.g)
noncomputable def Bt.t (c:Bt) (a:Nat):Nat:=Nat.land (Nat.shiftRight c.tab (4*a)) 15
noncomputable def Bt.r (c:Bt) (x y:Nat):Nat:=cond (Nat.beq x y) c.e (Nat.land (Nat.shiftRight c.R (3*(x*c.h+y))) 7)
noncomputable def Bt.on (c:Bt):List (qX)->Bool
 |[]=>true
 |[_]=>true
 |p::q::l=>Nat.beq (p.1%c.h) (q.1/c.g)&&Nat.beq (p.2%c.h) (q.2/c.g)&&c.on (q::l)
noncomputable def Bt.ok (c:Bt):Bool:=
 OZ (c.h*c.g) (λa=>Nat.beq (c.t a) (C1 c.k c.g c.s c.d a)&&Nat.blt (c.t a) c.g) &&
 Ur (c.h*c.g) (λa=>!(Nat.beq (c.t a) (c.t (a%c.h))))&&Ur (c.h*c.g) (λa=>!(Nat.beq (c.t a) (c.t (a/c.g*c.g)))) &&
 OZ (c.h*c.g) (λa=>OZ (c.h*c.g) λb=>Nat.beq a b||!(Nat.beq (c.t a) (c.t b))||Nat.blt (c.r (a/c.g) (b/c.g)) (c.r (a%c.h) (b%c.h))) &&
 OZ c.h (λx=>OZ c.h λy=>Nat.ble (c.r x y) c.top)&&Nat.ble c.e c.top &&
 c.ch.all (λp=>Nat.blt p.1 (c.h*c.g)&&Nat.blt p.2 (c.h*c.g)&&!(Nat.beq p.1 p.2)&&Nat.beq (c.t p.1) (c.t p.2))&&c.on c.ch
noncomputable def EU:List Bt:=[
 ⟨1,4,2,0,4,0x10002400080,1,2,[]⟩,
 ⟨1,4,2,1,4,0x80400002010,1,2,[]⟩,
 ⟨1,6,2,0,6,0x10400082400402002410002080,1,2,[]⟩,
 ⟨1,6,2,1,6,0x80010000002000400000080010,1,2,[]⟩,
 ⟨1,6,3,0,6,0x2000010000090000080000400,1,2,[]⟩,
 ⟨1,6,3,1,6,0x90010400480000012002080090,1,2,[]⟩,
 ⟨1,8,2,0,8,0x10410002082400410080082410010082002410400082080,1,2,[]⟩,
 ⟨1,8,2,1,8,0x80000400000002000010000000080000400000002000010,1,2,[]⟩,
 ⟨1,8,4,0,8,0x400000080000010000002400000080000010000002000,1,2,[]⟩,
 ⟨1,8,4,1,8,0x92000412000482000490000000092000412000482000490,1,2,[]⟩,
 ⟨1,9,3,0,9,0x10080000402000010090000400400010010000480400002010000080400,1,2,[]⟩,
 ⟨1,9,3,1,9,0x480000410000090000000012000010400002400000000480000410000090,1,2,[]⟩,
 ⟨2,3,1,0,3,0x490288,0,2,[]⟩,
 ⟨2,3,1,1,3,0x208,2,2,[]⟩,
 ⟨2,4,1,0,4,0x92409441448,0,2,[]⟩,
 ⟨2,4,1,1,4,0x9041048,2,2,[]⟩,
 ⟨2,4,2,0,4,0x92409441448,0,2,[]⟩,
 ⟨2,4,2,1,4,0x9041048,2,2,[]⟩,
 ⟨2,5,1,0,5,0x49240928825120a248,0,2,[]⟩,
 ⟨2,5,1,1,5,0x8208200208208,2,2,[]⟩,
 ⟨2,5,2,0,5,0x49240928825120a248,0,2,[]⟩,
 ⟨2,5,2,1,5,0x1000041000040,2,2,[]⟩,
 ⟨2,5,3,0,5,0x49240928825120a248,0,2,[]⟩,
 ⟨2,5,3,1,5,0x8208200208208,2,2,[]⟩,
 ⟨2,6,1,0,6,0x92490249441251209449051248,0,2,[]⟩,
 ⟨2,6,1,1,6,0x201041000208001041008,2,2,[]⟩,
 ⟨2,6,2,0,6,0x92490249441251209449051248,0,2,[]⟩,
 ⟨2,6,2,1,6,0x48000241001048000240,2,2,[]⟩,
 ⟨2,6,3,0,6,0x92490249441251209449051248,0,2,[]⟩,
 ⟨2,6,3,1,6,0x48000241001048000240,2,2,[]⟩,
 ⟨2,6,4,0,6,0x92490249441251209449051248,0,2,[]⟩,
 ⟨2,6,4,1,6,0x201041000208001041008,2,2,[]⟩,
 ⟨2,7,1,0,7,0x49249024928824944824a248251248289248,0,2,[]⟩,
 ⟨2,7,1,1,7,0x200208200008200008200008208008,2,2,[]⟩,
 ⟨2,7,2,0,7,0x49249024928824944824a248251248289248,0,2,[]⟩,
 ⟨2,7,2,1,7,0x41000041040040040041040001040,2,2,[]⟩,
 ⟨2,7,3,0,7,0x49249024928824944824a248251248289248,0,2,[]⟩,
 ⟨2,7,3,1,7,0x8000008000008200000200000200,2,2,[]⟩,
 ⟨2,7,4,0,7,0x49249024928824944824a248251248289248,0,2,[]⟩,
 ⟨2,7,4,1,7,0x41000041040040040041040001040,2,2,[]⟩,
 ⟨2,7,5,0,7,0x49249024928824944824a248251248289248,0,2,[]⟩,
 ⟨2,7,5,1,7,0x200208200008200008200008208008,2,2,[]⟩,
 ⟨4,9,19,0,9,0x48a45241229149048a44a41229229048a48a41225229049148a412452290,0,2,[]⟩,
 ⟨4,9,19,1,9,0x8040000201000008048000200200008008000240200001008000040200,2,2,[]⟩,
 ⟨4,9,22,0,9,0x48a45241229149048a44a41229229048a48a41225229049148a412452290,0,2,[]⟩,
 ⟨4,9,22,1,9,0x8040000201000008048000200200008008000240200001008000040200,2,2,[]⟩,
 ⟨4,9,35,0,9,0x48a45241229149048a44a41229229048a48a41225229049148a412452290,0,2,[]⟩,
 ⟨4,9,35,1,9,0x8040000201000008048000200200008008000240200001008000040200,2,2,[]⟩,
 ⟨4,9,38,0,9,0x48a45241229149048a44a41229229048a48a41225229049148a412452290,0,2,[]⟩,
 ⟨4,9,38,1,9,0x8040000201000008048000200200008008000240200001008000040200,2,2,[]⟩,
 ⟨4,9,67,0,9,0x48a45241229149048a44a41229229048a48a41225229049148a412452290,0,2,[]⟩,
 ⟨4,9,67,1,9,0x8040000201000008048000200200008008000240200001008000040200,2,2,[]⟩,
 ⟨4,9,70,0,9,0x48a45241229149048a44a41229229048a48a41225229049148a412452290,0,2,[]⟩,
 ⟨4,9,70,1,9,0x8040000201000008048000200200008008000240200001008000040200,2,2,[]⟩,
 ⟨4,9,83,0,9,0x48a45241229149048a44a41229229048a48a41225229049148a412452290,0,2,[]⟩,
 ⟨4,9,83,1,9,0x8040000201000008048000200200008008000240200001008000040200,2,2,[]⟩,
 ⟨4,9,86,0,9,0x48a45241229149048a44a41229229048a48a41225229049148a412452290,0,2,[]⟩,
 ⟨4,9,86,1,9,0x8040000201000008048000200200008008000240200001008000040200,2,2,[]⟩,
 ⟨4,9,115,0,9,0x48a45241229149048a44a41229229048a48a41225229049148a412452290,0,2,[]⟩,
 ⟨4,9,115,1,9,0x8040000201000008048000200200008008000240200001008000040200,2,2,[]⟩,
 ⟨4,9,118,0,9,0x48a45241229149048a44a41229229048a48a41225229049148a412452290,0,2,[]⟩,
 ⟨4,9,118,1,9,0x8040000201000008048000200200008008000240200001008000040200,2,2,[]⟩,
 ⟨4,9,131,0,9,0x48a45241229149048a44a41229229048a48a41225229049148a412452290,0,2,[]⟩,
 ⟨4,9,131,1,9,0x8040000201000008048000200200008008000240200001008000040200,2,2,[]⟩,
 ⟨4,9,134,0,9,0x48a45241229149048a44a41229229048a48a41225229049148a412452290,0,2,[]⟩,
 ⟨4,9,134,1,9,0x8040000201000008048000200200008008000240200001008000040200,2,2,[]⟩,
 ⟨4,8,18,0,8,0xd32d361a65a4c34cb6986992d30d365a61a4cb4c3699698,0,3,[(0,4),(0,34),(0,19)]⟩,
 ⟨4,8,18,1,8,0x8408001081200210040042408008081001210200042040,3,3,[(0,14),(0,52),(0,32)]⟩,
 ⟨4,8,20,0,8,0x8a28a41145128228a45045128a08a45141128a282451450,0,2,[]⟩,
 ⟨4,8,20,1,8,0x200000040000008000001200000040000008000001000,2,2,[]⟩,
 ⟨4,8,22,0,8,0xd32d361a65a4c34cb6986992d30d365a61a4cb4c3699698,0,3,[(0,4),(0,34),(0,17)]⟩,
 ⟨4,8,22,1,8,0x8408001081200210040042408008081001210200042040,3,3,[(0,10),(0,20),(0,32)]⟩,
 ⟨4,8,50,0,8,0xd32d361a65a4c34cb6986992d30d365a61a4cb4c3699698,0,3,[(0,4),(0,34),(0,17)]⟩,
 ⟨4,8,50,1,8,0x8408001081200210040042408008081001210200042040,3,3,[(0,10),(0,20),(0,32)]⟩,
 ⟨4,8,52,0,8,0x8a28a41145128228a45045128a08a45141128a282451450,0,2,[]⟩,
 ⟨4,8,52,1,8,0x200000040000008000001200000040000008000001000,2,2,[]⟩,
 ⟨4,8,54,0,8,0xd32d361a65a4c34cb6986992d30d365a61a4cb4c3699698,0,3,[(0,4),(0,34),(0,19)]⟩,
 ⟨4,8,54,1,8,0x8408001081200210040042408008081001210200042040,3,3,[(0,14),(0,52),(0,32)]⟩,
 ⟨4,8,82,0,8,0xd32d361a65a4c34cb6986992d30d365a61a4cb4c3699698,0,3,[(0,4),(0,34),(0,19)]⟩,
 ⟨4,8,82,1,8,0x8408001081200210040042408008081001210200042040,3,3,[(0,14),(0,52),(0,32)]⟩,
 ⟨4,8,84,0,8,0x8a28a41145128228a45045128a08a45141128a282451450,0,2,[]⟩,
 ⟨4,8,84,1,8,0x200000040000008000001200000040000008000001000,2,2,[]⟩,
 ⟨4,8,86,0,8,0xd32d361a65a4c34cb6986992d30d365a61a4cb4c3699698,0,3,[(0,4),(0,34),(0,17)]⟩,
 ⟨4,8,86,1,8,0x8408001081200210040042408008081001210200042040,3,3,[(0,10),(0,20),(0,32)]⟩,
 ⟨4,8,114,0,8,0xd32d361a65a4c34cb6986992d30d365a61a4cb4c3699698,0,3,[(0,4),(0,34),(0,17)]⟩,
 ⟨4,8,114,1,8,0x8408001081200210040042408008081001210200042040,3,3,[(0,10),(0,20),(0,32)]⟩,
 ⟨4,8,116,0,8,0x8a28a41145128228a45045128a08a45141128a282451450,0,2,[]⟩,
 ⟨4,8,116,1,8,0x200000040000008000001200000040000008000001000,2,2,[]⟩,
 ⟨4,8,118,0,8,0xd32d361a65a4c34cb6986992d30d365a61a4cb4c3699698,0,3,[(0,4),(0,34),(0,19)]⟩,
 ⟨4,8,118,1,8,0x8408001081200210040042408008081001210200042040,3,3,[(0,14),(0,52),(0,32)]⟩,
 ⟨4,4,18,0,4,0x8a411282450,0,2,[]⟩,
 ⟨4,4,18,1,4,0x8001200040,2,2,[]⟩,
 ⟨4,4,50,0,4,0x8a411282450,0,2,[]⟩,
 ⟨4,4,50,1,4,0x8001200040,2,2,[]⟩,
 ⟨5,8,0,0,8,0xd32d361a65a4c34cb6986992d30d365a61a4cb4c3699698,0,3,[(0,4),(0,34),(0,17)]⟩,
 ⟨5,8,0,1,8,0x8408001081200210040042408008081001210200042040,3,3,[(0,10),(0,20),(0,32)]⟩,
 ⟨6,5,0,0,5,0x6db6124d025a20b448,0,3,[]⟩,
 ⟨6,5,0,1,5,0x8008000010010,3,3,[]⟩,
 ⟨6,6,0,0,6,0xdb6d8449682499409651059448,0,3,[]⟩,
 ⟨6,6,0,1,6,0x240041001200000080010,3,3,[]⟩,
 ⟨6,7,0,0,7,0x6db6d82892c84496904932502592882c9448,0,3,[(0,1),(2,10),(20,21)]⟩,
 ⟨6,7,0,1,7,0x208008200008200208000000400010,3,3,[(3,44),(21,15),(0,7)]⟩,
 ⟨3,2,0,0,8,0xf6140636a6dd83180d981801400e4a76624140903140918,2,6,[]⟩,
 ⟨3,2,1,0,8,0x146240a3225218501bca825b241140241a0009b00509b028,4,6,[]⟩,
 ⟨3,2,2,0,8,0xe4028624028903d8d9180280300f6030636b4dd83028d98,2,6,[]⟩,
 ⟨3,2,3,0,8,0x1406d0a006d00052090282096c91566c0a30489585009c28,4,6,[]⟩]
theorem S7:∀c∈EU,c.ok=true:=by decide +kernel
structure VZ(g h:Nat)(T:Nat->Nat)(top:Nat):Prop where
 lt:∀a,a<h*g->T a<g
 first:∃a,a<h*g/\T a≠T (a%h)
 last:∃a,a<h*g/\T a≠T (a/g*g)
 rise:∃rk:qX->Nat,(∀a b,a<h*g->b<h*g->a≠b->T a=T b->rk (DC (a/g,b/g))<rk (DC (a%h,b%h)))/\∀p,rk p<=top
theorem Bt.fam{c:Bt}(hc:c.ok=true)(h0:0<c.h):VZ c.g c.h (C1 c.k c.g c.s c.d) c.top:=by
 unfold Bt.ok at hc;simp only[Bool.and_eq_true]at hc;obtain⟨⟨⟨⟨⟨⟨⟨c1,c2⟩,c3⟩,c4⟩,c5⟩,c6⟩,c7⟩,c8⟩:=hc
 have eT:∀a,a<c.h*c.g->c.t a=C1 c.k c.g c.s c.d a/\c.t a<c.g:=λa ha=>by have z:=ET c1 a ha;rw[dD]at z;exact⟨Nat.eq_of_beq_eq_true z.1,by simpa [Nat.blt_eq] using z.2⟩
 have nb:∀{x y:Nat},(!(Nat.beq x y))=true->x≠y:=λ{x y} z e=>by rw[e,Nat.beq_refl]at z;cases z
 refine⟨λa ha=>by rw[<-(eT a ha).1];exact (eT a ha).2,?_,?_,?_⟩
 ·obtain⟨a,ha,z⟩:=Le c2;exact⟨a,ha,by rw[<-(eT a ha).1,<-(eT (a%c.h) (d8 (Nat.mod_le ..) ha)).1];exact nb z⟩
 ·obtain⟨a,ha,z⟩:=Le c3;exact⟨a,ha,by rw[<-(eT a ha).1,<-(eT (a/c.g*c.g) (d8 (Nat.div_mul_le_self ..) ha)).1];exact nb z⟩
 ·have rr:∀x y,x<c.h->y<c.h->(λp:Nat×Nat=>if p.1<c.h/\p.2<c.h then c.r p.1 p.2 else 0) (DC (x,y))=c.r x y:=λx y hx hy=>by
   by_cases e:x=y
   ·subst e;rw[CI];show (if 0<c.h/\0<c.h then c.r 0 0 else 0)=_;rw[qF ⟨h0,h0⟩];unfold Bt.r;rw[Nat.beq_refl,Nat.beq_refl];rfl
   ·have:DC (x,y)=(x,y):=qE e;rw[this];exact qF ⟨hx,hy⟩
  refine⟨λp=>if p.1<c.h/\p.2<c.h then c.r p.1 p.2 else 0,λa b ha hb ne e=>?_,λp=>?_⟩
  ·have dv:∀{a:Nat},a<c.h*c.g->a/c.g<c.h:=λ{a} ha=>cc (by rw[dS];exact ha)
   rw[rr _ _ (dv ha) (dv hb),rr _ _ (cJ _ h0) (cJ _ h0)];have z:=ET (ET c4 a ha) b hb;rw[Bool.or_eq_true,Bool.or_eq_true]at z;rcases z with (z|z)|z
   ·exact qG (cu z) ne
   ·exact qG (by rw[(eT a ha).1,(eT b hb).1];exact e) (nb z)
   ·simpa [Nat.blt_eq] using z
  ·show (if p.1<c.h/\p.2<c.h then c.r p.1 p.2 else 0)<=c.top;split
   ·rename_i hp
    exact Nat.le_of_ble_eq_true (ET (ET c5 p.1 hp.1) p.2 hp.2)
   ·exact cS _
def Us(g h:Nat)(T:Nat->Nat)(n:Nat)(al bl:Nat->Nat):Prop:=(∀i,i<n->al i<h*g/\bl i<h*g/\al i≠bl i/\T (al i)=T (bl i))/\∀i,i+1<n->al i%h=al (i+1)/g/\bl i%h=bl (i+1)/g
theorem Bt.way{c:Bt}(hc:c.ok=true):Us c.g c.h (C1 c.k c.g c.s c.d) c.ch.length (λi=>(c.ch.getD i (0,0)).1) (λi=>(c.ch.getD i (0,0)).2):=by
 unfold Bt.ok at hc;simp only[Bool.and_eq_true]at hc;rcases hc with⟨⟨⟨⟨⟨⟨⟨c1,c2⟩,c3⟩,c4⟩,c5⟩,c6⟩,c7⟩,c8⟩
 have eT:∀a,a<c.h*c.g->c.t a=C1 c.k c.g c.s c.d a:=λa ha=>by have z:=ET c1 a ha;rw[dD]at z;exact cu z.1
 refine⟨λi hi=>?_,λi hi=>?_⟩
 ·have m:c.ch.getD i (0,0)∈c.ch:=by rw[bH,bI hi];exact dO hi
  have z:=fZ.mp c7 _ m;simp only[Bool.and_eq_true]at z;rcases z with⟨⟨⟨z1,z2⟩,z3⟩,z4⟩;have l1:(c.ch.getD i (0,0)).1<c.h*c.g:=by simpa [Nat.blt_eq] using z1
  have l2:(c.ch.getD i (0,0)).2<c.h*c.g:=by simpa [Nat.blt_eq] using z2
  exact⟨l1,l2,(λ(e:(c.ch.getD i (0,0)).1=(c.ch.getD i (0,0)).2)=>by rw[e,Nat.beq_refl]at z3;cases z3),by rw[<-eT _ l1,<-eT _ l2];exact cu z4⟩
 ·have go:∀(l:List (qX)),c.on l=true->∀i,i+1<l.length->(l.getD i (0,0)).1%c.h=(l.getD (i+1) (0,0)).1/c.g/\(l.getD i (0,0)).2%c.h=(l.getD (i+1) (0,0)).2/c.g:=by
   intro l
   induction l with
   |nil=>intro _ i hi;simp at hi
   |cons p l ih =>
    intro h i hi;cases l with
    |nil=>simp at hi
    |cons q l =>
     have h:(Nat.beq (p.1%c.h) (q.1/c.g)&&Nat.beq (p.2%c.h) (q.2/c.g)&&c.on (q::l))=true:=h;simp only[Bool.and_eq_true]at h;cases i with
     |zero=>exact⟨cu h.1.1,cu h.1.2⟩
     |succ i=>exact ih h.2 i (by simpa using hi)
  exact go c.ch c8 i hi
structure Oa(g:Nat)(ν:Nat->Int):Prop where
 lt:∀x,x<g->0<=ν x/\ν x<(g:Int)
 inj:∀x y,x<g->y<g->ν x=ν y->x=y
noncomputable def BS(n:Nat)(ν:Nat->Int)(T:Nat->Nat):qW:=(List.range n).map λa=>ν (T a)
theorem CJ(n:Nat)(ν:Nat->Int)(T:Nat->Nat):(BS n ν T).length=n:=by unfold BS;rw[List.length_map,List.length_range]
variable{ν:Nat->Int}
theorem Bw{n:Nat}{T:Nat->Nat}{a:Nat}(h:a<n):(BS n ν T).getD a 0=ν (T a):=AS h
section
variable{g h:Nat}{T:Nat->Nat}{top:Nat}
theorem Ut(f:∀a,a<h*g->T a<g)(n:Oa g ν):∀x∈BS (h*g) ν T,0<=x/\x<(g:Int):=λx hx=>by unfold BS at hx;obtain⟨a,ha,rfl⟩:=bg.mp hx;exact n.lt _ (f a (bh.mp ha))
theorem VZ.stp(f:VZ g h T top)(n:Oa g ν)(g0:0<g){q:qX}(s:FS g ((BS (h*g) ν T).length/g) (BS (h*g) ν T) p q):∃a b,a<h*g/\b<h*g/\a≠b/\T a=T b/\p=DC (a/g,b/g)/\q=DC (a%h,b%h):=by
 have hh:(BS (h*g) ν T).length/g=h:=by rw[CJ,f6 _ g0]
 rw[hh]at s;rcases s with⟨a,b,ha,hb,ne,e,h1,h2⟩;rw[Bw ha,Bw hb]at e;exact⟨a,b,ha,hb,ne,n.inj _ _ (f.lt a ha) (f.lt b hb) e,h1,h2⟩
theorem VZ.rises(f:VZ g h T top)(n:Oa g ν)(g0:0<g):∃rk:qX->Nat,Hb g ((BS (h*g) ν T).length/g) (BS (h*g) ν T) rk/\∀p,rk p<=top:=by obtain⟨rk,h1,h2⟩:=f.rise;refine⟨rk,λp q s=>?_,h2⟩;obtain⟨a,b,ha,hb,ne,e,rfl,rfl⟩:=f.stp n g0 s;exact h1 a b ha hb ne e
theorem Us.stps{k:Nat}{al bl:Nat->Nat}(w:Us g h T k al bl)(g0:0<g)(i:Nat)(hi:i<k):FS g ((BS (h*g) ν T).length/g) (BS (h*g) ν T) (DC (al i/g,bl i/g)) (DC (al i%h,bl i%h)):=by
 have hh:(BS (h*g) ν T).length/g=h:=by rw[CJ,f6 _ g0]
 rw[hh];rcases w.1 i hi with⟨h1,h2,h3,h4⟩;exact⟨al i,bl i,h1,h2,h3,by rw[Bw h1,Bw h2,h4],rfl,rfl⟩
end
structure CQ(g:Int)(g6:qW)(m:Nat)(tw:Bool)(d:Int)(tf:qW)(mf top:Nat):Prop where
 g2:2<=g
 g9:g<=9
 m1:1<=m
 m4:m<=4
 m3:3<=g->m<=2
 len:(g6.length:Int)=g^m
 sz:g^m<=256
 nd:g^(m-1)<=9
 tb:∀n∈g6,0<=n/\n<g
 tfl:(tf.length:Int)=g^mf
 mf2:2<=mf
 al:∀lo,Ba g (lo+d) tf mf lo g6 m
 fr:∀lo lo' tab' m',(tab'.length:Int)=g^m'->Ba g lo g6 m lo' tab' m'->BU g lo' tab' m' (lo+d) tf mf
 sm:g^(mf-1)<=9
 rise:∃rk:qX->Nat,Hb g.toNat (tf.length/g.toNat) tf rk/\∀p,rk p<=top
 thin:tw=false->g^(top+2-mf)<=256/\mf<=top+2
 wide:tw=true->∃(q:Nat->qX) (n:Nat),(q 0=(0,0)\/q n=(0,0))/\(∀i,i<n->FS g.toNat (tf.length/g.toNat) tf (q i) (q (i+1)))/\256<g^(n+2-mf)/\mf<=n+2
theorem II{g:Int}{w:Int}{k k':Nat}(hk:k<g6.length)(e:(k:Int)-(k:Int)/w%g*w=(k':Int))(ne:g6.getD k 0≠g6.getD k' 0):BW g g6 w=true:=by unfold BW;rw[List.any_eq_true];refine⟨k,bh.mpr hk,?_⟩;rw[e,bM,qI ne];rfl
section
variable{h:Nat}{T:Nat->Nat}{top:Nat}
theorem VZ.cnt(f:VZ G h T top)(n:Oa G ν)(G2:2<=G)(h0:0<h):BW (G:Int) (BS (h*G) ν T) (h:Int)=true/\BW (G:Int) (BS (h*G) ν T) 1=true:=by
 refine⟨?_,?_⟩
 ·obtain⟨a,ha,ne⟩:=f.first;have hb:a%h<h*G:=d8 (Nat.mod_le ..) ha;refine II (k:=a) (k':=a%h) (by rw[CJ];exact ha) ?_ (by rw[Bw ha,Bw hb];exact λz=>ne (n.inj _ _ (f.lt a ha) (f.lt _ hb) z));have e1:(a:Int)/(h:Int)%(G:Int)*(h:Int)=((a/h*h:Nat):Int):=by rw[<-dP,<-cD,dH (cc ha),cx]
  rw[e1];have:=fR a h;rw[dS]at this;lia
 ·obtain⟨a,ha,ne⟩:=f.last;have hb:a/G*G<h*G:=d8 (Nat.div_mul_le_self ..) ha;refine II (k:=a) (k':=a/G*G) (by rw[CJ];exact ha) ?_ (by rw[Bw ha,Bw hb];exact λz=>ne (n.inj _ _ (f.lt a ha) (f.lt _ hb) z));have e1:(a:Int)/1%(G:Int)*1=((a%G:Nat):Int):=by rw[Int.ediv_one,fH,cD]
  rw[e1];have:=fR a G;rw[dS]at this;lia
theorem S8(f:VZ G h T top)(n:Oa G ν)(G2:2<=G)(G9:G<=9){m:Nat}(m2:2<=m)(m4:m<=4)(m3:3<=G->m<=2)(hh:h=G^(m-1))(h9:h<=9){tw:Bool}(thin:tw=false->(G:Int)^(top+2-m)<=256/\m<=top+2)
  (wide:tw=true->∃al bl k,Us G h T k al bl/\0<k/\(al 0/G=bl 0/G\/al (k-1)%h=bl (k-1)%h)/\256<(G:Int)^(k+2-m)/\m<=k+2):
  CQ (G:Int) (BS (h*G) ν T) m tw 0 (BS (h*G) ν T) m top:=by
 have hp:h*G=G^m:=by rw[hh,<-Nat.pow_succ];congr 1;lia
 have h0:0<h:=by rw[hh];exact Nat.pow_pos 0#1
 have len:((BS (h*G) ν T).length:Int)=(G:Int)^m:=by rw[CJ,hp,eU]
 have hi:(G:Int)^(m-1)=(h:Int):=by rw[hh,eU]
 have g2:(2:Int)<=(G:Int):=by lia
 obtain⟨c0,c1⟩:=f.cnt n G2 h0;rw[<-hi]at c0;have gn:(G:Int).toNat=G:=bM G;refine⟨g2,by lia,by lia,m4,λz=>m3 0#1,len,?_,by rw[hi];lia,Ut f.lt n,len,m2,λlo x hx=>by rw[cr],λlo lo' tab' m' hl' al=>by rw[cr];exact JA g2 hl' len al m2 c0 c1,by rw[hi];lia,?_,thin,λz=>?_⟩
 ·have:=dn h9 G9;rw[<-eU,<-hp];lia
 ·rw[gn];exact f.rises n 0#1
 ·rcases wide z with⟨al,bl,k,w,k0,ends,big,le⟩;rw[gn];have st:=λi hi=>w.stps (ν:=ν) (show 0<G by lia) i hi
  refine⟨λi=>if i<k then DC (al i/G,bl i/G) else DC (al (k-1)%h,bl (k-1)%h),k,?_,λi hi=>?_,big,le⟩
  ·rcases ends with z|z
   ·left
    show (if 0<k then DC (al 0/G,bl 0/G) else _)=_;rw[qF k0,z,CI]
   ·right
    show (if k<k then _ else DC (al (k-1)%h,bl (k-1)%h))=_;rw[qE (bu _),z,CI]
  ·show FS _ _ _ (if i<k then DC (al i/G,bl i/G) else _) (if i+1<k then DC (al (i+1)/G,bl (i+1)/G) else DC (al (k-1)%h,bl (k-1)%h));rw[qF hi]
   by_cases y:i+1<k
   ·rw[qF y];have e:=w.2 i y;rw[<-e.1,<-e.2];exact st i hi
   ·rw[qE y,show k-1=i by lia];exact st i hi
theorem S9(n:Oa G ν)(G2:2<=G)(x:Int):∃rk:qX->Nat,Hb G ((Cy (G:Int) x (BS G ν id) 1 x 2).length/G) (Cy (G:Int) x (BS G ν id) 1 x 2) rk/\∀p,rk p<=1:=by
 have e:=N8 (g:=(G:Int)) 0#1 (G:=G) rfl x (BS G ν id);rw[e,bG,bn,f6 _ 0#1];refine⟨λp=>if p=(0,0) then 0 else 1,?_,λp=>by dsimp only;split<;>lia⟩;rintro p q ⟨a,b,ha,hb,ne,ee,rfl,rfl⟩;rw[AS ha,AS hb]at ee;have da:a/G<G:=cc ha;have db:b/G<G:=cc hb;rw[Bw da,Bw db]at ee;have e2:a/G=b/G:=n.inj _ _ da db ee;have e3:a%G≠b%G:=λz=>ne (by rw[<-fR a G,<-fR b G,e2,z])
 rw[e2,CI];show (if ((0,0):qX)=(0,0) then 0 else 1)<(if DC (a%G,b%G)=(0,0) then 0 else 1);rw[qF rfl,show DC (a%G,b%G)=(a%G,b%G) from qE e3,qE (λz=>e3 (by injection z with z1 z2;lia))];exact Nat.zero_lt_one
theorem Ja(n:Oa G ν)(G2:2<=G)(G9:G<=9){m:Nat}(m1:1<=m)(m2:m<=2)(len:(g6.length:Int)=(G:Int)^m)(tb:∀n∈g6,0<=n/\n<(G:Int)){d:Int}(al:∀lo,Ba (G:Int) (lo+d) (BS G ν id) 1 lo g6 m):CQ (G:Int) g6 m false d (Cy (G:Int) 0 (BS G ν id) 1 0 2) 2 1:=by
 have g2:(2:Int)<=(G:Int):=by lia
 have l1:((BS G ν id).length:Int)=(G:Int)^1:=by rw[CJ,cB,cF,dR]
 have bw:∀x,Cy (G:Int) x (BS G ν id) 1 x 2=Cy (G:Int) 0 (BS G ν id) 1 0 2:=λx=>by rw[N8 g2 rfl,N8 g2 rfl]
 have p2:(G:Int)^2=((G*G:Nat):Int):=by rw[show (2:Nat)=0+1+1 from rfl,cB,cB,cF,dR,cx]
 have p1:(G:Int)^1=(G:Int):=by rw[cB,cF,dR]
 have gg:=dn G9 G9
 have c1:BW (G:Int) (BS G ν id) 1=true:=by refine II (k:=1) (k':=0) (by rw[CJ];lia) ?_ (by rw[Bw 0#1,Bw 0#1];exact λz=>qG (n.inj 1 0 0#1 0#1 z) 0#8);rw[Int.ediv_one,fH,cI 0#8 0#1];rfl
 have tfl:((Cy (G:Int) 0 (BS G ν id) 1 0 2).length:Int)=(G:Int)^2:=BZ g2 ..;have mm:m=1\/m=2:=by lia
 refine⟨g2,by lia,m1,by lia,λ_=>m2,len,?_,?_,tb,tfl,bL _,λlo=>?_,λlo lo' tab' m' hl' al'=>?_,?_,?_,λ_=>?_,λz=>nomatch z⟩
 ·rcases mm with rfl|rfl
  ·rw[p1];lia
  ·rw[p2];lia
 ·rcases mm with rfl|rfl
  ·rw[dJ,cF];decide
  ·rw[show 2-1=1 from rfl,p1];lia
 ·intro x hx;rw[<-bw (lo+d),Iz g2 l1 (dz _) 0#1 hx];exact al lo x hx
 ·rw[<-bw (lo+d)];exact KQ g2 hl' l1 (λx hx=>(al lo x hx).trans (al' x hx)) c1
 ·rw[show 2-1=1 from rfl,p1];lia
 ·rw[bM];exact S9 n G2 0
 ·rw[show 1+2-2=1 from rfl,p1];lia
end
theorem FN{g:Int}(hg:2<=g){m:Nat}(tb:∀n∈g6,0<=n/\n<g)(fw:BU g lo g6 m lf tf mf):∀n∈tf,0<=n/\n<g:=by
 obtain⟨low,M,_,_,⟨_,_,rfl⟩|⟨_,_,rfl⟩⟩:=fw
 ·exact Ik hg _ (Ik hg _ tb _ _ _) _ _ _
 ·exact Ik hg _ tb _ _ _
noncomputable def EV(g lo:Int)(g6:qW)(m:Nat)(x:Int->Int):Int->Int:=λz=>CV g (lo+z) g6 m x
theorem Cv(g lo:Int)(g6:qW)(m:Nat)(x:Int->Int)(k:Int):CV g lo g6 m (λz=>x (z+k))=CV g (lo+k) g6 m x:=by
 unfold CV BL
 congr 4
 funext j
 show x (lo+(j:Int)+k)=x (lo+k+(j:Int))
 congr 1
 lia
theorem Jb{g:Int}{m:Nat}(al:Ba g lo g6 m lo' tab' m'){x:Int->Int}(hx:Ei g x):EV g lo g6 m x=EV g lo' tab' m' x:=by
 funext z
 have y:=al (λu=>x (u+z)) λu=>hx _
 rw[Cv,Cv]at y;exact y
theorem E6{g:Int}(hg:2<=g)(tb:∀n∈g6,0<=n/\n<g)(lo:Int)(m:Nat)(x:Int->Int):Ei g (EV g lo g6 m x):=λz=>Bf hg tb _
theorem GK(g lo:Int)(g6:qW){m:Nat}(m1:1<=m)(x:Int->Int)(u:Int)(n:Nat):BL (EV g lo g6 m x) u n=Aw g g6 m (BL x (lo+u) (m+n-1)):=by refine AU (by rw[A6,BD,A6];lia) λj hj=>?_;rw[A6]at hj;rw[CH _ _ hj,Cz (by rw[A6];lia),<-Uh x (show j+m<=m+n-1 by lia)];show g6.getD (Ao g (BL x (lo+(u+(j:Int))) m)).toNat 0=_;rw[show lo+(u+(j:Int))=lo+u+(j:Int) by lia]
section
variable{g:Int}(hg:2<=g)(hl:(tf.length:Int)=g^mf)(m2:2<=mf)(hb:∀n∈tf,0<=n/\n<g){left:Nat}(B:DY g tf mf gq left){gs:Nat}(em:gq+left+2=mf+gs)
include hg hl m2 hb B em
theorem DY.back(lf:Int){x:Int->Int}(hx:Ei g x)(z:Int):CV g (-lf-(gq:Int)+z) (Kf g tf mf gq gs) gs (EV g lf tf mf x)=x z:=by
 unfold CV;rw[GK g lf tf 0#1];have vb:=EN hx (lf+(-lf-(gq:Int)+z)) (mf+gs-1);have vl:=A6 x (lf+(-lf-(gq:Int)+z)) (mf+gs-1);have a:=DY.at hg hl m2 hb B em vb (by rw[vl]);have cb:=F1 hg hb mf (BL x (lf+(-lf-(gq:Int)+z)) (mf+gs-1));have nb:=BR hg cb;rw[BD,vl,show mf+gs-1+1-mf=gs by lia]at nb;unfold Kf;rw[AS 0#1,a,CH _ _ 0#1]
 congr 1
 lia
theorem DY.there(lf:Int){y:Int->Int}(hy:Ei g y)(z:Int):CV g (lf+z) tf mf (EV g (-lf-(gq:Int)) (Kf g tf mf gq gs) gs y)=y z:=by
 obtain⟨rk,hr,_⟩:=B.ex;obtain⟨w,wl,wb,we⟩:=Mu hg hl m2 hb hr (EN hy (z-(gq:Int)) (mf+gs-1));have hx:=B1 hg wb (lf+(z-(gq:Int)));obtain⟨x,hxe⟩:∃x,x=Bj w (lf+(z-(gq:Int))):=⟨_,rfl⟩;rw[<-hxe]at hx;rw[A6]at wl
 have ix:BL (EV g lf tf mf x) (z-(gq:Int)) (mf+gs-1)=BL y (z-(gq:Int)) (mf+gs-1):=by rw[GK g lf tf 0#1,hxe,<-we,show mf+(mf+gs-1)-1=w.length by lia,Dh]
 have at':∀j:Nat,j<mf+gs-1->EV g lf tf mf x (z-(gq:Int)+(j:Int))=y (z-(gq:Int)+(j:Int)):=λj hj=>by have e:=qP (λl:qW=>l.getD j 0) ix;have e:(BL (EV g lf tf mf x) (z-(gq:Int)) (mf+gs-1)).getD j 0=(BL y (z-(gq:Int)) (mf+gs-1)).getD j 0:=e;rw[CH _ _ hj,CH _ _ hj]at e;exact e
 have wx:BL (EV g (-lf-(gq:Int)) (Kf g tf mf gq gs) gs y) (lf+z) mf=BL x (lf+z) mf:=by
  unfold BL;refine bU λj hj=>?_;have hj:=bh.mp hj;rw[<-DY.back hg hl m2 hb B em lf hx (lf+z+(j:Int))];show CV g (-lf-(gq:Int)+(lf+z+(j:Int))) _ gs y=_;unfold CV BL
  congr 3
  refine bU λk hk=>?_;have hk:=bh.mp hk;have e:=at' (j+k) 0#1;rw[show -lf-(gq:Int)+(lf+z+(j:Int))+(k:Int)=z-(gq:Int)+((j+k:Nat):Int) by lia];exact e.symm
 have e:=at' gq 0#1;rw[show z-(gq:Int)+((gq:Nat):Int)=z by lia]at e;rw[<-e];show tf.getD (Ao g (BL _ (lf+z) mf)).toNat 0=tf.getD (Ao g (BL x (lf+z) mf)).toNat 0;rw[wx]
end
theorem Qv{g:Int}(hg:2<=g){m:Nat}(m1:1<=m){lw:Int}{W:qW}{n:Nat}(n1:1<=n)(h:∀x,Ei g x->CV g lw W n (EV g lo g6 m x)=x 0):
  ∃at':Nat,((at':Nat):Int)=0-lo-lw/\at'<m+n-1/\∀v:qW,v.length=m+n-1->(∀k∈v,0<=k/\k<g)->W.getD (Ao g (Aw g g6 m v)).toNat 0=v.getD at' 0:=by
 have rng:0<=0-lo-lw/\0-lo-lw<(m:Int)+(n:Int)-1:=by
  apply Decidable.byContradiction;intro z;have h1:=h (λu=>if u=0 then 1 else 0) λu=>by dsimp only;split<;>lia
  have h0:=h (λ_=>0) λu=>by dsimp only;lia
  have e:BL (EV g lo g6 m (λu=>if u=0 then 1 else 0)) lw n=BL (EV g lo g6 m (λ_=>0)) lw n:=by
   rw[GK g lo g6 m1,GK g lo g6 m1]
   congr 1
   unfold BL;refine bU λj hj=>?_;have:=bh.mp hj;show (if lo+lw+(j:Int)=0 then (1:Int) else 0)=0;rw[qE 0#1]
  unfold CV at h1 h0;rw[e,h0]at h1;exact qG h1 0#8
 refine⟨(0-lo-lw).toNat,by lia,by lia,λv vl vb=>?_⟩;have z:=h (Bj v (lo+lw)) (B1 hg vb _);unfold CV at z;rw[GK g lo g6 m1,<-vl,Dh]at z;rw[z];show sn v (0-(lo+lw))=_;rw[show 0-(lo+lw)=(((0-lo-lw).toNat:Nat):Int) by lia,Cw 0#1]
theorem TB{g:Int}(hg:2<=g){m:Nat}{y y':Int->Int}(hy:Ei g y)(hy':Ei g y')(e:∀j:Nat,j<m->lo+(j:Int)≠z->y (lo+(j:Int))=y' (lo+(j:Int)))(ne:CV g lo g6 m y≠CV g lo g6 m y'):Rw g (CV g lo g6 m) z:=by
 by_cases c:CV g lo g6 m y=CV g lo g6 m λu=>if u=z then 0 else y u
 ·refine⟨y',hy',λc'=>ne ?_⟩;rw[c,c'];unfold CV BL
  congr 3
  refine bU λj hj=>?_;show (if lo+(j:Int)=z then 0 else y (lo+(j:Int)))=if lo+(j:Int)=z then 0 else y' (lo+(j:Int))
  by_cases w:lo+(j:Int)=z
  ·rw[qF w,qF w]
  ·rw[qE w,qE w,e j (bh.mp hj) w]
 ·exact⟨y,hy,c⟩
noncomputable def yW(g:Int)(mf:Nat)(al:Nat->Nat):Nat->qW
 |0=>Ai g (al 0:Int) mf
 |k+1=>yW g mf al k++[((al (k+1)%g.toNat:Nat):Int)]
section
variable{g:Int}(hg:2<=g)(m2:2<=mf)
include hg m2
theorem TC{al:Nat->Nat}{n:Nat}(lt:∀i,i<n->((al i:Nat):Int)<g^mf)(nx:∀i,i+1<n->((al i:Nat):Int)%g^(mf-1)=((al (i+1)/g.toNat:Nat):Int)):∀k,k<n->(yW g mf al k).length=mf+k/\(∀s∈yW g mf al k,0<=s/\s<g)/\∀i,i<=k->Ao g (((yW g mf al k).drop i).take mf)=(al i:Int)
 |0,h0=>by
  refine⟨BE ..,By hg _ _,λi hi=>?_⟩;obtain rfl:i=0:=by lia
  show Ao g (((Ai g (al 0:Int) mf).drop 0).take mf)=_;rw[dj,cm (by rw[BE];exact bL _),Cj hg 0#1 (lt 0 h0)]
 |k+1,hk=>by
  obtain⟨l1,b1,w1⟩:=TC lt nx k 0#1
  have sb:0<=((al (k+1)%g.toNat:Nat):Int)/\((al (k+1)%g.toNat:Nat):Int)<g:=by have:=cJ (al (k+1)) (show 0<g.toNat by lia);lia
  refine⟨by show (yW g mf al k++[_]).length=_;rw[bN,l1];rfl,λs hs=>(bQ.mp hs).elim (b1 s) λz=>by rw[bV.mp z];exact sb,λi hi=>?_⟩;show Ao g (((yW g mf al k++[((al (k+1)%g.toNat:Nat):Int)]).drop i).take mf)=_
  by_cases z:i<=k
  ·rw[List.drop_append_of_le_length 0#1,List.take_append_of_le_length (by rw[bj];lia)];exact w1 i z
  ·obtain rfl:i=k+1:=by lia
   rw[List.drop_append_of_le_length 0#1,List.take_of_length_le (by rw[List.length_append,List.length_drop];simp only[List.length_cons,List.length_nil];lia),DJ];have wk:=w1 k (bL _);have dk:((yW g mf al k).drop k).take mf=(yW g mf al k).drop k:=cm (by rw[bj];lia);rw[dk]at wk
   have c:(yW g mf al k).drop k=(yW g mf al k).getD k 0::(yW g mf al k).drop (k+1):=by rw[cj (show k<(yW g mf al k).length by lia),bH,bI 0#1];rfl
   have bd:∀s∈(yW g mf al k).drop (k+1),0<=s/\s<g:=λs hs=>b1 s (bv hs)
   have nl:=BR hg bd;rw[bj,show (yW g mf al k).length-(k+1)=mf-1 by lia]at nl;rw[c,JF,bj,show (yW g mf al k).length-(k+1)=mf-1 by lia]at wk;have e:=nx k hk;rw[<-wk,di,fP,cI nl.1 nl.2]at e;rw[e];have hG:(g.toNat:Int)=g:=by lia
   have:=fR (al (k+1)) g.toNat;have y:((al (k+1)/g.toNat:Nat):Int)*g+((al (k+1)%g.toNat:Nat):Int)=((g.toNat*(al (k+1)/g.toNat)+al (k+1)%g.toNat:Nat):Int):=by rw[cy,cx,hG,dh]
   rw[y,this]
omit hg m2
theorem NB{h a:Nat}(g2:2<=g)(hG:G=g.toNat)(hh:(h:Int)=g^(mf-1))(m2:2<=mf)(ha:a<h*G):((a:Nat):Int)<g^mf:=by
 have e:g^mf=g^(mf-1)*g:=by rw[<-cB];congr 1;lia
 rw[e,<-hh,show g=(G:Int) by lia,<-cx];lia
end
section
variable{g:Int}(hg:2<=g)(hl:(tf.length:Int)=g^mf)(m2:2<=mf)(hb:∀n∈tf,0<=n/\n<g)
include hg hl m2
theorem FO{n:Nat}(n1:1<=n)(st:∀i,i<n->FS g.toNat (tf.length/g.toNat) tf (q i) (q (i+1)))(ne:∀i,0<i->i<n->q i≠(0,0)):
  ∃Y Z:qW,Y.length=mf+n-1/\Z.length=mf+n-1/\(∀s∈Y,0<=s/\s<g)/\(∀s∈Z,0<=s/\s<g)/\Aw g tf mf Y=Aw g tf mf Z/\(∀i,i<n->(Y.drop i).take mf≠(Z.drop i).take mf) /\
   (q 0=(0,0)->Y.take (mf-1)=Z.take (mf-1))/\(q n=(0,0)->Y.drop n=Z.drop n):=by
 obtain⟨hd,hm⟩:=A8 hg hl (show 1<=mf by lia);obtain⟨h,hh⟩:∃h,h=tf.length/g.toNat:=⟨_,rfl⟩;rw[<-hh]at hd hm st;have hp:=RW.Ag hg (mf-1);have G0:0<g.toNat:=by lia
 have ch:∀i,∃a b,i<n->(a<h*g.toNat/\b<h*g.toNat/\a≠b/\tf.getD a 0=tf.getD b 0/\q i=DC (a/g.toNat,b/g.toNat)/\q (i+1)=DC (a%h,b%h)):=λi=>by
  by_cases z:i<n
  ·obtain⟨a,b,s⟩:=st i z;exact⟨a,b,λ_=>s⟩
  ·exact⟨0,0,λy=>qG y z⟩
 obtain⟨al,hal⟩:=Classical.axiomOfChoice ch;obtain⟨bl,hab⟩:=Classical.axiomOfChoice hal
 have nin:∀{p p':qX},DC p=DC p'->DC p≠(0,0)->p=p':=λ{p p'} e z=>by
  unfold DC at e z
  by_cases y:p.1=p.2
  ·rw[qF y]at z;exact qG rfl z
  ·rw[qE y]at e
   by_cases y':p'.1=p'.2
   ·rw[qF y']at e;rw[e]at y;exact qG rfl y
   ·rw[qE y']at e;exact e
 have nxt:∀i,i+1<n->al i%h=al (i+1)/g.toNat/\bl i%h=bl (i+1)/g.toNat:=λi hi=>by
  obtain⟨_,_,_,_,_,e1⟩:=hab i 0#1;obtain⟨_,_,_,_,e2,_⟩:=hab (i+1) hi;have e:=nin (e1.symm.trans e2) (by rw[<-e1];exact ne (i+1) 0#1 hi)
  injection e with e3 e4
  exact⟨e3,e4⟩
 have la:∀i,i<n->((al i:Nat):Int)<g^mf:=λi hi=>NB hg rfl hd m2 (hab i hi).1
 have lb:∀i,i<n->((bl i:Nat):Int)<g^mf:=λi hi=>NB hg rfl hd m2 (hab i hi).2.1
 obtain⟨l1,b1,w1⟩:=TC hg m2 la (λi hi=>by rw[<-hd,<-cD,(nxt i hi).1]) (n-1) 0#1;obtain⟨l2,b2,w2⟩:=TC hg m2 lb (λi hi=>by rw[<-hd,<-cD,(nxt i hi).2]) (n-1) 0#1;generalize yW g mf al (n-1)=Y at *;generalize yW g mf bl (n-1)=Z at *;have wb:∀{Y:qW} (i:Nat),(∀s∈Y,0<=s/\s<g)->∀s∈(Y.drop i).take mf,0<=s/\s<g:=λ{Y} i hb s hs=>hb s (bv (cO hs))
 have wlen:∀{Y:qW} {i:Nat},Y.length=mf+(n-1)->i<n->((Y.drop i).take mf).length=mf:=λ{Y i} l hi=>by rw[bq,bj];lia
 refine⟨Y,Z,by lia,by lia,b1,b2,?_,λi hi e=>?_,λz=>?_,λz=>?_⟩
 ·refine AU (by rw[BD,BD,l1,l2]) λi hi=>?_;rw[BD,l1]at hi;have hin:i<n:=by lia
  rw[Cz 0#1,Cz 0#1,w1 i 0#1,w2 i 0#1,bM,bM];exact (hab i hin).2.2.2.1
 ·have e:=qP (Ao g) e;rw[w1 i 0#1,w2 i 0#1]at e;exact (hab i hi).2.2.1 0#1
 ·have e:al 0/g.toNat=bl 0/g.toNat:=by
   obtain⟨_,_,_,_,e2,_⟩:=hab 0 0#1;rw[z]at e2;unfold DC at e2
   split at e2
   ·assumption
   ·injection e2 with x1 x2
    lia
  have t:∀{Y:qW} {c:Nat},Y.length=mf+(n-1)->(∀s∈Y,0<=s/\s<g)->Ao g ((Y.drop 0).take mf)=(c:Int)->Ao g (Y.take (mf-1))=((c/g.toNat:Nat):Int):=λ{Y c} l hb e=>by
   rw[dj]at e
   have s:Y.take mf=Y.take (mf-1)++[Y.getD (mf-1) 0]:=by rw[show mf=mf-1+1 by lia,cp,bI 0#1,bH,show mf-1+1-1=mf-1 by lia,bI 0#1];rfl
   have sb:0<=Y.getD (mf-1) 0/\Y.getD (mf-1) 0<g:=Bf hg hb _;rw[s,DJ]at e;rw[dP,<-e,show ((g.toNat:Nat):Int)=g by lia,di,Int.add_mul_ediv_right _ _ 0#1,fC sb.1 sb.2,b7]
  have c1:=t l1 b1 (w1 0 (cS _));have c2:=t l2 b2 (w2 0 (cS _));exact LS hg (λs hs=>b1 s (cO hs)) (λs hs=>b2 s (cO hs)) (by rw[bq,bq,l1,l2]) (by rw[c1,c2,e])
 ·have e:al (n-1)%h=bl (n-1)%h:=by
   obtain⟨_,_,_,_,_,e2⟩:=hab (n-1) 0#1;rw[show n-1+1=n by lia,z]at e2;unfold DC at e2
   split at e2
   ·assumption
   ·injection e2 with x1 x2
    lia
  have t:∀{Y:qW} {c:Nat},Y.length=mf+(n-1)->(∀s∈Y,0<=s/\s<g)->Ao g ((Y.drop (n-1)).take mf)=(c:Int)->Ao g (Y.drop n)=((c%h:Nat):Int):=λ{Y c} l hb e=>by
   rw[cm (by rw[bj];lia)]at e
   have s:Y.drop (n-1)=Y.getD (n-1) 0::Y.drop n:=by rw[cj (show n-1<Y.length by lia),bH,bI 0#1,show n-1+1=n by lia];rfl
   have nl:=BR hg (ns:=Y.drop n) λs hs=>hb s (bv hs)
   rw[bj,show Y.length-n=mf-1 by lia]at nl;rw[s,JF,bj,show Y.length-n=mf-1 by lia]at e;rw[cD,<-e,hd,di,fP,cI nl.1 nl.2]
  have c1:=t l1 b1 (w1 (n-1) (bL _));have c2:=t l2 b2 (w2 (n-1) (bL _));exact LS hg (λs hs=>b1 s (bv hs)) (λs hs=>b2 s (bv hs)) (by rw[bj,bj,l1,l2]) (by rw[c1,c2,e])
end
structure Th(g:Int)(tf:qW)(mf gq left:Nat):Prop where
 b:DY g tf mf gq left
 ev:∃q:Nat->qX,q gq=(0,0)/\∀i,i<gq->FS g.toNat (tf.length/g.toNat) tf (q i) (q (i+1))
 lv:∃q:Nat->qX,q 0=(0,0)/\∀i,i<left->FS g.toNat (tf.length/g.toNat) tf (q i) (q (i+1))
theorem DU{rk:qX->Nat}(hr:∀p q,S p q->rk p<rk q){n:Nat}(st:∀i,i<n->S (q i) (q (i+1))):∀(k i:Nat),i+k<=n->rk (q i)+k<=rk (q (i+k))
 |0,i,_=>bL _
 |k+1,i,h=>by have a:=DU hr st k i 0#1;have b:=hr _ _ (st (i+k) 0#1);rw[show i+(k+1)=i+k+1 by lia];lia
variable{Y Z:qW}
theorem GL{a:Int}(l:Y.length=Z.length)(h:∀j:Nat,j<Y.length->(j:Int)=z-a->Y.getD j 0=Z.getD j 0):Bj Y a z=Bj Z a z:=by
 unfold Bj sn;rw[l]
 by_cases c:z-a<0\/(Z.length:Int)<=z-a
 ·rw[qF c,qF c]
 ·rw[qE c,qE c];exact h (z-a).toNat 0#1 0#1
theorem Pk{n:Nat}(h:Y.drop n=Z.drop n)(hj:n<=j):Y.getD j 0=Z.getD j 0:=by have e:=qP (λl:qW=>l.getD (j-n) 0) h;have e:(Y.drop n).getD (j-n) 0=(Z.drop n).getD (j-n) 0:=e;rw[Bh,Bh,show n+(j-n)=j by lia]at e;exact e
theorem Pl{n:Nat}(h:Y.take n=Z.take n)(hj:j<n):Y.getD j 0=Z.getD j 0:=by have e:=qP (λl:qW=>l.getD j 0) h;have e:(Y.take n).getD j 0=(Z.take n).getD j 0:=e;rw[B2 hj,B2 hj]at e;exact e
section
variable{g:Int}(hg:2<=g)(hl:(tf.length:Int)=g^mf)(m2:2<=mf)(hb:∀n∈tf,0<=n/\n<g){left:Nat}(X:Th g tf mf gq left)
include hg hl m2
theorem TD(ly:Y.length=Z.length)(le:Aw g tf mf Y=Aw g tf mf Z){a u:Int}(hi:i+mf<=Y.length)(e:u=a+(i:Int)):EV g 0 tf mf (Bj Y a) u=EV g 0 tf mf (Bj Z a) u:=by
 have one:∀{Y:qW},i+mf<=Y.length->EV g 0 tf mf (Bj Y a) u=(Aw g tf mf Y).getD i 0:=λ{Y} hi=>by rw[Cz hi];show tf.getD (Ao g (BL (Bj Y a) (0+u) mf)).toNat 0=_;rw[PB,show 0+u-a=((i:Nat):Int) by lia,Io hi]
 rw[one hi,one (by rw[<-ly];exact hi),le]
omit hl m2 in
theorem Ki{x x':Int->Int}{u:Int}(h:∀j:Nat,j<mf->x (u+(j:Int))=x' (u+(j:Int))):EV g 0 tf mf x u=EV g 0 tf mf x' u:=by
 show tf.getD (Ao g (BL x (0+u) mf)).toNat 0=tf.getD (Ao g (BL x' (0+u) mf)).toNat 0
 congr 3
 unfold BL;exact bU λj hj=>by rw[b7];exact h j (bh.mp hj)
include X
theorem Ob:∃x x',Ei g x/\Ei g x'/\x 0≠x' 0/\∀u:Int,1-(gq:Int)<=u->EV g 0 tf mf x u=EV g 0 tf mf x' u:=by
 obtain⟨q,qe,st⟩:=X.ev;obtain⟨rk,hr,_⟩:=X.b.ex
 by_cases e0:gq=0
 ·subst e0;refine⟨λu=>if u=0 then 1 else 0,λ_=>0,λu=>by dsimp only;split<;>lia,λu=>by dsimp only;lia,by show (1:Int)≠0;decide,λu hu=>Ki hg λj hj=>?_⟩;show (if u+(j:Int)=0 then (1:Int) else 0)=0;rw[qE 0#1]
 ·have ne:∀i,0<i->i<gq->q i≠(0,0):=λi _ hi z=>by
   have:=DU hr st (gq-i) i 0#1;rw[show i+(gq-i)=gq by lia,qe,z]at this;lia
  rcases FO hg hl m2 0#1 st ne with⟨Y,Z,l1,l2,b1,b2,le,wn,_,dr⟩;have dr:=dr qe
  have n0:Y.getD (gq-1) 0≠Z.getD (gq-1) 0:=λz=>wn (gq-1) 0#1 (by
   have c:∀{Y:qW},Y.length=mf+gq-1->Y.drop (gq-1)=Y.getD (gq-1) 0::Y.drop gq:=λ{Y} l=>by rw[cj (show gq-1<Y.length by lia),bH,bI 0#1,show gq-1+1=gq by lia];rfl
   rw[c l1,c l2,z,dr])
  have eq1:∀z:Int,1<=z->Bj Y (1-(gq:Int)) z=Bj Z (1-(gq:Int)) z:=λz hz=>GL 0#1 λj _ e=>Pk dr 0#1
  refine⟨Bj Y (1-(gq:Int)),Bj Z (1-(gq:Int)),B1 hg b1 _,B1 hg b2 _,?_,λu hu=>?_⟩
  ·show sn Y (0-(1-(gq:Int)))≠sn Z (0-(1-(gq:Int)));rw[show 0-(1-(gq:Int))=((gq-1:Nat):Int) by lia,Cw 0#1,Cw 0#1];exact n0
  ·by_cases c:u<=0
   ·exact TD hg hl m2 0#1 le (i:=(u-(1-(gq:Int))).toNat) 0#1 0#1
   ·exact Ki hg λj hj=>eq1 _ 0#1
theorem Qw:∃x x',Ei g x/\Ei g x'/\x 0≠x' 0/\∀u:Int,u<=(left:Int)-(mf:Int)->EV g 0 tf mf x u=EV g 0 tf mf x' u:=by
 obtain⟨q,qe,st⟩:=X.lv;obtain⟨rk,hr,_⟩:=X.b.ex
 by_cases e0:left=0
 ·subst e0;refine⟨λu=>if u=0 then 1 else 0,λ_=>0,λu=>by dsimp only;split<;>lia,λu=>by dsimp only;lia,by show (1:Int)≠0;decide,λu hu=>Ki hg λj hj=>?_⟩;show (if u+(j:Int)=0 then (1:Int) else 0)=0;rw[qE 0#1]
 ·have ne:∀i,0<i->i<left->q i≠(0,0):=λi hi hi2 z=>by
   have:=DU hr st i 0 0#1;rw[fj,qe,z]at this;lia
  rcases FO hg hl m2 0#1 st ne with⟨Y,Z,l1,l2,b1,b2,le,wn,tk,_⟩;have tk:=tk qe
  have n0:Y.getD (mf-1) 0≠Z.getD (mf-1) 0:=λz=>wn 0 0#1 (by
   have c:∀{Y:qW},Y.length=mf+left-1->(Y.drop 0).take mf=Y.take (mf-1)++[Y.getD (mf-1) 0]:=λ{Y} l=>by rw[dj,show mf=mf-1+1 by lia,cp,bI 0#1,bH,show mf-1+1-1=mf-1 by lia,bI 0#1];rfl
   rw[c l1,c l2,z,tk])
  have eq1:∀z:Int,z<=-1->Bj Y (1-(mf:Int)) z=Bj Z (1-(mf:Int)) z:=λz hz=>GL 0#1 λj _ e=>Pl tk 0#1
  refine⟨Bj Y (1-(mf:Int)),Bj Z (1-(mf:Int)),B1 hg b1 _,B1 hg b2 _,?_,λu hu=>?_⟩
  ·show sn Y (0-(1-(mf:Int)))≠sn Z (0-(1-(mf:Int)));rw[show 0-(1-(mf:Int))=((mf-1:Nat):Int) by lia,Cw 0#1,Cw 0#1];exact n0
  ·by_cases c:1-(mf:Int)<=u
   ·exact TD hg hl m2 0#1 le (i:=(u-(1-(mf:Int))).toNat) 0#1 0#1
   ·exact Ki hg λj hj=>eq1 _ 0#1
include hb
theorem Th.ends{gs:Nat}(em:gq+left+2=mf+gs)(m1:1<=gs):BW g (Kf g tf mf gq gs) (g^(gs-1))=true/\BW g (Kf g tf mf gq gs) 1=true:=by
 have wl:=IG hg tf mf gq gs
 have bk:∀{x:Int->Int},Ei g x->CV g (-(gq:Int)) (Kf g tf mf gq gs) gs (EV g 0 tf mf x)=x 0:=λ{x} hx=>by have z:=DY.back hg hl m2 hb X.b em 0 hx 0;rw[Int.neg_zero,Int.zero_sub,cr]at z;exact z
 refine⟨?_,?_⟩
 ·rcases Ob hg hl m2 X with⟨x,x',hx,hx',ne,eq⟩;have d:Rw g (CV g (-(gq:Int)) (Kf g tf mf gq gs) gs) (-(gq:Int)+((0:Nat):Int)):=TB hg (E6 hg hb 0 mf x) (E6 hg hb 0 mf x') (λj hj n=>eq _ 0#1) (by rw[bk hx,bk hx'];exact ne);have z:=(FH hg wl (show 0<gs by lia)).mpr d;rw[fi]at z;exact z
 ·rcases Qw hg hl m2 X with⟨x,x',hx,hx',ne,eq⟩;have d:Rw g (CV g (-(gq:Int)) (Kf g tf mf gq gs) gs) (-(gq:Int)+((gs-1:Nat):Int)):=TB hg (E6 hg hb 0 mf x) (E6 hg hb 0 mf x') (λj hj n=>eq _ 0#1) (by rw[bk hx,bk hx'];exact ne);have z:=(FH hg wl (show gs-1<gs by lia)).mpr d;rw[dJ,cF]at z;exact z
end
def Lf(g:Int)(tf:qW)(mf:Nat):Prop:=g^(mf-1)<=9/\∀rk,¬Hb g.toNat (tf.length/g.toNat) tf rk
def Oc(g:Int)(tf:qW)(mf:Nat):Prop:=9<g^(mf-1)\/(g^(mf-1)<=9/\∃gq left gs,Th g tf mf gq left/\gq+left+2=mf+gs/\256<g^gs)
theorem WY{g:Int}{m:Nat}(h0:0<g6.length/g.toNat){M':List (qX)}{f':qX->Nat}(r:Qo 0#5 (FS g.toNat 0#5 g6) M f)(all:∀p∈BX 0#5,p∈M)(r':Qo 0#5 (λa b=>FS g.toNat 0#5 g6 b a) M' f'):(∀p∈BX 0#5,p∈M')/\Th g g6 m (f (0,0)) (f' (0,0)):=by
 obtain⟨al,bk⟩:=YI (m:=m) h0 r all r';have ev:(0,0)∈BX 0#5:=Ez.mpr (.inl rfl)
 have way:∀{S:qX->qX->Prop} {M:List (qX)} {f:qX->Nat},Qo 0#5 S M f->∀(n:Nat) (p:qX),p∈M->f p=n->∃q:Nat->qX,q n=p/\∀i,i<n->S (q i) (q (i+1)):=by
  intro S M f r n
  induction n with
  |zero=>intro p _ _;exact⟨λ_=>p,rfl,λi hi=>qG hi (fO _)⟩
  |succ n ih =>
   intro p hp e;rcases r.top p hp with z|⟨q,s,hq,z⟩
   ·lia
   ·obtain⟨w,w1,w2⟩:=ih q hq 0#1;refine⟨λi=>if i<=n then w i else p,qE 0#1,λi hi=>?_⟩;show S (if i<=n then w i else p) (if i+1<=n then w (i+1) else p);rw[qF 0#1]
    by_cases y:i+1<=n
    ·rw[qF y];exact w2 i 0#1
    ·rw[qE y,show i=n by lia,w1];exact s
 refine⟨al,bk,?_,?_⟩
 ·obtain⟨q,h1,h2⟩:=way r _ (0,0) (all _ ev) rfl;exact⟨q,h1,h2⟩
 ·obtain⟨q,h1,h2⟩:=way r' _ (0,0) (al _ ev) rfl;refine⟨λi=>q (f' (0,0)-i),by show q (f' (0,0)-0)=_;rw[fi,h1],λi hi=>?_⟩;have z:=h2 (f' (0,0)-(i+1)) 0#1;rw[show f' (0,0)-(i+1)+1=f' (0,0)-i by lia]at z;exact z
inductive Jc(CT:qR)(vs:List V)(H:Hp)(Q:VK)(E:XK):Prop
 |m (r:qR) (g lo:Int) (g6:qW) (m:Nat) (lf:Int) (tf:qW) (mf:Nat):vs=[.ref r]->Aj H r g lo g6 m->BU g lo g6 m lf tf mf->(9<g^(mf-1)->∀H',AH H H'->E (.ref CT) none H')->(Lf g tf mf->∀H',AH H H'->Q .non H')->(g^(mf-1)<=9->∀p D H' M f,AH H H'->H' p=some (.tup [.int (f (0,0):Nat),.ref D])->Qo (tf.length/g.toNat) (FS g.toNat (tf.length/g.toNat) tf) M f->(∀p∈BX (tf.length/g.toNat),p∈M)->Q (.ref p) H')->Jc CT vs H Q E
inductive Fl(CN CT:qR)(vs:List V)(H:Hp)(Q:VK)(E:XK):Prop
 |m (r:qR) (g lo:Int) (g6:qW) (m:Nat) (lf:Int) (tf:qW) (mf:Nat):vs=[.ref r]->Aj H r g lo g6 m->BU g lo g6 m lf tf mf->(Lf g tf mf->∀H',AH H H'->E (.ref CN) none H')->(Oc g tf mf->∀H',AH H H'->E (.ref CT) none H')->(g^(mf-1)<=9->∀gq left gs,Th g tf mf gq left->gq+left+2=mf+gs->1<=gs->g^gs<=256->∀r' H',AH H H'->Aj H' r' g (-lf-(gq:Int)) (Kf g tf mf gq gs) gs->Q (.ref r') H')->Fl CN CT vs H Q E
noncomputable def Qx(c:Int):Nat->Int
 |0=>c%2147483647+48271
 |k+1=>(Qx c k*48271+(k:Int)*(k:Int)+11)%2147483647
noncomputable def J4(c:Int)(m:Nat):qW:=(List.range m).map λk=>Qx c (k+1)/7
theorem NC(c:Int)(m:Nat):(J4 c m).length=m:=by unfold J4;rw[List.length_map,List.length_range]
theorem Uu(c:Int)(m:Nat):∀x∈J4 c m,0<=x/\x<2147483647:=λx hx=>by unfold J4 at hx;obtain⟨k,_,rfl⟩:=bg.mp hx;show 0<=(Qx c k*48271+(k:Int)*(k:Int)+11)%2147483647/7/\(Qx c k*48271+(k:Int)*(k:Int)+11)%2147483647/7<2147483647;generalize Qx c k*48271+(k:Int)*(k:Int)+11=u;lia
inductive Od(vs:List V)(H:Hp)(Q:VK)(z3_:XK):Prop
 |m (c m:Int):vs=[.int c,.int m]->0<=m->m<=300->(∀(r:qR) (H':Hp),AH H H'->H r=none->H' r=some (.lst ((J4 c m.toNat).map V.int))->Q (.ref r) H')->Od vs H Q z3_
abbrev xn(l:qW)(i:Nat):Nat:=(l.getD i 0).toNat
noncomputable def Eh(k G:Nat)(l:qW):Nat:=
 if k=1 then (if G=9\/(G=6/\xn l 10%2=1) then 3 else if G=8/\xn l 10%2=1 then 4 else 2)
 else if k=2 then 1+xn l 10%(G-2)
 else if k=3 then xn l 10%2+2*(xn l 11%2)
 else if k=4 then (if G=9 then (1+xn l 10%2+xn l 11%3*3)*16+xn l 12%3*3 else (1+xn l 10%4*2)%G*16+xn l 12%(G/2)*2)
 else 0
noncomputable def J7(k:Nat)(l:qW):Nat:=if k=3 then 0 else xn l 14%2
noncomputable def DV(k G:Nat)(l:qW)(a:Nat):Nat:=if k=0 then a else if k=4 then (C1 4 G (Eh 4 G l) (J7 4 l) a+xn l 13)%G else C1 k G (Eh k G l) (J7 k l) a
def KG(k G:Nat):Prop:=(k=0/\2<=G/\G<=9)\/(k=1/\(G=4\/G=6\/G=8\/G=9))\/(k=2/\3<=G/\G<=7)\/(k=3/\G=2)\/(k=4/\(G=4\/G=8\/G=9))\/(k=5/\G=8)\/(k=6/\5<=G/\G<=7)
noncomputable def mK(k:Nat):Nat:=if k=0 then 1 else if k=3 then 4 else 2
noncomputable def Va(k G:Nat)(l:qW):Bool:=decide (k=5\/(k=6/\G=7)\/(k=4/\G=8/\xn l 12%2=1))
noncomputable def Bt.tw(c:Bt):Bool:=decide (c.k=5\/(c.k=6/\c.g=7)\/(c.k=4/\c.g=8/\c.s%16%4=2))
noncomputable def Bt.fits(c:Bt):Bool:=decide (c.h=(if c.k=3 then 8 else c.g)/\2<=c.g/\c.g<=9/\(c.k=3->c.g=2) /\
 (if c.tw=true then c.ch.length=3/\((c.ch.getD 0 (0,0)).1/c.g=(c.ch.getD 0 (0,0)).2/c.g\/(c.ch.getD 2 (0,0)).1%c.h=(c.ch.getD 2 (0,0)).2%c.h)/\256<c.g^3/\c.k≠3 else c.g^(c.top+2-(if c.k=3 then 4 else 2))<=256/\(if c.k=3 then 4 else 2)<=c.top+2))
theorem Kj:∀c∈EU,c.fits=true:=by decide +kernel
theorem Kk{c:Bt}(hc:c∈EU)(n:Oa c.g ν):CQ (c.g:Int) (BS (c.h*c.g) ν (C1 c.k c.g c.s c.d)) (if c.k=3 then 4 else 2) c.tw 0 (BS (c.h*c.g) ν (C1 c.k c.g c.s c.d)) (if c.k=3 then 4 else 2) c.top:=by
 have f:=qN (Kj c hc);obtain⟨f1,f2,f3,f4,f5⟩:=f;have ok:=S7 c hc;have h0:0<c.h:=by rw[f1];split<;>lia
 have m2:2<=(if c.k=3 then 4 else 2):=by split<;>lia
 have hh:c.h=c.g^((if c.k=3 then 4 else 2)-1):=by
  rw[f1];split
  ·rename_i z;rw[f4 z]
  ·exact (Nat.pow_one c.g).symm
 have m3:3<=c.g->(if c.k=3 then 4 else 2)<=2:=λz=>by
  split
  ·rename_i y
   have:=f4 y;lia
  ·lia
 refine S8 (Bt.fam ok h0) n f2 f3 m2 (by split<;>lia) m3 hh (by rw[f1];split<;>lia) (λz=>?_) λz=>?_
 ·rw[qE (by rw[z];exact bf)]at f5;refine⟨?_,f5.2⟩;have:=f5.1;rw[<-eU];lia
 ·rw[qF z]at f5;obtain⟨c1,c2,c3,c4⟩:=f5;refine⟨_,_,c.ch.length,Bt.way ok,by lia,?_,?_,by rw[qE c4];lia⟩
  ·rw[c1];exact c2
  ·rw[c1,qE c4];show 256<(c.g:Int)^3;rw[<-eU];lia
noncomputable def Lg(k G s d:Nat):Bool:=EU.any λc=>Nat.beq c.k k&&Nat.beq c.g G&&Nat.beq c.s s&&Nat.beq c.d d
theorem Dm{k s d:Nat}(e:Lg k G s d=true):∃c∈EU,c.k=k/\c.g=G/\c.s=s/\c.d=d:=by obtain⟨c,hc,z⟩:=List.any_eq_true.mp e;simp only[Bool.and_eq_true]at z;exact⟨c,hc,cu z.1.1.1,cu z.1.1.2,cu z.1.2,cu z.2⟩
theorem Uv{k:Nat}(h:KG k G)(k0:k≠0)(l:qW)(p0:k=4->Eh 4 G l%16≠0):∃c∈EU,c.k=k/\c.g=G/\c.s=Eh k G l/\c.d=J7 k l:=by
 have md:∀{n m:Nat},0<m->n%m<m:=λh=>cJ _ h
 rcases h with⟨rfl,_⟩|⟨rfl,h⟩|⟨rfl,h⟩|⟨rfl,rfl⟩|⟨rfl,h⟩|⟨rfl,rfl⟩|⟨rfl,h⟩
 ·exact qG rfl k0
 ·have z:∀G∈[4,6,8,9],∀a<2,∀d<2,Lg 1 G (if G=9\/(G=6/\a=1) then 3 else if G=8/\a=1 then 4 else 2) d=true:=by decide +kernel
  exact Dm (z G (by rcases h with rfl|rfl|rfl|rfl<;>decide) _ (md 0#8) _ (md 0#8))
 ·have z:∀G<8,3<=G->∀r<G-2,∀d<2,Lg 2 G (1+r) d=true:=by decide +kernel
  exact Dm (z G 0#1 h.1 _ (md 0#1) _ (md 0#8))
 ·have z:∀a<2,∀b<2,Lg 3 2 (a+2*b) 0=true:=by decide +kernel
  exact Dm (z _ (md 0#8) _ (md 0#8))
 ·have p0:=p0 rfl;rcases h with rfl|rfl|rfl
  ·have z:∀a<4,∀t<2,∀d<2,((1+a*2)%4*16+t*2)%16≠0->Lg 4 4 ((1+a*2)%4*16+t*2) d=true:=by decide +kernel
   exact Dm (z _ (md 0#8) _ (md 0#8) _ (md 0#8) p0)
  ·have z:∀a<4,∀t<4,∀d<2,((1+a*2)%8*16+t*2)%16≠0->Lg 4 8 ((1+a*2)%8*16+t*2) d=true:=by decide +kernel
   exact Dm (z _ (md 0#8) _ (md 0#8) _ (md 0#8) p0)
  ·have z:∀a<2,∀b<3,∀t<3,∀d<2,((1+a+b*3)*16+t*3)%16≠0->Lg 4 9 ((1+a+b*3)*16+t*3) d=true:=by decide +kernel
   exact Dm (z _ (md 0#8) _ (md 0#8) _ (md 0#8) _ (md 0#8) p0)
 ·have z:∀d<2,Lg 5 8 0 d=true:=by decide +kernel
  exact Dm (z _ (md 0#8))
 ·have z:∀G<8,5<=G->∀d<2,Lg 6 G 0 d=true:=by decide +kernel
  exact Dm (z G 0#1 h.1 _ (md 0#8))
theorem Fm{n:Nat}{ν':Nat->Int}{T T':Nat->Nat}(h:∀a,a<n->ν (T a)=ν' (T' a)):BS n ν T=BS n ν' T':=bU λa ha=>h a (bh.mp ha)
theorem Uw(g a b:Int):Ao g [a,b]=a*g+b:=by rw[show[a,b]=[a]++[b] from rfl,DJ,LC]
theorem TF(G2:2<=G){f:Nat->Nat}{x:Int->Int}(hx:Ei (G:Int) x)(lo:Int):CV (G:Int) lo (BS (G^2) ν f) 2 x=ν (f ((x lo).toNat*G+(x (lo+1)).toNat)):=by
 have a:=hx lo;have b:=hx (lo+1)
 have e:BL x lo 2=[x lo,x (lo+1)]:=by show[x (lo+((0:Nat):Int)),x (lo+((1:Nat):Int))]=_;rw[show lo+((0:Nat):Int)=lo by lia];rfl
 have e2:(x lo*(G:Int)+x (lo+1)).toNat=(x lo).toNat*G+(x (lo+1)).toNat:=by
  have z:x lo*(G:Int)+x (lo+1)=(((x lo).toNat*G+(x (lo+1)).toNat:Nat):Int):=by rw[cy,cx,bp a.1,bp b.1]
  rw[z,bM]
 have lt:(x lo).toNat*G+(x (lo+1)).toNat<G^2:=by have:=fV G (show (x lo).toNat+1<=G by lia);rw[Nat.succ_mul]at this;rw[Nat.pow_two];lia
 unfold CV;rw[e,Uw,e2,Bw lt]
theorem TH{x:Int->Int}(hx:Ei (G:Int) x)(lo:Int):CV (G:Int) lo (BS G ν id) 1 x=ν (x lo).toNat:=by
 have a:=hx lo
 have e:BL x lo 1=[x lo]:=by show[x (lo+((0:Nat):Int))]=_;rw[show lo+((0:Nat):Int)=lo by lia]
 unfold CV;rw[e,LC,Bw 0#1];rfl
theorem Ux{u:Nat}(h:(G=4/\(u=1\/u=3))\/(G=8/\(u=1\/u=3\/u=5\/u=7))\/(G=9/\(u=1\/u=2\/u=4\/u=5\/u=7\/u=8))):∀x y,x<G->y<G->u*x%G=u*y%G->x=y:=by
 rcases h with⟨rfl,h⟩|⟨rfl,h⟩|⟨rfl,h⟩
 ·rcases h with rfl|rfl<;>lia
 ·rcases h with rfl|rfl|rfl|rfl<;>lia
 ·rcases h with rfl|rfl|rfl|rfl|rfl|rfl<;>lia
theorem Pm(G0:0<G)(n:Oa G ν)(c:Nat):Oa G λv=>ν ((v+c)%G):=by
 refine⟨λx _=>n.lt _ (cJ _ G0),λx y hx hy e=>?_⟩;have z:=n.inj _ _ (cJ _ G0) (cJ _ G0) e;have c1:=cJ c G0;rw[Nat.add_mod x c,Nat.add_mod y c,dH hx,dH hy]at z;generalize c%G=r at z c1
 have f:∀x,x<G->(x+r)%G=if x+r<G then x+r else x+r-G:=λx hx=>by
  split
  ·exact dH ‹_›
  ·rw[Nat.mod_eq_sub_mod 0#1,dH 0#1]
 rw[f x hx,f y hy]at z
 split at z<;>split at z<;>lia
theorem Kl:∀c∈EU,decide (c.k<=4->(c.k=4->c.g≠8)->c.top+2<=2*if c.k=3 then 4 else 2)=true:=by decide +kernel
theorem TJ{k:Nat}(h:KG k G)(l:qW)(n:Oa G ν):∃d tf mf top,CQ (G:Int) (BS (G^mK k) ν (DV k G l)) (mK k) (Va k G l) d tf mf top/\(k<=4->(k=4->G≠8)->top+2<=mf+mf):=by
 have G2:2<=G:=by unfold KG at h;lia
 have G9:G<=9:=by unfold KG at h;lia
 by_cases k0:k=0
 ·subst k0;have e:BS (G^mK 0) ν (DV 0 G l)=BS G ν id:=by rw[show G^mK 0=G from Nat.pow_one G];exact Fm λa _=>rfl
  have z:=Ja (G:=G) n G2 G9 (g6:=BS G ν id) (m:=1) (bL _) 0#8 (by rw[CJ,cB,cF,dR]) (λx hx=>by unfold BS at hx;obtain⟨a,ha,rfl⟩:=bg.mp hx;exact n.lt _ (bh.mp ha)) (d:=0) (λlo x hx=>by rw[cr])
  exact⟨_,_,_,_,by rw[e];exact z,λ_ _=>by decide⟩
 by_cases p0:k=4/\Eh 4 G l%16=0
 ·obtain⟨rfl,p0⟩:=p0;have hG:G=4\/G=8\/G=9:=by unfold KG at h;lia
  obtain⟨u,hu⟩:∃u,u=Eh 4 G l/16:=⟨_,rfl⟩
  have uo:(G=4/\(u=1\/u=3))\/(G=8/\(u=1\/u=3\/u=5\/u=7))\/(G=9/\(u=1\/u=2\/u=4\/u=5\/u=7\/u=8)):=by
   have dv:∀{A t:Nat},t<16->u=(A*16+t)/16->u=A:=λh1 h2=>by lia
   rcases hG with rfl|rfl|rfl
   ·have e:=dv (t:=xn l 12%2*2) 0#1 hu;have z:∀r<4,(1+r*2)%4=1\/(1+r*2)%4=3:=by decide
    rw[e];exact .inl ⟨rfl,z _ (cJ _ 0#8)⟩
   ·have e:=dv (t:=xn l 12%4*2) 0#1 hu;have z:∀r<4,(1+r*2)%8=1\/(1+r*2)%8=3\/(1+r*2)%8=5\/(1+r*2)%8=7:=by decide
    rw[e];exact .inr (.inl ⟨rfl,z _ (cJ _ 0#8)⟩)
   ·have e:=dv (t:=xn l 12%3*3) 0#1 hu;have z:∀r<2,∀q<3,1+r+q*3=1\/1+r+q*3=2\/1+r+q*3=4\/1+r+q*3=5\/1+r+q*3=7\/1+r+q*3=8:=by decide
    rw[e];exact .inr (.inr ⟨rfl,z _ (cJ _ 0#8) _ (cJ _ 0#8)⟩)
  have tw:Va 4 G l=false:=by
   unfold Va;refine qI λz=>?_;rcases z with z|⟨z,_⟩|⟨_,rfl,z⟩
   ·lia
   ·lia
   ·have p:Eh 4 8 l=(1+xn l 10%4*2)%8*16+xn l 12%4*2:=rfl;rw[p,fU]at p0;clear p hu uo h hG n;lia
  have nu:Oa G λv=>ν ((u*v%G+xn l 13)%G):=by have na:=Pm (show 0<G by lia) n (xn l 13);exact⟨λx _=>na.lt _ (cJ _ 0#1),λx y hx hy e=>Ux uo x y hx hy (na.inj _ _ (cJ _ 0#1) (cJ _ 0#1) e)⟩
  have tl:((BS (G^2) ν (DV 4 G l)).length:Int)=(G:Int)^2:=by rw[CJ,eU]
  have tv:∀a,DV 4 G l a=((if J7 4 l=0 then u*(a/G) else u*(a%G))%G+xn l 13)%G:=λa=>by
   show (C1 4 G (Eh 4 G l) (J7 4 l) a+xn l 13)%G=_;unfold C1 GJ;simp only[show ¬(4:Nat)=3 by decide,show ¬(4:Nat)=1 by decide,show ¬(4:Nat)=2 by decide,if_false,if_true];rw[p0,<-hu]
   by_cases c:J7 4 l=0
   ·rw[qF c,qF c,Nat.zero_mul,fQ]
   ·rw[qE c,qE c,Nat.zero_mul,fQ]
  have tb:∀x∈BS (G^2) ν (DV 4 G l),0<=x/\x<(G:Int):=λx hx=>by unfold BS at hx;obtain⟨a,ha,rfl⟩:=bg.mp hx;rw[tv];exact n.lt _ (cJ _ 0#1)
  rw[tw];clear uo hG hu p0 h tw k0
  by_cases c:J7 4 l=0
  ·refine⟨0,_,_,_,Ja nu G2 G9 (m:=2) 0#8 (bL _) tl tb (λlo x hx=>?_),λ_ _=>by decide⟩;have a:=hx lo;have b:=hx (lo+1);rw[cr,TH hx,TF G2 hx,tv,qF c,Ct (G:=G) (u:=(x lo).toNat) 0#1]
  ·refine⟨1,_,_,_,Ja nu G2 G9 (m:=2) 0#8 (bL _) tl tb (λlo x hx=>?_),λ_ _=>by decide⟩;have a:=hx lo;have b:=hx (lo+1);rw[TH hx,TF G2 hx,tv,qE c,show ((x lo).toNat*G+(x (lo+1)).toNat)%G=(x (lo+1)).toNat by rw[eV,Nat.add_mul_mod_self_right,dH 0#1]]
 ·obtain⟨c,hc,rfl,rfl,e3,e4⟩:=Uv h k0 l λe z=>p0 ⟨e,z⟩
  have fit:=qN (Kj c hc);have mm:mK c.k=if c.k=3 then 4 else 2:=by unfold mK;rw[qE k0]
  have hp:c.h*c.g=c.g^mK c.k:=by
   rw[mm,fit.1];split
   ·rename_i z;rw[fit.2.2.2.1 z]
   ·exact (Nat.pow_two c.g).symm
  have tw:c.tw=Va c.k c.g l:=by
   unfold Bt.tw Va;refine decide_eq_decide.mpr (or_congr Iff.rfl (or_congr Iff.rfl (and_congr_right λy1=>and_congr_right λy2=>?_)));have p:Eh c.k c.g l=(1+xn l 10%4*2)%8*16+xn l 12%4*2:=by rw[y1,y2];rfl
   rw[e3,p,fU];generalize xn l 12=t;clear p y1 y2 hp mm fit;lia
  by_cases k4:c.k=4
  ·have na:=Pm (show 0<c.g by lia) n (xn l 13);have z:=Kk hc na;rw[hp,tw,<-mm]at z;have e:BS (c.g^mK c.k) ν (DV c.k c.g l)=BS (c.g^mK c.k) (λv=>ν ((v+xn l 13)%c.g)) (C1 c.k c.g c.s c.d):=Fm λa _=>by show ν (DV c.k c.g l a)=ν ((C1 c.k c.g c.s c.d a+xn l 13)%c.g);unfold DV;rw[qE k0,qF k4,e3,e4,k4]
   rw[e];exact⟨_,_,_,_,z,λa b=>by rw[mm];have:=qN (Kl c hc) a b;lia⟩
  ·have z:=Kk hc n;rw[hp,tw,<-mm]at z;have e:BS (c.g^mK c.k) ν (DV c.k c.g l)=BS (c.g^mK c.k) ν (C1 c.k c.g c.s c.d):=Fm λa _=>by unfold DV;rw[qE k0,qE k4,e3,e4]
   rw[e];exact⟨_,_,_,_,z,λa b=>by rw[mm];have:=qN (Kl c hc) a b;lia⟩
theorem WZ{k:Nat}(h:KG k G)(l:qW)(n:Oa G ν):∃d tf mf top,CQ (G:Int) (BS (G^mK k) ν (DV k G l)) (mK k) (Va k G l) d tf mf top:=by obtain⟨d,tf,mf,top,z,_⟩:=TJ h l n;exact⟨d,tf,mf,top,z⟩
def Ti(H:Hp)(p:qR)(l:qW):Prop:=H p=some (.lst (l.map V.int))/\l.length=15/\∀x∈l,0<=x/\x<2147483647
theorem Ti.same{p:qR}{l:qW}(e:AH H H')(x:Ti H p l):Ti H' p l:=⟨e _ _ x.1,x.2⟩
theorem Ti.at{p:qR}{l:qW}(x:Ti H p l)(hi:i<15):Lm (l.map V.int) ((i:Nat):Int)=some (.int ((xn l i:Nat):Int)):=by
 have hl:i<l.length:=by rw[x.2.1];exact hi
 have b:=x.2.2 (l.getD i 0) (by rw[bH,bI hl];exact dO hl);rw[Dy hl,bp b.1]
inductive Dn(k:Nat)(vs:List V)(H:Hp)(Q:VK)(z3_:XK):Prop
 |m (G:Nat) (p:qR) (l:qW) (h t:Nat):vs=[.int (G:Int),.ref p,.int (h:Int),.int (t:Int)]->KG k G->Ti H p l->h<G->t<G->(∀H',AH H H'->Q (.int ((if k=4 then (GJ 4 G (Eh 4 G l) h t+xn l 13)%G else GJ k G (Eh k G l) h t:Nat):Int)) H')->Dn k vs H Q z3_
inductive Gz(vs:List V)(H:Hp)(Q:VK)(z3_:XK):Prop
 |m (h t:Nat):vs=[.int (h:Int),.int (t:Int)]->Q (.int ((GJ 5 8 0 h t:Nat):Int)) H->Gz vs H Q z3_
inductive Jd(vs:List V)(H:Hp)(Q:VK)(z3_:XK):Prop
 |m (p a:qR) (l:qW) (n:Nat):vs=[.ref p,.ref a]->Ti H p l->H a=some (.lst ((Ai 2 (n:Int) 4).map V.int))->(∀H',AH H H'->Q (.int ((C1 3 2 (Eh 3 2 l) 0 n:Nat):Int)) H')->Jd vs H Q z3_
theorem TK{zs:qW}(p:zs.Perm (CM G)):Oa G λv=>zs.getD v 0:=by
 have hl:zs.length=G:=by rw[p.length_eq,Be]
 have nd:(CM G).Nodup:=by unfold CM;rw[List.Nodup,List.pairwise_map];exact (List.nodup_range (n:=G)).imp λh e=>h 0#1
 have ndz:zs.Nodup:=p.nodup_iff.mpr nd;refine⟨λx hx=>?_,λx y hx hy e=>?_⟩
 ·have hx':x<zs.length:=by lia
  have m:zs.getD x 0∈CM G:=p.mem_iff.mp (by rw[bH,bI hx'];exact dO hx');obtain⟨i,hi⟩:=cQ.mp m;have il:i<G:=by have:=(bJ.mp hi).1;rwa [Be]at this
  rw[DH il]at hi;have:=Option.some.inj hi;lia
 ·have hx':x<zs.length:=by lia
  have hy':y<zs.length:=by lia
  have e:zs.getD x 0=zs.getD y 0:=e;rw[bH,bH,bI hx',bI hy']at e;exact (fY ndz).mp e
theorem Uy{k:Nat}(h:KG k G)(l:qW){n:Nat}(hn:n<G^mK k):DV k G l n<G:=by
 have na:Oa G λv=>(v:Int):=⟨λx hx=>by lia,λx y _ _ e=>by lia⟩
 obtain⟨d,tf,mf,top,c⟩:=WZ h l na;have z:=c.tb ((BS (G^mK k) (λv=>(v:Int)) (DV k G l)).getD n 0) (by rw[bH,bI (by rw[CJ];exact hn)];exact dO _);rw[Bw hn]at z;lia
section
variable{g:Int}(hg:2<=g)(hl:(tf.length:Int)=g^mf)(m2:2<=mf){lw:Int}{W:qW}{n:Nat}(n1:1<=n)(h:∀x,Ei g x->CV g lw W n (EV g 0 tf mf x)=x 0)
include hg hl m2 n1 h
theorem Qy{at':Nat}(u:∀v:qW,v.length=mf+n-1->(∀k∈v,0<=k/\k<g)->W.getD (Ao g (Aw g tf mf v)).toNat 0=v.getD at' 0)(al:at'<mf+n-1)(ly:Y.length=Z.length)(bY:∀s∈Y,0<=s/\s<g)(bZ:∀s∈Z,0<=s/\s<g)(le:Aw g tf mf Y=Aw g tf mf Z)(hi:i+(mf+n-1)<=Y.length):Y.getD (i+at') 0=Z.getD (i+at') 0:=by
 have one:∀{Y:qW},(∀s∈Y,0<=s/\s<g)->i+(mf+n-1)<=Y.length->W.getD (Ao g (((Aw g tf mf Y).drop i).take n)).toNat 0=Y.getD (i+at') 0:=λ{Y} bY hi=>by
  have lz:((Y.drop i).take (mf+n-1)).length=mf+n-1:=List.length_take_of_le (by rw[bj];lia);have z:=u ((Y.drop i).take (mf+n-1)) lz λk hk=>bY k (bv (cO hk))
  have e:Aw g tf mf ((Y.drop i).take (mf+n-1))=((Aw g tf mf Y).drop i).take n:=by
   refine AU ?_ λj hj=>?_
   ·rw[BD,lz,List.length_take_of_le (by rw[bj,BD];lia)];lia
   ·rw[BD,lz]at hj;have hj':j<n:=by lia
    rw[Cz (by rw[lz];lia),B2 hj',Bh,Cz 0#1]
    congr 3
    rw[eK,List.take_take,eJ,eS 0#1]
  rw[e]at z;rw[z,B2 al,Bh]
 rw[<-one bY hi,<-one bZ (by rw[<-ly];exact hi),le]
theorem Lh{k:Nat}(st:∀i,i<k->FS g.toNat (tf.length/g.toNat) tf (q i) (q (i+1)))(ne:∀i,0<i->i<k->q i≠(0,0)):k<n+mf:=by
 apply Decidable.byContradiction;intro big;obtain⟨Y,Z,l1,l2,b1,b2,le,wn,_⟩:=FO hg hl m2 0#1 st ne;obtain⟨at',_,al,u⟩:=Qv hg (show 1<=mf by lia) n1 h;refine wn at' 0#1 (AU ?_ λj hj=>?_)
 ·rw[bq,bq,bj,bj,l1,l2]
 ·rw[bq]at hj;replace hj:=bR hj (Nat.min_le_left _ _);have z:=Qy hg hl m2 n1 h u al 0#1 b1 b2 le (i:=j) 0#1;rw[B2 0#1,B2 0#1,Bh,Bh,eV at' j];exact z
theorem ND:∀(k:Nat),1<=k->∀q:Nat->qX,q 0=(0,0)->q k=(0,0)->¬∀i,i<k->FS g.toNat (tf.length/g.toNat) tf (q i) (q (i+1)):=by
 intro k
 induction k using Nat.strongRecOn with
 |_ k ih =>
  intro k1 q q0 qk st
  by_cases c:∃i,0<i/\i<k/\q i=(0,0)
  ·obtain⟨i,i0,ik,e⟩:=c;exact ih i ik i0 q q0 e λj hj=>st j 0#1
  ·obtain⟨Y,Z,l1,l2,b1,b2,le,wn,tk,dr⟩:=FO hg hl m2 k1 st λi i0 ik e=>c ⟨i,i0,ik,e⟩
   have tk:=tk q0;have dr:=dr qk
   have im:EV g 0 tf mf (Bj Y 0)=EV g 0 tf mf (Bj Z 0):=by
    funext z
    by_cases c1:z<0
    ·exact Ki hg λj hj=>GL 0#1 λi _ e=>Pl tk 0#1
    ·by_cases c2:z<(k:Int)
     ·exact TD hg hl m2 0#1 le (i:=z.toNat) 0#1 0#1
     ·exact Ki hg λj hj=>GL 0#1 λi _ e=>Pk dr 0#1
   have e:∀z:Int,Bj Y 0 z=Bj Z 0 z:=λz=>by
    have sh:∀{x:Int->Int},Ei g x->CV g (lw+z) W n (EV g 0 tf mf x)=x z:=λ{x} hx=>by
     have y:=h (λu=>x (u+z)) λu=>hx _
     rw[show EV g 0 tf mf (λu=>x (u+z))=λu=>EV g 0 tf mf x (u+z) from ?_,Cv,b7]at y
     ·exact y
     ·funext u
      show CV g (0+u) tf mf (λv=>x (v+z))=CV g (0+(u+z)) tf mf x;rw[Cv];congr 1;lia
    rw[<-sh (B1 hg b1 0),<-sh (B1 hg b2 0),im]
   refine wn 0 0#1 ?_
   have eYZ:Y=Z:=AU 0#1 λj hj=>by have z:=e (j:Int);unfold Bj at z;rw[Int.sub_zero,Cw hj,Cw 0#1]at z;exact z
   rw[eYZ]
theorem Uz{k:Nat}(st:∀i,i<k->FS g.toNat (tf.length/g.toNat) tf (q i) (q (i+1))):k<2*(n+mf):=by
 apply Decidable.byContradiction;intro big
 by_cases c:∃e,e<=k/\q e=(0,0)
 ·obtain⟨e,ek,qe⟩:=c
  have no:∀i,i<=k->q i=(0,0)->i=e:=λi hi z=>by
   apply Decidable.byContradiction;intro ne;rcases Nat.lt_or_ge i e with y|y
   ·refine ND hg hl m2 n1 h (e-i) 0#1 (λj=>q (i+j)) (by rw[fQ];exact z) (by show q (i+(e-i))=_;rw[show i+(e-i)=e by lia];exact qe) λj hj=>st (i+j) 0#1
   ·refine ND hg hl m2 n1 h (i-e) 0#1 (λj=>q (e+j)) (by rw[fQ];exact qe) (by show q (e+(i-e))=_;rw[show e+(i-e)=i by lia];exact z) λj hj=>st (e+j) 0#1
  have a:=Lh hg hl m2 n1 h (q:=q) (k:=e) (λi hi=>st i 0#1) λi i0 hi z=>by have:=no i 0#1 z;lia
  have b:=Lh hg hl m2 n1 h (q:=λj=>q (e+j)) (k:=k-e) (λi hi=>st (e+i) 0#1) λi i0 hi z=>by have:=no (e+i) 0#1 z;lia
  lia
 ·have a:=Lh hg hl m2 n1 h (q:=q) (k:=k) st λi i0 hi z=>c ⟨i,by lia,z⟩
  lia
theorem TL:∃rk:qX->Nat,Hb g.toNat (tf.length/g.toNat) tf rk:=by
 have top:∀p:qX,∃k,(∃q:Nat->qX,q k=p/\∀i,i<k->FS g.toNat (tf.length/g.toNat) tf (q i) (q (i+1)))/\∀k',(∃q:Nat->qX,q k'=p/\∀i,i<k'->FS g.toNat (tf.length/g.toNat) tf (q i) (q (i+1)))->k'<=k:=λp=>by
  apply Classical.byContradiction;intro no
  have up:∀k,∃k',k<=k'/\∃q:Nat->qX,q k'=p/\∀i,i<k'->FS g.toNat (tf.length/g.toNat) tf (q i) (q (i+1)):=λk=>by
   induction k with
   |zero=>exact⟨0,bL _,λ_=>p,rfl,λi hi=>qG hi (fO _)⟩
   |succ k ih =>
    obtain⟨k',hk,w⟩:=ih;apply Classical.byContradiction;intro y;refine no ⟨k',w,λk2 w2=>?_⟩;apply Decidable.byContradiction;intro z;exact y ⟨k2,by lia,w2⟩
  obtain⟨k',hk,q,_,st⟩:=up (2*(n+mf));have:=Uz hg hl m2 n1 h st;lia
 refine⟨λp=>Classical.choose (top p),λp p' s=>?_⟩;obtain⟨⟨q,qk,st⟩,_⟩:=Classical.choose_spec (top p);have z:=(Classical.choose_spec (top p')).2 (Classical.choose (top p)+1) ⟨λi=>if i<=Classical.choose (top p) then q i else p',qE 0#1,λi hi=>?_⟩
 ·exact z
 ·show FS _ _ _ (if i<=_ then q i else p') (if i+1<=_ then q (i+1) else p');rw[qF 0#1]
  by_cases c:i+1<=Classical.choose (top p)
  ·rw[qF c];exact st i 0#1
  ·rw[qE c,show i=Classical.choose (top p) by lia,qk];exact s
end
structure GN(g lo:Int)(g6:qW)(m:Nat)(lo':Int)(tab':qW)(m':Nat):Prop where
 g2:2<=g
 len:(g6.length:Int)=g^m
 len':(tab'.length:Int)=g^m'
 m1:1<=m
 m1':1<=m'
 tb:∀n∈g6,0<=n/\n<g
 tb':∀n∈tab',0<=n/\n<g
 on:∀x,Ei g x->CV g lo' tab' m' (EV g lo g6 m x)=x 0
 no:∀x,Ei g x->CV g lo g6 m (EV g lo' tab' m' x)=x 0
section
variable{g:Int}{m:Nat}
theorem U0(g lo:Int)(g6:qW)(m:Nat)(x:Int->Int)(k:Int):EV g lo g6 m (λu=>x (u+k))=λu=>EV g lo g6 m x (u+k):=by
 funext u
 show CV g (lo+u) g6 m (λv=>x (v+k))=CV g (lo+(u+k)) g6 m x;rw[Cv];congr 1;lia
theorem GN.turn(U:GN g lo g6 m lo' tab' m'):GN g lo' tab' m' lo g6 m:=⟨U.g2,U.len',U.len,U.m1',U.m1,U.tb',U.tb,U.no,U.on⟩
theorem GN.im(U:GN g lo g6 m lo' tab' m'){x:Int->Int}(hx:Ei g x):EV g lo' tab' m' (EV g lo g6 m x)=x:=by
 funext z
 have y:=U.on (λu=>x (u+z)) λu=>hx _
 rw[U0,Cv,b7]at y;exact y
theorem GN.like(U:GN g lo g6 m lo' tab' m'){l:Int}{t:qW}{k:Nat}(hl:(t.length:Int)=g^k)(k1:1<=k)(tb:∀n∈t,0<=n/\n<g)(al:Ba g l t k lo g6 m):GN g l t k lo' tab' m':=
 ⟨U.g2,hl,U.len',k1,U.m1',tb,U.tb',λx hx=>by rw[Jb al hx];exact U.on x hx,λx hx=>by rw[al _ (E6 U.g2 U.tb' _ _ _)];exact U.no x hx⟩
theorem GN.ring(U:GN g lo g6 m lo' tab' m'){ring:qW}(hb:∀n∈ring,0<=n/\n<g)(n1:1<=ring.length):A1 g lo' tab' m' (A1 g lo g6 m ring)=ring:=by
 have hx:Ei g (A7 ring):=λz=>Bf U.g2 hb _
 have e:A7 (A1 g lo g6 m ring)=EV g lo g6 m (A7 ring):=by
  funext z
  rw[LB n1,di];rfl
 refine AU (by rw[Ci,Ci]) λi hi=>?_;rw[Ci,Ci]at hi
 have z:(A1 g lo' tab' m' (A1 g lo g6 m ring)).getD i 0=CV g ((i:Int)+lo') tab' m' (A7 (A1 g lo g6 m ring)):=by show ((List.range (A1 g lo g6 m ring).length).map λi:Nat=>tab'.getD (Ao g (Bn (A1 g lo g6 m ring) m' ((i:Int)+lo'))).toNat 0).getD i 0=_;rw[AS (by rw[Ci];exact hi)];rfl
 rw[z,e,di];have y:=congrFun (U.im hx) (i:Int);refine y.trans ?_;unfold A7;rw[cI 0#1 0#1,bM]
theorem Je(ring:qW):∀k,Bs g lo g6 m (A1 g lo g6 m ring) k=Bs g lo g6 m ring (k+1)
 |0=>rfl
 |k+1=>by show A1 g lo g6 m (Bs g lo g6 m (A1 g lo g6 m ring) k)=A1 g lo g6 m (Bs g lo g6 m ring (k+1));rw[Je ring k]
theorem GN.rings(U:GN g lo g6 m lo' tab' m'){ring:qW}(hb:∀n∈ring,0<=n/\n<g)(n1:1<=ring.length):∀k,Bs g lo' tab' m' (Bs g lo g6 m ring k) k=ring:=by
 intro k
 induction k with
 |zero=>rfl
 |succ k ih =>
  rw[<-Je];show Bs g lo' tab' m' (A1 g lo' tab' m' (A1 g lo g6 m (Bs g lo g6 m ring k))) k=ring;rw[U.ring (DO U.g2 lo U.tb m hb k) (by rw[Bc];exact n1)];exact ih
theorem GN.one(U:GN g lo g6 m lo' tab' m'){ring:qW}(hb:∀n∈ring,0<=n/\n<g)(n1:1<=ring.length):OE g lo g6 m ring=1:=by
 unfold OE
 have mem:∀c,c∈(BV g ring.length).filter (λc=>decide (A1 g lo g6 m c=ring))↔c=A1 g lo' tab' m' ring:=λc=>by
  rw[cE,Cm U.g2];constructor
  ·rintro⟨⟨cl,cb⟩,e⟩;rw[<-qN e];exact (U.ring cb 0#1).symm
  ·rintro rfl;exact⟨⟨Ci ..,MK U.g2 _ U.tb' _ _⟩,qH (U.turn.ring hb n1)⟩
 have nd:((BV g ring.length).filter λc=>decide (A1 g lo g6 m c=ring)).Nodup:=(Ff U.g2 _).filter _;generalize (BV g ring.length).filter (λc=>decide (A1 g lo g6 m c=ring))=l at mem nd;rcases l with _|⟨a,_|⟨b,l⟩⟩
 ·exact qG ((mem _).mpr rfl) cG
 ·rfl
 ·have e1:=(mem a).mp bo;have e2:=(mem b).mp (bi _ bo);rw[e1,e2]at nd;exact qG bo (cn.mp nd).1
theorem GN.again(U:GN g lo g6 m lo' tab' m'){ring:qW}(hb:∀n∈ring,0<=n/\n<g)(n1:1<=ring.length){p:Nat}(e:Bs g lo g6 m ring j=Bs g lo g6 m ring (j+p))(ap:∀k,k<j+p->∀i,i<k->Bs g lo g6 m ring i≠Bs g lo g6 m ring k)(p1:1<=p):j=0:=by
 rcases j with _|j
 ·rfl
 ·refine qG ?_ (ap (j+p) 0#1 j 0#1);have z:=qP (A1 g lo' tab' m') e;rw[show j+1+p=j+p+1 by lia]at z;have y:∀k,A1 g lo' tab' m' (Bs g lo g6 m ring (k+1))=Bs g lo g6 m ring k:=λk=>U.ring (DO U.g2 lo U.tb m hb k) (by rw[Bc];exact n1)
  rw[y,y]at z;exact z
theorem NE{g:Int}{m:Nat}(m1:1<=m)(c:BW g g6 (g^(m-1))=true/\BW g g6 1=true):CP g lo g6 m lo m:=
 ⟨m1,λj hj _=>by lia,.inr ⟨0,m-1,by lia,by lia,by lia,by lia,by rw[fi];exact c.1,by rw[dJ,cF];exact c.2⟩⟩
theorem GN.back(U:GN g lo g6 m lo' tab' m')(fw:BU g lo' tab' m' lf tf mf){left gs:Nat}(bx:Th g tf mf gq left)(em:gq+left+2=mf+gs)(n1:1<=gs){low:Int}{M:Nat}(nw:CP g lo g6 m low M):
  -lf-(gq:Int)=low/\gs=M/\Kf g tf mf gq gs=Cy g lo g6 m low M:=by
 obtain⟨fa,fl⟩:=fw.alike U.g2 U.len';have fb:=FN U.g2 U.tb' fw;have m2:=fw.two
 have al:Ba g (-lf-(gq:Int)) (Kf g tf mf gq gs) gs lo g6 m:=λy hy=>by have hx:=E6 U.g2 U.tb lo m y;have z:=DY.back U.g2 fl m2 fb bx.b em lf hx 0;rw[Jb fa hx,U.im hy,cr]at z;rw[z];show CV g (lo+0) g6 m y=_;rw[cr]
 have wl:=IG U.g2 tf mf gq gs;have ns:=NE (lo:=-lf-(gq:Int)) n1 (Th.ends U.g2 fl m2 fb bx em n1);obtain⟨e1,e2⟩:=(Ce U.g2 wl U.len ns nw).mp al;rw[Il U.g2 _ wl]at e2;refine⟨e1,?_,e2⟩;have a:=BZ U.g2 lo g6 m low M;rw[<-e2,wl]at a;exact EI U.g2 a
theorem GN.not_none(U:GN g lo g6 m lo' tab' m')(fw:BU g lo' tab' m' lf tf mf):¬Lf g tf mf:=λz=>by
 obtain⟨fa,fl⟩:=fw.alike U.g2 U.len';have V:=U.turn.like fl (by have:=fw.two;lia) (FN U.g2 U.tb' fw) fa
 obtain⟨rk,hr⟩:=TL U.g2 fl fw.two U.m1 (lw:=lo+lf) (W:=g6) λx hx=>by
  have y:=V.on x hx;rw[show EV g lf tf mf x=λu=>EV g 0 tf mf x (u+lf) from ?_,Cv]at y
  ·exact y
  ·funext u
   show CV g (lf+u) tf mf x=CV g (0+(u+lf)) tf mf x
   congr 1;lia
 exact z.2 rk hr
theorem GN.not_wide(U:GN g lo g6 m lo' tab' m')(fw:BU g lo' tab' m' lf tf mf)(sm:g^(mf-1)<=9)(sz:g^m<=256):¬Oc g tf mf:=by
 rintro (z|⟨_,gq,left,gs,bx,em,big⟩)
 ·lia
 obtain⟨fa,fl⟩:=fw.alike U.g2 U.len';have fb:=FN U.g2 U.tb' fw;have n1:=DY.many U.g2 fl fw.two fb bx.b;obtain⟨low,M,nw⟩:=LJ g lo g6 m;obtain⟨_,e,_⟩:=U.back fw bx em 0#1 nw;have:=Bx U.g2 (show gs<=m by rw[e];exact nw.small U.m1);lia
theorem Qz(g2:2<=g):((CM g.toNat).length:Int)=g^1/\CP g 0 (CM g.toNat) 1 0 1/\∀x,Ei g x->CV g 0 (CM g.toNat) 1 x=x 0:=by
 have g1:g^1=g:=by rw[cB,cF,dR]
 have ul:((CM g.toNat).length:Int)=g^1:=by rw[Be,g1];lia
 have fn:∀x,Ei g x->CV g 0 (CM g.toNat) 1 x=x 0:=λx hx=>by have:=hx 0;show (CM g.toNat).getD (Ao g [x (0+0)]).toNat 0=x 0;rw[show Ao g [x (0+0)]=x 0 from by show 0*g+x (0+0)=_;rw[fN,b7,cr],bH,DH 0#1];show (((x 0).toNat:Nat):Int)=x 0;lia
 refine⟨ul,NE (bL _) ?_,fn⟩
 have c:BW g (CM g.toNat) 1=true:=by
  refine II (k:=1) (k':=0) (by rw[Be];lia) ?_ ?_
  ·rw[Int.ediv_one,fH,cI 0#8 0#1];rfl
  ·rw[bH,DH 0#1,bH,DH 0#1];decide
 rw[dJ,cF];exact⟨c,c⟩
theorem GN.still(U:GN g lo g6 m lo' tab' m'){low:Int}{M:Nat}(nw:CP g lo g6 m low M)(nw':CP g lo' tab' m' low' M'){lj:Int}{Mj:Nat}(nj:CP g (low+low') (D5 g (Cy g lo g6 m low M) M (Cy g lo' tab' m' low' M') (M+M'-1)) (M+M'-1) lj Mj):
  lj=0/\Cy g (low+low') (D5 g (Cy g lo g6 m low M) M (Cy g lo' tab' m' low' M') (M+M'-1)) (M+M'-1) lj Mj=CM g.toNat:=by
 obtain⟨ul,un,uf⟩:=Qz U.g2
 have al:Ba g (low+low') (D5 g (Cy g lo g6 m low M) M (Cy g lo' tab' m' low' M') (M+M'-1)) (M+M'-1) 0 (CM g.toNat) 1:=λx hx=>by
  rw[SD U.g2 _ _ _ _ nw.one nw'.one hx,uf x hx]
  have e:(λz=>CV g low (Cy g lo g6 m low M) M λy=>x (z+y))=EV g lo g6 m x:=by
   funext z
   have hz:Ei g λy=>x (z+y):=λy=>hx _
   rw[Di U.g2 U.len nw.all hz,show (λy=>x (z+y))=λy=>x (y+z) from funext λy=>by rw[di],Cv];rfl
  rw[e,Di U.g2 U.len' nw'.all (E6 U.g2 U.tb _ _ _)];exact U.on x hx
 obtain⟨e1,e2⟩:=(Ce U.g2 (KR U.g2 ..) ul nj un).mp al;rw[Il U.g2 _ ul]at e2;exact⟨e1,e2⟩
end
end L2
namespace L2
open PySem PySem.Spec PyProof.Rows
variable{D:HU}{H:Hp}{a:qR}{lo:Int}{g6:qW}{tl to:TE}{xs:List V}{α β:Type}{σ:St}
section
variable{X:Cx}(K:qV)
theorem DE(h:X.K=K:=by rfl):VE X (Tt K):=h▸Ov
theorem B3(h:X.K=K:=by rfl):VE X (Tu K):=h▸RH
theorem NF(h:X.K=K:=by rfl):Cf X (.builtin "len") (λxs H Q=>∃p ys,xs=[V.ref p]/\(Ae K H p ys\/Ah K H p ys)/\Q (.int ((ys.length:Nat):Int)) H):=h▸Fx
theorem Q6{tg l:Expr}(hl:PE X l tl)(h:X.K=K:=by rfl):PI X tg l (RB K tl):=h▸Oh hl
theorem Q0{o e:Expr}{t:TA}{apos cpos:Pos}(ho:PE X o to)(ha:PA X [e] t)(hK:X.K=K:=by rfl)
  (hbase:attributeBase o "append" X.env (eval o X.env)=eval o X.env:=by rfl)
  (hfew:((backTo cpos (starEach [e] X.env)).all (λx=>!x.1)&&(backToKw cpos (keywordEach [] X.env)).all (λx=>x.1.isSome)&&decide (([e]:List Expr).length+([]:List Keyword).length+(if ([]:List Keyword).isEmpty then 0 else 1)<30))=true:=by rfl)
  (hline:(apos.endLine==cpos.line)=true:=by rfl) (hs:starEach [e] X.env=(false,eval e X.env)::starEach [] X.env:=by rfl) (hplain:(backTo cpos (starEach [] X.env)).any (·.1)=false:=by rfl):
  PE X (.Call (.Attribute o "append" apos) [e] [] cpos) (Zz K "list" Kx to t):=by
 subst hK;exact Ow gC PySem.F.slot_list_append PySem.F.type_list_append GU ho ha hbase hfew hline hs hplain
end
theorem CK{t u:TS}(Z:St->Hp->Prop)(h1:∀N:St->Hp->Prop,(∀σ' H',Z σ' H'->N σ' H')->t {D with nx:=N} σ H)(h2:∀G:St->Hp->Prop,(∀σ H,u D σ H->G σ H)->∀σ' H',Z σ' H'->G σ' H'):P3 t u D σ H:=Z4 Z h1 (h2 _ λ_ _ z=>z)
theorem NG{Pv:Nat->St->Hp->Prop}{g:TG}{tb:TS}{R:VK}{B0:St->Hp->Prop}
  (h:∀(C B:St->Hp->Prop) i x,∀G:St->Hp->Prop,(∀σ H,(g x σ H λσ2 H2=>tb {nx:=Pv (i+1),rt:=R,bk:=B,ct:=C} σ2 H2)->G σ H)->∀σ H,xs[i]?=some x->Pv i σ H->G σ H):
  ∀i x σ H,xs[i]?=some x->Pv i σ H->g x σ H λσ2 H2=>tb {nx:=Pv (i+1),rt:=R,bk:=B0,ct:=Pv (i+1)} σ2 H2:=λi x σ H hx p=>h _ _ i x _ (λ_ _ z=>z) σ H hx p
theorem D9{n:Nat}{f:Nat->V}{Pv:Nat->St->Hp->Prop}{g:TG}{tb:TS}{R:VK}{B0:St->Hp->Prop}
  (h:∀(C B:St->Hp->Prop) i,∀G:St->Hp->Prop,(∀σ H,(g (f i) σ H λσ2 H2=>tb {nx:=Pv (i+1),rt:=R,bk:=B,ct:=C} σ2 H2)->G σ H)->∀σ H,i<n->Pv i σ H->G σ H):
  ∀i σ H,i<n->Pv i σ H->g (f i) σ H λσ2 H2=>tb {nx:=Pv (i+1),rt:=R,bk:=B0,ct:=Pv (i+1)} σ2 H2:=λi σ H hx p=>h _ _ i _ (λ_ _ z=>z) σ H hx p
theorem Li{A:Nat->V->α->β->Prop}{c:Nat->V->Prop}{Pv:Nat->α->β->Prop}(h:∀i x,∀G:α->β->Prop,(∀a b,A i x a b->G a b)->∀a b,c i x->Pv i a b->G a b):∀i x a b,c i x->Pv i a b->A i x a b:=λi x a b hc p=>h i x _ (λ_ _ z=>z) a b hc p
theorem EW{A:Nat->α->β->Prop}{c:Nat->Prop}{Pv:Nat->α->β->Prop}(h:∀i,∀G:α->β->Prop,(∀a b,A i a b->G a b)->∀a b,c i->Pv i a b->G a b):∀i a b,c i->Pv i a b->A i a b:=λi a b hc p=>h i _ (λ_ _ z=>z) a b hc p
theorem Au.el{r:qR}{g:Int}{P:Prop}(h:Au H r g lo g6)(k:∀tb,H r=some (.tup [.int g,.int lo,.ref tb])->H tb=some (.tup (g6.map V.int))->P):P:=by obtain⟨tb,h1,h2⟩:=h;exact k tb h1 h2
theorem DZ{K:qV}{i:Int}{v:V}{Q:VK}(h:Ae K H a xs)(hi:Lm xs i=some v)(q:Q v H):Tt K (.ref a) (.int i) H Q:=⟨a,xs,i,v,rfl,rfl,h,hi,q⟩
theorem CY{K:qV}{i:Int}{v:V}{Q:VK}(h:Ah K H a xs)(hi:Lm xs i=some v)(q:Q v H):Tu K (.ref a) (.int i) H Q:=⟨a,xs,i,v,rfl,rfl,h,hi,q⟩
end L2
set_option hygiene false in
local macro_rules|`(tactic|walk_at "")=>`(tactic| ((try dsimp only[L2.RX,L2.VH,L2.P3,L2.Q8,L2.Vs,L2.VB,L2.Xb,L2.aw,L2.Vn,L2.tC,L2.RO,L2.Fu,L2.Kt,L2.Vz,L2.Vy,L2.P4,L2.Fq,L2.U8,L2.Zz,L2.Zy,L2.Kx,L2.Xh,L2.VG,L2.VI,L2.UE,L2.C6,Option.join_some,L2.YA,L2.Xo,L2.GV,L2.Rh,L2.Z5,L2.Xx,L2.Xy,L2.Xf,L2.Xe,L2.aq,L2.tB,L2.U5,L2.Xg,L2.U6,L2.rI,L2.To,L2.rU,L2.V5,L2.RP,L2.a6,L2.VC,L2.Op,L2.B4,L2.Vv,L2.RC,L2.Vw,L2.ax,L2.ay,L2.PD,L2.PJ,L2.PL,L2.PH,List.map_cons,List.map_nil,List.length_cons,List.length_nil,List.cons_append,List.nil_append,List.replicate,List.getElem?_cons_zero,List.getElem?_cons_succ,List.set_cons_zero,List.set_cons_succ,Nat.reduceAdd,Nat.reduceSub]);try simp only[L2.RX,L2.VH,L2.VI,L2.C6,Option.join_some,L2.Z5,L2.RP,L2.B4,L2.Vv,L2.RC,L2.Vw,L2.PD,L2.PJ,L2.PL,L2.PH,List.map_cons,List.map_nil,List.length_cons,List.length_nil,List.cons_append,List.nil_append,List.replicate,List.getElem?_cons_zero,List.getElem?_cons_succ,List.set_cons_zero,List.set_cons_succ,Nat.reduceAdd,Nat.reduceSub,Option.some.injEq,L2.V.int.injEq,L2.V.bl.injEq,L2.V.ref.injEq,L2.V.str.injEq,List.cons.injEq,and_true,true_and,exists_eq_left',exists_eq_left,exists_eq_right,exists_and_left,exists_and_right,exists_eq,and_assoc,if_true,if_false,reduceIte,reduceCtorEq,not_true_eq_false,not_false_eq_true,Bool.false_eq_true,Bool.not_true,Bool.not_false,decide_eq_true_eq,Bool.not_eq_true',decide_eq_false_iff_not]))
namespace K55
open PySem L2 RW
def top(i:Nat):Stmt:=PySem.Challenge.pw_rowrules_k55_whole_there_and_back.main.body.getD i (.Pass ⟨0,0,0,0⟩)
abbrev Wa:Stmt:=top 9
abbrev Wc:Stmt:=top 10
abbrev Wd:Stmt:=top 11
abbrev aE:Stmt:=top 12
abbrev aG:Stmt:=top 13
abbrev We:Stmt:=top 14
abbrev Wf:Stmt:=top 15
abbrev Wg:Stmt:=top 18
abbrev Wh:Stmt:=top 19
abbrev aH:Stmt:=top 20
abbrev Wi:Stmt:=top 21
abbrev Wj:Stmt:=top 22
abbrev Wk:Stmt:=top 23
abbrev Wl:Stmt:=top 24
abbrev Wm:Stmt:=top 25
abbrev Wn:Stmt:=top 26
abbrev Wo:Stmt:=top 28
abbrev Wp:Stmt:=top 29
abbrev Wq:Stmt:=top 30
abbrev Wr:Stmt:=top 31
abbrev Ws:Stmt:=top 32
abbrev Wt:Stmt:=top 34
abbrev Wu:Stmt:=top 35
abbrev Wv:Stmt:=top 36
abbrev Ww:Stmt:=top 37
abbrev Wx:Stmt:=top 38
abbrev Wy:Stmt:=top 40
abbrev Wz:Stmt:=top 41
abbrev aI:Stmt:=top 42
abbrev W0:Stmt:=top 43
abbrev W1:Stmt:=top 44
abbrev W2:Stmt:=top 45
abbrev W3:Stmt:=top 48
abbrev W4:Stmt:=top 50
abbrev W5:Stmt:=top 51
abbrev W6:Stmt:=top 54
abbrev W7:Stmt:=top 55
abbrev W8:Stmt:=top 56
abbrev W9:Stmt:=top 57
abbrev XA:Stmt:=top 58
abbrev XB:Stmt:=top 59
abbrev XC:Stmt:=top 60
abbrev XD:Stmt:=top 61
abbrev XE:Stmt:=top 63
abbrev XF:Stmt:=top 65
abbrev aJ:Stmt:=top 67
abbrev XG:Stmt:=top 68
abbrev aK:Stmt:=top 69
abbrev aL:Stmt:=top 72
abbrev aN:Stmt:=top 73
abbrev XH:Stmt:=top 74
abbrev XI:Stmt:=top 75
abbrev XJ:Stmt:=top 76
abbrev XM:Stmt:=top 77
abbrev XN:Stmt:=top 78
abbrev XO:Stmt:=top 79
abbrev XQ:Stmt:=top 80
abbrev XR:Stmt:=top 81
abbrev XS:Stmt:=top 82
abbrev XT:Stmt:=top 83
abbrev XU:Stmt:=top 84
abbrev XV:Stmt:=top 85
abbrev XW:Stmt:=top 86
abbrev aO:Stmt:=top 74
abbrev aP:Stmt:=top 87
abbrev XX:Stmt:=top 88
abbrev aQ:Stmt:=top 89
abbrev U1:Stmt:=top 90
set_option genInjectivity false
structure bA where
 (c_43 c_56 c_65 c_57 c_42 c_49 c_26:qR)
 (f_47 f_50 f_19 f_5 f_1 f_40 f_55 f_18 f_23 f_7 f_11 f_71 f_63 f_39 f_41 f_68 f_70 f_38 f_73 f_66 f_12 f_64 f_52 f_58 f_54 f_36 f_59 f_46 f_2 f_37 f_62 f_53 f_67 f_13 f_20 f_51 f_35 f_25 f_45 f_60 f_21 f_22 f_69 f_48 f_61 f_3 f_24 f_6 f_4 f_9 f_16 f_34 f_10 f_15 f_31 f_17 f_28 f_32 f_27 f_44 f_30 f_33 f_29 f_8 f_14 f_0 f_72:qR)
 (k_EVEN:qR)
 (cc_27 p_27:qR)
structure CC(K:qV)(mg:Str->Option qQ)(t:bA):Prop where
 m_43:mg "RowError"=some (.ref t.c_43)
 m_56:mg "NoRule"=some (.ref t.c_56)
 m_65:mg "NoRow"=some (.ref t.c_65)
 m_57:mg "NoSuch"=some (.ref t.c_57)
 m_42:mg "NoWindow"=some (.ref t.c_42)
 m_49:mg "TooWide"=some (.ref t.c_49)
 m_26:mg "NoWayBack"=some (.ref t.c_26)
 m_EVEN:mg "EVEN"=some (.ref t.k_EVEN)
 q_EVEN:PX K t.k_EVEN [0,0]=true
 m_47:mg "is_whole"=some (.ref t.f_47)
 d_47:∃fd,Bl K "is_whole" "is_whole" Wa t.f_47 fd
 m_50:mg "is_sign"=some (.ref t.f_50)
 d_50:∃fd,Bl K "is_sign" "is_sign" Wc t.f_50 fd
 m_19:mg "check_word"=some (.ref t.f_19)
 d_19:∃fd,Bl K "check_word" "check_word" Wd t.f_19 fd
 m_5:mg "check_length"=some (.ref t.f_5)
 d_5:∃fd,Bl K "check_length" "check_length" aE t.f_5 fd
 m_1:mg "check_at_least"=some (.ref t.f_1)
 d_1:∃fd,Bl K "check_at_least" "check_at_least" aG t.f_1 fd
 m_40:mg "number_of"=some (.ref t.f_40)
 d_40:∃fd,Bl K "number_of" "number_of" We t.f_40 fd
 m_55:mg "word_of"=some (.ref t.f_55)
 d_55:∃fd,Bl K "word_of" "word_of" Wf t.f_55 fd
 m_18:mg "check_head"=some (.ref t.f_18)
 d_18:∃fd,Bl K "check_head" "check_head" Wg t.f_18 fd
 m_23:mg "places_for"=some (.ref t.f_23)
 d_23:∃fd,Bl K "places_for" "places_for" Wh t.f_23 fd
 m_7:mg "table_length"=some (.ref t.f_7)
 d_7:∃fd,Bl K "table_length" "table_length" aH t.f_7 fd
 m_11:mg "check_table"=some (.ref t.f_11)
 d_11:∃fd,Bl K "check_table" "check_table" Wi t.f_11 fd
 m_71:mg "rule"=some (.ref t.f_71)
 d_71:∃fd,Bl K "rule" "rule" Wj t.f_71 fd
 m_63:mg "places"=some (.ref t.f_63)
 d_63:∃fd,Bl K "places" "places" Wk t.f_63 fd
 m_39:mg "next_sign"=some (.ref t.f_39)
 d_39:∃fd,Bl K "next_sign" "next_sign" Wl t.f_39 fd
 m_41:mg "told_from"=some (.ref t.f_41)
 d_41:∃fd,Bl K "told_from" "told_from" Wm t.f_41 fd
 m_68:mg "heads"=some (.ref t.f_68)
 d_68:∃fd,Bl K "heads" "heads" Wn t.f_68 fd
 m_70:mg "lead"=some (.ref t.f_70)
 d_70:∃fd,Bl K "lead" "lead" Wo t.f_70 fd
 m_38:mg "lead_ring"=some (.ref t.f_38)
 d_38:∃fd,Bl K "lead_ring" "lead_ring" Wp t.f_38 fd
 m_73:mg "led"=some (.ref t.f_73)
 d_73:∃fd,Bl K "led" "led" Wq t.f_73 fd
 m_66:mg "after"=some (.ref t.f_66)
 d_66:∃tk fd dT,QI K "after" "after" Wr t.f_66 fd dT [.int 1 tk]
 m_12:mg "comes_again"=some (.ref t.f_12)
 d_12:∃tk fd dT,QI K "comes_again" "comes_again" Ws t.f_12 fd dT [.int 64 tk]
 m_64:mg "shares"=some (.ref t.f_64)
 d_64:∃fd,Bl K "shares" "shares" Wt t.f_64 fd
 m_52:mg "ways_on"=some (.ref t.f_52)
 d_52:∃fd,Bl K "ways_on" "ways_on" Wu t.f_52 fd
 m_58:mg "choose"=some (.ref t.f_58)
 d_58:∃fd,Bl K "choose" "choose" Wv t.f_58 fd
 m_54:mg "word_by"=some (.ref t.f_54)
 d_54:∃fd,Bl K "word_by" "word_by" Ww t.f_54 fd
 m_36:mg "before_at"=some (.ref t.f_36)
 d_36:∃fd,Bl K "before_at" "before_at" Wx t.f_36 fd
 m_59:mg "counts"=some (.ref t.f_59)
 d_59:∃fd,Bl K "counts" "counts" Wy t.f_59 fd
 m_46:mg "counting"=some (.ref t.f_46)
 d_46:∃fd,Bl K "counting" "counting" Wz t.f_46 fd
 m_2:mg "sign_or_nought"=some (.ref t.f_2)
 d_2:∃fd,Bl K "sign_or_nought" "sign_or_nought" aI t.f_2 fd
 m_37:mg "by_window"=some (.ref t.f_37)
 d_37:∃fd,Bl K "by_window" "by_window" W0 t.f_37 fd
 m_62:mg "narrow"=some (.ref t.f_62)
 d_62:∃fd,Bl K "narrow" "narrow" W1 t.f_62 fd
 m_53:mg "widened"=some (.ref t.f_53)
 d_53:∃fd,Bl K "widened" "widened" W2 t.f_53 fd
 m_67:mg "frame"=some (.ref t.f_67)
 d_67:∃fd,Bl K "frame" "frame" W3 t.f_67 fd
 m_13:mg "turned_back"=some (.ref t.f_13)
 d_13:∃fd,Bl K "turned_back" "turned_back" W4 t.f_13 fd
 m_20:mg "most_steps"=some (.ref t.f_20)
 d_20:∃fd,Bl K "most_steps" "most_steps" W5 t.f_20 fd
 m_51:mg "pair_of"=some (.ref t.f_51)
 d_51:∃fd,Bl K "pair_of" "pair_of" W6 t.f_51 fd
 m_35:mg "all_pairs"=some (.ref t.f_35)
 d_35:∃fd,Bl K "all_pairs" "all_pairs" W7 t.f_35 fd
 m_25:mg "word_pairs"=some (.ref t.f_25)
 d_25:∃fd,Bl K "word_pairs" "word_pairs" W8 t.f_25 fd
 m_45:mg "begin_of"=some (.ref t.f_45)
 d_45:∃fd,Bl K "begin_of" "begin_of" W9 t.f_45 fd
 m_60:mg "end_of"=some (.ref t.f_60)
 d_60:∃fd,Bl K "end_of" "end_of" XA t.f_60 fd
 m_21:mg "pair_nexts"=some (.ref t.f_21)
 d_21:∃fd,Bl K "pair_nexts" "pair_nexts" XB t.f_21 fd
 m_22:mg "pair_ranks"=some (.ref t.f_22)
 d_22:∃fd,Bl K "pair_ranks" "pair_ranks" XC t.f_22 fd
 m_69:mg "ranks"=some (.ref t.f_69)
 d_69:∃fd,Bl K "ranks" "ranks" XD t.f_69 fd
 m_48:mg "way_back"=some (.ref t.f_48)
 d_48:∃fd,Bl K "way_back" "way_back" XE t.f_48 fd
 m_61:mg "joined"=some (.ref t.f_61)
 d_61:∃fd,Bl K "joined" "joined" XF t.f_61 fd
 m_3:mg "steps_by_sign"=some (.ref t.f_3)
 d_3:∃fd,Bl K "steps_by_sign" "steps_by_sign" aJ t.f_3 fd
 m_24:mg "ways_round"=some (.ref t.f_24)
 d_24:∃fd,Bl K "ways_round" "ways_round" XG t.f_24 fd
 m_6:mg "rings_before"=some (.ref t.f_6)
 d_6:∃fd,Bl K "rings_before" "rings_before" aK t.f_6 fd
 m_4:mg "_law_cell_at"=some (.ref t.f_4)
 d_4:∃fd,Bl K "_law_cell_at" "_law_cell_at" aL t.f_4 fd
 m_9:mg "_law_stream"=some (.ref t.f_9)
 d_9:∃fd,Bl K "_law_stream" "_law_stream" aN t.f_9 fd
 m_16:mg "_law_power"=some (.ref t.f_16)
 d_16:∃fd,Bl K "_law_power" "_law_power" XH t.f_16 fd
 m_34:mg "_law_word"=some (.ref t.f_34)
 d_34:∃fd,Bl K "_law_word" "_law_word" XI t.f_34 fd
 m_10:mg "_law_tracks"=some (.ref t.f_10)
 d_10:∃fd,Bl K "_law_tracks" "_law_tracks" XJ t.f_10 fd
 m_15:mg "_law_marks"=some (.ref t.f_15)
 d_15:∃fd,Bl K "_law_marks" "_law_marks" XM t.f_15 fd
 m_31:mg "_law_sums"=some (.ref t.f_31)
 d_31:∃fd,Bl K "_law_sums" "_law_sums" XN t.f_31 fd
 m_17:mg "_law_three"=some (.ref t.f_17)
 d_17:∃fd,Bl K "_law_three" "_law_three" XO t.f_17 fd
 m_28:mg "_law_flip"=some (.ref t.f_28)
 d_28:∃fd,Bl K "_law_flip" "_law_flip" XQ t.f_28 fd
 m_32:mg "_law_told"=some (.ref t.f_32)
 d_32:∃fd,Bl K "_law_told" "_law_told" XR t.f_32 fd
 m_27:mg "_law_core"=some (.ref t.f_27)
 d_27:∃fd,WT K "_law_core" "_law_core" XS t.f_27 t.cc_27 t.p_27 fd
 hd_27:PySem.W.codeHdIn K t.cc_27 t.p_27=true
 m_44:mg "_law_low"=some (.ref t.f_44)
 d_44:∃fd,Bl K "_law_low" "_law_low" XT t.f_44 fd
 m_30:mg "_law_seen"=some (.ref t.f_30)
 d_30:∃fd,Bl K "_law_seen" "_law_seen" XU t.f_30 fd
 m_33:mg "_law_wide"=some (.ref t.f_33)
 d_33:∃fd,Bl K "_law_wide" "_law_wide" XV t.f_33 fd
 m_29:mg "_law_once"=some (.ref t.f_29)
 d_29:∃fd,Bl K "_law_once" "_law_once" XW t.f_29 fd
 m_8:mg "_law_joined"=some (.ref t.f_8)
 d_8:∃fd,Bl K "_law_joined" "_law_joined" aP t.f_8 fd
 m_14:mg "_law_again"=some (.ref t.f_14)
 d_14:∃fd,Bl K "_law_again" "_law_again" XX t.f_14 fd
 m_0:mg "_law_there_and_back"=some (.ref t.f_0)
 d_0:∃fd,Bl K "_law_there_and_back" "_law_there_and_back" aQ t.f_0 fd
 m_72:mg "law"=some (.ref t.f_72)
 d_72:∃fd,Bl K "law" "law" U1 t.f_72 fd
 z_len:mg "len"=none
 z_list:mg "list"=none
 z_reversed:mg "reversed"=none
 z_isinstance:mg "isinstance"=none
 z_range:mg "range"=none
 z_int:mg "int"=none
 z_bool:mg "bool"=none
 z_ValueError:mg "ValueError"=none
 z_tuple:mg "tuple"=none
 z_enumerate:mg "enumerate"=none
 z_min:mg "min"=none
 z_sum:mg "sum"=none
 z_sorted:mg "sorted"=none
 z_all:mg "all"=none
 g_LONGEST_TABLE:∃k,mg "LONGEST_TABLE"=some (.int 256 k)
 g_MOST_NODES:∃k,mg "MOST_NODES"=some (.int 9 k)
 x_42:PySem.W.excIn K t.c_42 Na "ValueError.__new__"=true
 x_49:PySem.W.excIn K t.c_49 Na "ValueError.__new__"=true
 x_26:PySem.W.excIn K t.c_26 Na "ValueError.__new__"=true
 em_49_49:PySem.W.exmOne K (.ref t.c_49) (.ref t.c_49)=some true
abbrev LP:Pos:=⟨393,47,393,91⟩
def NH(K:qV):Sp:=λvs H Q _=>∃(r a:qR) (g lo:Int) (g6:qW) (m:Nat) (xs:List V) (n:Int),vs=[.ref r,.ref a,.int n]/\Aj H r g lo g6 m/\Ae K H a xs/\(∀x∈xs,Kd H x)/\xs.length<=100 /\
 match CU g xs with
 |none=>∀ns:qW,xs=ns.map V.int->((n<0\/Fd g.toNat g6 ns<=n)->False)/\(0<=n->n<Fd g.toNat g6 ns->∀q H' w,(Dr g g6 m ns)[n.toNat]?=some w->Fa H H' q w->Q (.ref q) H')
 |some _=>False
inductive Lj(vs:List V)(H:Hp)(Q:VK)(z3_:XK):Prop
 |m (c:Int):vs=[.int c]->(∀lo:Int,Q (.int lo) H)->Lj vs H Q z3_
noncomputable def G3(g:Int):Int:=([6,4,3,3,3,2,2,2]:qW).getD (g-2).toNat 0
theorem Km{g:Int}(g2:2<=g)(g9:g<=9):2<=G3 g/\G3 g<=7/\(g<3->4<=G3 g)/\g^(G3 g).toNat<=256:=by
 obtain rfl|rfl|rfl|rfl|rfl|rfl|rfl|rfl:g=2\/g=3\/g=4\/g=5\/g=6\/g=7\/g=8\/g=9:=by lia
 all_goals exact⟨by decide,by decide,by decide,by decide⟩
theorem NI{g:Int}(g2:2<=g)(g9:g<=9){m:Nat}(m4:m<=4)(m3:3<=g->m<=2):(m:Int)<=G3 g:=by
 have z:=Km g2 g9
 by_cases c:3<=g
 ·have:=m3 c;lia
 ·have:=z.2.2.1 0#1;lia
inductive Jf(vs:List V)(H:Hp)(Q:VK)(z3_:XK):Prop
 |m (r:qR) (g lo:Int) (g6:qW) (m:Nat) (c:Int):vs=[.ref r,.int ((m:Nat):Int),.int c]->Aj H r g lo g6 m->m<=4->(3<=g->m<=2)->(∀(r':qR) (lo':Int) (tab':qW) (M:Nat) (H':Hp),AH H H'->Aj H' r' g lo' tab' M->Ba g lo' tab' M lo g6 m->Q (.ref r') H')->Jf vs H Q z3_
noncomputable def Da(c:Int):Nat:=([0,1,1,2,2,3,4,5,1,2,3,4]:List Nat).getD (c%12).toNat 0
noncomputable def Q3(c:Int):Nat:=if Da c=0 then (2+c/12%8).toNat else if Da c=1 then ([4,4,6,4,4,8,6,9]:List Nat).getD (c/12%8).toNat 0 else if Da c=2 then ([3,4,5,3,4,3,6,7]:List Nat).getD (c/12%8).toNat 0 else if Da c=3 then 2 else if Da c=4 then ([4,4,8,9]:List Nat).getD (c/12%4).toNat 0 else 8
theorem Lk(c:Int):Da c<=5:=by
 unfold Da;have h:(c%12).toNat<12:=by lia
 generalize (c%12).toNat=i at h;have z:∀i<12,([0,1,1,2,2,3,4,5,1,2,3,4]:List Nat).getD i 0<=5:=by decide
 exact z i h
theorem aR(c:Int):KG (Da c) (Q3 c):=by
 have k6:=Lk c;have a8:(c/12%8).toNat<8:=by lia
 have a4:(c/12%4).toNat<4:=by lia
 unfold KG Q3;generalize Da c=k at *;generalize (c/12%8).toNat=i at *;generalize (c/12%4).toNat=j at *;obtain rfl|rfl|rfl|rfl|rfl|rfl:k=0\/k=1\/k=2\/k=3\/k=4\/k=5:=by lia
 ·left
  refine⟨rfl,?_⟩;rw[qF rfl];lia
 ·have z:∀i<8,([4,4,6,4,4,8,6,9]:List Nat).getD i 0=4\/([4,4,6,4,4,8,6,9]:List Nat).getD i 0=6\/([4,4,6,4,4,8,6,9]:List Nat).getD i 0=8\/([4,4,6,4,4,8,6,9]:List Nat).getD i 0=9:=by decide
  exact .inr (.inl ⟨rfl,z i a8⟩)
 ·have z:∀i<8,3<=([3,4,5,3,4,3,6,7]:List Nat).getD i 0/\([3,4,5,3,4,3,6,7]:List Nat).getD i 0<=7:=by decide
  exact .inr (.inr (.inl ⟨rfl,z i a8⟩))
 ·exact .inr (.inr (.inr (.inl ⟨rfl,rfl⟩)))
 ·have z:∀i<4,([4,4,8,9]:List Nat).getD i 0=4\/([4,4,8,9]:List Nat).getD i 0=8\/([4,4,8,9]:List Nat).getD i 0=9:=by decide
  exact .inr (.inr (.inr (.inr (.inl ⟨rfl,z j a4⟩))))
 ·exact .inr (.inr (.inr (.inr (.inr (.inl ⟨rfl,rfl⟩)))))
def Kn(c:Int):Prop:=c%12≠7/\((c%12=6\/c%12=11)->c/12%4≠2)
theorem Kn.is{c:Int}(h:Kn c)(l:qW):Da c<=4/\(Da c=4->Q3 c≠8)/\Va (Da c) (Q3 c) l=false:=by
 have k5:Da c≠5:=λz=>by
  unfold Da at z;have b:(c%12).toNat<12:=by lia
  have n7:(c%12).toNat≠7:=by have:=h.1;lia
  generalize (c%12).toNat=i at b z n7;have y:∀i<12,i≠7->([0,1,1,2,2,3,4,5,1,2,3,4]:List Nat).getD i 0≠5:=by decide
  exact y i b n7 z
 have k4:=Lk c
 have g8:Da c=4->Q3 c≠8:=λz y=>by
  have i6:c%12=6\/c%12=11:=by
   unfold Da at z;have b:(c%12).toNat<12:=by lia
   have w:∀i<12,([0,1,1,2,2,3,4,5,1,2,3,4]:List Nat).getD i 0=4->i=6\/i=11:=by decide
   have:=w _ b z;lia
  have n2:=h.2 i6;unfold Q3 at y;rw[z]at y;have b:(c/12%4).toNat<4:=by lia
  have w:∀i<4,([4,4,8,9]:List Nat).getD i 0=8->i=2:=by decide
  have:=w _ b y;lia
 refine⟨by lia,g8,qI ?_⟩;rintro (z|⟨z,_⟩|⟨z,y,_⟩)
 ·exact k5 z
 ·lia
 ·exact g8 z y
inductive Jg(vs:List V)(H:Hp)(Q:VK)(z3_:XK):Prop
 |m (k G:Nat) (p a:qR) (l:qW) (n:Nat):vs=[.int (k:Int),.int (G:Int),.ref p,.ref a]->KG k G->k<=5->Ti H p l->H a=some (.lst ((Ai (G:Int) (n:Int) (mK k)).map V.int))->n<G^mK k->(∀H',AH H H'->Q (.int ((DV k G l n:Nat):Int)) H')->Jg vs H Q z3_
inductive Jh(pos:Pos)(Pt:qR)(vs:List V)(H:Hp)(Q:VK)(z3_:XK):Prop
 |m (c1 c2 lo:Int):vs=[.int c1,.int c2,.int lo]->C3 pos (WW "_law_core") Pt H->(∀(p r:qR) (H':Hp) (g:Int) (g6:qW) (m:Nat) (d:Int) (tf:qW) (mf top:Nat),Dk Pt H H'->C3 pos (WW "_law_core") Pt H'->H' p=some (.lst [.ref r,.int ((m:Nat):Int)])->Aj H' r g lo g6 m->CQ g g6 m (Va (Da c1) (Q3 c1) (J4 c2 15)) d tf mf top->(Da c1<=4->(Da c1=4->Q3 c1≠8)->top+2<=mf+mf)->Q (.ref p) H')->Jh pos Pt vs H Q z3_
inductive E7(K:qV)(vs:List V)(H:Hp)(Q:VK)(z3_:XK):Prop
 |m (a:qR) (ns:qW) (g:Int):vs=[.ref a,.int g,.int 1]->Ae K H a 1#3->(∀n∈ns,0<=n/\n<g)->1<=ns.length->(∀H',AH H H'->Q .non H')->E7 K vs H Q z3_
inductive Oe(K:qV)(vs:List V)(H:Hp)(Q:VK)(z3_:XK):Prop
 |m (r a:qR) (g lo:Int) (g6:qW) (m:Nat) (ns:qW):vs=[.ref r,.ref a]->2<=g->g<=9->Au H r g lo g6->(g6.length:Int)=g^m->1<=m->Ae K H a 1#3->(∀n∈ns,0<=n/\n<g)->ns.length<=900->(∀p H',Fa H H' p (Aw g g6 m ns)->Q (.ref p) H')->Oe K vs H Q z3_
inductive Ji(K:qV)(vs:List V)(H:Hp)(Q:VK)(z3_:XK):Prop
 |m (r a:qR) (g lo:Int) (g6:qW) (m:Nat) (ns:qW) (t:Nat):vs=[.ref r,.ref a,.int ((t:Nat):Int)]->Aj H r g lo g6 m->Ae K H a 1#3->(∀n∈ns,0<=n/\n<g)->1<=ns.length->ns.length<=300->t<=1000->(∀p H',Fa H H' p (Bs g lo g6 m ns t)->Q (.ref p) H')->Ji K vs H Q z3_
noncomputable def He(ns:qW):List Bq:=ns.map Sum.inl
theorem TM{a b:qW}(h:He a=He b):a=b:=List.map_inj_right (f:=(Sum.inl:Int->Bq)) (λ_ _ e=>Sum.inl.inj e) |>.mp h
noncomputable def Do(R:Nat->qW)(i:Nat):List (List Bq×V):=(List.range i).map λj:Nat=>(He (R j),V.int j)
def Jj(R:Nat->qW)(i:Nat):Prop:=∀k,k<i->∀j,j<k->R j≠R k
theorem G4{R:Nat->qW}{i:Nat}{r:qW}(h:∀j,j<i->R j≠r):Bg (Do R i) (He r)=none:=by unfold Bg Do;rw[Option.map_eq_none_iff,List.find?_eq_none];intro x hx;obtain⟨j,hj,rfl⟩:=bg.mp hx;rw[decide_eq_true_iff];exact λe=>h j (bh.mp hj) (TM e)
theorem TN{R:Nat->qW}{i:Nat}(h:∀j,j<i->R j≠R i):D1 (Do R i) (He (R i)) (V.int i)=Do R (i+1):=by rw[MZ _ (G4 h)];unfold Do;rw[cH,bS];rfl
theorem G5{R:Nat->qW}:∀{i j:Nat} {r:qW},j<i->R j=r->(∀k,k<j->R k≠r)->Bg (Do R i) (He r)=some (V.int j)
 |0,j,r,h,_,_=>by lia
 |i+1,j,r,h,e,ap=>by
  have hs:Do R (i+1)=Do R i++[(He (R i),V.int i)]:=by unfold Do;rw[cH,bS];rfl
  unfold Bg;rw[hs,List.find?_append]
  by_cases z:j<i
  ·have ih:=G5 (i:=i) z e ap;unfold Bg at ih;obtain⟨p,hp,hv⟩:=cM.mp ih;rw[hp];exact qP some hv
  ·have ej:j=i:=by lia
   subst ej;have nn:=G4 (R:=R) (i:=j) ap;unfold Bg at nn;rw[Option.map_eq_none_iff]at nn;rw[nn,Option.none_or];rw[List.find?_cons_of_pos (by rw[decide_eq_true_iff,e])];rfl
theorem Vb{R:Nat->qW}{i j:Nat}(h:Jj R i)(hj:j<i):∀k,k<j->R k≠R j:=λk hk=>h j hj k hk
noncomputable def YU(R:Nat->qW)(most:Nat):Option (qX)->Prop
 |none=>Jj R (most+1)
 |some (j,p)=>1<=p/\j+p<=most/\R j=R (j+p)/\Jj R (j+p)
theorem Of{R:Nat->qW}{i:Nat}(h:Jj R i)(h2:∀j,j<i->R j≠R i):Jj R (i+1):=λk hk j hj=>by
 by_cases z:k<i
 ·exact h k z j hj
 ·have:k=i:=by lia
  subst this;exact h2 j hj
theorem NJ(ns:qW):(He ns).map kV=ns.map V.int:=by unfold He;rw[c9];rfl
theorem Q4(R:Nat->qW)(i:Nat):(Do R i).length=i:=by unfold Do;rw[bG,bn]
noncomputable def bF(H:Hp):Option (qX)->V->Prop
 |none,v=>v=.non
 |some (j,p),v=>∃b,v=.ref b/\H b=some (.tup [.int ((j:Nat):Int),.int ((p:Nat):Int)])
inductive Jk(K:qV)(vs:List V)(H:Hp)(Q:VK)(z3_:XK):Prop
 |m (r a:qR) (g lo:Int) (g6:qW) (m:Nat) (ns:qW) (most:Nat):vs=[.ref r,.ref a,.int ((most:Nat):Int)]->Aj H r g lo g6 m->Ae K H a 1#3->(∀n∈ns,0<=n/\n<g)->1<=ns.length->ns.length<=300->most<=900->(∀o v H',YU (Bs g lo g6 m ns) most o->AH H H'->bF H' o v->Q v H')->Jk K vs H Q z3_
inductive Jl(K:qV)(vs:List V)(H:Hp)(Q:VK)(z3_:XK):Prop
 |m (r a:qR) (g lo:Int) (g6:qW) (m:Nat) (lf:Int) (tf:qW) (mf:Nat) (ns:qW):vs=[.ref r,.ref a]->Aj H r g lo g6 m->BU g lo g6 m lf tf mf->g^(mf-1)<=9->Ae K H a 1#3->(∀n∈ns,0<=n/\n<g)->1<=ns.length->(∀H',AH H H'->Q (.int (Gm g g6 ns)) H')->Jl K vs H Q z3_
inductive Ll(CT:qR)(vs:List V)(H:Hp)(Q:VK)(E:XK):Prop
 |m (r r':qR) (g lo:Int) (g6:qW) (m:Nat) (lo':Int) (tab':qW) (m':Nat) (low:Int) (M:Nat) (low':Int) (M':Nat):vs=[.ref r,.ref r']->Aj H r g lo g6 m->Aj H r' g lo' tab' m'->CP g lo g6 m low M->CP g lo' tab' m' low' M'->(256<g^(M+M'-1)->∀H',AH H H'->E (.ref CT) none H')->(g^(M+M'-1)<=256->∀(lj:Int) (Mj:Nat),CP g (low+low') (D5 g (Cy g lo g6 m low M) M (Cy g lo' tab' m' low' M') (M+M'-1)) (M+M'-1) lj Mj->∀rj H',AH H H'->Aj H' rj g lj (Cy g (low+low') (D5 g (Cy g lo g6 m low M) M (Cy g lo' tab' m' low' M') (M+M'-1)) (M+M'-1) lj Mj) Mj->Q (.ref rj) H')->Ll CT vs H Q E
inductive Jm(a:qR)(vs:List V)(H:Hp)(Q:VK)(z3_:XK):Prop
 |m (g n:Int):vs=[.int g,.int n]->2<=g->g<=9->0<=n->n<=300->H a=some (K4 a)->Q (.int (g^n.toNat)) H->Jm a vs H Q z3_
inductive Jn(vs:List V)(H:Hp)(Q:VK)(z3_:XK):Prop
 |m (r r':qR) (g lo:Int) (g6:qW) (m:Nat) (lo':Int) (tab':qW) (m':Nat):vs=[.ref r,.ref r']->Aj H r g lo g6 m->Aj H r' g lo' tab' m'->GN g lo g6 m lo' tab' m'->(∀H',AH H H'->Q (.bl true) H')->Jn vs H Q z3_
inductive G6(K:qV)(vs:List V)(H:Hp)(Q:VK)(z3_:XK):Prop
 |m (r a:qR) (g lo:Int) (g6:qW) (m:Nat) (lo':Int) (tab':qW) (m':Nat) (ns:qW):vs=[.ref r,.ref a]->Aj H r g lo g6 m->GN g lo g6 m lo' tab' m'->Ae K H a 1#3->(∀n∈ns,0<=n/\n<g)->1<=ns.length->ns.length<=300->(∀H',AH H H'->Q (.bl true) H')->G6 K vs H Q z3_
inductive G7(K:qV)(vs:List V)(H:Hp)(Q:VK)(z3_:XK):Prop
 |m (r r' a:qR) (g lo:Int) (g6:qW) (m:Nat) (lo':Int) (tab':qW) (m':Nat) (ns:qW) (t:Nat):vs=[.ref r,.ref r',.ref a,.int ((t:Nat):Int)]->Aj H r g lo g6 m->Aj H r' g lo' tab' m'->GN g lo g6 m lo' tab' m'->Ae K H a 1#3->(∀n∈ns,0<=n/\n<g)->1<=ns.length->ns.length<=300->t<=6->(∀H',AH H H'->Q (.bl true) H')->G7 K vs H Q z3_
theorem CQ.not_wide{g:Int}{g6:qW}{m:Nat}{tw:Bool}{d:Int}{tf:qW}{mf top:Nat}(c:CQ g g6 m tw d tf mf top)(h:tw=false):¬Oc g tf mf:=by
 obtain⟨rk,hr,ht⟩:=c.rise;rintro (z|⟨_,gq,left,gs,bx,em,big⟩)
 ·have:=c.sm;lia
 obtain⟨q1,e1,s1⟩:=bx.ev;obtain⟨q2,e2,s2⟩:=bx.lv;have r1:=DU hr s1 gq 0 0#1;have r2:=DU hr s2 left 0 0#1;rw[fj,e1]at r1;rw[fj,e2]at r2;have:=ht (q2 left);obtain⟨t1,t2⟩:=c.thin h;have:=Bx c.g2 (show gs<=top+2-mf by lia);lia
theorem CQ.few{g:Int}{g6:qW}{m:Nat}{tw:Bool}{d:Int}{tf:qW}{mf top:Nat}(c:CQ g g6 m tw d tf mf top){gq left:Nat}(bx:Th g tf mf gq left):gq+left<=top:=by obtain⟨rk,hr,ht⟩:=c.rise;obtain⟨q1,e1,s1⟩:=bx.ev;obtain⟨q2,e2,s2⟩:=bx.lv;have r1:=DU hr s1 gq 0 0#1;have r2:=DU hr s2 left 0 0#1;rw[fj,e1]at r1;rw[fj,e2]at r2;have:=ht (q2 left);lia
theorem CQ.und{g:Int}{g6:qW}{m:Nat}{tw:Bool}{d:Int}{tf:qW}{mf top:Nat}(c:CQ g g6 m tw d tf mf top)(tfb:∀n∈tf,0<=n/\n<g){gq left gs:Nat}(bx:Th g tf mf gq left)(em:gq+left+2=mf+gs)(n1:1<=gs)(wb:∀n∈Kf g tf mf gq gs,0<=n/\n<g)(lo:Int):GN g lo g6 m (-(lo+d)-(gq:Int)) (Kf g tf mf gq gs) gs:=by
 refine⟨c.g2,c.len,IG c.g2 ..,c.m1,n1,c.tb,wb,λx hx=>?_,λy hy=>?_⟩
 ·have z:=DY.back c.g2 c.tfl c.mf2 tfb bx.b em (lo+d) hx 0;rw[Jb (c.al lo) hx,cr]at z;exact z
 ·have z:=DY.there c.g2 c.tfl c.mf2 tfb bx.b em (lo+d) hy 0;rw[cr]at z;rw[<-c.al lo _ (E6 c.g2 wb _ _ _)];exact z
theorem NK{g:Int}(g2:2<=g)(g9:g<=9){lo:Int}{W:qW}{gs mf:Nat}(hl:(W.length:Int)=g^gs)(n1:1<=gs)(ends:BW g W (g^(gs-1))=true/\BW g W 1=true)(le:gs<=mf)(sm:g^(mf-1)<=9):∃lf' tf' mf',BU g lo W gs lf' tf' mf'/\g^(mf'-1)<=9:=by
 by_cases c:2<=gs
 ·refine⟨lo,W,gs,JA g2 hl hl 1#1 c ends.1 ends.2,?_⟩;have:=Bx g2 (show gs-1<=mf-1 by lia);lia
 ·obtain rfl:gs=1:=by lia
  refine⟨lo,_,2,KQ g2 hl hl 1#1 ends.2,?_⟩;show g^1<=9;rw[cB,cF,dR];exact g9
theorem Dk.seq{K:qV}{P:qR}{H H':Hp}{pos:Pos}{q:Str}(e:Dk P H H')(t:C3 pos q P H){a:qR}{xs:List V}(h:Ae K H a xs):Ae K H' a xs:=by
 rcases h with (h|⟨o,h⟩)|h
 ·exact .inl (.inl (e.get t h λ_ z=>by cases z))
 ·exact .inl (.inr ⟨o,e.get t h λ_ z=>by cases z⟩)
 ·exact .inr h
section
variable{P:qT}{w:qU}{K:qV}{mg:Str->Option qQ}{base:Heap}{t:bA}
theorem YV:AJ ["thing"] ["thing"] (AG Wa):=CD
theorem YW(T:CC K mg t) :Ak P w K mg base 1 t.f_47 ["thing"] (Hg):=by
 refine Al T.d_47 YV λvs H Q E h=>?_;obtain⟨x,rfl,kd,q⟩:=h;refine⟨rfl,λgu A outer s hr=>?_⟩;refine⟨_,(AF (AO (IK (Rc rfl T.z_isinstance (pv 0) (O0 rfl T.z_int PyProof.Rows.boot_int)) (GO (Vr (Rc rfl T.z_isinstance (pv 0) (O0 rfl T.z_bool PyProof.Rows.boot_bool))))))),?_⟩;walk_at "";cases x with
 |int i =>
  refine⟨_,.of (.int i),_,X1,?_⟩;rw[qF rfl];exact⟨_,.of (.int i),_,X2,q⟩
 |bl b =>
  refine⟨_,.of (.bl b),_,X3,?_⟩;rw[qF rfl];exact⟨_,.of (.bl b),_,X4,q⟩
 |non =>
  refine⟨_,.of .non,_,X5,?_⟩;rw[qE 0#8];exact q
 |str y =>
  refine⟨_,.of (.str y),_,X6,?_⟩;rw[qE 0#8];exact q
 |ref a =>
  obtain⟨xs,z|z⟩:=kd
  ·refine⟨_,.of (.lst z),_,X7,?_⟩;rw[qE 0#8];exact q
  ·refine⟨_,.of (.tup z),_,X9,?_⟩;rw[qE 0#8];exact q
 |byt _=>exact kd.elim
 |flt _=>exact kd.elim
 |ty _=>exact kd.elim
theorem YX:AJ ["thing","signs"] ["thing","signs"] (AG Wc):=CD
theorem YY(T:CC K mg t)(G_47:Ak P w K mg base 1 t.f_47 ["thing"] (Hg)):Ak P w K mg base 2 t.f_50 ["thing","signs"] (K2):=by
 refine Al T.d_50 YX λvs H Q E h=>?_;obtain⟨x,g,rfl,kd,q⟩:=h;refine⟨rfl,λgu A outer s hr=>?_⟩;refine⟨_,(AF (AO (IK (AL hr G_47 T.m_47 (AA (pv 0) AC)) (IK (Ca VA AD (pv 0) (AR _)) (GO (Ca Du (pv 0) (pv 1) (AR _))))))),?_⟩;walk_at "";refine⟨x,rfl,kd,?_⟩;cases x with
 |int i =>
  walk_at "";simp only[Td]at q
  by_cases h:0<=i
  ·rw[qH h,Bool.true_and]at q;rw[qF h];exact q
  ·rw[qI h,Bool.false_and]at q;rw[qE h];exact q
 |_=>exact⟨false,rfl,V4 q⟩
theorem TQ:AJ ["word","signs","at","thing"] ["word","signs"] (AG Wd):=CD
theorem YZ(T:CC K mg t)(G_50:Ak P w K mg base 2 t.f_50 ["thing","signs"] (K2)):Ak P w K mg base 3 t.f_19 ["word","signs"] (DT K):=by
 refine Al T.d_19 TQ λvs H Q E h=>?_;rcases h with⟨a,xs,g,rfl,hS,kd,h⟩;refine⟨rfl,λgu A outer s hr=>?_⟩;refine⟨_,(AF (A9 PassesOwn.never rfl (K0 rfl T.z_enumerate (AA (pv 0) AC)) (El rfl (BJ (BF 2 TQ) (BJ (BF 3 TQ) C4))) (AF (A3 (Ek (Dp (AL hr G_50 T.m_50 (AA (pv 3) (AA (pv 1) AC))))) (AF Ec) AX)))),?_⟩;refine⟨_,rfl,a,xs,rfl,hS,?_⟩;refine IW (xs:=xs) (λi σ H1=>CU g (xs.take i)=none/\(∃x2 x3,σ=[some (.ref a),some (.int g),x2,x3])/\AH H H1) ⟨rfl,⟨none,none,rfl⟩,AH.refl _⟩ (λi σ H1 _ z=>z.2.2.seq hS) ?_ ?_
 ·rintro i x p σ H1 hx ⟨hb,⟨x2,x3,rfl⟩,e⟩ hp;have e2:AH H (Ad H1 p (.tup [.int ((i:Nat):Int),x])):=e.trans (AH.new hp _);refine⟨p,_,rfl,Ah.of AE,rfl,_,_,rfl,_,_,rfl,rfl,?_⟩;walk_at "";refine⟨x,g,rfl,(kd x (bT hx)).same e2,?_⟩;cases hs:Td g x with
  |true =>
   walk_at "";exact⟨Ng hb hx hs,⟨_,rfl⟩,e2⟩
  |false =>
   walk_at "";rw[Nh hb hx hs]at h;exact h
 ·rintro σ H1 ⟨hb,_,e⟩;rw[cT]at hb;rw[hb]at h;exact h H1 e
theorem aS:AJ ["word","signs","many"] ["word","signs","many"] (AG aE):=CD
theorem aU(T:CC K mg t)(G_19:Ak P w K mg base 3 t.f_19 ["word","signs"] (DT K)):Ak P w K mg base 4 t.f_5 ["word","signs","many"] (E5 K):=by
 refine Al T.d_5 aS λvs H Q E h=>?_;rcases h with⟨a,xs,g,m,rfl,hS,kd,h⟩;refine⟨rfl,λgu A outer s hr=>?_⟩
 refine⟨_,(AB (A4 (AL hr G_19 T.m_19 (AA (Dx FC (pv 0) Fw (EE (pv 2))) (AA (pv 1) AC))))
  (AF (A3 (AQ IN (Ap (NF K) rfl T.z_len cR (AA (pv 0) AC)) (pv 2) (AR _)) (AF Ec) AX))),?_⟩
 walk_at "";refine GZ hS λp H1 e1 _ h1=>?_;rw[Hi]at h1;refine⟨p,_,g,rfl,Ae.of h1,λx hx=>(kd x (cO hx)).same e1,?_⟩;unfold Et at h;cases hb:CU g (xs.take m) with
 |some i =>
  rw[hb]at h;exact h
 |none =>
  rw[hb]at h;dsimp only at h;intro H2 e2;refine⟨xs,.inl ((e1.trans e2).seq hS),?_⟩
  by_cases hl:xs.length=m
  ·rw[qF hl]at h;rw[qE 0#1];exact h _ (e1.trans e2)
  ·rw[qE hl]at h;exact h.elim
theorem aV:AJ ["word","signs","fewest"] ["word","signs","fewest"] (AG aG):=CD
theorem aW(T:CC K mg t)(G_19:Ak P w K mg base 3 t.f_19 ["word","signs"] (DT K)):Ak P w K mg base 4 t.f_1 ["word","signs","fewest"] (E7 K):=by
 refine Al T.d_1 aV λvs H Q E h=>?_;rcases h with⟨a,ns,g,rfl,hS,hb,n1,q⟩;refine⟨rfl,λgu A outer s hr=>?_⟩
 refine⟨_,(AB (A4 (AL hr G_19 T.m_19 (AA (pv 0) (AA (pv 1) AC))))
  (AF (A3 (AQ Du (Ap (NF K) rfl T.z_len cR (AA (pv 0) AC)) (pv 2) (AR _)) (AF Ec) AX))),?_⟩
 walk_at "";refine⟨a,_,g,rfl,hS,FE,?_⟩;rw[EG hb];intro H1 e;refine⟨_,.inl (e.seq hS),?_⟩;rw[bG,qE 0#1];exact q _ e
theorem Pn:AJ ["word","signs","number","sign"] ["word","signs"] (AG We):=CD
theorem Ya(T:CC K mg t)(G_19:Ak P w K mg base 3 t.f_19 ["word","signs"] (DT K)):Ak P w K mg base 4 t.f_40 ["word","signs"] (Gx K):=by
 refine Al T.d_40 Pn λvs H Q E h=>?_;rcases h with⟨a,xs,g,rfl,g2,g9,hS,kd,h⟩;refine⟨rfl,λgu A outer s hr=>?_⟩
 refine⟨_,(AB (A4 (AL hr G_19 T.m_19 (AA (pv 0) (AA (pv 1) AC))))
  (AB (AN 2 Pn AD)
  (AB (A9 PassesOwn.never rfl (Q6 K (pv 0)) (BF 3 Pn) (AF (AN 2 Pn (AI Ab (AI BM (pv 2) (pv 1)) (pv 3)))))
  (AF (AO (pv 2)))))),?_⟩
 walk_at "";refine⟨a,xs,g,rfl,hS,kd,?_⟩;cases hb:CU g xs with
 |some i =>
  rw[hb]at h;exact h
 |none =>
  rw[hb]at h;obtain⟨ns,rfl,hns⟩:=FX hb;intro H1 e;refine⟨_,rfl,a,rfl,⟨_,e.seq hS⟩,?_⟩;refine CZ (xs:=ns.map V.int) (λi σ H2=>(∃x3,σ=[some (.ref a),some (.int g),some (.int (Ao g (ns.take i))),x3])/\H2=H1) ⟨⟨none,rfl⟩,rfl⟩ (λi σ H2 _ z=>by rw[z.2];exact e.seq hS) ?_ ?_
  ·refine NG ?_;rintro _ _ i x _ hGo σ H2 hx ⟨⟨x3,rfl⟩,rfl⟩;refine hGo _ _ ?_;obtain⟨n,hn,rfl⟩:=Ch hx;walk_at "";refine⟨.inr ⟨by lia,by lia⟩,?_⟩;rw[Fz hn];exact⟨rfl,_,rfl⟩
  ·rintro σ H2 ⟨⟨x3,rfl⟩,rfl⟩;walk_at "";rw[bG,cT];exact h ns rfl _ e
theorem Po:AJ ["number","signs","many","backwards","rest"] ["number","signs","many"] (AG Wf):=CD
theorem Yc(T:CC K mg t) :Ak P w K mg base 1 t.f_55 ["number","signs","many"] (FM):=by
 refine Al T.d_55 Po λvs H Q E h=>?_;rcases h with⟨n,g,m,rfl,g2,g9,m0,m3,hbad,hgood⟩;refine⟨rfl,λgu A outer s hr=>?_⟩
 refine⟨_,(AB (A3 (AQ Du (pv 0) AD (AR _)) (AF Ec) AX)
  (AB (AN 3 Po (BC AC))
  (AB (AN 4 Po (pv 0))
  (AB (Em PassesOwn.never (AQ Du (Ap (NF K) rfl T.z_len cR (AA (pv 3) AC)) (pv 2) (AR _)) (AB (A4 (Q0 K (pv 3) (AA (AI Af (pv 4) (pv 1)) AC)))
  (AF (AN 4 Po (AI BG (pv 4) (pv 1))))))
  (AB (A3 (AQ EY (pv 4) AD (AR _)) (AF Ec) AX)
  (AF (AO (Oy rfl rfl T.z_reversed rfl T.z_list (AA (pv 3) AC))))))))),?_⟩
 walk_at ""
 by_cases hn:n<0
 ·rw[qF hn];exact hbad (.inl hn)
 rw[qE hn];refine⟨cS _,λp hp=>?_⟩
 refine Fs (λσ H1=>∃i:Nat,i<=m.toNat/\σ=[some (.int n),some (.int g),some (.int m),some (.ref p),some (.int (dr g n i))]/\H1=Ad H p (.lst ((DN g n i).map V.int)))
  (λσ H1=>match H1 p with|some (.lst xs)=>m.toNat-xs.length|_=>0) ⟨0,cS _,rfl,rfl⟩ ?_ ?_
 ·intro σ H1 hRq;rcases hRq with⟨i,hi,rfl,rfl⟩;walk_at "";have hl:((DN g n i).map V.int).length=i:=by rw[bG,De]
  refine⟨_,.inl (Ae.of AE),?_⟩;rw[hl]
  by_cases hlt:(i:Int)<m
  ·rw[qF hlt];refine⟨.inl ⟨_,Ae.of AE⟩,by lia,_,AE,by rw[hl];exact AY 0#1,by lia,by lia,⟨i+1,by lia,rfl,?_⟩,?_⟩
   ·rw[Db,DN,bS];rfl
   ·rw[AE,AE];show m.toNat-(List.map V.int (DN g n i)++[V.int (dr g n i%g)]).length<m.toNat-(List.map V.int (DN g n i)).length;rw[bN,hl];simp only[List.length_cons,List.length_nil];lia
  ·rw[qE hlt];have ei:i=m.toNat:=by lia
   by_cases hd:0<dr g n i
   ·rw[qF hd];refine hbad (.inr (Int.not_lt.mp λz=>?_));rw[ei,O6 g2 0#1 z]at hd;lia
   ·rw[qE hd];refine⟨_,Ae.of AE,λr hr'=>hgood 0#1 (Int.not_le.mp λz=>?_) r _ ⟨(AH.new hp _).trans (AH.new hr' _),(RY hr').2,?_⟩⟩
    ·rw[ei]at hd;exact hd (WE g2 z)
    ·rw[AE,ei,List.map_reverse]
 ·intro σ H1 Q1 Q2 hq;walk_at "";intro hRq;rcases hRq with⟨v,h1,p,h2,x,h3,v2,h4,x1,h5,h6⟩;exact⟨v,h1,p,h2,x,h3,v2,h4,x1,h5,hq _ _ h6⟩
theorem Yd:AJ ["signs","low"] ["signs","low"] (AG Wg):=CD
theorem Ye(T:CC K mg t)(G_47:Ak P w K mg base 1 t.f_47 ["thing"] (Hg)):Ak P w K mg base 2 t.f_18 ["signs","low"] (Ld):=by
 refine Al T.d_18 Yd λvs H Q E h=>?_;rcases h with⟨g,lo,rfl,g2,g9,q⟩;refine⟨rfl,λgu A outer s hr=>?_⟩
 refine⟨_,(AB (A3 (PW.pt (Fp (Ek (Dp (AL hr G_47 T.m_47 (AA (pv 0) AC)))) (Fp (AQ Du (pv 0) AD (AR _)) (Ej (AQ EY (pv 0) AD (AR _)))))) (AF Ec) AX)
  (AF (A3 (Ek (Dp (AL hr G_47 T.m_47 (AA (pv 1) AC)))) (AF Ec) AX))),?_⟩
 walk_at "";refine⟨.int g,rfl,trivial,true,rfl,?_⟩;rw[qE 0#8];rw[qE 0#1,qE 0#1];refine⟨.int lo,rfl,trivial,true,rfl,?_⟩;rw[qE 0#8];exact q
theorem NL:AJ ["signs","length","many","words"] ["signs","length"] (AG Wh):=CD
theorem Yf(T:CC K mg t) :Ak P w K mg base 1 t.f_23 ["signs","length"] (Df):=by
 refine Al T.d_23 NL λvs H Q E h=>?_;obtain⟨g,n,rfl,g2,g9,hy,hn⟩:=h;refine⟨rfl,λgu A outer s hr=>?_⟩
 refine⟨_,(AB (AN 2 NL AD)
  (AB (AN 3 NL AD)
  (AB (Em PassesOwn.never (AQ Du (pv 3) (pv 1) (AR _)) (AB (AN 3 NL (AI BM (pv 3) (pv 0)))
  (AF (AN 2 NL (AI Ab (pv 2) AD)))))
  (AB (A3 (AQ Bk (pv 3) (pv 1) (AR _)) (AF (AO (pv 2))) AX)
  (AF (AO AD)))))),?_⟩
 walk_at ""
 refine Fs (λσ H1=>∃i:Nat,σ=[some (.int g),some (.int n),some (.int ((i:Nat):Int)),some (.int (g^i))]/\H1=H/\∀j,j<i->g^j<n)
  (λ(σ:St) (H1:Hp)=>match σ[3]? with|some (some (V.int x))=>(n-x).toNat|_=>0) ⟨0,by rw[cF];rfl,rfl,λj hj=>qG hj (fO _)⟩ ?_ ?_
 ·rintro σ H1 ⟨i,rfl,rfl,hj⟩;have gp:=RW.Ag g2 i;walk_at ""
  by_cases hlt:g^i<n
  ·rw[qF hlt];refine⟨.inr ⟨by lia,by lia⟩,⟨i+1,rfl,?_,λj hj2=>?_⟩,?_⟩
   ·rw[cB]
   ·by_cases z:j=i
    ·rw[z];exact hlt
    ·exact hj j 0#1
   ·have:g^i<g^i*g:=by
     have:=dU g2 (dG gp);lia
    lia
  ·rw[qE hlt]
   by_cases he:g^i=n
   ·rw[qF he];exact hy i he.symm
   ·rw[qE he];refine hn λm z=>?_
    by_cases hm:m<i
    ·have:=hj m hm;lia
    ·have:=Bx g2 (gP hm);lia
 ·intro σ H1 Q1 Q2 hq;walk_at "";rintro⟨v,h1,v2,h2,i,h3,x,h4,h5⟩;exact⟨v,h1,v2,h2,i,h3,x,h4,hq _ _ h5⟩
theorem TR:AJ ["signs","many","length","done"] ["signs","many"] (AG aH):=CD
theorem aY(T:CC K mg t) :Ak P w K mg base 1 t.f_7 ["signs","many"] (Ga):=by
 refine Al T.d_7 TR λvs H Q E h=>?_;obtain⟨g,m,rfl,g2,g9,m1,hy,hn⟩:=h;refine⟨rfl,λgu A outer s hr=>?_⟩
 refine⟨_,(AB (AN 2 TR AD)
  (AB (AN 3 TR AD)
  (AB (Em PassesOwn.never (PW.pt (IJ (AQ Du (pv 3) (pv 1) (AR _)) (Fo (AQ VA (pv 2) (DB rfl T.g_LONGEST_TABLE) (AR _))))) (AB (AN 2 TR (AI BM (pv 2) (pv 0)))
  (AF (AN 3 TR (AI Ab (pv 3) AD)))))
  (AF (AO (pv 2)))))),?_⟩
 walk_at ""
 refine Fs (λσ H1=>∃i:Nat,i<=m.toNat/\σ=[some (.int g),some (.int m),some (.int (g^i)),some (.int ((i:Nat):Int))]/\H1=H)
  (λ(σ:St) (H1:Hp)=>match σ[3]? with|some (some (V.int x))=>(m-x).toNat|_=>0) ⟨0,cS _,by rw[cF];rfl,rfl⟩ ?_ ?_
 ·rintro σ H1 ⟨i,hi,rfl,rfl⟩;have gp:=RW.Ag g2 i;walk_at ""
  by_cases hlt:(i:Int)<m
  ·rw[qF hlt]
   by_cases hle:g^i<=256
   ·rw[qF hle];exact⟨.inr ⟨by lia,by lia⟩,⟨i+1,by lia,by rw[cB],by lia⟩,by lia⟩
   ·rw[qE hle];have:=Bx g2 hi;exact hn 0#1 _ 0#1
  ·rw[qE hlt];have ei:i=m.toNat:=by lia
   subst ei
   by_cases hle:g^m.toNat<=256
   ·exact hy hle
   ·exact hn 0#1 _ 0#1
 ·intro σ H1 Q1 Q2 hq;walk_at "";rintro⟨v,h1,v2,h2,i,h3,x,h4,h5⟩;refine⟨v,h1,v2,h2,i,h3,x,h4,?_⟩
  by_cases z:i<x
  ·rw[qF z]at h5⊢;obtain⟨v3,h6,j,h7,h8⟩:=h5;exact⟨v3,h6,j,h7,hq _ _ h8⟩
  ·rw[qE z]at h5⊢;exact hq _ _ h5
theorem Vc:AJ ["signs","table","told"] ["signs","table"] (AG Wi):=CD
theorem Yg(T:CC K mg t)(G_23:Ak P w K mg base 1 t.f_23 ["signs","length"] (Df))(G_50:Ak P w K mg base 2 t.f_50 ["thing","signs"] (K2)):Ak P w K mg base 3 t.f_11 ["signs","table"] (OY):=by
 refine Al T.d_11 Vc λvs H Q E h=>?_;rcases h with⟨g,a,g6,m,rfl,g2,g9,m1,len,sz,tb,ha,q⟩;refine⟨rfl,λgu A outer s hr=>?_⟩
 refine⟨_,(AB (A3 (Ek (Dp (T7 rfl T.z_isinstance (pv 1) (AA (O0 rfl T.z_list PyProof.Rows.boot_list) (AA (O0 rfl T.z_tuple PyProof.Rows.boot_tuple) AC))))) (AF Ec) AX)
  (AB (A3 (PW.pt (Fp (AQ EY (Ap (NF K) rfl T.z_len cR (AA (pv 1) AC)) (DB rfl T.g_LONGEST_TABLE) (AR _)) (Ej (AQ Bk (AL hr G_23 T.m_23 (AA (pv 0) (AA (Ap (NF K) rfl T.z_len cR (AA (pv 1) AC)) AC))) AD (AR _))))) (AF Ec) AX)
  (AF (A9 PassesOwn.never rfl (Q6 K (pv 1)) (BF 2 Vc) (AF (A3 (Ek (Dp (AL hr G_50 T.m_50 (AA (pv 2) (AA (pv 0) AC))))) (AF Ec) AX)))))),?_⟩
 walk_at "";refine⟨by decide,λp hp=>?_⟩;have e1:=AH.new hp (.tup [V.ty "list",V.ty "tuple"]);have h1:Ad H p (.tup [V.ty "list",V.ty "tuple"]) p=some (.tup [V.ty "list",V.ty "tuple"]):=AE;generalize Ad H p (HO.tup [V.ty "list",V.ty "tuple"])=H1 at e1 h1⊢;have ha1:=e1 _ _ ha;refine⟨_,.of (.lst ha1),_,h1,[.type "list",.type "tuple"],rfl,true,bE X8 _,?_⟩;rw[qE 0#8];refine⟨_,.inl (Ae.of ha1),?_⟩;rw[bG,qE 0#1];refine⟨_,.inl (Ae.of ha1),g,_,rfl,g2,g9,λm' hm=>⟨rfl,?_⟩,λno=>qG (by rw[bG];exact len) (no m)⟩;rw[bG,len]at hm;have:=EI g2 hm;rw[qE (by intro z;injection z with z;lia)];refine⟨_,rfl,a,rfl,⟨_,Ae.of ha1⟩,?_⟩;refine CZ (xs:=g6.map V.int) (λi σ H2=>(∃x2,σ=[some (.int g),some (.ref a),x2])/\H2=H1) ⟨⟨none,rfl⟩,rfl⟩ (λi σ H2 _ z=>by rw[z.2];exact Ae.of ha1) ?_ ?_
 ·refine NG ?_;rintro _ _ i x _ hGo σ H2 hx ⟨⟨x2,rfl⟩,rfl⟩;refine hGo _ _ ?_;obtain⟨n,hn,rfl⟩:=Ch hx;have b:=tb n (bT hn);walk_at "";refine⟨.int n,g,rfl,trivial,?_⟩;rw[show Td g (.int n)=true by show (decide (0<=n)&&decide (n<g))=true;rw[qH b.1,qH b.2];rfl];walk_at "";exact⟨_,rfl⟩
 ·rintro σ H2 ⟨_,rfl⟩;exact q _ e1
theorem Yh:AJ ["signs","low","table"] ["signs","low","table"] (AG Wj):=CD
theorem Yi(T:CC K mg t)(G_18:Ak P w K mg base 2 t.f_18 ["signs","low"] (Ld))(G_11:Ak P w K mg base 3 t.f_11 ["signs","table"] (OY)):Ak P w K mg base 4 t.f_71 ["signs","low","table"] (Gy):=by
 refine Al T.d_71 Yh λvs H Q E h=>?_;rcases h with⟨g,lo,a,g6,m,rfl,g2,g9,m1,len,sz,tb,ha,q⟩;refine⟨rfl,λgu A outer s hr=>?_⟩
 refine⟨_,(AB (A4 (AL hr G_18 T.m_18 (AA (pv 0) (AA (pv 1) AC))))
  (AB (A4 (AL hr G_11 T.m_11 (AA (pv 0) (AA (pv 2) AC))))
  (AF (AO (Cb (AA (pv 0) (AA (pv 1) (AA (CS CF rfl T.z_tuple dN (AA (pv 2) AC)) AC)))))))),?_⟩
 walk_at "";refine⟨g,lo,rfl,g2,g9,g,a,g6,m,rfl,g2,g9,m1,len,sz,tb,ha,λH1 e1=>?_⟩;refine⟨_,.inl ⟨Ae.of (e1 _ _ ha),λl hl=>⟨by decide,λp hp=>?_⟩⟩⟩;have e2:=AH.new hl (.tup (g6.map V.int));have e3:=AH.new hp (.tup [.int g,.int lo,.ref l]);exact q p _ ((e1.trans e2).trans e3) ⟨l,AE,e3 _ _ AE⟩
theorem Yj:AJ ["one"] ["one"] (AG Wk):=CD
theorem Yk(T:CC K mg t)(G_23:Ak P w K mg base 1 t.f_23 ["signs","length"] (Df)):Ak P w K mg base 2 t.f_63 ["one"] (Bm):=by
 refine Al T.d_63 Yj λvs H Q E h=>?_;rcases h with⟨r,g,lo,g6,m,rfl,g2,g9,⟨tb,h1,h2⟩,hl,q⟩;refine⟨rfl,λgu A outer s hr=>?_⟩;refine⟨_,(AF (AO (AL hr G_23 T.m_23 (AA 0#2 (AA (Ap (NF K) rfl T.z_len cR (AA 0#2 AC)) AC))))),?_⟩;walk_at "";refine (CY (v:=.int g) (Ah.of h1) (Cc rfl) (CY (v:=.ref tb) (Ah.of h1) (Cc rfl) ?_));walk_at "";refine⟨_,.inr (Ah.of h2),g,_,rfl,g2,g9,λm' e=>?_,λz=>?_⟩
 ·rw[bG,hl]at e;rw[<-EI g2 e];exact q
 ·exact qG (by rw[bG,hl]) (z m)
theorem Yl:AJ ["one","word"] ["one","word"] (AG Wl):=CD
theorem Ym(T:CC K mg t)(G_5:Ak P w K mg base 4 t.f_5 ["word","signs","many"] (E5 K))(G_63:Ak P w K mg base 2 t.f_63 ["one"] (Bm))(G_40:Ak P w K mg base 4 t.f_40 ["word","signs"] (Gx K)):Ak P w K mg base 5 t.f_39 ["one","word"] (IH K):=by
 refine Al T.d_39 Yl λvs H Q E h=>?_;rcases h with⟨r,a,g,lo,g6,m,xs,rfl,g2,g9,hR,hl,hS,kd,h⟩;refine⟨rfl,λgu A outer s hr=>?_⟩
 refine⟨_,(AB (A4 (AL hr G_5 T.m_5 (AA (pv 1) (AA 0#2 (AA (AL hr G_63 T.m_63 (AA (pv 0) AC)) AC)))))
  (AF (AO (AM (B3 K) 0#2 (AL hr G_40 T.m_40 (AA (pv 1) (AA 0#2 AC))) 1#1)))),?_⟩
 refine Au.el hR λtb h1 h2=>?_;walk_at "";refine (CY (Ah.of h1) rfl ⟨r,g,lo,g6,m,rfl,g2,g9,hR,hl,a,xs,g,m,rfl,hS,kd,?_⟩);cases hb:Et g m xs with
 |some i =>
  rw[hb]at h;exact h
 |none =>
  rw[hb]at h;obtain⟨hlen,hbi⟩:=MG hb;obtain⟨ns,rfl,hns⟩:=FX hbi;rw[bG]at hlen;intro H1 e1;refine (CY (Ah.of (e1 _ _ h1)) rfl (CY (Ah.of (e1 _ _ h1)) rfl ⟨a,_,g,rfl,g2,g9,e1.seq hS,FE,?_⟩));rw[hbi];intro ms hms H2 e2;have:=Eo hms;subst this;have nb:=BR g2 hns;rw[hlen,<-hl]at nb;refine (CY (v:=.int (g6.getD (Ao g ns).toNat 0)) (Ah.of (e2 _ _ (e1 _ _ h2))) ?_ (h ns rfl _ (e1.trans e2)));have z:=Dy (ns:=g6) (k:=(Ao g ns).toNat) 0#1;rw[show (((Ao g ns).toNat:Nat):Int)=Ao g ns by lia]at z;exact z
theorem Vd:AJ ["one","head","sign","first"] ["one","head","sign"] (AG Wm):=CD
theorem Yn(T:CC K mg t) :Ak P w K mg base 1 t.f_41 ["one","head","sign"] (LF):=by
 refine Al T.d_41 Vd λvs H Q E h=>?_;rcases h with⟨r,g,lo,g6,m,h,s',rfl,ok,hh,q⟩;refine⟨rfl,λgu A outer s hr=>?_⟩
 refine⟨_,(AB (AN 3 Vd (AI BM (pv 1) 0#2))
  (AF (AO (F7 [(2,"sign"),(0,"one")] [("sign",_),("one",_)] (KB rfl T.z_range (AA (pv 3) (AA (AI Ab (pv 3) 0#2) AC))) (λ_ _ _ _=>(GW (AQ Bk (AM (Hh (K:=K) rfl) (AM (Hh (K:=K) rfl) (pv 2) AD 1#1) (pv 0) 1#1) (pv 1) (AR _)))) (λ_ _ _ _=>(pv 0)))))),?_⟩
 refine Au.el ok.v λtb h1 h2=>?_;have g2:=ok.g2;have g9:=ok.g9;have m1:=ok.m1;have m8:=ok.m8;have hl:=ok.len;have sz:=ok.sz;have hlm:(g6.map V.int).length=g6.length:=bG ..;have hd:=A8 g2 hl m1;walk_at "";have gn:((g.toNat:Nat):Int)=g:=by lia
 have hb2:h*g.toNat+g.toNat<=g6.length:=by have:=fV g.toNat (show h+1<=g6.length/g.toNat from hh);rw[Nat.add_mul,Nat.one_mul]at this;lia
 refine (CY (Ah.of h1) rfl ⟨g,rfl,.inr ⟨by lia,by lia⟩,?_⟩);refine⟨_,rfl,_,rfl,_,rfl,r,_,0,_,rfl,rfl,Ah.of h1,rfl,_,_,rfl,rfl,_,_,rfl,?_⟩;have eh:(h:Int)*g=((h*g.toNat:Nat):Int):=by rw[cx,gn]
 rw[eh];refine⟨⟨by lia,by lia,by lia,by lia⟩,λD hD=>?_⟩;rw[show (((h*g.toNat:Nat):Int)+g-((h*g.toNat:Nat):Int)).toNat=g.toNat by lia];refine Bu (lo:=((h*g.toNat:Nat):Int)) (n:=g.toNat) (λi gt Hx=>gt=(Ix (((List.range i).filter λj=>decide (g6.getD (h*g.toNat+j) 0=s')).map λj=>h*g.toNat+j)).map V.int/\Hx=Ad H D (.lst gt)) ⟨rfl,rfl⟩ ?_ ?_
 ·refine EW ?_;rintro i _ hGo gt Hx hi ⟨rfl,rfl⟩;refine hGo _ _ ?_;have en:=AH.new hD (.lst ((Ix (((List.range i).filter λj=>decide (g6.getD (h*g.toNat+j) 0=s')).map λj=>h*g.toNat+j)).map V.int));have ei:((h*g.toNat:Nat):Int)+(i:Int)=((h*g.toNat+i:Nat):Int):=by lia
  have fl:((List.range i).filter λj=>decide (g6.getD (h*g.toNat+j) 0=s')).length<=i:=by have:=dC (λj=>decide (g6.getD (h*g.toNat+j) 0=s')) (List.range i);rw[bn]at this;exact this
  rw[ei];walk_at "";refine (CY (Ah.of (en _ _ h1)) rfl (CY (Ah.of (en _ _ h2)) (Dy 0#1) ⟨rfl,?_⟩))
  by_cases hc:g6.getD (h*g.toNat+i) 0=s'
  ·rw[qF (by rw[hc])];refine⟨AE,?_,?_,by rw[Db]⟩
   ·unfold Ix;rw[bG,bG,bG];exact AY 0#1
   ·unfold Ix;have f1:([i]:List Nat).filter (λj=>decide (g6.getD (h*g.toNat+j) 0=s'))=[i]:=by rw[dW,qF (qH hc)];rfl
    rw[cH,ce,f1,bS,bS,bS];rfl
  ·rw[qE (by intro z;exact hc (V.int.inj z))];have f1:([i]:List Nat).filter (λj=>decide (g6.getD (h*g.toNat+j) 0=s'))=[]:=by rw[dW,qE (by rw[qI hc];decide)];rfl
   rw[cH,ce,f1,cA];exact⟨rfl,rfl⟩
 ·rintro gt Hx ⟨rfl,rfl⟩;exact q D _ ⟨AH.new hD _,hD,AE⟩
theorem Yo:AJ ["one"] ["one"] (AG Wn):=CD
theorem Yp(T:CC K mg t) :Ak P w K mg base 1 t.f_68 ["one"] (Cq):=by
 refine Al T.d_68 Yo λvs H Q E h=>?_;rcases h with⟨r,g,lo,g6,m,rfl,ok,q⟩;refine⟨rfl,λgu A outer s hr=>?_⟩;refine⟨_,(AF (AO (AI BG (Ap (NF K) rfl T.z_len cR (AA 0#2 AC)) 0#2))),?_⟩;refine Au.el ok.v λtb h1 h2=>?_;have g2:=ok.g2;have g9:=ok.g9;have m1:=ok.m1;have m8:=ok.m8;have hl:=ok.len;have sz:=ok.sz;have hlm:(g6.map V.int).length=g6.length:=bG ..;walk_at "";refine (CY (Ah.of h1) rfl ?_);walk_at "";refine⟨_,.inr (Ah.of h2),CY (Ah.of h1) rfl ⟨g,rfl,by lia,by lia,?_⟩⟩
 have e:(((g6.map V.int).length:Nat):Int)/g=((g6.length/g.toNat:Nat):Int):=by rw[hlm,dP,bp 0#1]
 rw[e];exact q
theorem GM:AJ ["one","row","signs","table","short","number","told","at","sign"] ["one","row"] (AG Wo):=CD
theorem Yq(T:CC K mg t)(G_63:Ak P w K mg base 2 t.f_63 ["one"] (Bm)):Ak P w K mg base 3 t.f_70 ["one","row"] (LA K):=by
 refine Al T.d_70 GM λvs H Q E h=>?_;rcases h with⟨r,a,g,lo,g6,m,ns,rfl,g2,g9,hR,hl,m1,hS,hb,hn,q⟩;refine⟨rfl,λgu A outer s hr=>?_⟩
 refine⟨_,(AB (AN 2 GM 0#2)
  (AB (AN 3 GM 0#2)
  (AB (AN 4 GM (AI BI (AL hr G_63 T.m_63 (AA (pv 0) AC)) AD))
  (AB (AN 5 GM AD)
  (AB (AN 6 GM (BC AC))
  (AB (A9 PassesOwn.never rfl (K0 rfl T.z_enumerate (AA (pv 1) AC)) (El rfl (BJ (BF 7 GM) (BJ (BF 8 GM) C4))) (AB (AN 5 GM (AI Af (AI Ab (AI BM (pv 5) (pv 2)) (pv 8)) (Ap (NF K) rfl T.z_len cR (AA (pv 3) AC))))
  (AF (A3 (AQ Om (pv 7) (pv 4) (AR _)) (AF (A4 (Q0 K (pv 6) (AA (AM (B3 K) (pv 3) (pv 5) 1#1) AC)))) AX))))
  (AF (AO (pv 6))))))))),?_⟩
 refine Au.el hR λtb h1 h2=>?_;walk_at "";refine (CY (Ah.of h1) rfl ?_);walk_at "";refine (CY (Ah.of h1) rfl ?_);walk_at "";refine⟨r,g,lo,g6,m,rfl,g2,g9,hR,hl,?_⟩;walk_at "";refine⟨cS _,λp hp=>?_⟩;have gp:=RW.Ag g2 m;refine⟨_,rfl,a,_,rfl,(AH.new hp _).seq hS,?_⟩;refine IW (xs:=ns.map V.int) (λi σ H1=>(∃x7 x8,σ=[some (.ref r),some (.ref a),some (.int g),some (.ref tb),some (.int ((m:Int)-1)),some (.int (Ao g (ns.take i)%g^m)),some (.ref p),x7,x8])/\AH H H1/\H1 p=some (.lst (((List.range (i+1-m)).map (MJ g g6 m ns)).map V.int))) ⟨⟨none,none,by rw[List.take_zero];rfl⟩,AH.new hp _,by rw[AE,show 0+1-m=0 by lia];rfl⟩ (λi σ H1 _ z=>z.2.1.seq hS) ?_ ?_
 ·rintro i x p2 σ H1 hx ⟨⟨x7,x8,rfl⟩,e,hp1⟩ hp2;obtain⟨n,hn1,rfl⟩:=Ch hx;have hi:i<ns.length:=(bJ.mp hn1).1;have e2:AH H (Ad H1 p2 (.tup [.int ((i:Nat):Int),.int n])):=e.trans (AH.new hp2 _);have hp3:=AH.new hp2 (.tup [.int ((i:Nat):Int),.int n]) _ _ hp1;refine⟨p2,_,rfl,Ah.of AE,rfl,_,_,rfl,_,_,rfl,rfl,?_⟩;walk_at "";have htl:((g6.map V.int).length:Int)=g^m:=by rw[bG,hl]
  have hst:(Ao g (ns.take i)%g^m*g+n)%g^m=Ao g (ns.take (i+1))%g^m:=by rw[Rq,Fz hn1]
  refine⟨.inr ⟨by lia,by lia⟩,_,.inr (Ah.of (e2 _ _ h2)),by lia,?_⟩;rw[htl,hst]
  by_cases hge:(m:Int)-1<=(i:Int)
  ·rw[qF hge];have hw:=UG g2 hb (k:=i+1-m) (m:=m) 0#1;rw[show i+1-m+m=i+1 by lia]at hw;have wi:=Nm g2 hb hl (k:=i+1-m) 0#1;rw[hw];refine⟨.inl ⟨_,Ae.of hp3⟩,CY (Ah.of (e2 _ _ h2)) (B6 wi.1 wi.2) ⟨_,hp3,?_,rfl,⟨_,rfl⟩,e2.into hp,?_⟩⟩
   ·rw[bG,bG,bn];exact AY 0#1
   ·rw[AE,show i+1+1-m=(i+1-m)+1 by lia,Ay,bS];rfl
  ·rw[qE hge];refine⟨rfl,⟨_,rfl⟩,e2,?_⟩;rw[hp3,show i+1-m=0 by lia,show i+1+1-m=0 by lia]
 ·intro σ H1 hRq;rcases hRq with⟨⟨x7,x8,rfl⟩,e,hp1⟩;walk_at "";rw[bG]at hp1;exact q p H1 ⟨e,hp,hp1⟩
theorem TU:AJ ["one","ring","many","first"] ["one","ring"] (AG Wp):=CD
theorem Yr(T:CC K mg t)(G_70:Ak P w K mg base 3 t.f_70 ["one","row"] (LA K))(G_63:Ak P w K mg base 2 t.f_63 ["one"] (Bm)):Ak P w K mg base 4 t.f_38 ["one","ring"] (EJ K):=by
 refine Al T.d_38 TU λvs H Q E h=>?_;rcases h with⟨r,a,g,lo,g6,m,ns,rfl,g2,g9,hR,hl,m1,m8,hS,hb,n1,n8,q⟩;refine⟨rfl,λgu A outer s hr=>?_⟩
 refine⟨_,(AB (AN 2 TU (Ap (NF K) rfl T.z_len cR (AA (pv 1) AC)))
  (AB (AN 3 TU (AI Af 0#2 (pv 2)))
  (AF (AO (AL hr G_70 T.m_70 (AA (pv 0) (AA (F7 [(1,"ring"),(2,"many"),(3,"first")] [("ring",_),("many",_),("first",_)] (Az rfl T.z_range (AA (AI BI (AI Ab (pv 2) (AL hr G_63 T.m_63 (AA (pv 0) AC))) AD) AC)) (λ_ _ _ _=>DM) (λ_ _ _ _=>(AM (IZ (K:=K) rfl) (pv 1) (AI Af (AI Ab (pv 3) (pv 0)) (pv 2)) 1#1))) AC))))))),?_⟩
 refine Au.el hR λtb h1 h2=>?_;have hns:(ns.map V.int).length=ns.length:=bG ..;walk_at "";refine⟨_,.inl hS,?_⟩;rw[hns];refine (CY (Ah.of h1) rfl ⟨lo,rfl,by lia,?_⟩);refine⟨_,rfl,_,rfl,r,g,lo,g6,m,rfl,g2,g9,hR,hl,_,_,rfl,rfl,_,_,rfl,rfl,_,rfl,by lia,by lia,λD hD=>?_⟩;rw[show ((ns.length:Int)+(m:Int)-1).toNat=ns.length+m-1 by lia];refine Bu (n:=ns.length+m-1) (λi gt Hx=>gt=((List.range i).map λk:Nat=>A7 ns (lo%(ns.length:Int)+(k:Int))).map V.int/\Hx=Ad H D (.lst gt)) ⟨rfl,rfl⟩ ?_ ?_
 ·refine EW ?_;rintro i _ hGo gt Hx hi ⟨rfl,rfl⟩;refine hGo _ _ ?_;have rz:=Hk (z:=lo%(ns.length:Int)+(i:Int)) n1;walk_at "";refine⟨by lia,?_⟩;rw[b7];refine⟨a,_,_,_,rfl,rfl,(AH.new hD _).seq hS,B6 0#1 rz.1,AE,?_,?_,by rw[Db]⟩
  ·rw[bG,bG,bn];exact AY 0#1
  ·rw[Ay,bS];rfl
 ·rintro gt Hx ⟨rfl,rfl⟩;refine⟨r,D,g,lo,g6,m,F2 lo m ns,rfl,g2,g9,hR.same (AH.new hD _),hl,m1,Ae.of AE,Rs g2 hb lo m,?_,λp H' hN=>?_⟩
  ·unfold F2;rw[bG,bn];lia
  ·rw[QN g lo g6 ns m1]at hN;exact q p H' ⟨(AH.new hD _).trans hN.1,(AH.new hD _).free hN.2.1,hN.2.2⟩
theorem Ys:AJ ["one","row"] ["one","row"] (AG Wq):=CD
theorem Yt(T:CC K mg t)(G_19:Ak P w K mg base 3 t.f_19 ["word","signs"] (DT K))(G_70:Ak P w K mg base 3 t.f_70 ["one","row"] (LA K)):Ak P w K mg base 4 t.f_73 ["one","row"] (Oe K):=by
 refine Al T.d_73 Ys λvs H Q E h=>?_;rcases h with⟨r,a,g,lo,g6,m,ns,rfl,g2,g9,hR,hl,m1,hS,hb,hn,q⟩;refine⟨rfl,λgu A outer s hr=>?_⟩
 refine⟨_,(AB (A4 (AL hr G_19 T.m_19 (AA (pv 1) (AA 0#2 AC))))
  (AF (AO (AL hr G_70 T.m_70 (AA (pv 0) (AA (pv 1) AC)))))),?_⟩
 refine Au.el hR λtb h1 h2=>?_;walk_at "";refine (CY (Ah.of h1) rfl ⟨a,_,g,rfl,hS,FE,?_⟩);rw[EG hb];intro H1 e;exact⟨r,a,g,lo,g6,m,ns,rfl,g2,g9,hR.same e,hl,m1,e.seq hS,hb,hn,λp H' hN=>q p H' ⟨e.trans hN.1,e.free hN.2.1,hN.2.2⟩⟩
theorem Pp:AJ ["one","ring","times","come","done"] ["one","ring","times"] (AG Wr):=CD
theorem Yu(T:CC K mg t)(G_1:Ak P w K mg base 4 t.f_1 ["word","signs","fewest"] (E7 K))(G_38:Ak P w K mg base 4 t.f_38 ["one","ring"] (EJ K)):Ni P w K mg base 5 t.f_66 ["one","ring","times"] (Ji K) [.int 1]:=by
 obtain⟨tk,D⟩:=T.d_66;refine O3 (n:=2) D (.cons ⟨_,rfl⟩ .nil) Pp (λ_ _ _ _ _ _ _=>b3 λ_ _ _=>⟨_,rfl,rfl⟩) rfl (λ_ _ _ _ _ _ _=>b2 λ_ _=>⟨_,rfl,rfl⟩) (λvs H Q E h=>?_) (λgu A outer s H vs Q E hr h=>?_)
 ·rcases h with⟨r,a,g,lo,g6,m,ns,tm,rfl,ok,hS,hb,n1,hn,htm,q⟩;rfl
 rcases h with⟨r,a,g,lo,g6,m,ns,tm,rfl,ok,hS,hb,n1,hn,htm,q⟩
 refine⟨_,(AB (A4 (AL hr G_1 T.m_1 (AA (pv 1) (AA 0#2 (Ac AC)))))
  (AB (AN 3 Pp (CS Kw rfl T.z_list PyProof.Rows.boot_list (AA (pv 1) AC)))
  (AB (PS.nox (A9 PassesOwn.never rfl (Az rfl T.z_range (AA (pv 2) AC)) (BF 4 Pp) (AF (AN 3 Pp (AL hr G_38 T.m_38 (AA (pv 0) (AA (pv 3) AC)))))))
  (AF (AO (pv 3)))))),?_⟩
 refine Au.el ok.v λtb h1 h2=>?_;refine Am λN hN=>?_;walk_at "";refine (CY (Ah.of h1) rfl ⟨a,ns,g,rfl,hS,hb,n1,λH1 e1=>hN _ _ ?_⟩);clear hN N;refine Am λN hN=>?_;walk_at "";refine⟨_,.inl (e1.seq hS),λp hp=>hN _ _ ?_⟩;clear hN N;refine CK (λσ HX=>∃q' x4,σ=[some (.ref r),some (.ref a),some (.int ((tm:Nat):Int)),some (.ref q'),x4]/\Fa H HX q' (Bs g lo g6 m ns tm)) (λN hN=>?_) ?_
 ·refine⟨_,rfl,_,rfl,by lia,by lia,?_⟩;rw[bM];refine BP (n:=tm) (λi σ H2=>∃q' x4,σ=[some (.ref r),some (.ref a),some (.int ((tm:Nat):Int)),some (.ref q'),x4]/\Fa H H2 q' (Bs g lo g6 m ns i)) ⟨p,none,rfl,e1.trans (AH.new hp _),e1.free hp,AE⟩ ?_ λσ HX z=>hN _ _ z
  refine D9 ?_;intro _ _ i _ hGo σ H2 hi hRq;rcases hRq with⟨q',x4,rfl,hN2⟩;refine hGo _ _ ?_;walk_at "";have ok2:=ok.same hN2.1;refine⟨r,q',g,lo,g6,m,Bs g lo g6 m ns i,rfl,ok2.g2,ok2.g9,ok2.v,ok2.len,ok2.m1,ok2.m8,Ae.of hN2.2.2,DO ok.g2 lo ok.tb m hb i,by rw[Bc];exact n1,by rw[Bc];lia,λp2 H3 hN3=>?_⟩;exact⟨p2,rfl,hN2.1.trans hN3.1,hN2.1.free hN3.2.1,hN3.2.2⟩
 intro _ hGo σ HX hRq;rcases hRq with⟨q',x4,rfl,hN⟩;refine hGo _ _ ?_;walk_at "";exact q _ _ hN
theorem Ko:AJ ["one","ring","most","come","seen","times","ahead"] ["one","ring","most"] (AG Ws):=CD
theorem Yv(T:CC K mg t)(G_1:Ak P w K mg base 4 t.f_1 ["word","signs","fewest"] (E7 K))(G_38:Ak P w K mg base 4 t.f_38 ["one","ring"] (EJ K)):Ni P w K mg base 5 t.f_12 ["one","ring","most"] (Jk K) [.int 64]:=by
 obtain⟨tk,D⟩:=T.d_12;refine O3 (n:=2) D (.cons ⟨_,rfl⟩ .nil) Ko (λ_ _ _ _ _ _ _=>b3 λ_ _ _=>⟨_,rfl,rfl⟩) rfl (λ_ _ _ _ _ _ _=>b2 λ_ _=>⟨_,rfl,rfl⟩) (λvs H Q E h=>?_) (λgu A outer s H vs Q E hr h=>?_)
 ·rcases h with⟨r,a,g,lo,g6,m,ns,most,rfl,hO,hS,hns,hlen,hn,hmo,h⟩;rfl
 rcases h with⟨r,a,g,lo,g6,m,ns,most,rfl,hO,hS,hns,hlen,hn,hmo,h⟩
 refine⟨_,(AB (A4 (AL hr G_1 T.m_1 (AA (pv 1) (AA 0#2 (Ac AC)))))
  (AB (AN 3 Ko (pv 1))
  (AB (AN 4 Ko (R7 (Nat.lt_of_succ_lt (DF hr)) (CS CF rfl T.z_tuple dN (AA (pv 3) AC)) AD))
  (AB (PS.nox (A9 PassesOwn.never rfl (KB rfl T.z_range (Ac (AA (AI Ab (pv 2) AD) AC))) (BF 5 Ko) (AB (AN 3 Ko (AL hr G_38 T.m_38 (AA (pv 0) (AA (pv 3) AC))))
  (AB (AN 6 Ko (Ow PySem.F.plainAttrs_dict dL fF (QW (DF hr)) (pv 4) (AA (CS CF rfl T.z_tuple dN (AA (pv 3) AC)) (AA (pv 5) AC))))
  (AF (A3 (AQ Du (pv 6) (pv 5) (AR _)) (AF (AO (Cb (AA (pv 6) (AA (AI BI (pv 5) (pv 6)) AC))))) AX))))))
  (AF (AO Kq)))))),?_⟩
 refine Au.el hO.v λtb h1 h2=>?_;refine Am λN hN=>?_;walk_at "";refine (CY (Ah.of h1) rfl ⟨a,ns,g,rfl,hS,hns,hlen,λH1 e1=>hN _ _ ?_⟩);clear hN N;obtain⟨R,hR⟩:∃R:Nat->qW,R=Bs g lo g6 m ns:=⟨_,rfl⟩;have R0:R 0=ns:=by rw[hR];rfl
 have RS:∀i,R (i+1)=A1 g lo g6 m (R i):=λi=>by rw[hR];rfl
 have Rl:∀i,(R i).length=ns.length:=λi=>by rw[hR];exact Bc g lo g6 m ns i
 have Rb:∀i,∀n∈R i,0<=n/\n<g:=λi=>by rw[hR];exact DO hO.g2 lo hO.tb m hns i
 have h':=h;rw[<-hR]at h';clear h hR;refine Am λN hN=>?_;walk_at "";refine hN _ _ ?_;clear hN N;refine Am λN hN=>?_;walk_at "";intro d hd;refine⟨_,rfl,a,rfl,_,.inl ⟨(AH.new hd _).seq (e1.seq hS),λl hl=>⟨l,He ns,rfl,AH.new hl _ _ _ AE,(by rw[NJ];exact AE),hN _ _ ?_⟩⟩⟩;clear hN N;have es:=(((AH.new hd (.dT [])).trans (AH.new hl (.tup 1#3))).into hd (o:=.dT [(He ns,V.int 0)]));refine FY (λHX=>AH H1 HX/\HX d=some (.dT (Do R 1))) ⟨es,?_⟩ ?_
 ·rw[AE,<-R0];rfl
 clear es hl l;rintro H2 ⟨e2,hd2⟩;refine CK (λσ HX=>(∃x3 x5 x6,σ=[some (.ref r),some (.ref a),some (.int ((most:Nat):Int)),x3,some (.ref d),x5,x6])/\AH H1 HX/\Jj R (most+1)) (λN hN=>?_) ?_
 ·refine⟨_,rfl,_,_,rfl,rfl,_,_,rfl,⟨by lia,by lia,by lia,by lia⟩,?_⟩;rw[show ((most:Int)+1-1).toNat=most by lia];refine BP (n:=most) (λi σ HX=>∃c x5 x6,σ=[some (.ref r),some (.ref a),some (.int ((most:Nat):Int)),some (.ref c),some (.ref d),x5,x6]/\AH H1 HX/\Jj R (i+1)/\Ae K HX c ((R i).map V.int)/\HX d=some (.dT (Do R (i+1)))) ⟨a,none,none,rfl,e2,λk hk j hj=>qG hj 0#1,by rw[R0];exact (e1.trans e2).seq hS,hd2⟩ ?_ ?_
  ·refine D9 ?_;intro _ _ i _ hGo σ HX hi hRq;rcases hRq with⟨c,x5,x6,rfl,eX,ap,hc,hdX⟩;refine hGo _ _ ?_;have hO2:=hO.same (e1.trans eX);refine Am λN2 hN2=>?_;walk_at "";refine⟨r,c,g,lo,g6,m,R i,rfl,hO2.g2,hO2.g9,hO2.v,hO2.len,hO2.m1,hO2.m8,hc,Rb i,by rw[Rl];exact hlen,by rw[Rl];lia,λp2 H3 n3=>hN2 _ _ ?_⟩;clear hN2 N2;rw[<-RS]at n3;have e3:=eX.trans n3.1;have hd3:=n3.1 _ _ hdX;have hp3:=n3.2.2;clear n3 hc hdX eX hO2;refine Am λN2 hN2=>?_;walk_at "";refine⟨.inr (.inr (.inl (.inr ⟨_,hd3⟩))),_,.inl ⟨Ae.of hp3,λl hl=>⟨_,AH.new hl _ _ _ hd3,He (R (i+1)),(by rw[AE,NJ]),by rw[Q4];exact AY 0#1,λz hz=>?_,λhz=>?_⟩⟩⟩
   ·by_cases hx:∃j,j<i+1/\R j=R (i+1)
    ·obtain⟨j,hj,ej⟩:=hx;have hv:=G5 hj ej (λk hk=>by rw[<-ej];exact ap j hj k hk);rw[hv]at hz;cases hz;refine hN2 _ _ ?_;clear hN2 N2;walk_at "";rw[qF 0#1];refine⟨by decide,λp hp=>?_⟩;have ei:j+(i+1-j)=i+1:=by lia
     refine h' (some (j,i+1-j)) (.ref p) _ ⟨by lia,by lia,by rw[ei];exact ej,by rw[ei];exact ap⟩ (((e1.trans e3).trans (AH.new hl _)).trans (AH.new hp _)) ⟨p,rfl,?_⟩;rw[AE,show (1:Int)+(i:Int)-(j:Int)=((i+1-j:Nat):Int) by lia]
    ·rw[G4 λj hj z=>hx ⟨j,hj,z⟩]at hz;cases hz
   ·have hx:∀j,j<i+1->R j≠R (i+1):=λj hj z=>by
     rw[G5 hj z (λk hk=>by rw[<-z];exact ap j hj k hk)]at hz;cases hz
    refine hN2 _ _ ?_;clear hN2 N2;walk_at "";rw[qE 0#1];have e4:=(e3.trans (AH.new hl (.tup ((R (i+1)).map V.int)))).into hd (o:=.dT (Do R (i+1+1)));rw[show V.int (1+(i:Int))=V.int ((i+1:Nat):Int) by congr 1;lia,TN hx];refine⟨e4,Of ap hx,Ae.of ?_,AE⟩;have hl4:=AH.new hl (.tup ((R (i+1)).map V.int));rw[AK (Dc (hl4 _ _ hp3) (hl4 _ _ hd3) (λz=>nomatch z))];exact hl4 _ _ hp3
  ·intro σ HX hRq;rcases hRq with⟨c,x5,x6,rfl,eX,ap,hc,hdX⟩;exact hN _ _ ⟨⟨_,_,_,rfl⟩,eX,ap⟩
 intro _ hGo σ HX hRq;rcases hRq with⟨⟨x3,x5,x6,rfl⟩,eX,ap⟩;refine hGo _ _ ?_;walk_at "";exact h' none .non HX ap (e1.trans eX) rfl
theorem Yw:AJ ["one","fitting","ways"] ["one","fitting","ways"] (AG Wt):=CD
theorem Yx(T:CC K mg t)(G_68:Ak P w K mg base 1 t.f_68 ["one"] (Cq)):Ak P w K mg base 2 t.f_64 ["one","fitting","ways"] (F4):=by
 refine Al T.d_64 Yw λvs H Q E h=>?_;rcases h with⟨r,f,w',g,lo,g6,m,fs,ws,rfl,ok,hf,fl,hw,wl,q⟩;refine⟨rfl,λgu A outer s hr=>?_⟩;refine⟨_,(AF (AO (F7 [(2,"ways"),(0,"one")] [("ways",_),("one",_)] (Q6 K (pv 1)) (λ_ _ _ _=>DM) (λ_ _ _ _=>(AM (IZ (K:=K) rfl) (pv 1) (AI Af (pv 0) (AL hr G_68 T.m_68 (AA (pv 2) AC))) 1#1))))),?_⟩;refine Au.el ok.v λtb h1 h2=>?_;have g2:=ok.g2;have g9:=ok.g9;have m1:=ok.m1;have m8:=ok.m8;have hl:=ok.len;have sz:=ok.sz;have hlm:(g6.map V.int).length=g6.length:=bG ..;have hd:=A8 g2 hl m1;have hp:=RW.Ag g2 (m-1);have hp2:0<g6.length/g.toNat:=by lia
 walk_at "";refine⟨_,rfl,f,rfl,⟨_,Ae.of hf⟩,λD hD=>?_⟩;refine FF (xs:=(Ix fs).map V.int) (λi gt Hx=>gt=((fs.take i).map λn=>ws.getD (n%0#5) 0).map V.int/\Hx=Ad H D (.lst gt)) ⟨rfl,rfl⟩ (λi gt Hx _ z=>by rw[z.2];exact Ae.of (AH.new hD _ _ _ hf)) ?_ ?_
 ·refine Li ?_;rintro i x _ hGo gt Hx hx ⟨rfl,rfl⟩;refine hGo _ _ ?_;obtain⟨v,hv,rfl⟩:=Ch hx
  obtain⟨n,hn,rfl⟩:∃n:Nat,fs[i]?=some n/\v=(n:Int):=by
   unfold Ix at hv;rw[bO]at hv;cases z:fs[i]? with
   |none=>rw[z]at hv;cases hv
   |some n=>rw[z]at hv;exact⟨n,rfl,(Option.some.inj hv).symm⟩
  have en:=AH.new hD (.lst (((fs.take i).map λn=>ws.getD (n%0#5) 0).map V.int));have md:(n:Int)%((g6.length/g.toNat:Nat):Int)=((n%0#5:Nat):Int):=(cD ..).symm;have lt:=cJ n hp2;walk_at "";refine⟨r,g,lo,g6,m,rfl,ok.same en,_,rfl,by lia,?_⟩;rw[md];refine (DZ (Ae.of (en _ _ hw)) (Dy 0#1) ⟨AE,?_,?_,by rw[Db]⟩)
  ·rw[bG,bG,bq];exact AY 0#1
  ·rw[dg,hn];simp
 rintro gt Hx ⟨rfl,rfl⟩;have lf:((Ix fs).map V.int).length=fs.length:=by unfold Ix;rw[List.length_map,List.length_map]
 rw[lf,cT];exact q D _ ⟨AH.new hD _,hD,AE⟩
theorem Pq:AJ ["one","row","ways","sign","ends"] ["one","row"] (AG Wu):=CD
theorem Yy(T:CC K mg t)(G_68:Ak P w K mg base 1 t.f_68 ["one"] (Cq))(G_64:Ak P w K mg base 2 t.f_64 ["one","fitting","ways"] (F4))(G_41:Ak P w K mg base 1 t.f_41 ["one","head","sign"] (LF)):Ak P w K mg base 3 t.f_52 ["one","row"] (N0 K):=by
 refine Al T.d_52 Pq λvs H Q E h=>?_;rcases h with⟨r,a,g,lo,g6,m,ns,rfl,ok,hS,hn,q⟩;refine⟨rfl,λgu A outer s hr=>?_⟩
 refine⟨_,(AB (AN 2 Pq (BC (AA (AI NY (BC (Ac AC)) (AL hr G_68 T.m_68 (AA (pv 0) AC))) AC)))
  (AB (A9 PassesOwn.never rfl (V6 rfl T.z_reversed (AA (pv 1) AC)) (BF 3 Pq) (AB (AN 4 Pq (AM (DE K) (pv 2) (Lu IM AD) 1#1))
  (AF (A4 (Q0 K (pv 2) (AA (F7 [(3,"sign"),(0,"one"),(4,"ends")] [("sign",_),("one",_),("ends",_)] (Az rfl T.z_range (AA (AL hr G_68 T.m_68 (AA (pv 0) AC)) AC)) (λ_ _ _ _=>DM) (λ_ _ _ _=>(Ap (N3 (K:=K) rfl rfl) rfl T.z_sum gO (AA (AL hr G_64 T.m_64 (AA (pv 2) (AA (AL hr G_41 T.m_41 (AA (pv 2) (AA (pv 0) (AA (pv 1) AC)))) (AA (pv 3) AC)))) AC)))) AC))))))
  (AF (AO (Oy rfl rfl T.z_reversed rfl T.z_list (AA (pv 2) AC)))))),?_⟩
 refine Au.el ok.v λtb h1 h2=>?_;have g2:=ok.g2;have g9:=ok.g9;have m1:=ok.m1;have m8:=ok.m8;have hl:=ok.len;have sz:=ok.sz;have hlm:(g6.map V.int).length=g6.length:=bG ..;have hd:=A8 g2 hl m1;have hp:=RW.Ag g2 (m-1);have hm1:=Bx g2 (show m-1<=m by lia);walk_at "";refine⟨by decide,λp1 hp1=>?_⟩;have f1:=AH.new hp1 (.lst [V.int 1]);refine⟨r,g,lo,g6,m,rfl,ok.same f1,?_⟩;refine K7 AE 0#1 0#1 λp2 H2 f2 n2 h2'=>⟨by decide,λpw hpw=>?_⟩
 rw[bM]at h2';have f3:=AH.new hpw (.lst [.ref p2])
 have c0:H2 p2=some (.lst ((Ev g.toNat g6 []).map V.int)):=by
  rw[h2']
  congr 2
  unfold Ev;rw[c9]
  symm
  rw[List.eq_replicate_iff];refine⟨by rw[bG,bn],λb hb=>?_⟩;obtain⟨x,_,e⟩:=bg.mp hb;rw[<-e];rfl
 have sA:AH H (Ad H2 pw (.lst [.ref p2])):=(f1.trans f2).trans f3;have npw:H pw=none:=(f1.trans f2).free hpw;refine⟨_,rfl,a,_,rfl,sA.seq hS,?_⟩;refine T6 (xs:=ns.map V.int) (λi σ H3=>∃(ps:List qR) (x3 x4:Option V),σ=[some (.ref r),some (.ref a),some (.ref pw),x3,x4]/\AH H H3/\H3 pw=some (.lst (ps.map V.ref))/\ps.length=i+1/\∀(j:Nat) (q':qR),ps[j]?=some q'->H3 q'=some (.lst ((Ev g.toNat g6 (ns.drop (ns.length-j))).map V.int))) ⟨[p2],none,none,rfl,sA,AE,rfl,λj q' hq=>?_⟩ (λi σ H3 _ z=>by obtain⟨_,_,_,_,e,_⟩:=z;exact e.seq hS) ?_ ?_
 ·have hj:j=0:=by
   have:=(bJ.mp hq).1;simpa using this
  subst hj;have:q'=p2:=by simpa using hq.symm
  subst this;rw[fi,List.drop_length];exact f3 _ _ c0
 ·intro i x σ H3 hx hRq;rcases hRq with⟨ps,x3,x4,rfl,e3,hpw3,pl,hps⟩;rw[<-List.map_reverse]at hx;obtain⟨sg,hsg,rfl⟩:=Ch hx;walk_at "";have il:i<ns.length:=by have:=(bJ.mp hsg).1;rw[dq]at this;exact this
  have dr:ns.drop (ns.length-(i+1))=sg::ns.drop (ns.length-i):=by rw[gK il]at hsg;obtain⟨hlt,hget⟩:=bJ.mp hsg;rw[show ns.length-(i+1)=ns.length-1-i by lia,cj hlt,hget,show ns.length-1-i+1=ns.length-i by lia]
  obtain⟨q0,hq0⟩:∃q0,ps[i]?=some q0:=⟨ps[i],bI 0#1⟩;have hv0:=hps i q0 hq0
  have la:Lm (ps.map V.ref) (-1)=some (V.ref q0):=by
   have z:Oq (ps.map V.ref).length (-1)=some i:=by
    unfold Oq;rw[bG,qE 0#8,qF 0#1]
    congr 1
    lia
   unfold Lm;rw[z];show (ps.map V.ref)[i]?=_;rw[bO,hq0];rfl
  refine (DZ (Ae.of hpw3) la ⟨.inl ⟨_,Ae.of hpw3⟩,?_⟩);refine⟨_,rfl,r,g,lo,g6,m,rfl,ok.same e3,_,rfl,by lia,by lia,λD hD=>?_⟩;rw[bM]
  have hne:D≠pw:=λz=>by rw[z,hpw3]at hD;cases hD
  refine Bu (n:=g6.length/g.toNat) (λk gt Hx=>gt=((List.range k).map (Hr g.toNat g6 (sg::ns.drop (ns.length-i)))).map V.int/\AH H3 Hx/\Hx D=some (.lst gt)) ⟨rfl,AH.new hD _,AE⟩ ?_ ?_
  ·refine EW ?_;rintro k _ hGo gt Hx hk ⟨rfl,ex,hDx⟩;refine hGo _ _ ?_;walk_at "";refine⟨r,g,lo,g6,m,k,sg,by rw[b7],ok.same (e3.trans ex),hk,λp5 H5 hN5=>?_⟩;have fl:(B7 g.toNat g6 k sg).length<=9:=by unfold B7;rw[bG];have:=dC (λj=>decide (g6.getD (k*g.toNat+j) 0=sg)) (List.range g.toNat);rw[bn]at this;lia
   refine⟨r,p5,q0,g,lo,g6,m,B7 g.toNat g6 k sg,Ev g.toNat g6 (ns.drop (ns.length-i)),rfl,ok.same ((e3.trans ex).trans hN5.1),hN5.2.2,by lia,hN5.1 _ _ (ex _ _ hv0),Iv ..,λp6 H6 hN6=>?_⟩
   have sumE:((B7 g.toNat g6 k sg).map λn=>(Ev g.toNat g6 (ns.drop (ns.length-i))).getD (n%0#5) 0).sum=Hr g.toNat g6 (sg::ns.drop (ns.length-i)) k:=by
    rw[<-Iu]
    congr 1
    refine bU λn _=>Iw (cJ _ 0#1)
   refine⟨p6,rfl,_,Ae.of hN6.2.2,hN6.1 _ _ (hN5.1 _ _ hDx),?_,?_,((ex.trans hN5.1).trans hN6.1).into hD,AE⟩
   ·rw[bG,bG,bn];exact AY 0#1
   ·rw[sumE,Ay,bS];rfl
  ·rintro gt Hx ⟨rfl,ex,hDx⟩;refine⟨_,ex _ _ hpw3,?_,(e3.trans ex).into npw,ps++[D],?_,?_,λj q' hq=>?_⟩
   ·rw[bG];exact AY 0#1
   ·rw[AE,bS];rfl
   ·rw[bN,pl];rfl
   ·by_cases hj:j<ps.length
    ·rw[b8 hj]at hq;have hh:=hps j q' hq
     have:q'≠pw:=λz=>by
      rw[z,hpw3]at hh;have z2:=HO.lst.inj (Option.some.inj hh);have e1:(ps.map V.ref)[i]?=some (V.ref q0):=by rw[bO,hq0];rfl
      rw[z2,bO]at e1;cases hz:(Ev g.toNat g6 (ns.drop (ns.length-j)))[i]? with
      |none=>rw[hz]at e1;cases e1
      |some c=>rw[hz]at e1;cases e1
     rw[AK this];exact ex _ _ hh
    ·have hj2:=(bJ.mp hq).1;rw[bN]at hj2;have hj3:j=i+1:=by simp only[List.length_cons,List.length_nil]at hj2;lia
     subst hj3;rw[bt 0#1,pl,dJ]at hq;have:q'=D:=(Option.some.inj hq).symm;subst this;rw[AK hne,hDx,dr];rfl
 ·intro σ H3 hRq;rcases hRq with⟨ps,x3,x4,rfl,e3,hpw3,pl,hps⟩;walk_at "";refine⟨_,Ae.of hpw3,λp9 hp9=>?_⟩;have f9:=AH.new hp9 (.lst (ps.map V.ref).reverse);rw[bG]at pl;refine q p9 _ (e3.trans f9) (e3.free hp9) ⟨ps.reverse,by rw[AE,List.map_reverse],by rw[dq,pl],λk q' hq=>?_⟩;have kl:=(bJ.mp hq).1;rw[dq]at kl;rw[gK kl]at hq;have hh:=hps _ q' hq;rw[show ns.length-(ps.length-1-k)=k by lia]at hh;exact f9 _ _ hh
theorem NM:AJ ["parts","number","at","rest"] ["parts","number"] (AG Wv):=CD
theorem Yz(T:CC K mg t) :Ak P w K mg base 1 t.f_58 ["parts","number"] (JD):=by
 refine Al T.d_58 NM λvs H Q E h=>?_;rcases h with⟨p,ps,n,rfl,hp,n0,n1,q⟩;refine⟨rfl,λgu A outer s hr=>?_⟩
 refine⟨_,(AB (AN 2 NM AD)
  (AB (AN 3 NM (pv 1))
  (AB (Em PassesOwn.never (AQ Om (pv 3) (AM (DE K) (pv 0) (pv 2) 1#1) (AR _)) (AB (AN 3 NM (AI BI (pv 3) (AM (DE K) (pv 0) (pv 2) 1#1)))
  (AF (AN 2 NM (AI Ab (pv 2) AD)))))
  (AF (AO (Cb (AA (pv 2) (AA (pv 3) AC)))))))),?_⟩
 have hlm:(ps.map V.int).length=ps.length:=bG ..
 have pos:0<ps.length:=by
  cases ps with
  |nil=>exact qG n1 (by simp;lia)
  |cons a r=>exact Nat.succ_pos _
 refine Am λN hN=>?_;walk_at "";refine hN _ _ ?_;clear hN N;refine Am λN hN=>?_;walk_at "";refine hN _ _ ?_;clear hN N;refine CK (λσ HX=>∃(k rest:Nat),k<ps.length/\(rest:Int)<ps.getD k 0/\n=(ps.take k).sum+(rest:Int)/\σ=[some (.ref p),some (.int n),some (.int ((k:Nat):Int)),some (.int ((rest:Nat):Int))]/\HX=H) (λN hN=>?_) ?_
 ·refine Fs (λσ HX=>∃(k rest:Nat),k<ps.length/\n=(ps.take k).sum+(rest:Int)/\σ=[some (.ref p),some (.int n),some (.int ((k:Nat):Int)),some (.int ((rest:Nat):Int))]/\HX=H)
   (λ(σ:St) (HX:Hp)=>match σ[2]? with|some (some (V.int y))=>((ps.length:Int)-y).toNat|_=>0) ⟨0,n.toNat,pos,by simp;lia,by rw[Int.toNat_of_nonneg n0];rfl,rfl⟩ ?_ ?_
  ·intro σ HX hRq;rcases hRq with⟨k,rest,hk,hn,rfl,rfl⟩;have st:=Jz hk;walk_at "";refine (DZ (Ae.of hp) (Dy hk) ⟨_,rfl,?_⟩)
   by_cases hle:ps.getD k 0<=(rest:Int)
   ·rw[qF hle];refine (DZ (Ae.of hp) (Dy hk) ⟨_,rfl,⟨k+1,?_,(((rest:Nat):Int)-ps.getD k 0).toNat,?_,by lia,by lia,rfl⟩,by lia⟩)
    ·by_cases z:k+1<ps.length
     ·exact z
     ·rw[cm (show ps.length<=k+1 by lia)]at st;lia
    ·rw[st];lia
   ·rw[qE hle];exact hN _ _ ⟨k,rest,hk,by lia,hn,rfl,rfl⟩
  ·intro σ H1 Q1 Q2 hq;walk_at "";intro hRq;rcases hRq with⟨v,h1,v1,h2,v2,h3,p',ys,i',x',e1,e2,e3,e4,i,h5,x,h6,h7⟩;exact⟨v,h1,v1,h2,v2,h3,p',ys,i',x',e1,e2,e3,e4,i,h5,x,h6,hq _ _ h7⟩
 intro _ hGo σ HX hRq;rcases hRq with⟨k,rest,hk,hr,hn,rfl,rfl⟩;refine hGo _ _ ?_;walk_at "";exact⟨by decide,λb hb=>q k rest b _ (AH.new hb _) hk hr hn AE⟩
theorem FT:AJ ["one","row","ways","number","chosen","head","word","at","sign","fitting","taken"] ["one","row","ways","number"] (AG Ww):=CD
theorem Y0(T:CC K mg t)(G_58:Ak P w K mg base 1 t.f_58 ["parts","number"] (JD))(G_55:Ak P w K mg base 1 t.f_55 ["number","signs","many"] (FM))(G_41:Ak P w K mg base 1 t.f_41 ["one","head","sign"] (LF))(G_63:Ak P w K mg base 2 t.f_63 ["one"] (Bm))(G_64:Ak P w K mg base 2 t.f_64 ["one","fitting","ways"] (F4))(G_68:Ak P w K mg base 1 t.f_68 ["one"] (Cq)):Ak P w K mg base 3 t.f_54 ["one","row","ways","number"] (JE K):=by
 refine Al T.d_54 FT λvs H Q E h=>?_;rcases h with⟨r,a,p,g,lo,g6,m,row,n,rfl,ok,hS,hn,hW,hlt,q⟩;refine⟨rfl,λgu A outer s hr=>?_⟩
 refine⟨_,(AB (AN 4 FT (AL hr G_58 T.m_58 (AA (AM (DE K) (pv 2) AD 1#1) (AA (pv 3) AC))))
  (AB (AN 5 FT (AM (B3 K) (pv 4) AD 1#1))
  (AB (AN 6 FT (AL hr G_55 T.m_55 (AA (pv 5) (AA 0#2 (AA (AI BI (AL hr G_63 T.m_63 (AA (pv 0) AC)) AD) AC)))))
  (AB (A9 PassesOwn.never rfl (K0 rfl T.z_enumerate (AA (pv 1) AC)) (El rfl (BJ (BF 7 FT) (BJ (BF 8 FT) C4))) (AB (AN 9 FT (AL hr G_41 T.m_41 (AA (pv 0) (AA (pv 5) (AA (pv 8) AC)))))
  (AB (AN 4 FT (AL hr G_58 T.m_58 (AA (AL hr G_64 T.m_64 (AA (pv 0) (AA (pv 9) (AA (AM (DE K) (pv 2) (AI Ab (pv 7) AD) 1#1) AC)))) (AA (AM (B3 K) (pv 4) AD 1#1) AC))))
  (AB (AN 10 FT (AM (DE K) (pv 9) (AM (B3 K) (pv 4) AD 1#1) 1#1))
  (AB (A4 (Q0 K (pv 6) (AA (AI Af (pv 10) 0#2) AC)))
  (AF (AN 5 FT (AI Af (pv 10) (AL hr G_68 T.m_68 (AA (pv 0) AC))))))))))
  (AF (AO (pv 6))))))),?_⟩
 refine Au.el ok.v λtb h1 h2=>?_;have g2:=ok.g2;have g9:=ok.g9;have m1:=ok.m1;have m8:=ok.m8;have hd:=A8 g2 ok.len m1;have hpw:=RW.Ag g2 (m-1);have hp2:0<g6.length/g.toNat:=by lia
 rcases hW with⟨ps,hps,pl,pe⟩;obtain⟨q0,hq0⟩:∃q0,ps[0]?=some q0:=⟨ps[0],bI 0#1⟩;have hv0:=pe 0 q0 hq0;rw[dj]at hv0;refine Am λN hN=>?_;walk_at "";refine (DZ (v:=.ref q0) (Ae.of hps) (Cc (by rw[bO,hq0];rfl)) ⟨q0,Ev g.toNat g6 row,_,rfl,hv0,by lia,by rw[MW];exact hlt,λh0 rest b H2 e2 hh hr hnn hb=>hN _ _ ?_⟩);clear hN N;rw[Iv]at hh;rw[Iw hh]at hr;have inv0:∀c,(Hw g.toNat g6 row h0)[rest]?=some c->(Dr g g6 m row)[n]?=some (Ai g (h0:Int) (m-1)++c):=λc hc=>WJ hh hr hnn hc
 clear hnn;refine Am λN hN=>?_;walk_at "";refine (CY (Ah.of hb) rfl (hN _ _ ?_));clear hN N;have ok2:=ok.same e2;refine Am λN hN=>?_;walk_at "";refine Au.el ok2.v λtb2 k1 k2=>?_;refine (CY (Ah.of k1) rfl ⟨r,g,lo,g6,m,rfl,g2,g9,ok2.v,ok2.len,_,rfl,_,g,_,rfl,g2,g9,by lia,by lia,λz=>qG z ?_,λ_ _ pw H3 n3=>hN _ _ ?_⟩)
 ·rw[show ((m:Int)-1).toNat=m-1 by lia];lia
 clear hN N;rw[show ((m:Int)-1).toNat=m-1 by lia]at n3;have hb3:=n3.1 _ _ hb;have hw3:H3 pw=some (.lst ((Ai g (h0:Int) (m-1)).map V.int)):=n3.2.2;have nw:=n3.2.1;have e3:=n3.1;clear n3 hb k1 k2;refine CK (λσ HX=>∃b h x7 x8 x9 x10 w,σ=[some (.ref r),some (.ref a),some (.ref p),some (.int ((n:Nat):Int)),some (.ref b),some (.int ((h:Nat):Int)),some (.ref pw),x7,x8,x9,x10]/\AH H2 HX/\HX pw=some (.lst (w.map V.int))/\(Dr g g6 m row)[n]?=some w) (λN hN=>?_) ?_
 ·refine⟨_,rfl,a,_,rfl,(e2.trans e3).seq hS,?_⟩;refine IW (xs:=row.map V.int) (λi σ HX=>∃b b0 h rest x7 x8 x9 x10 w,σ=[some (.ref r),some (.ref a),some (.ref p),some (.int ((n:Nat):Int)),some (.ref b),some (.int ((h:Nat):Int)),some (.ref pw),x7,x8,x9,x10]/\AH H2 HX/\HX b=some (.tup [.int b0,.int ((rest:Nat):Int)])/\h<g6.length/g.toNat/\(rest:Int)<Hr g.toNat g6 (row.drop i) h/\HX pw=some (.lst (w.map V.int))/\w.length=m-1+i/\∀c,(Hw g.toNat g6 (row.drop i) h)[rest]?=some c->(Dr g g6 m row)[n]?=some (w++c)) ⟨b,_,h0,rest,none,none,none,none,_,rfl,e3,hb3,hh,hr,hw3,by rw[BE];rfl,inv0⟩ (λi σ HX _ z=>by obtain⟨_,_,_,_,_,_,_,_,_,_,e,_⟩:=z;exact (e2.trans e).seq hS) ?_ ?_
  ·clear inv0 hb3 hw3 hr;rintro i x pt σ HX hx ⟨b,b0,h,rest,x7,x8,x9,x10,w,rfl,eX,hb,hh,hr,hw,wl,inv⟩ hpt;obtain⟨s,hs,rfl⟩:=Ch hx;have dr:row.drop i=s::row.drop (i+1):=by obtain⟨hl,hget⟩:=bJ.mp hs;rw[cj hl,hget]
   have il:=(bJ.mp hs).1;rw[dr]at hr inv;have et:=AH.new hpt (.tup [.int ((i:Nat):Int),.int s]);refine⟨pt,_,rfl,Ah.of AE,rfl,_,_,rfl,_,_,rfl,rfl,?_⟩;have eT:=eX.trans et;have hbT:=et _ _ hb;have hwT:=et _ _ hw;generalize Ad HX pt (.tup [.int ((i:Nat):Int),.int s])=HT at eT hbT hwT et⊢;have okT:=(ok.same e2).same eT;refine Am λN2 hN2=>?_;walk_at "";refine⟨r,g,lo,g6,m,h,s,rfl,okT,hh,λpf H4 n4=>hN2 _ _ ?_⟩;clear hN2 N2;have e4:=eT.trans n4.1;have hb4:=n4.1 _ _ hbT;have hw4:=n4.1 _ _ hwT;have hf4:=n4.2.2;have ok4:=okT.same n4.1;clear n4 okT eT hbT hwT et hb hw hpt eX;obtain⟨qk,hqk⟩:∃qk,ps[i+1]?=some qk:=⟨ps[i+1],bI 0#1⟩;have hvk:=pe (i+1) qk hqk;refine Am λN2 hN2=>?_;walk_at "";have eH4:=e2.trans e4;have sh:((B7 g.toNat g6 h s).map λf=>(Ev g.toNat g6 (row.drop (i+1))).getD (f%0#5) 0)=(B7 g.toNat g6 h s).map λf=>Hr g.toNat g6 (row.drop (i+1)) (f%0#5):=bU λf _=>Iw (cJ _ hp2)
   have fl:(B7 g.toNat g6 h s).length<=300:=by unfold B7;rw[bG];have:=dC (λj=>decide (g6.getD (h*g.toNat+j) 0=s)) (List.range g.toNat);rw[bn]at this;lia
   refine (DZ (v:=.ref qk) (Ae.of (eH4 _ _ hps)) (by rw[show (i:Int)+1=((i+1:Nat):Int) by lia];exact Cc (by rw[bO,hqk];rfl)) ?_);refine⟨r,pf,qk,g,lo,g6,m,B7 g.toNat g6 h s,Ev g.toNat g6 (row.drop (i+1)),rfl,ok4,hf4,fl,eH4 _ _ hvk,Iv _ _ _,λpsh H5 n5=>?_⟩;rw[sh]at n5;refine (CY (Ah.of (n5.1 _ _ hb4)) rfl ⟨psh,_,_,rfl,n5.2.2,by lia,by rw[Iu];exact hr,λk rest' b' H6 e6 hk hr' hn' hb'=>hN2 _ _ ?_⟩);clear hN2 N2;rw[bG]at hk;obtain⟨f,hf⟩:∃f,(B7 g.toNat g6 h s)[k]?=some f:=⟨_,bI hk⟩;rw[bH,bO,hf]at hr';replace hr':(rest':Int)<Hr g.toNat g6 (row.drop (i+1)) (f%0#5):=hr'
   have inv2:∀c,(Hw g.toNat g6 (row.drop (i+1)) (f%0#5))[rest']?=some c->(Dr g g6 m row)[n]?=some (w++[((f%g.toNat:Nat):Int)]++c):=λc hc=>by rw[cN];exact inv _ (YG hf hr' hn' hc)
   have e56:=n5.1.trans e6;have e6':=e4.trans e56;have hf6:=e56 _ _ hf4;have hw6:=e56 _ _ hw4;have ok6:=ok4.same e56;clear n5 e6 hn' e56 hf4 hw4 hb4 e4 inv hr ok4 sh eH4 hvk hqk;refine Am λN2 hN2=>?_;walk_at "";refine (CY (Ah.of hb') rfl (DZ (v:=.int ((f:Nat):Int)) (Ae.of hf6) (Cc (by unfold Ix;rw[List.map_map,List.getElem?_map,hf];rfl)) (hN2 _ _ ?_)));clear hN2 N2;refine Au.el ok6.v λtb6 k1 k2=>?_;refine Am λN2 hN2=>?_;walk_at "";refine⟨.inl ⟨_,Ae.of hw6⟩,CY (Ah.of k1) rfl ⟨_,rfl,by lia,_,hw6,?_,hN2 _ _ ?_⟩⟩
   ·rw[bG,wl];exact AY 0#1
   clear hN2 N2;have e7:=e6'.into nw (o:=.lst (w.map V.int++[V.int ((f:Int)%g)]))
   have hb7:Ad H6 pw (.lst (w.map V.int++[V.int ((f:Int)%g)])) b'=some (.tup [.int ((k:Nat):Int),.int ((rest':Nat):Int)]):=by rw[AK (Dc hb' hw6 (λz=>nomatch z))];exact hb'
   have hw7:Ad H6 pw (.lst (w.map V.int++[V.int ((f:Int)%g)])) pw=some (.lst ((w++[((f%g.toNat:Nat):Int)]).map V.int)):=by rw[AE,bS,show (f:Int)%g=((f%g.toNat:Nat):Int) by rw[cD,bp 0#1]];rfl
   have ok7:=(ok.same e2).same e7;generalize Ad H6 pw (.lst (w.map V.int++[V.int ((f:Int)%g)]))=H7 at e7 hb7 hw7 ok7⊢;walk_at "";exact⟨r,g,lo,g6,m,rfl,ok7,_,rfl,by lia,_,f%0#5,by rw[cD],e7,rest',hb7,cJ _ hp2,hr',_,hw7,by rw[bN,wl];rfl,inv2⟩
  ·intro σ HX hRq;rcases hRq with⟨b,b0,h,rest,x7,x8,x9,x10,w,rfl,eX,hb,hh,hr,hw,wl,inv⟩;rw[bG,List.drop_length]at hr inv;have r0:rest=0:=by have:(rest:Int)<1:=hr;lia
   refine hN _ _ ⟨b,h,x7,x8,x9,x10,w,rfl,eX,hw,?_⟩;have:=inv [] (by rw[r0];rfl);rw[cA]at this;exact this
 intro _ hGo σ HX hRq;rcases hRq with⟨b,h,x7,x8,x9,x10,w,rfl,eX,hw,hall⟩;refine hGo _ _ ?_;walk_at "";exact q pw HX w hall ⟨e2.trans eX,e2.free nw,hw⟩
theorem Ve:AJ ["one","row","number","ways"] ["one","row","number"] (AG Wx):=CD
theorem Y1(T:CC K mg t)(G_19:Ak P w K mg base 3 t.f_19 ["word","signs"] (DT K))(G_52:Ak P w K mg base 3 t.f_52 ["one","row"] (N0 K))(G_54:Ak P w K mg base 3 t.f_54 ["one","row","ways","number"] (JE K)):Ak P w K mg base 4 t.f_36 ["one","row","number"] (NH K):=by
 refine Al T.d_36 Ve λvs H Q E h=>?_;rcases h with⟨r,a,g,lo,g6,m,xs,n,rfl,ok,hS,kd,hn,h⟩;refine⟨rfl,λgu A outer s hr=>?_⟩
 refine⟨_,(AB (A4 (AL hr G_19 T.m_19 (AA (pv 1) (AA 0#2 AC))))
  (AB (AN 3 Ve (AL hr G_52 T.m_52 (AA (pv 0) (AA (pv 1) AC))))
  (AB (A3 (PW.pt (Fp (AQ Du (pv 2) AD (AR _)) (Ej (AQ Om (pv 2) (Ap (Er rfl) rfl T.z_sum gO (AA (AM (DE K) (pv 3) AD 1#1) AC)) (AR _))))) (AF Ec) AX)
  (AF (AO (AL hr G_54 T.m_54 (AA (pv 0) (AA (pv 1) (AA (pv 3) (AA (pv 2) AC)))))))))),?_⟩
 refine Au.el ok.v λtb h1 h2=>?_;refine Am λN hN=>?_;walk_at "";refine (CY (Ah.of h1) rfl ⟨a,xs,g,rfl,hS,kd,?_⟩);cases hb:CU g xs with
 |some i =>
  rw[hb]at h;exact h
 |none =>
  rw[hb]at h;obtain⟨ns,rfl,hns⟩:=FX hb;rw[bG]at hn;obtain⟨hbad,hgood⟩:=h ns rfl;clear h;intro H1 e1;refine hN _ _ ?_;clear hN N;refine Am λN hN=>?_;walk_at "";refine⟨r,a,g,lo,g6,m,ns,rfl,ok.same e1,e1.seq hS,by lia,λp H2 e2 hp hW=>hN _ _ ?_⟩;clear hN N;have e12:=e1.trans e2;rcases id hW with⟨ps,hps,pl,pe⟩;obtain⟨q0,hq0⟩:∃q0,ps[0]?=some q0:=⟨ps[0],bI 0#1⟩;have hv0:=pe 0 q0 hq0;rw[dj]at hv0;refine Am λN hN=>?_;walk_at ""
  by_cases n0:n<0
  ·rw[qF n0];exact hbad (.inl n0)
  rw[qE n0];refine (DZ (v:=.ref q0) (Ae.of hps) (Cc (by rw[bO,hq0];rfl)) ⟨q0,rfl,_,Ae.of hv0,?_⟩);rw[MW]
  by_cases n1:Fd g.toNat g6 ns<=n
  ·rw[qF n1];exact hbad (.inr n1)
  rw[qE n1];refine hN _ _ ?_;clear hN N;obtain⟨M,rfl⟩:∃M:Nat,n=((M:Nat):Int):=⟨n.toNat,by lia⟩;walk_at "";exact⟨r,a,p,g,lo,g6,m,ns,M,rfl,ok.same e12,e12.seq hS,hn,hW,by lia,λq H' w hw n5=>hgood 0#1 0#1 q H' w hw ⟨e12.trans n5.1,e12.free n5.2.1,n5.2.2⟩⟩
theorem NO:AJ ["one","weight","table","number","told","there"] ["one","weight"] (AG Wy):=CD
theorem Y2(T:CC K mg t) :Ak P w K mg base 1 t.f_59 ["one","weight"] (Ii):=by
 refine Al T.d_59 NO λvs H Q E h=>?_;rcases h with⟨r,g,lo,g6,wt,rfl,g2,g9,hR,w0,w3,tl,q⟩;refine⟨rfl,λgu A outer s hr=>?_⟩
 refine⟨_,(AB (AN 2 NO 0#2)
  (AB (A9 PassesOwn.never rfl (F0 rfl T.z_enumerate (AA (pv 2) AC)) (El rfl (BJ (BF 3 NO) (BJ (BF 4 NO) C4))) (AB (AN 5 NO (AI Af (AI BG (pv 3) (pv 1)) 0#2))
  (AF (A3 (AQ IN (pv 4) (AM (B3 K) (pv 2) (AI BI (pv 3) (AI BM (pv 5) (pv 1))) 1#1) (AR _)) (AF (AO KA)) AX))))
  (AF (AO KA)))),?_⟩
 refine Au.el hR λtb h1 h2=>?_;walk_at "";refine (CY (Ah.of h1) rfl ?_);walk_at "";refine⟨_,rfl,tb,_,rfl,Ah.of h2,?_⟩;refine GY (xs:=g6.map V.int) (λi σ H1=>(∃x3 x4 x5,σ=[some (.ref r),some (.int wt),some (.ref tb),x3,x4,x5])/\AH H H1/\∀k,k<i->g6.getD k 0=g6.getD ((k:Int)-(k:Int)/wt%g*wt).toNat 0) ⟨⟨none,none,none,rfl⟩,AH.refl _,λk hk=>qG hk (fO _)⟩ (λi σ H1 _ z=>Ah.of (z.2.1 _ _ h2)) ?_ ?_
 ·rintro i x p2 σ H1 hx ⟨⟨x3,x4,x5,rfl⟩,e,hall⟩ hp2;obtain⟨n,hn,rfl⟩:=Ch hx;have hi:i<g6.length:=(bJ.mp hn).1;have e2:AH H (Ad H1 p2 (.tup [.int ((i:Nat):Int),.int n])):=e.trans (AH.new hp2 _);refine⟨p2,_,rfl,Ah.of AE,rfl,_,_,rfl,_,_,rfl,rfl,?_⟩;walk_at "";have ix:=WF (k:=(i:Int)) (w:=wt) (g:=g) 0#1 w0 g2;have gA:=B6 (ns:=g6) ix.1 0#1;have ng:n=g6.getD i 0:=by rw[bH,hn];rfl
  refine⟨w0,by lia,CY (Ah.of (e2 _ _ h1)) rfl ⟨g,rfl,by lia,.inr ⟨by lia,by lia⟩,CY (Ah.of (e2 _ _ h2)) gA ⟨rfl,?_⟩⟩⟩
  by_cases hd:V.int n=V.int (g6.getD ((i:Int)-(i:Int)/wt%g*wt).toNat 0)
  ·rw[qE (λz=>z hd)];refine⟨⟨_,rfl⟩,e2,λk hk=>?_⟩
   by_cases z:k=i
   ·subst z;rw[<-ng];exact V.int.inj hd
   ·exact hall k 0#1
  ·rw[qF hd];have z:BW g g6 wt=true:=Gc.mpr ⟨i,hi,λy=>hd (by rw[ng,y])⟩;rw[z]at q;exact q _ e2
 ·intro σ H1 hRq;rcases hRq with⟨⟨x3,x4,x5,rfl⟩,e,hall⟩;walk_at "";rw[bG]at hall
  have z:BW g g6 wt=false:=by
   cases z:BW g g6 wt with
   |false=>rfl
   |true =>
    obtain⟨k,hk,h⟩:=Gc.mp z;exact qG (hall k hk) h
  rw[z]at q;exact q H1 e
theorem NP:AJ ["one","found","weight","at"] ["one"] (AG Wz):=CD
theorem Y3(T:CC K mg t)(G_63:Ak P w K mg base 2 t.f_63 ["one"] (Bm))(G_59:Ak P w K mg base 1 t.f_59 ["one","weight"] (Ii)):Ak P w K mg base 3 t.f_46 ["one"] (EK):=by
 refine Al T.d_46 NP λvs H Q E h=>?_;rcases h with⟨r,g,lo,g6,m,rfl,g2,g9,hR,hl,m1,m8,gm,q⟩;refine⟨rfl,λgu A outer s hr=>?_⟩
 refine⟨_,(AB (AN 1 NP (BC AC))
  (AB (AN 2 NP (Ap (NF K) rfl T.z_len cR (AA 0#2 AC)))
  (AB (A9 PassesOwn.never rfl (Az rfl T.z_range (AA (AL hr G_63 T.m_63 (AA (pv 0) AC)) AC)) (BF 3 NP) (AB (AN 2 NP (AI BG (pv 2) 0#2))
  (AF (A3 (Dp (AL hr G_59 T.m_59 (AA (pv 0) (AA (pv 2) AC)))) (AF (A4 (Q0 K (pv 1) (AA (AI Ab 0#2 (pv 3)) AC)))) AX))))
  (AF (AO (pv 1)))))),?_⟩
 refine Au.el hR λtb h1 h2=>?_;walk_at "";refine⟨cS _,λp hp=>?_⟩;have e0:=AH.new hp (.lst []);refine (CY (Ah.of (e0 _ _ h1)) rfl ?_);walk_at "";refine⟨_,.inr (Ah.of (e0 _ _ h2)),?_⟩;rw[bG];refine⟨_,rfl,r,g,lo,g6,m,rfl,g2,g9,hR.same e0,hl,_,rfl,by lia,by lia,?_⟩;refine BP (n:=m) (λi σ H1=>∃x3,σ=[some (.ref r),some (.ref p),some (.int (g^(m-i))),x3]/\AH H H1/\H1 p=some (.lst ((((List.range i).filter λj=>BW g g6 (g^(m-1-j))).map λj:Nat=>lo+(j:Int)).map V.int))) ⟨none,by rw[hl,fi],e0,AE⟩ ?_ ?_
 ·refine D9 ?_;intro _ _ i _ hGo σ H1 hi hRq;rcases hRq with⟨x3,rfl,e,hp1⟩;refine hGo _ _ ?_;have dv:g^(m-i)/g=g^(m-1-i):=by rw[show m-i=(m-1-i)+1 by lia,cB,Int.mul_ediv_cancel _ 0#1]
  have gp:=RW.Ag g2 (m-1-i);have gb:=Bx g2 (show m-1-i<=m by lia);walk_at "";refine (CY (Ah.of (e _ _ h1)) rfl ?_);walk_at "";rw[dv];refine⟨by lia,by lia,r,g,lo,g6,_,rfl,g2,g9,hR.same e,gp,by lia,by lia,λH2 e2=>?_⟩;have e3:=e.trans e2;refine⟨_,rfl,?_⟩;cases hc:BW g g6 (g^(m-1-i)) with
  |true =>
   rw[qF rfl];refine⟨.inl ⟨_,Ae.of (e2 _ _ hp1)⟩,CY (Ah.of (e3 _ _ h1)) rfl ⟨lo,rfl,_,e2 _ _ hp1,?_,by rw[show m-(i+1)=m-1-i by lia],e3.into hp,?_⟩⟩
   ·rw[bG,bG];have:=dC (λj=>BW g g6 (g^(m-1-j))) (List.range i);rw[bn]at this;exact AY 0#1
   ·rw[AE,cH,ce,bS,bS,b7];simp[List.filter,hc]
  |false =>
   rw[qE 0#8];refine⟨by rw[show m-(i+1)=m-1-i by lia],e3,?_⟩;rw[e2 _ _ hp1,cH,ce];simp[List.filter,hc]
 ·intro σ H1 hRq;rcases hRq with⟨x3,rfl,e,hp1⟩;walk_at "";exact q p H1 ⟨e,hp,hp1⟩
theorem aZ:AJ ["word","at"] ["word","at"] (AG aI):=CD
theorem aa(T:CC K mg t) :Ak P w K mg base 1 t.f_2 ["word","at"] (Iy K):=by
 refine Al T.d_2 aZ λvs H Q E h=>?_;rcases h with⟨a,v,z,rfl,hS,q⟩;refine⟨rfl,λgu A outer s hr=>?_⟩
 refine⟨_,(AB (A3 (PW.pt (Fp (AQ Du (pv 1) AD (AR _)) (Ej (AQ Om (pv 1) (Ap (NF K) rfl T.z_len cR (AA (pv 0) AC)) (AR _))))) (AF (AO AD)) AX)
  (AF (AO (AM (DE K) (pv 0) (pv 1) 1#1)))),?_⟩
 have hlm:(v.map V.int).length=v.length:=bG ..;unfold sn at q;walk_at ""
 by_cases h0:z<0
 ·rw[qF (.inl h0)]at q;rw[qF h0];exact q
 rw[qE h0];refine⟨_,.inl hS,?_⟩;rw[hlm]
 by_cases h1:(v.length:Int)<=z
 ·rw[qF (.inr h1)]at q;rw[qF h1];exact q
 rw[qE h1];rw[qE 0#1]at q;exact⟨a,_,_,_,rfl,rfl,hS,B6 0#1 0#1,q⟩
theorem NQ:AJ ["one","low","many","ahead","table","number","word"] ["one","low","many"] (AG W0):=CD
theorem Y4(T:CC K mg t)(G_71:Ak P w K mg base 4 t.f_71 ["signs","low","table"] (Gy))(G_7:Ak P w K mg base 1 t.f_7 ["signs","many"] (Ga))(G_55:Ak P w K mg base 1 t.f_55 ["number","signs","many"] (FM))(G_39:Ak P w K mg base 5 t.f_39 ["one","word"] (IH K))(G_2:Ak P w K mg base 1 t.f_2 ["word","at"] (Iy K))(G_63:Ak P w K mg base 2 t.f_63 ["one"] (Bm)):Ak P w K mg base 6 t.f_37 ["one","low","many"] (Hs):=by
 refine Al T.d_37 NQ λvs H Q E h=>?_;rcases h with⟨r,g,lo,g6,m,low,M,rfl,ok,M1,gM,q⟩;refine⟨rfl,λgu A outer s hr=>?_⟩
 refine⟨_,(AB (AN 3 NQ (AI BI 0#2 (pv 1)))
  (AB (AN 4 NQ (BC AC))
  (AB (A9 PassesOwn.never rfl (Az rfl T.z_range (AA (AL hr G_7 T.m_7 (AA 0#2 (AA (pv 2) AC))) AC)) (BF 5 NQ) (AB (AN 6 NQ (AL hr G_55 T.m_55 (AA (pv 5) (AA 0#2 (AA (pv 2) AC)))))
  (AF (A4 (Q0 K (pv 4) (AA (AL hr G_39 T.m_39 (AA (pv 0) (AA (F7 [(6,"word"),(3,"ahead")] [("word",_),("ahead",_)] (Az rfl T.z_range (AA (AL hr G_63 T.m_63 (AA (pv 0) AC)) AC)) (λ_ _ _ _=>DM) (λ_ _ _ _=>(AL hr G_2 T.m_2 (AA (pv 1) (AA (AI Ab (pv 2) (pv 0)) AC))))) AC))) AC))))))
  (AF (AO (AL hr G_71 T.m_71 (AA 0#2 (AA (pv 1) (AA (pv 4) AC))))))))),?_⟩
 refine Au.el ok.v λtb h1 h2=>?_;have g2:=ok.g2;have g9:=ok.g9;have m8:=ok.m8;have hl:=ok.len;have gp:=RW.Ag g2 M;have M8:=EM g2 gM;walk_at "";refine (CY (Ah.of h1) rfl ⟨lo,rfl,cS _,λp hp=>?_⟩);have e0:=AH.new hp (.lst []);refine⟨_,rfl,r,_,0,_,rfl,rfl,Ah.of (e0 _ _ h1),rfl,_,rfl,?_⟩;refine⟨g,_,rfl,g2,g9,by lia,λ_=>?_,λz=>qG z (by rw[bM];lia)⟩;rw[bM];refine⟨_,rfl,by lia,by lia,?_⟩;refine BP (n:=(g^M).toNat) (λi σ H1=>∃x5 x6,σ=[some (.ref r),some (.int low),some (.int ((M:Nat):Int)),some (.int (lo-low)),some (.ref p),x5,x6]/\AH H H1/\H1 p=some (.lst (((List.range i).map λn:Nat=>g6.getD (Ao g (Ho (Ai g (n:Int) M) (lo-low) m)).toNat 0).map V.int))) ⟨none,none,rfl,e0,AE⟩ ?_ ?_
 ·refine D9 ?_;intro _ _ i _ hGo σ H1 hi hRq;rcases hRq with⟨x5,x6,rfl,e,hp1⟩;refine hGo _ _ ?_;walk_at "";refine (CY (Ah.of (e _ _ h1)) rfl ⟨_,g,_,rfl,g2,g9,by lia,by lia,λz=>qG z (by rw[bM];lia),λ_ _ pw H2 hN2=>?_⟩);rw[bM,b7]at hN2;have e2:=e.trans hN2.1;have hp2:=hN2.1 _ _ hp1;refine⟨.inl ⟨_,Ae.of hp2⟩,?_⟩;refine⟨_,rfl,r,g,lo,g6,m,rfl,g2,g9,ok.v.same e2,hl,_,rfl,by lia,by lia,λD hD=>?_⟩;rw[bM];have hw2:H2 pw=some (.lst ((Ai g (i:Int) M).map V.int)):=hN2.2.2;refine Bu (n:=m) (λj gt Hx=>gt=((List.range j).map λk:Nat=>sn (Ai g (i:Int) M) (lo-low+(k:Int))).map V.int/\Hx=Ad H2 D (.lst gt)) ⟨rfl,rfl⟩ ?_ ?_
  ·refine EW ?_;rintro j _ hGo gt Hx hj ⟨rfl,rfl⟩;refine hGo _ _ ?_;walk_at "";rw[b7];refine⟨pw,_,_,rfl,Ae.of (AH.new hD _ _ _ hw2),AE,?_,?_,by rw[Db]⟩
   ·rw[bG,bG,bn];exact AY 0#1
   ·rw[Ay,bS];rfl
  ·rintro gt Hx ⟨rfl,rfl⟩;have en:=AH.new hD (.lst ((Ho (Ai g (i:Int) M) (lo-low) m).map V.int));have bb:=Nt g2 (By g2 (i:Int) M) (lo-low) m;have bl:=HI bb;rw[C8]at bl;refine⟨r,D,g,lo,g6,m,(Ho (Ai g (i:Int) M) (lo-low) m).map V.int,rfl,g2,g9,(ok.v.same e2).same en,hl,Ae.of AE,FE,?_⟩;rw[bl];intro ms hms H4 e4;have:=Eo hms;subst this;have e24:=en.trans e4;refine⟨_,e24 _ _ hp2,?_,(e2.trans e24).into hp,?_⟩
   ·rw[bG,bG,bn];exact AY 0#1
   ·rw[AE,Ay,bS];rfl
 ·intro σ H1 hRq;rcases hRq with⟨x5,x6,rfl,e,hp1⟩;walk_at "";refine (CY (Ah.of (e _ _ h1)) rfl ?_);exact Fk (E:=E0) (g6:=Cy g lo g6 m low M) g2 g9 M1 (BZ g2 _ _ _ _ _) gM (Ik g2 _ ok.tb _ _ _) (.inl hp1) λr' H' e' hR=>q r' H' (e.trans e') (ok.bw M1 gM hR)
theorem Vf:AJ ["one","found"] ["one"] (AG W1):=CD
theorem Y5(T:CC K mg t)(G_46:Ak P w K mg base 3 t.f_46 ["one"] (EK))(G_37:Ak P w K mg base 6 t.f_37 ["one","low","many"] (Hs)):Ak P w K mg base 7 t.f_62 ["one"] (D0):=by
 refine Al T.d_62 Vf λvs H Q E h=>?_;rcases h with⟨r,g,lo,g6,m,rfl,ok,q⟩;refine⟨rfl,λgu A outer s hr=>?_⟩
 refine⟨_,(AB (AN 1 Vf (AL hr G_46 T.m_46 (AA (pv 0) AC)))
  (AB (A3 (AQ Bk (Ap (NF K) rfl T.z_len cR (AA (pv 1) AC)) AD (AR _)) (AF (AO (AL hr G_37 T.m_37 (AA (pv 0) (Ac (Ac AC)))))) AX)
  (AF (AO (AL hr G_37 T.m_37 (AA (pv 0) (AA (AM (DE K) (pv 1) AD 1#1) (AA (AI Ab (AI BI (AM (DE K) (pv 1) (Lu IM AD) 1#1) (AM (DE K) (pv 1) AD 1#1)) AD) AC)))))))),?_⟩
 have g2:=ok.g2;have g9:=ok.g9;have m1:=ok.m1;have m8:=ok.m8;have sz:=ok.sz;walk_at "";refine⟨r,g,lo,g6,m,rfl,g2,g9,ok.v,ok.len,m1,m8,sz,λp H1 hN1=>?_⟩;have hcl:((Bo g lo g6 m).map V.int).length=(Bo g lo g6 m).length:=bG ..;walk_at "";refine⟨_,.inl (Ae.of hN1.2.2),?_⟩;rw[hcl]
 by_cases hc:Bo g lo g6 m=[]
 ·rw[qF (by rw[hc];rfl)];have g1:g^1=g:=by rw[cB,cF,dR]
  exact⟨r,g,lo,g6,m,0,1,rfl,ok.same hN1.1,bL _,by lia,λr' H' e' ok'=>q 0 1 (MQ hc) r' H' (hN1.1.trans e') ok'⟩
 ·rcases KP hc with⟨M,hM,hMm,hW⟩;have hp0:0<(Bo g lo g6 m).length:=fh.mpr hc;rw[qE 0#1];have gM:=Bx g2 hMm;refine (DZ (Ae.of hN1.2.2) (B6 0#8 (by show 0<_;lia)) (DZ (Ae.of hN1.2.2) (QU hp0) (DZ (Ae.of hN1.2.2) (B6 0#8 (by show 0<_;lia)) ⟨_,rfl,_,rfl,?_⟩)));refine⟨r,g,lo,g6,m,(Bo g lo g6 m).getD 0 0,M,?_,ok.same hN1.1,hW.one,by lia,λr' H' e' ok'=>q _ M hW r' H' (hN1.1.trans e') ok'⟩;rw[hM];rfl
theorem Vg:AJ ["one","low","high","place"] ["one","low","high"] (AG W2):=CD
theorem Y6(T:CC K mg t)(G_46:Ak P w K mg base 3 t.f_46 ["one"] (EK))(G_37:Ak P w K mg base 6 t.f_37 ["one","low","many"] (Hs))(G_7:Ak P w K mg base 1 t.f_7 ["signs","many"] (Ga)):Ak P w K mg base 7 t.f_53 ["one","low","high"] (Ge t.c_42 t.c_49):=by
 refine PM T.d_53 Vg λvs H Q E h=>?_;rcases h with⟨r,g,lo,g6,m,low,high,rfl,ok,hout,hwide,hok⟩;refine⟨rfl,λgu A outer s hr=>?_⟩
 refine⟨_,(AB (A3 (AQ EY (pv 1) (pv 2) (AR _)) (AF (DG rfl T.x_42 rfl T.m_42 B5 (AA FV AC))) AX)
  (AB (A9 PassesOwn.leaving rfl (Q6 K (AL hr G_46 T.m_46 (AA (pv 0) AC))) (BF 3 Vg) (AF (A3 (PW.pt (Fp (AQ Du (pv 3) (pv 1) (AR _)) (Ej (AQ EY (pv 3) (pv 2) (AR _))))) (AF (DG rfl T.x_42 rfl T.m_42 B5 (AA FV AC))) AX)))
  (AB (A3 (AQ EY (AL hr G_7 T.m_7 (AA 0#2 (AA (AI Ab (AI BI (pv 2) (pv 1)) AD) AC))) (DB rfl T.g_LONGEST_TABLE) (AR _)) (AF (DG rfl T.x_49 rfl T.m_49 B5 (AA FV AC))) AX)
  (AF (AO (AL hr G_37 T.m_37 (AA (pv 0) (AA (pv 1) (AA (AI Ab (AI BI (pv 2) (pv 1)) AD) AC))))))))),?_⟩
 refine Au.el ok.v λtb h1 h2=>?_;have g2:=ok.g2;have g9:=ok.g9;have m1:=ok.m1;have m8:=ok.m8;walk_at ""
 by_cases hlh:high<low
 ·rw[qF hlh];exact⟨by decide,hout (.inl hlh) _ (AH.refl _)⟩
 rw[qE hlh];refine⟨_,rfl,r,g,lo,g6,m,rfl,g2,g9,ok.v,ok.len,m1,m8,ok.sz,λp H1 hN1=>?_⟩;refine⟨p,rfl,⟨_,Ae.of hN1.2.2⟩,?_⟩;refine CZ (xs:=(Bo g lo g6 m).map V.int) (λi σ H2=>(∃x3,σ=[some (.ref r),some (.int low),some (.int high),x3])/\H2=H1/\∀z∈(Bo g lo g6 m).take i,low<=z/\z<=high) ⟨⟨none,rfl⟩,rfl,λz hz=>qG hz 1#4⟩ (λi σ H2 _ z=>by rw[z.2.1];exact Ae.of hN1.2.2) ?_ ?_
 ·refine NG ?_;intro _ _ i x _ hGo σ H2 hx hRq;rcases hRq with⟨⟨x3,rfl⟩,rfl,hall⟩;refine hGo _ _ ?_;obtain⟨n,hn,rfl⟩:=Ch hx;have nm:=bT hn;walk_at ""
  by_cases c1:n<low
  ·rw[qF c1];exact⟨by decide,hout (.inr ⟨n,nm,.inl c1⟩) _ hN1.1⟩
  rw[qE c1]
  by_cases c2:high<n
  ·rw[qF c2];exact⟨by decide,hout (.inr ⟨n,nm,.inr c2⟩) _ hN1.1⟩
  rw[qE c2];refine⟨⟨_,rfl⟩,λz hz=>?_⟩;rw[dg,hn]at hz;rcases bQ.mp hz with y|y
  ·exact hall z y
  ·have:z=n:=by simpa using y
   lia
 ·intro σ H2 hRq;rcases hRq with⟨⟨x3,rfl⟩,rfl,hall⟩;rw[bG,cT]at hall
  have nout:¬UK g lo g6 m low high:=by
   rintro (z|⟨z,hz,y⟩)
   ·exact hlh z
   ·have:=hall z hz;lia
  walk_at "";refine (CY (Ah.of (hN1.1 _ _ h1)) rfl ⟨g,_,rfl,g2,g9,by lia,λhle=>?_,λhgt rr hrr=>?_⟩)
  ·refine⟨_,rfl,?_⟩;rw[qE 0#1];exact⟨r,g,lo,g6,m,low,(high-low+1).toNat,by rw[show (((high-low+1).toNat:Nat):Int)=high-low+1 by lia],ok.same hN1.1,by lia,hle,λr' H' e' ok'=>hok nout hle r' H' (hN1.1.trans e') ok'⟩
  ·refine⟨_,rfl,?_⟩;rw[qF hrr];exact⟨by decide,hwide nout hgt _ hN1.1⟩
theorem Vh:AJ ["one","least"] ["one"] (AG W3):=CD
theorem Y7(T:CC K mg t)(G_62:Ak P w K mg base 7 t.f_62 ["one"] (D0))(G_63:Ak P w K mg base 2 t.f_63 ["one"] (Bm))(G_53:Ak P w K mg base 7 t.f_53 ["one","low","high"] (Ge t.c_42 t.c_49))(G_68:Ak P w K mg base 1 t.f_68 ["one"] (Cq)):Ak P w K mg base 8 t.f_67 ["one"] (F8 t.c_49):=by
 refine PM T.d_67 Vh λvs H Q E h=>?_;rcases h with⟨r,g,lo,g6,m,lf,tf,mf,rfl,ok,fw,hok,hex⟩;refine⟨rfl,λgu A outer s hr=>?_⟩
 refine⟨_,(AB (AN 1 Vh (AL hr G_62 T.m_62 (AA (pv 0) AC)))
  (AB (A3 (AQ Bk (AL hr G_63 T.m_63 (AA (pv 1) AC)) AD (AR _)) (AF (AO (Cr G_53 (hr.mono 0#8) rfl T.m_53 Dd (AA (pv 1) (AA (AM (B3 K) (pv 1) AD 1#1) (AA (AI Ab (AM (B3 K) (pv 1) AD 1#1) AD) AC)))))) AX)
  (AB (A3 (AQ EY (AL hr G_68 T.m_68 (AA (pv 1) AC)) (DB rfl T.g_MOST_NODES) (AR _)) (AF (DG rfl T.x_49 rfl T.m_49 B5 (AA FV AC))) AX)
  (AF (AO (pv 1)))))),?_⟩
 have g2:=ok.g2;have g9:=ok.g9;refine Am λN hN=>?_;walk_at "";refine⟨r,g,lo,g6,m,rfl,ok,λlow M hW r1 H1 e1 ok1=>hN _ _ ?_⟩;clear hN N;walk_at "";refine⟨r1,g,low,_,M,rfl,g2,g9,ok1.v,ok1.len,rfl,?_⟩;rcases id fw with⟨low',M',hW',elf,hc⟩;obtain⟨rfl,rfl⟩:=SA g2 ok.len hW hW';subst elf;refine Au.el ok1.v λtb h1 h2=>?_;rcases hc with⟨rfl,rfl,rfl⟩|⟨hM,rfl,rfl⟩
 ·rw[qF (show V.int ((1:Nat):Int)=V.int 1 from rfl)];have g1:g^(2-1)=g:=by show g^(0+1)=g;rw[cB,cF,dR]
  have e2:(lf+1-lf+1).toNat=2:=by lia
  refine (CY (Ah.of h1) rfl (CY (Ah.of h1) rfl ⟨lf,rfl,?_⟩));refine⟨r1,g,lf,_,1,lf,lf+1,rfl,ok1,λho=>?_,λ_ hw=>?_,λ_ _ r2 H2 f2 ok2=>?_⟩
  ·exfalso;rcases ho with z|⟨z,hz,y⟩
   ·lia
   ·unfold Bo at hz;obtain⟨j,hj,rfl⟩:=bg.mp hz;have:=bh.mp (cE.mp hj).1;lia
  ·exfalso;rw[e2]at hw;have:g^2<=9*9:=by rw[show (2:Nat)=(2-1)+1 from rfl,cB,g1];exact gJ g9 g9 0#1 0#1
   lia
  ·rw[e2]at ok2;exact hok 0#1 r2 H2 (e1.trans f2) ok2
 ·rw[qE (λz=>by have:=V.int.inj z;lia)];refine⟨r1,g,lf,_,mf,rfl,ok1,_,rfl,?_⟩;rw[(A8 g2 ok1.len ok1.m1).1]
  by_cases h9:9<g^(mf-1)
  ·rw[qF h9];exact⟨by decide,hex h9 _ e1⟩
  ·rw[qE h9];exact hok 0#1 r1 H1 e1 ok1
theorem Pr:AJ ["nexts","ahead","here","come"] ["nexts"] (AG W4):=CD
theorem Y8(T:CC K mg t) :Ak P w K mg base 1 t.f_13 ["nexts"] (LY P w K):=by
 refine Al T.d_13 Pr λvs H Q E h=>?_;rcases h with⟨d,u,ls,A0,F,rfl,dr,gr,nd,cl,lA,lF,q⟩;refine⟨rfl,λgu A outer s hr=>?_⟩
 refine⟨_,(AB (IL (i:=1) Pr.nd rfl (Or.inl rfl) (JL (P:=P) (w:=w) (K:=K) rfl rfl rfl))
  (AB (A9 PassesOwn.never rfl (FK (P:=P) (w:=w) (K:=K) rfl rfl rfl (pv 0)) (BF 2 Pr) (AB (A4 (SV (P:=P) (w:=w) (K:=K) rfl rfl rfl dL fF (HN (P:=P) (w:=w) (K:=K) rfl rfl rfl (DF hr)) (pv 1) (AA (pv 2) (AA (BC AC) AC))))
  (AF (A9 PassesOwn.never rfl (Q6 K (DQ (P:=P) (w:=w) (K:=K) rfl rfl rfl (DF hr) (pv 0) (pv 2) 1#1)) (BF 3 Pr) (AF (A4 (Q0 K (SV (P:=P) (w:=w) (K:=K) rfl rfl rfl dL fF (HN (P:=P) (w:=w) (K:=K) rfl rfl rfl (DF hr)) (pv 1) (AA (pv 3) (AA (BC AC) AC))) (AA (pv 2) AC))))))))
  (AF (AO (pv 1))))),?_⟩
 refine Am λN hN=>?_;walk_at "";intro d2 u2 hd2 dw;refine hN _ _ ?_;clear hN N;have e0:=AH.new hd2 u2;generalize Ad H d2 u2=H0 at dw e0⊢;refine CK (λσ HX=>(∃x2 x3,σ=[some (.ref d),some (.ref d2),x2,x3])/\∃u' ls2 A2 B,AH (Ad H d u') HX/\DR P w K HX d u' (An A0 (ls.map V.ref))/\(∀l∈ls2,H l=none)/\DW P w K HX d2 (An A2 (ls2.map V.ref))/\EB K HX ls2 A2 B/\Pb A0 F A2 B) (λN hN=>?_) ?_
 ·refine⟨_,rfl,d,u,_,rfl,dr.same e0,λu' dr'=>?_⟩;have nd2:d≠d2:=λe=>by obtain⟨φ,h1,_⟩:=dr.isX;rw[e,hd2]at h1;cases h1
  have eF:=AH.both e0 d u';have gF:=(dr.same e0).grl (gr.same e0) u'
  have aF:VR P w K H (Ad H0 d u') d2 [] (λ_=>[]):=by rcases dw with⟨bs,h1,h3,h4⟩;have hb:bs=[]:=List.map_eq_nil_iff.mp h3;subst hb;exact⟨[],λl hl=>qG hl List.not_mem_nil,⟨[],by rw[AK (Ne.symm nd2)];exact h1,rfl,λp hp=>qG hp List.not_mem_nil⟩,⟨rfl,List.nodup_nil,λi a l z=>by simp at z⟩⟩
  generalize Ad H0 d u'=HF at dr' eF gF aF⊢;refine Qh (P:=P) (w:=w) (K:=K) (d:=d) (u:=u') (kvs:=An A0 (ls.map V.ref)) (λi σ HX=>(∃x2 x3,σ=[some (.ref d),some (.ref d2),x2,x3])/\AH (Ad H d u') HX/\DR P w K HX d u' (An A0 (ls.map V.ref))/\EB K HX ls A0 F/\∃A2 B,VR P w K H HX d2 A2 B/\Q5 A0 F i (λ_ _=>False) (i*70000) A2 B) ⟨⟨none,none,rfl⟩,eF,dr',gF,[],λ_=>[],aF,⟨List.nodup_nil,λp hp=>qG hp List.not_mem_nil,λp hp=>qG hp 1#4,λ_ _=>rfl,λp q=>by simp,λ_=>Nat.zero_le _⟩⟩ (λi σ HX _ z=>z.2.2.1) ?_ ?_
  ·intro i b k v σ HX hk sb hRq;rcases hRq with⟨⟨x2,x3,rfl⟩,eX,dX,gX,A2,B,aX,tX⟩;rcases LZ hk with⟨a,l,ha,hl,rfl,rfl⟩;dsimp only[Fq];have aA:a∈A0:=bT ha;have lA2:∀{A2:List (qX)} {B:qX->List (qX)} {D:(qX)->(qX)->Prop} {n:Nat},Q5 A0 F i D n A2 B->A2.length<=100:=λt=>cK (t.nd.length_le_of_subset t.sub) lA
   have Hn:∀{HX:Hp} {l:qR},AH (Ad H d u') HX->HX l=none->H l=none:=λ{HX l} e z=>by have y:=e.free z;rw[AK λx=>by rw[x,AE]at y;cases y]at y;exact y
   have hd2':Ad H d u' d2=none:=by rw[AK (Ne.symm nd2)];exact hd2
   refine CK (λσ HY=>(∃x3,σ=[some (.ref d),some (.ref d2),some (.ref b),x3])/\AH (Ad H d u') HY/\DR P w K HY d u' (An A0 (ls.map V.ref))/\EB K HY ls A0 F/\Ah K HY b (Sd a)/\∃A2 B,VR P w K H HY d2 A2 B/\Q5 A0 F i (λ_ _=>False) (i*70000) A2 B/\a∈A2) (λN2 hN2=>?_) ?_
   ·rcases aX with⟨ls2,ln,wX,g2⟩;obtain⟨v2,r2⟩:=wX.r;have lr:(An A2 (ls2.map V.ref)).length<=100:=by rw[B9 (by rw[bG];exact g2.n)];exact lA2 tX
    refine⟨_,rfl,⟨d2,v2,_,rfl,r2⟩,_,rfl,by decide,λl' hl'=>?_⟩;have f1:=AH.new hl' (.lst []);have h0:=Hn eX hl';have nl:=g2.out hl';have lY:Ad HX l' (.lst []) l'=some (.lst []):=AE;have eY:=eX.trans f1;have dY:=dX.same f1;have gY:=gX.same f1;have wY:=wX.same f1;have g2Y:=g2.same f1;have sY:=Ah.same' f1 sb;generalize Ad HX l' (.lst [])=HY at lY eY dY gY wY g2Y sY⊢;refine⟨d2,b,_,Bb a,.ref l',rfl,rfl,wY,sY,AY 0#1,λz hz=>hN2 _ _ ⟨⟨_,rfl⟩,eY,dY,gY,sY,A2,B,⟨ls2,ln,wY,g2Y⟩,tX,?_⟩,λhz u3 w3=>hN2 _ _ ?_⟩
    ·by_cases m:a∈A2
     ·exact m
     ·rw[D8 m]at hz;cases hz
    ·have m:a∉A2:=λm=>by
      obtain⟨j,hj⟩:=cQ.mp m;have jl:=(bJ.mp hj).1;rw[CA tX.nd hj (v:=.ref (ls2[j]'(by rw[g2.n];exact jl))) (by rw[bO,bI (by rw[g2.n];exact jl)];rfl)]at hz;cases hz
     exact⟨⟨_,rfl⟩,eY.into hd2',dY.updX wY nd2 u3,wY.grl gY u3,(by obtain⟨_,h1,_⟩:=wY;exact sY.upd' h1),A2++[a],B,VR.put ln wY g2Y lY nl h0 m (tX.no a m) w3,tX.key m aA,bQ.mpr (.inr (bV.mpr rfl))⟩
   clear tX aX eX dX gX sb;intro _ hGo σ HY hRq;rcases hRq with⟨⟨x3,rfl⟩,eX,dX,gX,sb,A2,B,aX,tX,mA⟩;refine hGo _ _ ?_;obtain⟨ps,hps,pp⟩:=gX.e i a l ha hl;have pn:=Paired.length pp;have fa:=lF a aA;have i100:i<=100:=by have:=(bJ.mp ha).1;lia
   have nls:∀{x:qR},H x=none->x∉ls:=λhx=>gr.out hx
   refine⟨_,rfl,_,rfl,d,b,u',_,Bb a,.ref l,rfl,rfl,dX,sb,CA nd ha (by rw[bO,hl];rfl),l,rfl,⟨_,Ae.of hps⟩,?_⟩;refine CZ (xs:=ps.map V.ref) (λj σ HZ=>(∃x3,σ=[some (.ref d),some (.ref d2),some (.ref b),x3])/\AH (Ad H d u') HZ/\HZ l=some (.lst (ps.map V.ref))/\Cu K HZ ps (F a)/\DR P w K HZ d u' (An A0 (ls.map V.ref))/\EB K HZ ls A0 F/\Ah K HZ b (Sd a)/\∃A2 B,VR P w K H HZ d2 A2 B/\Q5 A0 F i (λp q=>q=a/\p∈(F a).take j) (i*70000+j) A2 B/\a∈A2) ⟨⟨_,rfl⟩,eX,hps,pp,dX,gX,sb,A2,B,aX,⟨tX.nd,tX.sub,tX.got,tX.no,λp q=>by rw[tX.on];simp,λp=>Nat.le_trans (tX.len p) (Nat.le_add_right ..)⟩,mA⟩ (λj σ HZ _ z=>Ae.of z.2.2.1) ?_ ?_
   ·clear tX aX eX dX gX sb mA hps pp;intro j x σ HZ hx hRq;rcases hRq with⟨⟨x3,rfl⟩,eX,hps,pp,dX,gX,sb,A2,B,⟨ls2,ln,wX,g2⟩,tX,mA⟩;obtain⟨c,hci,rfl⟩:∃c,ps[j]?=some c/\x=V.ref c:=by rw[bO]at hx;obtain⟨c,h1,h2⟩:=cM.mp hx;exact⟨c,h1,h2.symm⟩
    obtain⟨p0,hp0,sc⟩:=Bv pp hci;have p0A:p0∈A0:=cl a aA p0 (bT hp0);have j7:j<70000:=by have:=(bJ.mp hp0).1;lia
    have i7:=fV 70000 i100;obtain⟨v2,r2⟩:=wX.r
    have lr:(An A2 (ls2.map V.ref)).length<=100:=by rw[B9 (by rw[bG];exact g2.n)];exact lA2 tX
    have app:∀(HQ:Hp) (A2:List (qX)) (ls2:List qR) (j2:Nat) (l2:qR),AH (Ad H d u') HQ->HQ l=some (.lst (ps.map V.ref))->Cu K HQ ps (F a)->DR P w K HQ d u' (An A0 (ls.map V.ref))->EB K HQ ls A0 F->Ah K HQ b (Sd a)->(∀l∈ls2,H l=none)->DW P w K HQ d2 (An A2 (ls2.map V.ref))->EB K HQ ls2 A2 B->Q5 A0 F i (λp q=>q=a/\p∈(F a).take j) (i*70000+j) A2 B->a∈A2->A2[j2]?=some p0->ls2[j2]?=some l2 ->
      ∃qs:List qR,HQ l2=some (.lst (qs.map V.ref))/\(qs.map V.ref).length<sizeLine/\∃HW,HW=Ad HQ l2 (.lst (qs.map V.ref++[V.ref b]))/\AH (Ad H d u') HW/\HW l=some (.lst (ps.map V.ref))/\Cu K HW ps (F a)/\DR P w K HW d u' (An A0 (ls.map V.ref))/\EB K HW ls A0 F/\Ah K HW b (Sd a)/\∃A2 B,VR P w K H HW d2 A2 B/\Q5 A0 F i (λp q=>q=a/\p∈(F a).take (j+1)) (i*70000+(j+1)) A2 B/\a∈A2:=by
     intro HQ A2 ls2 j2 l2 e h1 h2 h3 h4 h5 ln w2 g2 t m hj2 hl2;obtain⟨qs,hq,hqp⟩:=g2.e j2 p0 l2 hj2 hl2;have ml:=bT hl2;have h0:=ln l2 ml;have nl:=nls h0;have ne:l≠l2:=λz=>nl (by rw[<-z];exact bT hl)
     have lq:=Paired.length hqp;have lb:=t.len p0;have tp:=t.push hp0 (bT hj2);rw[fT]at tp;refine⟨qs,hq,by rw[bG,sizeLine_eq];lia,_,rfl,?_⟩;rw[show qs.map V.ref++[V.ref b]=(qs++[b]).map V.ref by rw[bS];rfl];refine⟨e.into (by rw[AK λz=>by obtain⟨φ,y,_⟩:=dr.isX;rw[<-z,h0]at y;cases y];exact h0),by rw[AK ne];exact h1,Cu.upd hq h2,h3.updL hq _,h4.keep hq nl _,Ah.updL hq h5,A2,_,⟨ls2,ln,w2.updL hq _,g2.push t.nd hj2 hl2 hq hqp h5 λ_=>rfl⟩,tp,m⟩
    refine⟨_,rfl,⟨d2,v2,_,rfl,r2⟩,_,rfl,by decide,λl' hl'=>?_⟩;have f1:=AH.new hl' (.lst []);have h0:=Hn eX hl';have nl:=g2.out hl';have lY:Ad HZ l' (.lst []) l'=some (.lst []):=AE;have eY:=eX.trans f1;have dY:=dX.same f1;have gY:=gX.same f1;have wY:=wX.same f1;have g2Y:=g2.same f1;have sY:=Ah.same' f1 sb;have cY:=Ah.same' f1 sc;have hY:=f1 _ _ hps;have pY:=Cu.same f1 pp;generalize Ad HZ l' (.lst [])=HY at lY eY dY gY wY g2Y sY cY hY pY⊢;refine⟨d2,c,_,Bb p0,.ref l',rfl,rfl,wY,cY,AY 0#1,λz hz=>?_,λhz u3 w3=>?_⟩
    ·have m:p0∈A2:=by
      by_cases m:p0∈A2
      ·exact m
      ·rw[D8 m]at hz;cases hz
     obtain⟨j2,hj2⟩:=cQ.mp m;have jl:=(bJ.mp hj2).1;obtain⟨l2,hl2⟩:∃l2,ls2[j2]?=some l2:=⟨ls2[j2]'(by rw[g2.n];exact jl),bI _⟩;rw[CA tX.nd hj2 (v:=.ref l2) (by rw[bO,hl2];rfl)]at hz;cases hz;rcases app HY A2 ls2 j2 l2 eY hY pY dY gY sY ln wY g2Y tX mA hj2 hl2 with⟨qs,h1,h2,HW,hW,h3⟩;refine⟨.inl ⟨rfl,_,Ae.of h1⟩,_,rfl,l2,_,_,rfl,rfl,h1,h2,?_⟩;rw[<-hW];exact⟨⟨_,rfl⟩,h3⟩
    ·have m:p0∉A2:=λm=>by
      obtain⟨j2,hj2⟩:=cQ.mp m;have jl:=(bJ.mp hj2).1;rw[CA tX.nd hj2 (v:=.ref (ls2[j2]'(by rw[g2.n];exact jl))) (by rw[bO,bI (by rw[g2.n];exact jl)];rfl)]at hz;cases hz
     obtain⟨ln3,w3',g3⟩:=Si ln wY g2Y lY nl h0 m (tX.no p0 m) w3;have hj2:(A2++[p0])[A2.length]?=some p0:=by rw[bt (bL _),dJ];rfl
     have hl2:(ls2++[l'])[A2.length]?=some l':=by rw[<-g2.n,bt (bL _),dJ];rfl
     have wx:∃φ,HY d2=some (.ext φ):=by obtain⟨_,y,_⟩:=wY;exact⟨_,y⟩
     obtain⟨φ,hφ⟩:=wx;rcases app (Ad HY d2 u3) (A2++[p0]) (ls2++[l']) A2.length l' (eY.into hd2') (wY.lst hY u3) (wY.prv pY u3) (dY.updX wY nd2 u3) (wY.grl gY u3) (sY.upd' hφ) ln3 w3' g3 (tX.key m p0A) (bQ.mpr (.inl mA)) hj2 hl2 with⟨qs,h1,h2,HW,hW,h3⟩;refine⟨.inl ⟨rfl,_,Ae.of h1⟩,_,rfl,l',_,_,rfl,rfl,h1,h2,?_⟩;rw[<-hW];exact⟨⟨_,rfl⟩,h3⟩
   ·intro σ HZ hRq;rcases hRq with⟨⟨x3,rfl⟩,eX,hps,pp,dX,gX,sb,A2,B,aX,tX,mA⟩;rw[bG,pn]at tX;refine⟨⟨_,_,rfl⟩,eX,dX,gX,A2,B,aX,tX.nd,tX.sub,λp hp=>?_,tX.no,λp q=>?_,λp=>cK (tX.len p) 0#1⟩
    ·rw[cp,ha]at hp;rcases bQ.mp hp with z|z
     ·exact tX.got p z
     ·rw[bV.mp z];exact mA
    ·rw[tX.on,cT,cp,ha,show (some a).toList=[a] from rfl,bQ,bV,or_false];constructor
     ·rintro (⟨h1,h2⟩|⟨h1,h2⟩)
      ·exact⟨.inl h1,h2⟩
      ·exact⟨.inr h1,by rw[h1];exact h2⟩
     ·rintro⟨h1|h1,h2⟩
      ·exact .inl ⟨h1,h2⟩
      ·exact .inr ⟨h1,by rw[h1]at h2;exact h2⟩
  ·intro σ HX hRq;rcases hRq with⟨⟨x2,x3,rfl⟩,eX,dX,gX,A2,B,⟨ls2,ln,wX,gX2⟩,tX⟩;rw[B9 (by rw[bG];exact gX.n)]at tX;exact hN _ _ ⟨⟨_,_,rfl⟩,u',ls2,A2,B,eX,dX,ln,wX,gX2,⟨tX.nd,λp=>⟨tX.sub p,λh=>tX.got p (by rw[List.take_length];exact h)⟩,λp q=>by rw[tX.on,List.take_length];simp,λp=>Nat.le_trans (tX.len p) (Nat.mul_le_mul_right 70000 lA)⟩⟩
 intro _ hGo σ HX hRq;rcases hRq with⟨⟨x2,x3,rfl⟩,u',ls2,A2,B,eX,dX,ln,wX,gX,tX⟩;refine hGo _ _ ?_;walk_at "";exact q u' HX d2 ls2 A2 B eX dX hd2 ln wX gX tX
theorem Jo:AJ ["ahead","most","free","steps","here"] ["ahead"] (AG W5):=CD
theorem Y9(T:CC K mg t) :Ak P w K mg base 1 t.f_20 ["ahead"] (La P w K):=by
 refine Al T.d_20 Jo λvs H Q E h=>?_;rcases h with⟨d,u,ls,A0,B,rfl,dr,gr,nd,cl,lA,lB,q⟩;refine⟨rfl,λgu A outer s hr=>?_⟩
 refine⟨_,(AB (IL (i:=1) Jo.nd rfl (Or.inr rfl) (JL (P:=P) (w:=w) (K:=K) rfl rfl rfl))
  (AB (EH (iy:=2) (fv:=[(0,"ahead")]) (cl:=[("ahead",_)]) rfl Jo.nd rfl (Or.inl rfl) (FK (P:=P) (w:=w) (K:=K) rfl rfl rfl (pv 0)) 0#3 0#3 (by decide +kernel) rfl (by decide +kernel) rfl ⟨0#3,trivial⟩ 0#3 ⟨⟨rfl,rfl,0#3,rfl⟩,trivial⟩ 0#8 (λ_ _ _ _=>(GW (AQ Bk (Ap (N1 (K:=K) rfl) rfl T.z_len cR (AA (by exact DQ (P:=P) (w:=w) (K:=K) rfl rfl rfl (DF hr) (pv 1) (pv 0) 1#1) AC)) AD (AR _)))) (λ_ _ _ _=>(pv 0)))
  (AB (AN 3 Jo AD)
  (AB (Em PassesOwn.never (AQ EY (Ap (NF K) rfl T.z_len cR (AA (pv 2) AC)) AD (AR _)) (AB (A9 PassesOwn.never rfl (Q6 K (pv 2)) (BF 4 Jo) (AF (Mp (P:=P) (w:=w) (K:=K) rfl rfl rfl (DF hr) (pv 1) (pv 4) (pv 3) rfl)))
  (AB (AN 3 Jo (AI Ab (pv 3) AD))
  (AF (EH (iy:=2) (fv:=[(1,"most"),(0,"ahead")]) (cl:=[("most",_),("ahead",_)]) rfl Jo.nd rfl (Or.inl rfl) (FK (P:=P) (w:=w) (K:=K) rfl rfl rfl (pv 0)) 0#3 0#3 (by decide +kernel) rfl (by decide +kernel) rfl ⟨0#3,⟨0#3,trivial⟩⟩ 0#3 ⟨⟨rfl,rfl,0#3,rfl⟩,⟨⟨rfl,rfl,0#3,rfl⟩,trivial⟩⟩ 0#8 (λ_ _ _ _=>(GW (PW.pt (IJ (Vq (OI (P:=P) (w:=w) (K:=K) rfl rfl rfl (DF hr) (pv 0) (pv 1))) (Fo (Dp (Ap (ON (K:=K) rfl rfl) rfl T.z_all PyProof.Rows.boot_all (AA (F7 [(1,"most")] [("most",_)] (Sk (K:=K) rfl (by exact DQ (P:=P) (w:=w) (K:=K) rfl rfl rfl (DF hr) (pv 2) (pv 0) 1#1)) (λ_ _ _ _=>DM) (λ_ _ _ _=>(Vp (UX (P:=P) (w:=w) (K:=K) rfl rfl rfl (DF hr) (pv 0) (pv 1))))) AC)))))))) (λ_ _ _ _=>(pv 0)))))))
  (AF (AO (pv 1))))))),?_⟩
 refine Am λN hN=>?_;walk_at "";intro d2 u2 hd2 dw;refine hN _ _ ?_;clear hN N
 have nd2:d≠d2:=λe=>by obtain⟨φ,h1,_⟩:=dr.isX;rw[e,hd2]at h1;cases h1
 have e0:=AH.new hd2 u2;generalize Ad H d2 u2=H0 at dw e0⊢
 have Hn:∀{HX:Hp} {l:qR} {u':HO},AH (Ad H d u') HX->HX l=none->H l=none:=λ{HX l u'} e z=>by have y:=e.free z;rw[AK λx=>by rw[x,AE]at y;cases y]at y;exact y
 refine CK (λσ HX=>∃D,σ=[some (.ref d),some (.ref d2),some (.ref D),none,none]/\Zm P w K H d d2 ls A0 B D [] (λ_=>0) (A0.filter λp=>decide (B p=[])) HX) (λN hN=>?_) ?_
 ·refine⟨_,rfl,d,u,_,rfl,dr.same e0,λu' dr' D hD=>?_⟩;have eF:=AH.both e0 d u';have gF:=(dr.same e0).grl (gr.same e0) u';have wF:DW P w K (Ad H0 d u') d2 (An [] []):=by rcases dw with⟨bs,h1,h3,h4⟩;have hb:bs=[]:=List.map_eq_nil_iff.mp h3;subst hb;exact⟨[],by rw[AK (Ne.symm nd2)];exact h1,rfl,λp hp=>qG hp cG⟩
  generalize Ad H0 d u'=HF at dr' eF gF wF hD⊢;refine Fh (P:=P) (w:=w) (K:=K) (λi gt Hx=>∃ps:List qR,gt=ps.map V.ref/\ps.length<=i/\AH HF Hx/\Hx D=some (.lst gt)/\Cu K Hx ps ((A0.take i).filter λp=>decide (B p=[]))) ⟨[],rfl,bL _,AH.new hD _,AE,.nil⟩ (λi gt Hx _ z=>by obtain⟨_,_,_,e,_⟩:=z;exact dr'.same e) ?_ ?_
  ·intro i b k v gt Hx hk sb hRq;rcases hRq with⟨ps,rfl,lp,ex,hDx,hp⟩;rcases LZ hk with⟨a,l,ha,hl,rfl,rfl⟩;have i100:i<=100:=by have:=(bJ.mp ha).1;lia
   obtain⟨qs,hq,pq⟩:=(gF.same ex).e i a l ha hl;have lq:=Paired.length pq;refine⟨_,rfl,_,rfl,d,b,u',_,Bb a,.ref l,rfl,rfl,dr'.same ex,sb,CA nd ha (by rw[bO,hl];rfl),l,_,rfl,.inl (Ae.of hq),rfl,_,rfl,?_⟩;dsimp only;rw[Kb ha,bG,lq]
   by_cases z:B a=[]
   ·rw[qF (by rw[z];rfl),qF (qH z)];refine⟨_,rfl,hDx,by rw[bG];exact AY 0#1,ps++[b],by rw[bS];rfl,by rw[bN,cP];lia,ex.into hD,AE,?_⟩;exact Paired.app (Cu.upd hDx hp) (.cons (Ah.updL hDx sb) .nil)
   ·have nz:(B a).length≠0:=λy=>z (gB.mp y)
    rw[qE (λy=>nz (by have:=qN y;injection this with this;lia)),qE (λy=>z (qN y)),cA];exact⟨ps,rfl,by lia,ex,hDx,hp⟩
  ·intro gt H2 hRq;rcases hRq with⟨ps,rfl,lp,ex,hDx,hp⟩;rw[B9 (by rw[bG];exact gF.n),cT]at hp;exact hN _ _ ⟨D,rfl,u',ps,eF.trans ex,dr'.same ex,gF.same ex,Hn eF hD,hDx,hp,wF.same ex⟩
 rintro _ hGo σ HX ⟨D,rfl,mv⟩;refine hGo _ _ ?_;refine Am λN hN=>?_;refine hN _ _ ?_;clear hN N dw e0;refine CK (λσ HX=>∃D M f n x4,σ=[some (.ref d),some (.ref d2),some (.ref D),some (.int (n:Nat)),x4]/\Zm P w K H d d2 ls A0 B D M f [] HX/\Sl A0 B M f [] n) (λN hN=>?_) ?_
 ·refine⟨λm σ HX=>∃D M f FL n x4,m=101-n/\σ=[some (.ref d),some (.ref d2),some (.ref D),some (.int (n:Nat)),x4]/\Zm P w K H d d2 ls A0 B D M f FL HX/\Sl A0 B M f FL n,⟨_,D,[],_,_,0,none,rfl,rfl,mv,Sm nd _⟩,?_⟩;clear mv HX D;intro m σ HX hRq;rcases hRq with⟨D,M,f,FL,n,x4,rfl,rfl,⟨u',ps,eX,dX,gX,hD0,hD,pX,wX⟩,mp⟩;have lp:=Paired.length pX;refine⟨_,rfl,D,_,rfl,.inl (Ae.of hD),_,_,rfl,rfl,_,rfl,?_⟩;dsimp only;rw[bG,lp];have few:=mp.few;have nle:=mp.le
  by_cases z:FL=[]
  ·subst z;rw[qE (λy=>qG (qN y) 0#8)];exact hN _ _ ⟨D,M,f,n,x4,rfl,⟨u',ps,eX,dX,gX,hD0,hD,pX,wX⟩,mp⟩
  have fl:0<FL.length:=fh.mpr z;rw[qF (qH 0#1)];refine⟨λσ HX=>∃D M' f' FL' x4,σ=[some (.ref d),some (.ref d2),some (.ref D),some (.int ((n+1:Nat):Int)),x4]/\Zm P w K H d d2 ls A0 B D M' f' FL' HX/\Sl A0 B M' f' FL' (n+1),λσ' H' ⟨D,M',f',FL',x4,h1,h2,h3⟩=>⟨101-(n+1),by lia,D,M',f',FL',n+1,x4,rfl,h1,h2,h3⟩,?_⟩;have hd2':∀u',Ad H d u' d2=none:=λu'=>by rw[AK (Ne.symm nd2)];exact hd2
  refine Z4 (λσ HZ=>(∃x4,σ=[some (.ref d),some (.ref d2),some (.ref D),some (.int (n:Nat)),x4])/\AH (Ad H d u') HZ/\DR P w K HZ d u' (An A0 (ls.map V.ref))/\EB K HZ ls A0 B/\DW P w K HZ d2 (An (M++FL) ((M++FL).map λp=>V.int (WO M f n p:Int)))) (λN hN=>?_) ?_
  ·refine⟨_,rfl,D,rfl,⟨_,Ae.of hD⟩,?_⟩;refine CZ (xs:=ps.map V.ref) (λj σ HZ=>(∃x4,σ=[some (.ref d),some (.ref d2),some (.ref D),some (.int (n:Nat)),x4])/\AH (Ad H d u') HZ/\DR P w K HZ d u' (An A0 (ls.map V.ref))/\EB K HZ ls A0 B/\HZ D=some (.lst (ps.map V.ref))/\Cu K HZ ps FL/\DW P w K HZ d2 (An (M++FL.take j) ((M++FL.take j).map λp=>V.int (WO M f n p:Int)))) ⟨⟨_,rfl⟩,eX,dX,gX,hD,pX,?_⟩ (λj σ HZ _ z=>Ae.of z.2.2.2.2.1) ?_ ?_
   ·rw[List.take_zero,cA,bU (g:=λp=>V.int (f p:Int)) λp hp=>by rw[ER hp]];exact wX
   ·intro j x σ HZ hx hRq;rcases hRq with⟨⟨x4,rfl⟩,eZ,dZ,gZ,hDZ,pZ,wZ⟩;obtain⟨c,hci,rfl⟩:∃c,ps[j]?=some c/\x=V.ref c:=by rw[bO]at hx;obtain⟨c,h1,h2⟩:=cM.mp hx;exact⟨c,h1,h2.symm⟩
    obtain⟨p0,hp0,sc⟩:=Bv pZ hci;have pn:p0∉M:=((mp.on p0).mp (bT hp0)).2.1;have nin:p0∉M++FL.take j:=λy=>(bQ.mp y).elim pn (GF mp.ndF hp0)
    have lr:(An (M++FL.take j) ((M++FL.take j).map λp=>V.int (WO M f n p:Int))).length<=100:=by rw[B9 (by rw[bG]),bN,bq];lia
    refine⟨_,rfl,_,rfl,_,rfl,d2,c,_,Bb p0,rfl,rfl,wZ,sc,AY 0#1,λu3 w3=>⟨⟨_,rfl⟩,eZ.into (hd2' u'),dZ.updX wZ nd2 u3,wZ.grl gZ u3,wZ.lst hDZ u3,wZ.prv pZ u3,?_⟩⟩;rw[JO (by rw[bG]) nin]at w3;rw[cp,hp0,show (some p0).toList=[p0] from rfl,<-cN,bS (l₂:=[p0]),List.map_singleton,GG pn];exact w3
   ·intro σ HZ hRq;rcases hRq with⟨⟨x4,rfl⟩,eZ,dZ,gZ,hDZ,pZ,wZ⟩;rw[bG,lp,cT]at wZ;exact hN _ _ ⟨⟨_,rfl⟩,eZ,dZ,gZ,wZ⟩
  clear eX dX gX hD pX wX;have mq:=mp.step nd z;have lM2:(M++FL).length<=100:=by rw[bN];lia
  obtain⟨M2,hM2⟩:∃M2,M2=M++FL:=⟨_,rfl⟩;rw[<-hM2]at mq lM2⊢;generalize WO M f n=f2 at mq⊢;intro σ HZ hRq;rcases hRq with⟨⟨y4,rfl⟩,eZ,dZ,gZ,wZ⟩;refine Am λN hN=>⟨_,rfl,_,_,rfl,rfl,hN _ _ ?_⟩
  clear hN N;refine⟨_,rfl,d,u',_,rfl,dZ,λu2 dr2 D2 hD2=>?_⟩;have eG:=AH.both eZ d u2;rw[Db]at eG;have gG:=dZ.grl gZ u2
  have wG:DW P w K (Ad HZ d u2) d2 (An M2 (M2.map λp=>V.int (f2 p:Int))):=by rcases wZ with⟨bs,h1,h3,h4⟩;exact⟨bs,by rw[AK (Ne.symm nd2)];exact h1,h3,λp hp=>dZ.sqt (h4 p hp) u2⟩
  generalize Ad HZ d u2=HG at dr2 eG gG wG hD2⊢;refine Fh (P:=P) (w:=w) (K:=K) (λi gt Hx=>∃ps2:List qR,gt=ps2.map V.ref/\ps2.length<=i/\AH HG Hx/\Hx D2=some (.lst gt)/\Cu K Hx ps2 ((A0.take i).filter λp=>decide (p∉M2)&&decide (∀q∈B p,q∈M2))) ⟨[],rfl,bL _,AH.new hD2 _,AE,.nil⟩ (λi gt Hx _ z=>by obtain⟨_,_,_,e,_⟩:=z;exact dr2.same e) ?_ ?_
  ·intro i b k v gt Hx hk sb hRq;rcases hRq with⟨ps2,rfl,l2,ex,hDx,hp⟩;rcases LZ hk with⟨a,l,ha,hl,rfl,rfl⟩;have i100:i<=100:=by have:=(bJ.mp ha).1;lia
   obtain⟨qs,hq,pq⟩:=(gG.same ex).e i a l ha hl;have lq:=Paired.length pq;have la:=lB a (bT ha);obtain⟨u5,r5⟩:=(wG.same ex).r;refine⟨_,rfl,_,rfl,d2,b,u5,_,Bb a,rfl,rfl,r5,sb,_,rfl,?_⟩;dsimp only;rw[JR,Kb ha]
   by_cases m:a∈M2
   ·rw[qH m,Bool.not_true];refine V4 (V4 ?_);rw[qE (by rw[qI (λy=>y m)];exact bf),cA];exact⟨ps2,rfl,by lia,ex,hDx,hp⟩
   rw[qI m,Bool.not_false];refine Z0 ?_;refine⟨_,rfl,_,rfl,d,b,u2,_,Bb a,.ref l,rfl,rfl,dr2.same ex,sb,CA nd ha (by rw[bO,hl];rfl),l,rfl,⟨_,Ae.of hq⟩,λD3 hD3=>?_⟩;refine FF (xs:=qs.map V.ref) (λj gt Hy=>gt=((B a).take j).map (λp=>V.bl (decide (p∈M2)))/\AH Hx Hy/\Hy D3=some (.lst gt)) ⟨rfl,AH.new hD3 _,AE⟩ (λj gt Hy _ z=>Ae.of (z.2.1 _ _ hq)) ?_ ?_
   ·refine Li ?_;rintro j x _ hGo gt Hy hx ⟨rfl,ey,h3⟩;refine hGo _ _ ?_;obtain⟨c,hci,rfl⟩:∃c,qs[j]?=some c/\x=V.ref c:=by rw[bO]at hx;obtain⟨c,h1,h2⟩:=cM.mp hx;exact⟨c,h1,h2.symm⟩
    obtain⟨p0,hp0,sc⟩:=Bv pq hci;dsimp only[UE];rw[qF rfl];refine⟨_,rfl,_,rfl,d2,c,u5,_,Bb p0,rfl,rfl,r5.same ey,Ah.same' ey sc,h3,?_,?_,ey.into hD3,AE⟩
    ·rw[bG,bq,sizeLine_eq];lia
    ·rw[JR,cp,hp0,bS];rfl
   ·rintro gt Hy ⟨rfl,ey,h3⟩;rw[bG,lq,cT]at h3;refine⟨D3,(B a).map λp=>decide (p∈M2),rfl,Ae.of (by rw[h3,c9];rfl),_,rfl,?_⟩;dsimp only;have ev:(((B a).map λp=>decide (p∈M2)).all id=true)↔∀q∈B a,q∈M2:=by simp
    by_cases all:∀q∈B a,q∈M2
    ·rw[qF (ev.mpr all),qF (by rw[qH m,qH all];rfl)];have hD':=ey _ _ hDx;refine⟨_,rfl,hD',by rw[bG];exact AY 0#1,ps2++[b],by rw[bS];rfl,by rw[bN,cP];lia,(ex.trans ey).into hD2,AE,?_⟩;exact Paired.app (Cu.upd hD' (Cu.same ey hp)) (.cons (Ah.updL hD' (Ah.same' ey sb)) .nil)
    ·rw[qE (λy=>all (ev.mp y)),qE (by rw[qI all,Bool.and_false];exact bf),cA];exact⟨ps2,rfl,by lia,ex.trans ey,ey _ _ hDx,Cu.same ey hp⟩
  ·intro gt H2 hRq;rcases hRq with⟨ps2,rfl,l2,ex,hDx,hp⟩;rw[B9 (by rw[bG];exact gG.n),cT]at hp;exact⟨D2,M2,f2,_,_,rfl,⟨u2,ps2,eG.trans ex,dr2.same ex,gG.same ex,Hn eG hD2,hDx,hp,wG.same ex⟩,mq⟩
 intro _ hGo σ HX hRq;rcases hRq with⟨D,M,f,n,x4,rfl,⟨u',ps,eX,dX,gX,hD0,hD,pX,wX⟩,mp⟩;refine hGo _ _ ?_;walk_at "";exact q u' HX d2 M f eX dX hd2 wX mp.done
theorem ZA:AJ ["node","other"] ["node","other"] (AG W6):=CD
theorem ZB(T:CC K mg t) :Ak P w K mg base 1 t.f_51 ["node","other"] (GC K):=by
 refine Al T.d_51 ZA λvs H Q E h=>?_;rcases h with⟨a,b,rfl,q⟩;refine⟨rfl,λgu A outer s hr=>?_⟩
 refine⟨_,(AB (A3 (AQ Bk (pv 0) (pv 1) (AR _)) (AF (AO (IV rfl T.m_EVEN))) AX)
  (AF (AO (Cb (AA (pv 0) (AA (pv 1) AC)))))),?_⟩
 walk_at ""
 by_cases e:a=b
 ·rw[qF (by rw[e])];refine q _ H (AH.refl _) ?_;subst e;rw[CI];exact GA T.q_EVEN H
 ·rw[qE 0#1];refine⟨by decide,λp hp=>q p _ (AH.new hp _) (Ah.of ?_)⟩;unfold DC;rw[qE e];exact AE
theorem TV:AJ ["framed","pairs","node"] ["framed"] (AG W7):=CD
theorem ZC(T:CC K mg t)(G_68:Ak P w K mg base 1 t.f_68 ["one"] (Cq)):Ak P w K mg base 2 t.f_35 ["framed"] (LV K):=by
 refine Al T.d_35 TV λvs H Q E h=>?_;rcases h with⟨r,g,lo,g6,m,rfl,ok,sm,q⟩;refine⟨rfl,λgu A outer s hr=>?_⟩
 refine⟨_,(AB (AN 1 TV (BC (AA (IV rfl T.m_EVEN) AC)))
  (AB (A9 PassesOwn.never rfl (Az rfl T.z_range (AA (AL hr G_68 T.m_68 (AA (pv 0) AC)) AC)) (BF 2 TV) (AF (A4 (Ow gC PySem.F.slot_list_extend PySem.F.type_list_extend KJ (pv 1) (AA (F7 [(2,"node")] [("node",_)] (Az rfl T.z_range (AA (AL hr G_68 T.m_68 (AA (pv 0) AC)) AC)) (λ_ _ _ _=>(GW (AQ IN (pv 0) (pv 1) (AR _)))) (λ_ _ _ _=>(Cb (AA (pv 1) (AA (pv 0) AC))))) AC)))))
  (AF (AO (pv 1))))),?_⟩
 have hd:=A8 ok.g2 ok.len ok.m1;have gp:=RW.Ag ok.g2 (m-1);obtain⟨h,hh⟩:∃h:Nat,h=g6.length/g.toNat:=⟨_,rfl⟩;rw[<-hh]at q hd;have h9:h<=9:=by lia
 refine Am λN hN=>?_;walk_at "";refine⟨by decide,λD hD=>hN _ _ ?_⟩;clear hN N;refine CK (λσ HX=>(∃x2,σ=[some (.ref r),some (.ref D),x2])/\AH H HX/\∃ps:List qR,HX D=some (.lst (ps.map V.ref))/\Cu K HX ps (BX h)) (λN hN=>?_) ?_
 ·have e0:=AH.new hD (.lst [V.ref t.k_EVEN]);refine⟨_,rfl,r,g,lo,g6,m,rfl,ok.same e0,?_⟩;rw[<-hh];refine⟨_,rfl,by lia,by lia,?_⟩;rw[bM];refine BP (n:=h) (λi σ HX=>(∃x2,σ=[some (.ref r),some (.ref D),x2])/\AH H HX/\∃ps:List qR,HX D=some (.lst (ps.map V.ref))/\Cu K HX ps ((0,0)::(List.range i).flatMap (OL h))) ⟨⟨none,rfl⟩,e0,[t.k_EVEN],AE,.cons (GA T.q_EVEN _) .nil⟩ ?_ λσ HX z=>hN _ _ z
  refine D9 ?_;intro _ _ i _ hGo σ HX hi hRq;rcases hRq with⟨⟨x2,rfl⟩,eX,ps,hX,hp⟩;refine hGo _ _ ?_;have lp:=Paired.length hp
  have ll:ps.length<=100:=by have a:=GD h i;have b:=dn (show i<=9 by lia) h9;rw[lp,cW];lia
  have okX:=ok.same eX;refine⟨_,rfl,.inl ⟨rfl,_,Ae.of hX⟩,?_⟩;refine⟨_,rfl,r,g,lo,g6,m,rfl,okX,?_⟩;rw[<-hh];refine⟨_,rfl,by lia,by lia,λD2 hD2=>?_⟩;rw[bM];refine Bu (n:=h) (λj gt Hx=>∃ps2:List qR,gt=ps2.map V.ref/\ps2.length<=j/\AH HX Hx/\Hx D2=some (.lst gt)/\Cu K Hx ps2 (((List.range j).filter λo=>decide (o≠i)).map λo=>(i,o))) ⟨[],rfl,bL _,AH.new hD2 _,AE,.nil⟩ ?_ ?_
  ·refine EW ?_;intro j _ hGo gt Hx hj hRq;rcases hRq with⟨ps2,rfl,l2,ex,h2,hp2⟩;refine hGo _ _ ?_;walk_at "";rw[cH,ce]
   by_cases e:j=i
   ·rw[qE 0#1,show ([j].filter λo=>decide (o≠i))=[] by subst e;simp,List.append_nil];exact⟨ps2,rfl,by lia,ex,h2,hp2⟩
   ·rw[qF 0#1,show ([j].filter λo=>decide (o≠i))=[j] by simp[e],List.map_append];refine⟨by decide,λp hp=>?_⟩;have f1:=AH.new hp (.tup [V.int (0+(i:Int)),V.int (0+(j:Int))]);have hl:=f1 _ _ h2;refine⟨hl,by rw[bG];exact AY 0#1,ps2++[p],by rw[bS];rfl,by rw[bN,cP];lia,(ex.trans f1).into hD2,AE,Paired.app (Cu.upd hl (Cu.same f1 hp2)) (.cons (Ah.updL hl (Ah.of ?_)) .nil)⟩;rw[AE,b7,b7];rfl
  ·intro gt H2 hRq;rcases hRq with⟨ps2,rfl,l2,ex,h2,hp2⟩;dsimp only[Kt];refine⟨D,D2,_,_,rfl,rfl,ex _ _ hX,h2,?_,?_⟩
   ·rw[bG,bG];exact dA (AY (show ps.length+ps2.length<=1000 by lia))
   refine⟨⟨_,rfl⟩,(eX.trans ex).into hD,ps++ps2,by rw[AE,bS],?_⟩;rw[cH,d5,<-gQ];refine Paired.app (Cu.upd (ex _ _ hX) (Cu.same ex hp)) ?_;rw[cV,fe,cA];exact Cu.upd (ex _ _ hX) hp2
 intro _ hGo σ HX hRq;rcases hRq with⟨⟨x2,rfl⟩,eX,ps,hX,hp⟩;refine hGo _ _ ?_;walk_at "";exact q D HX ps eX hD hX hp
theorem Ps:AJ ["framed","found","word","told"] ["framed"] (AG W8):=CD
theorem ZD(T:CC K mg t) :Ak P w K mg base 1 t.f_25 ["framed"] (OM K):=by
 refine Al T.d_25 Ps λvs H Q E h=>?_;rcases h with⟨r,g,lo,g6,m,rfl,ok,sm,q⟩;refine⟨rfl,λgu A outer s hr=>?_⟩
 refine⟨_,(AB (AN 1 Ps (BC AC))
  (AB (A9 PassesOwn.never rfl (F0 rfl T.z_enumerate (AA 0#2 AC)) (El rfl (BJ (BF 2 Ps) (BJ (BF 3 Ps) C4))) (AF (A4 (Ow gC PySem.F.slot_list_extend PySem.F.type_list_extend KJ (pv 1) (AA (SO (fv:=[(2,"word"),(3,"told")]) (cl:=[("word",_),("told",_)]) rfl (F0 rfl T.z_enumerate (AA 0#2 AC)) 0#3 (by decide +kernel) rfl (by decide +kernel) rfl rfl ⟨0#3,⟨0#3,trivial⟩⟩ 0#3 ⟨⟨rfl,rfl,0#3,rfl⟩,⟨⟨rfl,rfl,0#3,rfl⟩,trivial⟩⟩ 0#8 (λ_ _ _ _=>(GW (PW.pt (IJ (AQ Bk (pv 1) (pv 3) (AR _)) (Fo (AQ IN (pv 0) (pv 2) (AR _))))))) (λ_ _ _ _=>(Cb (AA (pv 2) (AA (pv 0) AC))))) AC)))))
  (AF (AO (pv 1))))),?_⟩
 refine Au.el ok.v λtb h1 h2=>?_;have hlm:(g6.map V.int).length=g6.length:=bG ..;refine Am λN hN=>?_;walk_at "";refine⟨by decide,λD hD=>hN _ _ ?_⟩;clear hN N;refine CK (λσ HX=>(∃x2 x3,σ=[some (.ref r),some (.ref D),x2,x3])/\AH H HX/\∃ps:List qR,HX D=some (.lst (ps.map V.ref))/\Cu K HX ps (Eg g6)) (λN hN=>?_) ?_
 ·have e0:=AH.new hD (.lst []);refine⟨_,rfl,r,_,2,_,rfl,rfl,Ah.of (e0 _ _ h1),rfl,?_⟩;refine⟨tb,_,rfl,Ah.of (e0 _ _ h2),?_⟩;refine GY (xs:=g6.map V.int) (λi σ HX=>(∃x2 x3,σ=[some (.ref r),some (.ref D),x2,x3])/\AH H HX/\∃ps:List qR,HX D=some (.lst (ps.map V.ref))/\Cu K HX ps ((List.range i).flatMap (Sf g6))) ⟨⟨none,none,rfl⟩,e0,[],AE,.nil⟩ (λi σ HX _ z=>Ah.of (z.2.1 _ _ h2)) ?_ λσ HX z=>hN _ _ (by rw[hlm]at z;exact z)
  rintro i x p2 σ HX hx ⟨⟨x2,x3,rfl⟩,eX,ps,hX,hp⟩ hp2;obtain⟨n,hn,rfl⟩:=Ch hx;have hi:i<g6.length:=(bJ.mp hn).1;have f2:=AH.new hp2 (.tup [V.int ((i:Nat):Int),V.int n]);have eY:=eX.trans f2;have hY:=f2 _ _ hX;have pY:=Cu.same f2 hp;refine⟨p2,_,rfl,Ah.of AE,rfl,_,_,rfl,_,_,rfl,rfl,?_⟩;generalize Ad HX p2 (.tup [V.int ((i:Nat):Int),V.int n])=HY at eY hY pY⊢;clear hX hp f2 eX hp2;refine⟨_,rfl,.inl ⟨rfl,_,Ae.of hY⟩,?_⟩;refine⟨_,rfl,r,_,2,_,rfl,rfl,Ah.of (eY _ _ h1),rfl,?_⟩;refine⟨tb,_,rfl,Ah.of (eY _ _ h2),λD2 hD2=>?_⟩;refine Mv (xs:=g6.map V.int) (λj gt Hx=>∃ps2:List qR,gt=ps2.map V.ref/\ps2.length<=j/\AH HY Hx/\Hx D2=some (.lst gt)/\Cu K Hx ps2 (((List.range j).filter λb=>decide (g6.getD b 0=g6.getD i 0)&&decide (b≠i)).map λb=>(i,b))) ⟨[],rfl,bL _,AH.new hD2 _,AE,.nil⟩ (λj gt Hx _ z=>by obtain⟨_,_,_,z,_⟩:=z;exact Ah.of (z _ _ (eY _ _ h2))) ?_ ?_
  ·rintro j x p3 gt Hx hx ⟨ps2,rfl,l2,ex,h2',hp2⟩ hp3;obtain⟨n',hn',rfl⟩:=Ch hx;have f3:=AH.new hp3 (.tup [V.int ((j:Nat):Int),V.int n']);have eA:=ex.trans f3;have hA:=f3 _ _ h2';have pA:=Cu.same f3 hp2;generalize Ad Hx p3 (.tup [V.int ((j:Nat):Int),V.int n'])=HA at eA hA pA⊢;clear f3 ex h2' hp2 hp3;have en:n=g6.getD i 0:=by rw[bH,hn];rfl
   have en':n'=g6.getD j 0:=by rw[bH,hn'];rfl
   walk_at "";rw[cH,ce]
   by_cases e1:n'=n
   ·have e1':g6.getD j 0=g6.getD i 0:=by rw[<-en',e1,en]
    rw[qF e1]
    by_cases e:j=i
    ·rw[qE 0#1,Pa (by rw[qI (show ¬j≠i from λz=>z e),Bool.and_false]),cA];exact⟨ps2,rfl,by lia,eA,hA,pA⟩
    ·rw[qF 0#1,Sg (by rw[dD];exact⟨qH e1',qH e⟩),bS];refine⟨by decide,λp hp=>?_⟩;have f1:=AH.new hp (.tup [V.int ((i:Nat):Int),V.int ((j:Nat):Int)]);have hl:=f1 _ _ hA;have hj:j<g6.length:=(bJ.mp hn').1;have lt:g6.length<=256:=by have:=ok.sz;have:=ok.len;lia
     refine⟨hl,by rw[bG];exact AY 0#1,ps2++[p],by rw[bS];rfl,by rw[bN,cP];lia,(eA.trans f1).into hD2,AE,Paired.app (Cu.upd hl (Cu.same f1 pA)) (.cons (Ah.updL hl (Ah.of AE)) .nil)⟩
   ·rw[qE e1,Pa (by rw[qI (show ¬g6.getD j 0=g6.getD i 0 from λz=>e1 (by rw[en',z,en])),Bool.false_and]),cA];exact⟨ps2,rfl,by lia,eA,hA,pA⟩
  ·intro gt H2 hRq;rcases hRq with⟨ps2,rfl,l2,ex,h2',hp2⟩;dsimp only[Kt];rw[hlm]at l2 hp2;have lt:g6.length<=256:=by have:=ok.sz;have:=ok.len;lia
   have lp:=Paired.length pY;have ll:=Ey g6 i;have lm:=dn (show i<=256 by lia) lt;refine⟨D,D2,_,_,rfl,rfl,ex _ _ hY,h2',?_,?_⟩
   ·rw[bG,bG,sizeLine_eq];lia
   refine⟨⟨_,_,rfl⟩,(eY.trans ex).into hD,ps++ps2,by rw[AE,bS],?_⟩;rw[cH,d5];refine Paired.app (Cu.upd (ex _ _ hY) (Cu.same ex pY)) ?_;rw[cV,fe,cA];exact Cu.upd (ex _ _ hY) hp2
 intro _ hGo σ HX hRq;rcases hRq with⟨⟨x2,x3,rfl⟩,eX,ps,hX,hp⟩;refine hGo _ _ ?_;walk_at "";exact q D HX ps eX hD hX hp
theorem ZE:AJ ["framed","words"] ["framed","words"] (AG W9):=CD
theorem ZF(T:CC K mg t)(G_51:Ak P w K mg base 1 t.f_51 ["node","other"] (GC K)):Ak P w K mg base 2 t.f_45 ["framed","words"] (LU K):=by
 refine Al T.d_45 ZE λvs H Q E h=>?_;rcases h with⟨r,c,g,lo,g6,m,a,b,rfl,ok,hc,q⟩;refine⟨rfl,λgu A outer s hr=>?_⟩;refine⟨_,(AF (AO (AL hr G_51 T.m_51 (AA (AI BG (AM (B3 K) (pv 1) AD 1#1) 0#2) (AA (AI BG (AM (B3 K) (pv 1) AD 1#1) 0#2) AC))))),?_⟩;refine Au.el ok.v λtb h1 h2=>?_;have g2:=ok.g2;have g9:=ok.g9;walk_at "";refine⟨c,_,0,_,rfl,rfl,hc,rfl,CY (Ah.of h1) rfl ?_⟩;refine⟨_,rfl,_,rfl,by lia,by lia,?_⟩;refine⟨c,_,1,_,rfl,rfl,hc,rfl,CY (Ah.of h1) rfl ?_⟩;refine⟨_,rfl,_,rfl,by lia,by lia,?_⟩;have ea:((a:Nat):Int)/g=((a/g.toNat:Nat):Int):=by rw[dP,bp 0#1]
 have eb:((b:Nat):Int)/g=((b/g.toNat:Nat):Int):=by rw[dP,bp 0#1]
 exact⟨_,_,by rw[<-ea,<-eb],q⟩
theorem ZG:AJ ["framed","words"] ["framed","words"] (AG XA):=CD
theorem ZH(T:CC K mg t)(G_51:Ak P w K mg base 1 t.f_51 ["node","other"] (GC K))(G_68:Ak P w K mg base 1 t.f_68 ["one"] (Cq)):Ak P w K mg base 2 t.f_60 ["framed","words"] (Se K):=by
 refine Al T.d_60 ZG λvs H Q E h=>?_;rcases h with⟨r,c,g,lo,g6,m,a,b,rfl,ok,hc,q⟩;refine⟨rfl,λgu A outer s hr=>?_⟩;refine⟨_,(AF (AO (AL hr G_51 T.m_51 (AA (AI Af (AM (B3 K) (pv 1) AD 1#1) (AL hr G_68 T.m_68 (AA (pv 0) AC))) (AA (AI Af (AM (B3 K) (pv 1) AD 1#1) (AL hr G_68 T.m_68 (AA (pv 0) AC))) AC))))),?_⟩;have hd:=A8 ok.g2 ok.len ok.m1;have gp:=RW.Ag ok.g2 (m-1);have ea:((a:Nat):Int)%((g6.length/g.toNat:Nat):Int)=((a%0#5:Nat):Int):=(cD ..).symm;have eb:((b:Nat):Int)%((g6.length/g.toNat:Nat):Int)=((b%0#5:Nat):Int):=(cD ..).symm;have hp:(0:Int)<((g6.length/g.toNat:Nat):Int):=by lia
 walk_at "";refine⟨c,_,0,_,rfl,rfl,hc,rfl,r,g,lo,g6,m,rfl,ok,?_⟩;refine⟨_,rfl,_,rfl,hp,?_⟩;refine⟨c,_,1,_,rfl,rfl,hc,rfl,r,g,lo,g6,m,rfl,ok,?_⟩;refine⟨_,rfl,_,rfl,hp,?_⟩;exact⟨_,_,by rw[<-ea,<-eb],q⟩
theorem Pu:AJ ["framed","nexts","pair","words"] ["framed"] (AG XB):=CD
theorem ZI(T:CC K mg t)(G_35:Ak P w K mg base 2 t.f_35 ["framed"] (LV K))(G_25:Ak P w K mg base 1 t.f_25 ["framed"] (OM K))(G_60:Ak P w K mg base 2 t.f_60 ["framed","words"] (Se K))(G_45:Ak P w K mg base 2 t.f_45 ["framed","words"] (LU K)):Ak P w K mg base 3 t.f_21 ["framed"] (IB P w K):=by
 refine Al T.d_21 Pu λvs H Q E h=>?_;rcases h with⟨r,g,lo,g6,m,rfl,ok,sm,q⟩;refine⟨rfl,λgu A outer s hr=>?_⟩
 refine⟨_,(AB (IL (i:=1) Pu.nd rfl (Or.inl rfl) (JL (P:=P) (w:=w) (K:=K) rfl rfl rfl))
  (AB (A9 PassesOwn.never rfl (Q6 K (AL hr G_35 T.m_35 (AA (pv 0) AC))) (BF 2 Pu) (AF (Mp (P:=P) (w:=w) (K:=K) rfl rfl rfl (DF hr) (pv 1) (pv 2) (BC AC) rfl)))
  (AB (A9 PassesOwn.never rfl (Q6 K (AL hr G_25 T.m_25 (AA (pv 0) AC))) (BF 3 Pu) (AF (A4 (Q0 K (DQ (P:=P) (w:=w) (K:=K) rfl rfl rfl (DF hr) (pv 1) (AL hr G_45 T.m_45 (AA (pv 0) (AA (pv 3) AC))) 1#1) (AA (AL hr G_60 T.m_60 (AA (pv 0) (AA (pv 3) AC))) AC)))))
  (AF (AO (pv 1)))))),?_⟩
 obtain⟨h,hh⟩:∃h:Nat,h=g6.length/g.toNat:=⟨_,rfl⟩;rw[<-hh]at q;have hd9:=A8 ok.g2 ok.len ok.m1;have h9:h<=9:=by rw[<-hh]at hd9;lia
 refine Am λN hN=>?_;walk_at "";intro d u hd dw;refine hN _ _ ?_;clear hN N;have e0:=AH.new hd u;generalize Ad H d u=H0 at dw e0⊢;refine CK (λσ HX=>(∃x2 x3,σ=[some (.ref r),some (.ref d),x2,x3])/\AH H HX/\∃ls:List qR,(∀l∈ls,H l=none)/\DW P w K HX d (An (BX h) (ls.map V.ref))/\EB K HX ls (BX h) λ_=>[]) (λN hN=>?_) ?_
 ·refine⟨_,rfl,r,g,lo,g6,m,rfl,ok.same e0,sm,λD H1 ps e1 hD1 hD hp=>?_⟩;rw[<-hh]at hp;have pn:=Paired.length hp;have nd:=Cn h;have lA:(BX h).length<=100:=by have a:=GD h h;have b:=dn h9 h9;unfold BX;rw[cW];lia
  refine⟨D,rfl,⟨_,Ae.of hD⟩,?_⟩;refine CZ (xs:=ps.map V.ref) (λi σ HX=>(∃x2 x3,σ=[some (.ref r),some (.ref d),x2,x3])/\AH H HX/\HX D=some (.lst (ps.map V.ref))/\Cu K HX ps (BX h)/\∃ls:List qR,(∀l∈ls,H l=none)/\DW P w K HX d (An ((BX h).take i) (ls.map V.ref))/\EB K HX ls ((BX h).take i) λ_=>[]) ⟨⟨none,none,rfl⟩,e0.trans e1,hD,hp,[],(λl hl=>qG hl List.not_mem_nil),dw.same e1,⟨rfl,List.nodup_nil,λi a l z=>by simp at z⟩⟩ (λi σ HX _ z=>Ae.of z.2.2.1) ?_ ?_
  ·refine NG ?_;intro _ _ i x _ hGo σ HX hx hRq;rcases hRq with⟨⟨x2,x3,rfl⟩,eX,hDX,pX,ls,ln,dX,gX⟩;refine hGo _ _ ?_;obtain⟨p,hpi,rfl⟩:∃p,ps[i]?=some p/\x=V.ref p:=by rw[bO]at hx;obtain⟨p,h1,h2⟩:=cM.mp hx;exact⟨p,h1,h2.symm⟩
   obtain⟨a,ha,sa⟩:=Bv pX hpi;have hi:i<(BX h).length:=(bJ.mp ha).1
   have lr:(An ((BX h).take i) (ls.map V.ref)).length<=100:=by rw[B9 (by rw[bG];exact gX.n),bq];lia
   refine⟨by decide,λl hl=>?_⟩;have f1:=AH.new hl (.lst []);have dY:=dX.same f1;have gY:=gX.same f1;have hY:=f1 _ _ hDX;have pY:=Cu.same f1 pX;have sY:=Ah.same' f1 sa;have lY:Ad HX l (.lst []) l=some (.lst []):=AE;have nl:=gX.out hl;have eY:=eX.trans f1;have hn:=eX.free hl;generalize Ad HX l (.lst [])=HY at f1 dY gY hY pY sY lY eY⊢;refine⟨_,rfl,_,rfl,d,p,_,Bb a,rfl,rfl,dY,sY,AY 0#1,λu' dw'=>⟨⟨_,_,rfl⟩,eY.into hd,dY.lst hY u',dY.prv pY u',ls++[l],λk hk=>?_,?_,?_⟩⟩
   ·rcases bQ.mp hk with z|z
    ·exact ln k z
    ·rw[bV.mp z];exact hn
   ·rw[bS,cp,ha];rw[JO (by rw[bG];exact gX.n) (GF nd ha)]at dw';exact dw'
   ·rw[cp,ha];exact (dY.grl gY u').snoc nl (dY.lst lY u') rfl
  ·intro σ HX hRq;rcases hRq with⟨⟨x2,x3,rfl⟩,eX,hDX,pX,ls,ln,dX,gX⟩;rw[bG,pn,cT]at dX gX;exact hN _ _ ⟨⟨_,_,rfl⟩,eX,ls,ln,dX,gX⟩
 intro _ hGo σ HX hRq;rcases hRq with⟨⟨x2,x3,rfl⟩,eX,ls,ln,dX,gX⟩;refine hGo _ _ ?_;refine CK (λσ HX=>(∃x2 x3,σ=[some (.ref r),some (.ref d),x2,x3])/\AH H HX/\DW P w K HX d (An (BX h) (ls.map V.ref))/\EB K HX ls (BX h) (Hc g.toNat h (Eg g6))) (λN hN=>?_) ?_
 ·refine⟨_,rfl,r,g,lo,g6,m,rfl,ok.same eX,sm,λD H1 ps e1 hD1 hD hp=>?_⟩;have pn:=Paired.length hp;have nD:=gX.out hD1;have nd:=Cn h;refine⟨D,rfl,⟨_,Ae.of hD⟩,?_⟩;refine CZ (xs:=ps.map V.ref) (λi σ HX=>(∃x2 x3,σ=[some (.ref r),some (.ref d),x2,x3])/\AH H HX/\HX D=some (.lst (ps.map V.ref))/\Cu K HX ps (Eg g6)/\DW P w K HX d (An (BX h) (ls.map V.ref))/\EB K HX ls (BX h) (Hc g.toNat h ((Eg g6).take i))) ⟨⟨_,_,rfl⟩,eX.trans e1,hD,hp,dX.same e1,gX.same e1⟩ (λi σ HX _ z=>Ae.of z.2.2.1) ?_ ?_
  ·clear dX gX eX hD hp e1;intro i x σ HX hx hRq;rcases hRq with⟨⟨x2,x3,rfl⟩,eX,hDX,pX,dX,gX⟩;obtain⟨c,hci,rfl⟩:∃c,ps[i]?=some c/\x=V.ref c:=by rw[bO]at hx;obtain⟨c,h1,h2⟩:=cM.mp hx;exact⟨c,h1,h2.symm⟩
   rcases Bv pX hci with⟨⟨a,b⟩,hab,sc⟩;have mw:=JQ.mp (bT hab);have hd9':=hd9;rw[<-hh]at hd9';obtain⟨j,hj⟩:=cQ.mp (LW (h:=h) (a:=a/g.toNat) (b:=b/g.toNat) (cc (by rw[dS];lia)) (cc (by rw[dS];lia)));obtain⟨l,hl⟩:∃l,ls[j]?=some l:=⟨ls[j]'(by rw[gX.n];exact (bJ.mp hj).1),bI _⟩;have ml:=bT hl;have okX:=ok.same eX;refine⟨_,rfl,_,rfl,_,rfl,r,c,g,lo,g6,m,a,b,rfl,okX,sc,λp H2 e2 sp=>?_⟩;obtain⟨u,dr⟩:=(dX.same e2).r;obtain⟨qs,hq,hqp⟩:=(gX.same e2).e j _ l hj hl;refine⟨d,p,u,_,Bb _,.ref l,rfl,rfl,dr,sp,CA nd hj (by rw[bO,hl];rfl),.inl ⟨rfl,_,Ae.of hq⟩,?_⟩;refine⟨_,rfl,_,rfl,r,c,g,lo,g6,m,a,b,rfl,okX.same e2,Ah.same' e2 sc,λp3 H3 e3 sp3=>?_⟩;rw[<-hh]at sp3;have hq3:=e3 _ _ hq;have e23:=e2.trans e3;refine⟨l,_,_,rfl,rfl,hq3,?_,?_⟩
   ·have l1:=Paired.length hqp;have l2:=LX g.toNat h ((Eg g6).take i) (DC (a/g.toNat,b/g.toNat));have l3:=Ey g6 g6.length;have lt:g6.length<=256:=by have:=ok.sz;have:=ok.len;lia
    have l4:=dn lt lt;have l5:((Eg g6).take i).length<=(Eg g6).length:=by rw[bq];exact Nat.min_le_right ..
    have l6:(Eg g6).length<=g6.length*g6.length:=l3;rw[bG,sizeLine_eq];lia
   rw[show qs.map V.ref++[V.ref p3]=(qs++[p3]).map V.ref by rw[bS];rfl];refine⟨⟨_,_,rfl⟩,(eX.trans e23).into (ln l ml),by rw[AK λz=>nD (by rw[z];exact ml)];exact e23 _ _ hDX,Cu.upd hq3 (Cu.same e23 pX),(dX.same e23).updL hq3 _,(gX.same e23).push nd hj hl hq3 (Cu.same e3 hqp) sp3 λz=>Sh hab z⟩
  ·intro σ HX hRq;rcases hRq with⟨⟨x2,x3,rfl⟩,eX,hDX,pX,dX,gX⟩;rw[bG,pn,cT]at gX;exact hN _ _ ⟨⟨_,_,rfl⟩,eX,dX,gX⟩
 intro _ hGo σ HX hRq;rcases hRq with⟨⟨x2,x3,rfl⟩,eX,dX,gX⟩;refine hGo _ _ ?_;walk_at "";exact q d HX ls eX hd ln dX gX
theorem ZJ:AJ ["framed"] ["framed"] (AG XC):=CD
theorem ZK(T:CC K mg t)(G_20:Ak P w K mg base 1 t.f_20 ["ahead"] (La P w K))(G_13:Ak P w K mg base 1 t.f_13 ["nexts"] (LY P w K))(G_21:Ak P w K mg base 3 t.f_21 ["framed"] (IB P w K)):Ak P w K mg base 4 t.f_22 ["framed"] (JU P w K):=by
 refine Al T.d_22 ZJ λvs H Q E h=>?_;rcases h with⟨r,g,lo,g6,m,rfl,ok,sm,q⟩;refine⟨rfl,λgu A outer s hr=>?_⟩;refine⟨_,(AF (AO (AL hr G_20 T.m_20 (AA (AL hr G_13 T.m_13 (AA (AL hr G_21 T.m_21 (AA (pv 0) AC)) AC)) AC)))),?_⟩;have g2:=ok.g2;have hl:=Qn g2 ok.len ok.m1;obtain⟨h,hh⟩:∃h:Nat,h=g6.length/g.toNat:=⟨_,rfl⟩;have hd9:=A8 ok.g2 ok.len ok.m1;rw[<-hh]at q hl hd9;have h9:h<=9:=by lia
 have hp:=RW.Ag ok.g2 (m-1);have h0:0<h:=by lia
 have wl:(Eg g6).length<=70000:=by
  have l3:(Eg g6).length<=g6.length*g6.length:=Ey g6 g6.length;have lt:g6.length<=256:=by have:=ok.sz;have:=ok.len;lia
  have l4:=dn lt lt;lia
 walk_at "";refine⟨r,g,lo,g6,m,rfl,ok,sm,λd1 H1 ls e1 hd1 ln dw gr=>?_⟩;rw[<-hh]at dw gr;obtain⟨u1,dr⟩:=dw.r;refine⟨d1,u1,ls,BX h,Hc g.toNat h (Eg g6),rfl,dr,gr,Cn h,λa _ p hp=>(Dj h0 ((IF hl).mp hp)).2,E4 h9,λa _=>cK (LX ..) wl,λu' H2 d2 ls2 A2 B e2 dr2 hd2 ln2 dw2 gr2 tp=>?_⟩;obtain⟨u2,drr⟩:=dw2.r;have eH2:=(e1.into hd1 (o:=u')).trans e2;have l2:A2.length<=100:=cK (tp.nd.length_le_of_subset λp hp=>(tp.all p).mp hp) (E4 h9)
 have hB:∀p q,q∈B p↔FS g.toNat h g6 q p:=λp q=>by rw[tp.on,IF hl];exact⟨λz=>z.2,λz=>⟨(Dj h0 z).1,z⟩⟩
 refine⟨d2,u2,ls2,A2,B,rfl,drr,gr2,tp.nd,λa _ p hp=>(tp.all p).mpr (Dj h0 ((hB a p).mp hp)).1,l2,λa _=>tp.len a,λu3 H3 d3 M f e3 dr3 hd3 dw3 mp=>?_⟩;exact q d3 H3 M f ((eH2.into (e1.free hd2)).trans e3) (eH2.free hd3) dw3 (mp.rk h9 tp.all tp.nd (λp _ q=>hB p q) λp q z=>(Dj h0 z).1)
theorem TW:AJ ["one","framed","found"] ["one"] (AG XD):=CD
theorem ZL(T:CC K mg t)(G_67:Ak P w K mg base 8 t.f_67 ["one"] (F8 t.c_49))(G_22:Ak P w K mg base 4 t.f_22 ["framed"] (JU P w K))(G_35:Ak P w K mg base 2 t.f_35 ["framed"] (LV K)):Ak P w K mg base 9 t.f_69 ["one"] (Jc t.c_49):=by
 refine PM T.d_69 TW λvs H Q E h=>?_;rcases h with⟨r,g,lo,g6,m,lf,tf,mf,rfl,ok,fw,q0,q1,q2⟩;refine⟨rfl,λgu A outer s hr=>?_⟩
 refine⟨_,(AB (AN 1 TW (Cr G_67 (hr.mono 0#8) rfl T.m_67 Dd (AA (pv 0) AC)))
  (AB (AN 2 TW (AL hr G_22 T.m_22 (AA (pv 1) AC)))
  (AB (A3 (AQ Du (Ap (OJ (P:=P) (w:=w) (K:=K) rfl rfl rfl) rfl T.z_len cR (AA (pv 2) AC)) (Ap (NF K) rfl T.z_len cR (AA (AL hr G_35 T.m_35 (AA (pv 1) AC)) AC)) (AR _)) (AF (AO Kq)) AX)
  (AF (AO (Cb (AA (DQ (P:=P) (w:=w) (K:=K) rfl rfl rfl (DF hr) (pv 2) (IV rfl T.m_EVEN) 1#1) (AA (Ap (M7 (K:=K) rfl) rfl T.z_sorted PyProof.Rows.boot_sorted (AA (F7 [(2,"found")] [("found",_)] (FK (P:=P) (w:=w) (K:=K) rfl rfl rfl (pv 2)) (λ_ _ _ _=>(GW (AQ (Pe (K:=K) rfl hr.units) (pv 0) (IV rfl T.m_EVEN) (AR _)))) (λ_ _ _ _=>(AI (Sj (K:=K) rfl) (pv 0) (Cb (AA (by exact DQ (P:=P) (w:=w) (K:=K) rfl rfl rfl (DF hr) (pv 1) (pv 0) 1#1) AC))))) AC)) AC)))))))),?_⟩
 have g2:=ok.g2;have gp:=RW.Ag g2 (mf-1);refine Am λN hN=>?_;walk_at "";refine⟨r,g,lo,g6,m,lf,tf,mf,rfl,ok,fw,λsm r1 H1 e1 ok1=>hN _ _ ?_,q0⟩;clear hN N;have hd9:=A8 g2 ok1.len ok1.m1;obtain⟨h,hh⟩:∃h:Nat,h=tf.length/g.toNat:=⟨_,rfl⟩;unfold Lf at q1;rw[<-hh]at q1 q2 hd9;have h9:h<=9:=by lia
 have h0:0<h:=by lia
 have gq:(0,0)∈BX h:=Ez.mpr (.inl rfl);refine Am λN hN=>?_;walk_at "";refine⟨r1,g,lf,tf,mf,rfl,ok1,by lia,λd H2 M f e2 hd dw rk=>hN _ _ ?_⟩;clear hN N;rw[<-hh]at rk;have e12:=e1.trans e2;have lM:M.length<=(BX h).length:=rk.nd.length_le_of_subset λp hp=>rk.sub p hp
 have lA:=E4 (show h<=9 by lia);refine CK (λσ HX=>σ=[some (.ref r),some (.ref r1),some (.ref d)]/\AH H2 HX/\∀p∈BX h,p∈M) (λN hN=>?_) ?_
 ·obtain⟨u,dr⟩:=dw.r;refine⟨_,rfl,d,u,_,rfl,dr,_,rfl,r1,g,lf,tf,mf,rfl,ok1.same e2,by lia,λD H3 ps e3 hD0 hD hps=>?_⟩;have pn:=Paired.length hps;rw[<-hh]at hps pn;refine⟨D,_,rfl,.inl (Ae.of hD),_,_,rfl,rfl,_,rfl,?_⟩;dsimp only;rw[bG,pn,B9 (by rw[bG])]
  by_cases z:M.length<(BX h).length
  ·rw[qF (qH 0#1)];refine q1 ⟨sm,λrr hr=>?_⟩ H3 (e12.trans e3);have:=rk.all hr;have:=(Cn h).length_le_of_subset λp hp=>this p hp
   lia
  ·rw[qE (λy=>z (by have:=qN y;lia))];exact hN _ _ ⟨rfl,e3,OU rk.nd rk.sub 0#1⟩
 rintro _ hGo σ HX ⟨rfl,eX,all⟩;refine hGo _ _ ?_;have l50:M.length<=100:=by lia
 obtain⟨u,dr⟩:=(dw.same eX).r;refine⟨_,rfl,d,t.k_EVEN,u,_,Bb (0,0),.int (f (0,0):Nat),rfl,rfl,dr,GA T.q_EVEN HX,Gs rk.nd (all _ gq),_,rfl,d,u,_,rfl,dr,λu' dr' D hD=>?_⟩;have eF:=(e12.trans eX).into (e1.free hd) (o:=u');generalize Ad HX d u'=HF at dr' eF hD⊢;refine Fh (P:=P) (w:=w) (K:=K) (λi gt Hx=>gt.length<=i/\AH HF Hx/\Hx D=some (.lst gt)/\∀y∈gt,∃t ns,y=V.ref t/\Ah K Hx t 1#3/\ns≠[]) ⟨bL _,AH.new hD _,AE,λ_ h=>qG h cG⟩ (λi gt Hx _ z=>dr'.same z.2.1) ?_ ?_
 ·intro i b k v gt Hx hk sb hRq;rcases hRq with⟨lp,ex,hDx,hp⟩;rcases Su hk with⟨a,ha,rfl,rfl⟩;have aM:=bT ha;have i50:i<=100:=by have:=(bJ.mp ha).1;lia
  have sb':Ah K Hx b (([(a.1:Int),(a.2:Int)]).map V.int):=sb;refine⟨_,rfl,_,_,Sv sb',Sv (ns:=[0,0]) (GA T.q_EVEN Hx),O5 _,O5 _,QT _,_,rfl,?_⟩;refine Z1 (λ_=>?_) λ_=>⟨by lia,ex,hDx,hp⟩
  refine⟨_,rfl,_,rfl,_,rfl,d,b,u',_,Bb a,.int (f a:Nat),rfl,rfl,dr'.same ex,sb,Gs rk.nd aM,(by show 1<=sizeLine;decide),λp3 hp3=>⟨b,p3,([(a.1:Int),(a.2:Int)]).map V.int,[V.int (f a:Nat)],rfl,rfl,Ah.same' (AH.new hp3 _) sb',Ah.of AE,List.cons_ne_nil _ _,by show 2+1<=sizeLine;decide,λz=>qG z (List.cons_ne_nil _ _),λ_ p4 hp4=>?_⟩⟩;have e4:=(AH.new hp3 (.tup [V.int (f a:Nat)])).trans (AH.new hp4 (.tup (([(a.1:Int),(a.2:Int)]).map V.int++[V.int (f a:Nat)])));have s4:Ah K (Ad (Ad Hx p3 (.tup [V.int (f a:Nat)])) p4 (.tup (([(a.1:Int),(a.2:Int)]).map V.int++[V.int (f a:Nat)]))) p4 (([(a.1:Int),(a.2:Int),((f a:Nat):Int)]).map V.int):=Ah.of AE;generalize Ad (Ad Hx p3 (.tup [V.int (f a:Nat)])) p4 (.tup (([(a.1:Int),(a.2:Int)]).map V.int++[V.int (f a:Nat)]))=HY at e4 s4⊢;have h4:=e4 _ _ hDx;refine⟨h4,AY 0#1,by rw[bN,cP];lia,(ex.trans e4).into hD,AE,λy hy=>?_⟩;rcases bQ.mp hy with z|z
  ·rcases hp y z with⟨t,ns,z1,z2,z3⟩;exact⟨t,ns,z1,Ah.updL h4 (Ah.same' e4 z2),z3⟩
  ·exact⟨p4,_,bV.mp z,Ah.updL h4 s4,List.cons_ne_nil _ _⟩
 ·intro gt H4 hRq;rcases hRq with⟨lp,ex,hDx,hp⟩;rw[B9 (by rw[bG])]at lp;refine⟨D,gt,rfl,Ae.of hDx,by lia,hp,λD2 ts' hD2 _=>⟨(by show 2<=sizeLine;decide),λp5 hp5=>?_⟩⟩;exact q2 sm p5 D2 _ M f (((eF.trans ex).trans (AH.new hD2 _)).trans (AH.new hp5 _)) AE rk all
theorem HS:AJ ["one","framed","ranked","even","many","table","number","come"] ["one"] (AG XE):=CD
theorem ZM(T:CC K mg t)(G_67:Ak P w K mg base 8 t.f_67 ["one"] (F8 t.c_49))(G_69:Ak P w K mg base 9 t.f_69 ["one"] (Jc t.c_49))(G_71:Ak P w K mg base 4 t.f_71 ["signs","low","table"] (Gy))(G_63:Ak P w K mg base 2 t.f_63 ["one"] (Bm))(G_7:Ak P w K mg base 1 t.f_7 ["signs","many"] (Ga))(G_55:Ak P w K mg base 1 t.f_55 ["number","signs","many"] (FM))(G_36:Ak P w K mg base 4 t.f_36 ["one","row","number"] (NH K))(G_20:Ak P w K mg base 1 t.f_20 ["ahead"] (La P w K))(G_21:Ak P w K mg base 3 t.f_21 ["framed"] (IB P w K)):Ak P w K mg base 10 t.f_48 ["one"] (Fl t.c_26 t.c_49):=by
 refine PM T.d_48 HS λvs H Q E h=>?_;rcases h with⟨r,g,lo,g6,m,lf,tf,mf,rfl,ok,fw,qn,qt,q⟩;refine⟨rfl,λgu A outer s hr=>?_⟩
 refine⟨_,(AB (AN 1 HS (Cr G_67 (hr.mono 0#8) rfl T.m_67 Dd (AA (pv 0) AC)))
  (AB (AN 2 HS (Cr G_69 (hr.mono 0#8) rfl T.m_69 Dd (AA (pv 1) AC)))
  (AB (A3 (AQ RF (pv 2) Kq (AR _)) (AF (DG rfl T.x_26 rfl T.m_26 B5 (AA FV AC))) AX)
  (AB (AN 3 HS (AM (B3 K) (pv 2) AD 1#1))
  (AB (AN 4 HS (AI BI (AI Ab (AI Ab (pv 3) (DQ (P:=P) (w:=w) (K:=K) rfl rfl rfl (DF hr) (AL hr G_20 T.m_20 (AA (AL hr G_21 T.m_21 (AA (pv 1) AC)) AC)) (IV rfl T.m_EVEN) 1#1)) AD) (AL hr G_63 T.m_63 (AA (pv 1) AC))))
  (AB (A3 (AQ EY (AL hr G_7 T.m_7 (AA (AM (B3 K) (pv 1) AD 1#1) (AA (pv 4) AC))) (DB rfl T.g_LONGEST_TABLE) (AR _)) (AF (DG rfl T.x_49 rfl T.m_49 B5 (AA FV AC))) AX)
  (AB (AN 5 HS (BC AC))
  (AB (PS.nox (A9 PassesOwn.never rfl (Az rfl T.z_range (AA (AL hr G_7 T.m_7 (AA (AM (B3 K) (pv 1) AD 1#1) (AA (pv 4) AC))) AC)) (BF 6 HS) (AB (AN 7 HS (AL hr G_55 T.m_55 (AA (pv 6) (AA (AM (B3 K) (pv 1) AD 1#1) (AA (pv 4) AC)))))
  (AF (A4 (Q0 K (pv 5) (AA (AM (DE K) (AL hr G_36 T.m_36 (AA (pv 1) (AA (pv 7) (Ac AC)))) (pv 3) 1#1) AC)))))))
  (AF (AO (AL hr G_71 T.m_71 (AA (AM (B3 K) (pv 1) AD 1#1) (AA (AI BI (Lu IM (AM (B3 K) (pv 1) AD 1#1)) (pv 3)) (AA (pv 5) AC)))))))))))))),?_⟩
 have g2:=ok.g2;have g9:=ok.g9;have gp:=RW.Ag g2 (mf-1);refine Am λN hN=>?_;walk_at "";refine⟨r,g,lo,g6,m,lf,tf,mf,rfl,ok,fw,λsm r1 H1 e1 ok1=>hN _ _ ?_,λz=>qt (.inl z)⟩;clear hN N;have hd9:=A8 g2 ok1.len ok1.m1;have mf2:=fw.two;have h0:0<tf.length/g.toNat:=by lia
 have even0:(0,0)∈BX (tf.length/g.toNat):=Ez.mpr (.inl rfl);refine Am λN hN=>?_;walk_at "";refine⟨r1,g,lf,tf,mf,lf,tf,mf,rfl,ok1,fw.again g2 ok.len,λz=>by lia,λno H2 e2=>hN _ _ ?_,λ_ pr D H2 M f e2 hpr rk all=>hN _ _ ?_⟩
 ·clear hN N;walk_at "";exact⟨by decide,qn no H2 (e1.trans e2)⟩
 clear hN N;refine Am λN hN=>?_;walk_at "";refine hN _ _ ?_;clear hN N;have e12:=e1.trans e2;refine Am λN hN=>?_;refine⟨_,rfl,pr,_,0,_,rfl,rfl,Ah.of hpr,rfl,hN _ _ ?_⟩;clear hN N;refine FY (λHX=>AH H HX/\Aj HX r1 g lf tf mf) ⟨e12,ok1.same e2⟩ ?_;clear e2 hpr e12 e1 ok1 D;rintro H2 ⟨e2,ok2⟩;refine Am λN hN=>?_
 have wl:(Eg tf).length<=70000:=by
  have l3:(Eg tf).length<=tf.length*tf.length:=Ey tf tf.length;have lt:tf.length<=256:=by have:=ok2.sz;have:=ok2.len;lia
  have l4:=dn lt lt;lia
 have h9:tf.length/g.toNat<=9:=by lia
 refine⟨_,rfl,_,rfl,r1,g,lf,tf,mf,rfl,ok2,by lia,λd1 H3 ls e3 hd1 ln dw gr=>?_⟩;obtain⟨u1,dr⟩:=dw.r;refine⟨d1,u1,ls,_,_,rfl,dr,gr,Cn _,λa _ p hp=>(Dj h0 ((IF hd9.2).mp hp)).2,E4 h9,λa _=>cK (LX ..) 0#1,λu' H4 d2 M' f' e4 dr4 hd2 dw4 mp=>?_⟩;have rk':Qo (tf.length/g.toNat) (λa b=>FS g.toNat (tf.length/g.toNat) tf b a) M' f':=mp.rk h9 (λ_=>Iff.rfl) (Cn _) (λp _ q=>IF hd9.2) λp q z=>(Dj h0 z).2
 obtain⟨all',bx⟩:=WY (m:=mf) h0 rk all rk';have bk:=bx.b;have e24:=(e3.into hd1 (o:=u')).trans e4;obtain⟨u4,dr5⟩:=dw4.r;refine⟨d2,t.k_EVEN,u4,_,Bb (0,0),.int (f' (0,0):Nat),rfl,rfl,dr5,GA T.q_EVEN H4,Gs mp.nd (all' _ even0),?_⟩;refine⟨_,_,rfl,rfl,_,_,rfl,rfl,?_⟩;have ok4:=ok2.same e24;have mny:=DY.many g2 ok2.len mf2 ok2.tb bk;generalize f (0,0)=gq at bk bx mny⊢;generalize f' (0,0)=left at bk bx mny⊢;obtain⟨gs,em⟩:∃gs,gq+left+2=mf+gs:=⟨gq+left+2-mf,by lia⟩;have m1:1<=gs:=by lia
 refine⟨_,rfl,r1,g,lf,tf,mf,rfl,g2,g9,ok4.v,ok4.len,_,_,rfl,rfl,hN _ _ ?_⟩;clear hN N;dsimp only;rw[show ((gq:Nat):Int)+((left:Nat):Int)+2-((mf:Nat):Int)=((gs:Nat):Int) by lia];refine FY (λHX=>AH H HX/\Aj HX r1 g lf tf mf) ⟨e2.trans e24,ok4⟩ ?_;clear ok4 dr5 dw4 dr4 hd2 e4 dr gr dw ln hd1 e3 e24 ok2 e2 mp rk' all' rk all;rintro H5 ⟨e5,ok5⟩;refine Au.el ok5.v λtb5 h51 h52=>?_;refine CK (λσ HX=>σ=[some (.ref r),some (.ref r1),some (.ref pr),some (.int (gq:Nat)),some (.int (gs:Nat)),none,none,none]/\HX=H5/\g^gs<=256) (λN hN=>?_) ?_
 ·refine⟨_,rfl,r1,_,0,_,rfl,rfl,Ah.of h51,rfl,_,rfl,?_⟩;refine⟨g,_,rfl,g2,g9,by lia,λz=>?_,λz x hx=>?_⟩
  ·rw[bM]at z⊢;refine⟨_,_,rfl,rfl,_,rfl,?_⟩;dsimp only;rw[qE (λy=>by have:=qN y;lia)];exact hN _ _ ⟨rfl,rfl,z⟩
  ·refine⟨_,_,rfl,rfl,_,rfl,?_⟩;dsimp only;rw[qF (qH 0#1)];exact⟨by decide,qt (.inr ⟨sm,gq,left,gs,bx,em,by rw[bM]at z;lia⟩) H5 e5⟩
 rintro _ hGo σ HX ⟨rfl,hHX,s256⟩;refine hGo _ _ ?_;rw[hHX];clear hHX HX;have m8:=EM g2 s256;have gm:=RW.Ag g2 gs;refine Am λN hN=>?_;walk_at "";refine⟨by decide,λD hD=>hN _ _ ?_⟩;clear hN N;have e6:=AH.new hD (.lst []);have hD6:Ad H5 D (.lst []) D=some (.lst []):=AE;generalize Ad H5 D (.lst [])=H6 at e6 hD6⊢;refine CK (λσ HX=>(∃x6 x7,σ=[some (.ref r),some (.ref r1),some (.ref pr),some (.int (gq:Nat)),some (.int (gs:Nat)),some (.ref D),x6,x7])/\AH H5 HX/\HX D=some (.lst ((Kf g tf mf gq gs).map V.int))) (λN hN=>?_) ?_
 ·refine⟨_,rfl,r1,_,0,_,rfl,rfl,Ah.of (e6 _ _ h51),rfl,_,rfl,?_⟩;refine⟨g,_,rfl,g2,g9,by lia,λz=>?_,λz=>qG s256 (by rw[bM]at z;lia)⟩;rw[bM];refine⟨_,rfl,by lia,by lia,?_⟩;refine BP (n:=(g^gs).toNat) (λi σ HX=>(∃x6 x7,σ=[some (.ref r),some (.ref r1),some (.ref pr),some (.int (gq:Nat)),some (.int (gs:Nat)),some (.ref D),x6,x7])/\AH H5 HX/\HX D=some (.lst (((List.range i).map (WP g tf mf gq gs)).map V.int))) ⟨⟨none,none,rfl⟩,e6,hD6⟩ ?_ λσ HX z=>hN _ _ z
  clear e6 hD6;intro i σ HX hi hRq;rcases hRq with⟨⟨x6,x7,rfl⟩,eX,hDX⟩;have okX:=ok5.same eX;have hX1:=eX _ _ h51;refine Am λN2 hN2=>?_;refine⟨_,rfl,_,rfl,r1,_,0,_,rfl,rfl,Ah.of hX1,rfl,_,rfl,?_⟩;rw[b7];refine⟨_,g,_,rfl,g2,g9,by lia,by lia,λz=>?_,λ_ _ p7 H7 n7=>hN2 _ _ ?_⟩
  ·exfalso;rw[bM]at z;lia
  clear hN2 N2;rw[bM,show (RW.DN g (i:Int) gs).reverse=Ai g (i:Int) gs from rfl]at n7;have wb:=By g2 (i:Int) gs;have wln:=BE g (i:Int) gs;obtain⟨w,hw⟩:=DY.first (gs:=gs) g2 okX.len mf2 okX.tb bk wb;obtain⟨w1,w2,w3⟩:=Gu g2 okX.len 0#1 (bT hw);have ok7:=okX.same n7.1;refine⟨_,rfl,.inl ⟨rfl,_,Ae.of (n7.1 _ _ hDX)⟩,?_⟩;refine⟨_,rfl,_,rfl,r1,p7,g,lf,tf,mf,_,0,rfl,ok7,Ae.of n7.2.2,FE,by rw[bG,wln];lia,?_⟩;rw[EG wb]
  have tp:0<Fd g.toNat tf (Ai g (i:Int) gs):=by rw[<-LL (g:=g) tf mf];have:=(bJ.mp hw).1;lia
  refine λns hns=>⟨λz=>?_,λ_ _ q8 H8 w8 hw8 n8=>?_⟩
  ·exfalso;rw[<-Eo hns]at z;lia
  rw[<-Eo hns,Int.toNat_zero,hw]at hw8;cases hw8;have lw:gq<w.length:=by rw[w3,wln];lia
  refine⟨_,rfl,q8,_,_,_,rfl,rfl,Ae.of n8.2.2,Cc (by rw[bO,bI lw];rfl),?_⟩;have hD8:=n8.1 _ _ (n7.1 _ _ hDX);refine⟨D,_,_,rfl,rfl,hD8,by rw[bG,bG,bn];exact AY 0#1,⟨_,_,rfl⟩,((eX.trans n7.1).trans n8.1).into hD,?_⟩;rw[AE,Ay,bS]
  have ew:w.getD gq 0=WP g tf mf gq gs i:=by unfold WP;rw[bH (l:=Dr g tf mf (Ai g (i:Int) gs)),hw];rfl
  rw[bH,bI lw]at ew;rw[<-ew];rfl
 intro _ hGo σ HX hRq;rcases hRq with⟨⟨x6,x7,rfl⟩,eX,hDX⟩;refine hGo _ _ ?_;have hX1:=eX _ _ h51;have wl:=IG g2 tf mf gq gs;have wt:=WQ g2 ok5.len (show 1<=mf by lia) gq gs;refine⟨_,rfl,r1,_,0,_,rfl,rfl,Ah.of hX1,rfl,_,rfl,r1,_,1,_,rfl,rfl,Ah.of hX1,rfl,_,rfl,_,rfl,_,_,rfl,rfl,_,rfl,?_⟩;refine Fk (E:=E0) (m:=gs) g2 g9 m1 wl s256 wt (.inl hDX) λr' H' e' rv=>q sm gq left gs bx em m1 s256 r' H' ((e5.trans eX).trans e') ⟨rv,g2,g9,m1,m8,wl,s256,wt⟩
theorem Jp:AJ ["first","second","ahead","behind","signs","many","table","number"] ["first","second"] (AG XF):=CD
theorem ZN(T:CC K mg t)(G_62:Ak P w K mg base 7 t.f_62 ["one"] (D0))(G_7:Ak P w K mg base 1 t.f_7 ["signs","many"] (Ga))(G_71:Ak P w K mg base 4 t.f_71 ["signs","low","table"] (Gy))(G_63:Ak P w K mg base 2 t.f_63 ["one"] (Bm))(G_39:Ak P w K mg base 5 t.f_39 ["one","word"] (IH K))(G_73:Ak P w K mg base 4 t.f_73 ["one","row"] (Oe K))(G_55:Ak P w K mg base 1 t.f_55 ["number","signs","many"] (FM)):UC P w K mg base 8 t.f_61 ["first","second"] (Ll t.c_49):=by
 refine UD T.d_61 Jp (λ_ _ _ _ _ _=>b2 λ_ _=>rfl) (λvs H Q E h=>?_) (λgu A outer s H vs Q E hr h=>?_)
 ·rcases h with⟨r,r',g,lo,g6,m,lo',tab',m',low,M,low',M',rfl,ok,ok',hW,hW',kw,h⟩;rfl
 rcases h with⟨r,r',g,lo,g6,m,lo',tab',m',low,M,low',M',rfl,ok,ok',hW,hW',kw,h⟩
 refine⟨_,(AB (A3 (AQ IN 0#2 (AM (B3 K) (pv 1) AD 1#1) (AR _)) (AF Ec) AX)
  (AB (AN 2 Jp (AL hr G_62 T.m_62 (AA (pv 0) AC)))
  (AB (AN 3 Jp (AL hr G_62 T.m_62 (AA (pv 1) AC)))
  (AB (AN 4 Jp 0#2)
  (AB (AN 5 Jp (AI BI (AI Ab (AL hr G_63 T.m_63 (AA (pv 2) AC)) (AL hr G_63 T.m_63 (AA (pv 3) AC))) AD))
  (AB (A3 (AQ EY (AL hr G_7 T.m_7 (AA (pv 4) (AA (pv 5) AC))) (DB rfl T.g_LONGEST_TABLE) (AR _)) (AF (DG rfl T.x_49 rfl T.m_49 B5 (AA FV AC))) AX)
  (AB (AN 6 Jp (BC AC))
  (AB (PS.nox (A9 PassesOwn.never rfl (Az rfl T.z_range (AA (AL hr G_7 T.m_7 (AA (pv 4) (AA (pv 5) AC))) AC)) (BF 7 Jp) (AF (A4 (Q0 K (pv 6) (AA (AL hr G_39 T.m_39 (AA (pv 3) (AA (AL hr G_73 T.m_73 (AA (pv 2) (AA (AL hr G_55 T.m_55 (AA (pv 7) (AA (pv 4) (AA (pv 5) AC)))) AC))) AC))) AC))))))
  (AF (AO (AL hr G_62 T.m_62 (AA (AL hr G_71 T.m_71 (AA (pv 4) (AA (AI Ab (AM (B3 K) (pv 2) AD 1#1) (AM (B3 K) (pv 3) AD 1#1)) (AA (pv 6) AC)))) AC)))))))))))),?_⟩
 refine Au.el ok.v λtb h1 h2=>?_;refine Au.el ok'.v λtb' h1' h2'=>?_;have g2:=ok.g2;have g9:=ok.g9;refine Am λN hN=>?_;walk_at "";refine (CY (Ah.of h1) rfl (CY (Ah.of h1') rfl ⟨rfl,?_⟩));rw[qE (λy=>y rfl)];refine hN _ _ ?_;clear hN N;refine Am λN hN=>?_;walk_at "";refine⟨r,g,lo,g6,m,rfl,ok,λlowx Mx hWx r1 H1 e1 ok1=>hN _ _ ?_⟩;clear hN N;obtain⟨rfl,rfl⟩:=hW.uniq hWx;refine Am λN hN=>?_;walk_at "";refine⟨r',g,lo',tab',m',rfl,ok'.same e1,λlowx Mx hWx r2 H2 e2 ok2=>hN _ _ ?_⟩;clear hN N;obtain⟨rfl,rfl⟩:=hW'.uniq hWx;have e12:=e1.trans e2;have ok1:=ok1.same e2;refine Am λN hN=>?_;walk_at "";refine (CY (Ah.of (e12 _ _ h1)) rfl (hN _ _ ?_));clear hN N;refine Am λN hN=>?_;walk_at "";refine⟨r1,g,_,_,M,rfl,g2,g9,ok1.v,ok1.len,r2,g,_,_,M',rfl,g2,g9,ok2.v,ok2.len,?_⟩;refine⟨_,rfl,_,rfl,hN _ _ ?_⟩;clear hN N;have M1:=hW.one;have M1':=hW'.one;obtain⟨Mx,hMx⟩:∃Mx:Nat,Mx=M+M'-1:=⟨_,rfl⟩;rw[<-hMx]at h kw;rw[show (M:Int)+(M':Int)-1=((Mx:Nat):Int) by lia];have gp:=RW.Ag g2 Mx;refine CK (λσ HX=>g^Mx<=256/\σ=[some (.ref r),some (.ref r'),some (.ref r1),some (.ref r2),some (.int g),some (.int ((Mx:Nat):Int)),none,none]/\HX=H2) (λN hN=>?_) ?_
 ·walk_at "";refine⟨g,_,rfl,g2,g9,by lia,λhle=>⟨_,rfl,?_⟩,λhgt rr hrr=>⟨_,rfl,?_⟩⟩
  ·rw[qE 0#1];rw[bM]at hle;exact hN _ _ ⟨hle,rfl,rfl⟩
  ·rw[qF hrr];rw[bM]at hgt;exact⟨by decide,kw hgt _ e12⟩
 rintro _ hGo σ HX ⟨hle,rfl,rfl⟩;refine hGo _ _ ?_;have h:=h hle
 have Mx8:Mx<=8:=by
  by_cases z:Mx<=8
  ·exact z
  ·exfalso;have a:=Bx g2 (show 9<=Mx by lia)
   have b:512<=g^9:=by
    obtain z|z|z|z|z|z|z|z:g=2\/g=3\/g=4\/g=5\/g=6\/g=7\/g=8\/g=9:=by have:=ok.g9;lia
    all_goals rw[z];decide
   lia
 refine Am λN hN=>?_;walk_at "";refine⟨cS _,λp hp=>hN _ _ ?_⟩;clear hN N;have eN:=AH.new hp (.lst []);obtain⟨T1,hT1⟩:∃T1,T1=Cy g lo g6 m low M:=⟨_,rfl⟩;obtain⟨T2,hT2⟩:∃T2,T2=Cy g lo' tab' m' low' M':=⟨_,rfl⟩;rw[<-hT1,<-hT2]at h;rw[<-hT1]at ok1;rw[<-hT2]at ok2;refine CK (λσ HY=>(∃x7,σ=[some (.ref r),some (.ref r'),some (.ref r1),some (.ref r2),some (.int g),some (.int ((Mx:Nat):Int)),some (.ref p),x7])/\AH HX HY/\HY p=some (.lst ((D5 g T1 M T2 Mx).map V.int))) (λN hN=>?_) ?_
 ·refine⟨_,rfl,_,rfl,g,_,rfl,g2,g9,by lia,λ_=>⟨_,rfl,?_,?_,?_⟩,λhgt=>?_⟩
  ·rw[bM];lia
  ·rw[bM];lia
  ·rw[bM];refine BP (n:=(g^Mx).toNat) (λi σ HY=>(∃x7,σ=[some (.ref r),some (.ref r'),some (.ref r1),some (.ref r2),some (.int g),some (.int ((Mx:Nat):Int)),some (.ref p),x7])/\AH HX HY/\HY p=some (.lst (((List.range i).map λn:Nat=>T2.getD (Ao g (Aw g T1 M (Ai g (n:Int) Mx))).toNat 0).map V.int))) ⟨⟨none,rfl⟩,eN,AE⟩ ?_ λσ HY z=>hN _ _ z
   refine D9 ?_;intro _ _ i _ hGo σ HY hi hRq;rcases hRq with⟨⟨x7,rfl⟩,eY,hpY⟩;refine hGo _ _ ?_;have wlen:=BE g (i:Int) Mx;have wlt:=By g2 (i:Int) Mx;have ll:=BD g T1 M (Ai g (i:Int) Mx);have llt:=F1 g2 ok1.tb M (Ai g (i:Int) Mx);walk_at "";rw[b7];refine⟨.inl ⟨_,Ae.of hpY⟩,(i:Int),g,_,rfl,g2,g9,by lia,by lia,λhb=>?_,λ_ _ pw H3 n3=>?_⟩
   ·rw[bM]at hb;lia
   rw[bM]at n3;have e3:=eY.trans n3.1;refine⟨r1,pw,g,low,T1,M,Ai g (i:Int) Mx,rfl,g2,g9,ok1.v.same e3,ok1.len,M1,Ae.of n3.2.2,wlt,by rw[wlen];lia,λp4 H4 n4=>?_⟩;have e4:=e3.trans n4.1;refine⟨r2,p4,g,low',T2,M',_,rfl,g2,g9,ok2.v.same e4,ok2.len,Ae.of n4.2.2,FE,?_⟩;have bl:=HI llt;rw[ll,wlen,show Mx+1-M=M' by lia]at bl;rw[bl];intro ms hms H5 e5;have:=Eo hms;subst this;have e5':=(n3.1.trans n4.1).trans e5;refine⟨_,e5' _ _ hpY,?_,⟨_,rfl⟩,(eY.trans e5').into hp,?_⟩
   ·rw[bG,bG,bn];exact AY 0#1
   ·rw[AE,Ay,bS];rfl
  ·rw[bM]at hgt;lia
 intro _ hGo σ HY hRq;rcases hRq with⟨⟨x7,rfl⟩,eY,hpY⟩;refine hGo _ _ ?_;refine Au.el (ok1.v.same eY) λtb1 k1 k1'=>?_;refine Au.el (ok2.v.same eY) λtb2 k2 k2'=>?_;walk_at "";have jl:=KR g2 T1 M T2 Mx;have jb:=SB g2 T1 M ok2.tb Mx;refine (CY (Ah.of k1) rfl (CY (Ah.of k2) rfl ⟨_,rfl,_,rfl,Fk (E:=E0) g2 g9 0#1 jl hle jb (.inl hpY) λr3 H3 e3 hv=>?_⟩));exact⟨r3,g,_,_,Mx,rfl,⟨hv,g2,g9,by lia,Mx8,jl,hle,jb⟩,λlj Mj hj rj H4 e4 okj=>h lj Mj hj rj H4 (((e12.trans eY).trans e3).trans e4) okj⟩
theorem U2:AJ ["framed","steps","number","told"] ["framed"] (AG aJ):=CD
theorem ae(T:CC K mg t)(G_68:Ak P w K mg base 1 t.f_68 ["one"] (Cq)):Ak P w K mg base 2 t.f_3 ["framed"] (Gn):=by
 refine Al T.d_3 U2 λvs H Q E h=>?_;rcases h with⟨r,g,lo,g6,m,rfl,ok,q⟩;refine⟨rfl,λgu A outer s hr=>?_⟩
 refine⟨_,(AB (EH (iy:=1) (fv:=[]) (cl:=[]) rfl U2.nd rfl (Or.inl rfl) (Az rfl T.z_range (AA 0#2 AC)) 0#3 0#3 (by decide +kernel) rfl (by decide +kernel) rfl trivial 0#3 trivial 0#8 (λ_ _ _ _=>DM) (λ_ _ _ _=>(BC AC)))
  (AB (A9 PassesOwn.never rfl (F0 rfl T.z_enumerate (AA 0#2 AC)) (El rfl (BJ (BF 2 U2) (BJ (BF 3 U2) C4))) (AF (A4 (Q0 K (AM (DE K) (pv 1) (pv 3) 1#1) (AA (Cb (AA (AI BG (pv 2) 0#2) (AA (AI Af (pv 2) (AL hr G_68 T.m_68 (AA (pv 0) AC))) AC))) AC)))))
  (AF (AO (pv 1))))),?_⟩
 refine Au.el ok.v λtb h1 h2=>?_;have g2:=ok.g2;have g9:=ok.g9;have hl:=ok.len;have sz:=ok.sz;have gn:((g.toNat:Nat):Int)=g:=by lia
 obtain⟨h,hh⟩:∃h,h=g6.length/g.toNat:=⟨_,rfl⟩;rw[<-hh]at q;have G1:1<=g.toNat:=by lia
 refine Am λN hN=>?_;refine⟨_,rfl,r,_,0,_,rfl,rfl,Ah.of h1,rfl,g,rfl,by lia,by lia,λD hD=>?_⟩;refine Bu (n:=g.toNat) (λi gt Hx=>∃qs:List qR,gt=qs.map V.ref/\qs.length=i/\qs.Nodup/\AH H Hx/\Hx D=some (.lst gt)/\∀q∈qs,H q=none/\Hx q=some (.lst [])/\q≠D) ⟨[],rfl,rfl,dm,AH.new hD _,AE,λq hq=>by cases hq⟩ ?_ ?_
 ·refine EW ?_;intro i _ hGo gt Hx hi hRq;rcases hRq with⟨qs,rfl,ql,qn,ex,hDx,hqs⟩;refine hGo _ _ ?_;refine⟨cS _,λp hp=>?_⟩;have ep:=AH.new hp (.lst []);have pD:p≠D:=λz=>by rw[z,hDx]at hp;cases hp
  have pq:¬p∈qs:=λz=>by have:=(hqs p z).2.1;rw[hp]at this;cases this
  refine⟨ep _ _ hDx,?_,qs++[p],by rw[bS];rfl,by rw[bN,ql];rfl,?_,(ex.trans ep).into hD,AE,λq hq=>?_⟩
  ·rw[bG,ql];exact AY 0#1
  ·rw[dF];exact⟨qn,by simp,λa ha b hb z=>pq (by rw[List.mem_singleton.mp hb]at z;rw[<-z];exact ha)⟩
  ·rcases bQ.mp hq with z|z
   ·obtain⟨a1,a2,a3⟩:=hqs q z;exact⟨a1,by rw[AK a3];exact ep _ _ a2,a3⟩
   ·have:=bV.mp z;subst this;exact⟨ex.free hp,by rw[AK pD];exact AE,pD⟩
 intro gt H1 hRq;rcases hRq with⟨qs,rfl,ql,qn,e1,hD1,hqs⟩;refine hN _ _ ?_;clear hN N;have np:¬D∈qs:=λz=>(hqs D z).2.2 rfl
 have v0:SM H1 D qs g.toNat g6 h 0:=⟨hD1,ql,λs q hq=>⟨[],(hqs q (bT hq)).2.1,rfl,λi t k a=>by cases a⟩⟩;refine CK (λσ HX=>(∃x2 x3,σ=[some (.ref r),some (.ref D),x2,x3])/\AH H HX/\SM HX D qs g.toNat g6 h g6.length) (λN hN=>?_) ?_
 ·refine⟨_,rfl,r,_,2,_,rfl,rfl,Ah.of (e1 _ _ h1),rfl,tb,_,rfl,Ah.of (e1 _ _ h2),?_⟩;refine GY (xs:=g6.map V.int) (λi σ HX=>(∃x2 x3,σ=[some (.ref r),some (.ref D),x2,x3])/\AH H HX/\SM HX D qs g.toNat g6 h i) ⟨⟨none,none,rfl⟩,e1,v0⟩ (λi σ HX _ z=>Ah.of (z.2.1 _ _ h2)) ?_ ?_
  ·rintro i x p2 σ HX hx ⟨⟨x2,x3,rfl⟩,eX,vX⟩ hp2;obtain⟨n,hn,rfl⟩:=Ch hx;have hi:i<g6.length:=(bJ.mp hn).1;have nb:=ok.tb n (bT hn);have ng:g6.getD i 0=n:=by rw[bH,hn];rfl
   have e2:=eX.trans (AH.new hp2 (.tup [.int ((i:Nat):Int),.int n]));have v2:=vX.same (AH.new hp2 (.tup [.int ((i:Nat):Int),.int n]));refine⟨p2,_,rfl,Ah.of AE,rfl,_,_,rfl,_,_,rfl,rfl,?_⟩;generalize Ad HX p2 (.tup [.int ((i:Nat):Int),.int n])=HT at e2 v2⊢;obtain⟨s',rfl⟩:∃s':Nat,n=(s':Int):=⟨n.toNat,by lia⟩;obtain⟨q',hq'⟩:∃q',qs[s']?=some q':=⟨_,bI (by rw[ql];lia)⟩;rcases v2.e s' q' hq' with⟨ts,t1,t2,t3⟩;have ei:(i:Int)/g=((i/g.toNat:Nat):Int):=by rw[dP,gn]
   have em:(i:Int)%((g6.length/g.toNat:Nat):Int)=((i%h:Nat):Int):=by rw[<-hh,cD]
   have hd:=A8 g2 hl ok.m1;have hp0:=RW.Ag g2 (m-1);walk_at "";refine (DZ (Ae.of v2.l) (Cc (by rw[bO,hq'];rfl)) ?_);refine⟨Or.inl ⟨_,Ae.of t1⟩,CY (Ah.of (e2 _ _ h1)) rfl ⟨g,rfl,by lia,by lia,r,g,lo,g6,m,rfl,ok.same e2,_,rfl,by lia,by decide,?_⟩⟩;rw[ei,em];intro p3 hp3;have e3:=AH.new hp3 (.tup [.int ((i/g.toNat:Nat):Int),.int ((i%h:Nat):Int)]);refine⟨q',rfl,_,e3 _ _ t1,?_,⟨_,rfl⟩,(e2.trans e3).into (hqs q' (bT hq')).1,(v2.same e3).put qn np hq' ng (e3 _ _ t1) t2 (λi t k a b=>e3 _ _ (t3 i t k a b)) AE⟩;rw[bG,t2];have:=SI g6 (s':Int) i;exact AY 0#1
  ·intro σ HX hRq;rcases hRq with⟨⟨x2,x3,rfl⟩,eX,vX⟩;rw[bG]at vX;exact hN _ _ ⟨⟨_,_,rfl⟩,eX,vX⟩
 intro _ hGo σ HX hRq;rcases hRq with⟨⟨x2,x3,rfl⟩,eX,vX⟩;refine hGo _ _ ?_;walk_at "";exact q D qs _ eX vX
theorem Jq:AJ ["many","steps","ring","start","ways","sign","further","begin","end"] ["many","steps","ring","start"] (AG XG):=CD
theorem ZO(T:CC K mg t) :Ak P w K mg base 1 t.f_24 ["many","steps","ring","start"] (LR K):=by
 refine Al T.d_24 Jq λvs H Q E h=>?_;rcases h with⟨p,a,ps,G,h,u,g6,ns,rfl,hv,tl,G1,hu,h9,hS,hb,q⟩;refine⟨rfl,λgu A outer s hr=>?_⟩
 refine⟨_,(AB (AN 4 Jq (AI NY (BC (Ac AC)) (pv 0)))
  (AB (NT AD (Q9 (pv 4) (pv 3) Lw))
  (AB (A9 PassesOwn.never rfl (Q6 K (pv 2)) (BF 5 Jq) (AB (AN 6 Jq (AI NY (BC (Ac AC)) (pv 0)))
  (AB (A9 PassesOwn.never rfl (Q6 K (AM (DE K) (pv 1) (pv 5) 1#1)) (El rfl (BJ (BF 7 Jq) (BJ (BF 8 Jq) C4))) (AF (NT (AI Ab (AM (DE K) (pv 6) (pv 8) 1#1) (AM (DE K) (pv 4) (pv 7) 1#1)) (Q9 (pv 6) (pv 8) Lw))))
  (AF (AN 4 Jq (pv 6))))))
  (AF (AO (AM (DE K) (pv 4) (pv 3) 1#1)))))),?_⟩
 have hns:(ns.map V.int).length=ns.length:=bG ..;refine Am λN hN=>?_;walk_at "";refine⟨by decide,λp1 hp1=>K7 AE 0#1 0#1 λp2 H2 e2 f2 h2=>hN _ _ ?_⟩;clear hN N;have e12:=(AH.new hp1 (.lst [V.int 0])).trans e2;have np2:H p2=none:=(AH.new hp1 (.lst [V.int 0])).free f2;rw[bM]at h2;refine Am λN hN=>?_;walk_at "";refine⟨_,rfl,_,rfl,p2,_,_,u,rfl,rfl,h2,(by rw[cL];exact K8 hu),hN _ _ ?_⟩;clear hN N;have e13:=e12.into np2 (o:=.lst ((List.replicate h (V.int 0)).set u (V.int 1)))
 have h3:Ad H2 p2 (.lst ((List.replicate h (V.int 0)).set u (V.int 1))) p2=some (.lst ((Gk G g6 h [] u).map V.int)):=by rw[AE,<-SK G g6 hu,List.map_set,List.map_replicate]
 generalize Ad H2 p2 (.lst ((List.replicate h (V.int 0)).set u (V.int 1)))=H3 at e13 h3⊢;clear h2 e12 np2 e2 f2 hp1;refine CK (λσ HX=>∃(pw:qR) (x5 x6 x7 x8:Option V),σ=[some (.int ((h:Nat):Int)),some (.ref p),some (.ref a),some (.int ((u:Nat):Int)),some (.ref pw),x5,x6,x7,x8]/\AH H HX/\HX pw=some (.lst ((Gk G g6 h ns u).map V.int))) (λN hN=>?_) ?_
 ·refine⟨_,rfl,a,rfl,⟨_,e13.seq hS⟩,?_⟩;refine CZ (xs:=ns.map V.int) (λi σ HX=>∃(pw:qR) (x5 x6 x7 x8:Option V),σ=[some (.int ((h:Nat):Int)),some (.ref p),some (.ref a),some (.int ((u:Nat):Int)),some (.ref pw),x5,x6,x7,x8]/\AH H HX/\HX pw=some (.lst ((Gk G g6 h (ns.take i) u).map V.int))) ⟨p2,none,none,none,none,rfl,e13,h3⟩ (λi σ HX _ z=>by obtain⟨_,_,_,_,_,_,z,_⟩:=z;exact z.seq hS) ?_ ?_
  ·clear h3 e13 H3;intro i x σ HX hx hRq;rcases hRq with⟨pw,x5,x6,x7,x8,rfl,eX,hX⟩;obtain⟨n,hn,rfl⟩:=Ch hx;have nb:=hb n (bT hn);obtain⟨s',rfl⟩:∃s':Nat,n=(s':Int):=⟨n.toNat,by lia⟩;refine Am λN2 hN2=>?_;walk_at "";refine⟨by decide,λp3 hp3=>K7 AE 0#1 0#1 λp4 H4 e4 f4 h4=>hN2 _ _ ?_⟩;clear hN2 N2;rw[bM]at h4;have ex4:=(AH.new hp3 (.lst [V.int 0])).trans e4;have np4:HX p4=none:=(AH.new hp3 (.lst [V.int 0])).free f4;have eX4:=eX.trans ex4;have v4:=hv.same eX4;obtain⟨q',hq'⟩:∃q',ps[s']?=some q':=⟨_,bI (by rw[hv.n];lia)⟩;rcases hv.e s' q' hq' with⟨ts,t1,t2,t3⟩;have hw4:=ex4 _ _ hX;have z4:H4 p4=some (.lst ((Gj h G (Gk G g6 h (ns.take i) u) ((Ef g6 (s':Int) g6.length).take 0)).map V.int)):=by rw[h4,List.take_zero,SJ,List.map_replicate]
   refine CK (λσ HY=>(∃x7 x8:Option V,σ=[some (.int ((h:Nat):Int)),some (.ref p),some (.ref a),some (.int ((u:Nat):Int)),some (.ref pw),some (.int ((s':Nat):Int)),some (.ref p4),x7,x8])/\AH HX HY/\HY p4=some (.lst ((Gj h G (Gk G g6 h (ns.take i) u) (Ef g6 (s':Int) g6.length)).map V.int))) (λN2 hN2=>?_) ?_
   ·refine⟨_,rfl,_,rfl,p,_,_,_,rfl,rfl,Ae.of v4.l,Cc (by rw[bO,hq'];rfl),q',rfl,⟨_,Ae.of (eX4 _ _ t1)⟩,?_⟩;refine CZ (xs:=ts.map V.ref) (λj σ HY=>(∃x7 x8:Option V,σ=[some (.int ((h:Nat):Int)),some (.ref p),some (.ref a),some (.int ((u:Nat):Int)),some (.ref pw),some (.int ((s':Nat):Int)),some (.ref p4),x7,x8])/\AH HX HY/\HY p4=some (.lst ((Gj h G (Gk G g6 h (ns.take i) u) ((Ef g6 (s':Int) g6.length).take j)).map V.int))) ⟨⟨_,_,rfl⟩,ex4,z4⟩ (λj σ HY _ z=>Ae.of (z.2.1 _ _ (eX _ _ t1))) ?_ ?_
    ·refine NG ?_;intro _ _ j y _ hGo σ HY hy hRq;rcases hRq with⟨⟨x7,x8,rfl⟩,eY,hY⟩;refine hGo _ _ ?_
     obtain⟨t',ht',rfl⟩:∃t',ts[j]?=some t'/\y=.ref t':=by
      rw[bO]at hy;cases z:ts[j]? with
      |none=>rw[z]at hy;cases hy
      |some t'=>rw[z]at hy;exact⟨t',rfl,(Option.some.inj hy).symm⟩
     have jl:=(bJ.mp ht').1;obtain⟨k,hk⟩:∃k,(Ef g6 (s':Int) g6.length)[j]?=some k:=⟨_,bI 0#1⟩;have kl:=UP (bT hk);have kd:k/G<h:=cc (by rw[dS,<-tl];exact kl);have km:k%h<h:=cJ _ 0#1;refine⟨t',_,rfl,Ah.of ((eX.trans eY) _ _ (t3 j t' k ht' hk)),rfl,_,_,rfl,_,_,rfl,rfl,?_⟩;walk_at "";refine (DZ (Ae.of hY) (Dy (by rw[D6];exact km)) (DZ (Ae.of (eY _ _ hX)) (Dy (by rw[JI];exact kd)) ?_));refine⟨_,rfl,_,rfl,_,rfl,_,rfl,p4,_,_,k%h,rfl,rfl,hY,(by rw[bG,D6];exact K8 km),⟨_,_,rfl⟩,eY.into np4,?_⟩;rw[AE,<-List.map_set,Qc 0#1,dg,hk];rfl
    ·intro σ HY hRq;rcases hRq with⟨⟨x7,x8,rfl⟩,eY,hY⟩;rw[bG,t2,cT]at hY;exact hN2 _ _ ⟨⟨_,_,rfl⟩,eY,hY⟩
   intro _ hGo σ HY hRq;rcases hRq with⟨⟨x7',x8',rfl⟩,eY,hY⟩;refine hGo _ _ ?_;walk_at "";rw[tl,SL G1 g6 (s':Int) (ns.take i) hu]at hY;refine⟨eX.trans eY,?_⟩;rw[hY,dg,hn];rfl
  ·intro σ HX hRq;rcases hRq with⟨pw,x5,x6,x7,x8,rfl,eX,hX⟩;rw[hns,cT]at hX;exact hN _ _ ⟨pw,x5,x6,x7,x8,rfl,eX,hX⟩
 intro _ hGo σ HX hRq;rcases hRq with⟨pw,x5,x6,x7,x8,rfl,eX,hX⟩;refine hGo _ _ ?_;walk_at "";refine (DZ (Ae.of hX) (Dy (by rw[JI];exact hu)) ?_);rw[LQ G g6 ns u hu];exact q _ eX
theorem U3:AJ ["one","ring","framed","many","steps"] ["one","ring"] (AG aK):=CD
theorem af(T:CC K mg t)(G_67:Ak P w K mg base 8 t.f_67 ["one"] (F8 t.c_49))(G_1:Ak P w K mg base 4 t.f_1 ["word","signs","fewest"] (E7 K))(G_68:Ak P w K mg base 1 t.f_68 ["one"] (Cq))(G_3:Ak P w K mg base 2 t.f_3 ["framed"] (Gn))(G_24:Ak P w K mg base 1 t.f_24 ["many","steps","ring","start"] (LR K)):Ak P w K mg base 9 t.f_6 ["one","ring"] (Jl K):=by
 refine Al T.d_6 U3 λvs H Q E h=>?_;rcases h with⟨r,a,g,lo,g6,m,lf,tf,mf,ns,rfl,ok,fw,s9,hS,hns,n1,h⟩;refine⟨rfl,λgu A outer s hr=>?_⟩
 refine⟨_,(AB (AN 2 U3 (AL hr G_67 T.m_67 (AA (pv 0) AC)))
  (AB (A4 (AL hr G_1 T.m_1 (AA (pv 1) (AA (AM (B3 K) (pv 2) AD 1#1) (Ac AC)))))
  (AB (AN 3 U3 (AL hr G_68 T.m_68 (AA (pv 2) AC)))
  (AB (AN 4 U3 (AL hr G_3 T.m_3 (AA (pv 2) AC)))
  (AF (AO (Ap (Er rfl) rfl T.z_sum gO (AA (F7 [(4,"steps"),(1,"ring"),(3,"many")] [("steps",_),("ring",_),("many",_)] (Az rfl T.z_range (AA (pv 3) AC)) (λ_ _ _ _=>DM) (λ_ _ _ _=>(AL hr G_24 T.m_24 (AA (pv 3) (AA (pv 1) (AA (pv 2) (AA (pv 0) AC))))))) AC)))))))),?_⟩
 have g2:=ok.g2;have g9:=ok.g9;refine Am λN hN=>?_;walk_at "";refine⟨r,g,lo,g6,m,lf,tf,mf,rfl,ok,fw,λs9 r' H1 e1 ok1=>hN _ _ ?_,λs9 H' e'=>?_⟩
 case refine_2=>lia
 clear hN N;refine Au.el ok1.v λtb k1 k2=>?_;refine Am λN hN=>?_;walk_at "";refine (CY (Ah.of k1) rfl ⟨a,ns,g,rfl,e1.seq hS,hns,n1,λH2 e2=>hN _ _ ?_⟩);clear hN N;have e12:=e1.trans e2;have ok2:=ok1.same e2;have hd:=A8 g2 ok1.len ok1.m1;have hp0:=RW.Ag g2 (mf-1);have gn:((g.toNat:Nat):Int)=g:=by lia
 obtain⟨hh,hhh⟩:∃hh,hh=tf.length/g.toNat:=⟨_,rfl⟩;refine Am λN hN=>?_;walk_at "";refine⟨r',g,lf,tf,mf,rfl,ok2,hN _ _ ?_⟩;clear hN N;refine Am λN hN=>?_;walk_at "";refine⟨r',g,lf,tf,mf,rfl,ok2,λp ps H3 e3 v3=>hN _ _ ?_⟩;clear hN N;rw[<-hhh]at v3 hd⊢;have e13:=e12.trans e3;refine⟨_,rfl,_,rfl,by lia,by lia,λD hD=>?_⟩;rw[bM];refine Bu (n:=hh) (λi gt Hx=>gt=((List.range i).map λv:Nat=>Gg g.toNat tf hh ns v v).map V.int/\AH H3 Hx/\Hx D=some (.lst gt)) ⟨rfl,AH.new hD _,AE⟩ ?_ ?_
 ·refine EW ?_;rintro i _ hGo gt Hx hi ⟨rfl,ex,hDx⟩;refine hGo _ _ ?_;walk_at "";rw[b7];refine⟨p,a,ps,g.toNat,hh,i,tf,ns,rfl,v3.same ex,by lia,by lia,hi,by lia,(e13.trans ex).seq hS,λn hn=>by have:=hns n hn;lia,λH4 e4=>⟨e4 _ _ hDx,?_,?_,(ex.trans e4).into hD,AE⟩⟩
  ·rw[bG,bG,bn];exact AY 0#1
  ·rw[Ay,bS];rfl
 rintro gt H4 ⟨rfl,e4,h4⟩;refine⟨D,_,rfl,Ae.of h4,?_⟩;have fin:=h H4 (e13.trans e4)
 have eR:Gm g g6 ns=((List.range hh).map λv:Nat=>Gg g.toNat tf hh ns v v).sum:=by obtain⟨al,tl⟩:=fw.alike g2 ok.len;rw[<-Mn g2 al tl (by have:=fw.two;lia) ok.len ok.m1 n1,hhh];rfl
 rw[<-eR];exact fin
theorem ai:AJ ["_law_script","_law_k"] ["_law_script","_law_k"] (AG aL):=CD
theorem aj(T:CC K mg t) :Ak P w K mg base 1 t.f_4 ["_law_script","_law_k"] (Nd K):=by
 refine Al T.d_4 ai λvs H Q E h=>?_;rcases h with⟨a,ns,k,rfl,hS,h63,q⟩;refine⟨rfl,λgu A outer s hr=>?_⟩
 refine⟨_,(AB (A3 (AQ Du (pv 1) (Ap (NF K) rfl T.z_len cR (AA (pv 0) AC)) (AR _)) (AF (AO (AM (DE K) (pv 0) (pv 1) 1#1))) AX)
  (AF (AO AD))),?_⟩
 walk_at "";refine⟨_,.inl hS,?_⟩;rw[bG]
 by_cases h:(k:Int)<(ns.length:Int)
 ·rw[qF h];have hk:k<ns.length:=by lia
  refine⟨a,_,k,.int (ns.getD k 0),rfl,rfl,hS,Cc ?_,q⟩;rw[bO,bI hk,bH,bI hk];rfl
 ·rw[qE h];have e:ns.getD k 0=0:=by rw[bH,fJ 0#1];rfl
  rw[e]at q;exact q
theorem TY:AJ ["_law_cell","_law_many","_law_found","_law_number","_law_k"] ["_law_cell","_law_many"] (AG aN):=CD
theorem ak(T:CC K mg t) :Ak P w K mg base 1 t.f_9 ["_law_cell","_law_many"] (Od):=by
 refine Al T.d_9 TY λvs H Q E h=>?_;obtain⟨c,m,rfl,m0,m3,q⟩:=h;refine⟨rfl,λgu A outer s hr=>?_⟩
 refine⟨_,(AB (AN 2 TY (BC AC))
  (AB (AN 3 TY (AI Ab (AI Af (pv 0) AD) AD))
  (AB (A9 PassesOwn.never rfl (Az rfl T.z_range (AA (pv 1) AC)) (BF 4 TY) (AB (AN 3 TY (AI Af (AI Ab (AI Ab (AI BM (pv 3) AD) (AI BM (pv 4) (pv 4))) AD) AD))
  (AF (A4 (Q0 K (pv 2) (AA (AI BG (pv 3) AD) AC))))))
  (AF (AO (pv 2)))))),?_⟩
 walk_at "";refine⟨cS _,λp hp=>⟨by decide,?_⟩⟩;refine⟨_,rfl,m,rfl,by lia,by lia,?_⟩;refine BP (n:=m.toNat) (λi σ H1=>∃(x4:Option V),σ=[some (.int c),some (.int m),some (.ref p),some (.int (Qx c i)),x4]/\H1=Ad H p (.lst ((J4 c i).map V.int))) ⟨none,rfl,rfl⟩ ?_ ?_
 ·refine D9 ?_;rintro _ _ i _ hGo σ H1 hi ⟨x4,rfl,rfl⟩;refine hGo _ _ ?_;walk_at "";refine⟨.inr ⟨by decide,by decide⟩,.inl ⟨by lia,by lia⟩,by decide,.inl ⟨_,Ae.of AE⟩,by decide,by decide,_,AE,?_,?_,?_⟩
  ·rw[bG,NC];exact AY 0#1
  ·rw[b7];rfl
  ·rw[Db,b7];unfold J4;rw[Ay,bS];rfl
 ·rintro σ H1 ⟨x4,rfl,rfl⟩;walk_at "";exact q p _ (AH.new hp _) hp AE
theorem Pw:AJ ["_law_signs","_law_many","_law_size","_law_k"] ["_law_signs","_law_many"] (AG XH):=CD
theorem ZP(T:CC K mg t) :Ak P w K mg base 1 t.f_16 ["_law_signs","_law_many"] (Hj):=by
 refine Al T.d_16 Pw λvs H Q E h=>?_;rcases h with⟨g,m,rfl,g2,g9,m0,m3,q⟩;refine⟨rfl,λgu A outer s hr=>?_⟩
 refine⟨_,(AB (AN 2 Pw AD)
  (AB (A9 PassesOwn.never rfl (Az rfl T.z_range (AA (pv 1) AC)) (BF 3 Pw) (AF (AN 2 Pw (AI BM (pv 2) (pv 0)))))
  (AF (AO (pv 2))))),?_⟩
 walk_at "";refine⟨_,rfl,m,rfl,by lia,by lia,?_⟩;refine BP (n:=m.toNat) (λi σ H1=>∃x,σ=[some (.int g),some (.int m),some (.int (g^i)),x]/\H1=H) ⟨none,by rw[cF],rfl⟩ ?_ ?_
 ·refine D9 ?_;rintro _ _ i _ hGo σ H1 hi ⟨x,rfl,rfl⟩;refine hGo _ _ ?_;walk_at "";refine⟨.inr ⟨by lia,by lia⟩,?_⟩;rw[cB];exact⟨rfl,_,rfl⟩
 ·rintro σ H1 ⟨x,rfl,rfl⟩;walk_at "";exact q
theorem NR:AJ ["_law_number","_law_signs","_law_many","_law_word_here","_law_k"] ["_law_number","_law_signs","_law_many"] (AG XI):=CD
theorem ZQ(T:CC K mg t) :Ak P w K mg base 1 t.f_34 ["_law_number","_law_signs","_law_many"] (Hl):=by
 refine Al T.d_34 NR λvs H Q E h=>?_;rcases h with⟨n,g,m,rfl,g2,g9,m0,m3,q⟩;refine⟨rfl,λgu A outer s hr=>?_⟩
 refine⟨_,(AB (AN 3 NR (BC AC))
  (AB (A9 PassesOwn.never rfl (Az rfl T.z_range (AA (pv 2) AC)) (BF 4 NR) (AB (AN 3 NR (AI RJ (BC (AA (AI Af (pv 0) (pv 1)) AC)) (pv 3)))
  (AF (AN 0 NR (AI BG (pv 0) (pv 1))))))
  (AF (AO (pv 3))))),?_⟩
 walk_at "";refine⟨cS _,λp hp=>?_⟩;refine⟨_,rfl,m,rfl,by lia,by lia,?_⟩;refine BP (n:=m.toNat) (λi σ H1=>∃p' x4,σ=[some (.int (dr g n i)),some (.int g),some (.int m),some (.ref p'),x4]/\Fa H H1 p' (Ai g n i)) ⟨p,none,rfl,AH.new hp _,hp,AE⟩ ?_ ?_
 ·refine D9 ?_;intro _ _ i _ hGo σ H1 hi hRq;rcases hRq with⟨p',x4,rfl,hN⟩;refine hGo _ _ ?_;walk_at "";refine⟨by lia,by decide,λp2 hp2=>?_⟩;have e2:=AH.new hp2 (.lst [V.int (dr g n i%g)]);refine O7 AE (e2 _ _ hN.2.2) ?_ λp3 H3 e3 f3 h3=>?_
  ·rw[bG,BE];simp only[List.length_cons,List.length_nil];lia
  refine⟨by lia,by lia,rfl,p3,rfl,(hN.1.trans e2).trans e3,(hN.1.trans e2).free f3,?_⟩;rw[h3];unfold Ai;rw[DN,List.reverse_append];rfl
 ·intro σ H1 hRq;rcases hRq with⟨p',x4,rfl,hN⟩;walk_at "";exact q p' H1 hN
theorem TZ:AJ ["_law_signs","_law_xs","_law_here","_law_there","_law_share"] ["_law_signs","_law_xs","_law_here","_law_there"] (AG XJ):=CD
theorem ZR(T:CC K mg t) :Ak P w K mg base 1 t.f_10 ["_law_signs","_law_xs","_law_here","_law_there"] (Dn 1):=by
 refine Al T.d_10 TZ λvs H Q E h=>?_;rcases h with⟨G,p,l,h,t,rfl,kg,xs,hh,ht,q⟩;refine⟨rfl,λgu A outer s hr=>?_⟩
 refine⟨_,(AB (AN 4 TZ (AM (DE K) (BC (Ac (Ac AC))) (CS Ie rfl T.z_int PyProof.Rows.boot_int (AA (U7 (Ca Bk (pv 0) AD (AR _)) (GO (IK (Ca Bk (pv 0) AD (AR _)) (GO (Ca Bk (AI Af (AM (DE K) (pv 1) AD 1#1) AD) AD (AR _)))))) AC)) 1#1))
  (AB (A3 (PW.pt (IJ (AQ Bk (pv 0) AD (AR _)) (Fo (AQ Bk (AI Af (AM (DE K) (pv 1) AD 1#1) AD) AD (AR _))))) (AF (AN 4 TZ AD)) AX)
  (AF (AO (AI Ab (AI BM (AI BG (pv 2) (pv 4)) (pv 4)) (AI Af (pv 3) (pv 4))))))),?_⟩
 have e10:=xs.at (i:=10) 0#8;have hG:G=4\/G=6\/G=8\/G=9:=by unfold KG at kg;lia
 clear kg;have hp:Eh 1 G l=if G=9\/(G=6/\xn l 10%2=1) then 3 else if G=8/\xn l 10%2=1 then 4 else 2:=rfl;have hf:∀s,GJ 1 G s h t=h/s*s+t%s:=λs=>rfl
 rw[qE 0#8,hf,hp]at q;clear hf hp;obtain⟨x,hx⟩:∃x,x=xn l 10:=⟨_,rfl⟩;rw[<-hx]at q e10;refine CK (λσ HX=>∃s:Nat,σ=[some (.int (G:Int)),some (.ref p),some (.int (h:Int)),some (.int (t:Int)),some (.int (s:Int))]/\AH H HX/\s=if G=9\/(G=6/\x%2=1) then 3 else 2) (λN hN=>?_) ?_
 ·walk_at "";refine⟨by decide,λa ha=>?_⟩;have e1:=AH.new ha (.lst [V.int 2,V.int 3]);have h1:Ad H a (.lst [V.int 2,V.int 3]) a=some (.lst [V.int 2,V.int 3]):=AE;generalize Ad H a (.lst [V.int 2,V.int 3])=H1 at e1 h1⊢
  by_cases c:G=9
  ·rw[qF 0#1];exact⟨_,.inr rfl,DZ (Ae.of h1) rfl (hN _ _ ⟨3,rfl,e1,(qF (.inl c)).symm⟩)⟩
  rw[qE 0#1]
  by_cases c6:G=6
  ·rw[qF 0#1];refine (DZ (Ae.of (e1 _ _ xs.1)) e10 ⟨_,rfl,by decide,_,.inr rfl,?_⟩)
   by_cases o:x%2=1
   ·rw[qF 0#1];exact (DZ (Ae.of h1) rfl (hN _ _ ⟨3,rfl,e1,(qF (.inr ⟨c6,o⟩)).symm⟩))
   ·rw[qE 0#1];exact (DZ (Ae.of h1) rfl (hN _ _ ⟨2,rfl,e1,(qE 0#1).symm⟩))
  ·rw[qE 0#1];exact⟨_,.inr rfl,DZ (Ae.of h1) rfl (hN _ _ ⟨2,rfl,e1,(qE 0#1).symm⟩)⟩
 intro _ hGo σ HX hRq;rcases hRq with⟨s,rfl,eX,hs⟩;refine hGo _ _ ?_;refine CK (λσ HY=>∃s:Nat,σ=[some (.int (G:Int)),some (.ref p),some (.int (h:Int)),some (.int (t:Int)),some (.int (s:Int))]/\AH H HY/\s=if G=9\/(G=6/\x%2=1) then 3 else if G=8/\x%2=1 then 4 else 2) (λN hN=>?_) ?_
 ·walk_at ""
  by_cases c:G=8
  ·rw[qF 0#1];refine (DZ (Ae.of (eX _ _ xs.1)) e10 ⟨_,rfl,by decide,?_⟩)
   by_cases o:x%2=1
   ·rw[qF 0#1];exact hN _ _ ⟨4,rfl,eX,by rw[qE 0#1,qF ⟨c,o⟩]⟩
   ·rw[qE 0#1];exact hN _ _ ⟨s,rfl,eX,by rw[hs,qE 0#1,qE 0#1,qE 0#1]⟩
  ·rw[qE 0#1];refine hN _ _ ⟨s,rfl,eX,?_⟩;rw[hs];split
   ·rfl
   ·rw[qE 0#1]
 intro _ hGo σ HY hRq;rcases hRq with⟨s,rfl,eY,hs⟩;refine hGo _ _ ?_;rw[<-hs]at q;have s4:s=2\/s=3\/s=4:=by rw[hs];split;exact .inr (.inl rfl);split;exact .inr (.inr rfl);exact .inl rfl
 walk_at "";refine⟨by lia,by lia,.inr ⟨by lia,by lia⟩,by lia,?_⟩;rw[show (h:Int)/(s:Int)*(s:Int)+(t:Int)%(s:Int)=((h/s*s+t%s:Nat):Int) by rw[cy,cx,dP,cD]];exact q _ eY
theorem ZS:AJ ["_law_signs","_law_xs","_law_here","_law_there"] ["_law_signs","_law_xs","_law_here","_law_there"] (AG XM):=CD
theorem ZT(T:CC K mg t) :Ak P w K mg base 1 t.f_15 ["_law_signs","_law_xs","_law_here","_law_there"] (Dn 2):=by
 refine Al T.d_15 ZS λvs H Q E h=>?_;rcases h with⟨G,p,l,h,t,rfl,kg,xs,hh,ht,q⟩;refine⟨rfl,λgu A outer s hr=>?_⟩
 refine⟨_,(AB (A3 (PW.pt (Fp (AQ Bk (pv 2) (AI BI (pv 0) AD) (AR _)) (Ej (AQ IN (pv 3) (AI BI (pv 0) AD) (AR _))))) (AF (AO (pv 2))) AX)
  (AF (AO (AI Af (AI Ab (AI Ab (pv 2) AD) (AI Af (AM (DE K) (pv 1) AD 1#1) (AI BI (pv 0) AD))) (AI BI (pv 0) AD))))),?_⟩
 have e10:=xs.at (i:=10) 0#8;have hG:3<=G/\G<=7:=by unfold KG at kg;lia
 have hf:GJ 2 G (Eh 2 G l) h t=if h=G-1\/t≠G-1 then h else (h+(1+xn l 10%(G-2)))%(G-1):=rfl;rw[qE 0#8,hf]at q;clear hf kg;have q:=q H (AH.refl _);walk_at ""
 by_cases c:h=G-1
 ·rw[qF 0#1];rw[qF (.inl c)]at q;exact q
 rw[qE 0#1]
 by_cases c2:t=G-1
 ·rw[qE 0#1];rw[qE 0#1]at q;refine (DZ (Ae.of xs.1) e10 ⟨_,rfl,by lia,by lia,?_⟩);rw[show ((h:Int)+1+((xn l 10:Nat):Int)%((G:Int)-2))%((G:Int)-1)=(((h+(1+xn l 10%(G-2)))%(G-1):Nat):Int) by rw[cD,cy,cy,cD,Int.natCast_sub 0#1,Int.natCast_sub 0#1,gf];rfl];exact q
 ·rw[qF 0#1];rw[qF (.inr c2)]at q;exact q
theorem Ta:AJ ["_law_signs","_law_xs","_law_here","_law_there","_law_unit","_law_part"] ["_law_signs","_law_xs","_law_here","_law_there"] (AG XN):=CD
theorem ZU(T:CC K mg t) :Ak P w K mg base 1 t.f_31 ["_law_signs","_law_xs","_law_here","_law_there"] (Dn 4):=by
 refine Al T.d_31 Ta λvs H Q E h=>?_;rcases h with⟨G,p,l,h,t,rfl,kg,xs,hh,ht,q⟩;refine⟨rfl,λgu A outer s hr=>?_⟩
 refine⟨_,(AB (A3 (AQ Bk (pv 0) AD (AR _)) (AB (AN 4 Ta (AI Ab (AI Ab AD (AI Af (AM (DE K) (pv 1) AD 1#1) AD)) (AI BM (AI Af (AM (DE K) (pv 1) AD 1#1) AD) AD)))
  (AF (AO (AI Af (AI Ab (AI Ab (AI BM (pv 4) (pv 2)) (AI BM (AI BM (AI Af (AM (DE K) (pv 1) AD 1#1) AD) AD) (pv 3))) (AM (DE K) (pv 1) AD 1#1)) AD)))) AX)
  (AB (AN 5 Ta (AI BM (AI Af (AM (DE K) (pv 1) AD 1#1) (AI BG (pv 0) AD)) AD))
  (AF (AO (AI Af (AI Ab (AI Ab (AI BM (AI Ab AD (AI BM (AI Af (AM (DE K) (pv 1) AD 1#1) AD) AD)) (pv 2)) (AI BM (pv 5) (pv 3))) (AM (DE K) (pv 1) AD 1#1)) (pv 0)))))),?_⟩
 have e10:=xs.at (i:=10) 0#8;have e11:=xs.at (i:=11) 0#8;have e12:=xs.at (i:=12) 0#8;have e13:=xs.at (i:=13) 0#8;have hG:G=4\/G=8\/G=9:=by unfold KG at kg;lia
 have hf:∀s,GJ 4 G s h t=(s/16*h+s%16*t)%G:=λs=>rfl
 rw[qF rfl,hf,Nat.mod_add_mod]at q;clear hf kg;have q:=q H (AH.refl _);walk_at ""
 by_cases c:G=9
 ·rw[qF 0#1];refine (DZ (Ae.of xs.1) e10 ⟨_,rfl,by decide,DZ (Ae.of xs.1) e11 ⟨_,rfl,by decide,.inr ⟨by decide,by decide⟩,.inr ⟨by lia,by lia⟩,DZ (Ae.of xs.1) e12 ⟨_,rfl,by decide,.inr ⟨by decide,by decide⟩,.inr ⟨by lia,by lia⟩,DZ (Ae.of xs.1) e13 ⟨_,rfl,by decide,?_⟩⟩⟩⟩);have hp:Eh 4 G l=(1+xn l 10%2+xn l 11%3*3)*16+xn l 12%3*3:=by rw[c];rfl
  rw[hp,show ((1+xn l 10%2+xn l 11%3*3)*16+xn l 12%3*3)/16=1+xn l 10%2+xn l 11%3*3 by lia,show ((1+xn l 10%2+xn l 11%3*3)*16+xn l 12%3*3)%16=xn l 12%3*3 by lia,c]at q;simp only[Int.natCast_emod,Int.natCast_add,Int.natCast_mul]at q;exact q
 ·rw[qE 0#1];have g2:(G:Int)/2=((G/2:Nat):Int):=by lia
  refine (DZ (Ae.of xs.1) e12 ⟨by decide,by decide,_,rfl,by lia,.inr ⟨by decide,by decide⟩,DZ (Ae.of xs.1) e10 ⟨_,rfl,by decide,.inr ⟨by decide,by decide⟩,.inr ⟨by lia,by lia⟩,.inr ⟨by lia,by lia⟩,DZ (Ae.of xs.1) e13 ⟨_,rfl,by lia,?_⟩⟩⟩)
  have hp:Eh 4 G l=(1+xn l 10%4*2)%G*16+xn l 12%(G/2)*2:=by show (if G=9 then _ else (1+xn l 10%4*2)%G*16+xn l 12%(G/2)*2)=_;rw[qE c]
  have pl:xn l 12%(G/2)<4:=bR (cJ _ 0#1) 0#1;rw[hp,show ((1+xn l 10%4*2)%G*16+xn l 12%(G/2)*2)/16=(1+xn l 10%4*2)%G by lia,show ((1+xn l 10%4*2)%G*16+xn l 12%(G/2)*2)%16=xn l 12%(G/2)*2 by lia]at q
  have e:((1+xn l 10%4*2)%G*h+xn l 12%(G/2)*2*t+xn l 13)%G=((1+xn l 10%4*2)*h+xn l 12%(G/2)*2*t+xn l 13)%G:=by rw[fT,Nat.add_mod,Nat.mod_mul_mod,<-Nat.add_mod,fT]
  rw[e]at q;simp only[Int.natCast_emod,Int.natCast_add,Int.natCast_mul]at q;rw[g2];exact q
theorem ZV:AJ ["_law_here","_law_there"] ["_law_here","_law_there"] (AG XO):=CD
theorem ZW(T:CC K mg t) :Ak P w K mg base 1 t.f_17 ["_law_here","_law_there"] (Gz):=by
 refine Al T.d_17 ZV λvs H Q E h=>?_;obtain⟨h,t,rfl,q⟩:=h;refine⟨rfl,λgu A outer s hr=>?_⟩;refine⟨_,(AF (AO (AI Ab (AI Ab (AI BM (AI Af (AI Ab (AI BG (pv 0) AD) (AI BG (pv 1) AD)) AD) AD) (AI BM (AI Af (AI Ab (AI BG (pv 0) AD) (pv 1)) AD) AD)) (AI Af (pv 0) AD)))),?_⟩;walk_at "";refine⟨by decide,by decide,by decide,by decide,by decide,.inr ⟨by decide,by decide⟩,by decide,by decide,by decide,.inr ⟨by decide,by decide⟩,by decide,?_⟩
 rw[show ((h:Int)/4+(t:Int)/2)%2*4+((h:Int)/2+(t:Int))%2*2+(h:Int)%2=((GJ 5 8 0 h t:Nat):Int) by show _=(((h/4+t/2)%2*4+(h/2+t)%2*2+h%2:Nat):Int);lia]
 exact q
theorem Px:AJ ["_law_xs","_law_word_here","_law_at","_law_others","_law_due"] ["_law_xs","_law_word_here"] (AG XQ):=CD
theorem ZX(T:CC K mg t) :Ak P w K mg base 1 t.f_28 ["_law_xs","_law_word_here"] (Jd):=by
 refine Al T.d_28 Px λvs H Q E h=>?_;rcases h with⟨p,a,l,n,rfl,xs,ha,q⟩;refine⟨rfl,λgu A outer s hr=>?_⟩
 refine⟨_,(AB (AN 2 Px (AI Ab AD (AI Af (AM (DE K) (pv 0) AD 1#1) AD)))
  (AB (AN 3 Px (AI RJ (Dx FC (pv 1) Fw (EE (pv 2))) (Dx FC (pv 1) (EE (AI Ab (pv 2) AD)) Fw)))
  (AB (AN 4 Px (AM (DE K) (BC (AA (BC (Ac (Ac (Ac AC)))) (AA (BC (Ac (Ac (Ac AC)))) AC))) (AI Af (AM (DE K) (pv 0) AD 1#1) AD) 1#1))
  (AF (AO (AI Af (AI Ab (AM (DE K) (pv 1) (pv 2) 1#1) (CS Ie rfl T.z_int PyProof.Rows.boot_int (AA (Ca (Nc hr.units) (pv 3) (pv 4) (AR _)) AC))) AD)))))),?_⟩
 have e10:=xs.at (i:=10) 0#8;have e11:=xs.at (i:=11) 0#8;obtain⟨x,hx⟩:∃x,x=xn l 10:=⟨_,rfl⟩;obtain⟨y,hy⟩:∃y,y=xn l 11:=⟨_,rfl⟩;have hf:C1 3 2 (Eh 3 2 l) 0 n=C1 3 2 (x%2+2*(y%2)) 0 n:=by rw[hx,hy];rfl
 rw[hf]at q;rw[<-hx]at e10;rw[<-hy]at e11;clear hf hx hy
 have hw:Ai 2 (n:Int) 4=[((n/8%2:Nat):Int),((n/4%2:Nat):Int),((n/2%2:Nat):Int),((n%2:Nat):Int)]:=by show[(n:Int)/2/2/2%2,(n:Int)/2/2%2,(n:Int)/2%2,(n:Int)%2]=_;rw[show (n:Int)/2/2/2%2=((n/8%2:Nat):Int) by lia,show (n:Int)/2/2%2=((n/4%2:Nat):Int) by lia,show (n:Int)/2%2=((n/2%2:Nat):Int) by lia,show (n:Int)%2=((n%2:Nat):Int) by lia]
 rw[hw]at ha;clear hw;refine Am λN hN=>?_;walk_at "";refine (DZ (Ae.of xs.1) e10 ⟨_,rfl,by decide,hN _ _ ?_⟩);clear hN N;rw[show (1:Int)+((x:Nat):Int)%2=((1+x%2:Nat):Int) by lia];obtain⟨ws,hws⟩:∃ws:qW,ws=[((n/8%2:Nat):Int),((n/4%2:Nat):Int),((n/2%2:Nat):Int),((n%2:Nat):Int)]:=⟨_,rfl⟩;rw[<-hws]at ha;have wl:ws.length=4:=by rw[hws];rfl
 refine Am λN hN=>?_;walk_at "";refine GZ (Ae.of ha) λp1 H1 e1 _ h1=>?_;refine GZ (Ae.of (e1 _ _ ha)) λp2 H2 e2 _ h2=>?_;rw[Hi,<-ez]at h1;rw[show ((1+x%2:Nat):Int)+1=((2+x%2:Nat):Int) by lia,QL,<-List.map_drop]at h2;refine O7 (e2 _ _ h1) h2 (by rw[bG,bG,bq,bj];lia) λp3 H3 e3 _ h3=>hN _ _ ?_
 clear hN N;rw[<-bS]at h3;have eH:=(e1.trans e2).trans e3;refine FY (λHX=>AH H HX/\HX p3=some (.lst ((ws.take (1+x%2)++ws.drop (2+x%2)).map V.int))) ⟨eH,h3⟩ ?_;clear eH h3 e3 h2 e2 h1 e1;rintro H4 ⟨e4,h4⟩;refine Am λN hN=>?_;walk_at "";refine⟨by decide,λd1 hd1=>⟨by decide,λd2 hd2=>⟨by decide,λd3 hd3=>?_⟩⟩⟩;have f1:=AH.new hd1 (.lst [V.int 0,V.int 1,V.int 0]);have f2:=AH.new hd2 (.lst [V.int 1,V.int 0,V.int 1]);have f3:=AH.new hd3 (.lst [V.ref d1,V.ref d2]);have k1:=f3 _ _ (f2 _ _ (show Ad H4 d1 (.lst [V.int 0,V.int 1,V.int 0]) d1=some (.lst [V.int 0,V.int 1,V.int 0]) from AE));have k2:=f3 _ _ (show Ad (Ad H4 d1 (.lst [V.int 0,V.int 1,V.int 0])) d2 (.lst [V.int 1,V.int 0,V.int 1]) d2=some (.lst [V.int 1,V.int 0,V.int 1]) from AE);have k3:Ad (Ad (Ad H4 d1 (.lst [V.int 0,V.int 1,V.int 0])) d2 (.lst [V.int 1,V.int 0,V.int 1])) d3 (.lst [V.ref d1,V.ref d2]) d3=some (.lst [V.ref d1,V.ref d2]):=AE;have f:=(f1.trans f2).trans f3;generalize Ad (Ad (Ad H4 d1 (.lst [V.int 0,V.int 1,V.int 0])) d2 (.lst [V.int 1,V.int 0,V.int 1])) d3 (.lst [V.ref d1,V.ref d2])=H5 at k1 k2 k3 f⊢;have e5:=e4.trans f;have h5:=f _ _ h4;have ha5:=e5 _ _ ha;clear f f1 f2 f3;refine (DZ (Ae.of (e5 _ _ xs.1)) e11 ⟨_,rfl,by decide,?_⟩);have y2:y%2=0\/y%2=1:=by lia
 obtain⟨du,hdu,kdu⟩:∃du,Lm [V.ref d1,V.ref d2] (((y:Nat):Int)%2)=some (.ref du)/\H5 du=some (.lst (([((y%2:Nat):Int),((1-y%2:Nat):Int),((y%2:Nat):Int)]:qW).map V.int)):=by
  rcases y2 with c|c
  ·exact⟨d1,by rw[show ((y:Nat):Int)%2=0 by lia];rfl,by rw[c];exact k1⟩
  ·exact⟨d2,by rw[show ((y:Nat):Int)%2=1 by lia];rfl,by rw[c];exact k2⟩
 refine (DZ (Ae.of k3) hdu (hN _ _ ?_));clear hN N hdu k1 k2 k3;walk_at "";have x2:x%2=0\/x%2=1:=by lia
 refine (DZ (Ae.of ha5) (Dy 0#1) ⟨_,Ae.of h5,_,Ae.of kdu,_,.inr rfl,_,rfl,by decide,?_⟩);have q:=q H5 e5;clear h5 kdu ha5 e5 h4 e4
 have fin:∀(A B C D y:Nat),y=0\/y=1->A<2->B<2->C<2->((D:Int)+if [(A:Int),(B:Int),(C:Int)]=[(y:Int),((1-y:Nat):Int),(y:Int)] then 1 else 0)%2=(((D+if A=y/\B=1-y/\C=y then 1 else 0)%2:Nat):Int):=λA B C D y hy _ _ _=>by
  by_cases c:A=y/\B=1-y/\C=y
  ·rw[qF c,qF (by rw[c.1,c.2.1,c.2.2])];lia
  ·rw[qE c,qE (λz=>c (by
    injection z with z1 z2
    injection z2 with z2 z3
    injection z3 with z3 z4
    exact⟨by lia,by lia,by lia⟩))];lia
 rcases x2 with c|c
 ·rw[c,hws];show Q (.int ((((n/4%2:Nat):Int)+if [((n/8%2:Nat):Int),((n/2%2:Nat):Int),((n%2:Nat):Int)]=[((y%2:Nat):Int),((1-y%2:Nat):Int),((y%2:Nat):Int)] then 1 else 0)%2)) H5;rw[fin _ _ _ _ _ y2 0#1 0#1 0#1];have e:C1 3 2 (x%2+2*(y%2)) 0 n=(n/4%2+if n/8%2=y%2/\n/2%2=1-y%2/\n%2=y%2 then 1 else 0)%2:=by unfold C1;rw[qF rfl,c,qF 0#1,show (0+2*(y%2))/2=y%2 by lia]
  rw[e]at q;exact q
 ·rw[c,hws];show Q (.int ((((n/2%2:Nat):Int)+if [((n/8%2:Nat):Int),((n/4%2:Nat):Int),((n%2:Nat):Int)]=[((y%2:Nat):Int),((1-y%2:Nat):Int),((y%2:Nat):Int)] then 1 else 0)%2)) H5;rw[fin _ _ _ _ _ y2 0#1 0#1 0#1];have e:C1 3 2 (x%2+2*(y%2)) 0 n=(n/2%2+if n/8%2=y%2/\n/4%2=1-y%2/\n%2=y%2 then 1 else 0)%2:=by unfold C1;rw[qF rfl,c,qE 0#1,show (1+2*(y%2))/2=y%2 by lia]
  rw[e]at q;exact q
theorem NS:AJ ["_law_kind","_law_signs","_law_xs","_law_word_here","_law_here","_law_there"] ["_law_kind","_law_signs","_law_xs","_law_word_here"] (AG XR):=CD
theorem ZY(T:CC K mg t)(G_28:Ak P w K mg base 1 t.f_28 ["_law_xs","_law_word_here"] (Jd))(G_10:Ak P w K mg base 1 t.f_10 ["_law_signs","_law_xs","_law_here","_law_there"] (Dn 1))(G_15:Ak P w K mg base 1 t.f_15 ["_law_signs","_law_xs","_law_here","_law_there"] (Dn 2))(G_31:Ak P w K mg base 1 t.f_31 ["_law_signs","_law_xs","_law_here","_law_there"] (Dn 4))(G_17:Ak P w K mg base 1 t.f_17 ["_law_here","_law_there"] (Gz)):Ak P w K mg base 2 t.f_32 ["_law_kind","_law_signs","_law_xs","_law_word_here"] (Jg):=by
 refine Al T.d_32 NS λvs H Q E h=>?_;rcases h with⟨k,G,p,a,l,n,rfl,kg,k5,xs,ha,hn,q⟩;refine⟨rfl,λgu A outer s hr=>?_⟩
 refine⟨_,(AB (A3 (AQ Bk (pv 0) AD (AR _)) (AF (AO (AL hr G_28 T.m_28 (AA (pv 2) (AA (pv 3) AC))))) AX)
  (AB (AN 4 NS (AM (DE K) (pv 3) AD 1#1))
  (AB (AN 5 NS (AM (DE K) (pv 3) (Lu IM AD) 1#1))
  (AB (A3 (AQ Bk (AI Af (AM (DE K) (pv 2) AD 1#1) AD) AD (AR _)) (AB (AN 4 NS (AM (DE K) (pv 3) (Lu IM AD) 1#1))
  (AF (AN 5 NS (AM (DE K) (pv 3) AD 1#1)))) AX)
  (AB (A3 (AQ Bk (pv 0) AD (AR _)) (AF (AO (AL hr G_10 T.m_10 (AA (pv 1) (AA (pv 2) (AA (pv 4) (AA (pv 5) AC))))))) AX)
  (AB (A3 (AQ Bk (pv 0) AD (AR _)) (AF (AO (AL hr G_15 T.m_15 (AA (pv 1) (AA (pv 2) (AA (pv 4) (AA (pv 5) AC))))))) AX)
  (AB (A3 (AQ Bk (pv 0) AD (AR _)) (AF (AO (AL hr G_31 T.m_31 (AA (pv 1) (AA (pv 2) (AA (pv 4) (AA (pv 5) AC))))))) AX)
  (AB (A3 (AQ Bk (pv 0) AD (AR _)) (AF (AO (AL hr G_17 T.m_17 (AA (pv 4) (AA (pv 5) AC))))) AX)
  (AF (AO (pv 4))))))))))),?_⟩
 have e14:=xs.at (i:=14) 0#8;have G2:2<=G:=by unfold KG at kg;lia
 have wl:=BE (G:Int) (n:Int) (mK k);refine CK (λσ HX=>σ=[some (.int (k:Int)),some (.int (G:Int)),some (.ref p),some (.ref a),none,none]/\HX=H/\k≠3) (λN hN=>?_) ?_
 ·walk_at ""
  by_cases c:k=3
  ·rw[qF 0#1];have g:G=2:=by unfold KG at kg;lia
   subst c g;exact⟨p,a,l,n,rfl,xs,ha,λH' e=>q H' e⟩
  ·rw[qE 0#1];exact hN _ _ ⟨rfl,rfl,c⟩
 rintro _ hGo σ HX ⟨rfl,hHX,k3⟩;refine hGo _ _ ?_;rw[hHX];clear hHX HX
 obtain⟨w0,w1,hw0,hw1,b0,b1,hk0,hk⟩:∃w0 w1:Nat,Lm ((Ai (G:Int) (n:Int) (mK k)).map V.int) 0=some (.int (w0:Int))/\Lm ((Ai (G:Int) (n:Int) (mK k)).map V.int) (-1)=some (.int (w1:Int))/\w0<G/\w1<G/\(k=0->w0=n/\w1=n)/\(k≠0->w0=n/G/\w1=n%G):=by
  by_cases c:k=0
  ·subst c;have z:n<G:=by have:=hn;rw[show mK 0=1 from rfl,Nat.pow_one]at this;exact this
   refine⟨n,n,?_,?_,z,z,λ_=>⟨rfl,rfl⟩,λz=>qG rfl z⟩
   ·show some (V.int ((n:Int)%(G:Int)))=_;rw[cI 0#1 0#1]
   ·show some (V.int ((n:Int)%(G:Int)))=_;rw[cI 0#1 0#1]
  ·have m2:mK k=2:=by unfold mK;rw[qE c,qE k3]
   rw[m2]at hn⊢;rw[Nat.pow_two]at hn;have d:n/G<G:=cc hn;refine⟨n/G,n%G,?_,?_,d,cJ _ 0#1,λz=>qG z c,λ_=>⟨rfl,rfl⟩⟩
   ·show some (V.int ((n:Int)/(G:Int)%(G:Int)))=_;rw[<-dP,<-cD,dH d]
   ·show some (V.int ((n:Int)%(G:Int)))=_;rw[<-cD]
 refine Am λN hN=>?_;walk_at "";refine (DZ (Ae.of ha) hw0 (hN _ _ ?_));clear hN N;refine Am λN hN=>?_;walk_at "";refine (DZ (Ae.of ha) hw1 (hN _ _ ?_));clear hN N;refine CK (λσ HX=>∃h t:Nat,σ=[some (.int (k:Int)),some (.int (G:Int)),some (.ref p),some (.ref a),some (.int (h:Int)),some (.int (t:Int))]/\HX=H/\h<G/\t<G/\(k=0->h=n)/\(k≠0->∀s,C1 k G s (J7 k l) n=GJ k G s h t)) (λN hN=>?_) ?_
 ·have fa:∀s d,C1 k G s d n=if d=0 then GJ k G s (n/G) (n%G) else GJ k G s (n%G) (n/G):=λs d=>by unfold C1;rw[qE k3]
  have dk:J7 k l=xn l 14%2:=by unfold J7;rw[qE k3]
  walk_at "";refine (DZ (Ae.of xs.1) e14 ⟨_,rfl,by decide,?_⟩)
  by_cases c:xn l 14%2=1
  ·rw[qF 0#1];refine (DZ (Ae.of ha) hw1 (DZ (Ae.of ha) hw0 (hN _ _ ⟨w1,w0,rfl,rfl,b1,b0,λz=>(hk0 z).2,λz s=>?_⟩)));rw[fa,dk,qE 0#1,(hk z).1,(hk z).2]
  ·rw[qE 0#1];refine hN _ _ ⟨w0,w1,rfl,rfl,b0,b1,λz=>(hk0 z).1,λz s=>?_⟩;rw[fa,dk,qF 0#1,(hk z).1,(hk z).2]
 intro _ hGo σ HX hRq;rcases hRq with⟨h,t,rfl,hHX,hh,ht,z0,zk⟩;refine hGo _ _ ?_;rw[hHX];clear hHX HX;clear hw0 hw1 b0 b1 hk0 hk wl
 have tv:∀j,k=j->j≠0->j≠3->j≠4->DV k G l n=GJ j G (Eh j G l) h t:=λj e j0 _ j4=>by subst e;unfold DV;rw[qE j0,qE j4,zk j0]
 have two:∀j,k=j->(j=1\/j=2\/j=4)->Dn j [.int (G:Int),.ref p,.int (h:Int),.int (t:Int)] H Q E0:=λj e hj=>by
  subst e;refine⟨G,p,l,h,t,rfl,kg,xs,hh,ht,λH' e=>?_⟩;have q:=q H' e
  by_cases c:k=4
  ·rw[qF c];unfold DV at q;rw[qE 0#1,qF c]at q;have z:=zk 0#1;rw[c]at z;rw[z]at q;exact q
  ·rw[qE c];rw[tv k rfl 0#1 0#1 c]at q;exact q
 refine Am λN hN=>?_;walk_at ""
 by_cases c1:k=1
 ·rw[qF 0#1];exact two 1 c1 (.inl rfl)
 rw[qE 0#1];refine hN _ _ ?_;clear hN N;refine Am λN hN=>?_;walk_at ""
 by_cases c2:k=2
 ·rw[qF 0#1];exact two 2 c2 (.inr (.inl rfl))
 rw[qE 0#1];refine hN _ _ ?_;clear hN N;refine Am λN hN=>?_;walk_at ""
 by_cases c4:k=4
 ·rw[qF 0#1];exact two 4 c4 (.inr (.inr rfl))
 rw[qE 0#1];refine hN _ _ ?_;clear hN N two;walk_at ""
 by_cases c5:k=5
 ·rw[qF 0#1];have g:G=8:=by unfold KG at kg;lia
  have q:=q H (AH.refl _);rw[tv 5 c5 0#8 0#8 0#8,g]at q;exact⟨h,t,rfl,q⟩
 rw[qE 0#1];have k0:k=0:=by unfold KG at kg;lia
 have q:=q H (AH.refl _);rw[show DV k G l n=n by unfold DV;rw[qF k0],<-z0 k0]at q;exact q
theorem E8:AJ ["_law_first","_law_second","_law_low_here","_law_kind","_law_signs","_law_many","_law_xs","_law_names","_law_words","_law_table"] ["_law_first","_law_second","_law_low_here"] (AG XS):=CD
theorem ZZ(T:CC K mg t)(hB:JV mg base)(G_9:Ak P w K mg base 1 t.f_9 ["_law_cell","_law_many"] (Od))(G_34:Ak P w K mg base 1 t.f_34 ["_law_number","_law_signs","_law_many"] (Hl))(G_32:Ak P w K mg base 2 t.f_32 ["_law_kind","_law_signs","_law_xs","_law_word_here"] (Jg))(G_16:Ak P w K mg base 1 t.f_16 ["_law_signs","_law_many"] (Hj)):Ak P w K mg base 4 t.f_27 ["_law_first","_law_second","_law_low_here"] (Jh LP t.p_27):=by
 refine YK T.d_27 E8 (λ_ _ _ _ _ _=>b3 λ_ _ _=>rfl) λvs H Q E h=>?_;rcases h with⟨c1,c2,lo,rfl,tb,q⟩;refine⟨rfl,λA outer s hr=>?_⟩;refine YO ?_
 refine⟨_,(CG (Dg (i:=3) E8.nd rfl (Or.inr rfl) (LG (DE K) (Hv (AZ (AZ (AZ (AZ (AZ (AZ (AZ (AZ (AZ (AZ (AZ (AZ Hu))))))))))))) (.of (AI Af (pv 0) AD)) 1#1) rfl (by first|exact .inl rfl|exact .inr rfl))
  (CG (Dg (i:=4) E8.nd rfl (Or.inr rfl) (.of (AI Ab AD (AI Af (AI BG (pv 0) AD) AD))) rfl (by first|exact .inl rfl|exact .inr rfl))
  (CG (N4 (AQ Bk (pv 3) AD (AR _)) (Ht (Dg (i:=4) E8.nd rfl (Or.inr rfl) (LG (DE K) (Hv (AZ (AZ (AZ (AZ (AZ (AZ (AZ (AZ Hu))))))))) (.of (AI Af (AI BG (pv 0) AD) AD)) 1#1) rfl (by first|exact .inl rfl|exact .inr rfl))) LH)
  (CG (N4 (AQ Bk (pv 3) AD (AR _)) (Ht (Dg (i:=4) E8.nd rfl (Or.inr rfl) (LG (DE K) (Hv (AZ (AZ (AZ (AZ (AZ (AZ (AZ (AZ Hu))))))))) (.of (AI Af (AI BG (pv 0) AD) AD)) 1#1) rfl (by first|exact .inl rfl|exact .inr rfl))) LH)
  (CG (N4 (AQ EY (pv 3) AD (AR _)) (Ht (Dg (i:=4) E8.nd rfl (Or.inr rfl) (.of (AM (DE K) (BC (Ac (AA (AM (DE K) (BC (Ac (Ac (Ac (Ac AC))))) (AI Af (AI BG (pv 0) AD) AD) 1#1) (Ac AC)))) (AI BI (pv 3) AD) 1#1)) rfl (by first|exact .inl rfl|exact .inr rfl))) LH)
  (CG (Dg (i:=5) E8.nd rfl (Or.inr rfl) (LG (DE K) (Hv (AZ (AZ (AZ (AZ (AZ (AZ Hu))))))) (.of (pv 3)) 1#1) rfl (by first|exact .inl rfl|exact .inr rfl))
  (CG (Dg (i:=6) E8.nd rfl (Or.inr rfl) (.of (AL hr G_9 T.m_9 (AA (pv 1) (Ac AC)))) rfl (by first|exact .inl rfl|exact .inr rfl))
  (CG (Dg (i:=7) E8.nd rfl (Or.inr rfl) (.of (Qu (k:=1) (cl:=[("_law_xs",_)]) (is:=[6]) rfl rfl (hr.mono 0#8) rfl T.z_range rfl T.z_sorted (AA (pv 4) AC) (Tq (WR (clos:=[("_law_xs",_)]) hB rfl T.hd_27 0#3 rfl) V0) (.cons ⟨rfl,rfl,by with_unfolding_all rfl,rfl⟩ .nil))) rfl (by first|exact .inl rfl|exact .inr rfl))
  (CG (.of (EH (iy:=8) (fv:=[(4,"_law_signs"),(5,"_law_many")]) (cl:=[("_law_signs",_),("_law_many",_)]) rfl E8.nd rfl (Or.inl rfl) (Az rfl T.z_range (AA (AL hr G_16 T.m_16 (AA (pv 4) (AA (pv 5) AC))) AC)) 0#3 0#3 (by decide +kernel) rfl (by decide +kernel) rfl ⟨0#3,⟨0#3,trivial⟩⟩ 0#3 ⟨⟨rfl,rfl,0#3,rfl⟩,⟨⟨rfl,rfl,0#3,rfl⟩,trivial⟩⟩ 0#8 (λ_ _ _ _=>DM) (λ_ _ _ _=>(AL hr G_34 T.m_34 (AA (pv 0) (AA (pv 1) (AA (pv 2) AC)))))))
  (CG (.of (EH (iy:=9) (fv:=[(6,"_law_xs"),(4,"_law_signs"),(7,"_law_names"),(3,"_law_kind")]) (cl:=[("_law_xs",_),("_law_signs",_),("_law_names",_),("_law_kind",_)]) rfl E8.nd rfl (Or.inl rfl) (Q6 K (pv 8)) 0#3 0#3 (by decide +kernel) rfl (by decide +kernel) rfl ⟨0#3,⟨0#3,⟨0#3,⟨0#3,trivial⟩⟩⟩⟩ 0#3 ⟨⟨rfl,rfl,0#3,rfl⟩,⟨⟨rfl,rfl,0#3,rfl⟩,⟨⟨rfl,rfl,0#3,rfl⟩,⟨⟨rfl,rfl,0#3,rfl⟩,trivial⟩⟩⟩⟩ 0#8 (λ_ _ _ _=>DM) (λ_ _ _ _=>(AM (IZ (K:=K) rfl) (pv 3) (AL hr G_32 T.m_32 (AA (pv 4) (AA (pv 2) (AA (pv 1) (AA (pv 0) AC))))) 1#1))))
  (Ht (.of (AO (BC (AA (Cb (AA (pv 4) (AA (pv 2) (AA (CS CF rfl T.z_tuple dN (AA (pv 9) AC)) AC)))) (AA (pv 5) AC)))))))))))))))),?_⟩
 have k6:=Lk c1;have kg:=aR c1
 have ek:((Da c1:Nat):Int)=([0,1,1,2,2,3,4,5,1,2,3,4]:qW).getD (c1%12).toNat 0:=by
  unfold Da;have h:(c1%12).toNat<12:=by lia
  generalize (c1%12).toNat=i at h;have z:∀i<12,((([0,1,1,2,2,3,4,5,1,2,3,4]:List Nat).getD i 0:Nat):Int)=([0,1,1,2,2,3,4,5,1,2,3,4]:qW).getD i 0:=by decide
  exact z i h
 refine Am λN hN=>?_;walk_at "";refine⟨by decide,λp hp=>⟨by decide,DZ (Ae.of AE) (B6 (ns:=[0,1,1,2,2,3,4,5,1,2,3,4]) 0#1 (by show (c1%12).toNat<12;lia)) (hN _ _ ?_)⟩⟩;clear hN N;rw[<-ek];have e1:=AH.new hp (.lst (([0,1,1,2,2,3,4,5,1,2,3,4]:qW).map V.int));have tb1:=tb.same e1;refine FY (λHX=>AH H HX) e1 ?_;clear e1 tb1 hp p ek;rintro H1 e1;obtain⟨k,hk⟩:∃k,k=Da c1:=⟨_,rfl⟩;obtain⟨G,hG⟩:∃G,G=Q3 c1:=⟨_,rfl⟩;have g0:k=0->((G:Nat):Int)=2+c1/12%8:=λz=>by rw[hG];unfold Q3;rw[qF (by rw[<-hk];exact z)];lia
 have i8:(c1/12%8).toNat<8:=by lia
 have i4:(c1/12%4).toNat<4:=by lia
 have g1:k=1->((G:Nat):Int)=([4,4,6,4,4,8,6,9]:qW).getD (c1/12%8).toNat 0:=λz=>by
  rw[hG];unfold Q3;rw[<-hk,z];generalize (c1/12%8).toNat=i at i8;have y:∀i<8,((([4,4,6,4,4,8,6,9]:List Nat).getD i 0:Nat):Int)=([4,4,6,4,4,8,6,9]:qW).getD i 0:=by decide
  exact y i i8
 have g2:k=2->((G:Nat):Int)=([3,4,5,3,4,3,6,7]:qW).getD (c1/12%8).toNat 0:=λz=>by
  rw[hG];unfold Q3;rw[<-hk,z];generalize (c1/12%8).toNat=i at i8;have y:∀i<8,((([3,4,5,3,4,3,6,7]:List Nat).getD i 0:Nat):Int)=([3,4,5,3,4,3,6,7]:qW).getD i 0:=by decide
  exact y i i8
 have g3:2<k->((G:Nat):Int)=([2,([4,4,8,9]:qW).getD (c1/12%4).toNat 0,8]:qW).getD (k-3) 0:=λz=>by
  rw[<-hk]at k6;have e4:∀i<4,((([4,4,8,9]:List Nat).getD i 0:Nat):Int)=([4,4,8,9]:qW).getD i 0:=by decide
  rw[hG];unfold Q3;rw[<-hk];obtain rfl|rfl|rfl:k=3\/k=4\/k=5:=by lia
  ·rfl
  ·exact e4 _ i4
  ·rfl
 rw[<-hk]at kg k6⊢;rw[<-hG]at kg;refine Am λN hN=>?_;walk_at "";refine⟨by decide,by decide,by decide,hN _ _ ?_⟩;clear hN N;refine CK (λσ HX=>(∃s:Int,σ=[some (.int c1),some (.int c2),some (.int lo),some (.int (k:Int)),some (.int s),none,none,none,none,none]/\(k<=1->s=(G:Int)))/\AH H HX) (λN hN=>?_) ?_
 ·walk_at ""
  by_cases c:k=1
  ·rw[qF 0#1];refine⟨by decide,λp hp=>⟨by decide,by decide,by decide,DZ (Ae.of AE) (B6 (ns:=[4,4,6,4,4,8,6,9]) 0#1 i8) (hN _ _ ⟨⟨_,rfl,λ_=>(g1 c).symm⟩,e1.trans (AH.new hp _)⟩)⟩⟩
  ·rw[qE 0#1];exact hN _ _ ⟨⟨_,rfl,λz=>(g0 0#1).symm⟩,e1⟩
 intro _ hGo σ HX hRq;rcases hRq with⟨⟨s,rfl,hs⟩,eX⟩;refine hGo _ _ ?_;refine CK (λσ HX=>(∃s:Int,σ=[some (.int c1),some (.int c2),some (.int lo),some (.int (k:Int)),some (.int s),none,none,none,none,none]/\(k<=2->s=(G:Int)))/\AH H HX) (λN hN=>?_) ?_
 ·walk_at ""
  by_cases c:k=2
  ·rw[qF 0#1];refine⟨by decide,λp hp=>⟨by decide,by decide,by decide,DZ (Ae.of AE) (B6 (ns:=[3,4,5,3,4,3,6,7]) 0#1 i8) (hN _ _ ⟨⟨_,rfl,λ_=>(g2 c).symm⟩,eX.trans (AH.new hp _)⟩)⟩⟩
  ·rw[qE 0#1];exact hN _ _ ⟨⟨_,rfl,λz=>hs 0#1⟩,eX⟩
 clear hs eX s HX;intro _ hGo σ HX hRq;rcases hRq with⟨⟨s,rfl,hs⟩,eX⟩;refine hGo _ _ ?_;refine CK (λσ HX=>σ=[some (.int c1),some (.int c2),some (.int lo),some (.int (k:Int)),some (.int (G:Int)),none,none,none,none,none]/\AH H HX) (λN hN=>?_) ?_
 ·walk_at ""
  by_cases c:2<k
  ·rw[qF 0#1];refine⟨by decide,λp1 h1=>⟨by decide,by decide,by decide,DZ (Ae.of AE) (B6 (ns:=[4,4,8,9]) 0#1 i4) ⟨by decide,λp3 h3=>?_⟩⟩⟩;refine (DZ (Ae.of AE) (B6 (ns:=[2,([4,4,8,9]:qW).getD (c1/12%4).toNat 0,8]) 0#1 (by show ((k:Int)-3).toNat<3;lia)) (hN _ _ ⟨?_,(eX.trans (AH.new h1 _)).trans (AH.new h3 _)⟩));rw[show ((k:Int)-3).toNat=k-3 by lia,<-g3 c]
  ·rw[qE 0#1];exact hN _ _ ⟨by rw[hs 0#1],eX⟩
 clear hs eX s HX;rintro _ hGo σ H2 ⟨rfl,e2⟩;refine hGo _ _ ?_
 have em:((mK k:Nat):Int)=([1,2,2,4,2,2]:qW).getD k 0:=by
  have z:∀k<6,((mK k:Nat):Int)=([1,2,2,4,2,2]:qW).getD k 0:=by decide
  exact z k 0#1
 refine Am λN hN=>?_;walk_at "";refine⟨by decide,λp hp=>(DZ (Ae.of AE) (B6 (ns:=[1,2,2,4,2,2]) 0#1 (by show ((k:Nat):Int).toNat<6;lia)) (hN _ _ ?_))⟩;clear hN N;rw[bM,<-em];clear em;refine FY (λHX=>AH H HX) (e2.trans (AH.new hp _)) ?_;clear hp p e2 H2 g0 g1 g2 g3 i8 i4;rintro H3 e3;refine Am λN hN=>?_;walk_at "";refine⟨_,_,rfl,by decide,by decide,λpx H4 e4 _ h4=>hN _ _ ?_⟩;clear hN N;obtain⟨l,hl⟩:∃l,l=J4 c2 15:=⟨_,rfl⟩;have xs:Ti H4 px l:=⟨by rw[hl];exact h4,by rw[hl];exact NC c2 15,by rw[hl];exact Uu c2 15⟩;clear h4;have e34:=e3.trans e4;refine Am λN hN=>?_;refine⟨_,rfl,G,rfl,by unfold KG at kg;lia,tb.same e34,λf H5 s5 tb5 hf la=>?_⟩;dsimp only[Kt];have xs5:Ti H5 px l:=⟨s5.get (tb.same e34) xs.1 (λ_ z=>by cases z),xs.2⟩;have G9:G<=9/\2<=G:=by unfold KG at kg;lia
 refine⟨f,[.ref px],λx=>((xn l x:Nat):Int)*16+(x:Int),rfl,.cons rfl .nil,Qt (k:=0) (x1:="_law_k") (fns:=["_law_xs"]) la ⟨rfl,rfl,rfl,by decide,λx hx=>by rw[bV.mp hx];exact .inl rfl,λx hx=>by rw[bV.mp hx];rfl,by decide +kernel,by decide +kernel⟩ rfl (cn.mpr ⟨cG,dm⟩) (λ_ _ _=>b1 λ_=>rfl) (λc' A2 outer2 s2 HC x hr hx eC=>⟨_,(AI Ab (AI BM (AM (DE K) (pv 1) (pv 0) 1#1) AD) (pv 0)),?B⟩),λD zs H6 e6 hD h6 pz=>hN _ _ ?_⟩
 case B =>
  intro QB qB;have xsC:=xs5.same eC;exact⟨_,rfl,_,rfl,px,_,_,_,rfl,rfl,Ae.of xsC.1,xsC.at (i:=x) 0#1,_,_,rfl,rfl,.inr ⟨by decide,by decide⟩,_,rfl,_,_,rfl,rfl,qB _ (AH.refl _)⟩
 clear hN N;have s6:Dk t.p_27 H H6:=(e34.t.trans s5).trans e6.t;have tb6:=tb5.same e6;have xs6:=xs5.same e6;have zl:zs.length=G:=by rw[pz.length_eq,Be]
 have nm:=TK pz;have m1:mK k=1\/mK k=2\/mK k=4:=by unfold mK;split;exact .inl rfl;split;exact .inr (.inr rfl);exact .inr (.inl rfl)
 rcases TJ kg l nm with⟨cd,ctf,cmf,ctop,core,slim⟩;have csz:=core.sz;have gpw:(G:Int)^mK k=((G^mK k:Nat):Int):=by rw[eU]
 refine Am λN hN=>?_;walk_at "";refine⟨_,rfl,_,rfl,(G:Int),((mK k:Nat):Int),rfl,by lia,by lia,by lia,by lia,_,rfl,by rw[bM,gpw];lia,by rw[bM];lia,λD2 hD2=>?_⟩;rw[bM,gpw,bM];obtain⟨n,hn⟩:∃n,n=G^mK k:=⟨_,rfl⟩;have n256:n<=256:=by rw[gpw,<-hn]at csz;lia
 rw[<-hn];refine Bu (n:=n) (λi gt Hx=>∃ps:List qR,gt=ps.map V.ref/\ps.length=i/\AH H6 Hx/\Hx D2=some (.lst gt)/\∀(j:Nat) (a:qR),ps[j]?=some a->Hx a=some (.lst ((Ai (G:Int) (j:Int) (mK k)).map V.int))) ⟨[],rfl,rfl,AH.new hD2 _,AE,λj a z=>by simp at z⟩ ?_ ?_
 ·refine EW ?_;intro i _ hGo gt Hx hi hRq;rcases hRq with⟨ps,rfl,pl,ex,hDx,hp⟩;refine hGo _ _ ?_;rw[b7];refine⟨_,rfl,_,rfl,_,rfl,(i:Int),(G:Int),((mK k:Nat):Int),rfl,by lia,by lia,by lia,by lia,λp7 H7 n7=>?_⟩;rw[bM]at n7;have hD7:=n7.1 _ _ hDx;have ne:p7≠D2:=λz=>by have z2:=n7.2.1;rw[z,hDx]at z2;cases z2
  refine⟨hD7,by rw[bG];exact AY 0#1,ps++[p7],by rw[bS];rfl,by rw[bN,pl];rfl,(ex.trans n7.1).into hD2,AE,λj a z=>?_⟩
  by_cases c:j<ps.length
  ·rw[b8 c]at z;have w:=hp j a z;have na:a≠D2:=λy=>by rw[y,hDx]at w;have w:=HO.lst.inj (Option.some.inj w);have c0:(ps.map V.ref)[0]?=((Ai (G:Int) (j:Int) (mK k)).map V.int)[0]?:=qP (λl:List V=>l[0]?) w;rw[bO,bO,bI (show 0<ps.length by lia),bI (show 0<(Ai (G:Int) (j:Int) (mK k)).length by rw[BE];lia)]at c0;cases c0
   rw[AK na];exact n7.1 _ _ w
  ·have:j=ps.length:=by
    have:=(bJ.mp z).1;rw[bN]at this;simp at this;lia
   subst this;rw[bt (bL _),dJ]at z;have z:p7=a:=Option.some.inj z;rw[<-z,AK ne,pl];exact n7.2.2
 intro gt H7 hRq;rcases hRq with⟨ps,rfl,pl,e7,hD7,hp⟩;refine hN _ _ ?_;clear hN N;have xs7:=xs6.same e7;have h67:=e7 _ _ h6;refine Am λN hN=>?_;walk_at "";refine⟨_,rfl,D2,rfl,⟨_,Ae.of hD7⟩,λD3 hD3=>?_⟩;refine FF (xs:=ps.map V.ref) (λi gt Hx=>gt=((List.range i).map λa=>zs.getD (DV k G l a) 0).map V.int/\AH H7 Hx/\Hx D3=some (.lst gt)) ⟨rfl,AH.new hD3 _,AE⟩ (λi gt Hx _ z=>Ae.of (z.2.1 _ _ hD7)) ?_ ?_
 ·refine Li ?_;rintro i x _ hGo gt Hx hx ⟨rfl,ex,hDx⟩;refine hGo _ _ ?_;obtain⟨a,hai,rfl⟩:∃a,ps[i]?=some a/\x=V.ref a:=by rw[bO]at hx;obtain⟨c,h1,h2⟩:=cM.mp hx;exact⟨c,h1,h2.symm⟩
  have il:i<n:=by have:=(bJ.mp hai).1;lia
  have tl:=Uy kg l (n:=i) (by rw[<-hn];exact il);dsimp only[UE];rw[qF rfl];refine⟨_,rfl,_,rfl,_,rfl,_,rfl,_,rfl,k,G,px,a,l,i,rfl,kg,k6,xs7.same ex,ex _ _ (hp i a hai),by rw[<-hn];exact il,λH8 e8=>?_⟩;refine (DZ (Ae.of ((ex.trans e8) _ _ h67)) (Dy 0#1) ⟨e8 _ _ hDx,?_,?_,(ex.trans e8).into hD3,AE⟩)
  ·rw[bG,bG,bn];exact AY 0#1
  ·rw[Ay,bS];rfl
 rintro gt H8 ⟨rfl,e8,h8⟩;rw[bG,pl]at h8;refine hN _ _ ?_;clear hN N;walk_at "";refine⟨_,.inl ⟨Ae.of h8,λl9 hl9=>⟨by decide,λp9 hp9=>⟨by decide,λp10 hp10=>?_⟩⟩⟩⟩;have tabe:(List.range n).map (λa=>zs.getD (DV k G l a) 0)=BS (G^mK k) (λv=>zs.getD v 0) (DV k G l):=by rw[hn];rfl
 rw[tabe]at h8 hp9 hp10⊢;have f9:=AH.new hl9 (.tup ((BS (G^mK k) (λv=>zs.getD v 0) (DV k G l)).map V.int));have f10:=AH.new hp9 (.tup [.int (G:Int),.int lo,.ref l9]);have f11:=AH.new hp10 (.lst [.ref p9,.int ((mK k:Nat):Int)]);have ff:=(((e7.trans e8).trans f9).trans f10).trans f11;have m8:mK k<=8:=by lia
 refine q p10 p9 _ (G:Int) _ (mK k) cd ctf cmf ctop (s6.trans ff.t) (tb6.same ff) AE ⟨⟨l9,f11 _ _ AE,f11 _ _ (f10 _ _ AE)⟩,core.g2,core.g9,core.m1,m8,core.len,core.sz,core.tb⟩ (by rw[<-hk,<-hG,<-hl];exact core) (by rw[<-hk,<-hG];exact slim)
theorem Za:AJ ["_law_cell"] ["_law_cell"] (AG XT):=CD
theorem Zc(T:CC K mg t) :Ak P w K mg base 1 t.f_44 ["_law_cell"] (Lj):=by
 refine Al T.d_44 Za λvs H Q E h=>?_;obtain⟨c,rfl,q⟩:=h;refine⟨rfl,λgu A outer s hr=>?_⟩
 refine⟨_,(AB (A3 (AQ Bk (AI Af (pv 0) AD) AD (AR _)) (AF (AO (AI BI (AI Af (AI BG (pv 0) AD) AD) AD))) AX)
  (AF (AO (AI Ab (AI BI (AI Af (AI BM (AI BG (pv 0) AD) AD) (AI BI (AI BM AD (AI RD AD AD)) AD)) (AI RD AD AD)) AD)))),?_⟩
 walk_at "";refine⟨by decide,?_⟩;split
 ·exact⟨by decide,by decide,by decide,q _⟩
 exact⟨by decide,by decide,.inr ⟨by decide,by decide⟩,by decide,by decide,by decide,.inl ⟨by decide,by decide⟩,by decide,by decide,by decide,by decide,q _⟩
theorem Py:AJ ["_law_core_here","_law_many","_law_low_here","_law_word_here","_law_at","_law_j"] ["_law_core_here","_law_many","_law_low_here","_law_word_here"] (AG XU):=CD
theorem Zd(T:CC K mg t) :Ak P w K mg base 1 t.f_30 ["_law_core_here","_law_many","_law_low_here","_law_word_here"] (N6 K):=by
 refine Al T.d_30 Py λvs H Q E h=>?_;rcases h with⟨r,a,g,lo,g6,m,low,ws,rfl,ok,hS,hb,l1,l2,q⟩;refine⟨rfl,λgu A outer s hr=>?_⟩
 refine⟨_,(AB (AN 4 Py AD)
  (AB (A9 PassesOwn.never rfl (Az rfl T.z_range (AA (pv 1) AC)) (BF 5 Py) (AF (AN 4 Py (AI Ab (AI BM (pv 4) 0#2) (AM (DE K) (pv 3) (AI BI (AI Ab 0#2 (pv 5)) (pv 2)) 1#1)))))
  (AF (AO (AM (B3 K) 0#2 (pv 4) 1#1))))),?_⟩
 refine Au.el ok.v λtb h1 h2=>?_;have g2:=ok.g2;have g9:=ok.g9;have m8:=ok.m8;have hl:=ok.len;have wl:=C8 ws (lo-low) m;have wb:=Nt g2 hb (lo-low) m;have nb:=BR g2 wb;rw[wl,<-hl]at nb;walk_at "";refine⟨_,rfl,_,rfl,by lia,by lia,?_⟩;rw[bM];refine BP (n:=m) (λj σ H2=>(∃x5,σ=[some (.ref r),some (.int ((m:Nat):Int)),some (.int low),some (.ref a),some (.int (Ao g ((Ho ws (lo-low) m).take j))),x5])/\H2=H) ⟨⟨_,rfl⟩,rfl⟩ ?_ ?_
 ·refine D9 ?_;rintro _ _ j _ hGo σ H2 hj ⟨⟨x5,rfl⟩,rfl⟩;refine hGo _ _ ?_;walk_at "";refine (CY (Ah.of h1) rfl ?_);walk_at "";have gj:(Ho ws (lo-low) m)[j]?=some (ws.getD (lo+(j:Int)-low).toNat 0):=by unfold Ho;rw[bO,d4 hj];show some (sn ws (lo-low+(j:Int)))=_;rw[show lo-low+(j:Int)=(((lo+(j:Int)-low).toNat:Nat):Int) by lia,Cw 0#1]
  refine⟨.inr ⟨by lia,by lia⟩,CY (Ah.of h1) rfl ⟨lo,rfl,?_⟩⟩;rw[b7];refine⟨a,_,_,_,rfl,rfl,hS,B6 0#1 0#1,_,rfl,?_,⟨_,rfl⟩,rfl⟩;rw[Fz gj]
 ·rintro σ H2 ⟨⟨x5,rfl⟩,rfl⟩;have tk:(Ho ws (lo-low) m).take m=Ho ws (lo-low) m:=cm 0#1;rw[tk];walk_at "";exact (CY (Ah.of h1) rfl (CY (Ah.of h2) (B6 nb.1 0#1) q))
theorem Jr:AJ ["_law_core_here","_law_many","_law_cell","_law_most","_law_ahead","_law_behind","_law_low_here","_law_size","_law_table"] ["_law_core_here","_law_many","_law_cell"] (AG XV):=CD
theorem Ze(T:CC K mg t)(G_30:Ak P w K mg base 1 t.f_30 ["_law_core_here","_law_many","_law_low_here","_law_word_here"] (N6 K))(G_34:Ak P w K mg base 1 t.f_34 ["_law_number","_law_signs","_law_many"] (Hl))(G_16:Ak P w K mg base 1 t.f_16 ["_law_signs","_law_many"] (Hj)):Ak P w K mg base 2 t.f_33 ["_law_core_here","_law_many","_law_cell"] (Jf):=by
 refine Al T.d_33 Jr λvs H Q E h=>?_;rcases h with⟨r,g,lo,g6,m,c,rfl,ok,m4,m3,q⟩;refine⟨rfl,λgu A outer s hr=>?_⟩
 refine⟨_,(AB (AN 3 Jr (AM (DE K) (Um (ns:=[6,4,3,3,3,2,2,2]) (by rfl)) (AI BI 0#2 AD) 1#1))
  (AB (AN 4 Jr (AI Af (pv 2) (AI Ab (AI BI (pv 3) (pv 1)) AD)))
  (AB (AN 5 Jr (AI Af (AI BG (pv 2) AD) (AI Ab (AI BI (AI BI (pv 3) (pv 1)) (pv 4)) AD)))
  (AB (AN 6 Jr (AI BI 0#2 (pv 4)))
  (AB (AN 7 Jr (AI Ab (AI Ab (pv 1) (pv 4)) (pv 5)))
  (AB (EH (iy:=8) (fv:=[(7,"_law_size"),(1,"_law_many"),(6,"_law_low_here"),(0,"_law_core_here")]) (cl:=[("_law_size",_),("_law_many",_),("_law_low_here",_),("_law_core_here",_)]) rfl Jr.nd rfl (Or.inl rfl) (Az rfl T.z_range (AA (AL hr G_16 T.m_16 (AA 0#2 (AA (pv 7) AC))) AC)) 0#3 0#3 (by decide +kernel) rfl (by decide +kernel) rfl ⟨0#3,⟨0#3,⟨0#3,⟨0#3,trivial⟩⟩⟩⟩ 0#3 ⟨⟨rfl,rfl,0#3,rfl⟩,⟨⟨rfl,rfl,0#3,rfl⟩,⟨⟨rfl,rfl,0#3,rfl⟩,⟨⟨rfl,rfl,0#3,rfl⟩,trivial⟩⟩⟩⟩ 0#8 (λ_ _ _ _=>DM) (λ_ _ _ _=>(AL hr G_30 T.m_30 (AA (pv 4) (AA (pv 2) (AA (pv 3) (AA (AL hr G_34 T.m_34 (AA (pv 0) (AA (AM (Hh (K:=K) rfl) (pv 4) AD 1#1) (AA (pv 1) AC)))) AC)))))))
  (AF (AO (Cb (AA 0#2 (AA (pv 6) (AA (CS CF rfl T.z_tuple dN (AA (pv 8) AC)) AC)))))))))))),?_⟩
 refine Au.el ok.v λtb h1 h2=>?_;have g2:=ok.g2;have g9:=ok.g9;have m1:=ok.m1;have hl:=ok.len;have wm:=Km g2 g9;have cw:=NI g2 g9 m4 m3;refine Am λN hN=>?_;walk_at "";refine⟨by decide,λp hp=>?_⟩;have e1:=AH.new hp (.lst (([6,4,3,3,3,2,2,2]:qW).map V.int));refine (CY (Ah.of (e1 _ _ h1)) rfl ⟨_,rfl,p,_,_,_,rfl,rfl,Ae.of AE,B6 (ns:=[6,4,3,3,3,2,2,2]) 0#1 (by show (g-2).toNat<8;lia),hN _ _ ?_⟩);clear hN N;obtain⟨w',hw⟩:∃w':Int,w'=G3 g:=⟨_,rfl⟩;rw[show ([6,4,3,3,3,2,2,2]:qW).getD (g-2).toNat 0=w' from hw.symm];rw[<-hw]at wm cw;clear hw;rcases wm with⟨w2,w7,_,wz⟩;refine FY (λHX=>AH H HX) e1 ?_;clear e1 hp p;rintro H2 e2;refine Am λN hN=>?_;walk_at "";refine⟨by lia,hN _ _ ?_⟩;clear hN N;obtain⟨ah,hah,ah0,ah1⟩:∃ah:Int,ah=c%(w'-(m:Int)+1)/\0<=ah/\ah<w'-(m:Int)+1:=⟨_,rfl,eQ _ 0#1,d9 _ 0#1⟩;rw[<-hah];clear hah;refine Am λN hN=>?_;walk_at "";refine⟨by decide,by decide,by lia,hN _ _ ?_⟩;clear hN N;obtain⟨be,hbe,be0,be1⟩:∃be:Int,be=c/8%(w'-(m:Int)-ah+1)/\0<=be/\be<w'-(m:Int)-ah+1:=⟨_,rfl,eQ _ 0#1,d9 _ 0#1⟩;rw[<-hbe];clear hbe;refine Am λN hN=>?_;walk_at "";refine (CY (Ah.of (e2 _ _ h1)) rfl ⟨_,rfl,hN _ _ ?_⟩);clear hN N;refine Am λN hN=>?_;walk_at "";refine hN _ _ ?_;clear hN N;obtain⟨M,hM⟩:∃M:Nat,(M:Int)=(m:Int)+ah+be:=⟨((m:Int)+ah+be).toNat,by lia⟩;rw[<-hM]
 have gM:g^M<=256:=by have:=Bx g2 (show M<=w'.toNat by lia);lia
 have gp:=RW.Ag g2 M;obtain⟨low,hlow⟩:∃low:Int,low=lo-ah:=⟨_,rfl⟩;rw[<-hlow];refine Am λN hN=>?_;walk_at "";refine⟨_,rfl,r,_,0,_,rfl,rfl,Ah.of (e2 _ _ h1),rfl,_,rfl,g,_,rfl,g2,g9,by lia,by lia,_,rfl,by rw[bM];lia,by rw[bM];lia,λD hD=>?_⟩;rw[bM];refine Bu (n:=(g^M).toNat) (λi gt Hx=>gt=((List.range i).map λn:Nat=>g6.getD (Ao g (Ho (Ai g (n:Int) M) (lo-low) m)).toNat 0).map V.int/\AH H2 Hx/\Hx D=some (.lst gt)) ⟨rfl,AH.new hD _,AE⟩ ?_ ?_
 ·refine EW ?_;rintro i _ hGo gt Hx hi ⟨rfl,ex,hDx⟩;refine hGo _ _ ?_;have e3:=e2.trans ex;walk_at "";refine (CY (Ah.of (e3 _ _ h1)) rfl ⟨_,g,_,rfl,g2,g9,by lia,by lia,λp5 H5 hN5=>?_⟩);rw[bM,b7]at hN5;have wl:=BE g (i:Int) M;refine⟨r,p5,g,lo,g6,m,low,Ai g (i:Int) M,rfl,ok.same (e3.trans hN5.1),Ae.of hN5.2.2,By g2 _ _,by lia,by lia,hN5.1 _ _ hDx,?_,?_,(ex.trans hN5.1).into hD,AE⟩
  ·rw[bG,bG,bn];exact AY 0#1
  ·rw[Ay,bS];rfl
 rintro gt Hx ⟨rfl,ex,hDx⟩;refine hN _ _ ?_;clear hN N;have e3:=e2.trans ex;walk_at "";refine (CY (Ah.of (e3 _ _ h1)) rfl ⟨_,.inl ⟨Ae.of hDx,λl8 hl8=>⟨by decide,λp9 hp9=>?_⟩⟩⟩);have f8:=AH.new hl8 (.tup ((Cy g lo g6 m low M).map V.int));have f9:=AH.new hp9 (.tup [.int g,.int low,.ref l8]);exact q p9 low (Cy g lo g6 m low M) M _ ((e3.trans f8).trans f9) (ok.bw 0#1 gM ⟨l8,AE,f9 _ _ AE⟩) λx hx=>Iz g2 hl 0#1 0#1 hx
theorem Kp:AJ ["_law_one","_law_many","_law_ring","_law_due","_law_i","_law_at","_law_j"] ["_law_one","_law_many","_law_ring"] (AG XW):=CD
theorem Zf(T:CC K mg t) :Ak P w K mg base 1 t.f_29 ["_law_one","_law_many","_law_ring"] (No K):=by
 refine Al T.d_29 Kp λvs H Q E h=>?_;rcases h with⟨r,a,g,lo,g6,m,ns,rfl,g2,g9,hR,hl,m8,hS,hb,n1,n3,q⟩;refine⟨rfl,λgu A outer s hr=>?_⟩
 refine⟨_,(AB (AN 3 Kp (BC AC))
  (AB (A9 PassesOwn.never rfl (Az rfl T.z_range (AA (Ap (NF K) rfl T.z_len cR (AA (pv 2) AC)) AC)) (BF 4 Kp) (AB (AN 5 Kp AD)
  (AB (A9 PassesOwn.never rfl (Az rfl T.z_range (AA (pv 1) AC)) (BF 6 Kp) (AF (AN 5 Kp (AI Ab (AI BM (pv 5) 0#2) (AM (DE K) (pv 2) (AI Af (AI Ab (AI Ab (pv 4) 0#2) (pv 6)) (Ap (NF K) rfl T.z_len cR (AA (pv 2) AC))) 1#1)))))
  (AF (A4 (Q0 K (pv 3) (AA (AM (B3 K) 0#2 (pv 5) 1#1) AC)))))))
  (AF (AO (pv 3))))),?_⟩
 refine Au.el hR λtb h1 h2=>?_;have hns:(ns.map V.int).length=ns.length:=bG ..;walk_at "";refine⟨cS _,λp hp=>?_⟩;refine⟨_,rfl,a,rfl,_,.inl ((AH.new hp _).seq hS),_,rfl,?_,?_,?_⟩
 ·lia
 ·lia
 rw[hns];refine BP (n:=ns.length) (λi σ H1=>∃x4 x5 x6,σ=[some (.ref r),some (.int ((m:Nat):Int)),some (.ref a),some (.ref p),x4,x5,x6]/\H1=Ad H p (.lst (((List.range i).map (λi:Nat=>g6.getD (Ao g (Bn ns m ((i:Int)+lo))).toNat 0)).map V.int))) ⟨none,none,none,rfl,rfl⟩ ?_ ?_
 ·refine D9 ?_;intro _ _ i _ hGo σ H1 hi hRq;rcases hRq with⟨x4,x5,x6,rfl,rfl⟩;refine hGo _ _ ?_;walk_at "";have ei:(0:Int)+(i:Int)=((i:Nat):Int):=by lia
  rw[ei];have ex:=AH.new hp (.lst (((List.range i).map (λi:Nat=>g6.getD (Ao g (Bn ns m ((i:Int)+lo))).toNat 0)).map V.int));have wl:=KO ns m ((i:Int)+lo);have wb:=Rr g2 hb m ((i:Int)+lo);have nb:=BR g2 wb;rw[wl,<-hl]at nb;refine⟨_,rfl,_,rfl,by lia,by lia,?_⟩;refine BP (n:=m) (λj σ H2=>(∃x6,σ=[some (.ref r),some (.int ((m:Nat):Int)),some (.ref a),some (.ref p),some (.int ((i:Nat):Int)),some (.int (Ao g ((Bn ns m ((i:Int)+lo)).take j))),x6])/\H2=Ad H p (.lst (((List.range i).map (λi:Nat=>g6.getD (Ao g (Bn ns m ((i:Int)+lo))).toNat 0)).map V.int))) ⟨⟨_,rfl⟩,rfl⟩ ?_ ?_
  ·refine D9 ?_;rintro _ _ j _ hGo σ H2 hj ⟨⟨x6,rfl⟩,rfl⟩;refine hGo _ _ ?_;walk_at "";refine (CY (Ah.of (ex _ _ h1)) rfl ?_);walk_at "";have gj:(Bn ns m ((i:Int)+lo))[j]?=some (A7 ns ((i:Int)+lo+(j:Int))):=by unfold Bn;rw[bO,d4 hj];rfl
   have rz:=Hk (z:=(i:Int)+lo+(j:Int)) n1;refine⟨.inr ⟨by lia,by lia⟩,CY (Ah.of (ex _ _ h1)) rfl ⟨lo,rfl,_,.inl (ex.seq hS),by rw[hns];lia,?_⟩⟩;rw[hns,b7];refine⟨a,_,_,_,rfl,rfl,ex.seq hS,B6 0#1 rz.1,_,rfl,?_,⟨_,rfl⟩,rfl⟩;rw[Fz gj];rfl
  ·rintro σ H2 ⟨⟨x6,rfl⟩,rfl⟩;have tk:(Bn ns m ((i:Int)+lo)).take m=Bn ns m ((i:Int)+lo):=cm 0#1;rw[tk];walk_at "";refine⟨.inl ⟨_,Ae.of AE⟩,CY (Ah.of (ex _ _ h1)) rfl (CY (Ah.of (ex _ _ h2)) (B6 nb.1 0#1) ⟨_,AE,?_,⟨_,rfl⟩,?_⟩)⟩
   ·rw[bG,bG,bn];exact AY 0#1
   rw[Db,Ay,bS];rfl
 ·intro σ H1 hRq;rcases hRq with⟨x4,x5,x6,rfl,rfl⟩;walk_at "";exact q p _ ⟨AH.new hp _,hp,AE⟩
theorem Pz:AJ ["_law_signs","_law_many","_law_size","_law_k"] ["_law_signs","_law_many"] (AG aO):=CD
theorem Zg(T:CC K mg t) :Up P w K mg base 1 t.f_16 ["_law_signs","_law_many"] (Jm):=by
 refine YS T.d_16 Pz (λ_ _ _ _ _ _=>b2 λ_ _=>rfl) λxa vs H Q h=>?_;rcases h with⟨g,n,rfl,g2,g9,n0,n3,hx,q⟩;refine⟨rfl,λgu A outer s hh hr=>?_⟩
 refine⟨_,(AB (AN 2 Pz AD)
  (AB (Uo hh PassesOwn.never rfl T.z_range (AA (pv 1) AC) (BF 3 Pz) (AF (AN 2 Pz (AI BM (pv 2) (pv 0)))))
  (AF (AO (pv 2))))),?_⟩
 refine Am λN hN=>?_;walk_at "";refine hN _ _ ?_;clear hN N;refine CK (λσ HX=>(∃x,σ=[some (.int g),some (.int n),some (.int (g^n.toNat)),x])/\HX=H) (λN hN=>?_) ?_
 ·refine⟨_,rfl,n,rfl,by lia,by lia,?_⟩;refine YR (j:=n) (λi σ H1=>∃x,σ=[some (.int g),some (.int n),some (.int (g^i)),x]/\H1=H) ⟨none,by rw[cF],rfl⟩ ?_ λσ H1 ⟨x,e1,e2⟩=>⟨by rw[e2];exact hx,hN _ _ ⟨⟨x,e1⟩,e2⟩⟩
  rintro i σ H1 hi ⟨x,rfl,rfl⟩;walk_at "";refine⟨.inr ⟨by lia,by lia⟩,?_⟩;rw[cB];exact⟨rfl,_,rfl⟩
 rintro _ hGo σ HX ⟨⟨x,rfl⟩,rfl⟩;refine hGo _ _ ?_;walk_at "";exact q
theorem XY:AJ ["_law_first","_law_second","_law_many","_law_found"] ["_law_first","_law_second"] (AG aP):=CD
theorem am(T:CC K mg t)(G_61:UC P w K mg base 8 t.f_61 ["first","second"] (Ll t.c_49))(G_63:Ak P w K mg base 2 t.f_63 ["one"] (Bm))(G_62:Ak P w K mg base 7 t.f_62 ["one"] (D0))(G_74:Up P w K mg base 1 t.f_16 ["_law_signs","_law_many"] (Jm)):Ak P w K mg base 9 t.f_8 ["_law_first","_law_second"] (Jn):=by
 refine Al T.d_8 XY λvs H Q E h=>?_;rcases h with⟨r,r',g,lo,g6,m,lo',tab',m',rfl,ok,ok',U,q⟩;refine⟨rfl,λgu A outer s hr=>?_⟩
 refine⟨_,(AB (AN 2 XY (AI BI (AI Ab (AL hr G_63 T.m_63 (AA (AL hr G_62 T.m_62 (AA (pv 0) AC)) AC)) (AL hr G_63 T.m_63 (AA (AL hr G_62 T.m_62 (AA (pv 1) AC)) AC))) AD))
  (AB (Uq (W:=(λσ cls _ H'=>∃M M':Nat,σ=[some (.ref r),some (.ref r'),some (.int ((M+M'-1:Nat):Int)),none]/\1<=M/\1<=M'/\M<=8/\M'<=8/\256<g^(M+M'-1)/\cls=.ref t.c_49/\AH H H')) rfl T.m_49 rfl rfl (λ_=>(AF (AN 3 XY (Ri G_61 (hr.mono 0#8) rfl T.m_61 ME (AA (pv 0) (AA (pv 1) AC)))))) (λ_=>(AF (AO (Ca EY (S6 hr G_74 T.m_16 (AA 0#2 (AA (pv 2) AC))) AD (AR _))))))
  (AF (AO (Ca (V9 hr.units) (pv 3) (Cb (AA 0#2 (Ac (AA (QX rfl rfl T.z_range rfl T.z_tuple (AA 0#2 AC)) AC)))) (AR _)))))),?_⟩
 refine Am λN hN=>?_;walk_at "";have g2:=ok.g2;have g9:=ok.g9;refine⟨r,g,lo,g6,m,rfl,ok,λlow M nw r1 H1 e1 ok1=>⟨r1,g,_,_,M,rfl,g2,g9,ok1.v,ok1.len,?_⟩⟩;refine⟨r',g,lo',tab',m',rfl,ok'.same e1,λlow' M' nw' r3 H2 e2 ok2=>⟨r3,g,_,_,M',rfl,g2,g9,ok2.v,ok2.len,_,rfl,_,rfl,hN _ _ ?_⟩⟩;clear hN N;have M1:=ok1.m1;have M1':=ok2.m1;have M8:=ok1.m8;have M8':=ok2.m8;rw[show (M:Int)+(M':Int)-1=((M+M'-1:Nat):Int) by lia];have e12:=e1.trans e2;clear ok1 ok2 e1 e2;refine Z4 (λσ HX=>∃rj:qR,σ=[some (.ref r),some (.ref r'),some (.int ((M+M'-1:Nat):Int)),some (.ref rj)]/\AH H HX/\Au HX rj g 0 (CM g.toNat)) (λN hN=>⟨?_,?_⟩) ?_
 ·refine⟨_,rfl,_,rfl,r,r',g,lo,g6,m,lo',tab',m',low,M,low',M',rfl,ok.same e12,ok'.same e12,nw,nw',λbig H3 e3=>⟨M,M',rfl,M1,M1',M8,M8',big,rfl,e12.trans e3⟩,λle lj Mj nj rj H3 e3 okj=>?_⟩;obtain⟨l0,t0⟩:=U.still nw nw' nj;have hv:=okj.v;rw[t0,l0]at hv;exact hN _ _ ⟨rj,rfl,e12.trans e3,hv⟩
 ·intro σ' cls D' H' hRq;rcases hRq with⟨M,M',rfl,M1,M1',M8,M8',big,rfl,e⟩;refine⟨T.em_49_49,λa ha=>?_⟩;have eX:=e.trans (AH.new ha (K4 a));obtain⟨tb,h1,h2⟩:=id (ok.same eX).v;refine⟨_,rfl,r,_,0,_,rfl,rfl,Ah.of h1,rfl,_,rfl,g,_,rfl,g2,g9,by lia,by lia,AE,_,_,rfl,rfl,?_⟩;rw[bM];show Q (.bl (decide (256<g^(M+M'-1)))) _;rw[qH big];exact q _ eX
 intro σ HX hRq;rcases hRq with⟨rj,rfl,eX,hv⟩;obtain⟨tb,h1,h2⟩:=id (ok.same eX).v;walk_at "";refine (CY (Ah.of h1) rfl ⟨_,rfl,r,_,0,_,rfl,rfl,Ah.of h1,rfl,g,rfl,by lia,by lia,λl7 hl7=>⟨by decide,λp7 hp7=>?_⟩⟩);have f7:=AH.new hl7 (.tup ((CM g.toNat).map V.int));have f8:=AH.new hp7 (.tup [.int g,.int 0,.ref l7]);have hw:Au (Ad (Ad HX l7 (.tup ((CM g.toNat).map V.int))) p7 (.tup [.int g,.int 0,.ref l7])) p7 g 0 (CM g.toNat):=⟨l7,AE,f8 _ _ AE⟩;refine⟨_,_,(hv.same (f7.trans f8)).dat,hw.dat,Eu ..,Eu ..,Ig ..,?_⟩;rw[MH];exact q _ (eX.trans (f7.trans f8))
theorem Vi:AJ ["_law_one","_law_ring","_law_found"] ["_law_one","_law_ring"] (AG XX):=CD
theorem Zh(T:CC K mg t)(G_12:Ni P w K mg base 5 t.f_12 ["one","ring","most"] (Jk K) [.int 64]):Ak P w K mg base 6 t.f_14 ["_law_one","_law_ring"] (G6 K):=by
 refine Al T.d_14 Vi λvs H Q E h=>?_;rcases h with⟨r,a,g,lo,g6,m,lo',tab',m',ns,rfl,ok,U,hS,hb,n1,hn,q⟩;refine⟨rfl,λgu A outer s hr=>?_⟩
 refine⟨_,(AB (AN 2 Vi (Cr G_12.all (hr.mono 0#8) rfl T.m_12 Oz (AA (pv 0) (AA (pv 1) (Ac AC)))))
  (AF (AO (U7 (Ca RF (pv 2) Kq (AR _)) (GO (Ca Bk (AM (B3 K) (pv 2) AD 1#1) AD (AR _))))))),?_⟩
 refine Am λN hN=>?_;walk_at "";refine⟨r,a,g,lo,g6,m,ns,12,rfl,ok,hS,hb,n1,hn,by decide,λo v H1 ag e1 av=>hN _ _ ?_⟩;clear hN N;rcases o with _|⟨j,p⟩
 ·obtain rfl:v=.non:=av;walk_at "";exact q _ e1
 ·obtain⟨b,rfl,hb1⟩:=av;rcases ag with⟨p1,_,e,ap⟩;have j0:=U.again hb n1 e ap p1;subst j0;walk_at "";refine (CY (Ah.of hb1) rfl ⟨rfl,?_⟩);exact q _ e1
theorem Tb:AJ ["_law_first","_law_second","_law_ring","_law_times","_law_there","_law_long","_law_k"] ["_law_first","_law_second","_law_ring","_law_times"] (AG aQ):=CD
theorem ao(T:CC K mg t)(G_66:Ni P w K mg base 5 t.f_66 ["one","ring","times"] (Ji K) [.int 1])(G_63:Ak P w K mg base 2 t.f_63 ["one"] (Bm))(G_29:Ak P w K mg base 1 t.f_29 ["_law_one","_law_many","_law_ring"] (No K)):Ak P w K mg base 6 t.f_0 ["_law_first","_law_second","_law_ring","_law_times"] (G7 K):=by
 refine Al T.d_0 Tb λvs H Q E h=>?_;rcases h with⟨r,r',a,g,lo,g6,m,lo',tab',m',ns,tm,rfl,ok,ok',U,hS,hb,n1,hn,t6,q⟩;refine⟨rfl,λgu A outer s hr=>?_⟩
 refine⟨_,(AB (AN 4 Tb (Cr G_66.all (hr.mono 0#8) rfl T.m_66 Oz (AA (pv 0) (AA (pv 2) (AA (pv 3) AC)))))
  (AB (A3 (AQ (V7 hr.units) (Cr G_66.all (hr.mono 0#8) rfl T.m_66 Oz (AA (pv 1) (AA (pv 4) (AA (pv 3) AC)))) (pv 2) (AR _)) (AF (AO KA)) AX)
  (AB (AN 5 Tb (AL hr G_63 T.m_63 (AA (pv 1) AC)))
  (AB (A9 PassesOwn.never rfl (Az rfl T.z_range (AA (pv 3) AC)) (BF 6 Tb) (AF (AN 4 Tb (AL hr G_29 T.m_29 (AA (pv 1) (AA (pv 5) (AA (pv 4) AC)))))))
  (AF (AO (Ca (Nc hr.units) (pv 4) (pv 2) (AR _)))))))),?_⟩
 have g2:=ok.g2;refine Am λN hN=>?_;walk_at "";refine⟨r,a,g,lo,g6,m,ns,tm,rfl,ok,hS,hb,n1,hn,by lia,λp H1 n1'=>hN _ _ ?_⟩;clear hN N;refine Am λN hN=>?_;walk_at "";refine⟨r',p,g,lo',tab',m',_,tm,rfl,ok'.same n1'.1,Ae.of n1'.2.2,DO g2 lo ok.tb m hb tm,by rw[Bc];exact n1,by rw[Bc];exact hn,by lia,λp2 H2 n2=>?_⟩;have e2:=n1'.1.trans n2.1;rw[U.rings hb n1]at n2;refine⟨p2,rfl,_,Ae.of n2.2.2,_,e2.seq hS,?_⟩;rw[qE (λz=>z rfl)];refine hN _ _ ?_;clear hN N;have hp:=n2.1 _ _ n1'.2.2;clear n1' n2;refine Am λN hN=>?_;walk_at "";refine⟨r',g,lo',tab',m',rfl,g2,ok.g9,(ok'.same e2).v,ok'.len,hN _ _ ?_⟩;clear hN N;refine CK (λσ HX=>∃p3 x6,σ=[some (.ref r),some (.ref r'),some (.ref a),some (.int ((tm:Nat):Int)),some (.ref p3),some (.int ((m':Nat):Int)),x6]/\AH H HX/\HX p3=some (.lst 1#3)) (λN hN=>?_) ?_
 ·refine⟨_,rfl,_,rfl,by lia,by lia,?_⟩;rw[bM];refine BP (n:=tm) (λi σ HX=>∃p3 x6,σ=[some (.ref r),some (.ref r'),some (.ref a),some (.int ((tm:Nat):Int)),some (.ref p3),some (.int ((m':Nat):Int)),x6]/\AH H HX/\HX p3=some (.lst ((Bs g lo' tab' m' (Bs g lo g6 m ns tm) i).map V.int))) ⟨p,none,rfl,e2,hp⟩ ?_ λσ HX ⟨p3,x6,z1,z2,z3⟩=>hN _ _ ⟨p3,x6,z1,z2,by rw[U.rings hb n1]at z3;exact z3⟩
  refine D9 ?_;intro _ _ i _ hGo σ HX hi hRq;rcases hRq with⟨p3,x6,rfl,eX,h3⟩;refine hGo _ _ ?_;walk_at "";have okX:=ok'.same eX;refine⟨r',p3,g,lo',tab',m',_,rfl,g2,ok.g9,okX.v,ok'.len,ok'.m8,Ae.of h3,DO g2 lo' ok'.tb m' (DO g2 lo ok.tb m hb tm) i,by rw[Bc,Bc];exact n1,by rw[Bc,Bc];exact hn,λp4 H4 n4=>?_⟩;exact⟨p4,rfl,eX.trans n4.1,n4.2.2⟩
 intro _ hGo σ HX hRq;rcases hRq with⟨p3,x6,rfl,eX,h3⟩;refine hGo _ _ ?_;walk_at "";refine⟨_,Ae.of h3,_,eX.seq hS,?_⟩;rw[qH rfl];exact q _ eX
theorem E9:AJ ["_law_script","_law_first","_law_core_here","_law_many","_law_one","_law_ring","_law_found","_law_times"] ["_law_script"] (AG U1):=CD
theorem Zi{f:qR}{fd:FuncData}(T:CC K mg t)(F:Bl K "law" "law" U1 f fd)(G_4:Ak P w K mg base 1 t.f_4 ["_law_script","_law_k"] (Nd K))(G_27:Ak P w K mg base 4 t.f_27 ["_law_first","_law_second","_law_low_here"] (Jh LP t.p_27))(G_33:Ak P w K mg base 2 t.f_33 ["_law_core_here","_law_many","_law_cell"] (Jf))(G_48:Ak P w K mg base 10 t.f_48 ["one"] (Fl t.c_26 t.c_49))(G_44:Ak P w K mg base 1 t.f_44 ["_law_cell"] (Lj))(G_62:Ak P w K mg base 7 t.f_62 ["one"] (D0))(G_8:Ak P w K mg base 9 t.f_8 ["_law_first","_law_second"] (Jn))(G_0:Ak P w K mg base 6 t.f_0 ["_law_first","_law_second","_law_ring","_law_times"] (G7 K))(G_6:Ak P w K mg base 9 t.f_6 ["one","ring"] (Jl K))(G_14:Ak P w K mg base 6 t.f_14 ["_law_one","_law_ring"] (G6 K)):FW P w K mg base (Js P w) 11 f fd ["_law_script"] (Lc K [t.p_27]):=by
 refine F.okY E9 λvs H Q E h=>?_;rcases h with⟨a,ns,rfl,hS,h63,hT,q⟩;refine⟨rfl,λgu A outer s hr=>?_⟩
 refine⟨_,(AB (AN 1 E9 (AL hr G_4 T.m_4 (AA (pv 0) (Ac AC))))
  (AB (A3 (AQ Bk (AI Af (pv 1) AD) AD (AR _)) (AF (AN 1 E9 (AI Ab (pv 1) AD))) AX)
  (AB (A3 (PW.pt (IJ (AQ QC (AI Af (pv 1) AD) (Cb (Ac (Ac AC))) 0#3) (Fo (AQ Bk (AI Af (AI BG (pv 1) AD) AD) AD (AR _))))) (AF (AN 1 E9 (AI Ab (pv 1) AD))) AX)
  (AB (NT (AL hr G_27 T.m_27 (AA (pv 1) (AA (AL hr G_4 T.m_4 (AA (pv 0) (Ac AC))) (AA (AL hr G_44 T.m_44 (AA (AL hr G_4 T.m_4 (AA (pv 0) (Ac AC))) AC)) AC)))) (WB rfl (BJ (BF 2 E9) (BJ (BF 3 E9) C4))))
  (AB (AN 4 E9 (AL hr G_33 T.m_33 (AA (pv 2) (AA (pv 3) (AA (AL hr G_4 T.m_4 (AA (pv 0) (Ac AC))) AC)))))
  (AB (EH (iy:=5) (fv:=[(2,"_law_core_here")]) (cl:=[("_law_core_here",_)]) rfl E9.nd rfl (Or.inl rfl) (Q6 K (Dx FC (pv 0) (EE AD) (EE AD))) 0#3 0#3 (by decide +kernel) rfl (by decide +kernel) rfl ⟨0#3,trivial⟩ 0#3 ⟨⟨rfl,rfl,0#3,rfl⟩,trivial⟩ 0#8 (λ_ _ _ _=>DM) (λ_ _ _ _=>(AI Af (pv 0) (AM (Hh (K:=K) rfl) (pv 1) AD 1#1))))
  (AB (A3 (AQ (Nc hr.units) (pv 5) (BC AC) (AR _)) (AF (AN 5 E9 (BC (Ac AC)))) AX)
  (AB (AN 6 E9 (AL hr G_48 T.m_48 (AA (pv 4) AC)))
  (AB (AN 7 E9 (AI Af (AI BG (AL hr G_4 T.m_4 (AA (pv 0) (Ac AC))) AD) AD))
  (AB (A3 (PW.pt (Fp (Ek (Dp (AL hr G_0 T.m_0 (AA (pv 4) (AA (pv 6) (AA (pv 5) (AA (pv 7) AC))))))) (Ej (Ek (Dp (AL hr G_0 T.m_0 (AA (pv 6) (AA (pv 4) (AA (pv 5) (AA (pv 7) AC)))))))))) (AF (AO KA)) AX)
  (AB (A3 (PW.pt (Fp (AQ IN (AL hr G_6 T.m_6 (AA (pv 4) (AA (Dx FC (pv 5) Fw (EE AD)) AC))) AD (AR _)) (Ej (Ek (Dp (AL hr G_14 T.m_14 (AA (pv 4) (AA (Dx FC (pv 5) Fw (EE AD)) AC)))))))) (AF (AO KA)) AX)
  (AB (A3 (AQ (Pe (K:=K) rfl hr.units) (AL hr G_48 T.m_48 (AA (pv 6) AC)) (AL hr G_62 T.m_62 (AA (pv 4) AC)) (AR _)) (AF (AO KA)) AX)
  (AF (AO (IK (AL hr G_8 T.m_8 (AA (pv 4) (AA (pv 6) AC))) (GO (AL hr G_8 T.m_8 (AA (pv 6) (AA (pv 4) AC))))))))))))))))))),?_⟩
 have tb0:C3 LP (WW "_law_core") t.p_27 H:=C3.start (hT _ (bV.mpr rfl));refine Am λN hN=>?_;walk_at "";refine⟨a,ns,0,rfl,hS,h63,hN _ _ ?_⟩;clear hN N;refine CK (λσ HX=>(∃c:Int,σ=[some (.ref a),some (.int c),none,none,none,none,none,none]/\c%12≠7)/\HX=H) (λN hN=>?_) ?_
 ·walk_at "";refine⟨by decide,?_⟩
  by_cases z:ns.getD 0 0%12=7
  ·rw[qF z];exact hN _ _ ⟨⟨_,rfl,by lia⟩,rfl⟩
  ·rw[qE z];exact hN _ _ ⟨⟨_,rfl,z⟩,rfl⟩
 intro _ hGo σ HX hRq;rcases hRq with⟨⟨c,rfl,c7⟩,rfl⟩;refine hGo _ _ ?_;refine CK (λσ H1=>(∃c:Int,σ=[some (.ref a),some (.int c),none,none,none,none,none,none]/\Kn c)/\AH HX H1) (λN hN=>?_) ?_
 ·walk_at "";refine⟨by decide,by decide,λp hp=>⟨p,_,rfl,.inr (Ah.of AE),rfl,rfl,_,rfl,?_⟩⟩;have iv:Xs (.int (c%12)) [.int 6,.int 11]=true↔(c%12=6\/c%12=11):=by unfold Xs;rw[gd,gd,List.any_nil,Bool.or_false,Bool.or_eq_true];show (decide ((6:Int)=c%12))=true\/(decide ((11:Int)=c%12))=true↔_;rw[decide_eq_true_iff,decide_eq_true_iff];lia
  show if Xs (.int (c%12)) [.int 6,.int 11]=true then _ else _
  by_cases z:c%12=6\/c%12=11
  ·rw[qF (iv.mpr z)];refine⟨by decide,by decide,by decide,?_⟩
   by_cases y:c/12%4=2
   ·rw[qF y];exact hN _ _ ⟨⟨_,rfl,by unfold Kn;lia⟩,AH.new hp _⟩
   ·rw[qE y];exact hN _ _ ⟨⟨_,rfl,by unfold Kn;lia⟩,AH.new hp _⟩
  ·rw[qE (λy=>z (iv.mp y))];exact hN _ _ ⟨⟨_,rfl,by unfold Kn;lia⟩,AH.new hp _⟩
 clear c7 c;intro _ hGo σ H1 hRq;rcases hRq with⟨⟨c,rfl,fit⟩,e0⟩;refine hGo _ _ ?_;have tb0:=tb0.same e0;have hS0:=e0.seq hS;clear hS;refine Am λN hN=>?_;walk_at "";refine⟨a,ns,1,rfl,hS0,h63,a,ns,2,rfl,hS0,h63,_,rfl,λlo=>⟨c,_,lo,rfl,tb0,λp0 r H2 g g6 m d tf mf top e2 tb2 hp0 ok core slim=>?_⟩⟩;refine⟨p0,_,rfl,Ae.of hp0,rfl,_,_,rfl,_,_,rfl,rfl,hN _ _ ?_⟩;clear hN N hp0;have hS1:=Dk.seq e2 tb0 hS0;obtain⟨k4,g8,tw⟩:=fit.is (J4 (ns.getD 1 0) 15);have slim:=slim k4 g8;rw[tw]at core;clear e2 tb2 tb0 hS0 e0 fit k4 g8 tw;have g2:=core.g2;have g9:=core.g9;refine Am λN hN=>?_;walk_at "";refine⟨a,ns,3,rfl,hS1,h63,r,g,lo,g6,m,_,rfl,ok,core.m4,core.m3,λr2 lo2 tab2 M2 H3 e3 ok2 al2=>hN _ _ ?_⟩;clear hN N;obtain⟨tb,h1,h2⟩:=id (ok.same e3).v;refine Am λN hN=>?_;walk_at "";refine⟨_,rfl,4,rfl,302,rfl,GZ (e3.seq hS1) λp4 H4 e4 _ h4=>⟨p4,rfl,⟨_,Ae.of h4⟩,λD hD=>?_⟩⟩;rw[Rf]at h4;obtain⟨cs,hcs⟩:∃cs:qW,cs=Re ns (some 4) (some 302):=⟨_,rfl⟩;rw[<-hcs]at h4
 have cl:cs.length<=63:=by rw[hcs];exact cK (UA _ _ _) h63
 refine FF (xs:=cs.map V.int) (λi gt Hx=>gt=((cs.take i).map (·%g)).map V.int/\AH H4 Hx/\Hx D=some (.lst gt)) ⟨rfl,AH.new hD _,AE⟩ (λi gt Hx _ z=>Ae.of (z.2.1 _ _ h4)) ?_ ?_
 ·refine Li ?_;rintro i x _ hGo gt Hx hx ⟨rfl,ex,hDx⟩;refine hGo _ _ ?_;obtain⟨v,hv,rfl⟩:=Ch hx;walk_at "";refine (CY (Ah.of ((e4.trans ex) _ _ h1)) rfl ?_);walk_at "";refine⟨by lia,hDx,?_,?_,ex.into hD,AE⟩
  ·rw[bG,bG,bq];exact AY 0#1
  ·rw[dg,hv];simp
 rintro gt H5 ⟨rfl,e5,h5⟩;rw[bG,cT]at h5;refine hN _ _ ?_;clear hN N;have e35:=(e3.trans e4).trans e5;have ok25:=ok2.same (e4.trans e5);have wb:∀n∈cs.map (·%g),0<=n/\n<g:=UB g2 _;have wl:(cs.map (·%g)).length<=63:=by rw[bG];exact cl
 generalize cs.map (·%g)=ws at h5 wb wl;have hS5:=e35.seq hS1;clear hcs cl h4 e4 e5 hD e35 h1 h2 ok2 hS1 ok e3;refine CK (λσ HX=>(∃(D:qR) (ring:qW),σ=[some (.ref a),some (.int c),some (.ref r),some (.int ((m:Nat):Int)),some (.ref r2),some (.ref D),none,none]/\HX D=some (.lst (ring.map V.int))/\(∀n∈ring,0<=n/\n<g)/\1<=ring.length/\ring.length<=63)/\AH H5 HX) (λN hN=>?_) ?_
 ·walk_at "";refine⟨cS _,λp hp=>⟨ws,Ae.of (AH.new hp _ _ _ h5),[],Ae.of AE,?_⟩⟩
  by_cases z:ws=[]
  ·rw[qF z];exact⟨by decide,λp2 hp2=>hN _ _ ⟨⟨p2,[0],rfl,AE,λn hn=>by rw[bV.mp hn];lia,bL _,by decide⟩,(AH.new hp _).trans (AH.new hp2 _)⟩⟩
  ·rw[qE z];exact hN _ _ ⟨⟨D,ws,rfl,AH.new hp _ _ _ h5,wb,by have:=fh.mpr z;lia,wl⟩,AH.new hp _⟩
 intro _ hGo σ HX hRq;rcases hRq with⟨⟨D,ring,rfl,hD,rb,n1,rl⟩,eX⟩;refine hGo _ _ ?_;have okX:=ok25.same eX;have hSX:=eX.seq hS5;have fw:BU g lo2 tab2 M2 (lo+d) tf mf:=core.fr lo lo2 tab2 M2 okX.len al2.symm;have tfb:=FN g2 okX.tb fw;clear hS5 ok25 eX h5 wb wl ws H5;refine Am λN hN=>?_;walk_at "";refine⟨r2,g,lo2,tab2,M2,_,_,_,rfl,okX,fw,λz=>?_,λz=>?_,λsm gq left gs bx em m1 s256 r3 H6 e6 ok3=>hN _ _ ?_⟩
 ·obtain⟨rk,hr,_⟩:=core.rise;exact qG hr (z.2 rk)
 ·exact qG z (CQ.not_wide core rfl)
 clear hN N;have few:=CQ.few core bx;have U:=(CQ.und core tfb bx em m1 ok3.tb lo).like okX.len okX.m1 okX.tb al2;have ends:=Th.ends g2 core.tfl core.mf2 tfb bx em m1;rcases NK (lo:=-(lo+d)-(gq:Int)) (mf:=mf) g2 g9 ok3.len m1 ends 0#1 core.sm with⟨lf',tf',mf',fw',sm'⟩;have hD6:=e6 _ _ hD;have ok26:=okX.same e6;have hS6:=e6.seq hSX;obtain⟨lo3,hlo3⟩:∃lo3,lo3=-(lo+d)-(gq:Int):=⟨_,rfl⟩;obtain⟨W,hW⟩:∃W,W=Kf g tf mf gq gs:=⟨_,rfl⟩;rw[<-hlo3,<-hW]at U fw' ok3;clear ends few hlo3 hW bx em slim tfb al2 hD okX hSX e6 s256 sm;refine Am λN hN=>?_;walk_at "";refine⟨a,ns,3,rfl,hS6,h63,_,rfl,by decide,by decide,by decide,hN _ _ ?_⟩;clear hN N;obtain⟨tm,htm,t6⟩:∃tm:Nat,(tm:Int)=ns.getD 3 0/64%7/\tm<=6:=⟨(ns.getD 3 0/64%7).toNat,by lia,by lia⟩;rw[<-htm];clear htm;refine Am λN hN=>?_;walk_at "";refine⟨r2,r3,D,g,lo2,tab2,M2,lo3,W,gs,ring,tm,rfl,ok26,ok3,U,Ae.of hD6,rb,n1,by lia,t6,λH7 e7=>⟨true,rfl,?_⟩⟩;rw[qE 0#8];refine⟨r3,r2,D,g,lo3,W,gs,lo2,tab2,M2,ring,tm,rfl,ok3.same e7,ok26.same e7,U.turn,Ae.of (e7 _ _ hD6),rb,n1,by lia,t6,λH8 e8=>⟨true,rfl,?_⟩⟩;rw[qE 0#8];refine hN _ _ ?_;clear hN N;have e78:=e7.trans e8;have ok28:=ok26.same e78;have ok38:=ok3.same e78;have hD8:=e78 _ _ hD6;clear e7 e8 e78 ok26 ok3 hD6 hS6;refine Am λN hN=>?_;walk_at "";have tl:1<=(ring.take 12).length/\(ring.take 12).length<=12:=by rw[bq];lia
 have tb12:∀n∈ring.take 12,0<=n/\n<g:=λn hn=>rb n (cO hn)
 refine GZ (Ae.of hD8) λp9 H9 e9 _ h9=>?_;rw[show (some (12:Int))=some ((12:Nat):Int) from rfl,Hi,<-ez]at h9;refine⟨r2,p9,g,lo2,tab2,M2,_,_,_,ring.take 12,rfl,ok28.same e9,fw,core.sm,Ae.of h9,tb12,tl.1,λH10 e10=>?_⟩;rw[JJ g2 ok28.len ok28.m1 lo2 tl.1,U.one tb12 tl.1];refine⟨rfl,?_⟩;rw[qE (λz=>z rfl)];have e910:=e9.trans e10;refine GZ (Ae.of (e910 _ _ hD8)) λp11 H11 e11 _ h11=>?_;rw[show (some (12:Int))=some ((12:Nat):Int) from rfl,Hi,<-ez]at h11;have e811:=e910.trans e11;refine⟨r2,p11,g,lo2,tab2,M2,lo3,W,gs,ring.take 12,rfl,ok28.same e811,U,Ae.of h11,tb12,tl.1,by lia,λH12 e12=>⟨true,rfl,?_⟩⟩;rw[qE 0#8];refine hN _ _ ?_;clear hN N;have e812:=e811.trans e12;have ok2z:=ok28.same e812;have ok3z:=ok38.same e812;clear e9 e10 e11 e12 e811 e812 e910 h9 h11 ok28 ok38 hD8 tl tb12 rb n1 rl fw;refine Am λN hN=>?_;walk_at "";refine⟨r3,g,lo3,W,gs,_,_,_,rfl,ok3z,fw',λz=>qG z (U.not_none fw'),λz=>qG z (U.not_wide fw' sm' ok2z.sz),λ_ even' left' many' bx' em' m1' _ r4 H13 e13 ok4=>?_⟩;refine⟨r2,g,lo2,tab2,M2,rfl,ok2z.same e13,λlow M nw r5 H14 e14 ok5=>?_⟩;obtain⟨u1,u2,u3⟩:=U.back fw' bx' em' m1' nw;subst u2;rw[u1,u3]at ok4;refine⟨_,_,(ok4.same e14).v.dat,ok5.v.dat,Eu ..,Eu ..,Ig ..,_,rfl,?_⟩;rw[MH,qE 0#8];refine hN _ _ ?_;clear hN N;have e:=e13.trans e14;have ok2y:=ok2z.same e;have ok3y:=ok3z.same e;walk_at "";refine⟨r2,r3,g,lo2,tab2,M2,lo3,W,gs,rfl,ok2y,ok3y,U,λH15 e15=>⟨true,rfl,?_⟩⟩;rw[qF rfl];exact⟨r3,r2,g,lo3,W,gs,lo2,tab2,M2,rfl,ok3y.same e15,ok2y.same e15,U.turn,λH16 e16=>q _⟩
end
theorem XZ{l:PySem.W.OpenLaw}{w:qU}{K:qV}{h:Heap}{mg:Str->Option qQ}{fa c_43 c_56 c_65 c_57 c_42 c_49 c_26 f_47 f_50 f_19 f_5 f_1 f_40 f_55 f_18 f_23 f_7 f_11 f_71 f_63 f_39 f_41 f_68 f_70 f_38 f_73 f_66 f_12 f_64 f_52 f_58 f_54 f_36 f_59 f_46 f_2 f_37 f_62 f_53 f_67 f_13 f_20 f_51 f_35 f_25 f_45 f_60 f_21 f_22 f_69 f_48 f_61 f_3 f_24 f_6 f_4 f_9 f_16 f_34 f_10 f_15 f_31 f_17 f_28 f_32 f_27 f_44 f_30 f_33 f_29 f_8 f_14 f_0 f_72 k_EVEN cc_27 p_27:qR}{g_LONGEST_TABLE g_MOST_NODES:Tok}(X:K.In h)(G:h.Ns mainGlobals mg)(hfa:mg "law"=some (.ref fa))
  (n_43:PySem.W.nsIn K mainGlobals "RowError"=some (some (.ref c_43)))
  (n_56:PySem.W.nsIn K mainGlobals "NoRule"=some (some (.ref c_56)))
  (n_65:PySem.W.nsIn K mainGlobals "NoRow"=some (some (.ref c_65)))
  (n_57:PySem.W.nsIn K mainGlobals "NoSuch"=some (some (.ref c_57)))
  (n_42:PySem.W.nsIn K mainGlobals "NoWindow"=some (some (.ref c_42)))
  (n_49:PySem.W.nsIn K mainGlobals "TooWide"=some (some (.ref c_49)))
  (n_26:PySem.W.nsIn K mainGlobals "NoWayBack"=some (some (.ref c_26)))
  (n_EVEN:PySem.W.nsIn K mainGlobals "EVEN"=some (some (.ref k_EVEN)))
  (q_EVEN:PX K k_EVEN [0,0]=true)
  (h_47:AV K "is_whole" Wa f_47)
  (h_50:AV K "is_sign" Wc f_50)
  (h_19:AV K "check_word" Wd f_19)
  (h_5:AV K "check_length" aE f_5)
  (h_1:AV K "check_at_least" aG f_1)
  (h_40:AV K "number_of" We f_40)
  (h_55:AV K "word_of" Wf f_55)
  (h_18:AV K "check_head" Wg f_18)
  (h_23:AV K "places_for" Wh f_23)
  (h_7:AV K "table_length" aH f_7)
  (h_11:AV K "check_table" Wi f_11)
  (h_71:AV K "rule" Wj f_71)
  (h_63:AV K "places" Wk f_63)
  (h_39:AV K "next_sign" Wl f_39)
  (h_41:AV K "told_from" Wm f_41)
  (h_68:AV K "heads" Wn f_68)
  (h_70:AV K "lead" Wo f_70)
  (h_38:AV K "lead_ring" Wp f_38)
  (h_73:AV K "led" Wq f_73)
  (h_66:K6 K "after" Wr f_66 1)
  (h_12:K6 K "comes_again" Ws f_12 64)
  (h_64:AV K "shares" Wt f_64)
  (h_52:AV K "ways_on" Wu f_52)
  (h_58:AV K "choose" Wv f_58)
  (h_54:AV K "word_by" Ww f_54)
  (h_36:AV K "before_at" Wx f_36)
  (h_59:AV K "counts" Wy f_59)
  (h_46:AV K "counting" Wz f_46)
  (h_2:AV K "sign_or_nought" aI f_2)
  (h_37:AV K "by_window" W0 f_37)
  (h_62:AV K "narrow" W1 f_62)
  (h_53:AV K "widened" W2 f_53)
  (h_67:AV K "frame" W3 f_67)
  (h_13:AV K "turned_back" W4 f_13)
  (h_20:AV K "most_steps" W5 f_20)
  (h_51:AV K "pair_of" W6 f_51)
  (h_35:AV K "all_pairs" W7 f_35)
  (h_25:AV K "word_pairs" W8 f_25)
  (h_45:AV K "begin_of" W9 f_45)
  (h_60:AV K "end_of" XA f_60)
  (h_21:AV K "pair_nexts" XB f_21)
  (h_22:AV K "pair_ranks" XC f_22)
  (h_69:AV K "ranks" XD f_69)
  (h_48:AV K "way_back" XE f_48)
  (h_61:AV K "joined" XF f_61)
  (h_3:AV K "steps_by_sign" aJ f_3)
  (h_24:AV K "ways_round" XG f_24)
  (h_6:AV K "rings_before" aK f_6)
  (h_4:AV K "_law_cell_at" aL f_4)
  (h_9:AV K "_law_stream" aN f_9)
  (h_16:AV K "_law_power" XH f_16)
  (h_34:AV K "_law_word" XI f_34)
  (h_10:AV K "_law_tracks" XJ f_10)
  (h_15:AV K "_law_marks" XM f_15)
  (h_31:AV K "_law_sums" XN f_31)
  (h_17:AV K "_law_three" XO f_17)
  (h_28:AV K "_law_flip" XQ f_28)
  (h_32:AV K "_law_told" XR f_32)
  (h_27:Pi K "_law_core" XS f_27 cc_27 p_27)
  (h_44:AV K "_law_low" XT f_44)
  (h_30:AV K "_law_seen" XU f_30)
  (h_33:AV K "_law_wide" XV f_33)
  (h_29:AV K "_law_once" XW f_29)
  (h_8:AV K "_law_joined" aP f_8)
  (h_14:AV K "_law_again" XX f_14)
  (h_0:AV K "_law_there_and_back" aQ f_0)
  (h_72:AV K "law" U1 f_72)
  (z_len:PySem.W.nsIn K mainGlobals "len"=some none)
  (z_list:PySem.W.nsIn K mainGlobals "list"=some none)
  (z_reversed:PySem.W.nsIn K mainGlobals "reversed"=some none)
  (z_isinstance:PySem.W.nsIn K mainGlobals "isinstance"=some none)
  (z_range:PySem.W.nsIn K mainGlobals "range"=some none)
  (z_int:PySem.W.nsIn K mainGlobals "int"=some none)
  (z_bool:PySem.W.nsIn K mainGlobals "bool"=some none)
  (z_ValueError:PySem.W.nsIn K mainGlobals "ValueError"=some none)
  (z_tuple:PySem.W.nsIn K mainGlobals "tuple"=some none)
  (z_enumerate:PySem.W.nsIn K mainGlobals "enumerate"=some none)
  (z_min:PySem.W.nsIn K mainGlobals "min"=some none)
  (z_sum:PySem.W.nsIn K mainGlobals "sum"=some none)
  (z_sorted:PySem.W.nsIn K mainGlobals "sorted"=some none)
  (z_all:PySem.W.nsIn K mainGlobals "all"=some none)
  (w_LONGEST_TABLE:PySem.W.nsIn K mainGlobals "LONGEST_TABLE"=some (some (.int 256 g_LONGEST_TABLE)))
  (w_MOST_NODES:PySem.W.nsIn K mainGlobals "MOST_NODES"=some (some (.int 9 g_MOST_NODES)))
  (x_42:PySem.W.excIn K c_42 Na "ValueError.__new__"=true)
  (x_49:PySem.W.excIn K c_49 Na "ValueError.__new__"=true)
  (x_26:PySem.W.excIn K c_26 Na "ValueError.__new__"=true)
  (em_49_49:PySem.W.exmOne K (.ref c_49) (.ref c_49)=some true)
  : (∀P∈[p_27],∃c,PySem.W.codeHdIn K c P=true)/\∃fd:FuncData,(∀(s:qS) (v:qQ),BindsTo s fd ⟨[v],[]⟩ [("_law_script",v)])/\∀base:Heap,K.In base->base.Ns mainGlobals mg->JV mg base->FW l.prog w K mg base (Js l.prog w) 11 fa fd ["_law_script"] (Lc K [p_27]):=by
 have mo:∀{n:Str}{v:Value},PySem.W.nsIn K mainGlobals n=some (some v)->mg n=some v:=λe=>PySem.W.mg_of X G e;have T:CC K mg ⟨c_43,c_56,c_65,c_57,c_42,c_49,c_26,f_47,f_50,f_19,f_5,f_1,f_40,f_55,f_18,f_23,f_7,f_11,f_71,f_63,f_39,f_41,f_68,f_70,f_38,f_73,f_66,f_12,f_64,f_52,f_58,f_54,f_36,f_59,f_46,f_2,f_37,f_62,f_53,f_67,f_13,f_20,f_51,f_35,f_25,f_45,f_60,f_21,f_22,f_69,f_48,f_61,f_3,f_24,f_6,f_4,f_9,f_16,f_34,f_10,f_15,f_31,f_17,f_28,f_32,f_27,f_44,f_30,f_33,f_29,f_8,f_14,f_0,f_72,k_EVEN,cc_27,p_27⟩:=⟨mo n_43,mo n_56,mo n_65,mo n_57,mo n_42,mo n_49,mo n_26,mo n_EVEN,q_EVEN,mo h_47.2,h_47.1,mo h_50.2,h_50.1,mo h_19.2,h_19.1,mo h_5.2,h_5.1,mo h_1.2,h_1.1,mo h_40.2,h_40.1,mo h_55.2,h_55.1,mo h_18.2,h_18.1,mo h_23.2,h_23.1,mo h_7.2,h_7.1,mo h_11.2,h_11.1,mo h_71.2,h_71.1,mo h_63.2,h_63.1,mo h_39.2,h_39.1,mo h_41.2,h_41.1,mo h_68.2,h_68.1,mo h_70.2,h_70.1,mo h_38.2,h_38.1,mo h_73.2,h_73.1,mo h_66.2,h_66.1,mo h_12.2,h_12.1,mo h_64.2,h_64.1,mo h_52.2,h_52.1,mo h_58.2,h_58.1,mo h_54.2,h_54.1,mo h_36.2,h_36.1,mo h_59.2,h_59.1,mo h_46.2,h_46.1,mo h_2.2,h_2.1,mo h_37.2,h_37.1,mo h_62.2,h_62.1,mo h_53.2,h_53.1,mo h_67.2,h_67.1,mo h_13.2,h_13.1,mo h_20.2,h_20.1,mo h_51.2,h_51.1,mo h_35.2,h_35.1,mo h_25.2,h_25.1,mo h_45.2,h_45.1,mo h_60.2,h_60.1,mo h_21.2,h_21.1,mo h_22.2,h_22.1,mo h_69.2,h_69.1,mo h_48.2,h_48.1,mo h_61.2,h_61.1,mo h_3.2,h_3.1,mo h_24.2,h_24.1,mo h_6.2,h_6.1,mo h_4.2,h_4.1,mo h_9.2,h_9.1,mo h_16.2,h_16.1,mo h_34.2,h_34.1,mo h_10.2,h_10.1,mo h_15.2,h_15.1,mo h_31.2,h_31.1,mo h_17.2,h_17.1,mo h_28.2,h_28.1,mo h_32.2,h_32.1,mo h_27.2,h_27.1,(let ⟨_,z⟩:=h_27.1;z.hd),mo h_44.2,h_44.1,mo h_30.2,h_30.1,mo h_33.2,h_33.1,mo h_29.2,h_29.1,mo h_8.2,h_8.1,mo h_14.2,h_14.1,mo h_0.2,h_0.1,mo h_72.2,h_72.1,PySem.W.mg_none_of X G z_len,PySem.W.mg_none_of X G z_list,PySem.W.mg_none_of X G z_reversed,PySem.W.mg_none_of X G z_isinstance,PySem.W.mg_none_of X G z_range,PySem.W.mg_none_of X G z_int,PySem.W.mg_none_of X G z_bool,PySem.W.mg_none_of X G z_ValueError,PySem.W.mg_none_of X G z_tuple,PySem.W.mg_none_of X G z_enumerate,PySem.W.mg_none_of X G z_min,PySem.W.mg_none_of X G z_sum,PySem.W.mg_none_of X G z_sorted,PySem.W.mg_none_of X G z_all,⟨_,mo w_LONGEST_TABLE⟩,⟨_,mo w_MOST_NODES⟩,x_42,x_49,x_26,em_49_49⟩;have e:=hfa.symm.trans T.m_72;cases e;obtain⟨fd,F⟩:=T.d_72;rcases F.ex with⟨oc,od,kV,doc,pm,an,gu,ct,osl,ef,lk,hcd⟩;refine⟨(List.forall_mem_cons.mpr ⟨⟨_,T.hd_27⟩,(λ_ h=>qG h cG)⟩),fd,λs v=>by rw[ef];exact .of_eq rfl,λbase _ _ hB=>?_⟩;have G_47:=YW (P:=l.prog) (w:=w) (base:=base) T;have G_50:=YY (P:=l.prog) (w:=w) (base:=base) T G_47;have G_19:=YZ (P:=l.prog) (w:=w) (base:=base) T G_50;have G_5:=aU (P:=l.prog) (w:=w) (base:=base) T G_19;have G_1:=aW (P:=l.prog) (w:=w) (base:=base) T G_19;have G_40:=Ya (P:=l.prog) (w:=w) (base:=base) T G_19;have G_55:=Yc (P:=l.prog) (w:=w) (base:=base) T;have G_18:=Ye (P:=l.prog) (w:=w) (base:=base) T G_47;have G_23:=Yf (P:=l.prog) (w:=w) (base:=base) T;have G_7:=aY (P:=l.prog) (w:=w) (base:=base) T;have G_11:=Yg (P:=l.prog) (w:=w) (base:=base) T G_23 G_50;have G_71:=Yi (P:=l.prog) (w:=w) (base:=base) T G_18 G_11;have G_63:=Yk (P:=l.prog) (w:=w) (base:=base) T G_23;have G_39:=Ym (P:=l.prog) (w:=w) (base:=base) T G_5 G_63 G_40;have G_41:=Yn (P:=l.prog) (w:=w) (base:=base) T;have G_68:=Yp (P:=l.prog) (w:=w) (base:=base) T;have G_70:=Yq (P:=l.prog) (w:=w) (base:=base) T G_63;have G_38:=Yr (P:=l.prog) (w:=w) (base:=base) T G_70 G_63;have G_73:=Yt (P:=l.prog) (w:=w) (base:=base) T G_19 G_70;have G_66:=Yu (P:=l.prog) (w:=w) (base:=base) T G_1 G_38;have G_12:=Yv (P:=l.prog) (w:=w) (base:=base) T G_1 G_38;have G_64:=Yx (P:=l.prog) (w:=w) (base:=base) T G_68;have G_52:=Yy (P:=l.prog) (w:=w) (base:=base) T G_68 G_64 G_41;have G_58:=Yz (P:=l.prog) (w:=w) (base:=base) T;have G_54:=Y0 (P:=l.prog) (w:=w) (base:=base) T G_58 G_55 G_41 G_63 G_64 G_68;have G_36:=Y1 (P:=l.prog) (w:=w) (base:=base) T G_19 G_52 G_54;have G_59:=Y2 (P:=l.prog) (w:=w) (base:=base) T;have G_46:=Y3 (P:=l.prog) (w:=w) (base:=base) T G_63 G_59;have G_2:=aa (P:=l.prog) (w:=w) (base:=base) T;have G_37:=Y4 (P:=l.prog) (w:=w) (base:=base) T G_71 G_7 G_55 G_39 G_2 G_63;have G_62:=Y5 (P:=l.prog) (w:=w) (base:=base) T G_46 G_37;have G_53:=Y6 (P:=l.prog) (w:=w) (base:=base) T G_46 G_37 G_7;have G_67:=Y7 (P:=l.prog) (w:=w) (base:=base) T G_62 G_63 G_53 G_68;have G_13:=Y8 (P:=l.prog) (w:=w) (base:=base) T;have G_20:=Y9 (P:=l.prog) (w:=w) (base:=base) T;have G_51:=ZB (P:=l.prog) (w:=w) (base:=base) T;have G_35:=ZC (P:=l.prog) (w:=w) (base:=base) T G_68;have G_25:=ZD (P:=l.prog) (w:=w) (base:=base) T;have G_45:=ZF (P:=l.prog) (w:=w) (base:=base) T G_51;have G_60:=ZH (P:=l.prog) (w:=w) (base:=base) T G_51 G_68;have G_21:=ZI (P:=l.prog) (w:=w) (base:=base) T G_35 G_25 G_60 G_45;have G_22:=ZK (P:=l.prog) (w:=w) (base:=base) T G_20 G_13 G_21;have G_69:=ZL (P:=l.prog) (w:=w) (base:=base) T G_67 G_22 G_35;have G_48:=ZM (P:=l.prog) (w:=w) (base:=base) T G_67 G_69 G_71 G_63 G_7 G_55 G_36 G_20 G_21;have G_61:=ZN (P:=l.prog) (w:=w) (base:=base) T G_62 G_7 G_71 G_63 G_39 G_73 G_55;have G_3:=ae (P:=l.prog) (w:=w) (base:=base) T G_68;have G_24:=ZO (P:=l.prog) (w:=w) (base:=base) T;have G_6:=af (P:=l.prog) (w:=w) (base:=base) T G_67 G_1 G_68 G_3 G_24;have G_4:=aj (P:=l.prog) (w:=w) (base:=base) T;have G_9:=ak (P:=l.prog) (w:=w) (base:=base) T;have G_16:=ZP (P:=l.prog) (w:=w) (base:=base) T;have G_34:=ZQ (P:=l.prog) (w:=w) (base:=base) T;have G_10:=ZR (P:=l.prog) (w:=w) (base:=base) T;have G_15:=ZT (P:=l.prog) (w:=w) (base:=base) T;have G_31:=ZU (P:=l.prog) (w:=w) (base:=base) T;have G_17:=ZW (P:=l.prog) (w:=w) (base:=base) T;have G_28:=ZX (P:=l.prog) (w:=w) (base:=base) T;have G_32:=ZY (P:=l.prog) (w:=w) (base:=base) T G_28 G_10 G_15 G_31 G_17;have G_27:=ZZ (P:=l.prog) (w:=w) (base:=base) T hB G_9 G_34 G_32 G_16;have G_44:=Zc (P:=l.prog) (w:=w) (base:=base) T;have G_30:=Zd (P:=l.prog) (w:=w) (base:=base) T;have G_33:=Ze (P:=l.prog) (w:=w) (base:=base) T G_30 G_34 G_16;have G_29:=Zf (P:=l.prog) (w:=w) (base:=base) T;have G_74:=Zg (P:=l.prog) (w:=w) (base:=base) T;have G_8:=am (P:=l.prog) (w:=w) (base:=base) T G_61 G_63 G_62 G_74;have G_14:=Zh (P:=l.prog) (w:=w) (base:=base) T G_12;have G_0:=ao (P:=l.prog) (w:=w) (base:=base) T G_66 G_63 G_29;exact Zi T F G_4 G_27 G_33 G_48 G_44 G_62 G_8 G_0 G_6 G_14
end K55
noncomputable def PySem.W.Fast.tw17726519833287123309:=PySem.Challenge.pw_rowrules_k55_whole_there_and_back
theorem PySem.W.Fast.te17726519833287123309:PySem.Challenge.pw_rowrules_k55_whole_there_and_back=PySem.W.Fast.tw17726519833287123309:=rfl
namespace PySem.W.Fast
abbrev A:=Nat
def tw4230990003334615519:=A
def tw3416630850514290971:=A
def tw13304075255412660465:=A
def tw14894083233786245059:=A
def tw13118496812754021055:=A
def tw6198879733407726390:=A
def tw217699510625800357:=A
def tw8185659986241825964:=A
def tw17103725298680596848:=A
def tw4929765215262413897:=A
def tw14167480045056526022:=A
def tw15165136490410891965:=A
def tw10735687979652853768:=A
def tw12704428171160411552:=A
def tw13909926043342902887:=A
def tw6348240791654792740:=A
def tw5627334272371026001:=A
def tw8068537902014192484:=A
def tw12338010053740361072:=A
def tw12520688803992945506:=A
def tw10748810413446920262:=A
def tw17274826540938289311:=A
def tw15965361579743059499:=A
def tw8082256096870707866:=A
def tw10936493390005531518:=A
def tw8449217822319810236:=A
def tw14262170932875858836:=A
def tw8391986952241351664:=A
def tw7081426596255314047:=A
def tw17283070422583630492:=A
def tw8622873731065343317:=A
def tw7078882698823370088:=A
def tw5779520935089331226:=A
def tw256937484578898511:=A
def tw9361857388417927428:=A
def tw1625828812662773095:=A
def tw5739048486372189268:=A
def tw7511988640615108669:=A
def tw9360753533275035890:=A
def tw17222386011291396616:=A
def tw9646063113474081743:=A
def tw9854330135525723245:=A
def tw7472609765882590209:=A
def tw10935722350607718747:=A
def tw9108186051792758436:=A
def tw12298916037825032102:=A
def tw18149613589348695526:=A
def tw11952607958144016752:=A
def tw1316608093262192089:=A
def tw8212797972379258315:=A
def tw9409440068098624642:=A
def tw15113042254666298298:=A
def tw12176607833097901176:=A
def tw16854172907494098871:=A
def tw17647687179817022598:=A
def tw16736551862100887614:=A
def tw14170356768487200211:=A
def tw14948378766305729147:=A
def tw8126126579043042790:=A
def tw3000610990296416573:=A
def tw17557642951416539625:=A
def tw1599860459278428049:=A
def tw7320810710321508431:=A
def tw6706886660310316951:=A
def tw6213692742153266868:=A
def tw11171827922104966882:=A
def tw630381851044721549:=A
def tw6355166099427844607:=A
def tw1559147608748205032:=A
def tw11680334645145724131:=A
def tw11681079416050703154:=A
def tw4296419591889740417:=A
def tw5150974803875175895:=A
def tw12474946172349300182:=A
def tw14402589644992047790:=A
def tw14775608857026028330:=A
def tw7688356856798269742:=A
def tw8781627857493854283:=A
def tw2144886084655938779:=A
def tw17848731948105025416:=A
def tw8451174279476377268:=A
def tw1600138033330958604:=A
def tw7755609995443632554:=A
def tw14317370411620088861:=A
def tw1425091069682338494:=A
def tw14909245630024668921:=A
def tw14477854137815088390:=A
def tw16360124112419541204:=A
def tw17960557570232474060:=A
def tw8812374559705306446:=A
def tw11540129823851023057:=A
def tw4517392414237160917:=A
def tw14487310063374997275:=A
def tw714151253558254010:=A
def tw16855458817107953738:=A
def tw1582125315651541618:=A
def tw3022695457685619620:=A
def tw18314017049996721105:=A
def tw10671158468799923698:=A
def tw6659438414773273983:=A
def tw6407600170497777146:=A
def tw2594529352981755127:=A
def tw2436014746674930613:=A
def tw581367154122368709:=A
def tw9824083338289041141:=A
def tw14858342411095734477:=A
def tw16455377324007476945:=A
def tw2027454996882634527:=A
def tw10790487924587183478:=A
def tw10092686458395028800:=A
def tw2534056958421848245:=A
def tw11524554975496095768:=A
def tw16607084181795452326:=A
def tw2665359865922687281:=A
def tw6750093129206405326:=A
def tw2367260540949048129:=A
def tw17275696494371369868:=A
def tw14484268582216297111:=A
def tw13710819804466936511:=A
def tw8346903694761443992:=A
def tw12893434674728126513:=A
def tw13059351679671746663:=A
def tw6914606441020396400:=A
def tw196465748054346270:=A
def tw13874864278766571613:=A
def tw9874594784338111890:=A
def tw3978581837324371611:=A
def tw3615899634328659892:=A
def tw5728074050144526487:=A
def tw7740315350818448593:=A
def tw15302811439178236215:=A
def tw283116749882839550:=A
def tw2696002734123957792:=A
def tw12025400136032050599:=A
def tw2139547104331140427:=A
def tw17754470448047409699:=A
def tw10059072040327023393:=A
def tw11584325456735646473:=A
def tw17127076550796578182:=A
def tw2213836200765505975:=A
def tw4655838651378045138:=A
def tw916670491580425613:=A
def tw8114352045298747713:=A
def tw11050196376253367981:=A
def tw6808790921750705440:=A
def tw5212551843887196888:=A
def tw14414036824917269291:=A
def tw1484912218323649538:=A
def tw6641083089245583391:=A
def tw14403537170804443208:=A
def tw15330830130972977125:=A
def tw2322225481567901317:=A
def tw8251834675394252596:=A
def tw18189807575675948268:=A
def tw4258918820758665731:=A
def tw12956058905087655622:=A
def tw15332709965976302789:=A
def tw16754515455078111709:=A
def tw18412806502771481756:=A
def tw8090245847697968436:=A
def tw411796505830624929:=A
def tw11834893012690803226:=A
def tw10581064592068913157:=A
def tw10204081865331617046:=A
def tw6963358588612946455:=A
def tw5490771513695672543:=A
def tw13870308330730819582:=A
def tw13005763347143834101:=A
def tw1052213821818122163:=A
def tw247425005732507480:=A
def tw8061337816095023964:=A
def tw17185399303155038207:=A
def tw12837591186877363515:=A
def tw11771925214493959089:=A
def tw5551215881013169743:=A
def tw14934878536847791926:=A
def tw3051844672471857469:=A
def tw13600132416817836062:=A
def tw15467070089253435115:=A
def tw3263761897092322631:=A
def tw12960656970418193126:=A
def tw7782959053153397998:=A
def tw13403516673071403174:=A
def tw11367921949542603168:=A
def tw10122222527012996613:=A
def tw4391601048657358825:=A
def tw18006640324953062359:=A
def tw3990469553269486258:=A
def tw18139259613495825403:=A
def tw4248486087903634080:=A
def tw5657458158314771614:=A
def tw4079196989847357720:=A
def tw14442925850488700275:=A
def tw5622445474898403210:=A
def tw15501771006991498285:=A
def tw1820843489423503908:=A
def tw1144964374017074543:=A
def tw9278393055464817175:=A
def tw17899439206228711848:=A
def tw14107333669374926837:=A
def tw12059974627242260711:=A
def tw17664885450070602663:=A
def tw15726350856102242355:=A
def tw12883681837130178413:=A
def tw8429931757811841200:=A
def tw1745717057032777833:=A
def tw7024619701004951962:=A
def tw2570474355017022284:=A
def tw2701588293003076807:=A
def tw6104219134647465858:=A
def tw11984157109778213078:=A
def tw2613408325698572263:=A
def tw5120977532100269512:=A
def tw6173283796877597869:=A
def tw2175591445076049390:=A
def tw4982677777627628863:=A
def tw2800151714292871237:=A
def tw14409633312408611927:=A
def tw16053023363880172925:=A
def tw16651890967002402866:=A
def tw10602556466603859806:=A
def tw8188911017871020102:=A
def tw16340441622405594557:=A
def tw5816296938093293113:=A
def tw13186414656554766905:=A
def tw13685220684212128370:=A
def tw9386229762027331687:=A
def tw12649492623739717194:=A
def tw6439004079795306775:=A
def tw5730074645261025981:=A
def tw8743427975367786593:=A
def tw4316948036055726797:=A
end PySem.W.Fast
open PySem PySem.W PyProof.Rows
set_option maxRecDepth 100000 in
set_option maxHeartbeats 0 in
theorem PySem.Challenge.cw_rowrules_k55_whole_there_and_back_holds : PySem.Challenge.rw_rowrules_k55_whole_there_and_back.Holds := by
 w_on;o_law;k_head;(case hw=>w_witness2)
 k_fill
 refine L2.Qr (l:=PySem.Challenge.rw_rowrules_k55_whole_there_and_back) (k:=11) (n:=0) (x:="_law_script") (ts:=[_]) rfl rfl ⟨rfl,by decide,by decide⟩ (λw h Y=>⟨PySem.W.km_in_of Y,PySem.W.km_tabs_of Y⟩) ?hTab ?F
 case hTab=>exact λw=>(List.forall_mem_cons.mpr ⟨by kernel_rfl,λ_ h=>absurd h cG⟩)
 case F =>
  intro w mg fa h KX G hmg;refine' K55.XZ KX G hmg ?_ ?_ ?_ ?_ ?_ ?_ ?_ ?_ ?_ 0#4 0#4 0#4 0#4 0#4 0#4 0#4 0#4 0#4 0#4 0#4 0#4 0#4 0#4 0#4 0#4 0#4 0#4 0#4 (L2.O4 ?_ ?_ ?_ ?_ ?_) (L2.O4 ?_ ?_ ?_ ?_ ?_) 0#4 0#4 0#4 0#4 0#4 0#4 0#4 0#4 0#4 0#4 0#4 0#4 0#4 0#4 0#4 0#4 0#4 0#4 0#4 0#4 0#4 0#4 0#4 0#4 0#4 0#4 0#4 0#4 0#4 0#4 0#4 0#4 0#4 0#4 0#4 0#4 0#4 (L2.Uj ?_ ?_ ?_ ?_ ?_) 0#4 0#4 0#4 0#4 0#4 0#4 0#4 0#4 ?_ ?_ ?_ ?_ ?_ ?_ ?_ ?_ ?_ ?_ ?_ ?_ ?_ ?_ ?_ ?_ ?_ ?_ ?_ ?_
  any_goals k_is
  ·kernel_rfl
  ·kernel_rfl
  ·k_exc
  ·k_exc
  ·k_exc
  ·kts_exm
