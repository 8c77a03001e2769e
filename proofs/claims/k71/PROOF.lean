import PyProof.Rows.All
import Wide.All
import OpenK.AllK
import Wide.FinOn
import Lean
import PyProof.EqAt
import PyProof.EqKinds
import PyProof.TupleCall
import PySem.Challenge.RW_rowrules_k71_papers_of_reach_and_loss
set_option Elab.async false
set_option linter.all false
set_option maxRecDepth 100000
abbrev WD:=@List.length_map
abbrev WE:=@List.mem_singleton
abbrev WF:=@List.getElem?_eq_some_iff
abbrev WG:=@PySem.Heap.get?_push_of_some
abbrev WH:=@List.getD_eq_getElem?_getD
abbrev WI:=@List.length_append
abbrev WJ:=@List.getElem?_eq_getElem
abbrev WK:=@List.mem_append
abbrev WL:=@PySem.Heap.lt_size
abbrev WM:=@Nat.le_refl
abbrev WN:=@List.map_append
abbrev WO:=@List.getElem?_map
abbrev WP:=@Nat.lt_of_lt_of_le
abbrev WQ:=@List.mem_of_getElem?
abbrev WR:=@PySem.Heap.get?_push_size
abbrev WS:=@Int.toNat_natCast
abbrev WT:=@PySem.F.plainAttrs_list
abbrev WU:=@List.not_mem_nil
abbrev WV:=@List.length_range
abbrev WW:=@List.mem_cons_of_mem
abbrev WX:=@List.length_singleton
abbrev WY:=@List.mem_cons
abbrev WZ:=@Bool.false_ne_true
abbrev Wa:=@PySem.boot_len
abbrev Wb:=@Nat.lt_irrefl
abbrev Wc:=@List.getElem?_append_right
abbrev Wd:=@List.mem_map
abbrev We:=@PySem.F.slot_list_append
abbrev Wf:=@PySem.F.type_list_append
abbrev Wg:=@Int.pow_succ
abbrev Wh:=@List.mem_cons_self
abbrev Wi:=@List.size_toArray
abbrev Wj:=@Nat.ne_of_lt
abbrev Wk:=@List.take_length
abbrev Wl:=@List.mem_range
abbrev Wm:=@Nat.le_trans
abbrev Wn:=@Int.pow_zero
abbrev Wo:=@PyProof.Rows.callWith_type1
abbrev Wp:=@List.length_take
abbrev Wq:=@PySem.mem_of_lookup
abbrev Wr:=@PyProof.Rows.boot_list
abbrev Ws:=@List.mem_append_right
abbrev Wt:=@List.nodup_cons
abbrev Wu:=@Int.emod_lt_of_pos
abbrev Wv:=@Int.zero_add
abbrev Ww:=@PySem.Heap.size_push
abbrev Wx:=@List.getElem?_append_left
abbrev Wy:=@List.length_cons
abbrev Wz:=@List.take_add_one
abbrev W0:=@List.map_cons
abbrev W1:=@PySem.W.kia_one
abbrev W2:=@Int.emod_nonneg
abbrev W3:=@Int.le_of_lt
abbrev W4:=@Nat.sub_self
abbrev W5:=@Option.map_eq_some_iff
abbrev W6:=@List.append_nil
abbrev W7:=@List.range_succ
abbrev W8:=@Nat.lt_succ_self
abbrev W9:=@Int.mul_le_mul_of_nonneg_left
abbrev XB:=@List.any_eq_true
abbrev XC:=@Int.natCast_ediv
abbrev XD:=@List.replicate_succ
abbrev XE:=@List.length_reverse
abbrev XF:=@Int.toNat_of_nonneg
abbrev XG:=@List.nodup_append
abbrev XH:=@List.nodup_nil
abbrev XI:=@Nat.mul_comm
abbrev XJ:=@Int.mul_comm
abbrev XM:=@PySem.Heap.get?_update_other
abbrev XN:=@PySem.W.hideAll_get
abbrev XO:=@Nat.lt_succ_of_lt
abbrev XQ:=@List.map_congr_left
abbrev XR:=@PySem.Heap.get?_update_self
abbrev XS:=@PySem.F.slot_dict_get
abbrev XT:=@Int.one_mul
abbrev XU:=@PySem.W.looks_findIn
abbrev XV:=@Int.emod_eq_of_lt
abbrev XW:=@Bool.eq_iff_iff
abbrev XX:=@Nat.zero_le
abbrev XY:=@Int.add_mul_emod_self_left
abbrev XZ:=@List.lookup_cons
abbrev Xa:=@Int.natCast_emod
abbrev Xb:=@Nat.mod_eq_of_lt
abbrev Xc:=@Nat.le_of_lt
abbrev Xd:=@List.getElem?_eq_none
abbrev Xe:=@List.drop_eq_getElem_cons
abbrev Xf:=@Nat.div_lt_of_lt_mul
abbrev Xg:=@List.mem_filter
abbrev Xh:=@List.flatten_cons
abbrev Xi:=@Nat.le_succ
abbrev Xj:=@List.getElem?_replicate
abbrev Xk:=@PySem.F.plainAttrs_dict
abbrev Xl:=@List.length_drop
abbrev Xm:=@List.take_succ
abbrev Xn:=@List.getElem?_set_self
abbrev Xo:=@Int.ediv_eq_zero_of_lt
abbrev Xp:=@PySem.F.entry_dict_get
abbrev Xq:=@PySem.W.callWith_K
abbrev Xr:=@Nat.add_sub_cancel
abbrev Xs:=@List.filter_append
abbrev Xt:=@PySem.F.slot_dict_setdefault
abbrev Xu:=@Nat.ne_of_gt
abbrev Xv:=@List.length_set
abbrev Xw:=@Int.ediv_nonneg
abbrev Xx:=@Int.natCast_mul
abbrev Xy:=@List.any_cons
abbrev Xz:=@Bool.or_false
abbrev X0:=@PySem.F.excBase_ValueError
abbrev X1:=@PySem.Heap.get?_none_of_le
abbrev X2:=@List.getElem?_set_ne
abbrev X3:=@Array.getElem?_eq_getElem
abbrev X4:=@List.findIdx?_eq_none_iff
abbrev X5:=@Int.mul_le_mul
abbrev X6:=@List.all_eq_true
abbrev X7:=@List.map_reverse
abbrev X8:=@Option.isSome_iff_exists
abbrev X9:=@List.map_nil
abbrev YA:=@Nat.mod_lt
abbrev YB:=@PySem.F.slot_list_extend
abbrev YC:=@PySem.F.type_list_extend
abbrev YD:=@List.mem_filterMap
abbrev YE:=@List.of_mem_zip
abbrev YF:=@Nat.lt_of_le_of_lt
abbrev YG:=@List.length_nil
abbrev YH:=@Int.ediv_ediv_of_nonneg
abbrev YI:=@PyProof.Rows.boot_tuple
abbrev YJ:=@PySem.W.cellsFrom_some
abbrev YK:=@PySem.W.kitx_list
abbrev YL:=@PySem.W.kitx_dict
abbrev YM:=@List.reverse_cons
abbrev YN:=@List.foldl_append
abbrev YO:=@Int.le_refl
abbrev YQ:=@List.getElem?_reverse
abbrev YR:=@Nat.sub_zero
abbrev YS:=@Int.add_mul_ediv_left
abbrev YT:=@List.eq_replicate_iff
abbrev YU:=@List.length_filter_le
abbrev YV:=@List.getElem_inj
abbrev YW:=@Bool.and_eq_true
abbrev YX:=@List.mem_append_left
abbrev YY:=@Nat.not_lt_zero
abbrev YZ:=@Nat.div_le_self
abbrev Ya:=@List.any_append
namespace L2
open PySem PySem.Spec PyProof.Rows
abbrev CF:=Sum Int Str
def Hq:CF->Value->Bool
 |.inl k,v=>Value.isInt k v
 |.inr x,v=>Value.isStrOf x v
def U7(w:World):CF->Int
 |.inl k=>hashInt k
 |.inr x=>hashStr w x
theorem BO:∀{k:CF} {v:Value},Hq k v=true->(∃i t,k=Sum.inl i/\v=Value.int i t)\/(∃x t,k=Sum.inr x/\v=Value.str x t)
 |.inl i,v,h=>by obtain⟨t,e⟩:=Value.isInt_shape (k:=i) (v:=v) h;exact .inl ⟨i,t,rfl,e⟩
 |.inr x,v,h=>by obtain⟨t,e⟩:=Value.isStrOf_shape (x:=x) (v:=v) h;exact .inr ⟨x,t,rfl,e⟩
theorem MG(i:Int)(t:Tok):Hq (.inl i) (.int i t)=true:=by simp[Hq,Value.isInt]
theorem MH(x:Str)(t:Tok):Hq (.inr x) (.str x t)=true:=by simp[Hq,Value.isStrOf]
theorem Ql(a b:Int):decide ((Sum.inl a:CF)=Sum.inl b)=(a==b):=by
 by_cases e:a=b
 ·subst e;simp
 ·have h:¬(Sum.inl a:CF)=Sum.inl b:=λq=>e (Sum.inl.inj q)
  rw[decide_eq_false h];exact (beq_eq_false_iff_ne.mpr e).symm
theorem Qm(a b:Str):decide ((Sum.inr a:CF)=Sum.inr b)=decide (a=b):=by
 by_cases e:a=b
 ·subst e;simp
 ·have h:¬(Sum.inr a:CF)=Sum.inr b:=λq=>e (Sum.inr.inj q)
  rw[decide_eq_false h,decide_eq_false e]
theorem Qn(a:Int)(b:Str):decide ((Sum.inl a:CF)=Sum.inr b)=false:=decide_eq_false (λq=>nomatch q)
theorem Qo(a:Str)(b:Int):decide ((Sum.inr a:CF)=Sum.inl b)=false:=decide_eq_false (λq=>nomatch q)
def BM(prog:Program)(w:World):PySem.KeyKind prog w CF where
 is:=Hq
 hash:=U7 w
 inj:=λv a b ha hb=>by
  rcases BO ha with⟨i,t,rfl,rfl⟩|⟨x,t,rfl,rfl⟩
  ·rcases BO hb with⟨j,u,rfl,e⟩|⟨y,u,rfl,e⟩
   ·injection e with e1 _;rw[e1]
   ·exact nomatch e
  ·rcases BO hb with⟨j,u,rfl,e⟩|⟨y,u,rfl,e⟩
   ·exact nomatch e
   ·injection e with e1 _;rw[e1]
 byValue:=λk v h=>by rcases BO h with⟨i,t,rfl,rfl⟩|⟨x,t,rfl,rfl⟩<;>rfl
 pyHash:=λhv h=>by
  rcases BO hv with⟨i,t,rfl,rfl⟩|⟨x,t,rfl,rfl⟩
  ·exact wpAny_pyHash_int h
  ·exact wpAny_pyHash_str h
 eqBool:=λhu hv h=>by
  rcases BO hu with⟨i,t,rfl,rfl⟩|⟨x,t,rfl,rfl⟩
  ·rcases BO hv with⟨j,u,rfl,rfl⟩|⟨y,u,rfl,rfl⟩
   ·rw[Ql]at h;exact wpAny_eqBool_int h
   ·rw[Qn]at h;exact SeqAt.EqAt.int_str i t y u _ _ _ _ h
  ·rcases BO hv with⟨j,u,rfl,rfl⟩|⟨y,u,rfl,rfl⟩
   ·rw[Qo]at h;exact SeqAt.EqAt.str_int x t j u _ _ _ _ h
   ·rw[Qm]at h;exact wpAny_eqBool_str h
 «strs»:=λk x t v h=>by
  rcases BO h with⟨i,u,rfl,e⟩|⟨y,u,rfl,e⟩
  ·exact nomatch e
  ·injection e with e1 _
   subst e1;cases v<;>rfl
theorem JR(prog:Program)(w:World)(i:Int)(t:Tok):(BM prog w).is (.inl i) (.int i t)=true:=MG i t
theorem JS(prog:Program)(w:World)(x:Str)(t:Tok):(BM prog w).is (.inr x) (.str x t)=true:=MH x t
inductive V where
 |non|bl (b:Bool)|int (i:Int)|str (x:Str)|byt (b:Array UInt8)|flt (b:UInt64)|ref (a:Addr)|ty (n:String)
 deriving DecidableEq
def Ao:V->Value->Prop
 |.non,u=>u=Value.none
 |.bl b,u=>u=Value.bool b
 |.int i,u=>∃t,u=Value.int i t
 |.str x,u=>∃t,u=Value.str x t
 |.byt b,u=>∃t,u=Value.bytes b t
 |.flt b,u=>∃t,u=Value.float b t
 |.ref a,u=>u=Value.ref a
 |.ty n,u=>u=Value.type n
abbrev Am:List V->List Value->Prop:=Paired Ao
variable{xs:List V}{us:List Value}
theorem Am.length(r:Am xs us):xs.length=us.length:=Paired.length r
theorem Am.get:∀{xs:List V} {us:List Value} {i:Nat} {x:V},Am xs us->xs[i]?=some x->∃u,us[i]?=some u/\Ao x u
 |_,_,_,_,.nil,e=>by simp at e
 |_,_,0,_,.cons r _,e=>by simp at e;subst e;exact⟨_,rfl,r⟩
 |_,_,i+1,x,.cons _ t,e=>by obtain⟨u,h1,h2⟩:=Am.get (i:=i) (x:=x) t (by simpa using e);exact⟨u,by simpa using h1,h2⟩
variable{u:Value}
theorem Am.set{x:V}(r:Ao x u):∀{xs:List V} {us:List Value} (i:Nat),Am xs us->Am (xs.set i x) (us.set i u)
 |_,_,_,.nil=>.nil
 |_,_,0,.cons _ t=>.cons r t
 |_,_,i+1,.cons q t=>.cons q (Am.set r i t)
theorem Am.append:∀{xs ys:List V} {us ws:List Value},Am xs us->Am ys ws->Am (xs++ys) (us++ws)
 |_,_,_,_,.nil,s=>s
 |_,_,_,_,.cons r t,s=>.cons r (Am.append t s)
theorem Am.take:∀{xs:List V} {us:List Value} (n:Nat),Am xs us->Am (xs.take n) (us.take n)
 |_,_,0,_=>.nil
 |_,_,_+1,.nil=>.nil
 |_,_,n+1,.cons r t=>.cons r (Am.take n t)
theorem Am.drop:∀{xs:List V} {us:List Value} (n:Nat),Am xs us->Am (xs.drop n) (us.drop n)
 |_,_,0,r=>r
 |_,_,_+1,.nil=>.nil
 |_,_,n+1,.cons _ t=>Am.drop n t
def D0:Option V->Option Value->Prop
 |some v,some u=>Ao v u
 |none,none=>True
 |_,_=>False
def KV{κ:Type}:List (κ×V)->List (κ×Value)->Prop:=Paired λ(p:κ×V) (q:κ×Value)=>p.1=q.1/\Ao p.2 q.2
def kV:CF->V
 |.inl i=>.int i
 |.inr x=>.str x
inductive HO where
 |lst (xs:List V)
 |tup (xs:List V)
 |dK (kvs:List (CF×V))|dT (kvs:List (List CF×V))
 |set (S:Int->Bool) (n:Nat)
 |ins (C dx:Addr) (fs:List (Str×V))
 |own (x:Addr)
 |xd (fs:List (Str×V))
 |met (f x:Addr)
 |rng (lo hi:Int)
 |frz (o:Obj) (u:HO)
 |tbl (ps:Array Value)
 |ext (φ:Heap->Prop)
abbrev Hp:=Addr->Option HO
def Ad(H:Hp)(a:Addr)(o:HO):Hp:=λb=>if b=a then some o else H b
variable{H:Hp}{a:Addr}{o:HO}
theorem AC:Ad H a o a=some o:=by unfold Ad;rw[if_pos rfl]
variable{b:Addr}
theorem AI(h:b≠a):Ad H a o b=H b:=by unfold Ad;rw[if_neg h]
theorem E4{u:HO}:Ad (Ad H a o) a u=Ad H a u:=by
 funext b;unfold Ad;split<;>rfl
theorem LR{u:HO}(h:H a=some o)(h':H b=some u)(d:o≠u):a≠b:=by intro e;subst e;rw[h]at h';exact d (Option.some.inj h')
theorem Ai(h:H a=some o)(h':H b=none):a≠b:=by intro e;subst e;rw[h]at h';cases h'
section
variable(P:Program)(w:World)
def As(H:Hp)(h:Heap)(a:Addr):HO->Prop
 |.lst xs=>xs.length<=sizeLine/\∃(its:List Value) (n:Nat),Am xs its/\h.get? a=some {cls:=.type "list",data:=.seq its.toArray n}
 |.tup xs=>xs.length<=sizeLine/\∃its:List Value,Am xs its/\IsTup h a its.toArray
 |.dK kvs=>kvs.length<=sizeLine/\(a==sysModules)=false/\∃vs,KV kvs vs/\h.DictOf (BM P w) a vs
 |.dT kvs=>kvs.length<=sizeLine/\(a==sysModules)=false/\∃xs:List (List CF×Addr×Value),
   Paired (λ(p:List CF×V) (q:List CF×Addr×Value)=>p.1=q.1/\H q.2.1=some (.tup (p.1.map kV))/\Ao p.2 q.2.2) kvs xs /\
   ∃o es ep,h.get? a=some o/\o.ExactDict/\o.data=.dict es ep/\es.toList=xs.map (entryOfKey (tupleKind (BM P w)))/\(xs.map (·.1)).Nodup
 |.set S n=>h.SetOf (intKind P w) a S n
 |.ins C dx fs=>H dx=some (.own a)/\fs.length<=1000/\dx≠a/\h.get? a=some (PySem.W.instObj C dx) /\
   ∃mA,h.Ns1 dx mA/\(∀f,D0 (fs.lookup f) (mA f))/\PySem.Within mA (fs.map (·.1))
 |.own _=>∃o,h.get? a=some o
 |.xd fs=>∃mA,h.Ns1 a mA/\∀f,D0 (fs.lookup f) (mA f)
 |.rng lo hi=>∃t u v,h.get? a=some {cls:=.type "range",data:=.fields #[.int lo t,.int hi u,.int 1 v]}
 |.frz o u=>h.get? a=some o/\As H h a u
 |.tbl ps=>h.get? a=some {cls:=.none,data:=.fields ps}
 |.met f x=>h.get? a=some (PySem.W.methodObj (.ref f) (.ref x))
 |.ext φ=>φ h/\(∃o,h.get? a=some o)/\∀h1 h2:Heap,φ h1->(∀o,h1.get? a=some o->h2.get? a=some o)->φ h2
def DR(H:Hp)(h:Heap):Prop:=∀a o,H a=some o->As P w H h a o
end
variable{α β:Type}
section
variable{P:Program}{w:World}{H':Hp}{h h':Heap}
theorem As.lt(x:As P w H h a o):a<h.objs.size:=by
 cases o with
 |lst xs=>obtain⟨_,_,_,_,e⟩:=x;exact WL e
 |tup xs=>obtain⟨_,_,_,p⟩:=x;exact p.lt
 |dK kvs=>obtain⟨_,_,_,_,o,_,_,e,_⟩:=x;exact WL e
 |dT kvs=>obtain⟨_,_,_,_,o,_,_,e,_⟩:=x;exact WL e
 |set S n=>obtain⟨o,_,_,_,e,_⟩:=x;exact WL e
 |ins C dx fs=>obtain⟨_,_,_,e,_⟩:=x;exact WL e
 |own y=>obtain⟨_,e⟩:=x;exact WL e
 |xd fs=>obtain⟨_,⟨_,_,_,e,_⟩,_⟩:=x;exact WL e
 |rng lo hi=>obtain⟨_,_,_,e⟩:=x;exact WL e
 |frz ob u=>obtain⟨e,_⟩:=x;exact WL e
 |tbl ps=>exact WL (show h.get? a=some _ from x)
 |met f y=>exact WL (show h.get? a=some _ from x)
 |ext φ=>obtain⟨_,⟨_,e⟩,_⟩:=x;exact WL e
theorem Paired.mapP{F G:α->β->Prop}:∀{l₁:List α} {l₂:List β},Paired F l₁ l₂->(∀a b,F a b->G a b)->Paired G l₁ l₂
 |_,_,.nil,_=>.nil
 |_,_,.cons r t,f=>.cons (f _ _ r) (Paired.mapP t f)
theorem As.stay(x:As P w H h a o)(k:∀b u,(b=a\/H b=some (.own a))->h.get? b=some u->h'.get? b=some u)
  (ho:∀b,H b=some (.own a)->H' b=some (.own a)) (ht:∀b xs,H b=some (.tup xs)->H' b=some (.tup xs)):As P w H' h' a o:=by
 induction o with
 |lst xs=>obtain⟨z,its,n,r,e⟩:=x;exact⟨z,its,n,r,k _ _ (.inl rfl) e⟩
 |tup xs=>obtain⟨z,its,r,ob,e,c⟩:=x;exact⟨z,its,r,ob,k _ _ (.inl rfl) e,c⟩
 |dK kvs=>obtain⟨z,y,vs,r,ob,es,ep,e,c⟩:=x;exact⟨z,y,vs,r,ob,es,ep,k _ _ (.inl rfl) e,c⟩
 |dT kvs =>
  obtain⟨z,y,xs,r,ob,es,ep,e,c⟩:=x;exact⟨z,y,xs,Paired.mapP r λp q z=>⟨z.1,ht _ _ z.2.1,z.2.2⟩,ob,es,ep,k _ _ (.inl rfl) e,c⟩
 |set S n=>obtain⟨ob,es,ep,t,e,c⟩:=x;exact⟨ob,es,ep,t,k _ _ (.inl rfl) e,c⟩
 |ins C dx fs =>
  obtain⟨d,z,ne,e,mA,⟨od,es,ep,e2,c⟩,r⟩:=x;exact⟨ho _ d,z,ne,k _ _ (.inl rfl) e,mA,⟨od,es,ep,k _ _ (.inr d) e2,c⟩,r⟩
 |own y=>obtain⟨ob,e⟩:=x;exact⟨ob,k _ _ (.inl rfl) e⟩
 |xd fs=>obtain⟨mA,⟨od,es,ep,e,c⟩,r⟩:=x;exact⟨mA,⟨od,es,ep,k _ _ (.inl rfl) e,c⟩,r⟩
 |rng lo hi=>obtain⟨t,u,v,e⟩:=x;exact⟨t,u,v,k _ _ (.inl rfl) e⟩
 |frz ob u ih=>obtain⟨e,q⟩:=x;exact⟨k _ _ (.inl rfl) e,ih q⟩
 |tbl ps =>
  have e:h.get? a=some {cls:=.none,data:=.fields ps}:=x;show h'.get? a=some {cls:=.none,data:=.fields ps};exact k a _ (.inl rfl) e
 |met f y =>
  have e:h.get? a=some (PySem.W.methodObj (.ref f) (.ref y)):=x;show h'.get? a=some (PySem.W.methodObj (.ref f) (.ref y));exact k a _ (.inl rfl) e
 |ext φ=>obtain⟨p,⟨o,e⟩,st⟩:=x;exact⟨st _ _ p λo q=>k _ _ (.inl rfl) q,⟨o,k _ _ (.inl rfl) e⟩,st⟩
theorem DR.lt(x:DR P w H h)(e:H a=some o):a<h.objs.size:=(x a o e).lt
theorem DR.fresh(x:DR P w H h)(e:h.objs.size<=a):H a=none:=by
 cases q:H a with
 |none=>rfl
 |some u=>exact absurd (WP (x.lt q) e) (Wb _)
theorem DR.kept(x:DR P w H h)(k:∀b u,h.get? b=some u->h'.get? b=some u):DR P w H h':=λa o e =>
 (x a o e).stay (λb u _ q=>k b u q) (λ_ q=>q) λ_ _ q=>q
theorem DR.laid(x:DR P w H h)(k:∀b u,h.get? b=some u->h'.get? b=some u)(hp:h.objs.size<=a)(new:As P w (Ad H a o) h' a o):DR P w (Ad H a o) h':=λb u e=>by
 have hn:=x.fresh hp
 by_cases hb:b=a
 ·subst hb;rw[AC]at e;cases e;exact new
 ·rw[AI hb]at e;exact (x b u e).stay (λc v _ q=>k c v q) (λc q=>by rw[AI (Ai q hn)];exact q) λc xs q=>by rw[AI (Ai q hn)];exact q
end
def Rd(H:Hp)(a:Addr)(u:HO):Prop:=H a=some u\/∃o,H a=some (.frz o u)
variable{h:Heap}
theorem Rd.ok{P:Program}{w:World}{u:HO}(r:Rd H a u)(x:DR P w H h):As P w H h a u:=by
 rcases r with r|⟨o,r⟩
 ·exact x a u r
 ·obtain⟨_,q⟩:=x a _ r;exact q
def Sh:Option HO->Prop
 |some (.lst _)=>True
 |some (.dK _)=>True
 |some (.dT _)=>True
 |some (.set _ _)=>True
 |some (.ins _ _ _)=>True
 |some (.ext _)=>True
 |_=>False
section
variable{P:Program}{w:World}{h':Heap}{x e:Addr}{o':HO}
theorem DR.write(ok:DR P w H h)(mu:Sh (H x))(he:e=x\/H e=some (.own x))(k:∀b u,b≠e->h.get? b=some u->h'.get? b=some u)(heo:∃u,h'.get? e=some u)
  (new:As P w (Ad H x o') h' x o'):DR P w (Ad H x o') h':=λb u q=>by
 have nown:∀c y,H c=some (.own y)->c≠x:=λc y r z=>by subst z;rw[r]at mu;exact mu
 have ntup:∀c xs,H c=some (.tup xs)->c≠x:=λc xs r z=>by subst z;rw[r]at mu;exact mu
 by_cases hb:b=x
 ·subst hb;rw[AC]at q;cases q;exact new
 ·rw[AI hb]at q
  by_cases hbe:b=e
  ·have q':H b=some (.own x):=by
    rcases he with z|z
    ·exact absurd (hbe.trans z) hb
    ·rw[hbe];exact z
   rw[q]at q';cases q';obtain⟨v,hv⟩:=heo;exact⟨v,by rw[hbe];exact hv⟩
  ·refine (ok b u q).stay (λc v hc r=>k c v ?_ r) (λc r=>by rw[AI (nown c b r)];exact r) λc xs r=>by rw[AI (ntup c xs r)];exact r
   rcases hc with rfl|hc
   ·exact hbe
   ·rintro rfl;rcases he with z|z
    ·exact nown c b hc z
    ·rw[hc]at z;cases z;exact hb rfl
end
structure Un(fs ex:List Addr)(H H':Hp)(h h':Heap):Prop where
 keep:∀b o,h.get? b=some o->H b=none->b∉fs->b∉ex->h'.get? b=some o
 slot:∀b o,h.get? b=some o->H b=none->b∈fs->b∉ex->∃sl,h'.get? b=some {o with slots:=sl}
 free:∀b o,h.get? b=some o->H b=none->b∉ex->H' b=none
 there:∀b o,h.get? b=some o->b∉ex->∃o',h'.get? b=some o'
 tups:∀b xs,H b=some (.tup xs)->H' b=some (.tup xs)
 frzs:∀b o u,H b=some (.frz o u)->H' b=some (.frz o u)
 tbls:∀b ps,H b=some (.tbl ps)->∃more,H' b=some (.tbl (ps++more))
section
variable{fs fs' ex ex':List Addr}{H1 H2:Hp}{h1 h2 h':Heap}{x e:Addr}
theorem Un.any(u:Un fs ex H H1 h h1){ob:Obj}(q:h.get? b=some ob)(n:H b=none)(hx:b∉ex):∃sl,h1.get? b=some {ob with slots:=sl}:=by
 by_cases hb:b∈fs
 ·exact u.slot b ob q n hb hx
 ·exact⟨ob.slots,u.keep b ob q n hb hx⟩
theorem Un.kept(k:∀b u,h.get? b=some u->h'.get? b=some u):Un fs ex H H h h':=
 ⟨λb ob q _ _ _=>k b ob q,λb ob q _ _ _=>⟨ob.slots,k b ob q⟩,λ_ _ _ n _=>n,λb ob q _=>⟨ob,k b ob q⟩,λ_ _ q=>q,λ_ _ _ q=>q,λ_ ps q=>⟨#[],by rw[q];simp⟩⟩
theorem Un.refl:Un fs ex H H h h:=Un.kept λ_ _ q=>q
theorem Un.laid(k:∀b u,h.get? b=some u->h'.get? b=some u)(hp:h.objs.size<=a)(hn:H a=none):Un fs ex H (Ad H a o) h h' where
 keep:=λb u q _ _ _=>k b u q
 slot:=λb u q _ _ _=>⟨u.slots,k b u q⟩
 free:=λb u q n _=>by rw[AI (Wj (WP (WL q) hp))];exact n
 there:=λb u q _=>⟨u,k b u q⟩
 tups:=λb xs q=>by rw[AI (Ai q hn)];exact q
 frzs:=λb u xs q=>by rw[AI (Ai q hn)];exact q
 tbls:=λb ps q=>⟨#[],by rw[AI (Ai q hn),q];simp⟩
theorem Un.write(mu:Sh (H x))(he:e=x\/H e=some (.own x))(k:∀b u,b≠e->h.get? b=some u->h'.get? b=some u)(heo:∃u,h'.get? e=some u):Un fs ex H (Ad H x o) h h':=by
 have hx:∀b,H b=none->b≠x:=λb n z=>by subst z;rw[n]at mu;exact mu
 have hb:∀b,H b=none->b≠e:=λb n z=>by
  subst z;rcases he with r|r
  ·exact hx b n r
  ·rw[n]at r;cases r
 have hm:∀b u,H b=some u->¬Sh (some u)->b≠x:=λb u q nm z=>by subst z;rw[q]at mu;exact nm mu
 refine⟨λb u q n _ _=>k b u (hb b n) q,λb u q n _ _=>⟨u.slots,k b u (hb b n) q⟩,λb u q n _=>by rw[AI (hx b n)];exact n,λb u q _=>?_,
  λb xs q=>by rw[AI (hm b _ q λz=>z)];exact q,λb u xs q=>by rw[AI (hm b _ q λz=>z)];exact q,λb ps q=>⟨#[],by rw[AI (hm b _ q λz=>z),q];simp⟩⟩
 by_cases hbe:b=e
 ·subst hbe;exact heo
 ·exact⟨u,k b u hbe q⟩
end
def trk(h:Heap)(H:Hp):List Addr:=(List.range h.objs.size).filter λa=>(H a).isSome
def Hg(h:Heap)(H:Hp):Heap:=PySem.W.hideAll h (trk h H)
theorem MI(h:Heap)(H:Hp):(Hg h H).objs.size=h.objs.size:=PySem.W.hideAll_size _ _
theorem NE{o:Obj}(e:h.get? b=some o)(n:H b=none):(Hg h H).get? b=some o:=
 XN _ e λhm=>by have q:(H b).isSome=true:=(Xg.mp hm).2;rw[n]at q;simp at q
theorem Ox{o:Obj}(e:(Hg h H).get? b=some o):h.get? b=some o/\H b=none:=by
 have e':h.get? b=some o:=PySem.W.of_hideAll (trk h H) e;refine⟨e',?_⟩;cases q:H b with
 |none=>rfl
 |some x =>
  have hm:b∈trk h H:=List.mem_filter.mpr ⟨List.mem_range.mpr (Heap.lt_size e'),by simp[q]⟩;have z:(Hg h H).get? b=none:=PySem.W.hideAll_none (trk h H) hm;rw[z]at e;cases e
structure Uy(K:PySem.W.Frag)(mg:Str->Option Value)(base:Heap):Prop where
 kin:K.In base
 glob:base.Ns mainGlobals mg
 blt:∃mb,base.Ns builtinsNs mb/\∀x:Str,x≠"__name__"->mb x=bootBuiltins x
 nolimit:base.NoLimit
structure Cx where
 prog:Program
 w:World
 K:PySem.W.Frag
 mg:Str->Option Value
 base:Heap
 A:Around
 N:List Str
 s₀:Shared
 H₀:Hp
 env:Env
 outer:List Env
 stack:List Env
 ex:List Addr
 fn:Str->Bool
 calm:Bool
 pn:List (Addr×Obj)
 xe:Value->Shared->Prop
def CZ(l:List Env):List Addr:=l.filterMap (·.frame)
abbrev Cx.fs(X:Cx):List Addr:=CZ X.outer
def Si(sc:Scope)(x:Str):Prop:=sc.names.lookup x=some .local\/sc.names.lookup x=some .cell\/sc.names.lookup x=some .free
def P4(sc:Scope)(x:Str):Prop:=sc.names.lookup x=some .local\/sc.names.lookup x=some .cell
def Sj(env:Env)(h:Heap)(m:Str->Option Value)(x:Str)(u:Value):Prop:=
 (env.kindOf x=some .local/\m x=some u)\/((env.kindOf x=some .cell\/env.kindOf x=some .free)/\∃c,env.cells.lookup x=some c/\h.IsCell c (some u))
structure Cx.Ok(X:Cx):Prop where
 mod:Uy X.K X.mg X.base
 kind:X.env.scope.kind=.function
 glob:X.env.globals=mainGlobals
 blt:X.env.builtins=builtinsNs
 above:X.s₀.heap.objs.size<=X.env.locals
 inj:∀x y c,X.env.cells.lookup x=some c->X.env.cells.lookup y=some c->x=y
 has:∀x,(X.env.kindOf x=some .cell\/X.env.kindOf x=some .free)->∃c,X.env.cells.lookup x=some c
 cab:∀x c,X.fn x=true->X.env.cells.lookup x=some c->X.s₀.heap.objs.size<=c
 hd:X.calm=true->X.A.handled=none
 frames:X.A.frames=some X.stack
 stk:X.stack=X.outer\/(X.stack=X.env::X.outer/\X.env.frame=some X.env.locals)
 exf:∀b∈X.ex,b≠X.env.locals/\∀x c,X.env.cells.lookup x=some c->c≠b
 bs:∀b o,X.base.get? b=some o->X.s₀.heap.get? b=some o/\X.H₀ b=none
 bsz:X.base.objs.size<=X.s₀.heap.objs.size
 noex:∀b o,X.base.get? b=some o->b∉X.ex
 exfs:∀b∈X.ex,b∉X.fs
 funs:X.s₀.heap.FunFrames X.base X.outer
 frf:∀b∈X.fs,X.H₀ b=none
structure AO(X:Cx)(pins:List (Addr×Obj))(σ:List (Option V))(H:Hp)(s:Shared):Prop where
 ok:X.Ok
 os:s.os=X.s₀.os
 bare:AllBare s.gens
 base:Un X.fs X.ex X.H₀ H X.s₀.heap s.heap
 loc:∃m,s.heap.Ns X.env.locals m/\∀(i:Nat) (x:Str) (v:V),X.N[i]?=some x->σ[i]?=some (some v)->Si X.env.scope x->∃u,Ao v u/\Sj X.env s.heap m x u
 cell:∀x c,X.env.cells.lookup x=some c->∃v,s.heap.IsCell c v
 free:H X.env.locals=none
 freeC:∀x c,X.env.cells.lookup x=some c->H c=none
 pin:∀p∈X.pn++pins,s.heap.get? p.1=some p.2/\H p.1=none/\p.1≠X.env.locals/\p.1∉X.fs/\∀v,p.2.data≠.cell v
 hok:DR X.prog X.w H s.heap
 len:σ.length=X.N.length
variable{x:Str}{ch:List Addr}{t' i j:Nat}{it:Addr}{s':Shared}
section
variable{X:Cx}{pins:List (Addr×Obj)}{σ:List (Option V)}{H':Hp}{s:Shared}{h':Heap}
theorem Cx.Ok.nofr(ok:X.Ok){o:Obj}(e:X.base.get? b=some o):b∉X.fs:=λhb=>by have:=(ok.funs.mem hb).1;rw[e]at this;cases this
theorem AO.bs(I:AO X pins σ H s):∀b o,X.base.get? b=some o->s.heap.get? b=some o/\H b=none:=λb o e =>
 ⟨I.base.keep b o (I.ok.bs b o e).1 (I.ok.bs b o e).2 (I.ok.nofr e) (I.ok.noex b o e),I.base.free b o (I.ok.bs b o e).1 (I.ok.bs b o e).2 (I.ok.noex b o e)⟩
theorem AO.bk(I:AO X pins σ H s):∀b o,X.base.get? b=some o->s.heap.get? b=some o:=λb o e=>(I.bs b o e).1
theorem AO.mod(I:AO X pins σ H s):Uy X.K X.mg X.base:=I.ok.mod
theorem AO.kIn(I:AO X pins σ H s):X.K.In s.heap:=I.ok.mod.kin.keeps I.bk
theorem AO.lt(I:AO X pins σ H s):X.env.locals<s.heap.objs.size:=let ⟨_,hn,_⟩:=I.loc;hn.lt
theorem AO.sz(I:AO X pins σ H s):X.s₀.heap.objs.size<=s.heap.objs.size:=Wm I.ok.above (Xc I.lt)
theorem AO.nofs(I:AO X pins σ H s)(h:s.heap.objs.size<=a):a∉X.fs:=λhb=>by obtain⟨_,o,ho,_⟩:=I.ok.funs.mem hb;exact absurd (WP (WL ho) (Wm I.sz h)) (Wb _)
theorem AO.cne(I:AO X pins σ H s):∀x c,X.env.cells.lookup x=some c->c≠X.env.locals:=λx c e z=>by obtain⟨v,o,ho,hd⟩:=I.cell x c e;obtain⟨m,⟨o',es,ep,ho',hd',_⟩,_⟩:=I.loc;rw[z,ho']at ho;cases ho;rw[hd']at hd;cases hd
theorem AO.funs(I:AO X pins σ H s):s.heap.FunFrames X.base X.outer:=by
 have all:∀(l:List Env),(∀b∈CZ l,b∈X.fs)->X.s₀.heap.FunFrames X.base l->s.heap.FunFrames X.base l:=by
  intro l
  induction l with
  |nil=>intro _ _;trivial
  |cons env r ih =>
   intro hs hl;obtain⟨hk,⟨L,o,hf,hn,ho,hd⟩,hr⟩:=hl;have hL:L∈X.fs:=hs L (by unfold CZ;rw[List.filterMap_cons,hf];exact List.mem_cons_self);obtain⟨sl,e⟩:=I.base.slot L o ho (I.ok.frf L hL) hL λz=>I.ok.exfs L z hL
   exact⟨hk,⟨L,_,hf,hn,e,hd⟩,ih (λb hb=>hs b (by unfold CZ;rw[List.filterMap_cons,hf];exact List.mem_cons_of_mem _ hb)) hr⟩
 exact all X.outer (λ_ hb=>hb) I.ok.funs
theorem AO.stack(I:AO X pins σ H s):s.heap.FunFrames X.base X.stack:=by
 rcases I.ok.stk with e|⟨e,hf⟩
 ·rw[e];exact I.funs
 ·rw[e];obtain⟨m,hn,_⟩:=I.loc;refine .cons (by rw[I.ok.kind];decide) hf hn ?_ I.funs;exact X1 (Wm I.ok.bsz I.ok.above)
theorem AO.stkSub(I:AO X pins σ H s):∀b∈CZ X.stack,b∈X.env.locals::X.fs:=λb hb=>by
 rcases I.ok.stk with e|⟨e,hf⟩
 ·rw[e]at hb;exact WW _ hb
 ·rw[e]at hb;unfold CZ at hb;rw[List.filterMap_cons,hf]at hb;exact hb
theorem AO.stkFree(I:AO X pins σ H s):∀b∈CZ X.stack,H b=none:=λb hb=>by
 rcases WY.mp (I.stkSub b hb) with e|hb
 ·rw[e];exact I.free
 ·obtain⟨_,o,ho,_⟩:=I.ok.funs.mem hb;exact I.base.free b o ho (I.ok.frf b hb) λz=>I.ok.exfs b z hb
theorem AO.step{g':Array GenState}{t':Nat}{d':Drawn}(I:AO X pins σ H s)
  (hch:∀b∈ch,(b∈X.ex\/X.s₀.heap.objs.size<=b)/\b≠X.env.locals/\(∀x c,X.env.cells.lookup x=some c->c≠b)/\∀p∈X.pn++pins,p.1≠b)
  (keep:∀b o,b≠X.env.locals->b∉X.fs->b∉ch->s.heap.get? b=some o->H b=none->h'.get? b=some o)
  (slot:∀b o,b≠X.env.locals->b∈X.fs->b∉ch->s.heap.get? b=some o->H b=none->∃sl,h'.get? b=some {o with slots:=sl}) (free:∀b o,b∉ch->s.heap.get? b=some o->H b=none->H' b=none)
  (there:∀b o,b∉ch->s.heap.get? b=some o->∃o',h'.get? b=some o')
  (tups:∀b xs,H b=some (.tup xs)->H' b=some (.tup xs)) (frzs:∀b o u,H b=some (.frz o u)->H' b=some (.frz o u)) (tbls:∀b ps,H b=some (.tbl ps)->∃more,H' b=some (.tbl (ps++more)))
  (ns:∀m,s.heap.Ns X.env.locals m->h'.Ns X.env.locals m) (hok:DR X.prog X.w H' h') (hg:AllBare g'):
  AO X pins σ H' {s with heap:=h',gens:=g',drawn:=d',toks:=t'}:=by
 have neL:∀b o,X.s₀.heap.get? b=some o->b≠X.env.locals:=λb o e=>Wj (WP (WL e) I.ok.above)
 have neC:∀b o,X.s₀.heap.get? b=some o->b∉X.ex->b∉ch:=λb o e hx hb=>by
  rcases (hch b hb).1 with z|z
  ·exact hx z
  ·exact absurd (WP (WL e) z) (Wb _)
 have cellK:∀x c,X.env.cells.lookup x=some c->∀v,s.heap.IsCell c v->h'.IsCell c v:=λx c e v ⟨o,ho,hd⟩=>by
  have nch:c∉ch:=λz=>(hch c z).2.2.1 x c e rfl
  by_cases hc:c∈X.fs
  ·obtain⟨sl,q⟩:=slot c o (I.cne x c e) hc nch ho (I.freeC x c e);exact⟨_,q,hd⟩
  ·exact⟨o,keep c o (I.cne x c e) hc nch ho (I.freeC x c e),hd⟩
 refine⟨I.ok,I.os,hg,⟨λb o e n hb hx=>?_,λb o e n hb hx=>?_,λb o e n hx=>?_,λb o e hx=>?_,λb xs e=>tups b xs (I.base.tups b xs e),λb o xs e=>frzs b o xs (I.base.frzs b o xs e),λb ps e=>?_⟩,?_,λx c e=>?_,?_,λx c e=>?_,λp hp=>?_,hok,I.len⟩
 ·exact keep b o (neL b o e) hb (neC b o e hx) (I.base.keep b o e n hb hx) (I.base.free b o e n hx)
 ·obtain⟨sl,e1⟩:=I.base.slot b o e n hb hx;obtain⟨sl',e2⟩:=slot b _ (neL b o e) hb (neC b o e hx) e1 (I.base.free b o e n hx);exact⟨sl',e2⟩
 ·obtain⟨o',e1⟩:=I.base.there b o e hx;exact free b o' (neC b o e hx) e1 (I.base.free b o e n hx)
 ·obtain⟨o',e1⟩:=I.base.there b o e hx;exact there b o' (neC b o e hx) e1
 ·obtain⟨m1,e1⟩:=I.base.tbls b ps e;obtain⟨m2,e2⟩:=tbls b _ e1;exact⟨m1++m2,by rw[e2,Array.append_assoc]⟩
 ·obtain⟨m,hn,hl⟩:=I.loc;refine⟨m,ns m hn,λi x v e1 e2 e3=>?_⟩;obtain⟨u,r,l⟩:=hl i x v e1 e2 e3;refine⟨u,r,?_⟩;rcases l with l|⟨k,c,e,z⟩
  ·exact .inl l
  ·exact .inr ⟨k,c,e,cellK x c e _ z⟩
 ·obtain⟨v,z⟩:=I.cell x c e;exact⟨v,cellK x c e v z⟩
 ·obtain⟨m,⟨o,_,_,ho,_⟩,_⟩:=I.loc;exact free _ o (λz=>(hch _ z).2.1 rfl) ho I.free
 ·obtain⟨v,o,ho,hd⟩:=I.cell x c e;exact free c o (λz=>(hch c z).2.2.1 x c e rfl) ho (I.freeC x c e)
 ·obtain⟨e,n,ne,nf,d⟩:=I.pin p hp;have nch:p.1∉ch:=λz=>(hch p.1 z).2.2.2 p hp rfl
  exact⟨keep p.1 p.2 ne nf nch e n,free p.1 p.2 nch e n,ne,nf,d⟩
theorem AO.un(I:AO X pins σ H s)(u:Un X.fs [] H H' s.heap h')(hok:DR X.prog X.w H' h'):AO X pins σ H' {s with heap:=h',toks:=t'}:=by
 obtain⟨m,⟨o,es,ep,ho,r⟩,_⟩:=id I.loc;obtain⟨sl,hL⟩:=u.any ho I.free (by simp)
 exact I.step (g':=s.gens) (d':=s.drawn) (ch:=[]) (λ_ z=>nomatch z) (λb o _ hb _ e n=>u.keep b o e n hb (by simp)) (λb o _ hb _ e n=>u.slot b o e n hb (by simp)) (λb o _ e n=>u.free b o e n (by simp)) (λb o _ e=>u.there b o e (by simp)) u.tups u.frzs u.tbls (λm' hm=>by obtain⟨o',es',ep',ho',r'⟩:=hm;rw[ho]at ho';cases ho';exact⟨_,es',ep',hL,r'⟩) hok I.bare
theorem AO.call{g':Array GenState}{d':Drawn}(I:AO X pins σ H s)(u:Un (CZ X.stack) ch H H' s.heap h')(hok:DR X.prog X.w H' h')(hg:AllBare g')
  (hch:∀b∈ch,(b∈X.ex\/X.s₀.heap.objs.size<=b)/\b≠X.env.locals/\(∀x c,X.env.cells.lookup x=some c->c≠b)/\∀p∈X.pn++pins,p.1≠b):
  AO X pins σ H' {s with heap:=h',gens:=g',drawn:=d',toks:=t'}:=by
 obtain⟨m,⟨o,es,ep,ho,r⟩,_⟩:=id I.loc;obtain⟨sl,hL⟩:=u.any ho I.free λz=>(hch _ z).2.1 rfl
 exact I.step (ch:=ch) hch (λb o hL hb hc e n=>u.keep b o e n (λz=>(WY.mp (I.stkSub b z)).elim hL hb) hc) (λb o _ _ hc e n=>u.any e n hc) (λb o hc e n=>u.free b o e n hc) (λb o hc e=>u.there b o e hc) u.tups u.frzs u.tbls (λm' hm=>by obtain⟨o',es',ep',ho',r'⟩:=hm;rw[ho]at ho';cases ho';exact⟨_,es',ep',hL,r'⟩) hok hg
theorem AO.turned(I:AO X pins σ H s)(k:∀b o,b≠it->s.heap.get? b=some o->h'.get? b=some o)(hn:H it=none)(hL:it≠X.env.locals)
  (h1:it∈X.ex\/X.s₀.heap.objs.size<=it) (h2:∀x c,X.env.cells.lookup x=some c->c≠it) (h3:∀p∈X.pn++pins,p.1≠it):AO X pins σ H {s with heap:=h',toks:=t'}:=by
 have nit:∀b u,H b=some u->b≠it:=λb u e z=>by rw[z,hn]at e;cases e
 refine I.step (g':=s.gens) (d':=s.drawn) (ch:=[it]) (λb hb=>?_) (λb o _ _ hc e _=>k b o (λz=>hc (by simp[z])) e) (λb o _ _ hc e _=>⟨o.slots,k b o (λz=>hc (by simp[z])) e⟩) (λ_ _ _ _ n=>n)
  (λb o hc e=>⟨o,k b o (λz=>hc (by simp[z])) e⟩) (λ_ _ e=>e) (λ_ _ _ e=>e) (λb ps e=>⟨#[],by rw[e];simp⟩) (λm hm=>?_) (λb u e=>?_) I.bare
 ·have e:b=it:=by simpa using hb
  subst e;exact⟨h1,hL,h2,h3⟩
 ·obtain⟨o,es,ep,ho,r⟩:=hm;exact⟨o,es,ep,k _ o (Ne.symm hL) ho,r⟩
 ·refine (I.hok b u e).stay (λc v hc q=>k c v ?_ q) (λ_ q=>q) λ_ _ q=>q
  rcases hc with z|z
  ·rw[z];exact nit b u e
  ·exact nit c _ z
theorem AO.tok(I:AO X pins σ H s)(t:Nat):AO X pins σ H {s with toks:=t}:=I.un (h':=s.heap) (t':=t) Un.refl I.hok
theorem AO.kept(I:AO X pins σ H s)(k:∀b u,s.heap.get? b=some u->h'.get? b=some u):AO X pins σ H {s with heap:=h',toks:=t'}:=I.un (Un.kept k) (I.hok.kept k)
theorem AO.laid(I:AO X pins σ H s)(k:∀b u,s.heap.get? b=some u->h'.get? b=some u)(hp:s.heap.objs.size<=a)(new:As X.prog X.w (Ad H a o) h' a o):
  AO X pins σ (Ad H a o) {s with heap:=h',toks:=t'}:=I.un (Un.laid k hp (I.hok.fresh hp)) (I.hok.laid k hp new)
theorem AO.write{x e:Addr}(I:AO X pins σ H s)(mu:Sh (H x))(he:e=x\/H e=some (.own x))(k:∀b u,b≠e->s.heap.get? b=some u->h'.get? b=some u)(heo:∃u,h'.get? e=some u)
  (new:As X.prog X.w (Ad H x o) h' x o):AO X pins σ (Ad H x o) {s with heap:=h',toks:=t'}:=I.un (Un.write mu he k heo) (I.hok.write mu he k heo new)
theorem AO.pins_of{pins':List (Addr×Obj)}(I:AO X pins σ H s)(h:∀p∈pins',s.heap.get? p.1=some p.2/\H p.1=none/\p.1≠X.env.locals/\p.1∉X.fs/\∀v,p.2.data≠.cell v):AO X pins' σ H s:=
 ⟨I.ok,I.os,I.bare,I.base,I.loc,I.cell,I.free,I.freeC,λp hp=>(WK.mp hp).elim (λz=>I.pin p (YX _ z)) (h p),I.hok,I.len⟩
theorem E5{N:List Str}(hN:N.Nodup)(a:N[i]?=some x)(b:N[j]?=some x):i=j:=by obtain⟨h1,e1⟩:=WF.mp a;obtain⟨h2,e2⟩:=WF.mp b;exact (YV hN).mp (e1.trans e2.symm)
theorem Hr{M:Model}{A:Around}{E:Value->Shared->Prop}{v:V}{Q:Unit->Shared->Prop}(I:AO X pins σ H s)(hN:X.N.Nodup)(hi:X.N[i]?=some x)(hx:P4 X.env.scope x)(r:Ao v u)
  (h:∀s',AO X pins (σ.set i (some v)) H s'->(∃a,Heap.SameBut a s.heap s'.heap/\(a=X.env.locals\/X.env.cells.lookup x=some a))->Q () s') (hf:X.fn x=true\/X.env.scope.names.lookup x=some .local:=by first|exact .inl rfl|exact .inr rfl|assumption):wpAny M A (storeName X.env x u) Q E s:=by
 obtain⟨m,hn,hl⟩:=id I.loc;have hcls:(X.env.scope.kind==.class||(X.env.scope.kind==.module&&X.env.locals != X.env.globals))=false:=by rw[I.ok.kind];rfl
 have hiσ:i<σ.length:=by rw[I.len];exact (WF.mp hi).1
 have cne:=I.cne
 have tracked:∀{a:Addr} {h':Heap},(∃o,s.heap.get? a=some o/\H a=none)->Heap.SameBut a s.heap h'->DR X.prog X.w H h':=λ{a h'} ha hs b ob e=>by
  obtain⟨_,_,hfree⟩:=ha;refine (I.hok b ob e).stay (λc w' hc q=>(hs.2 c ?_).trans q) (λ_ q=>q) λ_ _ q=>q
  rintro rfl;rcases hc with rfl|hc
  ·rw[hfree]at e;cases e
  ·rw[hfree]at hc;cases hc
 rcases hx with hk|hk
 ·refine wpAny_storeName_local hk hn (λh' hn' hs=>?_) hcls;obtain⟨oL,_,_,hoL,_⟩:=id hn;refine h _ ⟨I.ok,I.os,I.bare,⟨λb o e n hb hx=>?_,λb o e n hb hx=>?_,I.base.free,λb o e hx=>?_,I.base.tups,I.base.frzs,I.base.tbls⟩,⟨_,hn',λj y v' e1 e2 e3=>?_⟩,λy c e=>?_,I.free,I.freeC,λp hp=>?_,tracked ⟨oL,hoL,I.free⟩ hs,by simpa using I.len⟩ ⟨_,hs,.inl rfl⟩
  ·exact (hs.2 b (Wj (WP (WL e) I.ok.above))).trans (I.base.keep b o e n hb hx)
  ·obtain⟨sl,e1⟩:=I.base.slot b o e n hb hx;exact⟨sl,(hs.2 b (Wj (WP (WL e) I.ok.above))).trans e1⟩
  ·obtain⟨o',e1⟩:=I.base.there b o e hx;exact⟨o',(hs.2 b (Wj (WP (WL e) I.ok.above))).trans e1⟩
  ·by_cases hj:j=i
   ·subst hj;rw[hi]at e1;cases e1;rw[Xn hiσ]at e2;cases e2;exact⟨u,r,.inl ⟨hk,by simp⟩⟩
   ·rw[X2 (Ne.symm hj)]at e2;obtain⟨u',r',q⟩:=hl j y v' e1 e2 e3;refine⟨u',r',?_⟩;rcases q with⟨k,e⟩|⟨k,c,e,z⟩
    ·refine .inl ⟨k,?_⟩;have:y≠x:=λe=>hj (E5 hN e1 (e▸hi))
     simp[this,e]
    ·exact .inr ⟨k,c,e,z.sameBut hs (cne y c e)⟩
  ·obtain⟨w',z⟩:=I.cell y c e;exact⟨w',z.sameBut hs (cne y c e)⟩
  ·obtain⟨e,n,ne,nf,d⟩:=I.pin p hp;exact⟨(hs.2 p.1 ne).trans e,n,ne,nf,d⟩
 ·have hfn:X.fn x=true:=by
   rcases hf with z|z
   ·exact z
   ·rw[z]at hk;cases hk
  obtain⟨c,hc⟩:=I.ok.has x (.inl hk);obtain⟨w',z⟩:=I.cell x c hc;refine wpAny_storeName_cell I.ok.kind hk hc z (λh' hc' hs=>?_);obtain⟨oc,hoc,hocd⟩:=id z;refine h {s with heap:=h'} ⟨I.ok,I.os,I.bare,⟨λb o e n hb hx=>?_,λb o e n hb hx=>?_,I.base.free,λb o e hx=>?_,I.base.tups,I.base.frzs,I.base.tbls⟩,⟨m,hn.sameBut hs (Ne.symm (cne x c hc)),λj y v' e1 e2 e3=>?_⟩,λy c' e=>?_,I.free,I.freeC,λp hp=>?_,tracked ⟨oc,hoc,I.freeC x c hc⟩ hs,by simpa using I.len⟩ ⟨c,hs,.inr hc⟩
  ·exact (hs.2 b (Wj (WP (WL e) (I.ok.cab x c hfn hc)))).trans (I.base.keep b o e n hb hx)
  ·obtain⟨sl,e1⟩:=I.base.slot b o e n hb hx;exact⟨sl,(hs.2 b (Wj (WP (WL e) (I.ok.cab x c hfn hc)))).trans e1⟩
  ·obtain⟨o',e1⟩:=I.base.there b o e hx;exact⟨o',(hs.2 b (Wj (WP (WL e) (I.ok.cab x c hfn hc)))).trans e1⟩
  ·by_cases hj:j=i
   ·subst hj;rw[hi]at e1;cases e1;rw[Xn hiσ]at e2;cases e2;exact⟨u,r,.inr ⟨.inl hk,c,hc,hc'⟩⟩
   ·rw[X2 (Ne.symm hj)]at e2;obtain⟨u',r',q⟩:=hl j y v' e1 e2 e3;refine⟨u',r',?_⟩;rcases q with q|⟨k,c',e,z'⟩
    ·exact .inl q
    ·refine .inr ⟨k,c',e,z'.sameBut hs ?_⟩;rintro rfl;exact hj (E5 hN e1 (I.ok.inj _ _ _ e hc▸hi))
  ·by_cases hcc:c'=c
   ·subst hcc;exact⟨_,hc'⟩
   ·obtain⟨w2,z2⟩:=I.cell y c' e;exact⟨w2,z2.sameBut hs hcc⟩
  ·obtain⟨e,n,ne,nf,d⟩:=I.pin p hp;refine⟨(hs.2 p.1 ?_).trans e,n,ne,nf,d⟩;intro q;rw[q,hoc]at e;have q':oc=p.2:=Option.some.inj e;exact d w' (by rw[<-q'];exact hocd)
theorem GY{M:Model}{A:Around}{E:Value->Shared->Prop}{v:V}{Q:Unit->Shared->Prop}(I:AO X pins σ H s)(hN:X.N.Nodup)(hi:X.N[i]?=some x)(hx:P4 X.env.scope x)(r:Ao v u)
  (h:∀s',AO X pins (σ.set i (some v)) H s'->Q () s') (hf:X.fn x=true\/X.env.scope.names.lookup x=some .local:=by first|exact .inl rfl|exact .inr rfl|assumption):wpAny M A (storeName X.env x u) Q E s:=
 Hr I hN hi hx r (λs' I' _=>h s' I') hf
theorem AO.call'(I:AO X pins σ H s)(ho:s'.os=s.os)(u:Un (CZ X.stack) ch H H' s.heap s'.heap)(hok:DR X.prog X.w H' s'.heap)(hg:AllBare s'.gens)
  (hch:∀b∈ch,(b∈X.ex\/X.s₀.heap.objs.size<=b)/\b≠X.env.locals/\(∀x c,X.env.cells.lookup x=some c->c≠b)/\∀p∈X.pn++pins,p.1≠b):AO X pins σ H' s':=by
 obtain⟨h',g',d',t',o'⟩:=s';have e:o'=s.os:=ho;subst e;exact I.call (g':=g') (t':=t') (d':=d') u hok hg hch
end
abbrev XK:=Value->Option Addr->Hp->Prop
abbrev St:=List (Option V)
abbrev VK:=V->Hp->Prop
abbrev TE:=St->Hp->VK->Prop
abbrev TT:=St->Hp->(Bool->Hp->Prop)->Prop
abbrev TA:=St->Hp->(List V->Hp->Prop)->Prop
structure GZ where
 nx:St->Hp->Prop
 rt:VK
 bk:St->Hp->Prop:=λ_ _=>False
 ct:St->Hp->Prop:=λ_ _=>False
abbrev TS:=GZ->St->Hp->Prop
def EP(X:Cx)(pins:List (Addr×Obj))(σ:St)(Q:VK)(u:Value)(s':Shared):Prop:=∃v H',AO X pins σ H' s'/\Ao v u/\Q v H'
def TP(X:Cx)(pins:List (Addr×Obj))(σ:St)(Q:Bool->Hp->Prop)(b:Bool)(s':Shared):Prop:=∃H',AO X pins σ H' s'/\Q b H'
def AP(X:Cx)(pins:List (Addr×Obj))(σ:St)(Q:List V->Hp->Prop)(us:List Value)(s':Shared):Prop:=∃vs H',AO X pins σ H' s'/\Am vs us/\Q vs H'
def SP(X:Cx)(pins:List (Addr×Obj))(D:GZ)(f:Flow)(s':Shared):Prop:=
 match f with
 |.next=>∃σ' H',AO X pins σ' H' s'/\D.nx σ' H'
 |.brk=>∃σ' H',AO X pins σ' H' s'/\D.bk σ' H'
 |.cont=>∃σ' H',AO X pins σ' H' s'/\D.ct σ' H'
 |.ret u=>∃v σ' H',AO X pins σ' H' s'/\Ao v u/\D.rt v H'
def PE(X:Cx)(e:Expr)(t:TE):Prop:=
 ∀(pins:List (Addr×Obj)) (s:Shared) (σ:St) (H:Hp) (Q:VK),AO X pins σ H s->t σ H Q->wpAny (model X.prog X.w) X.A (eval e X.env) (EP X pins σ Q) X.xe s
def PT(X:Cx)(e:Expr)(t:TT):Prop:=
 ∀(pins:List (Addr×Obj)) (s:Shared) (σ:St) (H:Hp) (Q:Bool->Hp->Prop),AO X pins σ H s->t σ H Q->wpAny (model X.prog X.w) X.A (isTrue e X.env (eval e X.env)) (TP X pins σ Q) X.xe s
def PW(X:Cx)(e:Expr)(t:TT):Prop:=
 ∀(whole:Sem Value) (pins:List (Addr×Obj)) (s:Shared) (σ:St) (H:Hp) (Q:Bool->Hp->Prop),AO X pins σ H s->t σ H Q->wpAny (model X.prog X.w) X.A (isTrue e X.env whole) (TP X pins σ Q) X.xe s
variable{X:Cx}
theorem PW.pt{e:Expr}{t:TT}(h:PW X e t):PT X e t:=h _
def PA(X:Cx)(es:List Expr)(t:TA):Prop:=
 ∀(pos:Pos) (pins:List (Addr×Obj)) (s:Shared) (σ:St) (H:Hp) (Q:List V->Hp->Prop),AO X pins σ H s->t σ H Q->wpAny (model X.prog X.w) X.A (spliced (backTo pos (starEach es X.env))) (AP X pins σ Q) X.xe s
def PS(X:Cx)(st:Stmt)(t:TS):Prop:=
 ∀(pins:List (Addr×Obj)) (s:Shared) (σ:St) (H:Hp) (D:GZ),AO X pins σ H s->t D σ H->wpAny (model X.prog X.w) X.A (exec st X.env) (SP X pins D) X.xe s
def Fy(X:Cx)(st:List Stmt)(t:TS):Prop:=
 ∀(pins:List (Addr×Obj)) (s:Shared) (σ:St) (H:Hp) (D:GZ),AO X pins σ H s->t D σ H->wpAny (model X.prog X.w) X.A (execs st X.env) (SP X pins D) X.xe s
variable{E:Value->Shared->Prop}{s:Shared}
theorem BJ{t:Sem α}{Q Q':α->Shared->Prop}{M:Model}{A:Around}(h:wpAny M A t Q E s)(hQ:∀a s,Q a s->Q' a s):wpAny M A t Q' E s:=wpAny_mono h hQ λ_ _ x=>x
variable{Q:Value->Shared->Prop}{pins:List (Addr×Obj)}{σ:St}{op:CmpOp}
section
def Qp(i:Nat):TE:=λσ H Q=>∃v,σ[i]?=some (some v)/\Q v H
def tC(v:V):TE:=λ_ H Q=>Q v H
theorem Qq{pos:Pos}(hN:X.N[i]?=some x)(hv:Si X.env.scope x)(hd:(x==("__debug__":Str))=false:=by decide)(hcd:(x==("__classdict__":Str))=false:=by decide):PE X (.Name x pos) (Qp i):=by
 intro pins s σ H Q I h;obtain⟨v,e,h⟩:=h;obtain⟨m,hn,hl⟩:=I.loc;obtain⟨u,r,l⟩:=hl i x v hN e hv;have fin:EP X pins σ Q u s:=⟨v,H,I,r,h⟩;rcases l with⟨hk,hm⟩|⟨hk,c,hc,hcell⟩
 ·exact wpAny_Name (wpAny_loadName_local I.ok.kind hk hn hm fin) hd
 ·rcases hk with hk|hk
  ·exact wpAny_Name (wpAny_loadName_cell I.ok.kind hk hc hcell fin) hd
  ·exact wpAny_Name (wpAny_loadName_free I.ok.kind hk hc hcell fin hcd) hd
theorem AG{i j pos}:PE X (.Constant (.int i) j pos) (tC (.int i)):=λ_ _ _ H _ I h=>wpAny_Constant_int ⟨.int i,H,I.tok _,⟨_,rfl⟩,h⟩
theorem Bi{b j pos}:PE X (.Constant (.bool b) j pos) (tC (.bl b)):=λ_ _ _ H _ I h=>Constant_bool ⟨.bl b,H,I,rfl,h⟩
theorem IT{j pos}:PE X (.Constant .none j pos) (tC .non):=λ_ _ _ H _ I h=>Constant_none ⟨.non,H,I,rfl,h⟩
theorem Co{x j pos}:PE X (.Constant (.str x) j pos) (tC (.str x)):=λ_ _ _ H _ I h=>Calls.Constant_str ⟨.str x,H,I.tok _,⟨_,rfl⟩,h⟩
def Gl(X:Cx)(x:Str):Prop:=X.env.kindOf x=some .globalImplicit
theorem C6{E:Value->Shared->Prop}{pos:Pos}(I:AO X pins σ H s)(hg:Gl X x)(hm:X.mg x=some u)(h:Q u s)
  (hd:(x==("__debug__":Str))=false:=by decide):wpAny (model X.prog X.w) X.A (eval (.Name x pos) X.env) Q E s:=
 Calls.Name_function_global I.ok.kind hg (Calls.loadGlobal_global (by rw[I.ok.glob];exact I.mod.glob.keeps I.bk) hm h) hd
theorem Cp{E:Value->Shared->Prop}{pos:Pos}(I:AO X pins σ H s)(hg:Gl X x)(hm:X.mg x=none)(hv:bootBuiltins x=some u)(h:Q u s)
  (hn:x≠"__name__":=by decide) (hd:(x==("__debug__":Str))=false:=by decide):wpAny (model X.prog X.w) X.A (eval (.Name x pos) X.env) Q E s:=by
 obtain⟨mb,h1,h2⟩:=I.mod.blt;exact Calls.Name_function_global I.ok.kind hg (Calls.loadGlobal_builtin (by rw[I.ok.glob];exact I.mod.glob.keeps I.bk) hm (by rw[I.ok.blt];exact h1.keeps I.bk) ((h2 x hn).trans hv) h) hd
theorem LS{v:V}{pos:Pos}(hg:Gl X x)(hm:X.mg x=some u)(r:Ao v u)(hd:(x==("__debug__":Str))=false:=by decide):PE X (.Name x pos) (tC v):=
 λ_ _ _ H _ I h=>C6 I hg hm ⟨v,H,I,r,h⟩ hd
theorem Oy{v:V}{pos:Pos}(hg:Gl X x)(hm:X.mg x=none)(hv:bootBuiltins x=some u)(r:Ao v u)(hn:x≠"__name__":=by decide)(hd:(x==("__debug__":Str))=false:=by decide):PE X (.Name x pos) (tC v):=
 λ_ _ _ H _ I h=>Cp I hg hm hv ⟨v,H,I,r,h⟩ hn hd
variable{a b:Expr}{ta tb:TE}{pos:Pos}
def PC(X:Cx)(op:CmpOp)(a b:Expr)(t:TE):Prop:=
 ∀(pins:List (Addr×Obj)) (s:Shared) (σ:St) (H:Hp) (Q:VK),AO X pins σ H s->t σ H Q ->
  wpAny (model X.prog X.w) X.A (eval a X.env) (λv s₁=>wpAny (model X.prog X.w) X.A (eval b X.env) (λu s₂=>wpAny (model X.prog X.w) X.A (compareOp op v u) (EP X pins σ Q) X.xe s₂) X.xe s₁) X.xe s
def tB(t:TE):TT:=λσ H Q=>t σ H λx H1=>∃c,x=.bl c/\Q c H1
theorem Qr{t:TE}(h:PC X op a b t)(h1:behindInMarks op b=false:=by first|exact nobehind _ (by decide) (by decide)|rfl):PE X (.Compare a [op] [b] pos) t:=λpins s σ H Q I hw=>wpAny_Compare1 (h pins s σ H Q I hw) h1
theorem En{t:TE}(h:PC X op a b t)(h1:behindInMarks op b=false:=by first|exact nobehind _ (by decide) (by decide)|rfl):PT X (.Compare a [op] [b] pos) (tB t):=by intro pins s σ H Q I hw;refine wpAny_isTrue_Compare1 (BJ (h pins s σ H _ I hw) λv s1 h1=>BJ h1 λu s2 h2=>BJ h2 λc s3 z9=>?_) h1;obtain⟨x,H1,I1,r1,q1⟩:=z9;obtain⟨d,rfl,q⟩:=q1;cases r1;exact wpAny_truthy_bool ⟨H1,I1,q⟩
theorem Bf{e:Expr}{t:TE}(h:PE X e t)(he:∀whole,isTrue e X.env whole=(do let v <-whole;standAt e.pos;holding [v] (truthy v)):=by intro _;rfl):PT X e (tB t):=by intro pins s σ H Q I hw;refine isTrue_plain (BJ (h pins s σ H _ I hw) λv s1 z9=>?_) (he _);obtain⟨x,H1,I1,r1,q1⟩:=z9;obtain⟨d,rfl,q⟩:=q1;cases r1;exact wpAny_truthy_bool ⟨H1,I1,q⟩
variable{tA tB':TT}{rest:List Expr}
def Sk(t u:TT):TT:=λσ H Q=>t σ H λc H1=>if c=true then u σ H1 Q else Q false H1
def Vx(t u:TT):TT:=λσ H Q=>t σ H λc H1=>if c=true then Q true H1 else u σ H1 Q
def Sl(t:TT):TT:=λσ H Q=>t σ H λc H1=>Q (!c) H1
theorem GM(ha:PT X a tA):PW X (.BoolOp .And [a] pos) tA:=by
 intro wh pins s σ H Q I h;refine isTrue_and (BJ (ha pins s σ H Q I h) λc s1 e=>?_);cases c with
 |true=>exact isTrue_and_nil e
 |false=>exact e
theorem Ca(ha:PT X a tA):PW X (.BoolOp .Or [a] pos) tA:=by
 intro wh pins s σ H Q I h;refine isTrue_or (BJ (ha pins s σ H Q I h) λc s1 e=>?_);cases c with
 |false=>exact isTrue_or_nil e
 |true=>exact e
theorem Ga(ha:PT X a tA)(hb:PW X (.BoolOp .And (b::rest) pos) tB'):PW X (.BoolOp .And (a::b::rest) pos) (Sk tA tB'):=by
 intro wh pins s σ H Q I h;refine isTrue_and (BJ (ha pins s σ H _ I h) λc s1 z9=>?_);obtain⟨H1,I1,q1⟩:=z9;cases c with
 |true=>exact hb wh pins s1 σ H1 Q I1 q1
 |false=>exact⟨H1,I1,q1⟩
theorem Cq(ha:PT X a tA)(hb:PW X (.BoolOp .Or (b::rest) pos) tB'):PW X (.BoolOp .Or (a::b::rest) pos) (Vx tA tB'):=by
 intro wh pins s σ H Q I h;refine isTrue_or (BJ (ha pins s σ H _ I h) λc s1 z9=>?_);obtain⟨H1,I1,q1⟩:=z9;cases c with
 |true=>exact⟨H1,I1,q1⟩
 |false=>exact hb wh pins s1 σ H1 Q I1 q1
theorem Bw(ha:PT X a tA):PT X (.UnaryOp .Not a pos) (Sl tA):=by intro pins s σ H Q I h;exact isTrue_not (ha pins s σ H (λc H1=>Q (!c) H1) I h)
def P5(ta tb:TE):TE:=λσ H Q=>ta σ H λx H1=>∃c,x=.bl c/\if c=true then tb σ H1 Q else Q (.bl false) H1
def P6(ta:TE):TE:=λσ H Q=>ta σ H λx H1=>∃c,x=.bl c/\Q (.bl (!c)) H1
theorem D3{op}{t:TE}(h:PE X a t):PE X (.BoolOp op [a] pos) t:=λpins s σ H Q I hw=>BoolOp_one (h pins s σ H Q I hw)
theorem DG(ha:PE X a ta)(hb:PE X (.BoolOp .And (b::rest) pos) tb):PE X (.BoolOp .And (a::b::rest) pos) (P5 ta tb):=by
 intro pins s σ H Q I h;refine BoolOp_and (BJ (ha pins s σ H _ I h) λv s1 z9=>?_);obtain⟨x,H1,I1,r1,q1⟩:=z9;obtain⟨c,rfl,q1⟩:=q1;cases r1;refine wpAny_truthy_bool ?_;cases c with
 |true=>exact hb pins s1 σ H1 Q I1 q1
 |false=>exact⟨.bl false,H1,I1,rfl,q1⟩
theorem IU(ha:PE X a ta):PE X (.UnaryOp .Not a pos) (P6 ta):=by intro pins s σ H Q I h;refine UnaryOp_ (BJ (ha pins s σ H _ I h) λv s1 z9=>?_);obtain⟨x,H1,I1,r1,q1⟩:=z9;obtain⟨c,rfl,q1⟩:=q1;cases r1;exact not_of (wpAny_truthy_bool ⟨.bl (!c),H1,I1,rfl,q1⟩)
end
def Ac(K:PySem.W.Frag)(H:Hp)(a:Addr)(xs:List V):Prop:=
 Rd H a (.lst xs) \/
  ∃(o:Obj) (its:Array Value) (n:Nat),K.lookup a=some o/\o.cls=.type "list"/\o.dict=none/\o.data=.seq its n/\its.size<=sizeLine/\Am xs its.toList
def Ba(K:PySem.W.Frag)(H:Hp)(a:Addr)(xs:List V):Prop:=
 Rd H a (.tup xs) \/
  ∃(o:Obj) (its:Array Value) (n:Nat),K.lookup a=some o/\o.cls=.type "tuple"/\o.data=.seq its n/\its.size<=sizeLine/\Am xs its.toList
def U8:Value->Option V
 |.none=>some .non
 |.bool b=>some (.bl b)
 |.int i _=>some (.int i)
 |.str x _=>some (.str x)
 |.bytes b _=>some (.byt b)
 |.float b _=>some (.flt b)
 |.ref a=>some (.ref a)
 |.type n=>some (.ty n)
 |_=>none
theorem Ao.abs{x:V}(r:Ao x u):U8 u=some x:=by
 cases x with
 |non=>cases r;rfl
 |bl _=>cases r;rfl
 |int _=>obtain⟨t,rfl⟩:=r;rfl
 |str _=>obtain⟨t,rfl⟩:=r;rfl
 |byt _=>obtain⟨t,rfl⟩:=r;rfl
 |flt _=>obtain⟨t,rfl⟩:=r;rfl
 |ref _=>cases r;rfl
 |ty _=>cases r;rfl
variable{y:V}
theorem Ao.inj{x:V}(r:Ao x u)(q:Ao y u):x=y:=Option.some.inj (r.abs.symm.trans q.abs)
theorem Am.inj:∀{xs ys:List V} {us:List Value},Am xs us->Am ys us->xs=ys
 |_,_,_,.nil,.nil=>rfl
 |_,_,_,.cons r t,.cons r' t'=>by rw[r.inj r',Am.inj t t']
section
variable{ys:List V}
theorem Ac.of{K:PySem.W.Frag}(h:H a=some (.lst xs)):Ac K H a xs:=.inl (.inl h)
theorem Ba.of{K:PySem.W.Frag}(h:H a=some (.tup xs)):Ba K H a xs:=.inl (.inl h)
theorem AO.list(I:AO X pins σ H s)(h:Ac X.K H a xs):∃its:List Value,Am xs its/\PlainL s.heap a its.toArray/\xs.length<=sizeLine:=by
 rcases h with h|⟨o,its,n,hk,hc,hd,hs,hz,r⟩
 ·obtain⟨z,its,n,r,e⟩:=h.ok I.hok;exact⟨its,r,⟨_,n,e,rfl,rfl,rfl⟩,z⟩
 ·refine⟨its.toList,r,⟨o,n,I.kIn a o hk,hc,hd,by simpa using hs⟩,?_⟩;have e:=r.length;simp only[Array.length_toList]at e;lia
theorem AO.tuple(I:AO X pins σ H s)(h:Ba X.K H a xs):∃its:List Value,Am xs its/\IsTup s.heap a its.toArray/\xs.length<=sizeLine:=by
 rcases h with h|⟨o,its,n,hk,hc,hs,hz,r⟩
 ·obtain⟨z,its,r,p⟩:=h.ok I.hok;exact⟨its,r,p,z⟩
 ·refine⟨its.toList,r,⟨o,I.kIn a o hk,hc,n,by simpa using hs⟩,?_⟩;have e:=r.length;simp only[Array.length_toList]at e;lia
theorem AO.list_inj(I:AO X pins σ H s)(h:Ac X.K H a xs)(h':Ac X.K H a ys):xs=ys:=by
 obtain⟨its,r,⟨o,n,e,_,_,d⟩,_⟩:=I.list h;obtain⟨its',r',⟨o',n',e',_,_,d'⟩,_⟩:=I.list h';rw[e]at e';cases e';rw[d]at d'
 injection d' with d1 _
 have:its=its':=by simpa using congrArg Array.toList d1
 subst this;exact r.inj r'
theorem AO.tuple_inj(I:AO X pins σ H s)(h:Ba X.K H a xs)(h':Ba X.K H a ys):xs=ys:=by
 obtain⟨its,r,⟨o,e,_,n,d⟩,_⟩:=I.tuple h;obtain⟨its',r',⟨o',e',_,n',d'⟩,_⟩:=I.tuple h';rw[e]at e';cases e';rw[d]at d'
 injection d' with d1 _
 have:its=its':=by simpa using congrArg Array.toList d1
 subst this;exact r.inj r'
end
abbrev Cx.wish(X:Cx)(E:Value->Shared->Prop):Cx:={X with xe:=E}
abbrev Cx.nox(X:Cx):Cx:=X.wish λ_ _=>False
theorem Cx.Ok.wish(ok:X.Ok)(E:Value->Shared->Prop):(X.wish E).Ok:=
 ⟨ok.mod,ok.kind,ok.glob,ok.blt,ok.above,ok.inj,ok.has,ok.cab,ok.hd,ok.frames,ok.stk,ok.exf,ok.bs,ok.bsz,ok.noex,ok.exfs,ok.funs,ok.frf⟩
theorem Cx.Ok.unwish(ok:(X.wish E).Ok):X.Ok:=
 ⟨ok.mod,ok.kind,ok.glob,ok.blt,ok.above,ok.inj,ok.has,ok.cab,ok.hd,ok.frames,ok.stk,ok.exf,ok.bs,ok.bsz,ok.noex,ok.exfs,ok.funs,ok.frf⟩
variable{D:GZ}
theorem AO.wish(I:AO X pins σ H s)(E:Value->Shared->Prop):AO (X.wish E) pins σ H s:=⟨I.ok.wish E,I.os,I.bare,I.base,I.loc,I.cell,I.free,I.freeC,I.pin,I.hok,I.len⟩
theorem AO.unwish(I:AO (X.wish E) pins σ H s):AO X pins σ H s:=⟨I.ok.unwish,I.os,I.bare,I.base,I.loc,I.cell,I.free,I.freeC,I.pin,I.hok,I.len⟩
theorem SP.unwish{f:Flow}(h:SP (X.wish E) pins D f s'):SP X pins D f s':=by
 cases f with
 |next=>obtain⟨σ',H',I,q⟩:=h;exact⟨σ',H',I.unwish,q⟩
 |brk=>obtain⟨σ',H',I,q⟩:=h;exact⟨σ',H',I.unwish,q⟩
 |cont=>obtain⟨σ',H',I,q⟩:=h;exact⟨σ',H',I.unwish,q⟩
 |ret u=>obtain⟨v,σ',H',I,r,q⟩:=h;exact⟨v,σ',H',I.unwish,r,q⟩
theorem Fy.nox{st:List Stmt}{t:TS}(h:Fy X.nox st t):Fy X st t:=λpins s σ H D I hw =>
 wpAny_mono (h pins s σ H D (I.wish _) hw) (λ_ _ q=>q.unwish) λ_ _ z=>False.elim z
variable{tc:TT}
section
variable{st:Stmt}{rest:List Stmt}{t u:TS}{e:Expr}{te:TE}{pos:Pos}
def NF:TS:=λD σ H=>D.nx σ H
def NG(t u:TS):TS:=λD σ H=>t {D with nx:=u D} σ H
theorem AX:Fy X [] NF:=λ_ _ σ H _ I h=>wpAny_execs_nil ⟨σ,H,I,h⟩
theorem AD(h1:PS X st t)(h2:Fy X rest u):Fy X (st::rest) (NG t u):=by
 intro pins s σ H D I h;refine wpAny_execs_cons (BJ (h1 pins s σ H {D with nx:=u D} I h) λf s1 q=>?_);cases f with
 |next =>
  obtain⟨σ',H',I',q⟩:=q;exact h2 pins s1 σ' H' D I' q
 |ret v=>exact q
 |brk=>exact q
 |cont=>exact q
theorem AE(h1:PS X st t):Fy X [st] t:=by
 intro pins s σ H D I h;refine wpAny_execs_cons (BJ (h1 pins s σ H D I h) λf s1 q=>?_);cases f with
 |next=>exact wpAny_execs_nil q
 |ret v=>exact q
 |brk=>exact q
 |cont=>exact q
theorem AO.quiet(I:AO X pins σ H s):interactive X.env=false:=by simp[interactive,I.ok.kind]
def P7(te:TE):TS:=λD σ H=>te σ H λ_ H1=>D.nx σ H1
theorem A5(he:PE X e te)(hs:swapsWith e none pos.line X.env=pure false:=by rfl):PS X (.Expr e pos) (P7 te):=by intro pins s σ H D I h;exact wpAny_Expr_any (BJ (he pins s σ H _ I h) λv s1 ⟨x,H1,I1,r1,q1⟩=>⟨σ,H1,I1,q1⟩) I.quiet hs
def Sm(te:TE):TS:=λD σ H=>te σ H D.rt
theorem AL(he:PE X e te):PS X (.Return (some e) pos) (Sm te):=by intro pins s σ H D I h;exact wpAny_Return_some (BJ (he pins s σ H _ I h) λv s1 ⟨x,H1,I1,r1,q1⟩=>⟨x,σ,H1,I1,r1,q1⟩)
def Qs(c:TT)(t u:TS):TS:=λD σ H=>c σ H λb H1=>if b=true then t D σ H1 else u D σ H1
theorem Av{c:Expr}{a b:List Stmt}(hc:PT X c tc)(ha:Fy X a t)(hb:Fy X b u):PS X (.If c a b pos) (Qs tc t u):=by
 intro pins s σ H D I h;refine wpAny_If (BJ (hc pins s σ H _ I h) λd s1 z9=>?_);obtain⟨H1,I1,q1⟩:=z9;cases d with
 |true=>exact ha pins s1 σ H1 D I1 q1
 |false=>exact hb pins s1 σ H1 D I1 q1
end
abbrev TG:=V->St->Hp->(St->Hp->Prop)->Prop
abbrev Qt:=List V->St->Hp->(St->Hp->Prop)->Prop
def PG(X:Cx)(target:Expr)(t:TG):Prop:=
 ∀(pins:List (Addr×Obj)) (s:Shared) (σ:St) (H:Hp) (v:V) (u:Value) (Q:St->Hp->Prop),AO X pins σ H s->Ao v u->t v σ H Q ->
  wpAny (model X.prog X.w) X.A (assign target X.env u) (λ_ s'=>∃σ' H',AO X pins σ' H' s'/\Q σ' H') X.xe s
def Uz(X:Cx)(ts:List Expr)(t:Qt):Prop:=
 ∀(pins:List (Addr×Obj)) (s:Shared) (σ:St) (H:Hp) (vs:List V) (us:List Value) (Q:St->Hp->Prop),AO X pins σ H s->Am vs us->t vs σ H Q ->
  wpAny (model X.prog X.w) X.A (assignInOrder ((assignEach ts X.env).map (·.2)) us) (λ_ s'=>∃σ' H',AO X pins σ' H' s'/\Q σ' H') X.xe s
abbrev Qu:=V->V->V->Hp->(Hp->Prop)->Prop
def Sn(X:Cx)(t:Qu):Prop:=
 ∀(pins:List (Addr×Obj)) (s:Shared) (σ:St) (H:Hp) (o i v:V) (ov iv u:Value) (Q:Hp->Prop),AO X pins σ H s->Ao o ov->Ao i iv->Ao v u->t o i v H Q ->
  wpAny (model X.prog X.w) X.A (setItem ov iv u) (λ_ s'=>∃H',AO X pins σ H' s'/\Q H') X.xe s
variable{es:List Expr}{tg:Expr}{te:TE}
section
variable{pos:Pos}
def Cd(i:Nat):TG:=λv σ H Q=>Q (σ.set i (some v)) H
theorem LU(hN:X.N.Nodup)(hi:X.N[i]?=some x)(hx:P4 X.env.scope x)(hf:X.fn x=true\/X.env.scope.names.lookup x=some .local:=by first|exact .inl rfl|exact .inr rfl|assumption):PG X (.Name x pos) (Cd i):=by intro pins s σ H v u Q I r h;exact wpAny_assign_Name (GY I hN hi hx r (λs' I'=>⟨_,H,I',h⟩) hf)
def U9:Qt:=λvs σ H Q=>vs=[]/\Q σ H
def So(t:TG)(u:Qt):Qt:=λvs σ H Q=>∃v r,vs=v::r/\t v σ H λσ' H'=>u r σ' H' Q
theorem IV:Uz X [] U9:=by intro pins s σ H vs us Q I r h;obtain⟨e,h⟩:=h;subst e;cases r;exact assignInOrder_nil ⟨σ,H,I,h⟩
theorem DS{e:Expr}{t:TG}{u:Qt}(h1:PG X e t)(h2:Uz X es u)
  (hs:(assignEach (e::es) X.env).map (·.2)=assign e X.env::(assignEach es X.env).map (·.2):=by rfl):Uz X (e::es) (So t u):=by
 intro pins s σ H vs us Q I r h;obtain⟨v,vr,e1,h⟩:=h;subst e1;cases r with
 |cons r rr =>
  rw[hs];refine assignInOrder_cons (BJ (h1 pins s σ H _ _ _ I r h) λ_ s1 z9=>?_);obtain⟨σ1,H1,I1,q1⟩:=z9;exact h2 pins s1 σ1 H1 _ _ Q I1 rr q1
def VA(K:PySem.W.Frag)(n:Nat)(t:Qt):TG:=λv σ H Q=>∃a xs,v=.ref a/\Ba K H a xs/\xs.length=n/\t xs σ H Q
theorem Kb{k:Nat}{t:Qt}{n:Nat}(hc:X.calm=true)(h:Uz X es t)
  (hn:(assignEach es X.env).length=n:=by rfl) (hst:(assignEach es X.env).findIdx? (·.1)=none:=by rfl):PG X (.Tuple es k pos) (VA X.K n t):=by
 intro pins s σ H v u Q I r hw;obtain⟨a,xs,e1,hq,hl,hw⟩:=hw;subst e1;cases r;obtain⟨its,rv,ht,hz⟩:=I.tuple hq;refine assign_Tuple_tuple (I.ok.hd hc) ht (by simp[hn,<-hl,rv.length]) hst λh' hx=>?_;have I1:AO X pins σ H {s with heap:=h'}:=I.kept (t':=s.toks) λb o e=>hx b o (Wj (WL e)) e
 exact h pins _ σ H xs _ Q I1 (by simpa using rv) hw
def VB(to ti:TE)(t:Qu):TG:=λv σ H Q=>to σ H λo H1=>ti σ H1 λi H2=>t o i v H2 λH3=>Q σ H3
theorem NH{o i:Expr}{to ti:TE}{t:Qu}(ho:PE X o to)(hi:PE X i ti)(hs:Sn X t)
  (ha:∀v,assign (.Subscript o i pos) X.env v=(do
   let ov <-holding [v] (eval o X.env)
   let iv <-holding [v,ov] (eval i X.env)
   standAt pos
   holding [v,ov,iv] (setItem ov iv v)
   release [v,ov,iv] []):=by intro _;rfl):PG X (.Subscript o i pos) (VB to ti t):=by
 intro pins s σ H v u Q I r h;rw[ha];refine wpAny_bind (wpAny_holding (BJ (ho pins s σ H _ I h) λov s1 z9=>?_));obtain⟨x,H1,I1,r1,q1⟩:=z9;refine wpAny_bind (wpAny_holding (BJ (hi pins s1 σ H1 _ I1 q1) λiv s2 z9=>?_));obtain⟨y,H2,I2,r2,q2⟩:=z9;refine wpAny_bind (wpAny_standAt (wpAny_bind (wpAny_holding (BJ (hs pins s2 σ H2 x y v ov iv u _ I2 r1 r2 r q2) λ_ s3 z9=>?_))));obtain⟨H3,I3,q3⟩:=z9;exact wpAny_release ⟨σ,H3,I3,q3⟩
def Kc(te:TE)(g:TG):TS:=λD σ H=>te σ H λx H1=>g x σ H1 D.nx
theorem NJ{e:Expr}{g:TG}(he:PE X e te)(hg:PG X tg g)(hs:swapsWithSole [tg] e pos.line X.env=pure false:=by rfl)(hw:swappedStores [tg] e X.env=pure none:=by rfl)
  (h1:(assignEach [tg] X.env).map (·.2)=[assign tg X.env]:=by rfl):PS X (.Assign [tg] e pos) (Kc te g):=by
 intro pins s σ H D I h;refine wpAny_Assign_stores (BJ (he pins s σ H _ I h) λv s1 z9=>?_) hs hw;obtain⟨x,H1,I1,r1,q1⟩:=z9;rw[h1];exact BJ (hg pins s1 σ H1 x v _ I1 r1 q1) λ_ s2 q=>q
theorem IW{e:Expr}{pos':Pos}(hN:X.N.Nodup)(hi:X.N[i]?=some x)(hx:P4 X.env.scope x)(he:PE X e te)(hs:swapsWith e (some (.Name x pos')) pos.line X.env=pure false:=by rfl)(hf:X.fn x=true\/X.env.scope.names.lookup x=some .local:=by first|exact .inl rfl|exact .inr rfl|assumption):
  PS X (.Assign [.Name x pos'] e pos) (Kc te (Cd i)):=by
 intro pins s σ H D I h;refine wpAny_Assign_Name (BJ (he pins s σ H _ I h) λv s1 z9=>?_) hs;obtain⟨y,H1,I1,r1,q1⟩:=z9;exact GY I1 hN hi hx r1 (λs2 I2=>⟨_,H1,I2,q1⟩) hf
end
variable{body:List Stmt}
section
variable{pos:Pos}
def NK(c:TT)(tb:TS):TS:=λD σ H=>∃W:Nat->St->Hp->Prop,(∃m,W m σ H)/\∀m σ H,W m σ H ->
 c σ H λb H1=>if b=true then ∃N:St->Hp->Prop,(∀σ' H',N σ' H'->∃m',m'<m/\W m' σ' H')/\tb {D with nx:=N,ct:=N,bk:=D.nx} σ H1 else D.nx σ H1
theorem B6{c:Expr}{tb:TS}(hp:PassesOwn (model X.prog X.w) X.A X.env X.xe)(hc:PT X c tc)(hb:Fy X body tb):PS X (.While c body [] pos) (NK tc tb):=by
 intro pins s σ H D I h;obtain⟨W,⟨m0,w0⟩,turn⟩:=h;refine wpAny_While (codeAny_whileLoop (λn s'=>∃σ' H',AO X pins σ' H' s'/\W n σ' H') ?_ m0 ⟨σ,H,I,w0⟩);rintro n s1 ⟨σ1,H1,I1,w1⟩;refine wpAny_passesOwn hp (BJ (hc pins s1 σ1 H1 _ I1 (turn n σ1 H1 w1)) λb s2 z9=>?_);obtain⟨H2,I2,q2⟩:=z9;cases b with
 |true =>
  obtain⟨N,hN,q2⟩:=q2;rw[if_pos rfl];refine wpAny_passesOwn hp (BJ (hb pins s2 σ1 H2 _ I2 q2) λf s3 q3=>?_);cases f with
  |next =>
   obtain⟨σ3,H3,I3,n3⟩:=q3;obtain⟨m',hm,w3⟩:=hN σ3 H3 n3;exact⟨m',hm,σ3,H3,I3,w3⟩
  |cont =>
   obtain⟨σ3,H3,I3,n3⟩:=q3;obtain⟨m',hm,w3⟩:=hN σ3 H3 n3;exact⟨m',hm,σ3,H3,I3,w3⟩
  |brk=>exact q3
  |ret v=>exact q3
 |false =>
  rw[if_neg WZ];exact wpAny_execs_nil ⟨σ1,H2,I2,q2⟩
end
structure It where
 go:Nat->Hp->Prop
 yld:Nat->Hp->V->Hp->Prop
 stop:Nat->Hp->Prop
def GF(X:Cx)(pins:List (Addr×Obj))(H:Hp)(b:Addr):Prop:=
 H b=none/\b≠X.env.locals/\b∉X.fs/\(b∈X.ex\/X.s₀.heap.objs.size<=b)/\(∀x c,X.env.cells.lookup x=some c->c≠b)/\∀p∈X.pn++pins,p.1≠b
variable{H':Hp}
theorem AO.fpOk(I:AO X pins σ H s)(hb:s.heap.objs.size<=b)(hn:H' b=none):GF X pins H' b:=by
 refine⟨hn,Xu (WP I.lt hb),I.nofs hb,.inr (Wm I.sz hb),λx c e z=>?_,λp hp z=>?_⟩
 ·obtain⟨v,q⟩:=I.cell x c e;exact absurd (WP q.lt (by rw[z];exact hb)) (Wb _)
 ·exact absurd (WP (WL (I.pin p hp).1) (by rw[z];exact hb)) (Wb _)
structure Hh(P:Program)(w:World)(K:PySem.W.Frag)(tg:Expr)(J:It)(fp:List Addr)(it:Addr)(tn:Nat->Heap->Prop):Prop where
 mem:it∈fp
 obj:∀i h,tn i h->∀b∈fp,∃o,h.get? b=some o/\∀v,o.data≠.cell v
 keep:∀i h h',tn i h->(∀b∈fp,∀o,h.get? b=some o->h'.get? b=some o)->tn i h'
 item:∀(X:Cx),X.prog=P->X.w=w->X.K=K->X.calm=true->∀(i:Nat) (pins:List (Addr×Obj)) (s:Shared) (σ:St) (H:Hp) (E:Value->Shared->Prop),AO X pins σ H s->(∀b∈fp,GF X pins H b)->tn i s.heap->J.go i H ->
  wpAny (model P w) X.A (pyNext (.ref it)) (λr s1=>∃u,r=some u /\
   wpAny (model P w) X.A (letOwnedTupleGo tg (.ref it) u) (λ_ s2=>∃x H',AO X pins σ H' s2/\Ao x u/\J.yld i H x H'/\tn (i+1) s2.heap/\∀b∈fp,H' b=none) E s1) E s
 done:∀(X:Cx),X.prog=P->X.w=w->X.K=K->X.calm=true->∀(i:Nat) (pins:List (Addr×Obj)) (s:Shared) (σ:St) (H:Hp) (E:Value->Shared->Prop),AO X pins σ H s->(∀b∈fp,GF X pins H b)->tn i s.heap->J.stop i H ->
  wpAny (model P w) X.A (pyNext (.ref it)) (λr s1=>r=none/\AO X pins σ H s1) E s
 self:∀(A:Around) (i:Nat) (s:Shared) (Q:Value->Shared->Prop) (E:Value->Shared->Prop),tn i s.heap->Q (.ref it) s->wpAny (model P w) A (pyIter (.ref it)) Q E s
abbrev TI:=St->Hp->(It->Hp->Prop)->Prop
def Vy(X:Cx)(pins:List (Addr×Obj))(σ:St)(tg:Expr)(R:It->Hp->Prop)(itv:Value)(s2:Shared):Prop:=
 ∃(it:Addr) (fp:List Addr) (tn:Nat->Heap->Prop) (J:It) (H':Hp),itv=.ref it/\AO X pins σ H' s2/\Hh X.prog X.w X.K tg J fp it tn/\tn 0 s2.heap/\(∀b∈fp,GF X pins H' b)/\R J H'
def PI(X:Cx)(tg iter:Expr)(wi:TI):Prop:=
 ∀(pins:List (Addr×Obj)) (s:Shared) (σ:St) (H:Hp) (R:It->Hp->Prop),AO X pins σ H s->wi σ H R ->
  wpAny (model X.prog X.w) X.A (eval iter X.env) (λv s1=>wpAny (model X.prog X.w) X.A (pyIter v) (Vy X pins σ tg R) X.xe s1) X.xe s
theorem Hs{M:Model}{A:Around}{o:Obj}{n:String}{vs:Array Value}{Q:Unit->Shared->Prop}(ho:s.heap.get? it=some o)(hc:o.cls=.type n)(hd:o.data=.fields vs)
  (hn:["enumerate","zip","dict_itemiterator","dict_reverseitemiterator","odict_iterator","itertools.zip_longest","itertools.pairwise"].contains n=false) (hQ:Q () s):wpAny M A (letOwnedTupleGo tg (.ref it) u) Q E s:=by
 unfold letOwnedTupleGo
 cases tg<;>first
  |exact wpAny_pure hQ
  | (cases u<;>first
    |exact wpAny_pure hQ
    | (refine wpAny_bind (wpAny_load ho ?_)
       rw[hc,hd];show wpAny M A (if (["enumerate","zip","dict_itemiterator","dict_reverseitemiterator","odict_iterator","itertools.zip_longest","itertools.pairwise"].contains n&&vs[0]?==some (rawInt _))=true then _ else _) Q E s;rw[if_neg (by intro h;rw[hn,Bool.false_and]at h;cases h)];exact wpAny_pure hQ))
def Sg(K:PySem.W.Frag)(a:Addr):It:=
 ⟨λi H=>∃xs x,Ac K H a xs/\xs[i]?=some x,λi H x H'=>H'=H/\∀xs,Ac K H a xs->xs[i]?=some x,λi H=>∃xs,Ac K H a xs/\xs.length<=i⟩
def Sq(K:PySem.W.Frag)(a:Addr):It:=
 ⟨λi H=>∃xs x,Ba K H a xs/\xs[i]?=some x,λi H x H'=>H'=H/\∀xs,Ba K H a xs->xs[i]?=some x,λi H=>∃xs,Ba K H a xs/\xs.length<=i⟩
def P8(lo:Int)(n:Nat):It:=⟨λi _=>i<n,λi H x H'=>H'=H/\x=.int (lo+i),λi _=>n<=i⟩
theorem MJ{P:Program}{w:World}{K:PySem.W.Frag}(a it:Addr):Hh P w K tg (Sg K a) [it] it (λi h=>h.IsListIter it a i) where
 mem:=by simp
 obj:=λi h st b hb=>by
  have e:b=it:=by simpa using hb
  subst e;obtain⟨o,e,c,d⟩:=st;exact⟨o,e,λv z=>by rw[d]at z;cases z⟩
 keep:=λi h h' st k=>st.at λo e=>k it (by simp) o e
 item:=by intro X hP hw hK hc i pins s σ H E I hf st hg;subst hP hw hK;obtain⟨xs,x,hq,hx⟩:=hg;obtain⟨its,rv,p,hz⟩:=I.list hq;obtain⟨u,hu,ru⟩:=rv.get hx;obtain⟨f0,f1,f2,f3,f4,f5⟩:=hf it (by simp);refine wpAny_pyNext_list_item st p.isList (x:=u) (by simpa using hu) λh' st' sb=>?_;have I1:AO X pins σ H {s with heap:=h'}:=I.turned (t':=s.toks) (λb o hb e=>(sb.2 b hb).trans e) f0 f1 f3 f4 f5;obtain⟨o,e,c,d⟩:=id st';exact⟨u,rfl,Hs (s:={s with heap:=h'}) e c d (by decide) ⟨x,H,I1,ru,⟨rfl,λys hy=>by rw[I.list_inj hy hq];exact hx⟩,st',λb hb=>(hf b hb).1⟩⟩
 done:=by intro X hP hw hK hc i pins s σ H E I hf st hg;subst hP hw hK;obtain⟨xs,hq,hx⟩:=hg;obtain⟨its,rv,p,hz⟩:=I.list hq;obtain⟨f0,f1,f2,f3,f4,f5⟩:=hf it (by simp);have hl:=rv.length;exact wpAny_pyNext_list_end (I.ok.hd hc) st p.isList (by simp;lia) λh' eb=>⟨rfl,I.turned (t':=s.toks) (λb o hb e=>eb b o hb e) f0 f1 f3 f4 f5⟩
 self:=λ_ _ _ _ _ st h=>wpAny_pyIter_listiter st h
theorem Ke{P:Program}{w:World}{K:PySem.W.Frag}(a it:Addr):Hh P w K tg (Sq K a) [it] it (λi h=>h.IsTupleIter it a i) where
 mem:=by simp
 obj:=λi h st b hb=>by
  have e:b=it:=by simpa using hb
  subst e;obtain⟨o,e,c,d⟩:=st;exact⟨o,e,λv z=>by rw[d]at z;cases z⟩
 keep:=λi h h' st k=>st.at λo e=>k it (by simp) o e
 item:=by intro X hP hw hK hc i pins s σ H E I hf st hg;subst hP hw hK;obtain⟨xs,x,hq,hx⟩:=hg;obtain⟨its,rv,p,hz⟩:=I.tuple hq;obtain⟨u,hu,ru⟩:=rv.get hx;obtain⟨f0,f1,f2,f3,f4,f5⟩:=hf it (by simp);refine wpAny_pyNext_tuple_item st (show s.heap.IsTuple a its.toArray from p) (x:=u) (by simpa using hu) λh' st' sb=>?_;have I1:AO X pins σ H {s with heap:=h'}:=I.turned (t':=s.toks) (λb o hb e=>(sb.2 b hb).trans e) f0 f1 f3 f4 f5;obtain⟨o,e,c,d⟩:=id st';exact⟨u,rfl,Hs (s:={s with heap:=h'}) e c d (by decide) ⟨x,H,I1,ru,⟨rfl,λys hy=>by rw[I.tuple_inj hy hq];exact hx⟩,st',λb hb=>(hf b hb).1⟩⟩
 done:=by intro X hP hw hK hc i pins s σ H E I hf st hg;subst hP hw hK;obtain⟨xs,hq,hx⟩:=hg;obtain⟨its,rv,p,hz⟩:=I.tuple hq;obtain⟨f0,f1,f2,f3,f4,f5⟩:=hf it (by simp);have hl:=rv.length;exact wpAny_pyNext_tuple_end (I.ok.hd hc) st (show s.heap.IsTuple a its.toArray from p) (by simp;lia) λh' eb=>⟨rfl,I.turned (t':=s.toks) (λb o hb e=>eb b o hb e) f0 f1 f3 f4 f5⟩
 self:=λ_ _ _ _ _ st h=>wpAny_pyIter_tupleiter st h
theorem Kf{P:Program}{w:World}{K:PySem.W.Frag}(it:Addr)(lo:Int)(n:Nat):Hh P w K tg (P8 lo n) [it] it (λi h=>IsRangeIter h it (lo+(i:Nat)*1) ((n:Int)-(i:Nat)) 1) where
 mem:=by simp
 obj:=λi h st b hb=>by
  have e:b=it:=by simpa using hb
  subst e
  exact⟨_,st,λv z=>by have z':Data.fields _=Data.cell v:=z;cases z'⟩
 keep:=λi h h' st k=>k it (by simp) _ st
 item:=by intro X hP hw hK hc i pins s σ H E I hf st hg;subst hP hw hK;obtain⟨f0,f1,f2,f3,f4,f5⟩:=hf it (by simp);have W:=Walks.range (prog:=X.prog) (w:=X.w) (I.ok.hd hc) it lo 1 n;refine W.item i s _ _ hg st λv h' tk hv st' kk=>?_;obtain⟨t,rfl⟩:=hv;have I1:AO X pins σ H {s with heap:=h',toks:=tk}:=I.turned (λb o hb e=>kk b o (by simpa using hb) e) f0 f1 f3 f4 f5;refine⟨_,rfl,Hs (s:={s with heap:=h',toks:=tk}) (n:="range_iterator") st' rfl rfl (by decide) ⟨.int (lo+i),H,I1,⟨t,?_⟩,⟨rfl,rfl⟩,st',λb hb=>(hf b hb).1⟩⟩;rw[Int.mul_one]
 done:=by intro X hP hw hK hc i pins s σ H E I hf st hg;subst hP hw hK;obtain⟨f0,f1,f2,f3,f4,f5⟩:=hf it (by simp);exact wpAny_pyNext_range_end (I.ok.hd hc) st (by have:n<=i:=hg;lia) λh' eb=>⟨rfl,I.turned (t':=s.toks) (λb o hb e=>eb b o hb e) f0 f1 f3 f4 f5⟩
 self:=λ_ _ _ _ _ st h=>wpAny_pyIter_rangeiter st h
variable{tl:TE}{lo:Int}{ta:TA}{fp:List Addr}
def Sr(K:PySem.W.Frag)(tl:TE):TI:=λσ H R=>tl σ H λx H1=>∃a,x=.ref a/\(∃xs,Ac K H1 a xs)/\R (Sg K a) H1
def VC(K:PySem.W.Frag)(tl:TE):TI:=λσ H R=>tl σ H λx H1=>∃a,x=.ref a/\(∃xs,Ba K H1 a xs)/\R (Sq K a) H1
theorem BN{l:Expr}(hl:PE X l tl):PI X tg l (Sr X.K tl):=by
 intro pins s σ H R I h;refine BJ (hl pins s σ H _ I h) λv s1 z9=>?_;obtain⟨x,H1,I1,r1,q1⟩:=z9;obtain⟨a,e,⟨xs,hq⟩,q⟩:=q1;subst e;cases r1;obtain⟨its,rv,p,hz⟩:=I1.list hq;refine wpAny_pyIter_list p.isList ?_;refine⟨s1.heap.objs.size,[s1.heap.objs.size],_,_,H1,rfl,I1.kept (t':=s1.toks) λb o e=>WG _ e,MJ a _,⟨_,WR _ rfl,rfl,rfl⟩,λb hb=>?_,q⟩;have e:b=s1.heap.objs.size:=by simpa using hb
 subst e;exact I1.fpOk (WM _) (I1.hok.fresh (WM _))
theorem Qv{l:Expr}(hl:PE X l tl):PI X tg l (VC X.K tl):=by
 intro pins s σ H R I h;refine BJ (hl pins s σ H _ I h) λv s1 z9=>?_;obtain⟨x,H1,I1,r1,q1⟩:=z9;obtain⟨a,e,⟨xs,hq⟩,q⟩:=q1;subst e;cases r1;obtain⟨its,rv,p,hz⟩:=I1.tuple hq;refine wpAny_pyIter_tuple (show s1.heap.IsTuple a its.toArray from p) ?_;refine⟨s1.heap.objs.size,[s1.heap.objs.size],_,_,H1,rfl,I1.kept (t':=s1.toks) λb o e=>WG _ e,Ke a _,⟨_,WR _ rfl,rfl,rfl⟩,λb hb=>?_,q⟩;have e:b=s1.heap.objs.size:=by simpa using hb
 subst e;exact I1.fpOk (WM _) (I1.hok.fresh (WM _))
theorem JT{R:It->Hp->Prop}{hi:Int}{t u v:Tok}{tk:Nat}(I:AO X pins σ H s)(h1:-(2^62)<=lo)(h2:lo<2^62)(h3:-(2^62)<=hi)(h4:hi<2^62)
  (q:R (P8 lo (hi-lo).toNat) H):wpAny (model X.prog X.w) X.A (pyIter (.ref s.heap.objs.size)) (Vy X pins σ tg R) E {s with heap:=s.heap.push {cls:=.type "range",data:=.fields #[.int lo t,.int hi u,.int 1 v]},toks:=tk}:=by
 refine wpAny_pyIter_range (IsRange.new ..) (small_one h1 h2 h3 h4) ?_;have I1:AO X pins σ H {s with heap:=s.heap.push {cls:=.type "range",data:=.fields #[.int lo t,.int hi u,.int 1 v]},toks:=tk}:=I.kept λb o e=>WG _ e
 refine⟨(s.heap.push {cls:=.type "range",data:=.fields #[.int lo t,.int hi u,.int 1 v]}).objs.size,[(s.heap.push {cls:=.type "range",data:=.fields #[.int lo t,.int hi u,.int 1 v]}).objs.size],_,_,H,rfl,
  I1.kept (t':=tk) λb o e=>WG _ e,Kf _ lo (hi-lo).toNat,?_,λb hb=>?_,q⟩
 ·have e1:lo+((0:Nat):Int)*1=lo:=by simp
  have e2:(((hi-lo).toNat:Nat):Int)-((0:Nat):Int)=Builtin.Range.rangeSize lo hi 1:=by rw[rangeSize_one];split<;>lia
  show IsRangeIter _ _ (lo+((0:Nat):Int)*1) ((((hi-lo).toNat:Nat):Int)-((0:Nat):Int)) 1;rw[e1,e2];exact WR _ rfl
 ·have e:b=(s.heap.push {cls:=.type "range",data:=.fields #[.int lo t,.int hi u,.int 1 v]}).objs.size:=by simpa using hb
  subst e;exact I1.fpOk (WM _) (I1.hok.fresh (WM _))
def Ss(ta:TA):TI:=λσ H R=>ta σ H λvs H1=>∃j:Int,vs=[.int j]/\-(2^62)<=j/\j<2^62/\R (P8 0 j.toNat) H1
def Su(ta:TA):TI:=λσ H R=>ta σ H λvs H1=>∃i j:Int,vs=[.int i,.int j]/\(-(2^62)<=i/\i<2^62/\-(2^62)<=j/\j<2^62)/\R (P8 i (j-i).toNat) H1
theorem Ax{a:Expr}{p pos:Pos}(hg:Gl X "range")(hm:X.mg "range"=none)(ha:PA X [a] ta)(hs:starEach [a] X.env=[(false,eval a X.env)]:=by rfl):PI X tg (.Call (.Name "range" p) [a] [] pos) (Ss ta):=by
 intro pins s σ H R I h;refine Call_ (Cp I hg hm boot_range (Wo (BJ (ha pos pins s σ H _ I h) λus s1 z9=>?_) hs rfl));obtain⟨vs,H1,I1,r1,q1⟩:=z9;obtain⟨j,e,q1,q2,q⟩:=q1;subst e;cases r1 with
 |cons r rr =>
  cases rr;obtain⟨t,rfl⟩:=r;exact call_range_1 (JT I1 (by lia) (by lia) q1 q2 (by simpa using q))
theorem MK{a b:Expr}{p pos:Pos}(hg:Gl X "range")(hm:X.mg "range"=none)(ha:PA X [a,b] ta)(hs:starEach [a,b] X.env=[(false,eval a X.env),(false,eval b X.env)]:=by rfl)(hs2:starEach [b] X.env=[(false,eval b X.env)]:=by rfl):
  PI X tg (.Call (.Name "range" p) [a,b] [] pos) (Su ta):=by
 intro pins s σ H R I h;refine Call_ (Cp I hg hm boot_range (Wo (BJ (ha pos pins s σ H _ I h) λus s1 ⟨vs,H1,I1,r1,q1⟩=>?_) (by rw[hs,hs2]) (by rw[hs2];rfl)));obtain⟨i,j,e,⟨q1,q2,q3,q4⟩,q⟩:=q1;subst e;cases r1 with
 |cons r rr =>
  cases rr with
  |cons r' rr =>
   cases rr;obtain⟨t,rfl⟩:=r;obtain⟨t',rfl⟩:=r';exact call_range_2 (JT I1 q1 q2 q3 q4 q)
def VD(wi:TI)(g:TG)(tb:TS):TS:=λD σ H=>wi σ H λJ H1=>∃W:Nat->Nat->St->Hp->Prop,(∃m,W 0 m σ H1)/\∀i m σ H,W i m σ H ->
 (J.stop i H/\D.nx σ H)\/(J.go i H/\∃N:St->Hp->Prop,(∀σ' H',N σ' H'->∃m',m'<m/\W (i+1) m' σ' H')/\∀x H',J.yld i H x H'->g x σ H' λσ2 H2=>tb {D with nx:=N,ct:=N,bk:=D.nx} σ2 H2)
def Gb(fp:List Addr)(h:Heap):List (Addr×Obj):=fp.filterMap λb=>(h.get? b).map λo=>(b,o)
theorem Dg{o:Obj}(hb:b∈fp)(e:h.get? b=some o):(b,o)∈Gb fp h:=YD.mpr ⟨b,hb,by rw[e];rfl⟩
theorem ML{p:Addr×Obj}(hp:p∈Gb fp h):p.1∈fp/\h.get? p.1=some p.2:=by
 obtain⟨b,hb,e⟩:=YD.mp hp;cases q:h.get? b with
 |none=>rw[q]at e;cases e
 |some o =>
  rw[q]at e;have e':(b,o)=p:=Option.some.inj e;subst e';exact⟨hb,q⟩
theorem AO.pinned(I:AO X pins σ H s)(hf:∀b∈fp,GF X pins H b)(ho:∀b∈fp,∃o,s.heap.get? b=some o/\∀v,o.data≠.cell v):AO X (pins++Gb fp s.heap) σ H s:=
 I.pins_of λp hp=>(WK.mp hp).elim (λz=>I.pin p (Ws _ z)) λz=>by obtain⟨hb,e⟩:=ML z;obtain⟨f0,f1,f2,_⟩:=hf p.1 hb;obtain⟨o,e',d⟩:=ho p.1 hb;rw[e]at e';cases e';exact⟨e,f0,f1,f2,d⟩
theorem AO.unpinned{pl:List (Addr×Obj)}(I:AO X (pins++pl) σ H s):AO X pins σ H s:=I.pins_of λp hp=>I.pin p (Ws _ (YX _ hp))
theorem A9{iter:Expr}{wi:TI}{g:TG}{tb:TS}{pos:Pos}(hp:PassesOwn (model X.prog X.w) X.A X.env X.xe)(hc:X.calm=true)(hi:PI X tg iter wi)(hg:PG X tg g)(hb:Fy X body tb)
  (hs:∀x,foldedSetIterable iter X.env x=pure x:=by intro _;rfl):PS X (.For tg iter body [] pos) (VD wi g tb):=by
 intro pins s σ H D I h;refine wpAny_For (BJ (hi pins s σ H _ I h) λv s1 h1=>BJ h1 λitv s2 h2=>?_) hs;obtain⟨it,fp,tn,J,H2,e,I2,T,st2,f2,W,⟨m0,w0⟩,turn⟩:=h2;subst e;have stat:∀{H':Hp},(∀b∈fp,H' b=none)->∀b∈fp,GF X pins H' b:=λhn b hb=>⟨hn b hb,(f2 b hb).2⟩
 refine codeAny_forLoop_any (λn s'=>∃i σ' H',AO X pins σ' H' s'/\tn i s'.heap/\(∀b∈fp,H' b=none)/\W i n σ' H') ?_ m0 ⟨0,σ,H2,I2,st2,λb hb=>(f2 b hb).1,w0⟩;rintro n s3 ⟨i,σ3,H3,I3,st3,fr3,w3⟩;rcases turn i n σ3 H3 w3 with⟨stop,qn⟩|⟨go,N,hN,step⟩
 ·refine wpAny_passesOwn hp (BJ (T.done X rfl rfl rfl hc i pins s3 σ3 H3 X.xe I3 (stat fr3) st3 stop) λr s4 z9=>?_);obtain⟨hr,I4⟩:=z9;subst hr;exact wpAny_execs_nil ⟨σ3,H3,I4,qn⟩
 ·refine wpAny_passesOwn hp (BJ (T.item X rfl rfl rfl hc i pins s3 σ3 H3 X.xe I3 (stat fr3) st3 go) λr s4 z9=>?_);obtain⟨u,hr,h4⟩:=z9;subst hr;refine wpAny_passesOwn hp (BJ h4 λ_ s5 z9=>?_);obtain⟨x,H5,I5,r5,y5,st5,fr5⟩:=z9;have I5':=I5.pinned (stat fr5) (T.obj _ _ st5);refine wpAny_passesOwn hp (BJ (hg _ s5 σ3 H5 x u _ I5' r5 (step x H5 y5)) λ_ s6 z9=>?_);obtain⟨σ6,H6,I6,q6⟩:=z9;refine wpAny_passesOwn hp (BJ (hb _ s6 σ6 H6 _ I6 q6) λf s7 q7=>?_);have again:∀{σ7:St} {H7:Hp},AO X (pins++Gb fp s5.heap) σ7 H7 s7->N σ7 H7->∃m,m<n/\∃i σ' H',AO X pins σ' H' s7/\tn i s7.heap/\(∀b∈fp,H' b=none)/\W i m σ' H':=λ{σ7 H7} I7 n7=>by obtain⟨m',hm,w7⟩:=hN σ7 H7 n7;refine⟨m',hm,i+1,σ7,H7,I7.unpinned,T.keep _ _ _ st5 λb hb o e=>(I7.pin (b,o) (Ws _ (Ws _ (Dg hb e)))).1,λb hb=>?_,w7⟩;obtain⟨o,e,d⟩:=T.obj _ _ st5 b hb;exact (I7.pin (b,o) (Ws _ (Ws _ (Dg hb e)))).2.1
  cases f with
  |next=>obtain⟨σ7,H7,I7,n7⟩:=q7;exact again I7 n7
  |cont=>obtain⟨σ7,H7,I7,n7⟩:=q7;exact again I7 n7
  |brk=>obtain⟨σ7,H7,I7,q7⟩:=q7;exact⟨σ7,H7,I7.unpinned,q7⟩
  |ret v=>obtain⟨x7,σ7,H7,I7,r7,q7⟩:=q7;exact⟨x7,σ7,H7,I7.unpinned,r7,q7⟩
theorem BP{K:PySem.W.Frag}{g:TG}{tb:TS}(Pv:Nat->St->Hp->Prop)(h0:Pv 0 σ H)(hl:∀i σ H,i<=xs.length->Pv i σ H->Ac K H a xs)
  (hs:∀i x σ H,xs[i]?=some x->Pv i σ H->g x σ H λσ2 H2=>tb {D with nx:=Pv (i+1),ct:=Pv (i+1),bk:=D.nx} σ2 H2) (hd:∀σ H,Pv xs.length σ H->D.nx σ H):
  ∃W:Nat->Nat->St->Hp->Prop,(∃m,W 0 m σ H)/\∀i m σ H,W i m σ H ->
   ((Sg K a).stop i H/\D.nx σ H)\/((Sg K a).go i H/\∃N:St->Hp->Prop,(∀σ' H',N σ' H'->∃m',m'<m/\W (i+1) m' σ' H')/\∀x H',(Sg K a).yld i H x H'->g x σ H' λσ2 H2=>tb {D with nx:=N,ct:=N,bk:=D.nx} σ2 H2):=by
 refine⟨λi m σ H=>m=xs.length-i/\i<=xs.length/\Pv i σ H,⟨xs.length,by simp,Nat.zero_le _,h0⟩,?_⟩;rintro i m σ H ⟨rfl,hi,p⟩;have q:=hl i σ H hi p
 by_cases hlt:i<xs.length
 ·refine .inr ⟨⟨xs,xs[i],q,by simp[hlt]⟩,Pv (i+1),λσ' H' p'=>⟨xs.length-(i+1),by lia,rfl,hlt,p'⟩,λx H' y=>?_⟩;obtain⟨e,y⟩:=y;subst e;exact hs i x σ _ (y xs q) p
 ·have e:i=xs.length:=by lia
  subst e;exact .inl ⟨⟨xs,q,WM _⟩,hd σ H p⟩
theorem Oz{K:PySem.W.Frag}{g:TG}{tb:TS}(Pv:Nat->St->Hp->Prop)(h0:Pv 0 σ H)(hl:∀i σ H,i<=xs.length->Pv i σ H->Ba K H a xs)
  (hs:∀i x σ H,xs[i]?=some x->Pv i σ H->g x σ H λσ2 H2=>tb {D with nx:=Pv (i+1),ct:=Pv (i+1),bk:=D.nx} σ2 H2) (hd:∀σ H,Pv xs.length σ H->D.nx σ H):
  ∃W:Nat->Nat->St->Hp->Prop,(∃m,W 0 m σ H)/\∀i m σ H,W i m σ H ->
   ((Sq K a).stop i H/\D.nx σ H)\/((Sq K a).go i H/\∃N:St->Hp->Prop,(∀σ' H',N σ' H'->∃m',m'<m/\W (i+1) m' σ' H')/\∀x H',(Sq K a).yld i H x H'->g x σ H' λσ2 H2=>tb {D with nx:=N,ct:=N,bk:=D.nx} σ2 H2):=by
 refine⟨λi m σ H=>m=xs.length-i/\i<=xs.length/\Pv i σ H,⟨xs.length,by simp,Nat.zero_le _,h0⟩,?_⟩;rintro i m σ H ⟨rfl,hi,p⟩;have q:=hl i σ H hi p
 by_cases hlt:i<xs.length
 ·refine .inr ⟨⟨xs,xs[i],q,by simp[hlt]⟩,Pv (i+1),λσ' H' p'=>⟨xs.length-(i+1),by lia,rfl,hlt,p'⟩,λx H' y=>?_⟩;obtain⟨e,y⟩:=y;subst e;exact hs i x σ _ (y xs q) p
 ·have e:i=xs.length:=by lia
  subst e;exact .inl ⟨⟨xs,q,WM _⟩,hd σ H p⟩
theorem CI{n:Nat}{g:TG}{tb:TS}(Pv:Nat->St->Hp->Prop)(h0:Pv 0 σ H)
  (hs:∀i σ H,i<n->Pv i σ H->g (.int (lo+i)) σ H λσ2 H2=>tb {D with nx:=Pv (i+1),ct:=Pv (i+1),bk:=D.nx} σ2 H2) (hd:∀σ H,Pv n σ H->D.nx σ H):
  ∃W:Nat->Nat->St->Hp->Prop,(∃m,W 0 m σ H)/\∀i m σ H,W i m σ H ->
   ((P8 lo n).stop i H/\D.nx σ H)\/((P8 lo n).go i H/\∃N:St->Hp->Prop,(∀σ' H',N σ' H'->∃m',m'<m/\W (i+1) m' σ' H')/\∀x H',(P8 lo n).yld i H x H'->g x σ H' λσ2 H2=>tb {D with nx:=N,ct:=N,bk:=D.nx} σ2 H2):=by
 refine⟨λi m σ H=>m=n-i/\i<=n/\Pv i σ H,⟨n,by simp,Nat.zero_le _,h0⟩,?_⟩;rintro i m σ H ⟨rfl,hi,p⟩
 by_cases hlt:i<n
 ·refine .inr ⟨hlt,Pv (i+1),λσ' H' p'=>⟨n-(i+1),by lia,rfl,hlt,p'⟩,λx H' y=>?_⟩;obtain⟨e,y⟩:=y;subst e y;exact hs i σ _ hlt p
 ·have e:i=n:=by lia
  subst e;exact .inl ⟨WM _,hd σ H p⟩
theorem D4{c:TT}{tb:TS}(Pv:St->Hp->Prop)(μ:St->Hp->Nat)(h0:Pv σ H)
  (hs:∀σ H,Pv σ H->c σ H λb H1=>if b=true then tb {D with nx:=λσ' H'=>Pv σ' H'/\μ σ' H'<μ σ H,ct:=λσ' H'=>Pv σ' H'/\μ σ' H'<μ σ H,bk:=D.nx} σ H1 else D.nx σ H1)
  (mono:∀σ H Q Q',(∀b H1,Q b H1->Q' b H1)->c σ H Q->c σ H Q'):NK c tb D σ H:=by
 refine⟨λm σ H=>m=μ σ H/\Pv σ H,⟨_,rfl,h0⟩,?_⟩;rintro m σ H ⟨rfl,p⟩;refine mono σ H _ _ (λb H1 q=>?_) (hs σ H p);cases b with
 |true=>exact⟨_,λσ' H' ⟨p',l⟩=>⟨_,l,rfl,p'⟩,q⟩
 |false=>exact q
abbrev R2:=V->V->Hp->VK->Prop
def Fb(X:Cx)(f:Value->Value->Sem Value)(r:R2):Prop:=
 ∀(pins:List (Addr×Obj)) (s:Shared) (σ:St) (H:Hp) (x y:V) (v u:Value) (Q:VK),AO X pins σ H s->Ao x v->Ao y u->r x y H Q ->
  wpAny (model X.prog X.w) X.A (f v u) (EP X pins σ Q) X.xe s
def VE(X:Cx)(f:Value->Sem Value)(r:V->Hp->VK->Prop):Prop:=
 ∀(pins:List (Addr×Obj)) (s:Shared) (σ:St) (H:Hp) (x:V) (v:Value) (Q:VK),AO X pins σ H s->Ao x v->r x H Q ->
  wpAny (model X.prog X.w) X.A (f v) (EP X pins σ Q) X.xe s
def DT(X:Cx)(f:Value)(r:List V->Hp->VK->Prop):Prop:=
 ∀(pins:List (Addr×Obj)) (s:Shared) (σ:St) (H:Hp) (xs:List V) (us:List Value) (Q:VK),AO X pins σ H s->Am xs us->r xs H Q ->
  wpAny (model X.prog X.w) X.A (call f us) (EP X pins σ Q) X.xe s
def Sv(r:R2)(ta tb:TE):TE:=λσ H Q=>ta σ H λx H1=>tb σ H1 λy H2=>r x y H2 Q
def Vz(r:V->Hp->VK->Prop)(ta:TE):TE:=λσ H Q=>ta σ H λx H1=>r x H1 Q
def rI(C:Int->Int->Prop)(g:Int->Int->V):R2:=λx y H Q=>∃i j,x=.int i/\y=.int j/\C i j/\Q (g i j) H
def NL(g:Int->Int->V):R2:=λx y H Q=>∃i j,x=.int i/\y=.int j/\Q (g i j) H
def rU(g:Int->V):V->Hp->VK->Prop:=λx H Q=>∃i,x=.int i/\Q (g i) H
section
variable{a b c:Expr}{ta tb tc:TE}{pos:Pos}
theorem Qw(ha:PE X a ta)(hb:PE X b tb){R:V->V->Hp->Prop}(I:AO X pins σ H s)
  (h:ta σ H λx H1=>tb σ H1 λy H2=>R x y H2) {Q:Value->Shared->Prop} {f:Value->Value->Sem Value}
  (hf:∀v u s2 x y H2,AO X pins σ H2 s2->Ao x v->Ao y u->R x y H2->wpAny (model X.prog X.w) X.A (f v u) Q X.xe s2):
  wpAny (model X.prog X.w) X.A (eval a X.env) (λv s₁=>wpAny (model X.prog X.w) X.A (eval b X.env) (λu s₂=>wpAny (model X.prog X.w) X.A (f v u) Q X.xe s₂) X.xe s₁) X.xe s:=by
 refine BJ (ha pins s σ H _ I h) λv s1 z9=>?_;obtain⟨x,H1,I1,r1,q1⟩:=z9;refine BJ (hb pins s1 σ H1 _ I1 q1) λu s2 z9=>?_;obtain⟨y,H2,I2,r2,q2⟩:=z9;exact hf v u s2 x y H2 I2 r1 r2 q2
theorem AJ{op:Operator}{r:R2}(ho:Fb X (binaryOp op) r)(ha:PE X a ta)(hb:PE X b tb):PE X (.BinOp a op b pos) (Sv r ta tb):=by intro pins s σ H Q I h;exact wpAny_BinOp (Qw ha hb I h λv u s2 x y H2 I2 rx ry q=>ho pins s2 σ H2 x y v u Q I2 rx ry q)
theorem JU{op:UnaryOp}{r:V->Hp->VK->Prop}(ho:VE X (unaryOp op) r)(ha:PE X a ta):PE X (.UnaryOp op a pos) (Vz r ta):=by intro pins s σ H Q I h;exact UnaryOp_ (BJ (ha pins s σ H _ I h) λv s1 ⟨x,H1,I1,r1,q1⟩=>ho pins s1 σ H1 x v Q I1 r1 q1)
theorem Sw{f:Value->Value->Sem Value}{C:Int->Int->Prop}{g:Int->Int->Int}
  (rule:∀(i j:Int) (t u:Tok) (s:Shared) (Q:Value->Shared->Prop) (E:Value->Shared->Prop),C i j->Q (.int (g i j) s.toks) {s with toks:=s.toks+1}->wpAny (model X.prog X.w) X.A (f (.int i t) (.int j u)) Q E s):
  Fb X f (rI C λi j=>.int (g i j)):=by
 intro pins s σ H x y v u Q I rx ry h;obtain⟨i,j,rfl,rfl,hc,q⟩:=h;obtain⟨t,rfl⟩:=rx;obtain⟨t',rfl⟩:=ry;exact rule i j t t' s _ _ hc ⟨.int (g i j),H,I.tok _,⟨_,rfl⟩,q⟩
theorem O0{f:Value->Value->Sem Value}{g:Int->Int->Int}
  (rule:∀(i j:Int) (t u:Tok) (s:Shared) (Q:Value->Shared->Prop) (E:Value->Shared->Prop),Q (.int (g i j) s.toks) {s with toks:=s.toks+1}->wpAny (model X.prog X.w) X.A (f (.int i t) (.int j u)) Q E s):
  Fb X f (NL λi j=>.int (g i j)):=by
 intro pins s σ H x y v u Q I rx ry h;obtain⟨i,j,rfl,rfl,q⟩:=h;obtain⟨t,rfl⟩:=rx;obtain⟨t',rfl⟩:=ry;exact rule i j t t' s _ _ ⟨.int (g i j),H,I.tok _,⟨_,rfl⟩,q⟩
theorem O1{f:Value->Value->Sem Value}{g:Int->Int->Bool}
  (rule:∀(i j:Int) (t u:Tok) (s:Shared) (Q:Value->Shared->Prop) (E:Value->Shared->Prop),Q (.bool (g i j)) s->wpAny (model X.prog X.w) X.A (f (.int i t) (.int j u)) Q E s):
  Fb X f (NL λi j=>.bl (g i j)):=by
 intro pins s σ H x y v u Q I rx ry h;obtain⟨i,j,rfl,rfl,q⟩:=h;obtain⟨t,rfl⟩:=rx;obtain⟨t',rfl⟩:=ry;exact rule i j t t' s _ _ ⟨.bl (g i j),H,I,rfl,q⟩
def Sx(i j:Int):Prop:=0<j/\j<1073741824
def Sy(i j:Int):Prop:=0<=j/\j<=1000000/\i.natAbs<2^64
def O2(i j:Int):Prop:=(-(2^64)<i/\i<2^64)\/(-(2^64)<j/\j<2^64)
theorem O2.ok{i j:Int}(h:O2 i j):IntMulOk i j:=by
 rcases h with⟨h1,h2⟩|⟨h1,h2⟩
 ·exact .of_left (intBits_le_64 h1 h2)
 ·exact .of_right (intBits_le_64 h1 h2)
theorem Kg(k:Nat):(0:Int)<=2^k:=by rw[two_pow_cast];exact Int.natCast_nonneg _
theorem A8:Fb X (binaryOp .Add) (NL λi j=>.int (i+j)):=O0 λ_ _ _ _ _ _ _ q=>add_int q
theorem BZ:Fb X (binaryOp .Sub) (NL λi j=>.int (i-j)):=O0 λ_ _ _ _ _ _ _ q=>sub_int q
theorem Cr:Fb X (binaryOp .Mult) (rI O2 λi j=>.int (i*j)):=Sw λ_ _ _ _ _ _ _ hc q=>mul_int q hc.ok
theorem Ar:Fb X (binaryOp .FloorDiv) (rI Sx λi j=>.int (i/j)):=Sw λi j _ _ _ _ _ hc q=>by have h1:(0:Int)<j:=hc.1;have h2:j<1073741824:=hc.2;exact floordiv_int (by lia) (by rw[Int.fdiv_eq_ediv_of_nonneg i (by lia)];exact q) (.inl (PyProof.noPylong_small (by lia)))
theorem Aj:Fb X (binaryOp .Mod) (rI (λ_ j=>0<j) λi j=>.int (i%j)):=Sw λi j _ _ _ _ _ hc q=>by have h1:(0:Int)<j:=hc;exact mod_int' (by lia) (by rw[Int.fmod_eq_emod_of_nonneg i (by lia)];exact q)
theorem NM:Fb X (binaryOp .LShift) (rI Sy λi j=>.int (i*2^j.toNat)):=Sw λ_ _ _ _ _ _ _ hc q=>lshift_int_small hc.1 hc.2.1 hc.2.2 q
theorem Qx:Fb X (binaryOp .RShift) (rI (λ_ j=>0<=j) λi j=>.int (i/2^j.toNat)):=Sw λi j _ _ _ _ _ hc q =>
 rshift_int hc (by rw[Int.fdiv_eq_ediv_of_nonneg i (Kg _)];exact q)
theorem Qy:Fb X (binaryOp .BitAnd) (NL λi j=>.int (Builtin.bitAnd i j)):=O0 λ_ _ _ _ _ _ _ q=>and_int q
theorem P9:Fb X (binaryOp .BitOr) (NL λi j=>.int (Builtin.bitOr i j)):=O0 λ_ _ _ _ _ _ _ q=>or_int q
theorem WC{f:Value->Sem Value}{g:Int->Int}
  (rule:∀(i:Int) (t:Tok) (s:Shared) (Q:Value->Shared->Prop) (E:Value->Shared->Prop),Q (.int (g i) s.toks) {s with toks:=s.toks+1}->wpAny (model X.prog X.w) X.A (f (.int i t)) Q E s):
  VE X f (rU λi=>.int (g i)):=by
 intro pins s σ H x v Q I rx h;obtain⟨i,rfl,q⟩:=h;obtain⟨t,rfl⟩:=rx;exact rule i t s _ _ ⟨.int (g i),H,I.tok _,⟨_,rfl⟩,q⟩
theorem Gc:VE X (unaryOp .USub) (rU λi=>.int (-i)):=WC λ_ _ _ _ _ q=>neg_int q
end
def Qz:V->V->Bool
 |.non,.non=>true|.non,.int _=>true|.int _,.non=>true|.non,.bl _=>true|.bl _,.non=>true|.non,.str _=>true|.str _,.non=>true
 |.int _,.int _=>true|.bl _,.bl _=>true|.str _,.str _=>true|.byt _,.byt _=>true
 |.int _,.str _=>true|.str _,.int _=>true|.bl _,.str _=>true|.str _,.bl _=>true
 |_,_=>false
def V0:R2:=λx y H Q=>Qz x y=true/\Q (.bl (decide (x=y))) H
def V1:R2:=λx y H Q=>Qz x y=true/\Q (.bl (!decide (x=y))) H
theorem LV{i j:Int}:decide (V.int i=V.int j)=(i==j):=by rw[XW];simp
theorem NO{i j:Bool}:decide (V.bl i=V.bl j)=(i==j):=by rw[XW];simp
theorem LW{i j:Str}:decide (V.str i=V.str j)=(i==j):=by rw[XW];simp
theorem LX{i j:Array UInt8}:decide (V.byt i=V.byt j)=(i.toList==j.toList):=by rw[XW];cases i;cases j;simp
section
variable{a b c:Expr}{ta tb tc:TE}{pos:Pos}
theorem A7{Q:VK}{k k':Bool}(I:AO X pins σ H s)(q:Q (.bl k) H)(e:k=k'):EP X pins σ Q (.bool k') s:=by subst e;exact⟨.bl k,H,I,rfl,q⟩
theorem B7:Fb X (compareOp .Eq) V0:=by
 intro pins s σ H x y v u Q I rx ry h;obtain⟨hs,q⟩:=h;cases x with
 |non =>
  cases rx;cases y with
  |non=>cases ry;exact PySem.EqNone.eq_none_none (A7 I q (by simp))
  |bl j=>cases ry;exact PySem.EqNone.eq_none_bool (A7 I q (by simp))
  |int j=>obtain⟨t',rfl⟩:=ry;exact PySem.EqNone.eq_none_int (A7 I q (by simp))
  |str j=>obtain⟨t',rfl⟩:=ry;exact PySem.EqNone.eq_none_str (A7 I q (by simp))
  |_=>exact absurd (show false=true from hs) WZ
 |bl i =>
  cases rx;cases y with
  |non=>cases ry;exact PySem.EqNone.eq_bool_none (A7 I q (by simp))
  |bl j=>cases ry;exact eq_bool (A7 I q NO)
  |str j=>obtain⟨t',rfl⟩:=ry;exact PySem.EqMixed.eq_bool_str (A7 I q (by simp))
  |_=>exact absurd (show false=true from hs) WZ
 |int i =>
  obtain⟨t,rfl⟩:=rx;cases y with
  |non=>cases ry;exact PySem.EqNone.eq_int_none (A7 I q (by simp))
  |int j=>obtain⟨t',rfl⟩:=ry;exact eq_int (A7 I q LV)
  |str j=>obtain⟨t',rfl⟩:=ry;exact PySem.EqMixed.eq_int_str (A7 I q (by simp))
  |_=>exact absurd (show false=true from hs) WZ
 |str i =>
  obtain⟨t,rfl⟩:=rx;cases y with
  |non=>cases ry;exact PySem.EqNone.eq_str_none (A7 I q (by simp))
  |bl j=>cases ry;exact PySem.EqMixed.eq_str_bool (A7 I q (by simp))
  |int j=>obtain⟨t',rfl⟩:=ry;exact PySem.EqMixed.eq_str_int (A7 I q (by simp))
  |str j=>obtain⟨t',rfl⟩:=ry;exact eq_str (A7 I q LW)
  |_=>exact absurd (show false=true from hs) WZ
 |byt i =>
  obtain⟨t,rfl⟩:=rx;cases y with
  |byt j=>obtain⟨t',rfl⟩:=ry;exact PySem.W.eq_bytes (A7 I q LX)
  |_=>exact absurd (show false=true from hs) WZ
 |_=>cases y<;>exact absurd (show false=true from hs) WZ
theorem JV:Fb X (compareOp .NotEq) V1:=by
 intro pins s σ H x y v u Q I rx ry h;obtain⟨hs,q⟩:=h;cases x with
 |non =>
  cases rx;cases y with
  |non=>cases ry;exact PySem.EqNone.ne_none_none (A7 I q (by simp))
  |bl j=>cases ry;exact PySem.EqNone.ne_none_bool (A7 I q (by simp))
  |int j=>obtain⟨t',rfl⟩:=ry;exact PySem.EqNone.ne_none_int (A7 I q (by simp))
  |str j=>obtain⟨t',rfl⟩:=ry;exact PySem.EqNone.ne_none_str (A7 I q (by simp))
  |_=>exact absurd (show false=true from hs) WZ
 |bl i =>
  cases rx;cases y with
  |non=>cases ry;exact PySem.EqNone.ne_bool_none (A7 I q (by simp))
  |bl j=>cases ry;exact ne_bool (A7 I q (congrArg not NO))
  |str j=>obtain⟨t',rfl⟩:=ry;exact PySem.EqMixed.ne_bool_str (A7 I q (by simp))
  |_=>exact absurd (show false=true from hs) WZ
 |int i =>
  obtain⟨t,rfl⟩:=rx;cases y with
  |non=>cases ry;exact PySem.EqNone.ne_int_none (A7 I q (by simp))
  |int j=>obtain⟨t',rfl⟩:=ry;exact ne_int (A7 I q (congrArg not LV))
  |str j=>obtain⟨t',rfl⟩:=ry;exact PySem.EqMixed.ne_int_str (A7 I q (by simp))
  |_=>exact absurd (show false=true from hs) WZ
 |str i =>
  obtain⟨t,rfl⟩:=rx;cases y with
  |non=>cases ry;exact PySem.EqNone.ne_str_none (A7 I q (by simp))
  |bl j=>cases ry;exact PySem.EqMixed.ne_str_bool (A7 I q (by simp))
  |int j=>obtain⟨t',rfl⟩:=ry;exact PySem.EqMixed.ne_str_int (A7 I q (by simp))
  |str j=>obtain⟨t',rfl⟩:=ry;exact ne_str (A7 I q (congrArg not LW))
  |_=>exact absurd (show false=true from hs) WZ
 |byt i =>
  obtain⟨t,rfl⟩:=rx;cases y with
  |byt j=>obtain⟨t',rfl⟩:=ry;exact PySem.W.ne_bytes (A7 I q (congrArg not LX))
  |_=>exact absurd (show false=true from hs) WZ
 |_=>cases y<;>exact absurd (show false=true from hs) WZ
theorem DU:Fb X (compareOp .Lt) (NL λi j=>.bl (decide (i<j))):=O1 λ_ _ _ _ _ _ _ q=>lt_int q
theorem NP:Fb X (compareOp .LtE) (NL λi j=>.bl (decide (i<=j))):=O1 λ_ _ _ _ _ _ _ q=>le_int q
theorem Cs:Fb X (compareOp .Gt) (NL λi j=>.bl (decide (j<i))):=O1 λ_ _ _ _ _ _ _ q=>gt_int q
theorem QC:Fb X (compareOp .GtE) (NL λi j=>.bl (decide (j<=i))):=O1 λ_ _ _ _ _ _ _ q=>ge_int q
theorem Q0:Fb X (compareOp .Is) (λx y H Q=>y=.non/\Q (.bl (decide (x=.non))) H):=by
 intro pins s σ H x y v u Q I rx ry h;obtain⟨rfl,q⟩:=h;cases ry;refine is_none_gen (A7 I q ?_)
 cases x<;>first
  | (cases rx;rfl)
  | (obtain⟨t,rfl⟩:=rx;rfl)
theorem O3:Fb X (compareOp .IsNot) (λx y H Q=>y=.non/\Q (.bl (!decide (x=.non))) H):=by
 intro pins s σ H x y v u Q I rx ry h;obtain⟨rfl,q⟩:=h;cases ry;refine isnot_none_gen (A7 I q ?_)
 cases x<;>first
  | (cases rx;rfl)
  | (obtain⟨t,rfl⟩:=rx;rfl)
theorem AS(b:Expr)(h:op≠.In:=by decide)(h2:op≠.NotIn:=by decide):behindInMarks op b=false:=by
 have e1:(op==CmpOp.In)=false:=by cases op<;>first|rfl|exact absurd rfl h
 have e2:(op==CmpOp.NotIn)=false:=by cases op<;>first|rfl|exact absurd rfl h2
 cases b<;>simp[behindInMarks,e1,e2]
theorem EQ{r:R2}(ho:Fb X (compareOp op) r)(ha:PE X a ta)(hb:PE X b tb)(hm:behindInMarks op b=false):PE X (.Compare a [op] [b] pos) (Sv r ta tb):=by intro pins s σ H Q I h;exact wpAny_Compare1 (Qw ha hb I h λv u s2 x y H2 I2 rx ry q=>ho pins s2 σ H2 x y v u Q I2 rx ry q) hm
def QD(t:TE):TT:=λσ H Q=>t σ H λx H'=>∃k,x=.bl k/\Q k H'
theorem AN{r:R2}(ho:Fb X (compareOp op) r)(ha:PE X a ta)(hb:PE X b tb)(hm:behindInMarks op b=false):PT X (.Compare a [op] [b] pos) (QD (Sv r ta tb)):=by
 intro pins s σ H Q I h
 refine wpAny_isTrue_Compare1 (BJ (ha pins s σ H _ I h) λv s1 ⟨x,H1,I1,r1,q1⟩=>BJ (hb pins s1 σ H1 _ I1 q1) λu s2 ⟨y,H2,I2,r2,q2⟩ =>
  BJ (ho pins s2 σ H2 x y v u _ I2 r1 r2 q2) λc s3 ⟨z,H3,I3,r3,k,e,q3⟩=>?_) hm
 subst e;cases r3;exact wpAny_truthy_bool ⟨H3,I3,q3⟩
theorem IX:(sizeLine:Nat)<2^63:=by rw[sizeLine_eq];decide
theorem Fz{x:V}(r:Am [x] us):∃u,us=[u]/\Ao x u:=by
 cases r with
 |cons r1 r2=>cases r2;exact⟨_,rfl,r1⟩
theorem LY{x:V}(r:Am [x,y] us):∃u w',us=[u,w']/\Ao x u/\Ao y w':=by
 cases r with
 |cons r1 r2 =>
  cases r2 with
  |cons r3 r4=>cases r4;exact⟨_,_,rfl,r1,r3⟩
theorem MM(hc:X.calm=true):DT X (.builtin "min") (λxs H Q=>∃i j,xs=[.int i,.int j]/\Q (.int (if j<i then j else i)) H):=by
 intro pins s σ H xs us Q I r h;obtain⟨i,j,rfl,q⟩:=h;obtain⟨u,w',rfl,⟨t,rfl⟩,⟨t',rfl⟩⟩:=LY r;refine min_two_ints (I.ok.hd hc) λh' tk k=>⟨_,H,I.kept k,?_,q⟩
 by_cases hj:j<i
 ·rw[if_pos hj,if_pos hj];exact⟨_,rfl⟩
 ·rw[if_neg hj,if_neg hj];exact⟨_,rfl⟩
end
structure Kh(h:Heap)(x dx C:Addr)(mA:Str->Option Value):Prop where
 obj:h.get? x=some (PySem.W.instObj C dx)
 ns:h.Ns1 dx mA
 ne:dx≠x
variable{dx:Addr}
theorem MN{mA:Str->Option Value}(n:h.Ns1 dx mA):∃od,h.get? dx=some od/\∀name,PySem.W.lookIn name od=some (mA name):=by
 obtain⟨o,es,ep,ho,hd,hk,_,hm⟩:=n;refine⟨o,ho,λname=>?_⟩;have e:=hm name;unfold nsFind findBy at e;rw[<-Array.find?_toList]at e;unfold PySem.W.lookIn;rw[hd];dsimp only;split
 ·rename_i y q
  rw[q]at e;exact congrArg some e
 ·rename_i q
  rw[q]at e
  have a:es.toList.any (·.refKey)=false:=by rw[List.any_eq_false];intro y hy;obtain⟨z,t,hkey⟩:=hk y (Array.mem_toList_iff.mp hy);simp[DictEntry.refKey,hkey]
  have a':¬es.toList.any (·.refKey)=true:=by rw[a];exact WZ
  rw[if_neg a'];exact congrArg some e
variable{C:Addr}
theorem Kh.look{x:Addr}{mA:Str->Option Value}(I:Kh h x dx C mA):∃od,PySem.W.InstAt h x (PySem.W.instObj C dx) C (some od)/\∀name,PySem.W.lookIn name od=some (mA name):=
 let ⟨od,ho,hl⟩:=MN I.ns
 ⟨od,⟨I.obj,rfl,rfl,ho⟩,hl⟩
variable{pl:Sem Bool}{R:Result->Shared->Prop}{kw:List (Str×Value)}
section
variable{prog:Program}{w:World}{A:Around}{K:PySem.W.Frag}{x f:Addr}{mA:Str->Option Value}{name:Str}{v:Value}
theorem O4{expr:Bool}(X:K.In s.heap)(I:Kh s.heap x dx C mA)(hg:PySem.W.plainGet K C name=true)(hh:PySem.W.hasDictIn K C=true)
  (ha:PySem.W.findIn K (.ref C) name=some none) (hv:mA name=some v) (hv':PySem.W.handedIn v=true) (h:Q v {s with toks:=s.toks+1}):
  wpAny (model prog w) A (getAttr (.ref x) name expr) Q E s:=by
 obtain⟨od,J,hl⟩:=I.look;exact PySem.W.get_value X J (PySem.W.plainGet_of hg).1 (PySem.W.findObj_own hh ha rfl (by rw[hl,hv])) hv' h
theorem NQ{Q:Value×List Value->Shared->Prop}(X:K.In s.heap)(I:Kh s.heap x dx C mA)(hg:PySem.W.plainGet K C name=true)
  (hf:PySem.W.findIn K (.ref C) name=some (some (.ref f))) (ht:PySem.W.isFn K (.ref f)=true) (hv:mA name=none) (h:Q (.ref f,[.ref x]) s):
  wpAny (model prog w) A (getMethod (.ref x) name pl) Q E s:=by
 obtain⟨od,J,hl⟩:=I.look;exact PySem.W.method_fn X J (PySem.W.plainGet_of hg).1 (PySem.W.plainGet_of hg).2 hf (beq_iff_eq.mp ht) (by show (PySem.W.lookIn name od).map (·.isSome)=some false;rw[hl,hv];rfl) h
theorem O5{ns:List Str}{Q:Unit->Shared->Prop}(X:K.In s.heap)(I:Kh s.heap x dx C mA)
  (hs:PySem.W.findIn K (.ref C) "__setattr__"=some (some (.builtin "object.__setattr__"))) (hp:PySem.W.plainOver K C=true) (ht:PySem.W.takerIn K C name=some none) (hh:PySem.W.hasDictIn K C=true)
  (hw:PySem.Within mA ns) (hsz:ns.length<=sizeLine)
  (h:∀h',Kh h' x dx C (λy=>if y=name then some v else mA y)->Heap.SameBut dx s.heap h'->Q () {s with heap:=h',toks:=s.toks+2}):
  wpAny (model prog w) A (setAttr (.ref x) name v) Q E s:=by
 obtain⟨od,J,hl⟩:=I.look;refine PySem.W.set_plain X J hs (PySem.W.osa_open (s:={s with toks:=s.toks+1}) (r:=none) X J hp ht λb=>?_);obtain⟨cd,hc,hd'⟩:=PySem.W.any_some hh;have hx:s.heap.get? x=some ⟨.ref C,some dx,.plain,#[]⟩:=I.obj;refine wpAny_bind (wpAny_pure (wpAny_bind (wpAny_bind (wpAny_loadPart hx (wpAny_bind (PySem.W.Looks.here (s:={s with toks:=s.toks+1}) (PySem.W.looks_clsIn X hc) ?_))))));rw[hd'];refine wpAny_pure (a:=some dx) (wpAny_bind (wpAny_pure (wpAny_bind ?_)));refine wpAny_nsSet1 (s:={s with toks:=s.toks+1}) I.ns λh' hn2 hs2=>?_;obtain⟨oD,esD,epD,hoD,hdD,hcD⟩:=hn2.count (PySem.Within.cons name v hw);refine wpAny_bind (wpAny_lookBehind hoD (by rw[hdD];exact pastItsLine_dict (Wm hcD (by rw[Wy];lia))) ?_);exact wpAny_pure (h _ ⟨(hs2.2 _ (Ne.symm I.ne)).trans I.obj,hn2,I.ne⟩ hs2)
theorem NR{vs:List Value}(X:K.In s.heap)(hm:PySem.W.makesIn K C=true)
  (hi:PySem.W.findIn K (.ref C) "__init__"=some (some (.ref f))) (hf:PySem.W.typeIn K (.ref f)=some (.type "function"))
  (h:codeAny (model prog w) (A.under (.builtin "type.__call__" ⟨.ref C::vs,kw⟩)) (.call (.ref f) ⟨.ref (s.heap.objs.size+1)::vs,kw⟩) (PySem.W.InitBack (s.heap.objs.size+1) R)
   {s with heap:=(s.heap.push PySem.W.emptyDict).push (PySem.W.instObj C s.heap.objs.size)}):
  codeAny (model prog w) A (.call (.ref C) ⟨vs,kw⟩) R s:=by
 obtain⟨hh,g,d,t,os⟩:=s;exact PySem.W.make_core (PySem.W.makes_of X hm) (XU X hi) (λself=>PySem.W.bind_fn X self hf) (.inl rfl) h
theorem MO(X:K.In s.heap)(hm:PySem.W.makesIn K C=true)
  (hi:PySem.W.findIn K (.ref C) "__init__"=some (some (.builtin "object.__init__")))
  (hb:∀self,PySem.W.Looks (model prog w) s.heap (bindSpecial (.builtin "object.__init__") self) (.builtin "object.__init__",[self]))
  (h:codeAny (model prog w) (A.under (.builtin "type.__call__" ⟨[.ref C],[]⟩)) (.call (.builtin "object.__init__") ⟨[.ref (s.heap.objs.size+1)],[]⟩) (PySem.W.InitBack (s.heap.objs.size+1) R)
   {s with heap:=(s.heap.push PySem.W.emptyDict).push (PySem.W.instObj C s.heap.objs.size)}):
  codeAny (model prog w) A (.call (.ref C) ⟨[],[]⟩) R s:=by
 obtain⟨hh,g,d,t,os⟩:=s;exact PySem.W.make_core (PySem.W.makes_of X hm) (XU X hi) hb (.inr ⟨rfl,rfl⟩) h
end
def Ef(f:Str)(v:V):List (Str×V)->List (Str×V)
 |[]=>[(f,v)]
 | (g,x)::r=>if g=f then (g,v)::r else (g,x)::Ef f v r
theorem F0(f g:Str)(v:V):∀fs:List (Str×V),(Ef f v fs).lookup g=if g=f then some v else fs.lookup g
 |[]=>by
  show List.lookup g [(f,v)]=_
  by_cases h:g=f
  ·have hb:(g==f)=true:=beq_iff_eq.mpr h;simp only[List.lookup,hb,if_pos h]
  ·have hb:(g==f)=false:=beq_eq_false_iff_ne.mpr h;simp only[List.lookup,hb,if_neg h]
 | (k,x)::r=>by
  have ih:=F0 f g v r;rw[show Ef f v ((k,x)::r)=(if k=f then (k,v)::r else (k,x)::Ef f v r) from rfl]
  by_cases hk:k=f
  ·rw[if_pos hk]
   by_cases h:g=k
   ·have hb:(g==k)=true:=beq_iff_eq.mpr h;simp only[List.lookup,hb,if_pos (h.trans hk)]
   ·have hb:(g==k)=false:=beq_eq_false_iff_ne.mpr h;simp only[List.lookup,hb,if_neg (λe:g=f=>h (e.trans hk.symm))]
  ·rw[if_neg hk]
   by_cases h:g=k
   ·have hb:(g==k)=true:=beq_iff_eq.mpr h;simp only[List.lookup,hb,if_neg (λe:g=f=>hk (h.symm.trans e))]
   ·have hb:(g==k)=false:=beq_eq_false_iff_ne.mpr h;simp only[List.lookup,hb];exact ih
theorem Fc(f:Str)(v:V):∀fs:List (Str×V),f∈(Ef f v fs).map (·.1)/\∀g,g∈fs.map (·.1)->g∈(Ef f v fs).map (·.1)
 |[]=>⟨by simp[Ef],λg h=>by simp at h⟩
 | (k,x)::r=>by
  obtain⟨i1,i2⟩:=Fc f v r;rw[show Ef f v ((k,x)::r)=(if k=f then (k,v)::r else (k,x)::Ef f v r) from rfl]
  by_cases hk:k=f
  ·rw[if_pos hk];subst hk;exact⟨by simp,λg h=>by simpa using h⟩
  ·rw[if_neg hk];refine⟨?_,λg h=>?_⟩
   ·rw[W0];exact WW _ i1
   ·rw[W0]at h⊢;rcases WY.mp h with e|e
    ·exact WY.mpr (.inl e)
    ·exact WW _ (i2 g e)
theorem F1(f:Str)(v:V):∀fs:List (Str×V),(Ef f v fs).length<=fs.length+1
 |[]=>by simp[Ef]
 | (k,x)::r=>by
  have ih:=F1 f v r;rw[show Ef f v ((k,x)::r)=(if k=f then (k,v)::r else (k,x)::Ef f v r) from rfl]
  by_cases hk:k=f
  ·rw[if_pos hk,Wy,Wy];lia
  ·rw[if_neg hk,Wy,Wy];lia
theorem D0.some_of{v:V}{o:Option Value}(r:D0 (some v) o):∃u,o=some u/\Ao v u:=by
 cases o with
 |none=>exact (show False from r).elim
 |some u=>exact⟨u,rfl,r⟩
theorem D0.none_of{o:Option Value}(r:D0 none o):o=none:=by
 cases o with
 |none=>rfl
 |some u=>exact (show False from r).elim
theorem MP{v:V}(r:Ao v u):PySem.W.handedIn u=true:=by
 cases v with
 |non=>cases (show u=Value.none from r);rfl
 |bl b=>cases (show u=Value.bool b from r);rfl
 |int i=>obtain⟨t,e⟩:=(show ∃t,u=Value.int i t from r);cases e;rfl
 |str x=>obtain⟨t,e⟩:=(show ∃t,u=Value.str x t from r);cases e;rfl
 |byt b=>obtain⟨t,e⟩:=(show ∃t,u=Value.bytes b t from r);cases e;rfl
 |flt b=>obtain⟨t,e⟩:=(show ∃t,u=Value.float b t from r);cases e;rfl
 |ref a=>cases (show u=Value.ref a from r);rfl
 |ty n=>cases (show u=Value.type n from r);rfl
section
variable{P:Program}{w:World}{h':Heap}{fs fs':List (Str×V)}
theorem E6(hok:DR P w H h)(e:H a=some (.ins C dx fs)):∃mA,Kh h a dx C mA/\(∀f,D0 (fs.lookup f) (mA f))/\PySem.Within mA (fs.map (·.1))/\fs.length<=1000/\H dx=some (.own a):=by obtain⟨d,z,ne,ob,mA,n,r,q⟩:=(show As P w H h a (.ins C dx fs) from hok a _ e);exact⟨mA,⟨ob,n,ne⟩,r,q,z,d⟩
end
structure NT(K:PySem.W.Frag)(C:Addr):Prop where
 pg:PySem.W.plainGet K C Str.empty=true
 hd:PySem.W.hasDictIn K C=true
 po:PySem.W.plainOver K C=true
 sa:PySem.W.findIn K (.ref C) "__setattr__"=some (some (.builtin "object.__setattr__"))
theorem NT.get{K:PySem.W.Frag}(c:NT K C)(f:Str):PySem.W.plainGet K C f=true:=c.pg
def D5(K:PySem.W.Frag)(C:Addr)(f:Str):Prop:=PySem.W.findIn K (.ref C) f=some none
theorem D5.taker{K:PySem.W.Frag}{f:Str}(n:D5 K C f):PySem.W.takerIn K C f=some none:=by unfold PySem.W.takerIn;rw[show PySem.W.findIn K (.ref C) f=some none from n];rfl
structure IY(K:PySem.W.Frag)(C:Addr)(m:Str)(f:Addr):Prop where
 at_:PySem.W.findIn K (.ref C) m=some (some (.ref f))
 fn:PySem.W.isFn K (.ref f)=true
 kp:PySem.W.keepIn K (.ref f)=true
variable{pos:Pos}
section
variable{fs:List (Str×V)}{f:Str}{v:V}{A:Around}
theorem Ki{b:Bool}(I:AO X pins σ H s)(e:H a=some (.ins C dx fs))(c:NT X.K C)(n:D5 X.K C f)(l:fs.lookup f=some v)
  (h:∀u s',AO X pins σ H s'->Ao v u->Q u s'):wpAny (model X.prog X.w) A (getAttr (.ref a) f b) Q E s:=by
 obtain⟨mA,O,r,_,_,_⟩:=E6 I.hok e;obtain⟨u,hu,ru⟩:=D0.some_of (v:=v) (o:=mA f) (by rw[<-l];exact r f);exact O4 I.kIn O (c.get f) c.hd n hu (MP ru) (h u _ (I.tok _) ru)
theorem Gd{m:Str}{g:Addr}{Q:Value×List Value->Shared->Prop}(I:AO X pins σ H s)(e:H a=some (.ins C dx fs))(c:NT X.K C)(k:IY X.K C m g)(l:fs.lookup m=none)
  (h:Q (.ref g,[.ref a]) s):wpAny (model X.prog X.w) A (getMethod (.ref a) m pl) Q E s:=by
 obtain⟨mA,O,r,_,_,_⟩:=E6 I.hok e;have hn:mA m=none:=D0.none_of (by rw[<-l];exact r m);exact NQ I.kIn O (c.get m) k.at_ k.fn hn h
theorem Kj{Q:Unit->Shared->Prop}(I:AO X pins σ H s)(e:H a=some (.ins C dx fs))(c:NT X.K C)(n:D5 X.K C f)(hl:fs.length<1000)(ry:Ao y u)
  (h:∀s',AO X pins σ (Ad H a (.ins C dx (Ef f y fs))) s'->Q () s'):wpAny (model X.prog X.w) A (setAttr (.ref a) f u) Q E s:=by
 obtain⟨mA,O,r,wi,_,ho⟩:=E6 I.hok e;have hz:(fs.map (·.1)).length<=sizeLine:=by rw[WD,sizeLine_eq];lia
 refine O5 I.kIn O c.sa c.po n.taker c.hd wi hz λh' O' sb=>h _ ?_
 have hd:∃o,h'.get? dx=some o:=let ⟨o,_,_,e',_⟩:=O'.ns;⟨o,e'⟩;refine I.write (x:=a) (e:=dx) (by rw[e];exact True.intro) (.inr ho) (λb q hb z=>(sb.2 b hb).trans z) hd ?_;refine⟨by rw[AI O.ne];exact ho,?_,O.ne,O'.obj,_,O'.ns,λg=>?_,λg hg=>?_⟩
 ·have:=F1 f y fs;lia
 ·show D0 ((Ef f y fs).lookup g) (if g=f then some u else mA g);rw[F0]
  by_cases q:g=f
  ·rw[if_pos q,if_pos q];exact ry
  ·rw[if_neg q,if_neg q];exact r g
 ·by_cases q:g=f
  ·rw[q];exact (Fc f y fs).1
  ·refine (Fc f y fs).2 g (wi g λz=>hg ?_);show (if g=f then some u else mA g)=none;rw[if_neg q];exact z
theorem AO.made(I:AO X pins σ H s):AO X pins σ (Ad (Ad H s.heap.objs.size (.own (s.heap.objs.size+1))) (s.heap.objs.size+1) (.ins C s.heap.objs.size []))
  {s with heap:=(s.heap.push PySem.W.emptyDict).push (PySem.W.instObj C s.heap.objs.size)}:=by
 have e1:(s.heap.push PySem.W.emptyDict).get? s.heap.objs.size=some PySem.W.emptyDict:=WR s.heap rfl
 have e2:((s.heap.push PySem.W.emptyDict).push (PySem.W.instObj C s.heap.objs.size)).get? (s.heap.objs.size+1)=some (PySem.W.instObj C s.heap.objs.size):=by
  have:=WR (s.heap.push PySem.W.emptyDict) (o:=PySem.W.instObj C s.heap.objs.size) rfl
  rwa [Ww]at this
 have e3:(s.heap.push PySem.W.emptyDict).Ns s.heap.objs.size (λ_=>none):=⟨PySem.W.emptyDict,#[],_,e1,rfl,(λe he=>absurd he (by simp)),λ_=>rfl⟩;have I1:=I.laid (a:=s.heap.objs.size) (o:=.own (s.heap.objs.size+1)) (h':=s.heap.push PySem.W.emptyDict) (t':=s.toks) (λb u q=>WG _ q) (WM _) ⟨_,e1⟩;refine I1.laid (a:=s.heap.objs.size+1) (o:=.ins C s.heap.objs.size []) (t':=s.toks) (λb u q=>WG _ q) (Nat.le_of_eq (Ww _ _)) ?_;have ne:s.heap.objs.size≠s.heap.objs.size+1:=Wj (W8 _);refine⟨by rw[AI ne,AC],XX _,ne,e2,λ_=>none,(Heap.Ns1.of_empty e3).at λo q=>WG _ q,λ_=>True.intro,λy hy=>absurd rfl hy⟩
theorem O6{prog:Program}{w:World}{env:Env}{e:Expr}{f:Str}(hb:attributeBase e f env (eval e env)=eval e env)
  (h:wpAny (model prog w) A (eval e env) (λo s₁=>wpAny (model prog w) A (getAttr o f true) Q E s₁) E s):wpAny (model prog w) A (eval (.Attribute e f pos) env) Q E s:=
 Attribute_any_ h (by rw[arm_eval_Attribute,hb])
end
def VF(K:PySem.W.Frag)(ta:TE)(f:Str):TE:=λσ H Q=>ta σ H λx H1=>∃a C dx fs v,x=.ref a/\H1 a=some (.ins C dx fs)/\NT K C/\D5 K C f/\fs.lookup f=some v/\Q v H1
def VG(K:PySem.W.Frag)(ta tv:TE)(f:Str):TS:=λD σ H=>tv σ H λy H1=>ta σ H1 λx H2=>∃a C dx fs,x=.ref a/\H2 a=some (.ins C dx fs)/\NT K C/\D5 K C f/\fs.length<1000 /\
 D.nx σ (Ad H2 a (.ins C dx (Ef f y fs)))
section
variable{o e value:Expr}{f:Str}{pos' tpos:Pos}{ta tv:TE}
theorem Ge(he:PE X e ta)(hb:attributeBase e f X.env (eval e X.env)=eval e X.env):PE X (.Attribute e f pos) (VF X.K ta f):=by intro pins s σ H Q I h;refine O6 hb (BJ (he pins s σ H _ I h) λu s1 z9=>?_);obtain⟨x,H1,I1,rx,a,C,dx,fs,v,ex,ea,c,n,l,q⟩:=z9;subst ex;obtain rfl:u=Value.ref a:=rx;exact Ki I1 ea c n l λu' s2 I2 ru=>⟨v,H1,I2,ru,q⟩
theorem NU(ha:PE X o ta)(hv:PE X value tv)(hs:swapsWith value (some (.Attribute o f pos')) pos.line X.env=pure false):PS X (.Assign [.Attribute o f pos'] value pos) (VG X.K ta tv f):=by intro pins s σ H D I h;refine plainObj_wpAny_Assign_Attribute (BJ (hv pins s σ H _ I h) λu s1 ⟨y,H1,I1,ry,q⟩=>BJ (ha pins s1 σ H1 _ I1 q) λov s2 z9=>?_) hs;obtain⟨x,H2,I2,rx,a,C,dx,fs,ex,ea,c,n,l,q2⟩:=z9;subst ex;obtain rfl:ov=Value.ref a:=rx;exact Kj I2 ea c n l ry λs3 I3=>⟨σ,_,I3,q2⟩
end
section
variable{A:Around}{c:Value}{b:Bool}
inductive Fd(K:PySem.W.Frag)(H:Hp):V->Value->Prop where
 |non:Fd K H .non (.type "NoneType")
 |bl (x:Bool):Fd K H (.bl x) (.type "bool")
 |int (i:Int):Fd K H (.int i) (.type "int")
 |str (x:Str):Fd K H (.str x) (.type "str")
 |flt (x:UInt64):Fd K H (.flt x) (.type "float")
 |lst {a:Addr} {xs:List V} (e:H a=some (.lst xs)):Fd K H (.ref a) (.type "list")
 |frz {a:Addr} {o:Obj} {xs:List V} (e:H a=some (.frz o (.lst xs))):Fd K H (.ref a) (.type "list")
 |tup {a:Addr} {xs:List V} (e:H a=some (.tup xs)):Fd K H (.ref a) (.type "tuple")
 |dK {a:Addr} {kvs:List (CF×V)} (e:H a=some (.dK kvs)):Fd K H (.ref a) (.type "dict")
 |dT {a:Addr} {kvs:List (List CF×V)} (e:H a=some (.dT kvs)):Fd K H (.ref a) (.type "dict")
 |ins {a C dx:Addr} {fs:List (Str×V)} (e:H a=some (.ins C dx fs)) (cl:NT K C) (ha:PySem.W.findIn K (.ref C) "__class__"=some (some (.builtin "object.__class__")))
   (hn:PySem.W.specialIn K (.builtin "object.__class__") "__get__"=some (some (.builtin "getset_descriptor.__get__"))) (htk:PySem.W.takesIn K (.builtin "object.__class__")=some true)
   (hm:PySem.W.mroIn K C (.type "object")=some true):Fd K H (.ref a) (.ref C)
theorem MQ{x:V}{t:Value}(I:AO X pins σ H s)(rx:Ao x u)(ty:Fd X.K H x t)(e:PySem.W.kitOne X.K t c=some b)(h:∀tk,Q (.bool b) {s with toks:=tk}):
  wpAny (model X.prog X.w) A (call (.builtin "isinstance") [u,c]) Q E s:=by
 cases ty with
 |non=>cases (show u=Value.none from rx);exact W1 PySem.W.kitx_none I.kIn True.intro e (λz=>nomatch z) h
 |bl y=>cases (show u=Value.bool y from rx);exact W1 PySem.W.kitx_bool I.kIn True.intro e (λz=>nomatch z) h
 |int i=>obtain⟨t,q⟩:=(show ∃t,u=Value.int i t from rx);cases q;exact W1 PySem.W.kitx_int I.kIn True.intro e (λz=>nomatch z) h
 |str y=>obtain⟨t,q⟩:=(show ∃t,u=Value.str y t from rx);cases q;exact W1 PySem.W.kitx_str I.kIn True.intro e (λz=>nomatch z) h
 |flt y=>obtain⟨t,q⟩:=(show ∃t,u=Value.float y t from rx);cases q;exact W1 PySem.W.kitx_float I.kIn True.intro e (λz=>nomatch z) h
 | @lst a xs ea =>
  cases (show u=Value.ref a from rx);obtain⟨_,_,n,_,h1⟩:=(show As X.prog X.w H s.heap a (.lst xs) from I.hok a _ ea);exact W1 YK I.kIn ⟨_,h1,rfl⟩ e (λz=>nomatch z) h
 | @frz a ob xs ea =>
  cases (show u=Value.ref a from rx);obtain⟨_,_,_,n,_,h1⟩:=(show As X.prog X.w H s.heap a (.frz ob (.lst xs)) from I.hok a _ ea);exact W1 YK I.kIn ⟨_,h1,rfl⟩ e (λz=>nomatch z) h
 | @tup a xs ea =>
  cases (show u=Value.ref a from rx);obtain⟨_,_,_,p⟩:=(show As X.prog X.w H s.heap a (.tup xs) from I.hok a _ ea);obtain⟨o,h1,h2,_⟩:=p;exact W1 PySem.W.kitx_tuple I.kIn ⟨o,h1,h2⟩ e (λz=>nomatch z) h
 | @dK a kvs ea =>
  cases (show u=Value.ref a from rx);obtain⟨_,_,vs,_,p⟩:=(show As X.prog X.w H s.heap a (.dK kvs) from I.hok a _ ea);obtain⟨o,es,ep,h1,h2,_⟩:=p;exact W1 YL I.kIn ⟨o,h1,h2.1⟩ e (λz=>nomatch z) h
 | @dT a kvs ea =>
  cases (show u=Value.ref a from rx);obtain⟨_,_,xs,_,o,es,ep,h1,h2,_⟩:=(show As X.prog X.w H s.heap a (.dT kvs) from I.hok a _ ea);exact W1 YL I.kIn ⟨o,h1,h2.1⟩ e (λz=>nomatch z) h
 | @ins a C dx fs ea cl ha hn htk hm =>
  cases (show u=Value.ref a from rx);obtain⟨mA,O,_⟩:=E6 I.hok ea;obtain⟨od,J,_⟩:=O.look;exact W1 (PySem.W.kitx_own (cl.get _) cl.hd ha hn htk hm) I.kIn J e (λz=>nomatch z) h
end
structure BU(k:Nat)(A:Around):Prop where
 hd:A.handled=none
 dp:A.depth+3*k+5<recursionLimit
 un:A.units+16*k+200<cLine
theorem BU.mono{k:Nat}{A:Around}(r:BU k A)(h:j<=k):BU j A:=⟨r.hd,by have:=r.dp;lia,by have:=r.un;lia⟩
theorem BU.deeper{k:Nat}{A:Around}(r:BU (k+1) A)(env:Env):BU k (A.deeper env):=
 ⟨r.hd,by have:=r.dp;show A.depth+1+3*k+5<_;lia,by have:=r.un;show A.units+3+16*k+200<_;lia⟩
theorem Kk{A:Around}:(A.under (.builtin "type.__call__" ⟨.ref C::us,kw⟩)).depth=A.depth+1:=by
 first|rfl|simp[Around.under,Code.weight,Code.isCreation,Code.isGuard,Code.isCaller,Code.frames,Code.isFrame,guardIds]
theorem Kl{A:Around}:(A.under (.builtin "type.__call__" ⟨.ref C::us,kw⟩)).units=A.units+1:=by
 first|rfl|simp[Around.under,Code.cUnits,Code.frames,Code.isFrame]
theorem BU.make{k:Nat}{A:Around}(r:BU (k+1) A)(C:Addr)(us:List Value)(kw:List (Str×Value)):BU k (A.under (.builtin "type.__call__" ⟨.ref C::us,kw⟩)):=
 ⟨r.hd,by have:=r.dp;rw[Kk];lia,by have:=r.un;rw[Kl];lia⟩
theorem BU.depth{k:Nat}{A:Around}(r:BU k A):A.depth<recursionLimit:=by have:=r.dp;lia
theorem BU.units{k:Nat}{A:Around}(r:BU k A):A.units+64<cLine:=by have:=r.un;lia
def Ct:TA:=λ_ H Q=>Q [] H
def BE(ta:TE)(tr:TA):TA:=λσ H Q=>ta σ H λx H1=>tr σ H1 λxs H2=>Q (x::xs) H2
section
variable{e:Expr}{t:TA}
theorem AB:PA X [] Ct:=λ_ _ _ _ H Q I h=>Calls.spliced_nil ⟨[],H,I,.nil,h⟩
theorem AA(ha:PE X e te)(hr:PA X es t)(hs:starEach (e::es) X.env=(false,eval e X.env)::starEach es X.env:=by rfl):PA X (e::es) (BE te t):=by intro pos pins s σ H Q I h;rw[hs];show wpAny _ _ (spliced ((false,eval e X.env)::backTo pos (starEach es X.env))) _ _ s;refine Calls.spliced_cons (BJ (ha pins s σ H _ I h) λu s1 z9=>?_);obtain⟨x,H1,I1,r1,q1⟩:=z9;exact BJ (hr pos pins s1 σ H1 _ I1 q1) λus s2 ⟨xs,H2,I2,r2,q2⟩=>⟨x::xs,H2,I2,.cons r1 r2,q2⟩
def E7(t:TA):TE:=λσ H Q=>t σ H λxs H1=>xs.length<=sizeLine/\∀p,H1 p=none->Q (.ref p) (Ad H1 p (.tup xs))
def O7(t:TA):TE:=λσ H Q=>t σ H λxs H1=>xs.length<=sizeLine/\∀p,H1 p=none->Q (.ref p) (Ad H1 p (.lst xs))
theorem Dh{x1}(h:PA X es t):PE X (.Tuple es x1 pos) (E7 t):=by intro pins s σ H Q I hq;refine wpAny_Tuple_spliced (BJ (h pos pins s σ H _ I hq) λus s1 ⟨xs,H1,I1,r,z,q⟩=>⟨by rw[<-r.length];exact z,?_⟩);have hf:H1 s1.heap.objs.size=none:=I1.hok.fresh (WM _);refine⟨.ref s1.heap.objs.size,Ad H1 s1.heap.objs.size (.tup xs),I1.laid (t':=s1.toks) (λb u e=>WG _ e) (WM _) ?_,rfl,q _ hf⟩;exact⟨z,us,r,⟨_,WR _ rfl,rfl,_,rfl⟩⟩
theorem BB(h:PA X es t):PE X (.List es pos) (O7 t):=by intro pins s σ H Q I hq;refine wpAny_List_spliced (BJ (h pos pins s σ H _ I hq) λus s1 ⟨xs,H1,I1,r,z,q⟩=>⟨by rw[<-r.length];exact z,?_⟩);have hf:H1 s1.heap.objs.size=none:=I1.hok.fresh (WM _);refine⟨.ref s1.heap.objs.size,Ad H1 s1.heap.objs.size (.lst xs),I1.laid (t':=s1.toks) (λb u e=>WG _ e) (WM _) ?_,rfl,q _ hf⟩;exact⟨z,us,0,r,WR _ rfl⟩
end
abbrev Sp:=List V->Hp->VK->XK->Prop
abbrev NC:=List Env->Hp->Shared->XK->Value->Shared->Prop
structure JW(P:Program)(w:World)(K:PySem.W.Frag)(mg:Str->Option Value)(base:Heap)(A:Around)(outer:List Env)(s:Shared)(H:Hp):Prop where
 frames:A.frames=some outer
 mod:Uy K mg base
 bs:∀b o,base.get? b=some o->s.heap.get? b=some o/\H b=none
 bsz:base.objs.size<=s.heap.objs.size
 funs:s.heap.FunFrames base outer
 frf:∀b∈CZ outer,H b=none
 hok:DR P w H s.heap
 bare:AllBare s.gens
def CE(outer:List Env)(P:Program)(w:World)(H:Hp)(s:Shared)(Q:VK)(u:Value)(s':Shared):Prop:=
 ∃v H',s'.os=s.os/\AllBare s'.gens/\Un (CZ outer) [] H H' s.heap s'.heap/\DR P w H' s'.heap/\Ao v u/\Q v H'
def CR(CX:NC)(outer:List Env)(P:Program)(w:World)(H:Hp)(s:Shared)(Q:VK)(E:XK)(r:Result)(s':Shared):Prop:=
 match r with
 |.ok (.ret u)=>CE outer P w H s Q u s'
 |.ok _=>False
 |.error e=>CX outer H s E e s'
structure Di(P:Program)(w:World)(K:PySem.W.Frag)(mg:Str->Option Value)(base:Heap)(CX:NC)(k:Nat)(f:Addr)(fd:FuncData)(ps:List Str)(sp:Sp):Prop where
 len:∀vs H Q E,sp vs H Q E->vs.length=ps.length
 run:∀(A:Around) (outer:List Env) (s:Shared) (H:Hp) (args:Args) (us:List Value) (vs:List V) (Q:VK) (E:XK),BU k A->JW P w K mg base A outer s H->BindsTo s fd args (ps.zip us)->Am vs us->sp vs H Q E ->
  codeAny (model P w) A (.call (.ref f) args) (CR CX outer P w H s Q E) s
theorem JW.make{P:Program}{w:World}{K:PySem.W.Frag}{mg:Str->Option Value}{base:Heap}{A:Around}{outer:List Env}(e:JW P w K mg base A outer s H)(C:Addr)(us:List Value)(kw:List (Str×Value)):
  JW P w K mg base (A.under (.builtin "type.__call__" ⟨.ref C::us,kw⟩)) outer s H:=⟨by first|exact e.frames|(simpa [Around.under,Code.envs,Code.isFrame,pushEnvs] using e.frames),e.mod,e.bs,e.bsz,e.funs,e.frf,e.hok,e.bare⟩
theorem AO.env0(I:AO X pins σ H s):JW X.prog X.w X.K X.mg X.base X.A X.stack s H:=
 ⟨I.ok.frames,I.ok.mod,I.bs,Wm I.ok.bsz I.sz,I.stack,I.stkFree,I.hok,I.bare⟩
theorem AO.after{Q:VK}(I:AO X pins σ H s)(h:CE X.stack X.prog X.w H s Q u s'):EP X pins σ Q u s':=by obtain⟨v,H',os,bare,un,hok,r,q⟩:=h;obtain⟨hh,g,d,t,os'⟩:=s';obtain rfl:os'=s.os:=os;exact⟨v,H',I.call (h':=hh) (g':=g) (d':=d) (t':=t) (ch:=[]) un hok bare (λb z=>absurd z (by simp)),r,q⟩
def QE(C:Addr)(sp:Sp)(dvs:List V)(E:XK)(t:TA):TE:=λσ H Q=>t σ H λvs H1=>∀x dx,H1 x=none->H1 dx=none->dx≠x ->
 sp (.ref x::(vs++dvs)) (Ad (Ad H1 dx (.own x)) x (.ins C dx [])) (λv H2=>v=.non/\Q (.ref x) H2) E
def C7(K:PySem.W.Frag)(fd:FuncData)(ps:List Str)(ds:List Value):Prop:=
 ∀(s:Shared) (us:List Value),K.In s.heap->(us++ds).length=ps.length->BindsTo s fd ⟨us,[]⟩ (ps.zip (us++ds))
variable{fd:FuncData}{ps:List Str}
theorem C7.all{K:PySem.W.Frag}(h:∀us:List Value,us.length=ps.length->bindArgs fd ⟨us,[]⟩=pure (ps.zip us)):C7 K fd ps []:=λs us _ hl=>by rw[W6]at hl⊢;exact .of_eq (h us hl)
def Km(CX:NC)(X:Cx)(E:XK):Prop:=∀(pins:List (Addr×Obj)) (σ:St) (H:Hp) (s:Shared) (e:Value) (s':Shared),AO X pins σ H s->CX X.stack H s E e s'->X.xe e s'
section
variable{CX:NC}{k:Nat}{f:Addr}{sp:Sp}{dvs:List V}{ds:List Value}{E:XK}{m:Str}{p apos:Pos}{e o:Expr}{ta:TE}{t:TA}
structure Mk(K:PySem.W.Frag)(C f:Addr):Prop where
 makes:PySem.W.makesIn K C=true
 init:PySem.W.findIn K (.ref C) "__init__"=some (some (.ref f))
 fn:PySem.W.isFn K (.ref f)=true
 kp:PySem.W.keepIn K (.ref C)=true
theorem NV{Q:VK}{vs:List V}(M:Mk X.K C f)(F:Di X.prog X.w X.K X.mg X.base CX k f fd ps sp)(hr:BU (k+1) X.A)(hb:C7 X.K fd ps ds)(hd:Am dvs ds)
  (hx:Km CX X E) (I:AO X pins σ H s) (r:Am vs us)
  (h:∀x dx,H x=none->H dx=none->dx≠x->sp (.ref x::(vs++dvs)) (Ad (Ad H dx (.own x)) x (.ins C dx [])) (λv H2=>v=.non/\Q (.ref x) H2) E):
  wpAny (model X.prog X.w) X.A (call (.ref C) us) (EP X pins σ Q) X.xe s:=by
 have hq:=h (s.heap.objs.size+1) s.heap.objs.size (I.hok.fresh (Xi _)) (I.hok.fresh (WM _)) (Wj (W8 _));have I2:=AO.made (C:=C) I;have r2:Am (V.ref (s.heap.objs.size+1)::(vs++dvs)) (Value.ref (s.heap.objs.size+1)::(us++ds)):=.cons rfl (r.append hd)
 have hl:(Value.ref (s.heap.objs.size+1)::us++ds).length=ps.length:=by have e:=r2.length;rw[F.len _ _ _ _ hq]at e;exact e.symm
 refine wpAny_call (NR (f:=f) I.kIn M.makes M.init (beq_iff_eq.mp M.fn) (codeAny_mono (F.run _ X.stack _ _ ⟨Value.ref (s.heap.objs.size+1)::us,[]⟩ (Value.ref (s.heap.objs.size+1)::(us++ds)) _ _ E (hr.make C us [])
  (I2.env0.make C us []) (hb _ (Value.ref (s.heap.objs.size+1)::us) I2.kIn hl) r2 hq) λr s' hq'=>?_))
 cases r with
 |error e=>exact hx pins σ _ _ e s' I2 hq'
 |ok fl =>
  cases fl with
  |ret u =>
   obtain⟨v,H',I3,rv,ev,q3⟩:=I2.after hq';subst ev;exact⟨rv,⟨V.ref (s.heap.objs.size+1),H',I3,rfl,q3⟩⟩
  |next=>exact False.elim hq'
  |brk=>exact False.elim hq'
  |cont=>exact False.elim hq'
theorem O8(M:Mk X.K C f)(F:Di X.prog X.w X.K X.mg X.base CX k f fd ps sp)(hr:BU (k+1) X.A)(hg:Gl X x)(hm:X.mg x=some (.ref C))(hb:C7 X.K fd ps ds)(hd:Am dvs ds)(hx:Km CX X E)
  (ha:PA X (e::es) t) (hdb:(x==("__debug__":Str))=false:=by decide) (he:starEach (e::es) X.env=(false,eval e X.env)::starEach es X.env:=by rfl) (hpl:(backTo pos (starEach es X.env)).any (·.1)=false:=by rfl):
  PE X (.Call (.Name x p) (e::es) [] pos) (QE C sp dvs E t):=by
 intro pins s σ H Q I h;refine wpAny_Call_Name_kw (C6 I hg hm ?_ hdb);refine Xq (h₀:=X.base) I.ok.mod.kin M.kp (BJ (ha pos pins s σ H _ I h) λus s1 ⟨vs,H1,I1,r,q⟩=>⟨I1.kIn,?_⟩) he hpl;exact NV M F hr hb hd hx I1 r q
end
structure AK(N P:List Str)(sc:Scope):Prop where
 kind:sc.kind=.function
 co:sc.isCoroutine=false
 gen:sc.isGenerator=false
 nd:N.Nodup
 pre:N.take P.length=P
 par:∀x∈P,sc.names.lookup x=some .local\/sc.names.lookup x=some .cell
 nofree:∀y∈sc.names,y.2≠.free
variable{kindOf:Str->Option NameKind}
theorem Ht:∀{binds:List (Str×Value)} {m:Str->Option Value},(∀v,(x,v)∉binds)->bindL kindOf binds m x=m x
 |[],_,_=>rfl
 | (n,v)::r,m,h=>by
  unfold bindL;rw[Ht λw hw=>h w (WW _ hw)];split
  ·have:x≠n:=by rintro rfl;exact h v Wh
   simp[this]
  ·rfl
theorem Hu:∀{binds:List (Str×Value)} {m:Str->Option Value},(∀v,(x,v)∉binds)->bindC kindOf binds m x=m x
 |[],_,_=>rfl
 | (n,v)::r,m,h=>by
  unfold bindC;rw[Hu λw hw=>h w (WW _ hw)];split
  ·rfl
  ·have:x≠n:=by rintro rfl;exact h v Wh
   simp[this]
theorem Fe{v:Value}:∀{P:List Str} {vs:List Value} {i:Nat} {m:Str->Option Value},P.Nodup->P[i]?=some x->vs[i]?=some v->kindOf x=some .local ->
  bindL kindOf (P.zip vs) m x=some v
 |[],_,_,_,_,h,_,_=>by simp at h
 |_::_,[],_,_,_,_,h,_=>by simp at h
 |p::P,w::vs,0,m,nd,h1,h2,hk=>by simp at h1 h2;subst h1;subst h2;show bindL kindOf ((p,w)::P.zip vs) m p=_;unfold bindL;rw[Ht λv hv=>(Wt.mp nd).1 (YE hv).1,if_pos hk];simp
 |p::P,w::vs,i+1,m,nd,h1,h2,hk=>by show bindL kindOf ((p,w)::P.zip vs) m x=_;unfold bindL;exact Fe (i:=i) (List.nodup_cons.mp nd).2 (by simpa using h1) (by simpa using h2) hk
theorem Ff{v:Value}:∀{P:List Str} {vs:List Value} {i:Nat} {m:Str->Option Value},P.Nodup->P[i]?=some x->vs[i]?=some v->kindOf x≠some .local ->
  bindC kindOf (P.zip vs) m x=some v
 |[],_,_,_,_,h,_,_=>by simp at h
 |_::_,[],_,_,_,_,h,_=>by simp at h
 |p::P,w::vs,0,m,nd,h1,h2,hk=>by simp at h1 h2;subst h1;subst h2;show bindC kindOf ((p,w)::P.zip vs) m p=_;unfold bindC;rw[Hu λv hv=>(Wt.mp nd).1 (YE hv).1,if_neg hk];simp
 |p::P,w::vs,i+1,m,nd,h1,h2,hk=>by show bindC kindOf ((p,w)::P.zip vs) m x=_;unfold bindC;exact Ff (i:=i) (List.nodup_cons.mp nd).2 (by simpa using h1) (by simpa using h2) hk
def CV(N:List Str)(vs:List V):St:=vs.map some++List.replicate (N.length-vs.length) none
def DI(CX:NC)(P:Program)(w:World)(K:PySem.W.Frag)(mg:Str->Option Value)(base:Heap)(N:List Str)(qual:Str)(scope:Scope)(f:Addr)(cd:Value)(A:Around)(outer:List Env)(s:Shared)(H:Hp)(E:XK):Cx where
 prog:=P
 w:=w
 K:=K
 mg:=mg
 base:=base
 A:=A.deeper (envOfC qual scope s.heap.objs.size f cd)
 N:=N
 s₀:=s
 H₀:=H
 env:=envOfC qual scope s.heap.objs.size f cd
 outer:=outer
 stack:=envOfC qual scope s.heap.objs.size f cd::outer
 ex:=[]
 calm:=true
 fn:=λ_=>true
 pn:=[]
 xe:=λe s'=>wpAny (model P w) (A.deeper (envOfC qual scope s.heap.objs.size f cd)) (leaving (envOfC qual scope s.heap.objs.size f cd) e) (λ_ s''=>CX outer H s E e s'') (λe' s''=>CX outer H s E e' s'') s'
theorem E8{sc:Scope}{n:Nat}(h:sc.names.lookup x=some .cell):∃c,(cellsFrom n sc.names []).lookup x=some c:=by have q:=YJ sc.names n [] (.inl h);exact X8.mp q
variable{f:Addr}{CX:NC}{qual:Str}{scope:Scope}
theorem MR{P:Program}{w:World}{K:PySem.W.Frag}{mg:Str->Option Value}{base:Heap}{N:List Str}{cd:Value}{A:Around}{outer:List Env}{s1:Shared}{E:XK}{vs:List V}
  (S:AK N ps scope) (hd:A.handled=none) (e0:JW P w K mg base A outer s H) (hl:vs.length=ps.length) (r:Am vs us)
  (x:InCallC s s.heap.objs.size (bindL (envOfC qual scope s.heap.objs.size f cd).kindOf (ps.zip us) λ_=>none) (cellsFrom (s.heap.objs.size+1) scope.names []) (bindC (envOfC qual scope s.heap.objs.size f cd).kindOf (ps.zip us) λ_=>none) s1):
  AO (DI CX P w K mg base N qual scope f cd A outer s H E) [] (CV N vs) H s1:=by
 have hpl:ps.length<=N.length:=by have:=congrArg List.length S.pre;rw[Wp]at this;lia
 obtain⟨h1,tk,rfl,hk⟩:=x.done;have noA:∀b:Addr,b∉(DI CX P w K mg base N qual scope f cd A outer s H E).ex:=λb z=>absurd (show b∈([]:List Addr) from z) (by simp)
 refine⟨⟨e0.mod,S.kind,rfl,rfl,WM _,λy z c h1 h2=>?_,λy hy=>?_,λy c _ h=>?_,λ_=>hd,Around.frames_deeper e0.frames,.inr ⟨rfl,rfl⟩,λb z=>absurd z (noA b),e0.bs,e0.bsz,λb _ _=>noA b,λb z=>absurd z (noA b),e0.funs,e0.frf⟩,
  rfl,e0.bare,Un.kept hk,⟨_,x.toInCall.ns,λi y v h1 h2 h3=>?_⟩,λy c h=>⟨_,x.cell y c h⟩,e0.hok.fresh (Nat.le_refl _),λy c h=>?_,λp hp=>absurd (show p∈([]:List (Addr×Obj)) from hp) (by simp),e0.hok.kept hk,?_⟩
 ·exact name_of_addr x.apart (Wq h1) (Wq h2)
 ·have hy:scope.names.lookup y=some .cell\/scope.names.lookup y=some .free:=hy;rcases hy with hy|hy
  ·exact E8 hy
  ·exact absurd rfl (S.nofree _ (Wq hy))
 ·exact Xc (x.above y c (Wq h))
 ·have hi:i<vs.length:=by
   unfold CV at h2
   by_cases hi:i<vs.length
   ·exact hi
   ·rw[List.getElem?_append_right (by simpa using hi)]at h2;rw[Xj]at h2
    split at h2<;>cases h2
  have ha:vs[i]?=some v:=by
   unfold CV at h2;rw[List.getElem?_append_left (by simpa using hi),List.getElem?_map]at h2;cases e:vs[i]? with
   |none=>rw[e]at h2;cases h2
   |some a=>rw[e]at h2;cases h2;rfl
  obtain⟨u,hu,rv⟩:=r.get ha
  have hp:ps[i]?=some y:=by rw[<-S.pre,List.getElem?_take_of_lt (by lia)];exact h1
  have ndP:ps.Nodup:=by rw[<-S.pre];exact S.nd.sublist (List.take_sublist _ _)
  refine⟨u,rv,?_⟩;rcases S.par y (WQ hp) with k|k
  ·exact .inl ⟨k,Fe ndP hp hu k⟩
  ·obtain⟨c,e⟩:=E8 (n:=s.heap.objs.size+1) k;refine .inr ⟨.inl k,c,e,?_⟩;have q:=x.cell y c e;rw[Ff ndP hp hu (by show scope.names.lookup y≠_;rw[k];decide)]at q;exact q
 ·exact e0.hok.fresh (Xc (x.above y c (Wq h)))
 ·unfold CV;show _=N.length;rw[WI,WD,List.length_replicate];lia
variable{name:Str}{params:Arguments}{doc pm cdv oc:Value}{an od:Option Addr}
theorem QF{P:Program}{w:World}{K:PySem.W.Frag}{mg:Str->Option Value}{base:Heap}{k:Nat}{dV kV ct:Value}
  {osl:Array (Option Value)} {N ps:List Str} {sp:Sp} (lk:K.lookup f=some ⟨oc,od,.func (PySem.W.fnOf name qual params body scope dV kV doc pm an cdv ct),osl⟩) (hcd:PySem.W.codeIn K cdv qual=true) (S:AK N ps scope)
  (len:∀vs H Q E,sp vs H Q E->vs.length=ps.length)
  (hbody:∀(A:Around) (outer:List Env) (s:Shared) (H:Hp) (vs:List V) (Q:VK) (E:XK),BU k (A.deeper (envOfC qual scope s.heap.objs.size f cdv))->sp vs H Q E ->
   ∃t,Fy (DI CX P w K mg base N qual scope f cdv A outer s H E) body t/\t {nx:=λ_ H'=>Q .non H',rt:=Q} (CV N vs) H):
  Di P w K mg base CX (k+1) f (PySem.W.fnOf name qual params body scope dV kV doc pm an cdv ct) ps sp:=by
 refine⟨len,λA outer s H args us vs Q E hr e0 hb r hsp=>?_⟩;have hl:=len _ _ _ _ hsp;have KX:K.In s.heap:=e0.mod.kin.keeps λb o e=>(e0.bs b o e).1
 have lim:s.heap.NoLimit:=e0.mod.nolimit.keeps λb o e=>(e0.bs b o e).1
 have hkind:∀y∈ps.zip us,scope.names.lookup y.1=some .local\/(scope.names.lookup y.1=some .cell/\((cellsFrom (s.heap.objs.size+1) scope.names []).lookup y.1).isSome=true):=λ⟨n,v⟩ hy=>by
  rcases S.par n (YE hy).1 with q|q
  ·exact .inl q
  ·exact .inr ⟨q,YJ _ _ _ (.inl q)⟩
 refine codeAny_call_function hr.depth (KX _ _ lk) rfl S.co S.gen rfl (PySem.W.codeRec_of KX hcd) (hb _ _ _ _ ?_);refine wpAny_newFunctionEnv_cells S.kind hkind λenv he s1 x=>?_;subst he;refine⟨lim.keeps x.toInCall.keep,codeAny_func ?_⟩;obtain⟨t,ht,hq⟩:=hbody A outer s H vs Q E (hr.deeper _) hsp;have I:AO (DI CX P w K mg base N qual scope f cdv A outer s H E) [] (CV N vs) H s1:=MR S hr.hd e0 hl r x;refine wpAny_mono (ht [] s1 (CV N vs) H _ I hq) (λfl s' hs=>?_) λe s' hs=>hs
 have fin:∀{σ':St} {H':Hp} {v:V} {u:Value},AO (DI CX P w K mg base N qual scope f cdv A outer s H E) [] σ' H' s'->Ao v u->Q v H'->CE outer P w H s Q u s':=
  λ{σ' H' v u} J rv q=>⟨v,H',J.os,J.bare,J.base,J.hok,rv,q⟩
 cases fl with
 |ret u =>
  obtain⟨v,σ',H',J,rv,q⟩:=hs;exact fin J rv q
 |next =>
  obtain⟨σ',H',J,q⟩:=hs;exact fin (v:=V.non) (u:=Value.none) J rfl q
 |brk =>
  obtain⟨_,_,_,q⟩:=hs;exact False.elim q
 |cont =>
  obtain⟨_,_,_,q⟩:=hs;exact False.elim q
section
variable{p:Pos}{e:Expr}{t:TA}{id T:String}{r:List V->Hp->VK->Prop}
def Sz(r:List V->Hp->VK->Prop)(t:TA):TE:=λσ H Q=>t σ H λvs H1=>r vs H1 Q
theorem AU(hc:DT X (.builtin id) r)(hg:Gl X x)(hm:X.mg x=none)(hv:bootBuiltins x=some (.builtin id))(ha:PA X (e::es) t)(hn:x≠"__name__":=by decide)(hdb:(x==("__debug__":Str))=false:=by decide)
  (he:starEach (e::es) X.env=(false,eval e X.env)::starEach es X.env:=by rfl) (hpl:(backTo pos (starEach es X.env)).any (·.1)=false:=by rfl):PE X (.Call (.Name x p) (e::es) [] pos) (Sz r t):=by
 intro pins s σ H Q I h;refine wpAny_Call_Name_kw (Cp I hg hm hv ?_ hn hdb);exact PyProof.Rows.callWith_builtin1 (BJ (ha pos pins s σ H _ I h) λus s1 ⟨vs,H1,I1,r1,q1⟩=>hc pins s1 σ H1 vs us Q I1 r1 q1) he hpl
theorem BS(hc:DT X (.type T) r)(hg:Gl X x)(hm:X.mg x=none)(hv:bootBuiltins x=some (.type T))(ha:PA X (e::es) t)(hn:x≠"__name__":=by decide)(hdb:(x==("__debug__":Str))=false:=by decide)
  (he:starEach (e::es) X.env=(false,eval e X.env)::starEach es X.env:=by rfl) (hpl:(backTo pos (starEach es X.env)).any (·.1)=false:=by rfl):PE X (.Call (.Name x p) (e::es) [] pos) (Sz r t):=by
 intro pins s σ H Q I h;refine wpAny_Call_Name_kw (Cp I hg hm hv ?_ hn hdb);exact Wo (BJ (ha pos pins s σ H _ I h) λus s1 ⟨vs,H1,I1,r1,q1⟩=>hc pins s1 σ H1 vs us Q I1 r1 q1) he hpl
end
end L2
namespace HT
open PySem PyProof.Rows
section
variable{prog:Program}{w:World}{A:Around}{E:Value->Shared->Prop}{s:Shared}
def GG(n d:Nat):Option Int->Nat
 |none=>d
 |some v=>if v<0 then (v+(n:Int)).toNat else min v.toNat n
end
end HT
namespace L2
open PySem PySem.Spec PyProof.Rows
variable{H:Hp}{X:Cx}{b:Addr}{es:List Expr}{j t':Nat}{name:Str}{pins:List (Addr×Obj)}{pos:Pos}{s:Shared}{te:TE}{us:List Value}{xs:List V}{α:Type}{σ:St}
abbrev TO:=St->Hp->(Option Int->Hp->Prop)->Prop
def PO(X:Cx)(e:Option Expr)(t:TO):Prop:=
 ∀(pins:List (Addr×Obj)) (s:Shared) (σ:St) (H:Hp) (Q:Option Int->Hp->Prop),AO X pins σ H s->t σ H Q ->
  wpAny (model X.prog X.w) X.A (evalPart e X.env) (λu s'=>∃o H',AO X pins σ H' s'/\IsPart u o/\Q o H') X.xe s
def LZ:TO:=λ_ H Q=>Q none H
def QG(t:TE):TO:=λσ H Q=>t σ H λx H1=>∃i,x=.int i/\Q (some i) H1
theorem Dj{ns:List Int}:∀{us:List Value},Am (ns.map V.int) us->IntsAre us ns:=by
 induction ns with
 |nil=>intro us r;rw[X9]at r;cases r;exact .nil
 |cons n ns ih =>
  intro us r;rw[W0]at r;cases r with
  |cons r1 r2 =>
   obtain⟨t,e⟩:=r1;subst e;exact .cons n t (ih r2)
section
variable{e:Expr}{lo hi:Option Expr}{tl th:TO}{p2:Pos}
theorem Bm:PO X none LZ:=by intro pins s σ H Q I h;rw[evalPart_none];exact wpAny_pure ⟨none,H,I,.none,h⟩
theorem Bb(h:PE X e te):PO X (some e) (QG te):=by intro pins s σ H Q I hw;rw[evalPart_some];refine BJ (h pins s σ H _ I hw) λu s1 z9=>?_;obtain⟨x,H1,I1,r1,q1⟩:=z9;obtain⟨i,rfl,q⟩:=q1;obtain⟨t,rfl⟩:=r1;exact⟨some i,H1,I1,.int i t,q⟩
def V2(X:Cx)(r:V->Option Int->Option Int->Hp->VK->Prop):Prop:=
 ∀(pins:List (Addr×Obj)) (s:Shared) (σ:St) (H:Hp) (x:V) (v vl vu:Value) (lo hi:Option Int) (sl:Addr) (Q:VK),AO X pins σ H s->Ao x v->s.heap.IsSliceOf sl vl vu .none->IsPart vl lo->IsPart vu hi->r x lo hi H Q ->
  ∃T id,typeLookup (.type T) "__getitem__"=pure (some (.builtin id))/\s.TypeIs v T/\wpAny (model X.prog X.w) X.A (getItem v (.ref sl)) (EP X pins σ Q) X.xe s
def V3(r:V->Option Int->Option Int->Hp->VK->Prop)(te:TE)(tl th:TO):TE:=λσ H Q=>te σ H λx H1=>tl σ H1 λl H2=>th σ H2 λu H3=>r x l u H3 Q
theorem BQ{r:V->Option Int->Option Int->Hp->VK->Prop}(hr:V2 X r)(he:PE X e te)(hl:PO X lo tl)(hu:PO X hi th):PE X (.Subscript e (.Slice lo hi none p2) pos) (V3 r te tl th):=by
 intro pins s σ H Q I h;refine Subscript_ (BJ (he pins s σ H _ I h) λv s1 z9=>?_);obtain⟨x,H1,I1,r1,q1⟩:=z9;refine wpAny_Slice (BJ (hl pins s1 σ H1 _ I1 q1) λvl s2 ⟨l,H2,I2,pl,q2⟩=>BJ (hu pins s2 σ H2 _ I2 q2) λvu s3 z9=>?_);obtain⟨u,H3,I3,pu,q3⟩:=z9;rw[evalPart_none];refine wpAny_pure ?_;have I4:AO X pins σ H3 {s3 with heap:=s3.heap.push {cls:=.type "slice",data:=.fields #[vl,vu,.none]}}:=I3.kept (t':=s3.toks) λb ob q=>WG _ q
 obtain⟨T,id,hT,ht,hg⟩:=hr pins {s3 with heap:=s3.heap.push {cls:=.type "slice",data:=.fields #[vl,vu,.none]}} σ H3 x v vl vu l u s3.heap.objs.size Q I4 r1 (Heap.IsSliceOf.new ..) pl pu q3;show wpAny (model X.prog X.w) X.A (subscriptTail e (.Slice lo hi none p2) v (.ref s3.heap.objs.size)) (EP X pins σ Q) X.xe {s3 with heap:=s3.heap.push {cls:=.type "slice",data:=.fields #[vl,vu,.none]}};exact tail_any (ops:=[.ref s3.heap.objs.size,v]) ht hT hg (by with_unfolding_all rfl)
def IZ(xs:List V)(lo hi:Option Int):List V:=(xs.drop (HT.GG xs.length 0 lo)).take (HT.GG xs.length xs.length hi-HT.GG xs.length 0 lo)
theorem JX(xs:List V)(lo hi:Option Int):(IZ xs lo hi).length<=xs.length:=by unfold IZ;rw[Wp,Xl];lia
end
def JY(n:Nat)(i:Int):Option Nat:=if 0<=i then (if i<n then some i.toNat else none) else if -(n:Int)<=i then some (i+n).toNat else none
def JZ{α:Type}(xs:List α)(i:Int):Option α:=(JY xs.length i).bind λj=>xs[j]?
theorem La{n:Nat}{i:Int}(h:JY n i=some j):seqIndex? i n=some j/\j<n/\-(n:Int)<=i/\i<n:=by
 unfold JY at h
 by_cases h0:0<=i
 ·rw[if_pos h0]at h
  by_cases h1:i<n
  ·rw[if_pos h1]at h;have e:i.toNat=j:=Option.some.inj h;exact⟨by rw[seqIndex_of h0 h1,e],by lia,by lia,h1⟩
  ·rw[if_neg h1]at h;cases h
 ·rw[if_neg h0]at h
  by_cases h1:-(n:Int)<=i
  ·rw[if_pos h1]at h;have e:(i+n).toNat=j:=Option.some.inj h;exact⟨by rw[seqIndex_neg (by lia) h1,e],by lia,h1,by lia⟩
  ·rw[if_neg h1]at h;cases h
theorem Lb{xs:List α}{i:Int}{v:α}(h:JZ xs i=some v):∃j,seqIndex? i xs.length=some j/\xs[j]?=some v/\j<xs.length/\-(xs.length:Int)<=i/\i<xs.length:=by
 unfold JZ at h;cases e:JY xs.length i with
 |none=>rw[e]at h;cases h
 |some j =>
  rw[e]at h;obtain⟨h1,h2,h3,h4⟩:=La e;exact⟨j,h1,h,h2,h3,h4⟩
theorem C8{xs:List α}{v:α}(h:xs[j]?=some v):JZ xs (j:Int)=some v:=by
 have hj:j<xs.length:=(WF.mp h).1
 have e:JY xs.length (j:Int)=some j:=by unfold JY;rw[if_pos (by lia),if_pos (by lia)];simp
 unfold JZ;rw[e];exact h
def O9(b:Expr):Prop:=∀o i,subscripted b false o i=operate [o,i] (getItem o i)
def S0(X:Cx)(r:R2):Prop:=
 ∀(value slice:Expr) (pins:List (Addr×Obj)) (s:Shared) (σ:St) (H:Hp) (x y:V) (v u:Value) (Q:VK),AO X pins σ H s->Ao x v->Ao y u->r x y H Q ->
  subscripted slice false v u=operate [v,u] (getItem v u)->wpAny (model X.prog X.w) X.A (subscriptTail value slice v u) (EP X pins σ Q) X.xe s
def U0(X:Cx)(id:String)(r:V->List V->Hp->VK->Prop):Prop:=
 ∀(pins:List (Addr×Obj)) (s:Shared) (σ:St) (H:Hp) (x:V) (xs:List V) (v:Value) (us:List Value) (Q:VK),AO X pins σ H s->Ao x v->Am xs us->r x xs H Q ->
  wpAny (model X.prog X.w) X.A (call (.builtin id) (v::us)) (EP X pins σ Q) X.xe s
variable{p:Addr}{its:List Value}{T:String}
section
variable{a b:Expr}{ta tb:TE}
theorem AV{r:R2}(hr:S0 X r)(ha:PE X a ta)(hb:PE X b tb)(hs:O9 b):PE X (.Subscript a b pos) (Sv r ta tb):=by intro pins s σ H Q I h;exact Subscript_ (Qw ha hb I h λv u s2 x y H2 I2 rx ry q=>hr a b pins s2 σ H2 x y v u Q I2 rx ry q (hs _ _))
def S1(K:PySem.W.Frag):R2:=λx y H Q=>∃p xs i v,x=.ref p/\y=.int i/\Ac K H p xs/\JZ xs i=some v/\Q v H
def S2(K:PySem.W.Frag):R2:=λx y H Q=>∃p xs i v,x=.ref p/\y=.int i/\Ba K H p xs/\JZ xs i=some v/\Q v H
theorem Ay:S0 X (S1 X.K):=by
 intro value slice pins s σ H x y v u Q I rx ry h hs;obtain⟨p,xs,i,z,rfl,rfl,hq,he,q⟩:=h;cases rx;obtain⟨t,rfl⟩:=ry;obtain⟨its,r,pl,hz⟩:=I.list hq;obtain⟨j,h1,h2,h3,h4,h5⟩:=Lb he;obtain⟨w,ew,rw'⟩:=r.get h2;have hl:=r.length;have hn:=IX;have fin:EP X pins σ Q w s:=⟨z,H,I,rw',q⟩
 by_cases h0:0<=i
 ·have hj:i.toNat=j:=by
   rw[seqIndex_of h0 h5]at h1;exact Option.some.inj h1
  exact item_listR pl.isList h0 (by lia) (by rw[hj];simpa using ew) fin hs
 ·have hj:(i+(its.toArray.size:Int)).toNat=j:=by
   rw[seqIndex_neg (by lia) h4]at h1;rw[Wi,<-hl];exact Option.some.inj h1
  exact subscriptTail_builtinR (x:=w) pl.isList.typeIs slot_list_getitem.lookup
   (wpAny_getItem_list_neg (Q:=λr s'=>r=w/\EP X pins σ Q r s') pl.isList (by lia) (by rw[List.size_toArray]<;>lia) (by lia) (by rw[hj];simpa using ew) ⟨rfl,fin⟩) hs
theorem Af:S0 X (S2 X.K):=by
 intro value slice pins s σ H x y v u Q I rx ry h hs;obtain⟨p,xs,i,z,rfl,rfl,hq,he,q⟩:=h;cases rx;obtain⟨t,rfl⟩:=ry;obtain⟨its,r,pl,hz⟩:=I.tuple hq;obtain⟨j,h1,h2,h3,h4,h5⟩:=Lb he;obtain⟨w,ew,rw'⟩:=r.get h2;have hl:=r.length;have hn:=IX;have fin:EP X pins σ Q w s:=⟨z,H,I,rw',q⟩
 exact subscriptTail_builtinR (x:=w) pl.typeIs slot_tuple_getitem.lookup
  (getItem_tuple (j:=j) (Q:=λr s'=>r=w/\EP X pins σ Q r s') pl (by lia) (by lia) (by rw[List.size_toArray,<-hl];exact h1) (by simpa using ew) ⟨rfl,fin⟩) hs
theorem Kn(its:List Value)(n j:Nat)(u:Value):Obj.mapSeq (·.setIfInBounds j u) {cls:=.type "list",data:=.seq its.toArray n}={cls:=.type "list",data:=.seq (its.set j u).toArray n}:=by simp[Obj.mapSeq]
theorem AO.lst(I:AO X pins σ H s)(h:H p=some (.lst xs)):
  ∃(its:List Value) (n:Nat),Am xs its/\s.heap.get? p=some {cls:=.type "list",data:=.seq its.toArray n}/\xs.length<=sizeLine:=by
 obtain⟨z,its,n,r,e⟩:=I.hok p _ h;exact⟨its,n,r,e,z⟩
theorem AO.lstUpd{ys:List V}{its':List Value}{n n':Nat}{f:Obj->Obj}(I:AO X pins σ H s)(h:H p=some (.lst xs))
  (ho:s.heap.get? p=some {cls:=.type "list",data:=.seq its.toArray n}) (hf:f {cls:=.type "list",data:=.seq its.toArray n}={cls:=.type "list",data:=.seq its'.toArray n'}) (r:Am ys its') (hz:ys.length<=sizeLine) (t:Nat):
  AO X pins σ (Ad H p (.lst ys)) {s with heap:=s.heap.update p f,toks:=t}:=by
 have e:(s.heap.update p f).get? p=some {cls:=.type "list",data:=.seq its'.toArray n'}:=by rw[XR f ho (by rw[hf]<;>rfl),hf]
 refine I.write (x:=p) (e:=p) (by rw[h];trivial) (.inl rfl) (λb u hb q=>(XM _ _ (Ne.symm hb)).trans q) ⟨_,e⟩ ?_;exact⟨hz,its',n',r,e⟩
def S3:V->V->V->Hp->(Hp->Prop)->Prop:=λo i v H Q=>∃p xs k j,o=.ref p/\i=.int k/\H p=some (.lst xs)/\JY xs.length k=some j/\Q (Ad H p (.lst (xs.set j v)))
theorem Ja:Sn X S3:=by
 intro pins s σ H o i v ov iv u Q I ro ri rv h;obtain⟨p,xs,k,j,rfl,rfl,hp,hj,q⟩:=h;cases ro;obtain⟨t,rfl⟩:=ri;obtain⟨its,n,r,ho,hz⟩:=I.lst hp;obtain⟨h1,h2,h3,h4⟩:=La hj;have hl:=r.length;have hn:=IX
 have I':AO X pins σ (Ad H p (.lst (xs.set j v))) {s with heap:=s.heap.update p (Obj.mapSeq (·.setIfInBounds j u))}:=
  I.lstUpd hp ho (Kn its n j u) (r.set rv j) (by rw[Xv];exact hz) s.toks
 by_cases h0:0<=k
 ·have hk:k.toNat=j:=by
   rw[seqIndex_of h0 h4]at h1;exact Option.some.inj h1
  exact PySem.W.ki_setAt ho h0 (by lia) (by rw[Wi,<-hl];exact h4) (by rw[hk];exact⟨_,I',q⟩)
 ·have hk:(k+(its.toArray.size:Int)).toNat=j:=by
   rw[seqIndex_neg (by lia) h3]at h1;rw[Wi,<-hl];exact Option.some.inj h1
  exact PySem.W.ki_setBack ho (by lia) (by rw[Wi,<-hl];exact h3) (by lia) (by rw[hk];exact⟨_,I',q⟩)
theorem Ia(lo hi:Option Int)(n:Nat):(sliceBounds lo hi none n).1=((HT.GG n 0 lo:Nat):Int)/\(sliceBounds lo hi none n).2.1=((HT.GG n n hi:Nat):Int)/\(sliceBounds lo hi none n).2.2=1:=by
 refine⟨?_,?_,rfl⟩
 ·cases lo with
  |none=>simp[sliceBounds,HT.GG]
  |some i =>
   simp only[sliceBounds,HT.GG,Option.getD_none,show (1:Int)>0 by decide,if_true]
   by_cases h:i<0
   ·simp only[h,if_true]<;>lia
   ·simp only[h,if_false]<;>lia
 ·cases hi with
  |none=>simp[sliceBounds,HT.GG]
  |some i =>
   simp only[sliceBounds,HT.GG,Option.getD_none,show (1:Int)>0 by decide,if_true]
   by_cases h:i<0
   ·simp only[h,if_true]<;>lia
   ·simp only[h,if_false]<;>lia
theorem Hi(its:List Value)(lo hi:Option Int):slicePick its.toArray lo hi none=((its.drop (HT.GG its.length 0 lo)).take (HT.GG its.length its.length hi-HT.GG its.length 0 lo)).toArray:=by obtain⟨h1,h2,h3⟩:=Ia lo hi its.toArray.size;unfold slicePick;rw[h1,h2,h3];simp only[sliceRange_one,pick_run,List.size_toArray]<;>rfl
def Q3(K:PySem.W.Frag):V->Option Int->Option Int->Hp->VK->Prop:=λx lo hi H Q=>∃a xs,x=.ref a/\Ac K H a xs/\∀p,H p=none->Q (.ref p) (Ad H p (.lst (IZ xs lo hi)))
theorem Bg:V2 X (Q3 X.K):=by intro pins s σ H x v vl vu lo hi sl Q I rx hs pl pu h;obtain⟨a,xs,rfl,hx,q⟩:=h;cases rx;obtain⟨its,r,ht,hz⟩:=I.list hx;have hlen:=r.length;refine⟨"list",_,slot_list_getitem.lookup,ht.isList.typeIs,?_⟩;refine wpAny_getItem_list_slice ht.isList hs pl pu .none (by simp) ?_ (by rw[List.size_toArray]<;>lia);rw[Hi,<-hlen];refine⟨.ref s.heap.objs.size,_,I.laid (t':=s.toks) (o:=.lst (IZ xs lo hi)) (λb ob q=>WG _ q) (WM _) ?_,rfl,q _ (I.hok.fresh (WM _))⟩;exact⟨Wm (JX xs lo hi) hz,_,0,(r.drop (HT.GG xs.length 0 lo)).take (HT.GG xs.length xs.length hi-HT.GG xs.length 0 lo),WR _ rfl⟩
theorem AM:DT X (.builtin "len") (λxs H Q=>∃p ys,xs=[.ref p]/\(Ac X.K H p ys\/Ba X.K H p ys)/\Q (.int ys.length) H):=by
 intro pins s σ H xs us Q I r h;obtain⟨p,ys,rfl,hq,q⟩:=h;obtain⟨u,rfl,rx⟩:=Fz r;cases rx;have hn:=IX;rcases hq with hq|hq
 ·obtain⟨its,r',pl,hz⟩:=I.list hq;have hlen:=r'.length;exact Calls.call_len_list pl.isList (by simp only[List.size_toArray]<;>lia) ⟨.int ys.length,H,I.tok _,⟨s.toks+1,by rw[List.size_toArray,hlen]⟩,q⟩
 ·obtain⟨its,r',pl,hz⟩:=I.tuple hq;have hlen:=r'.length;exact len_tuple pl (by simp only[List.size_toArray]<;>lia) ⟨.int ys.length,H,I.tok _,⟨s.toks+1,by rw[List.size_toArray,hlen]⟩,q⟩
theorem BV:DT X (.type "list") (λxs H Q=>∃p ys,xs=[.ref p]/\(Ac X.K H p ys\/Ba X.K H p ys)/\∀l,H l=none->Q (.ref l) (Ad H l (.lst ys))):=by
 intro pins s σ H xs us Q I r h;obtain⟨p,ys,rfl,hq,q⟩:=h;obtain⟨u,rfl,rx⟩:=Fz r;cases rx
 have fin:∀(its:List Value),Am ys its->ys.length<=sizeLine->∀(h':Heap) (c':Nat),(∀b o',s.heap.get? b=some o'->h'.get? b=some o') ->
   h'.get? s.heap.objs.size=some {cls:=.type "list",dict:=none,data:=.seq its.toArray c',slots:=#[]}->EP X pins σ Q (.ref s.heap.objs.size) {s with heap:=h'}:=λits r' hz h' c' kp e =>
  ⟨.ref s.heap.objs.size,_,I.laid (t':=s.toks) kp (WM _) (show As X.prog X.w _ h' _ (.lst ys) from⟨hz,its,c',r',e⟩),rfl,q _ (I.hok.fresh (WM _))⟩
 rcases hq with hq|hq
 ·obtain⟨its,r',pl,hz⟩:=I.list hq;have hlen:=r'.length;obtain⟨o,ho,hc,n,hd⟩:=pl.isList;exact call_list_seq p (.inl rfl) ho hc hd (λh' c' kp e=>fin its r' hz h' c' kp e) (by simp only[List.size_toArray]<;>lia)
 ·obtain⟨its,r',pl,hz⟩:=I.tuple hq;have hlen:=r'.length;obtain⟨o,ho,hc,n,hd⟩:=pl;exact call_list_seq p (.inr rfl) ho hc hd (λh' c' kp e=>fin its r' hz h' c' kp e) (by simp only[List.size_toArray]<;>lia)
theorem DJ:DT X (.type "tuple") (λxs H Q=>∃p ys,xs=[.ref p]/\((Ac X.K H p ys/\∀l,H l=none->Q (.ref l) (Ad H l (.tup ys)))\/(Ba X.K H p ys/\Q (.ref p) H))):=by
 intro pins s σ H xs us Q I r h;obtain⟨p,ys,rfl,h⟩:=h;obtain⟨u,rfl,rx⟩:=Fz r;cases rx;rcases h with⟨hq,q⟩|⟨hq,q⟩
 ·obtain⟨its,r',pl,hz⟩:=I.list hq;have hlen:=r'.length;refine call_tuple_list pl.isList (λh' kp=>?_) (by simp only[List.size_toArray]<;>lia);have I1:AO X pins σ H {s with heap:=h'}:=I.kept (t':=s.toks) kp
  have I2:AO X pins σ (Ad H h'.objs.size (.tup ys)) {s with heap:=h'.push {cls:=.type "tuple",data:=.seq its.toArray}}:=
   I1.laid (t':=s.toks) (λb o e=>WG _ e) (WM _) (show As X.prog X.w _ _ _ (.tup ys) from⟨hz,its,r',IsTup.new _ _⟩)
  exact⟨.ref h'.objs.size,_,I2,rfl,q _ (I1.hok.fresh (WM _))⟩
 ·obtain⟨its,r',pl,hz⟩:=I.tuple hq;exact call_tuple_same pl ⟨.ref p,H,I,rfl,q⟩
def U1(K:PySem.W.Frag)(T:String)(x:V)(H:Hp):Prop:=match x with
 |.str _=>T="str"
 |.int _=>T="int"
 |.ref p=>(T="list"/\∃xs,Ac K H p xs)\/(T="tuple"/\∃o,K.lookup p=some o/\o.cls=.type "tuple"/\o.dict=none) \/
   (T="dict"/\((∃kvs,H p=some (.dK kvs))\/∃kvs,H p=some (.dT kvs)))\/(T="set"/\∃S n,H p=some (.set S n))
 |_=>False
theorem NW{x:V}{v:Value}(I:AO X pins σ H s)(r:Ao x v)(ty:U1 X.K T x H):
  s.TypeIs v T/\∀a,v=.ref a->∃ob,s.heap.get? a=some ob/\ob.dict=none:=by
 cases x with
 |str z =>
  obtain⟨t,rfl⟩:=r;cases (show T="str" from ty);exact⟨typeIs_str s z t,λ_ e=>nomatch e⟩
 |int i =>
  obtain⟨t,rfl⟩:=r;cases (show T="int" from ty);exact⟨typeIs_int s i t,λ_ e=>nomatch e⟩
 |ref p =>
  cases r;rcases ty with⟨rfl,xs,hq⟩|⟨rfl,o,hk,hc,hd⟩|⟨rfl,hk⟩|⟨rfl,S,n,hk⟩
  ·obtain⟨its,_,pl,_⟩:=I.list hq;refine⟨pl.isList.typeIs,λa e=>?_⟩;cases e;obtain⟨o,n,e,c,hd,_⟩:=pl;exact⟨o,e,hd⟩
  ·refine⟨⟨o,I.kIn p o hk,hc⟩,λa e=>?_⟩;cases e;exact⟨o,I.kIn _ o hk,hd⟩
  ·have z:∃o,s.heap.get? p=some o/\o.ExactDict:=by
    rcases hk with⟨kvs,hk⟩|⟨kvs,hk⟩
    ·obtain⟨_,_,_,_,o,_,_,e,ex,_⟩:=I.hok p _ hk;exact⟨o,e,ex⟩
    ·obtain⟨_,_,_,_,o,_,_,e,ex,_⟩:=I.hok p _ hk;exact⟨o,e,ex⟩
   obtain⟨o,e,ex⟩:=z;refine⟨⟨o,e,ex.1⟩,λa e2=>?_⟩;cases e2;exact⟨o,e,ex.2.1⟩
  ·obtain⟨o,_,_,_,e,ex,_⟩:=I.hok p _ hk;refine⟨⟨o,e,ex.1⟩,λa e2=>?_⟩;cases e2;exact⟨o,e,ex.2.1⟩
 |_=>exact False.elim ty
def VH(K:PySem.W.Frag)(T:String)(r:V->List V->Hp->VK->Prop)(to:TE):TE:=λσ H Q=>to σ H λx H1=>U1 K T x H1/\r x [] H1 Q
def V4(K:PySem.W.Frag)(T:String)(r:V->List V->Hp->VK->Prop)(to:TE)(t:TA):TE:=λσ H Q=>to σ H λx H1=>U1 K T x H1/\t σ H1 λxs H2=>r x xs H2 Q
variable{o e:Expr}{to:TE}{t:TA}{apos cpos:Pos}{id:String}{r:V->List V->Hp->VK->Prop}
theorem NX(pa:PlainAttrs T)(slot:Slot T name id)(hty:typeOf (.builtin id)=pure (.type "method_descriptor"))(hm:U0 X id r)(ho:PE X o to)
  (hbase:attributeBase o name X.env (eval o X.env)=eval o X.env:=by rfl) (hline:(apos.endLine==cpos.line)=true:=by rfl):PE X (.Call (.Attribute o name apos) [] [] cpos) (VH X.K T r to):=by
 intro pins s σ H Q I h;refine wpAny_Call_method0_late hbase hline (BJ (ho pins s σ H _ I h) λv s1 z9=>?_);obtain⟨x,H1,I1,r1,ty,q1⟩:=z9;obtain⟨h1,h2⟩:=NW I1 r1 ty;exact⟨T,id,pa,slot,hty,h1,h2,Calls.callWith_builtin rfl (PySem.evalArgs_none (hm pins s1 σ H1 x [] v [] Q I1 r1 .nil q1))⟩
theorem By(pa:PlainAttrs T)(slot:Slot T name id)(hty:typeOf (.builtin id)=pure (.type "method_descriptor"))(hm:U0 X id r)(ho:PE X o to)(ha:PA X (e::es) t)
  (hbase:attributeBase o name X.env (eval o X.env)=eval o X.env:=by rfl)
  (hfew:((backTo cpos (starEach (e::es) X.env)).all (λx=>!x.1)&&(backToKw cpos (keywordEach [] X.env)).all (λx=>x.1.isSome)
   && decide ((e::es).length+([]:List Keyword).length+(if ([]:List Keyword).isEmpty then 0 else 1)<30))=true:=by rfl)
  (hline:(apos.endLine==cpos.line)=true:=by rfl) (hs:starEach (e::es) X.env=(false,eval e X.env)::starEach es X.env:=by rfl) (hplain:(backTo cpos (starEach es X.env)).any (·.1)=false:=by rfl):
  PE X (.Call (.Attribute o name apos) (e::es) [] cpos) (V4 X.K T r to t):=by
 intro pins s σ H Q I h;refine wpAny_Call_method_late hbase hfew hline rfl (BJ (ho pins s σ H _ I h) λv s1 z9=>?_);obtain⟨x,H1,I1,r1,ty,q1⟩:=z9;obtain⟨h1,h2⟩:=NW I1 r1 ty;refine⟨T,id,pa,slot,hty,h1,h2,?_⟩;have hA:=ha cpos pins s1 σ H1 _ I1 q1;rw[hs]at hA⊢;refine Calls.callWith_builtin (by show (false||(backTo cpos (starEach es X.env)).any (·.1))=false;rw[hplain]<;>rfl) (Calls.evalArgs_plain ?_);exact BJ hA λus s2 ⟨vs,H2,I2,r2,q2⟩=>hm pins s2 σ H2 x vs v us Q I2 r1 r2 q2
end
def VI(X:Cx)(id:String)(r:V->List V->Hp->VK->Prop):Prop:=
 ∀(pins:List (Addr×Obj)) (s:Shared) (σ:St) (H:Hp) (x:V) (xs:List V) (v:Value) (us:List Value) (Q:VK),AO X pins σ H s->Ao x v->Am xs us->r x xs H Q ->
  wpAny (model X.prog X.w) X.A (call (.builtin id) (v::us)) (EP X pins σ Q) X.xe s
theorem Am.one:∀{x:V} {us:List Value},Am [x] us->∃u,us=[u]/\Ao x u
 |_,_,.cons r .nil=>⟨_,rfl,r⟩
theorem Am.zero:∀{us:List Value},Am [] us->us=[]
 |_,.nil=>rfl
theorem Am.dropLast(h:Am xs us):Am xs.dropLast us.dropLast:=by
 induction h with
 |nil=>exact .nil
 |cons r t ih =>
  cases t with
  |nil=>exact .nil
  |cons q t'=>exact .cons r ih
theorem Am.reverse(h:Am xs us):Am xs.reverse us.reverse:=by
 induction h with
 |nil=>exact .nil
 |cons r t ih=>rw[YM,YM];exact Am.append ih (.cons r .nil)
theorem Am.rep(h:Am xs us):∀k:Nat,Am (List.replicate k xs).flatten (List.replicate k us).flatten
 |0=>.nil
 |k+1=>by rw[XD,XD,Xh,Xh];exact Am.append h (Am.rep h k)
theorem Ko(l:List α):l.eraseIdx (l.length-1)=l.dropLast:=by
 induction l with
 |nil=>rfl
 |cons a r ih =>
  cases r with
  |nil=>rfl
  |cons b r =>
   have e:(a::b::r).length-1=((b::r).length-1)+1:=by have h1:(a::b::r).length=r.length+2:=rfl;have h2:(b::r).length=r.length+1:=rfl;lia
   rw[e,List.eraseIdx_cons_succ,ih]
   all_goals rfl
theorem Hv(its:List Value):∀(k:Nat) (acc:List Value),
  List.foldl (λx1 x2=>x1++x2) acc.toArray (List.replicate k its.toArray)=(acc++(List.replicate k its).flatten).toArray
 |0,acc=>by simp
 |k+1,acc=>by
  have e:acc.toArray++its.toArray=(acc++its).toArray:=by simp
  have e2:(acc++its)++(List.replicate k its).flatten=acc++(List.replicate (k+1) its).flatten:=by rw[XD,Xh,List.append_assoc]
  rw[<-e2,<-Hv its k (acc++its),<-e,XD,List.foldl_cons]
section
variable{l:Addr}{ys zs:List V}
theorem AO.lset{its':List Value}{n:Nat}{f:Array Value->Array Value}{t':Nat}(I:AO X pins σ H s)(hH:H l=some (.lst xs))
  (e:s.heap.get? l=some {cls:=.type "list",data:=.seq its.toArray n}) (hf:f its.toArray=its'.toArray) (hv:Am ys its') (hz:ys.length<=sizeLine):
  AO X pins σ (Ad H l (.lst ys)) {s with heap:=s.heap.update l (Obj.mapSeq f),toks:=t'}:=by
 have q:=PySem.IsL.update e f;rw[hf]at q;refine I.write (x:=l) (e:=l) (by rw[hH];exact trivial) (.inl rfl) (λb' u hb hu=>(XM s.heap (Obj.mapSeq f) (Ne.symm hb)).trans hu) ⟨_,q⟩ ?_;exact⟨hz,its',_,hv,q⟩
theorem AO.lnew(I:AO X pins σ H s)(hv:Am ys its)(hz:ys.length<=sizeLine):
  AO X pins σ (Ad H s.heap.objs.size (.lst ys)) {s with heap:=s.heap.push {cls:=.type "list",data:=.seq its.toArray},toks:=t'}:=
 I.laid (λ_ _ q=>WG _ q) (WM _) ⟨hz,its,0,hv,WR _ rfl⟩
theorem AO.fresh(I:AO X pins σ H s):H s.heap.objs.size=none:=I.hok.fresh (WM _)
theorem AO.lstM(I:AO X pins σ H s)(hH:H l=some (.lst xs)):xs.length<=sizeLine/\∃(its:List Value) (n:Nat),Am xs its/\xs.length=its.length/\s.heap.get? l=some {cls:=.type "list",data:=.seq its.toArray n}:=by obtain⟨z,its,n,r,e⟩:=I.hok l _ hH;exact⟨z,its,n,r,r.length,e⟩
theorem Jb{n:Nat}(h:n<=sizeLine):Builtin.List.listTooLong n=false:=by unfold Builtin.List.listTooLong;exact decide_eq_false (by lia)
end
def Lc:V->List V->Hp->VK->Prop:=λx vs H Q=>∃l xs y,x=.ref l/\vs=[y]/\H l=some (.lst xs)/\xs.length<sizeLine/\Q .non (Ad H l (.lst (xs++[y])))
theorem BD:VI X "list.append" Lc:=by intro pins s σ H x vs v us Q I rx rv h;obtain⟨l,xs,y,rfl,rfl,hH,hz,q⟩:=h;cases rx;obtain⟨u,rfl,ru⟩:=rv.one;obtain⟨z,its,n,r,hl,e⟩:=I.lstM hH;refine call_meets F.slot_list_append ⟨_,e,rfl⟩ F.entry_list_append (F.args_list_append_2 _ _) (PySem.list_append l its.toArray n u (by rw[Wi];lia)) ⟨e,?_⟩;refine⟨.non,_,I.lset (its':=its++[u]) hH e (by simp) (r.append (.cons ru .nil)) ?_,rfl,q⟩;rw[WI,WX];lia
def PB:V->List V->Hp->VK->Prop:=λx vs H Q=>∃l b xs zs,x=.ref l/\vs=[.ref b]/\H l=some (.lst xs)/\H b=some (.lst zs)/\xs.length+zs.length<=sizeLine/\Q .non (Ad H l (.lst (xs++zs)))
theorem Fg:VI X "list.extend" PB:=by
 intro pins s σ H x vs v us Q I rx rv h;obtain⟨l,b,xs,zs,rfl,rfl,hH,hB,hz,q⟩:=h;cases rx;obtain⟨u,rfl,ru⟩:=rv.one;cases ru;obtain⟨z,its,n,r,hl,e⟩:=I.lstM hH;obtain⟨z2,its2,n2,r2,hl2,e2⟩:=I.lstM hB;have hsz:its.toArray.size+its2.toArray.size<=sizeLine:=by rw[Wi,Wi];lia
 have hlong:¬(!its.toArray.isEmpty&&Builtin.List.listTooLong (its.toArray.size+its2.toArray.size))=true:=by rw[Jb hsz,Bool.and_false];exact WZ
 refine call_meets F.slot_list_extend ⟨_,e,rfl⟩ F.entry_list_extend (F.args_list_extend_2 _ _)
  (AutoSeq1.list_extend_list_list_0 l its.toArray n b its2.toArray n2 hlong (by rw[Wi];lia) (by lia)) ⟨e,e2,?_⟩
 refine⟨.non,_,I.lset (its':=its++its2) hH e (by simp) (r.append r2) ?_,rfl,q⟩;rw[WI];lia
def VJ:V->List V->Hp->VK->Prop:=λx vs H Q=>∃l xs y,x=.ref l/\vs=[]/\H l=some (.lst xs)/\xs[xs.length-1]?=some y/\Q y (Ad H l (.lst xs.dropLast))
theorem NY:VI X "list.pop" VJ:=by
 intro pins s σ H x vs v us Q I rx rv h;obtain⟨l,xs,y,rfl,rfl,hH,hy,q⟩:=h;cases rx;have hus:=rv.zero;subst hus;obtain⟨z,its,n,r,hl,e⟩:=I.lstM hH;obtain⟨u,hu,ru⟩:=r.get hy
 have hy':its.toArray[its.toArray.size-1]?=some u:=by show its.toArray[its.length-1]?=some u;rw[<-Array.getElem?_toList,<-hl];exact hu
 refine call_meets F.slot_list_pop ⟨_,e,rfl⟩ F.entry_list_pop (F.args_list_pop_1 _) (MeetsSeq.list_pop_last l its.toArray n u hy' (by rw[Wi];lia)) ⟨e,?_⟩;refine⟨y,_,I.lset (its':=its.dropLast) hH e ?_ r.dropLast ?_,ru,q⟩
 ·show its.toArray.eraseIdxIfInBounds (its.toArray.size-1)=its.dropLast.toArray;rw[Wi,List.eraseIdxIfInBounds_toArray,Ko]
 ·rw[List.length_dropLast];lia
def PD:R2:=λx y H Q=>∃l b xs zs,x=.ref l/\y=.ref b/\H l=some (.lst xs)/\H b=some (.lst zs)/\xs.length+zs.length<=sizeLine/\∀p,H p=none->Q (.ref p) (Ad H p (.lst (xs++zs)))
theorem Dk:Fb X (binaryOp .Add) PD:=by
 intro pins s σ H x y v u Q I rx ry h;obtain⟨l,b,xs,zs,rfl,rfl,hH,hB,hz,q⟩:=h;cases rx;cases ry;obtain⟨z,its,n,r,hl,e⟩:=I.lstM hH;obtain⟨z2,its2,n2,r2,hl2,e2⟩:=I.lstM hB;refine PySem.P.add_list e e2 ?_ (by rw[Wi,Wi];lia);have ea:its.toArray++its2.toArray=(its++its2).toArray:=by simp
 rw[ea];exact⟨.ref _,_,I.lnew (t':=s.toks) (r.append r2) (by rw[WI];lia),rfl,q _ I.fresh⟩
def Q4:R2:=λx y H Q=>∃l k xs,x=.ref l/\y=.int k/\H l=some (.lst xs)/\-(2^63)<=k/\k<2^63/\xs.length*k.toNat<=sizeLine /\
 ∀p,H p=none->Q (.ref p) (Ad H p (.lst (List.replicate k.toNat xs).flatten))
theorem PH(xs:List α)(k:Nat):(List.replicate k xs).flatten.length=k*xs.length:=by
 induction k with
 |zero=>simp
 |succ k ih=>rw[XD,Xh,WI,ih,Nat.succ_mul,Nat.add_comm]
theorem Kp:Fb X (binaryOp .Mult) Q4:=by
 intro pins s σ H x y v u Q I rx ry h;obtain⟨l,k,xs,rfl,rfl,hH,h1,h2,hz,q⟩:=h;cases rx;obtain⟨t,rfl⟩:=ry;obtain⟨z,its,n,r,hl,e⟩:=I.lstM hH;have hlen:its.toArray.size*k.toNat<=sizeLine:=by rw[Wi,<-hl];exact hz
 have hcap:¬its.toArray.size*k.toNat>(2^63-1)/8:=by
  have:(sizeLine:Nat)<=(2^63-1)/8:=by decide
  lia
 have hfit:¬(!Builtin.List.listFitsIndex k)=true:=by rw[fitsIndex_both h1 h2];exact WZ
 have hlong:¬Builtin.List.listTooLong (its.toArray.size*k.toNat)=true:=by rw[Jb hlen];exact WZ
 have hnew:List.foldl (λx1 x2=>x1++x2) #[] (List.replicate (if its.toArray.isEmpty=true then 0 else k.toNat) its.toArray)=(List.replicate k.toNat its).flatten.toArray:=by
  have f0:∀m:Nat,List.foldl (λx1 x2=>x1++x2) #[] (List.replicate m its.toArray)=(List.replicate m its).flatten.toArray:=λm=>by have:=Hv its m [];rw[List.nil_append]at this;exact this
  rw[f0];cases its with
  |nil=>simp
  |cons a r'=>rw[if_neg (by simp)]
 refine wpAny_binaryOp_repeat_ref (T:="list") (U:="int") (by decide) ⟨_,e,rfl⟩ (λs'=>typeIs_int s' k t) noFill_list_mul F.fills_int_mul F.slot_int_rmul repeat_list F.slot_int_index.lookup
  (call_meets F.slot_int_rmul (typeIs_int s k t) F.entry_int_rmul (F.args_int_rmul_2 _ _) (int___rmul___int_list k t l its.toArray n)
   ⟨e,rfl,⟨_,e,rfl⟩,call_meets F.slot_list_mul ⟨_,e,rfl⟩ F.entry_list_mul (F.args_list_mul_2 _ _) (AutoListH.list___mul___list_int_3 l its.toArray n k t hfit hcap hlong) ⟨e,?_⟩⟩)
 rw[hnew];exact⟨.ref _,_,I.lnew (t':=s.toks) (r.rep k.toNat) (by rw[PH,XI];exact hz),rfl,q _ I.fresh⟩
end L2
namespace Att
open PySem PySem.W PySem.Calls PyProof.Rows
theorem ints_of_wellAll{P:Params}{h:Heap}:∀(ns:List Int) (vs:List Value),WellAll P h vs (ns.map WData.int)->IntsAre vs ns:=by
 intro ns
 induction ns with
 |nil =>
  intro vs w;rw[X9]at w;cases w;exact .nil
 |cons n ns ih =>
  intro vs w;rw[W0]at w;cases w with
  |cons a b =>
   cases a;exact .cons _ _ (ih _ b)
theorem script_of{l:OpenLaw}{n:Nat}(hn:l.most=some n){P:Params}{h:Heap}{args:List WData}{vals:List Value}
  (hpre:l.row.toRowW.claim.pre args=true) (hwl:WellAll P h vals args):
  ∃a vs ns,vals=[Value.ref a]/\args=[WData.list (ns.map WData.int)]/\h.get? a=some {cls:=.type "list",data:=.seq vs.toArray}/\IntsAre vs ns/\ns.length<=n:=by
 have hsh:WShape.hasAll [] args [.list .int]=true:=(pre_splitW hpre).1;have hc:l.pre.holds [] {args:=args}=true:=(pre_splitW hpre).2;obtain⟨d,r,rfl,h1,h2⟩:=hasAllW_cons hsh;obtain rfl:=hasAllW_nil h2;obtain⟨xs,rfl,h3⟩:=hasW_list h1;obtain⟨ns,rfl⟩:=items_int h3
 have hlen:ns.length<=n:=by
  unfold OpenLaw.pre at hc
  have h4:(WTm.not (.lt (.lit (.int (n:Int))) (.len (.arg 0)))).holds [] {args:=[.list (ns.map .int)]}=true:=by have h4:=(holds_andW hc).1;rw[hn]at h4;exact h4
  have h5:=condW_of h4 (w_not (w_lt w_lit (w_len_list (w_arg rfl))));rw[WD]at h5;refine Nat.le_of_not_lt λq=>?_;have q':(n:Int)<((ns.length:Nat):Int):=by lia
  first
   | (rw[decide_eq_true q']at h5;exact absurd h5 (by decide))
   | (simp at h5;lia)
 cases hwl with
 |cons w1 w2 =>
  cases w2;cases w1 with
  |list ho hall=>exact⟨_,_,ns,rfl,rfl,ho,ints_of_wellAll ns _ hall,hlen⟩
theorem post_true(l:OpenLaw)(args:List WData):l.row.toRowW.claim.post args (.bool true) args=true:=
 postW_of (r:=l.row.toRowW) (X:=(true==true))
  (show WShape.has [] (.bool true) .bool=true by first|rfl|decide|simp[WShape.has,WShape.arms,WShape.armsAll])
  (show (WTm.eq .res (.lit (.bool true))).value [] {args:=args,res:=some (.bool true),after:=args}=some (.bool (true==true)) from w_eq_bool (w_res rfl) w_lit) rfl
theorem attach_call{l:OpenLaw}{n:Nat}{q:Program}{loose:List Str}{XP:(Str->Option Value)->Heap->Prop}{YP:World->Heap->Prop}{d:DefRec}
  (hn:l.most=some n) (hdf:d.params.defaults=[])
  (call:∀(w:World) (s₀ s₁:Shared) (mg mb:Str->Option Value) (fa:Addr) (o:Obj) (pm cd doc:Value) (a:Addr) (vs:List Value) (ns:List Int),
   Ground q loose [] XP w s₀ mg mb s₁.heap->YP w s₁.heap ->
   s₁.heap.get? fa=some o->o.data=.func (docDef d.name d.params d.body d.scope pm cd doc)->s₁.heap.CodeRec cd d.name->mg d.name=some (.ref fa) ->
   s₁.heap.get? a=some {cls:=.type "list",data:=.seq vs.toArray}->IntsAre vs ns->ns.length<=n->s₁.gens=#[] ->
   codeAny (model l.prog w) callerA (.call (.ref fa) ⟨[.ref a],[]⟩) (λr s'=>r=.ok (.ret (.bool true))/\OldK s₁.heap s'.heap/\s'.os=s₁.os/\AllBare s'.gens) s₁):
  WalkO q loose XP YP l.row.toRowW d [] (λf vs=>PySem.call f vs):=by
 intro w s₀ s₁ mg mb G Y fa o pm cd doc dV kV ho hd hcd hD hmg hg args vals as hpre hlay hrd hwl hlo;obtain rfl:dV=.none:=Dflts.none hD hdf;obtain rfl:kV=.none:=Dflts.noKw hD;obtain⟨a,vs,ns,rfl,rfl,hobj,hints,hlen⟩:=script_of hn hpre hwl;refine enter_call (codeAny_mono (call w s₀ s₁ mg mb fa o pm cd doc a vs ns G Y ho (fd_plain hd) hcd hmg hobj hints hlen hg) λr s' hq=>?_);obtain⟨rfl,h2,h3,h4⟩:=hq;exact⟨.inl ⟨.bool true,.bool true,[],rfl,λ_=>rfl,.bool true,post_true l _,λ_=>⟨List.Pairwise.nil,λ_ hm=>(nomatch hm)⟩⟩,h2,h3,h4⟩
section
variable{prog:Program}{w:World}{A:Around}{E:Value->Shared->Prop}{s:Shared}{K:Frag}
end
end Att
namespace L2
open PySem PySem.Spec PyProof.Rows
variable{H H':Hp}{X:Cx}{a f:Addr}{an od:Option Addr}{cdv doc oc pm:Value}{fd:FuncData}{ps:List Str}{qual x:Str}{xs:List V}
theorem Hw:∀{vs:List Value} {ns:List Int},IntsAre vs ns->Am (ns.map V.int) vs
 |_,_,.nil=>.nil
 |_,_,.cons n t h=>.cons ⟨t,rfl⟩ (Hw h)
def Cg(s:Stmt)(j:Nat):Stmt:=match s with
 |.ClassDef _ _ _ body _ _ _ _ _ _ _=>body.getD j (.Pass ⟨0,0,0,0⟩)
 |_=>.Pass ⟨0,0,0,0⟩
def C9(s:Stmt):Arguments:=match s with
 |.FunctionDef _ a _ _ _ _ _ _ _ _=>a
 |_=>{posonlyargs:=[],args:=[],vararg:=none,kwonlyargs:=[],kw_defaults:=[],kwarg:=none,defaults:=[]}
def BW(s:Stmt):List Stmt:=match s with
 |.FunctionDef _ _ b _ _ _ _ _ _ _=>b
 |_=>[]
def AH(s:Stmt):Scope:=match s with
 |.FunctionDef _ _ _ _ _ _ sc _ _ _=>sc
 |_=>{kind:=.function,names:=[],isGenerator:=false,isCoroutine:=false}
abbrev E0:XK:=λ_ _ _=>False
structure BY(K:PySem.W.Frag)(x qual:Str)(st:Stmt)(f:Addr)(fd:FuncData):Prop where
 ex:∃(oc:Value) (od:Option Addr) (kV doc pm:Value) (an:Option Addr) (cdv ct:Value) (osl:Array (Option Value)),
  fd=PySem.W.fnOf x qual (C9 st) (BW st) (AH st) .none kV doc pm an cdv ct/\K.lookup f=some ⟨oc,od,.func fd,osl⟩/\PySem.W.codeIn K cdv qual=true
 kp:PySem.W.keepIn K (.ref f)=true
variable{osl:Array (Option Value)}
section
variable{P:Program}{w:World}{K:PySem.W.Frag}{mg:Str->Option Value}{base:Heap}
theorem BY.binds{st:Stmt}(F:BY K x qual st f fd)
  (h:∀(kV doc pm:Value) (an:Option Addr) (cdv ct:Value) (us:List Value),us.length=ps.length->bindArgs (PySem.W.fnOf x qual (C9 st) (BW st) (AH st) .none kV doc pm an cdv ct) ⟨us,[]⟩=pure (ps.zip us)):C7 K fd ps []:=by
 obtain⟨oc,od,kV,doc,pm,an,cdv,ct,osl,rfl,lk,hcd⟩:=F.ex;exact .all (h kV doc pm an cdv ct)
theorem DL{st:Stmt}{kV ct:Value}(l:K.lookup f=some ⟨oc,od,.func (PySem.W.fnOf x qual (C9 st) (BW st) (AH st) .none kV doc pm an cdv ct),osl⟩)
  (c:PySem.W.codeIn K cdv qual=true) (k:PySem.W.keepIn K (.ref f)=true):BY K x qual st f (PySem.W.fnOf x qual (C9 st) (BW st) (AH st) .none kV doc pm an cdv ct):=⟨⟨oc,od,kV,doc,pm,an,cdv,ct,osl,rfl,l,c⟩,k⟩
end
theorem B3{A:Around}{k:Nat}(hr:BU k A):A.units+1<cLine:=YF (Nat.add_le_add_left (by decide:1<=64) _) hr.units
theorem AQ{n:Nat}(h:n<=1000):n<sizeLine:=YF h (by decide)
theorem pv(i:Nat){pos:Pos}(hN:X.N[i]?=some x:=by rfl)(hv:Si X.env.scope x:=by first|exact Or.inl rfl|exact Or.inr (Or.inl rfl)|exact Or.inr (Or.inr rfl))(hd:(x==("__debug__":Str))=false:=by decide)
  (hcd:(x==("__classdict__":Str))=false:=by decide):PE X (.Name x pos) (Qp i):=Qq hN hv hd hcd
theorem Hj{A B:Prop}(h:B):if false=true then A else B:=by rw[if_neg WZ];exact h
theorem Jc{A B:Prop}(h:A):if true=true then A else B:=by rw[if_pos rfl];exact h
def AF(H H':Hp):Prop:=∀b o,H b=some o->H' b=some o
theorem AF.refl(H:Hp):AF H H:=λ_ _ h=>h
variable{H1 H2:Hp}
theorem AF.trans(a:AF H H1)(b:AF H1 H2):AF H H2:=λc o h=>b c o (a c o h)
theorem AF.free(e:AF H H'){l:Addr}(h:H' l=Option.none):H l=Option.none:=by
 cases q:H l with
 |none=>rfl
 |some o =>
  rw[e l o q]at h;cases h
theorem AF.seq{K:PySem.W.Frag}(e:AF H H')(h:Ac K H a xs):Ac K H' a xs:=by
 rcases h with (h|⟨o,h⟩)|h
 ·exact .inl (.inl (e _ _ h))
 ·exact .inl (.inr ⟨o,e _ _ h⟩)
 ·exact .inr h
end L2
set_option maxHeartbeats 4000000
set_option compiler.extract_closed false
set_option genSizeOfSpec false
namespace L2
open PySem PySem.Spec PyProof.Rows
variable{C a b dx f p:Addr}{CX:NC}{D:GZ}{E Q:Value->Shared->Prop}{H H':Hp}{R:Result->Shared->Prop}{X:Cx}{an od:Option Addr}{cdv doc oc pm u:Value}{ch:List Addr}{es:List Expr}{fd:FuncData}{h:Heap}{i t':Nat}{name qual x:Str}{o:HO}{osl:Array (Option Value)}{pins:List (Addr×Obj)}{pos:Pos}{ps:List Str}{s s':Shared}{scope:Scope}{ta:TA}{tg:Expr}{us:List Value}{xs:List V}{y:V}{α β:Type}{σ:St}
def Dw(o:Obj):Option Value:=match o.data with
 |.fields vs=>vs[2]?
 |_=>none
def DK(h h':Heap):Prop:=h.objs.size<=h'.objs.size/\∀(b:Nat) (o o':Obj),h.objs[b]?=some o->h'.objs[b]?=some o'->o'.dict=o.dict/\Dw o'=Dw o
theorem DK.refl(h:Heap):DK h h:=⟨WM _,λb o o' e e'=>by rw[e]at e';cases e';exact⟨rfl,rfl⟩⟩
theorem DK.trans{h1 h2 h3:Heap}(x:DK h1 h2)(y:DK h2 h3):DK h1 h3:=⟨Wm x.1 y.1,λb o o' e e'=>by obtain⟨hb,_⟩:=Array.getElem?_eq_some_iff.mp e;have q:h2.objs[b]?=some (h2.objs[b]'(WP hb x.1)):=X3 (WP hb x.1);exact⟨(y.2 b _ o' q e').1.trans (x.2 b o _ e q).1,(y.2 b _ o' q e').2.trans (x.2 b o _ e q).2⟩⟩
theorem NZ{o:Obj}(e:h.get? a=some o):h.objs[a]?=some o:=by
 unfold Heap.get? at e
 split at e
 ·cases e
 ·exact e
variable{h':Heap}
theorem DK.get{o o':Obj}(x:DK h h')(e:h.get? a=some o)(e':h'.get? a=some o'):o'.dict=o.dict/\Dw o'=Dw o:=x.2 a o o' (NZ e) (NZ e')
theorem DK.push(h:Heap)(o:Obj):DK h (h.push o):=by
 refine⟨?_,λb u u' e e'=>?_⟩
 ·rw[Ww];exact Xi _
 ·have hb:=(Array.getElem?_eq_some_iff.mp e).1;have q:(h.push o).objs[b]?=h.objs[b]?:=by show (h.objs.push o)[b]?=_;rw[Array.getElem?_push_lt hb,X3 hb]
  rw[q,e]at e';cases e';exact⟨rfl,rfl⟩
theorem DK.update(h:Heap)(a:Addr){f:Obj->Obj}(k:∀o,(f o).dict=o.dict/\Dw (f o)=Dw o):DK h (h.update a f):=by
 have q:(h.update a f).objs=h.objs.modify a f:=rfl;refine⟨by rw[q,Array.size_modify];exact WM _,λb u u' e e'=>?_⟩;rw[q,Array.getElem?_modify]at e'
 split at e'
 ·rw[e]at e';cases e';exact k u
 ·rw[e]at e';cases e';exact⟨rfl,rfl⟩
def KT{α:Type}:Sem α->Prop
 |.rule _ k=>∀u,KT (k u)
 |.at _ k=>∀u,KT (k u)
 |.load _ _ k=>∀u,KT (k u)
 |.update _ _ f k=>(∀o,(f o).dict=o.dict/\Dw (f o)=Dw o)/\∀u,KT (k u)
 |.loadIfAlive _ k=>∀u,KT (k u)
 |.point _ k=>∀u,KT (k u)
 |.alloc _ k=>∀u,KT (k u)
 |.fresh k=>∀u,KT (k u)
 |.ask k=>∀u,KT (k u)
 |.handled _ k=>∀u,KT (k u)
 |.stack k=>∀u,KT (k u)
 |.thread k=>∀u,KT (k u)
 |.pure _=>True
 |.raise _=>True
 |.unsupported _=>True
 |.finish _=>True
 |_=>False
theorem KT.keep{M:Model}{Γ:PySem.Ctx}:∀(t:Sem α),KT t->∀(Q:α->Pos->Shared->Prop) (E:Value->Pos->Shared->Prop) (p:Pos) (s:Shared),Sem.wp M Γ t Q E p s ->
  Sem.wp M Γ t (λa p' s'=>Q a p' s'/\DK s.heap s'.heap) (λe p' s'=>E e p' s'/\DK s.heap s'.heap) p s:=by
 intro t
 induction t with
 |pure x=>exact λ_ Q E p s h=>⟨h,DK.refl _⟩
 |raise v=>exact λ_ Q E p s h=>⟨h,DK.refl _⟩
 |unsupported|finish=>exact λ_ Q E p s h=>h
 |yield|fork|await|register|choose|os|call|genState|newGen|resume=>exact λk=>k.elim
 |rule _ k ih|«at» _ k ih|point _ k ih|loadIfAlive _ k ih|fresh k ih|ask k ih|handled _ k ih|stack k ih|thread k ih=>exact λz Q E p s h=>ih _ (z _) Q E _ _ h
 |alloc o k ih=>exact λz Q E p s h=>Sem.wp_mono _ _ _ (λa p' s' q=>⟨q.1,(DK.push _ _).trans q.2⟩) (λa p' s' q=>⟨q.1,(DK.push _ _).trans q.2⟩) _ _ (ih _ (z _) Q E _ _ h)
 |load a _ k ih=>exact λz Q E p s ⟨o,ho,h⟩=>⟨o,ho,ih _ (z _) Q E _ _ h⟩
 |update a _ f k ih=>exact λz Q E p s ⟨ha,h⟩=>⟨ha,Sem.wp_mono _ _ _ (λa p' s' q=>⟨q.1,(DK.update _ _ z.1).trans q.2⟩) (λa p' s' q=>⟨q.1,(DK.update _ _ z.1).trans q.2⟩) _ _ (ih _ (z.2 _) Q E _ _ h)⟩
theorem KT.run{M:Model}{A:Around}{t:Sem α}{Q:α->Shared->Prop}(k:KT t)(h:wpAny M A t Q E s):
  wpAny M A t (λa s'=>Q a s'/\DK s.heap s'.heap) (λe s'=>E e s'/\DK s.heap s'.heap) s:=λΓ p hΓ=>KT.keep t k _ _ p s (h Γ p hΓ)
theorem KT.bind{m:Sem α}{f:α->Sem β}(a:KT m)(b:∀x,KT (f x)):KT (m >>= f):=by
 show KT (m.bind f)
 induction m with
 |pure x=>exact b x
 |raise v=>exact a
 |unsupported|finish=>exact a
 |yield|fork|await|register|choose|os|call|genState|newGen|resume=>exact a.elim
 |rule _ k ih|«at» _ k ih|point _ k ih|loadIfAlive _ k ih|fresh k ih|ask k ih|handled _ k ih|stack k ih|thread k ih|alloc _ k ih|load _ _ k ih=>exact λu=>ih u (a u)
 |update _ _ f' k ih=>exact⟨a.1,λu=>ih u (a.2 u)⟩
theorem KT.pure(x:α):KT (Pure.pure x:Sem α):=trivial
theorem KT.ite{c:Prop}[Decidable c]{a b:Sem α}(x:KT a)(y:KT b):KT (if c then a else b):=by split<;>assumption
theorem Ej(x:String):KT (PySem.unsupported x:Sem α):=trivial
theorem Ic(a:Addr):KT (PySem.load a):=λ_=>trivial
theorem Jd(v:Value):KT (fieldsOf v):=by
 unfold fieldsOf;split
 ·refine KT.bind (Ic _) λo=>?_;split
  ·exact KT.pure _
  ·exact Ej _
 ·exact Ej _
theorem E9(v:Value)(i:Nat):KT (field v i):=by
 unfold field;refine KT.bind (Jd v) λo=>?_;split
 ·exact KT.pure _
 ·exact Ej _
theorem D6(v x:Value)(i:Nat)(hi:i≠2):KT (setField v i x):=by
 unfold setField;split
 ·unfold updateField;refine KT.bind (Ic _) λo=>?_;split
  ·refine KT.ite ⟨λo=>?_,λ_=>trivial⟩ (Ej _);obtain⟨c,d,dt,sl⟩:=o;cases dt with
   |fields vs=>exact⟨rfl,Array.getElem?_setIfInBounds_ne hi⟩
   |_=>exact⟨rfl,rfl⟩
  ·exact Ej _
 ·exact Ej _
theorem Dl(e:Value)(f:Option Addr):KT (setFlight e f):=by unfold setFlight;refine KT.bind (E9 _ _) λtb=>?_;exact KT.ite (D6 _ _ _ (by decide)) (KT.pure _)
theorem Gf:KT PySem.stack:=λ_=>trivial
theorem Je:∀l:List Env,KT (readyFrames l)
 |[]=>trivial
 |env::outer=>by
  unfold readyFrames;split
  ·refine KT.bind (Ic _) λo=>KT.ite (KT.pure _) ?_
   refine KT.bind ?_ λi=>KT.bind ?_ λback=>KT.bind ⟨λo=>⟨rfl,rfl⟩,λ_=>trivial⟩ λ_=>Je outer
   ·unfold behindIsImport;exact KT.ite (KT.pure _) (KT.ite (KT.pure _) (KT.bind (E9 _ _) λ_=>KT.pure _))
   ·unfold keptBack;split
    ·refine KT.ite (KT.pure _) (KT.bind ?_ λ_=>KT.pure _);unfold underTheClaimsCaller;exact KT.bind Gf λ_=>KT.pure _
    ·exact KT.pure _
  ·exact Ej _
theorem Kq(env:Env):KT (PySem.frameOf env):=by
 unfold PySem.frameOf frameEnvs;refine KT.bind (KT.bind Gf λ_=>KT.pure _) λl=>KT.bind ?_ λr=>?_
 ·unfold frameObject;split
  ·exact KT.pure _
  ·exact KT.bind (Je _) λ_=>KT.pure _
 ·split
  ·exact KT.pure _
  ·exact Ej _
theorem Ie(ty:String)(vs:List Value):KT (newFields ty vs):=by
 unfold newFields newObj;dsimp only;split
 ·exact Ej _
 ·exact λ_=>trivial
theorem Na(f:Addr)(b:Bool):KT (entryPlaceOf f b):=by
 unfold entryPlaceOf;refine KT.bind Gf λ_=>?_
 split<;>exact KT.pure _
theorem Ld(e:Value)(env:Env):KT (noteFrame e env):=by
 have last:∀h:Value,∀f:Addr,KT (do setField e 1 (<-EntryCells.newEntry h (<-PySem.frameOf env) .none (rawInt f) .none (<-entryPlaceOf f (h != .none)))):=λh f =>
  KT.bind (Kq env) λ_=>KT.bind (Na _ _) λ_=>KT.bind (Ie _ _) λ_=>D6 _ _ _ (by decide)
 unfold noteFrame;split
 ·refine KT.bind (E9 _ _) λh=>?_;split
  ·refine KT.bind (E9 _ _) λx=>KT.ite (KT.pure _) (KT.bind (D6 _ _ _ (by decide)) λ_=>last h _)
  ·exact last h _
 ·exact Ej _
theorem Eo(e:Value)(env:Env):KT (leaving env e):=by unfold leaving;exact KT.bind (Ld _ _) λ_=>Dl _ _
structure PJ(nc:Bool)(P:Program)(w:World)(outer:List Env)(H:Hp)(s:Shared)(a:Addr)(cls a0:Value)(D:Option Addr)(B:Heap)(H':Hp)(s':Shared):Prop where
 os:s'.os=s.os
 bare:AllBare s'.gens
 un:Un (CZ outer) [] H H' s.heap s'.heap
 hok:DR P w H' s'.heap
 fly:Heap.FlyingW B outer a cls a0 s'.heap
 old:∀b o,s.heap.get? b=some o->b∉CZ outer->∀o',s'.heap.get? b=some o'->B.get? b=some o'
 trk:∀b u,H' b=some u->∀o',s'.heap.get? b=some o'->B.get? b=some o'
 dct:∃oe,s'.heap.get? a=some oe/\oe.dict=D
 ctx:nc=true->∃oe,s'.heap.get? a=some oe/\Dw oe=some .none
def Hy(nc:Bool)(P:Program)(w:World):NC:=λouter H s E e s'=>∃a cls a0 D B H',e=.ref a/\PJ nc P w outer H s a cls a0 D B H' s'/\E cls D H'
abbrev GH(P:Program)(w:World):NC:=Hy false P w
theorem As.somewhere{P:Program}{w:World}(x:As P w H h a o):∃ob,h.get? a=some ob:=by
 cases o with
 |lst xs=>obtain⟨_,_,_,_,e⟩:=x;exact⟨_,e⟩
 |tup xs=>obtain⟨_,_,_,ob,e,_⟩:=x;exact⟨ob,e⟩
 |dK kvs=>obtain⟨_,_,_,_,ob,_,_,e,_⟩:=x;exact⟨ob,e⟩
 |dT kvs=>obtain⟨_,_,_,_,ob,_,_,e,_⟩:=x;exact⟨ob,e⟩
 |set S n=>obtain⟨ob,_,_,_,e,_⟩:=x;exact⟨ob,e⟩
 |ins C dx fs=>obtain⟨_,_,_,e,_⟩:=x;exact⟨_,e⟩
 |own y=>exact x
 |xd fs=>obtain⟨_,⟨ob,_,_,e,_⟩,_⟩:=x;exact⟨ob,e⟩
 |rng lo hi=>obtain⟨_,_,_,e⟩:=x;exact⟨_,e⟩
 |frz ob u=>obtain⟨e,_⟩:=x;exact⟨ob,e⟩
 |tbl ps=>exact⟨_,(show h.get? a=some _ from x)⟩
 |met f y=>exact⟨_,(show h.get? a=some _ from x)⟩
 |ext φ=>obtain⟨_,e,_⟩:=x;exact e
variable{nc:Bool}{cls a0:Value}{B:Heap}
theorem AO.slotted(I:AO X pins σ H s)(k:∀b o,s.heap.get? b=some o->b∉CZ X.stack->h'.get? b=some o)
  (f:∀b o,s.heap.get? b=some o->b∈CZ X.stack->∃sl,h'.get? b=some {o with slots:=sl}):AO X pins σ H {s with heap:=h',toks:=t'}:=by
 have u:Un (CZ X.stack) [] H H s.heap h':=⟨λb o e _ hb _=>k b o e hb,λb o e _ hb _=>f b o e hb,λ_ _ _ n _=>n,λb o e _=>by
  by_cases hb:b∈CZ X.stack
  ·obtain⟨sl,q⟩:=f b o e hb;exact⟨_,q⟩
  ·exact⟨o,k b o e hb⟩,λ_ _ q=>q,λ_ _ _ q=>q,λb ps q=>⟨#[],by rw[q];simp⟩⟩
 have hok:DR X.prog X.w H h':=λb u q=>(I.hok b u q).stay (λc v hc r=>k c v r λhm=>by
  have z:=I.stkFree c hm;rcases hc with e|e
  ·rw[e,q]at z;cases z
  ·rw[e]at z;cases z) (λ_ q=>q) λ_ _ q=>q
 exact I.call (g':=s.gens) (d':=s.drawn) (ch:=[]) u hok I.bare (λb z=>absurd z (by simp))
theorem AO.frameData(I:AO X pins σ H s){o:Obj}(e:s.heap.get? b=some o)(hb:b∈CZ X.stack):∀vs,o.data≠.fields vs:=by obtain⟨_,o',e',nf⟩:=I.stack.mem hb;rw[e]at e';cases e';exact nf
theorem PJ.fresh{D:Option Addr}(F:PJ nc X.prog X.w X.stack H s a cls a0 D B H' s'):H' a=none/\s.heap.get? a=none:=by
 have hB:=F.fly.2.1;obtain⟨oe,vs,he,_,hd,_⟩:=F.fly.first;refine⟨?_,?_⟩
 ·cases q:H' a with
  |none=>rfl
  |some u =>
   have z:=F.trk a u q oe he;rw[hB]at z;cases z
 ·cases q:s.heap.get? a with
  |none=>rfl
  |some o =>
   by_cases hm:a∈CZ X.stack
   ·obtain⟨_,o',e',nf⟩:=F.fly.2.2.1.mem hm;rw[he]at e';cases e';exact absurd hd (nf vs)
   ·have z:=F.old a o q hm oe he;rw[hB]at z;cases z
theorem PJ.unAt{D:Option Addr}(I:AO X pins σ H s)(F:PJ nc X.prog X.w X.stack H s a cls a0 D B H' s')(hB:B.StaysIn h')(sm:s'.heap.UpToSlots h'):
  Un (CZ X.stack) [] H H' s.heap h'/\DR X.prog X.w H' h':=by
 have up:∀b o,s.heap.get? b=some o->b∈CZ X.stack->∃sl,h'.get? b=some {o with slots:=sl}:=λb o e hb=>by obtain⟨sl,e1⟩:=F.un.slot b o e (I.stkFree b hb) hb (by simp);obtain⟨sl',e2⟩:=sm b _ e1 (show ∀vs,o.data≠.fields vs from I.frameData e hb);exact⟨sl',e2⟩
 refine⟨⟨λb o e n hb hx=>hB b o (F.old b o e hb o (F.un.keep b o e n hb hx)),λb o e _ hb _=>up b o e hb,F.un.free,λb o e hx=>?_,F.un.tups,F.un.frzs,F.un.tbls⟩,λb u q=>?_⟩
 ·by_cases hb:b∈CZ X.stack
  ·obtain⟨sl,q⟩:=up b o e hb;exact⟨_,q⟩
  ·obtain⟨o',e1⟩:=F.un.there b o e hx;exact⟨o',hB b o' (F.old b o e hb o' e1)⟩
 ·refine (F.hok b u q).stay (λc v hc r=>?_) (λ_ q=>q) λ_ _ q=>q
  rcases hc with e|e
  ·subst e;exact hB c v (F.trk c u q v r)
  ·exact hB c v (F.trk c _ e v r)
theorem PJ.land{D:Option Addr}(I:AO X pins σ H s)(F:PJ nc X.prog X.w X.stack H s a cls a0 D B H' s')(hB:B.StaysIn h')(sm:s'.heap.UpToSlots h'):AO X pins σ H' {s' with heap:=h',toks:=t'}:=by obtain⟨u,hok⟩:=F.unAt I hB sm;exact I.call' (s':={s' with heap:=h',toks:=t'}) (ch:=[]) F.os u hok F.bare (λb z=>absurd z (by simp))
def D7(a:Addr)(cls:Value)(D:Option Addr)(n:Bool)(h:Heap):Prop:=∃o vs,h.get? a=some o/\o.cls=cls/\o.data=.fields vs/\o.dict=D/\(n=true->∃t:Addr,vs=#[.ref t,.none,.none,.none,.bool false,.none])
def Hz(a:Addr)(cls:Value)(D:Option Addr)(n:Bool):HO:=.ext (D7 a cls D n)
theorem PJ.land'{D:Option Addr}{l:List Env}(I:AO X pins σ H s)(F:PJ nc X.prog X.w X.stack H s a cls a0 D B H' s')(fl:Heap.FlyingW B l a cls a0 h')(sm:s'.heap.UpToSlots h')(dk:DK s'.heap h'):
  AO X pins σ (Ad H' a (Hz a cls D false)) {s' with heap:=h',toks:=t'}:=by
 obtain⟨u,hok⟩:=F.unAt I fl.1 sm;obtain⟨n1,n2⟩:=F.fresh;obtain⟨oe,vs,he,hc,hd,_⟩:=fl.first;have ne:∀b o,s.heap.get? b=some o->b≠a:=λb o e z=>by rw[z,n2]at e;cases e
 have ne2:∀b o,H' b=some o->b≠a:=λb o e z=>by rw[z,n1]at e;cases e
 refine I.call' (s':={s' with heap:=h',toks:=t'}) (ch:=[]) F.os ⟨u.keep,u.slot,λb o e n hx=>?_,u.there,λb xs q=>?_,λb o v q=>?_,λb ps q=>?_⟩ (λb v q=>?_) F.bare (λb z=>absurd z (by simp))
 ·rw[AI (ne b o e)];exact u.free b o e n hx
 ·have q':=u.tups b xs q;rw[AI (ne2 b _ q')];exact q'
 ·have q':=u.frzs b o v q;rw[AI (ne2 b _ q')];exact q'
 ·obtain⟨more,q'⟩:=u.tbls b ps q;exact⟨more,by rw[AI (ne2 b _ q')];exact q'⟩
 ·by_cases hb:b=a
  ·subst hb;rw[AC]at q;cases q;obtain⟨ow,hw,hwd⟩:=F.dct;exact⟨⟨oe,vs,he,hc,hd,(dk.get hw he).1.trans hwd,λz=>by cases z⟩,⟨oe,he⟩,λh1 h2 ⟨o,ws,e,r⟩ k=>⟨o,ws,k o e,r⟩⟩
  ·rw[AI hb]at q;exact (hok b v q).stay (λc v' _ r=>r) (λc z=>by rw[AI (ne2 c _ z)];exact z) λc xs z=>by rw[AI (ne2 c _ z)];exact z
def Nb(X:Cx)(C:Value)(E:XK):Prop:=
 ∀(pins:List (Addr×Obj)) (σ:St) (H:Hp) (s:Shared) (h':Heap) (e:Addr) (args:List Value),AO X pins σ H s->Heap.MadeExcOf s.heap h' e C args->E C none H->X.xe (.ref e) {s with heap:=h'}
def CS(CX:NC)(X:Cx)(E:St->XK):Prop:=∀(pins:List (Addr×Obj)) (σ:St) (H:Hp) (s:Shared) (e:Value) (s':Shared),AO X pins σ H s->CX X.stack H s (E σ) e s'->X.xe e s'
section
variable{P:Program}{w:World}{K:PySem.W.Frag}{mg:Str->Option Value}{base:Heap}{N:List Str}{cd:Value}{A:Around}{outer:List Env}{E:XK}
theorem BI{C:Value}:Nb (DI (Hy nc P w) P w K mg base N qual scope f cd A outer s H E) C E:=by
 intro pins σ H1 s1 h1 e args I hx hE;generalize hX:DI (Hy nc P w) P w K mg base N qual scope f cd A outer s H E=X at I⊢;have hst:X.stack=X.env::X.outer:=by rw[<-hX];rfl
 have hfr:X.env.frame=some X.env.locals:=by rw[<-hX];rfl
 have hxe:X.xe=λe s'=>wpAny (model P w) X.A (leaving X.env e) (λ_ s''=>Hy nc P w X.outer X.H₀ X.s₀ E e s'') (λe' s''=>Hy nc P w X.outer X.H₀ X.s₀ E e' s'') s':=by rw[<-hX];rfl
 have hex:X.ex=[]:=by rw[<-hX];rfl
 have hp:X.prog=P:=by rw[<-hX];rfl
 have hw:X.w=w:=by rw[<-hX];rfl
 subst hp hw;rw[hxe];have fr:=I.stack;have hin:∀env∈X.stack,∀b,env.frame=some b->b∈CZ X.stack:=λenv he b hb=>YD.mpr ⟨env,he,hb⟩
 have fr':s1.heap.FunFrames (PySem.W.hideAll s1.heap (CZ X.stack)) (X.env::X.outer):=by rw[<-hst];exact PySem.W.funFrames_hide fr hin
 refine wpAny_mono (KT.run (Eo _ _) (wpAny_leaves_madeW (Q:=λ_ s2=>∃h2 t,s2={s1 with heap:=h2}/\Heap.FlyingW (PySem.W.hideAll s1.heap (CZ X.stack)) X.outer e C (.ref t) h2/\h1.UpToSlots h2) (E:=λ_ _=>False) (base:=PySem.W.hideAll s1.heap (CZ X.stack)) (h:=s1.heap) (L:=X.env.locals) (by rw[<-hst];exact I.ok.frames) hfr (λb o q=>PySem.W.of_hideAll _ q) fr' hx λh2 t x1 x2 x3 x4=>⟨h2,t,rfl,x1,x4⟩)) (λ_ s2 q=>?_) λ_ _ q=>q.1.elim
 obtain⟨⟨h2,t,rfl,x1,x4⟩,dk⟩:=q;have kept:∀b o,s1.heap.get? b=some o->b∉CZ X.stack->h2.get? b=some o:=λb o q hb=>x1.1 b o (XN _ q hb)
 have J:AO X pins σ H1 {s1 with heap:=h2,toks:=s1.toks}:=I.slotted kept λb o q hb=>x4 b o (hx.keeps b o q) (I.frameData q hb)
 have un:Un (CZ X.outer) [] X.H₀ H1 X.s₀.heap h2:=by have z:=J.base;rw[hex]at z;exact z
 have hdc:∃oe,h2.get? e=some oe/\oe.dict=none:=by obtain⟨ob,hob,_⟩:=x1.there;obtain⟨t',he,_,_⟩:=hx.there;exact⟨ob,hob,(dk.get he hob).1.trans rfl⟩
 have hcx:∃oe,h2.get? e=some oe/\Dw oe=some .none:=by obtain⟨ob,hob,_⟩:=x1.there;obtain⟨t',he,_,_⟩:=hx.there;exact⟨ob,hob,(dk.get he hob).2.trans rfl⟩
 refine⟨e,C,.ref t,none,_,H1,rfl,⟨J.os,J.bare,un,J.hok,x1,λb o q hb o' q'=>?_,λb u q o' q'=>?_,hdc,λ_=>hcx⟩,hE⟩
 ·obtain⟨o1,q1⟩:=I.base.there b o q (by rw[hex];simp)
  have hn:b∉CZ X.stack:=λz=>by
   rcases WY.mp (I.stkSub b z) with y|y
   ·exact absurd (WP (WL q) I.ok.above) (by rw[y];exact Wb _)
   ·exact hb y
  have q2:=kept b o1 q1 hn;rw[q']at q2;cases q2;exact XN _ q1 hn
 ·have hn:b∉CZ X.stack:=λz=>by
   have y:=I.stkFree b z;rw[q]at y;cases y
  obtain⟨o1,r⟩:=(I.hok b u q).somewhere;have q2:=kept b o1 r hn;rw[q']at q2;cases q2;exact XN _ r hn
theorem An:CS (Hy nc P w) (DI (Hy nc P w) P w K mg base N qual scope f cd A outer s H E) (λ_=>E):=by
 intro pins σ H1 s1 e s2 I h;generalize hX:DI (Hy nc P w) P w K mg base N qual scope f cd A outer s H E=X at I h⊢;have hst:X.stack=X.env::X.outer:=by rw[<-hX];rfl
 have hfr:X.env.frame=some X.env.locals:=by rw[<-hX];rfl
 have hxe:X.xe=λe s'=>wpAny (model P w) X.A (leaving X.env e) (λ_ s''=>Hy nc P w X.outer X.H₀ X.s₀ E e s'') (λe' s''=>Hy nc P w X.outer X.H₀ X.s₀ E e' s'') s':=by rw[<-hX];rfl
 have hex:X.ex=[]:=by rw[<-hX];rfl
 have hp:X.prog=P:=by rw[<-hX];rfl
 have hw:X.w=w:=by rw[<-hX];rfl
 subst hp hw;rw[hxe];obtain⟨a,cls,a0,D,B,H',rfl,F,hE⟩:=h;have fl:Heap.FlyingW B (X.env::X.outer) a cls a0 s2.heap:=by rw[<-hst];exact F.fly
 refine wpAny_mono (KT.run (Eo _ _) (wpAny_leaves_onW (Q:=λ_ s3=>∃h3,s3={s2 with heap:=h3}/\Heap.FlyingW B X.outer a cls a0 h3/\s2.heap.UpToSlots h3) (E:=λ_ _=>False) (by rw[<-hst];exact I.ok.frames) hfr fl λh3 x1 x2=>⟨h3,rfl,x1,x2⟩)) (λ_ s3 q=>?_) λ_ _ q=>q.1.elim
 obtain⟨⟨h3,rfl,x1,x2⟩,dk⟩:=q;have J:AO X pins σ H' {s2 with heap:=h3,toks:=s2.toks}:=F.land I x1.1 x2;have un:Un (CZ X.outer) [] X.H₀ H' X.s₀.heap h3:=by have z:=J.base;rw[hex]at z;exact z
 have hdc:∃oe,h3.get? a=some oe/\oe.dict=D:=by obtain⟨ob,hob,_⟩:=x1.there;obtain⟨ow,hw,hwd⟩:=F.dct;exact⟨ob,hob,(dk.get hw hob).1.trans hwd⟩
 have hcx:nc=true->∃oe,h3.get? a=some oe/\Dw oe=some .none:=λhnc=>by obtain⟨ob,hob,_⟩:=x1.there;obtain⟨ow,hw,hwd⟩:=F.ctx hnc;exact⟨ob,hob,(dk.get hw hob).2.trans hwd⟩
 refine⟨a,cls,a0,D,B,H',rfl,⟨J.os,J.bare,un,J.hok,x1,λb o q hb o' q'=>?_,λb u q o' q'=>?_,hdc,hcx⟩,hE⟩
 ·obtain⟨o1,q1⟩:=I.base.there b o q (by rw[hex];simp)
  have hn:b∉CZ X.stack:=λz=>by
   rcases WY.mp (I.stkSub b z) with y|y
   ·exact absurd (WP (WL q) I.ok.above) (by rw[y];exact Wb _)
   ·exact hb y
  obtain⟨o2,q2⟩:=F.un.there b o1 q1 (by simp);have q3:=F.old b o1 q1 hn o2 q2;have q4:=x1.1 b o2 q3;rw[q']at q4;cases q4;exact q3
 ·obtain⟨o2,q2⟩:=(F.hok b u q).somewhere;have q3:=F.trk b u q o2 q2;have q4:=x1.1 b o2 q3;rw[q']at q4;cases q4;exact q3
end
abbrev Fh:List Value:=[.type "ValueError",.type "Exception",.type "BaseException",.type "object"]
theorem PK{K:PySem.W.Frag}{newId:String}{bmB:List Value}(kin:K.In h)(q:PySem.W.excIn K C bmB newId=true):
  ∃tl N nm qn bs dy sn sub ab col dd k0 k1 k2 k3 k5 mN,h.get? C=some (excClassObj nm qn C N bs tl dy sn sub ab col dd k0 k1 k2 k3 k5 newId)/\h.Ns N mN/\mN "__init__"=none/\OwnTail h bmB tl:=by
 unfold PySem.W.excIn at q
 split at q
 next dd cd sl ho =>
  split at q
  next C2 tl k0 k1 k2 k3 n k5 hm hs =>
   simp only[Bool.and_eq_true,beq_iff_eq,Bool.not_eq_true']at q;obtain⟨⟨⟨⟨⟨e1,e2⟩,e3⟩,e4⟩,e5⟩,e6⟩:=q;subst e1 e2;obtain⟨nm,bs,mro,N,qn,dy,sn,sub,ab,col,del⟩:=cd;dsimp only at hm e3 e5 e6;subst hm e3
   have e7:sl=#[k0,k1,k2,k3,some (.builtin n),k5]:=by obtain⟨l⟩:=sl;simp only at hs;rw[hs]
   subst e7;exact⟨tl,N,nm,qn,bs,dy,sn,sub,ab,col,dd,k0,k1,k2,k3,k5,_,kin _ _ ho,.of_isNs (PySem.W.isNs_of_in kin e5),PySem.W.nsMap_none_of_in kin e5 e6,PySem.W.tail_of_in kin e4⟩
  next=>cases q
 next=>cases q
def Nc(C:Addr)(E:XK)(t:TA):TS:=λ_ σ H=>t σ H λvs H1=>vs.length<=sizeLine/\E (.ref C) none H1
section
variable{E:XK}{e:Expr}{t:TA}{np cpos:Pos}
theorem Bo(hc:X.calm=true)(hC:PySem.W.excIn X.K C Fh "ValueError.__new__"=true)(hg:Gl X x)(hm:X.mg x=some (.ref C))(hx:Nb X (.ref C) E)(ha:PA X (e::es) t)
  (hdb:(x==("__debug__":Str))=false:=by decide) (he:starEach (e::es) X.env=(false,eval e X.env)::starEach es X.env:=by rfl) (hpl:(backTo cpos (starEach es X.env)).any (·.1)=false:=by rfl):
  PS X (.Raise (some (.Call (.Name x np) (e::es) [] cpos)) none pos) (Nc C E t):=by
 intro pins s σ H D I h;obtain⟨tl,N,nm,qn,bs,dy,sn,sub,ab,col,dd,k0,k1,k2,k3,k5,mN,hO,hN,hni,T⟩:=PK I.mod.kin hC;have FB:=X0;have arg:=ha cpos pins s σ H _ I h;refine wpAny_Raise_call_subT (C:=C) (nm:=nm) (q:=qn) (N:=N) (bs:=bs) (bm:=tl) (hdct:=dy) (sn:=sn) (sub:=sub) (ab:=ab) (col:=col) (dd:=dd) (k0:=k0) (k1:=k1) (k2:=k2) (k3:=k3) (k5:=k5) FB (mN:=mN) (T.hasType FB.hasBase) (I.ok.hd hc) ?_ hni (C6 I hg hm ⟨rfl,?_⟩ hdb)
 ·rw[he];show (false||(backTo cpos (starEach es X.env)).any (·.1))=false;rw[hpl];rfl
 ·rw[he]at arg⊢;refine Calls.evalArgs_plain (BJ arg λus s2 z9=>?_);obtain⟨vs,H2,I2,r,z,q⟩:=z9;exact⟨rfl,by rw[<-r.length];exact z,I2.bk _ _ hO,hN.keeps I2.bk,T.keeps I2.bk,λh2 a hq=>hx pins σ H2 s2 h2 a us I2 hq q⟩
end
def Gg(sp:Sp)(dvs:List V)(E:St->XK)(t:TA):TE:=λσ H Q=>t σ H λvs H1=>sp (vs++dvs) H1 Q (E σ)
section
variable{k:Nat}{sp:Sp}{dvs:List V}{ds:List Value}{E:St->XK}{p:Pos}{e:Expr}{t:TA}
theorem Jf(F:Di X.prog X.w X.K X.mg X.base CX k f fd ps sp)(hr:BU k X.A)(hg:Gl X x)(hm:X.mg x=some (.ref f))(hk:PySem.W.keepIn X.K (.ref f)=true)(hb:C7 X.K fd ps ds)(hd:Am dvs ds)(hx:CS CX X E)
  (ha:PA X (e::es) t) (hdb:(x==("__debug__":Str))=false:=by decide) (he:starEach (e::es) X.env=(false,eval e X.env)::starEach es X.env:=by rfl) (hpl:(backTo pos (starEach es X.env)).any (·.1)=false:=by rfl):
  PE X (.Call (.Name x p) (e::es) [] pos) (Gg sp dvs E t):=by
 intro pins s σ H Q I h;refine wpAny_Call_Name_kw (C6 I hg hm ?_ hdb);refine Xq (h₀:=X.base) I.ok.mod.kin hk (BJ (ha pos pins s σ H _ I h) λus s1 ⟨vs,H1,I1,r,q⟩=>⟨I1.kIn,?_⟩) he hpl;have r2:Am (vs++dvs) (us++ds):=r.append hd;have hl:(us++ds).length=ps.length:=by rw[<-r2.length];exact F.len _ _ _ _ q
 refine wpAny_call (codeAny_mono (F.run X.A X.stack s1 H1 ⟨us,[]⟩ (us++ds) (vs++dvs) Q (E σ) hr I1.env0 (hb s1 us I1.kIn hl) r2 q) λrs s2 hq=>?_);rcases rs with er|fl
 ·exact hx pins σ H1 s1 er s2 I1 hq
 ·cases fl with
  |ret u=>exact I1.after hq
  |next=>exact False.elim hq
  |brk=>exact False.elim hq
  |cont=>exact False.elim hq
end
variable{sp:Sp}
section
variable{P:Program}{w:World}{K:PySem.W.Frag}{mg:Str->Option Value}{base:Heap}
theorem BY.okX{st:Stmt}{N:List Str}{k:Nat}(F:BY K x qual st f fd)(S:AK N ps (AH st))(len:∀vs H Q E,sp vs H Q E->vs.length=ps.length)
  (hbody:∀(cdv:Value) (A:Around) (outer:List Env) (s:Shared) (H:Hp) (vs:List V) (Q:VK) (E:XK),BU k (A.deeper (envOfC qual (AH st) s.heap.objs.size f cdv))->sp vs H Q E ->
   ∃t,Fy (DI (Hy nc P w) P w K mg base N qual (AH st) f cdv A outer s H E) (BW st) t/\t {nx:=λ_ H'=>Q .non H',rt:=Q} (CV N vs) H):Di P w K mg base (Hy nc P w) (k+1) f fd ps sp:=by
 obtain⟨oc,od,kV,doc,pm,an,cdv,ct,osl,rfl,lk,hcd⟩:=F.ex;exact QF lk hcd S len λA outer s H vs Q E hr hsp=>hbody cdv A outer s H vs Q E hr hsp
end
theorem PS.nox{st:Stmt}{t:TS}(h:PS X.nox st t):PS X st t:=λpins s σ H D I hw =>
 wpAny_mono (h pins s σ H D (I.wish _) hw) (λ_ _ q=>q.unwish) λ_ _ q=>q.elim
abbrev Cx.but(X:Cx)(p:List (Addr×Obj))(E:Value->Shared->Prop):Cx:={X with pn:=p,xe:=E}
theorem Cx.Ok.but(ok:X.Ok)(p:List (Addr×Obj))(E:Value->Shared->Prop):(X.but p E).Ok:=
 ⟨ok.mod,ok.kind,ok.glob,ok.blt,ok.above,ok.inj,ok.has,ok.cab,ok.hd,ok.frames,ok.stk,ok.exf,ok.bs,ok.bsz,ok.noex,ok.exfs,ok.funs,ok.frf⟩
theorem Cx.Ok.unbut{p:List (Addr×Obj)}(ok:(X.but p E).Ok):X.Ok:=
 ⟨ok.mod,ok.kind,ok.glob,ok.blt,ok.above,ok.inj,ok.has,ok.cab,ok.hd,ok.frames,ok.stk,ok.exf,ok.bs,ok.bsz,ok.noex,ok.exfs,ok.funs,ok.frf⟩
def Cx.tr(X:Cx)(p:List (Addr×Obj))(W:St->XK):Cx:=X.but p λe s'=>∃pins σ H s,AO (X.but p λ_ _=>False) pins σ H s/\GH X.prog X.w X.stack H s (W σ) e s'
def Cx.hdl(X:Cx)(v:Value):Cx:={X with A:=X.A.mark (some v),calm:=false,xe:=λ_ _=>False}
section
variable{pins' p:List (Addr×Obj)}{E':Value->Shared->Prop}
theorem AO.but(I:AO X pins σ H s)(E:Value->Shared->Prop):AO (X.but (X.pn++pins) E) [] σ H s:=
 ⟨I.ok.but _ _,I.os,I.bare,I.base,I.loc,I.cell,I.free,I.freeC,λq hq=>I.pin q (by simpa using hq),I.hok,I.len⟩
theorem AO.unbut(I:AO (X.but (X.pn++pins) E) pins' σ H s):AO X pins σ H s:=
 ⟨I.ok.unbut,I.os,I.bare,I.base,I.loc,I.cell,I.free,I.freeC,λq hq=>I.pin q (YX _ hq),I.hok,I.len⟩
theorem AO.rebut(I:AO (X.but p E) pins σ H s):AO (X.but p E') pins σ H s:=
 ⟨I.ok.unbut.but _ _,I.os,I.bare,I.base,I.loc,I.cell,I.free,I.freeC,I.pin,I.hok,I.len⟩
theorem AO.hdl(I:AO X pins σ H s)(v:Value):AO (X.hdl v) pins σ H s:=
 ⟨⟨I.ok.mod,I.ok.kind,I.ok.glob,I.ok.blt,I.ok.above,I.ok.inj,I.ok.has,I.ok.cab,λz=>absurd z (by show ¬(false=true);decide),I.ok.frames,I.ok.stk,I.ok.exf,I.ok.bs,I.ok.bsz,I.ok.noex,I.ok.exfs,I.ok.funs,I.ok.frf⟩,
  I.os,I.bare,I.base,I.loc,I.cell,I.free,I.freeC,I.pin,I.hok,I.len⟩
theorem AO.unhdl{v:Value}(hd:X.calm=true->X.A.handled=none)(I:AO (X.hdl v) pins σ H s):AO X pins σ H s:=
 ⟨⟨I.ok.mod,I.ok.kind,I.ok.glob,I.ok.blt,I.ok.above,I.ok.inj,I.ok.has,I.ok.cab,hd,I.ok.frames,I.ok.stk,I.ok.exf,I.ok.bs,I.ok.bsz,I.ok.noex,I.ok.exfs,I.ok.funs,I.ok.frf⟩,
  I.os,I.bare,I.base,I.loc,I.cell,I.free,I.freeC,I.pin,I.hok,I.len⟩
theorem Gh{W:St->XK}:CS (GH X.prog X.w) (X.tr p W) W:=λpins σ H s e s' I h=>⟨pins,σ,H,s,AO.rebut (X:=X) I,h⟩
theorem SP.unbut{f:Flow}(h:SP (X.but (X.pn++pins) E) pins' D f s'):SP X pins D f s':=by
 cases f with
 |next=>obtain⟨a,b,I,q⟩:=h;exact⟨a,b,I.unbut,q⟩
 |brk=>obtain⟨a,b,I,q⟩:=h;exact⟨a,b,I.unbut,q⟩
 |cont=>obtain⟨a,b,I,q⟩:=h;exact⟨a,b,I.unbut,q⟩
 |ret u=>obtain⟨v,a,b,I,q⟩:=h;exact⟨v,a,b,I.unbut,q⟩
theorem GN{M:Model}{A:Around}{n:Str}{Q:Unit->Shared->Prop}(I:AO X pins σ H s)(hN:X.N.Nodup)(hi:X.N[i]?=some n)(hl:X.env.scope.names.lookup n=some .local)
  (h:∀s',AO X pins (σ.set i none) H s'->Q () s'):wpAny M A (do bindName X.env n .none;unbindBehindTheSuite X.env n pos) Q E s:=by
 obtain⟨m,hn,lk⟩:=id I.loc;have hcls:(X.env.scope.kind==.class||(X.env.scope.kind==.module&&X.env.locals != X.env.globals))=false:=by rw[I.ok.kind];rfl
 refine wpAny_nameGoes_keeps (show X.env.kindOf n=some .local from hl) hn hcls λh' v hn' sb=>h _ ?_
 have away:∀b o,X.s₀.heap.get? b=some o->b≠X.env.locals:=λb o e=>Wj (WP (WL e) I.ok.above)
 have hiσ:i<σ.length:=by rw[I.len];exact (WF.mp hi).1
 refine⟨I.ok,I.os,I.bare,⟨λb o e nn hb hx=>(sb.2 b (away b o e)).trans (I.base.keep b o e nn hb hx),λb o e nn hb hx=>?_,I.base.free,λb o e hx=>?_,I.base.tups,I.base.frzs,I.base.tbls⟩,
  ⟨_,hn',λj y w e1 e2 e3=>?_⟩,λy c e=>?_,I.free,I.freeC,λq hq=>?_,λb u q=>?_,by simpa using I.len⟩
 ·obtain⟨sl,e1⟩:=I.base.slot b o e nn hb hx;exact⟨sl,(sb.2 b (away b o e)).trans e1⟩
 ·obtain⟨o',e1⟩:=I.base.there b o e hx;exact⟨o',(sb.2 b (away b o e)).trans e1⟩
 ·by_cases hj:j=i
  ·subst hj;rw[Xn hiσ]at e2;cases e2
  ·rw[X2 (Ne.symm hj)]at e2;obtain⟨u,r,z⟩:=lk j y w e1 e2 e3;refine⟨u,r,?_⟩;rcases z with⟨k,z⟩|⟨k,c,z,y'⟩
   ·have ny:y≠n:=λq=>hj (E5 hN e1 (q▸hi))
    exact .inl ⟨k,by simp[ny,z]⟩
   ·exact .inr ⟨k,c,z,y'.sameBut sb (I.cne y c z)⟩
 ·obtain⟨w,z⟩:=I.cell y c e;exact⟨w,z.sameBut sb (I.cne y c e)⟩
 ·obtain⟨e,nn,ne,nf,d⟩:=I.pin q hq;exact⟨(sb.2 q.1 ne).trans e,nn,ne,nf,d⟩
 ·refine (I.hok b u q).stay (λc w hc r=>(sb.2 c λz=>?_).trans r) (λ_ q=>q) λ_ _ q=>q
  have fz:=I.free;rcases hc with e|e
  ·rw[<-z,e,q]at fz;cases fz
  ·rw[<-z,e]at fz;cases fz
end
def S4(K:PySem.W.Frag)(R:Value)(i:Nat)(W:St->XK)(tb th:TS):TS:=λD σ H=>tb D σ H/\∀σ' cls D' H',W σ' cls D' H'->PySem.W.exmOne K cls R=some true/\∀a,H' a=none ->
 th {nx:=λσ2 H2=>D.nx (σ2.set i none) H2,rt:=D.rt,bk:=λσ2 H2=>D.bk (σ2.set i none) H2,ct:=λσ2 H2=>D.ct (σ2.set i none) H2} (σ'.set i (some (.ref a))) (Ad H' a (Hz a cls D' false))
section
variable{n:Str}{R:Addr}{W:St->XK}{b:List Stmt}{c0:Stmt}{suite:List Stmt}{tb th:TS}{np hpos:Pos}
theorem Q5(hN:X.N.Nodup)(hi:X.N[i]?=some n)(hl:X.env.scope.names.lookup n=some .local)(hg:Gl X x)(hm:X.mg x=some (.ref R))(hst:X.stack=X.env::X.outer)(hfr:X.env.frame=some X.env.locals)
  (hb:∀p,Fy (X.tr p W) b tb) (hs:∀v,Fy (X.hdl v) (c0::suite) th) (hd:(x==("__debug__":Str))=false:=by decide):
  PS X (.Try b [.ExceptHandler (some (.Name x np)) (some n) (c0::suite) hpos] [] [] pos) (S4 X.K (.ref R) i W tb th):=by
 intro pins s σ H D I h;obtain⟨h1,h2⟩:=h;refine wpAny_Try_except (wpAny_mono (hb (X.pn++pins) [] s σ H D (I.but _) h1) (λf s1 q=>?_) λe s1 q=>?_)
 ·have q':SP X pins D f s1:=SP.unbut (pins':=[]) q;cases f with
  |next=>exact wpAny_execs_nil q'
  |ret u=>exact q'
  |brk=>exact q'
  |cont=>exact q'
 ·obtain⟨pins0,σ0,H0,s0,I0,a,cls,a0,D',B,H',rfl,F,hW⟩:=q;have J0:AO X pins σ0 H0 s0:=I0.unbut;obtain⟨hx,hth⟩:=h2 σ0 cls D' H' hW;have fl:Heap.FlyingW B (X.env::X.outer) a cls a0 s1.heap:=by rw[<-hst];exact F.fly
  refine wpAny_mono (KT.run (Ld _ _) (wpAny_looks_onW (Q:=λ_ s4=>∃h4,s4={s1 with heap:=h4}/\Heap.HeldW B (X.env::X.outer) a cls a0 X.env.locals h4/\s1.heap.UpToSlots h4) (E:=λ_ _=>False) (by rw[<-hst];exact J0.ok.frames) hfr fl λh4 held4 sm4=>⟨h4,rfl,held4,sm4⟩)) (λ_ s4 q=>?_) λ_ _ q=>q.1.elim
  obtain⟨⟨h4,rfl,held4,sm4⟩,dk4⟩:=q;refine wpAny_mono (KT.run (Dl _ _) (wpAny_landsW (Q:=λ_ s5=>∃h5,s5={s1 with heap:=h5}/\Heap.FlyingW B (X.env::X.outer) a cls a0 h5/\h4.UpToSlots h5) (E:=λ_ _=>False) (s:={s1 with heap:=h4}) held4 λh5 fl5 sm5=>⟨h5,rfl,fl5,sm5⟩)) (λ_ s5 q=>?_) λ_ _ q=>q.1.elim
  obtain⟨⟨h5,rfl,fl5,sm5⟩,dk5⟩:=q;have J5:AO X pins σ0 H' {s1 with heap:=h5,toks:=s1.toks}:=F.land J0 fl5.1 (sm4.trans sm5);have K5:=J5.hdl (.ref a);refine wpAny_handleBy_cons (codeAny_handlers_test (C6 K5 hg hm ?_ hd)) (by intro q;cases q);obtain⟨ob,hob,hobc⟩:=fl5.there
  have LT:PySem.W.Looks (model X.prog X.w) h5 (typeOf (.ref a)) cls:=by subst hobc;exact (PySem.W.Looks.ld hob).andThen .now
  refine (PySem.W.exm_one J5.kIn LT hx).here ?_;show codeAny _ _ _ _ _;refine codeAny_handlers_suite_as ?_;refine wpAny_mono (KT.run (Dl _ _) (lands_againW (Q:=λ_ s6=>∃h6,s6={s1 with heap:=h6}/\Heap.FlyingW B (X.env::X.outer) a cls a0 h6/\h5.UpToSlots h6) (E:=λ_ _=>False) (s:={s1 with heap:=h5}) fl5 λh6 fl6 sm6=>⟨h6,rfl,fl6,sm6⟩)) (λ_ s6 q=>?_) λ_ _ q=>q.1.elim
  obtain⟨⟨h6,rfl,fl6,sm6⟩,dk6⟩:=q;have J6:AO X pins σ0 (Ad H' a (Hz a cls D' false)) {s1 with heap:=h6,toks:=s1.toks}:=F.land' J0 fl6 ((sm4.trans sm5).trans sm6) ((dk4.trans dk5).trans dk6);refine GY J6 hN hi (.inl hl) (v:=.ref a) rfl (λs7 I7=>?_) (.inr hl);have run:=hs (.ref a) pins s7 _ _ _ (I7.hdl (.ref a)) (hth a F.fresh.1);refine wpAny_mono run (λf s8 q8=>?_) λ_ _ z=>z.elim
  cases f with
  |next =>
   obtain⟨σ8,H8,I8,q8⟩:=q8;exact GN (I8.unhdl J0.ok.hd) hN hi hl λs9 I9=>⟨_,_,I9,q8⟩
  |brk =>
   obtain⟨σ8,H8,I8,q8⟩:=q8;exact GN (I8.unhdl J0.ok.hd) hN hi hl λs9 I9=>⟨_,_,I9,q8⟩
  |cont =>
   obtain⟨σ8,H8,I8,q8⟩:=q8;exact GN (I8.unhdl J0.ok.hd) hN hi hl λs9 I9=>⟨_,_,I9,q8⟩
  |ret u =>
   obtain⟨v8,σ8,H8,I8,r8,q8⟩:=q8;exact GN (I8.unhdl J0.ok.hd) hN hi hl λs9 I9=>⟨v8,_,_,I9,r8,q8⟩
end
structure Ig(K:PySem.W.Frag)(D:Addr):Prop where
 ci:(PySem.W.clsIn K D).isSome=true
 ga:PySem.W.findIn K (.ref D) "__getattribute__"=some (some (.builtin "BaseException.__getattribute__"))
 gn:PySem.W.findIn K (.ref D) "__getattr__"=some none
 ca:PySem.W.findIn K (.ref D) "__class__"=some (some (.builtin "object.__class__"))
 sg:PySem.W.specialIn K (.builtin "object.__class__") "__get__"=some (some (.builtin "getset_descriptor.__get__"))
 tk:PySem.W.takesIn K (.builtin "object.__class__")=some true
 mo:PySem.W.mroIn K D (.type "object")=some true
 mb:PySem.W.mroIn K D (.type "BaseException")=some true
section
variable{K:PySem.W.Frag}{D:Addr}{dy:Option Addr}{n:Bool}
theorem Ig.isCls(c:Ig K D){M:Model}(kin:K.In h):PySem.W.Looks M h (isType (.ref D)) true:=by
 have z:=c.ci;unfold PySem.W.clsIn at z
 split at z
 next ho =>
  intro A Q E s k q;unfold isType loadHead;exact wpAny_bind (wpAny_loadPart (k _ _ (kin _ _ ho)) (wpAny_pure q))
 next=>cases z
theorem D7.ty{M:Model}(x:D7 a cls dy n h):PySem.W.Looks M h (typeOf (.ref a)) cls:=by obtain⟨o,vs,e,c,_⟩:=x;subst c;exact (PySem.W.Looks.ld e).andThen .now
theorem Kr{M:Model}{x:Value}{g:Value}(kin:K.In h)(h1:PySem.W.findIn K (.ref D) name=some (some u))(h2:PySem.W.specialIn K u "__get__"=some (some g))(h3:PySem.W.takesIn K u=some true):
  PySem.W.Looks M h (Builtin.ObjectAttr.find x (.ref D) name) (.bind g u):=by
 have a1:=XU (M:=M) kin h1;have a2:PySem.W.Looks M h (Builtin.ObjectAttr.getOf (some u)) (some g):=PySem.W.looks_specialIn kin h2;have a3:PySem.W.Looks M h (Builtin.ObjectAttr.dataDescriptor? (some u) (some g)) (some (g,u)):=(PySem.W.looks_takesIn (M:=M) kin h3).andThen .now;exact a1.andThen (a2.andThen (a3.andThen (PySem.W.Looks.tag .now)))
theorem PL{prog:Program}{w:World}{A:Around}{tp:Value}(c:Ig K D)(kin:K.In s.heap)(x:D7 a (.ref D) dy n s.heap)(q:R (.ok (.ret (.ref D))) s):
  codeAny (model prog w) A (.call (.builtin "getset_descriptor.__get__") ⟨[.builtin "object.__class__",.ref a,tp],[]⟩) R s:=by
 obtain⟨hp,g,d,t,os⟩:=s;have a1:=x.ty (M:=model prog w);have a2:=PySem.W.looks_mroIn (M:=model prog w) kin c.mo;refine codeAny_call_builtin PySem.W.KF.slot_gs.plain PySem.W.KF.entry_gs (PySem.W.KF.slot_gs.check _ _ _ _ _ _ _ _ PySem.W.KF.type_class (PySem.W.KF.args_gs _ _ _) ?_)
 (unfold Builtin.«getset_descriptor.__get__» Builtin.Getset_descriptor.descrGet;rw[PySem.W.dga_obj];refine wpAny_bind (wpAny_pure ?_))
 (unfold Builtin.Getset_descriptor.descrGetter Builtin.Getset_descriptor.descrCheckInstance Builtin.Getset_descriptor.descrNameAndClass isInstance;simp only[PySem.W.KF.owner_class])
 repeat lk
 refine⟨Code.quiet_builtin _ (by decide +kernel),codeAny_builtin PySem.W.KF.entry_class ?_⟩
 (unfold Builtin.«object.__class__» shownTypeOf;repeat lk)
 exact q
theorem MS{prog:Program}{w:World}{A:Around}{Q:Option Value->Shared->Prop}(c:Ig K D)(kin:K.In s.heap)(x:D7 a (.ref D) dy n s.heap)
  (q:Q (some (.ref D)) {s with toks:=s.toks+1}):wpAny (model prog w) A (getAttr? (.ref a) "__class__") Q E s:=by
 obtain⟨hp,g,d,t,os⟩:=s;have LT:=x.ty (M:=model prog w);have L1:=XU (M:=model prog w) kin c.ga;have L2:=XU (M:=model prog w) kin c.gn;have L3:=Kr (M:=model prog w) (x:=.ref a) kin c.ca c.sg c.tk;have L4:PySem.W.Looks (model prog w) hp (isInstance (.ref a) (.type "BaseException")) true:=LT.andThen (PySem.W.looks_mroIn kin c.mb);have FA:=PySem.F.excAttr_ValueError;unfold getAttr? getAttrBy? getAttrBy;refine wpAny_bind (wpAny_mkText (wpAny_bind (wpAny_attempt (wpAny_holding (wpAny_bind (LT.at (wpAny_bind (L1.at ?_))))))));show wpAny _ _ (getAttrByItsOwn _ _ _ _ _ _) _ _ _;unfold getAttrByItsOwn;refine wpAny_bind (show wpAny _ _ (typeLookup (.ref D) "__getattr__") _ _ _ from L2.at ?_);refine wpAny_bind (wpAny_attempt (wpAny_holding ?_));show wpAny _ _ (boundAndCalled _ _ _) _ _ _;unfold boundAndCalled;refine wpAny_bind (wpAny_of_eq (FA.ga.bind _) ?_);refine wpAny_call (codeAny_call_builtin FA.ga.plain PySem.F.entry_bexc_ga ?_);have hk:builtinKind "BaseException.__getattribute__"=some .slot:=by decide +kernel
 have hsp:splitId "BaseException.__getattribute__"=some ("BaseException","__getattribute__"):=by decide +kernel
 have ha:=PySem.F.args_bexc_ga (.ref a) (.str "__class__" t);show wpAny _ _ (checkBuiltinCall "BaseException.__getattribute__" ⟨[.ref a,.str "__class__" t],[]⟩) _ _ _;simp only[checkBuiltinCall,hk,hsp];refine wpAny_bind (L4.at ?_)
 repeat (any_goals (first|assumption|wp_step))
 obtain⟨o,vs,eo,co,vo⟩:=id x;refine wpAny_loadPart eo ?_;refine wpAny_pure ?_;rw[co];refine wpAny_bind (L3.at ?_);show wpAny _ _ (call (.builtin "getset_descriptor.__get__") [.builtin "object.__class__",.ref a,.ref D] >>= λv=>ret v) _ _ _;refine wpAny_bind (wpAny_call (PL c kin ⟨o,vs,eo,co,vo⟩ ?_));refine wpAny_pure ?_;show wpAny _ _ (handedOut (.ref D)) _ _ _;exact wpAny_pure (wpAny_pure q)
theorem Jg(c:Ig K D):PySem.W.KitX K (.ref a) (.ref D) (D7 a (.ref D) dy n) where
 ty:=λ_ _ _ x=>x.ty
 it:=λ_ _ kin _=>c.isCls kin
 ne:=λh tp dd its n sl kin htp=>by
  refine Bool.eq_false_iff.mpr λq=>?_;have e:D=tp:=Value.ref.inj (beq_iff_eq.mp q);subst e;have z:=c.ci;unfold PySem.W.clsIn at z
  split at z
  next ho =>
   have y:=(kin _ _ ho).symm.trans htp;cases y
  next=>cases z
 ca:=λkin x q=>MS c kin x q
end
inductive Q6(K:PySem.W.Frag)(H:Hp):V->Value->Prop where
 |of {x:V} {t:Value} (h:Fd K H x t):Q6 K H x t
 |exc {a D:Addr} {dy:Option Addr} {n:Bool} (e:H a=some (Hz a (.ref D) dy n)) (c:Ig K D):Q6 K H (.ref a) (.ref D)
def PM:V->Option Value
 |.ty n=>some (.type n)
 |.ref a=>some (.ref a)
 |_=>none
def Q7(K:PySem.W.Frag):List V->Hp->VK->Prop
 |[x,c],H,Q=>∃t u b,Q6 K H x t/\PM c=some u/\PySem.W.kitOne K t u=some b/\Q (.bl b) H
 |_,_,_=>False
theorem Nd:DT X (.builtin "isinstance") (Q7 X.K):=by
 intro pins s σ H xs us Q I rv h
 match xs,h with
 |[x,c],h =>
 obtain⟨t,u,b,ty,rc,k,q⟩:=h;obtain⟨v1,v2,rfl,r1,r2⟩:=LY rv
 have e:v2=u:=by
  cases c with
  |ty n=>cases rc;exact r2
  |ref a=>cases rc;exact r2
  |_=>cases rc
 subst e;cases ty with
 |of ty=>exact MQ I r1 ty k λtk=>⟨.bl b,H,I.tok tk,rfl,q⟩
 | @exc a D dy n e ck =>
  cases (show v1=Value.ref a from r1);obtain⟨x,_,_⟩:=(show As X.prog X.w H s.heap a (.ext (D7 a (.ref D) _ _)) from I.hok a _ e);exact W1 (Jg ck) I.kIn x k (λz=>nomatch z) λtk=>⟨.bl b,H,I.tok tk,rfl,q⟩
variable{items:Array Value}
section
variable{prog:Program}{w:World}{A:Around}
theorem MT:typeLookup (.type "list_reverseiterator") "__len__"=pure none:=by rw[typeLookup_type,builtinLookup_eq_fast];kernel_rfl
theorem Nf:typeLookup (.type "list_reverseiterator") "__length_hint__"=pure (some (.builtin "list_reverseiterator.__length_hint__")):=by rw[typeLookup_type,builtinLookup_eq_fast];kernel_rfl
theorem Ng{I:Addr}{Q:Bool->Shared->Prop}(hT:s.TypeIs (.ref I) "list_reverseiterator")(q:Q false s):wpAny (model prog w) A (Builtin.List.listLengthHint (.ref I)) Q E s:=by
 unfold Builtin.List.listLengthHint;refine wpAny_bind (wpAny_specialOf hT MT ?_);show wpAny _ A (specialOf (Value.ref I) (Str.ofString "__length_hint__") >>= _) _ _ _;refine wpAny_bind (wpAny_specialOf hT Nf ?_);generalize hz:("list_reverseiterator.__length_hint__":String)=zz
 wp_delta
 rw[show splitId zz=some ("list_reverseiterator","__length_hint__") from by subst hz;decide +kernel];subst hz;refine wpAny_bind (wpAny_isInstance (b:=true) hT (by rw[isSubtype_type];kernel_rfl) ?_);exact wpAny_pure q
theorem Jh{I l:Addr}{Q:Value->Shared->Prop}(hh:A.handled=none)(hIl:l≠I)(hit:s.heap.IsRevIter I l ((items.size:Int)-1))(hl:s.heap.IsList l items)(hz:items.size<=sizeLine)
  (hQ:∀h' tk c' acc,(∀b o,b≠I->s.heap.get? b=some o->h'.get? b=some o)->h'.get? s.heap.objs.size=some {cls:=.type "list",dict:=none,data:=.seq acc c',slots:=#[]} ->
   acc.toList=items.toList.reverse->Q (.ref s.heap.objs.size) {s with heap:=h',toks:=tk}):wpAny (model prog w) A (call (.type "list") [.ref I]) Q E s:=by
 have W:=(Walks.listRev (prog:=prog) (w:=w) (A:=A.in1.in1) hh I l hIl items).toS;have hIlt:I<s.heap.objs.size:=by obtain⟨o,e,_⟩:=hit;exact WL e
 have hllt:l<s.heap.objs.size:=by obtain⟨o,e,_⟩:=hl;exact WL e
 refine callType_codes (Q₁:=λobj s₁=>obj=.ref s.heap.objs.size/\s₁={s with heap:=s.heap.push {cls:=.type "list",data:=.seq #[]}}) PySem.F.called_list (PySem.F.typeCall_list_1 _) PySem.F.entry_list_init
  (code_list_new _ ⟨rfl,rfl⟩) λobj s₁ h₁=>?_
 obtain⟨rfl,rfl⟩:=h₁;have hS:(s.heap.push {cls:=.type "list",data:=.seq #[]}).get? s.heap.objs.size=some {cls:=.type "list",data:=.seq #[]}:=WR _ rfl;refine⟨⟨_,hS,rfl⟩,PySem.F.args_list_init_2 _ _,?_⟩;show wpAny _ _ (do let old <-Builtin.List.listItems (.ref s.heap.objs.size);Builtin.List.listUpdate (.ref s.heap.objs.size) (λ_=>#[]);letGo old.toList.reverse;Builtin.List.listExtendWith (.ref s.heap.objs.size) (.ref I) .none) _ _ _;refine wpAny_bind ?_;unfold Builtin.List.listItems;refine wpAny_bind (wpAny_seqItems hS rfl (wpAny_pure ?_));show wpAny _ _ (updateSeq s.heap.objs.size (λ_=>#[]) >>= λ_=>letGo (#[]:Array Value).toList.reverse >>= λ_=>Builtin.List.listExtendWith (.ref s.heap.objs.size) (.ref I) .none) _ _ _;refine wpAny_bind (wpAny_updateSeq hS rfl ?_);have hS2:=XR (Obj.mapSeq (λ_=>(#[]:Array Value))) hS rfl
 have kp:∀b o,s.heap.get? b=some o->((s.heap.push {cls:=.type "list",data:=.seq #[]}).update s.heap.objs.size (Obj.mapSeq (λ_=>(#[]:Array Value)))).get? b=some o:=
  λb o e=>(XM _ _ (Xu (WL e))).trans (WG _ e)
 refine wpAny_bind (wpAny_letGo ?_);have hit2:=hit.at λo e=>kp I o e
 have hl2:=hl.at λo e=>kp l o e
 unfold Builtin.List.listExtendWith;refine wpAny_bind (wpAny_typeOf (T:="list_reverseiterator") hit2.typeIs ?_);have h1:Builtin.List.listSameRef (.ref s.heap.objs.size) (.ref I)=false:=by simp[Builtin.List.listSameRef,Nat.ne_of_gt hIlt]
 rw[if_neg (by rw[h1];decide)];refine wpAny_bind (wpAny_pyIter_revIter hit2 ?_);refine wpAny_bind (wpAny_holding (Ng hit2.typeIs ?_));rw[if_neg (by decide)]
 have nf:s.heap.objs.size∉[I,l]:=by simp only[List.mem_cons,List.not_mem_nil,or_false,not_or];exact⟨Xu hIlt,Xu hllt⟩
 refine wpAny_pure ⟨plainId_quiet PySem.F.plain_extend_loop _,codeAny_extend_loopS W hz _ nf _ items.size 0 _ _ _ rfl (Nat.zero_le _) ⟨Nat.zero_le _,by simpa using hit2,hl2⟩ hS2 (ItemsOf.nil _) λs' acc c' hm hS' hacc=>?_⟩;refine⟨rfl,?_⟩;rw[Moved.eq_with hm];refine hQ s'.heap s'.toks c' acc (λb o hb e=>hm.heap b o (λz=>?_) (kp b o e)) hS' ?_
 ·rcases WY.mp z with z|z
  ·exact absurd (WL e) (by rw[z];exact Wb _)
  ·exact hb (WE.mp z)
 ·apply List.ext_getElem?;intro i
  by_cases hi:i<items.size
  ·have hi2:i<acc.size:=by rw[hacc.1];exact hi
   have p:=hacc.2 i acc[i] (X3 hi2);rw[List.getElem?_reverse (by simpa using hi),Array.getElem?_toList,Array.getElem?_eq_getElem hi2,Array.getElem?_toList,Array.length_toList];exact p.symm
  ·rw[Xd (by rw[Array.length_toList,hacc.1];lia),Xd (by rw[XE,Array.length_toList];lia)]
end
def S5(K:PySem.W.Frag)(a:Addr)(n:Nat):It:=
 ⟨λi H=>i<n/\∃xs,Ac K H a xs/\xs.length=n,λi H x H'=>H'=H/\∀xs,Ac K H a xs->xs.reverse[i]?=some x,λi _=>i=n⟩
theorem Nh{P:Program}{w:World}{K:PySem.W.Frag}(a it:Addr)(n:Nat):Hh P w K tg (S5 K a n) [it] it (λi h=>i<=n/\h.IsRevIter it a ((n:Int)-1-(i:Int))) where
 mem:=by simp
 obj:=λi h st b hb=>by
  have e:b=it:=by simpa using hb
  subst e;obtain⟨_,o,e,c,d⟩:=st;exact⟨o,e,λv z=>by rw[d]at z;cases z⟩
 keep:=λi h h' st k=>⟨st.1,st.2.at λo e=>k it (by simp) o e⟩
 item:=by
  intro X hP hw hK hc i pins s σ H E I hf st hg;subst hP hw hK;obtain⟨hi,xs,hq,hn⟩:=hg;obtain⟨its,rv,p,hz⟩:=I.list hq;have hlen:=rv.length;obtain⟨f0,f1,f2,f3,f4,f5⟩:=hf it (by simp);have e:(n:Int)-1-(i:Int)=((n-1-i:Nat):Int):=by lia
  have hit:=st.2;rw[e]at hit;have hx:xs[n-1-i]?=some (xs[n-1-i]'(by lia)):=WJ (by lia);obtain⟨u,hu,ru⟩:=rv.get hx;refine wpAny_pyNext_rev_item hit p.isList (x:=u) (by simpa using hu) λh' st' sb=>?_;have I1:AO X pins σ H {s with heap:=h'}:=I.turned (t':=s.toks) (λb o hb e=>(sb.2 b hb).trans e) f0 f1 f3 f4 f5;obtain⟨o,e,c,d⟩:=id st'
  have st2:i+1<=n/\h'.IsRevIter it a ((n:Int)-1-((i+1:Nat):Int)):=⟨hi,by
   have e2:((n-1-i:Nat):Int)-1=(n:Int)-1-((i+1:Nat):Int):=by lia
   rw[<-e2];exact st'⟩
  refine⟨u,rfl,Hs (s:={s with heap:=h'}) e c d (by decide) ⟨_,H,I1,ru,⟨rfl,λys hy=>?_⟩,st2,λb hb=>(hf b hb).1⟩⟩;rw[I.list_inj hy hq,YQ (by lia),<-hx]
  congr 1
  lia
 done:=by
  intro X hP hw hK hc i pins s σ H E I hf st hg;subst hP hw hK;obtain⟨f0,f1,f2,f3,f4,f5⟩:=hf it (by simp);have hg':i=n:=hg;subst hg';have hit:=st.2;have e:(i:Int)-1-(i:Int)=-1:=by lia
  rw[e]at hit;exact wpAny_pyNext_rev_end (I.ok.hd hc) hit λh' eb=>⟨rfl,I.turned (t':=s.toks) (λb o hb e=>eb b o hb e) f0 f1 f3 f4 f5⟩
 self:=λ_ _ _ _ _ st h=>wpAny_pyIter_revIter st.2 h
def VL(K:PySem.W.Frag)(ta:TA):TI:=λσ H R=>ta σ H λvs H1=>∃a xs,vs=[.ref a]/\Ac K H1 a xs/\R (S5 K a xs.length) H1
theorem Ni{l:Expr}{p pos:Pos}(hg:Gl X "reversed")(hm:X.mg "reversed"=none)(ha:PA X [l] ta)(hs:starEach [l] X.env=[(false,eval l X.env)]:=by rfl):PI X tg (.Call (.Name "reversed" p) [l] [] pos) (VL X.K ta):=by
 intro pins s σ H R I h;refine Call_ (Cp I hg hm boot_reversed (Wo (BJ (ha pos pins s σ H _ I h) λus s1 z9=>?_) hs rfl));obtain⟨vs,H1,I1,r1,q1⟩:=z9;obtain⟨a,xs,e,hq,q⟩:=q1;subst e;cases r1 with
 |cons r rr =>
  cases rr;cases r;obtain⟨its,rv,pl,hz⟩:=I1.list hq;have hlen:=rv.length;refine call_reversed_list pl.isList ?_;have I2:AO X pins σ H1 {s1 with heap:=s1.heap.push (revObj a ((its.toArray.size:Int)-1)),toks:=s1.toks}:=I1.kept λb o e=>WG _ e
  have st:(s1.heap.push (revObj a ((its.toArray.size:Int)-1))).IsRevIter s1.heap.objs.size a ((xs.length:Int)-1-((0:Nat):Int)):=by
   have e:((xs.length:Int)-1-((0:Nat):Int))=(its.toArray.size:Int)-1:=by rw[Wi,hlen];lia
   rw[e];exact⟨_,WR _ rfl,rfl,rfl⟩
  refine wpAny_pyIter_revIter st ?_;refine⟨s1.heap.objs.size,[s1.heap.objs.size],_,_,H1,rfl,I2,Nh a _ xs.length,⟨XX _,st⟩,λb hb=>?_,q⟩;have e:b=s1.heap.objs.size:=by simpa using hb
  subst e;exact I1.fpOk (WM _) (I1.hok.fresh (WM _))
theorem Le{K:PySem.W.Frag}{g:TG}{tb:TS}(Pv:Nat->St->Hp->Prop)(h0:Pv 0 σ H)(hl:∀i σ H,i<=xs.length->Pv i σ H->Ac K H a xs)
  (hs:∀i x σ H,xs.reverse[i]?=some x->Pv i σ H->g x σ H λσ2 H2=>tb {D with nx:=Pv (i+1),ct:=Pv (i+1),bk:=D.nx} σ2 H2) (hd:∀σ H,Pv xs.length σ H->D.nx σ H):
  ∃W:Nat->Nat->St->Hp->Prop,(∃m,W 0 m σ H)/\∀i m σ H,W i m σ H ->
   ((S5 K a xs.length).stop i H/\D.nx σ H)\/((S5 K a xs.length).go i H/\∃N:St->Hp->Prop,(∀σ' H',N σ' H'->∃m',m'<m/\W (i+1) m' σ' H')/\∀x H',(S5 K a xs.length).yld i H x H'->g x σ H' λσ2 H2=>tb {D with nx:=N,ct:=N,bk:=D.nx} σ2 H2):=by
 refine⟨λi m σ H=>m=xs.length-i/\i<=xs.length/\Pv i σ H,⟨xs.length,by simp,Nat.zero_le _,h0⟩,?_⟩;rintro i m σ H ⟨rfl,hi,p⟩;have q:=hl i σ H hi p
 by_cases hlt:i<xs.length
 ·refine .inr ⟨⟨hlt,xs,q,rfl⟩,Pv (i+1),λσ' H' p'=>⟨xs.length-(i+1),by lia,rfl,hlt,p'⟩,λx H' y=>?_⟩;obtain⟨e,y⟩:=y;subst e;exact hs i x σ _ (y xs q) p
 ·have e:i=xs.length:=by lia
  subst e;exact .inl ⟨rfl,hd σ H p⟩
def QH(K:PySem.W.Frag)(ta:TA):TE:=λσ H Q=>ta σ H λvs H1=>∃a xs,vs=[.ref a]/\Ac K H1 a xs/\∀p,H1 p=none->Q (.ref p) (Ad H1 p (.lst xs.reverse))
theorem Ih{l:Expr}{p1 p2 pos1 pos2:Pos}(hc:X.calm=true)(hg:Gl X "reversed")(hm:X.mg "reversed"=none)(hg2:Gl X "list")(hm2:X.mg "list"=none)(ha:PA X [l] ta)(hs:starEach [l] X.env=[(false,eval l X.env)]:=by rfl)
  (hs2:starEach [.Call (.Name "reversed" p1) [l] [] pos1] X.env=[(false,eval (.Call (.Name "reversed" p1) [l] [] pos1) X.env)]:=by rfl):
  PE X (.Call (.Name "list" p2) [.Call (.Name "reversed" p1) [l] [] pos1] [] pos2) (QH X.K ta):=by
 intro pins s σ H Q I h;refine Call_ (Cp I hg2 hm2 Wr (Wo (T:="list") ?_ hs2 rfl));rw[hs2];show wpAny _ _ (spliced ((false,eval (.Call (.Name "reversed" p1) [l] [] pos1) X.env)::[])) _ _ s;refine Calls.spliced_cons (Call_ (Cp I hg hm boot_reversed (Wo (BJ (ha pos1 pins s σ H _ I h) λus s1 z9=>?_) hs rfl)));obtain⟨vs,H1,I1,r1,q1⟩:=z9;obtain⟨a,xs,e,hq,q⟩:=q1;subst e;cases r1 with
 |cons r rr =>
  cases rr;cases r;obtain⟨its,rv,pl,hz⟩:=I1.list hq;have hlen:=rv.length;refine call_reversed_list pl.isList ?_;refine Calls.spliced_nil ?_;have ne:a≠s1.heap.objs.size:=by obtain⟨o,e,_⟩:=pl.isList;exact Wj (WL e)
  have hL:(s1.heap.push (revObj a ((its.toArray.size:Int)-1))).IsList a its.toArray:=pl.isList.at λo e=>WG _ e
  refine Jh (s:={s1 with heap:=s1.heap.push (revObj a ((its.toArray.size:Int)-1))}) (I.ok.hd hc) ne ⟨_,WR _ rfl,rfl,rfl⟩ hL (by rw[Wi,<-hlen];exact hz) λh' tk c' acc kp hD hacc=>?_;have kp2:∀b o,s1.heap.get? b=some o->h'.get? b=some o:=λb o e=>kp b o (Wj (WL e)) (WG _ e)
  have hf:H1 (s1.heap.push (revObj a ((its.toArray.size:Int)-1))).objs.size=none:=I1.hok.fresh (by rw[Ww];lia);have rv2:Am xs.reverse acc.toList:=by rw[hacc];simpa using rv.reverse
  refine⟨.ref _,_,I1.laid (t':=tk) kp2 (by rw[Ww];lia) ?_,rfl,q _ hf⟩;exact⟨by rw[List.length_reverse];exact hz,acc.toList,c',rv2,by simpa using hD⟩
def S6(K:PySem.W.Frag):R2:=λx y H Q=>∃(a b:Addr) (ns ms:List Int),x=.ref a/\y=.ref b/\Ac K H a (ns.map V.int)/\Ac K H b (ms.map V.int)/\Q (.bl (decide (ns=ms))) H
def S7(K:PySem.W.Frag):R2:=λx y H Q=>∃(a b:Addr) (ns ms:List Int),x=.ref a/\y=.ref b/\Ac K H a (ns.map V.int)/\Ac K H b (ms.map V.int)/\Q (.bl (!decide (ns=ms))) H
theorem Nj(hu:X.A.units+64<cLine):Fb X (compareOp .Eq) (S6 X.K):=by intro pins s σ H x y v u Q I rx ry h;obtain⟨a,b,ns,ms,rfl,rfl,ha,hb,q⟩:=h;cases rx;cases ry;obtain⟨va,ra,pa,_⟩:=I.list ha;obtain⟨vb,rb,pb,_⟩:=I.list hb;exact PySem.W.eq_intsK pa.isList (Dj ra) pb.isList (Dj rb) hu ⟨.bl _,H,I,rfl,q⟩
theorem Nk(hu:X.A.units+64<cLine):Fb X (compareOp .NotEq) (S7 X.K):=by intro pins s σ H x y v u Q I rx ry h;obtain⟨a,b,ns,ms,rfl,rfl,ha,hb,q⟩:=h;cases rx;cases ry;obtain⟨va,ra,pa,_⟩:=I.list ha;obtain⟨vb,rb,pb,_⟩:=I.list hb;exact PySem.W.ne_intsK pa.isList (Dj ra) pb.isList (Dj rb) hu ⟨.bl _,H,I,rfl,q⟩
theorem Q8{P:Program}{w:World}{K:PySem.W.Frag}{mg:Str->Option Value}{base:Heap}{N:List Str}{cd:Value}{A:Around}{outer:List Env}{E:XK}:(DI CX P w K mg base N qual scope f cd A outer s H E).K=K:=rfl
theorem VM{p:List (Addr×Obj)}{W:St->XK}:(X.tr p W).K=X.K:=rfl
theorem S8{v:Value}:(X.hdl v).K=X.K:=rfl
theorem Dx{P:Program}{w:World}:CS (GH P w) X (λ_=>E0):=λ_ _ _ _ _ _ _ ⟨_,_,_,_,_,_,_,_,h⟩=>h.elim
theorem AF.new(h:H p=none)(o:HO):AF H (Ad H p o):=λb u q=>by rw[AI (Ai q h)];exact q
theorem DV{q:Addr}(h:Ad H p o q=none):q≠p/\H q=none:=by
 have ne:q≠p:=λz=>by rw[z,AC]at h;cases h
 rw[AI ne]at h;exact⟨ne,h⟩
theorem QI{n:Nat}(h:n<=1000):n<=sizeLine:=Xc (AQ h)
section
variable{p:Pos}{a c:Expr}{ta tc:TE}
theorem Ek{n:String}(hg:Gl X x)(hm:X.mg x=none)(hv:bootBuiltins x=some (.type n))(hn:x≠"__name__":=by decide)(hd:(x==("__debug__":Str))=false:=by decide):PE X (.Name x pos) (tC (.ty n)):=
 Oy (v:=.ty n) hg hm hv rfl hn hd
theorem Fi(hg:Gl X x)(hm:X.mg x=some (.ref C))(hd:(x==("__debug__":Str))=false:=by decide):PE X (.Name x pos) (tC (.ref C)):=LS (v:=.ref C) hg hm rfl hd
theorem Nl{i:Int}{t:Tok}(hg:Gl X x)(hm:X.mg x=some (.int i t))(hd:(x==("__debug__":Str))=false:=by decide):PE X (.Name x pos) (tC (.int i)):=LS (v:=.int i) hg hm ⟨t,rfl⟩ hd
theorem B8(hg:Gl X "isinstance")(hm:X.mg "isinstance"=none)(ha:PE X a ta)(hc:PE X c tc)(h1:starEach [a,c] X.env=(false,eval a X.env)::starEach [c] X.env:=by rfl)(h2:starEach [c] X.env=(false,eval c X.env)::starEach [] X.env:=by rfl)
  (h3:(backTo pos (starEach [c] X.env)).any (·.1)=false:=by rfl):PE X (.Call (.Name "isinstance" p) [a,c] [] pos) (Sz (Q7 X.K) (BE ta (BE tc Ct))):=
 AU Nd hg hm PyProof.Rows.boot_isinstance (AA ha (AA hc AB h2) h1) (by decide) (by decide) h1 h3
end
theorem B2{t u:TS}(Z:St->Hp->Prop)(h1:∀N:St->Hp->Prop,(∀σ' H',Z σ' H'->N σ' H')->t {D with nx:=N} σ H)(h2:∀σ' H',Z σ' H'->u D σ' H'):NG t u D σ H:=h1 (u D) h2
def DM(ns:List Int)(lo hi:Option Int):List Int:=(ns.drop (HT.GG ns.length 0 lo)).take (HT.GG ns.length ns.length hi-HT.GG ns.length 0 lo)
theorem B9(ns:List Int)(lo hi:Option Int):IZ (ns.map V.int) lo hi=(DM ns lo hi).map V.int:=by unfold IZ DM;rw[WD,List.map_take,List.map_drop]
theorem Nm(k:Nat)(v:V):(List.replicate k [v]).flatten=List.replicate k v:=by
 induction k with
 |zero=>rfl
 |succ k ih=>rw[XD,Xh,ih,XD];rfl
def AZ(K:PySem.W.Frag)(x:Str)(st:Stmt)(f:Addr):Prop:=(∃fd,BY K x x st f fd)/\PySem.W.nsIn K mainGlobals x=some (some (.ref f))
theorem Aa{K:PySem.W.Frag}{st:Stmt}{kV ct:Value}(a:PySem.W.nsIn K mainGlobals x=some (some (.ref f)))
  (l:K.lookup f=some ⟨oc,od,.func (PySem.W.fnOf x x (C9 st) (BW st) (AH st) .none kV doc pm an cdv ct),osl⟩) (c:PySem.W.codeIn K cdv x=true) (k:PySem.W.keepIn K (.ref f)=true):AZ K x st f:=
 ⟨⟨_,DL l c k⟩,a⟩
theorem AO.storedNew{y:Str}{v:V}{D:Addr}{m:Str->Option Value}(I:AO X pins σ H s)(hN:X.N.Nodup)(hi:X.N[i]?=some y)(hl:X.env.scope.names.lookup y=some .local)(r:Ao v u)
  (hm:s.heap.Ns X.env.locals m) (hmv:∀(j:Nat) (z:Str) (v:V),X.N[j]?=some z->σ[j]?=some (some v)->Si X.env.scope z->∃u,Ao v u/\Sj X.env s.heap m z u)
  (hn:h'.Ns X.env.locals λz=>if z=y then some u else m z) (k:∀b o,b≠X.env.locals->s.heap.get? b=some o->h'.get? b=some o)
  (hD:s.heap.get? D=none) (new:As X.prog X.w (Ad H D o) h' D o):AO X pins (σ.set i (some v)) (Ad H D o) {s with heap:=h',toks:=t'}:=by
 have away:∀b ob,X.s₀.heap.get? b=some ob->b≠X.env.locals:=λb ob e=>Wj (WP (WL e) I.ok.above)
 have neD:∀b ob,s.heap.get? b=some ob->b≠D:=λb ob e z=>by rw[z,hD]at e;cases e
 have nD:H D=none:=by
  cases q:H D with
  |none=>rfl
  |some u' =>
   obtain⟨ob,e⟩:=(I.hok D u' q).somewhere;rw[hD]at e;cases e
 have cel:∀c w,c≠X.env.locals->s.heap.IsCell c w->h'.IsCell c w:=λc w hc ⟨ob,e,d⟩=>⟨ob,k c ob hc e,d⟩
 have LD:X.env.locals≠D:=by obtain⟨ob,_,_,e,_⟩:=id hm;exact neD _ ob e
 have hiσ:i<σ.length:=by rw[I.len];exact (WF.mp hi).1
 refine⟨I.ok,I.os,I.bare,⟨λb ob e n hb hx=>k b ob (away b ob e) (I.base.keep b ob e n hb hx),λb ob e n hb hx=>?_,λb ob e n hx=>?_,λb ob e hx=>?_,λb xs q=>?_,λb ob w q=>?_,λb ps q=>?_⟩,
  ⟨_,hn,λj z w e1 e2 e3=>?_⟩,λz c e=>?_,?_,λz c e=>?_,λq hq=>?_,λb w q=>?_,by simpa using I.len⟩
 ·obtain⟨sl,e1⟩:=I.base.slot b ob e n hb hx;exact⟨sl,k b _ (away b ob e) e1⟩
 ·obtain⟨o1,e1⟩:=I.base.there b ob e hx;rw[AI (neD b o1 e1)];exact I.base.free b ob e n hx
 ·obtain⟨o1,e1⟩:=I.base.there b ob e hx;exact⟨o1,k b o1 (away b ob e) e1⟩
 ·have q':=I.base.tups b xs q;rw[AI (Ai q' nD)];exact q'
 ·have q':=I.base.frzs b ob w q;rw[AI (Ai q' nD)];exact q'
 ·obtain⟨more,q'⟩:=I.base.tbls b ps q;exact⟨more,by rw[AI (Ai q' nD)];exact q'⟩
 ·by_cases hj:j=i
  ·subst hj;rw[hi]at e1;cases e1;rw[Xn hiσ]at e2;cases e2;exact⟨u,r,.inl ⟨hl,by simp⟩⟩
  ·rw[X2 (Ne.symm hj)]at e2;obtain⟨u',r',z'⟩:=hmv j z w e1 e2 e3;refine⟨u',r',?_⟩;rcases z' with⟨kk,z'⟩|⟨kk,c,z',y'⟩
   ·have ny:z≠y:=λq=>hj (E5 hN e1 (q▸hi))
    exact .inl ⟨kk,by simp[ny,z']⟩
   ·exact .inr ⟨kk,c,z',cel c _ (I.cne z c z') y'⟩
 ·obtain⟨w,q⟩:=I.cell z c e;exact⟨w,cel c w (I.cne z c e) q⟩
 ·rw[AI LD];exact I.free
 ·obtain⟨w,ob,q,_⟩:=I.cell z c e;rw[AI (neD c ob q)];exact I.freeC z c e
 ·obtain⟨e,n,ne,nf,d⟩:=I.pin q hq;exact⟨k q.1 q.2 ne e,by rw[AI (neD q.1 q.2 e)];exact n,ne,nf,d⟩
 ·by_cases hb:b=D
  ·subst hb;rw[AC]at q;cases q;exact new
  ·rw[AI hb]at q;have fz:=I.free;refine (I.hok b w q).stay (λc v' hc r'=>k c v' (λz=>?_) r') (λc z=>by rw[AI (Ai z nD)];exact z) λc xs z=>by rw[AI (Ai z nD)];exact z
   rcases hc with e|e
   ·rw[<-z,e,q]at fz;cases fz
   ·rw[<-z,e]at fz;cases fz
theorem Ji{gv:Int}:∀{ns:List Int} {its ys:List Value},Am (ns.map V.int) its->Paired (λv y=>∀i t,v=Value.int i t->∃t',y=Value.int (i%gv) t') its ys->Am ((ns.map (·%gv)).map V.int) ys
 |[],_,_,.nil,.nil=>.nil
 |n::ns,_,_,.cons r rr,.cons q qq=>by obtain⟨t,e⟩:=r;exact .cons (q n t e) (Ji rr qq)
def Jj(K:PySem.W.Frag)(ti:TE)(ig iy:Nat):TS:=λD σ H=>∃gv:Int,σ[ig]?=some (some (.int gv))/\0<gv/\ti σ H λv H1=>∃(a:Addr) (ns:List Int),v=.ref a/\Ac K H1 a (ns.map V.int) /\
 ∀p,H1 p=none->D.nx (σ.set iy (some (.ref p))) (Ad H1 p (.lst ((ns.map (·%gv)).map V.int)))
section
variable{y g:Str}{px py p1 p2 p3 spos:Pos}{iter:Expr}{ti:TE}{ig iy:Nat}{c:Addr}
theorem Ks(hc:X.calm=true)(hN:X.N.Nodup)(hy:X.N[iy]?=some y)(hyl:X.env.scope.names.lookup y=some .local)(hgN:X.N[ig]?=some g)(hgk:X.env.scope.names.lookup g=some .cell)(hi:PE X iter ti)
  (hsw:swapsWith (.ListComp (.BinOp (.Name x p1) .Mod (.Name g p2) p3) [⟨.Name x px,iter,[],0⟩] scope pos) (some (.Name y py)) spos.line X.env=pure true)
  (hclos:closureFor scope X.env=pure [(g,c)]) (hcc:X.env.cells.lookup g=some c) (hcell:∀z∈scope.names,z.2≠.cell) (hkind:scope.kind=.function)
  (hnames:∀z∈scope.names,z.2=.local->scope.names.lookup z.1=some .local) (hx:scope.names.lookup x=some .local) (hgr:(relabel scope X.env).names.lookup g=some .cell)
  (hdx:(x==("__debug__":Str))=false:=by decide) (hdg:(g==("__debug__":Str))=false:=by decide) (hs:∀x,foldedSetIterable iter X.env x=pure x:=by intro _;rfl):
  PS X (.Assign [.Name y py] (.ListComp (.BinOp (.Name x p1) .Mod (.Name g p2) p3) [⟨.Name x px,iter,[],0⟩] scope pos) spos) (Jj X.K ti ig iy):=by
 intro pins s σ H D I h;obtain⟨gv,hgσ,g0,h⟩:=h;have hcls:(X.env.scope.kind==.class||(X.env.scope.kind==.module&&X.env.locals != X.env.globals))=false:=by rw[I.ok.kind];rfl
 refine wpAny_Assign_ListComp_free (λ_=>true) (λv y=>∀i t,v=.int i t->∃t',y=.int (i%gv) t') hsw hclos hcell hkind hnames hx hyl hcls (BJ (hi pins s σ H _ I h) λxv s1 q=>?_) hs;obtain⟨v,H1,I1,rv,a,ns,e,hq,q⟩:=q;subst e;cases rv;obtain⟨its,rits,pl,hz⟩:=I1.list hq;have hlen:=rits.length;have alt:a<s1.heap.objs.size:=by obtain⟨o,e,_⟩:=pl.isList;exact WL e
 refine wpAny_pyIter_list pl.isList ?_;obtain⟨m,hm,hmv⟩:=I1.loc;have up:∀b o,s1.heap.get? b=some o->(s1.heap.push {cls:=.type "list_iterator",data:=.fields #[.ref a,.int 0 0]}).get? b=some o:=λb o e=>WG _ e
 refine⟨s1.heap.objs.size,[s1.heap.objs.size,a],[s1.heap.objs.size],its.toArray.size,_,_,m,rfl,Walks.list (I.ok.hd hc) _ a (Wj alt) its.toArray,by rw[Wi,<-hlen];exact hz,
  ⟨⟨_,WR _ rfl,rfl,rfl⟩,pl.isList.at λo e=>up a o e⟩,λb hb=>?_,?_,hm.at' λo e=>up _ o e,⟨?_,?_⟩,?_⟩
 ·show b<(s1.heap.push _).objs.size;rw[Ww];rcases WY.mp hb with z|z
  ·rw[z];exact W8 _
  ·rw[WE.mp z];exact XO alt
 ·intro z;have z':=WE.mp z;exact absurd I1.lt (by rw[z'];exact Wb _)
 ·intro C i w s3 m3 E' _ _ _ _ _ _;exact wpAny_pure ⟨rfl,s3.heap,s3.toks,rfl,λ_ _ e=>e⟩
 ·intro C i w s3 m3 E' hC hw _ hn3 hx3 hk3 _;have hgl:=hmv ig g (.int gv) hgN hgσ (.inr (.inl hgk));obtain⟨u,⟨tg,ru⟩,lk⟩:=hgl;subst ru
  have cellv:s3.heap.IsCell c (some (.int gv tg)):=by
   rcases lk with⟨kk,_⟩|⟨_,c',e',⟨o,eo,d⟩⟩
   ·rw[show X.env.kindOf g=some .cell from hgk]at kk;cases kk
   ·rw[hcc]at e';cases e';exact⟨o,hk3 c o (λz=>absurd (WL eo) (by rw[WE.mp z];exact Wb _)) (up c o eo),d⟩
  have hkf:(compEnvC scope [(g,c)] C X.env).scope.kind=.function:=hkind;refine wpAny_BinOp (wpAny_Name (wpAny_loadName_local hkf (lookup_relabel_local hx) hn3 hx3 ?_) hdx);refine wpAny_Name (wpAny_loadName_cell (c:=c) hkf hgr (by simp[compEnvC]) cellv ?_) hdg;have hwi:its[i]?=some w:=by simpa using hw
  have hi2:i<its.length:=(WF.mp hwi).1;obtain⟨u2,hu2,ru2⟩:=rits.get (x:=(.int (ns[i]'(by rw[WD]at hlen;lia)))) (i:=i) (by rw[WO,WJ (by rw[WD]at hlen;lia)];rfl);rw[hwi]at hu2;cases hu2;obtain⟨tw,rfl⟩:=ru2;refine mod_int' (by lia) ⟨λi' t' e=>?_,s3.heap,s3.toks+1,rfl,λ_ _ e=>e⟩;cases e;exact⟨_,by rw[Int.fmod_eq_emod_of_nonneg _ (by lia)]⟩
 ·intro D' h2 tk ys vs hD' hlD hplD hvl hvP hF hnL hk2
  have hDn:s1.heap.get? D'=none:=by
   cases z:s1.heap.get? D' with
   |none=>rfl
   |some o =>
    have z2:=up D' o z;rw[hD']at z2;cases z2
  have nD:H1 D'=none:=by
   cases z:H1 D' with
   |none=>rfl
   |some u' =>
    obtain⟨ob,e⟩:=(I1.hok D' u' z).somewhere;rw[hDn]at e;cases e
  refine⟨_,_,I1.storedNew (t':=tk) hN hy hyl (v:=.ref D') (u:=.ref D') rfl hm hmv hnL (λb o hb e=>hk2 b o hb (λz=>absurd (WL e) (by rw[WE.mp z];exact Wb _)) (up b o e)) hDn ?_,q D' nD⟩;obtain⟨n,e⟩:=hplD;refine⟨?_,ys.toList,n,?_,by simpa using e⟩
  ·rw[WD,WD];rw[WD]at hz;exact hz
  ·have hf:vs.filter (λ_=>true)=vs:=List.filter_eq_self.mpr λ_ _=>rfl
   rw[hf]at hF
   have hvs:vs=its:=by
    apply List.ext_getElem?;intro j
    by_cases hj:j<vs.length
    ·have z:=hvP j vs[j] (WJ hj);rw[WJ hj];exact (by simpa using z:its[j]?=some vs[j]).symm
    ·rw[Xd (by lia),Xd (by rw[Wi]at hvl;lia)]
   rw[hvs]at hF;exact Ji rits hF
end
section
variable{prog:Program}{w:World}{A:Around}{K:PySem.W.Frag}{hp:Heap}{gs:Array GenState}{dr:Drawn}{tk:Nat}{oz:OsState}
variable{nm qn:Str}{c N:Addr}{bs tl bmB:List Value}{dy:Bool}{sn:List Str}{sub:List Value}{ab:Bool}{col:Option Bool}{dd:Option Addr}{k0 k1 k2 k3 k5:Option Value}{B nid iid:String}
theorem PN(F:ExcBaseFacts B nid iid bmB)(T:OwnTail hp bmB tl){mN:Str->Option Value}{Q:Fin->Shared->Prop}(kin:K.In hp)
  (hC:hp.get? c=some (excClassObj nm qn c N bs tl dy sn sub ab col dd k0 k1 k2 k3 k5 nid)) (hN:hp.Ns N mN) (hi:mN "__init__"=some (.ref f)) (hf:PySem.W.typeIn K (.ref f)=some (.type "function"))
  (k:∀hp' e,hp.objs.size<=e->Heap.MadeExcOf hp hp' e (.ref c) us->wpAny (model prog w) A (call (.ref f) (.ref e::us)) (λr s'=>r=.none/\Q (.done (.ret (.ref e))) s') E ⟨hp',gs,dr,tk,oz⟩) (hl:us.length<=sizeLine):
  wpAny (model prog w) A (Builtin.«type.__call__» ⟨.ref c::us,[]⟩) Q E ⟨hp,gs,dr,tk,oz⟩:=by
 repeat (first|with_reducible refine wpAny_madeBy_exc hC ?_|with_reducible refine wpAny_loadPart_at hC ?_|wp_step)
 refine codeAny_call_builtin_code (Code.quiet_builtin _ F.quiet) (wpAny_check_new_subU F F.hasB T hC (codeAny_exc_new_subU F F.hasB F T hC ?_ hl));show wpAny _ _ _ _ _ _;generalize e1:hp.push {cls:=.type "tuple",data:=.seq us.toArray}=hp1;have s1:hp1.objs.size=hp.objs.size+1:=by rw[<-e1,Ww]
 have u1:∀b o,hp.get? b=some o->hp1.get? b=some o:=λb o z=>by rw[<-e1];exact WG _ z
 have t1:hp1.get? hp.objs.size=some {cls:=.type "tuple",data:=.seq us.toArray}:=by rw[<-e1];exact WR hp rfl
 generalize e2:hp1.push {cls:=.ref c,data:=.fields #[.ref hp.objs.size,.none,.none,.none,.bool false,.none]}=hp2;have u2:∀b o,hp1.get? b=some o->hp2.get? b=some o:=λb o z=>by rw[<-e2];exact WG _ z
 have x2:hp2.get? (hp.objs.size+1)=some {cls:=.ref c,data:=.fields #[.ref hp.objs.size,.none,.none,.none,.bool false,.none]}:=by rw[<-e2,<-s1];exact WR hp1 rfl
 have u3:∀b o,hp.get? b=some o->hp2.get? b=some o:=λb o z=>u2 b o (u1 b o z)
 have C2:=u3 _ _ hC;have N2:hp2.Ns N mN:=hN.keeps u3;have T2:=T.keeps u3;have kin2:K.In hp2:=λb o z=>u3 b o (kin b o z)
 have cc:(Value.ref c::tl).contains (.ref c)=true:=by simp
 unfold isInstance
 repeat (first|with_reducible refine wpAny_loadPart_at x2 ?_|(with_reducible refine wpAny_isSubtype_exc C2 ?_;rw[cc])|wp_step)
 show wpAny _ _ (typeLookup (.ref c) _) _ _ _;refine wpAny_typeLookup_tail C2 N2 T2 F.mroIs F.init.lookup ?_;rw[hi];refine wpAny_holding (wpAny_bind ((PySem.W.bind_fn kin2 _ hf).at ?_));have made:Heap.MadeExcOf hp hp2 (hp.objs.size+1) (.ref c) us:=⟨u3,X1 (Xi _),hp.objs.size,x2,X1 (WM _),u2 _ _ t1⟩;refine wpAny_bind (wpAny_mono (k hp2 _ (Xi _) made) (λr s' hr=>?_) λ_ _ z=>z);obtain⟨er,hQ⟩:=hr;subst er
 wp_walk
 exact hQ
theorem PP(F:ExcBaseFacts B nid iid bmB)(T:OwnTail hp bmB tl){mN:Str->Option Value}(kin:K.In hp)
  (hC:hp.get? c=some (excClassObj nm qn c N bs tl dy sn sub ab col dd k0 k1 k2 k3 k5 nid)) (hN:hp.Ns N mN) (hi:mN "__init__"=some (.ref f)) (hf:PySem.W.typeIn K (.ref f)=some (.type "function"))
  (k:∀hp' e,hp.objs.size<=e->Heap.MadeExcOf hp hp' e (.ref c) us->wpAny (model prog w) (A.under (.builtin "type.__call__" ⟨.ref c::us,[]⟩)) (call (.ref f) (.ref e::us)) (λr s'=>r=.none/\Q (.ref e) s') E ⟨hp',gs,dr,tk,oz⟩) (hl:us.length<=sizeLine):
  wpAny (model prog w) A (call (.ref c) us) Q E ⟨hp,gs,dr,tk,oz⟩:=by
 have z1:=tc_lookup;have z2:=tc_bind (.ref c);have z3:(⟨hp,gs,dr,tk,oz⟩:Shared).TypeIs (.ref c) "type":=⟨_,hC,rfl⟩;refine wpAny_call (codeAny_of_tree ?_);show wpAny _ _ (callAny (.ref c) _) _ _ _
 repeat (any_goals (first|assumption|with_reducible refine wpAny_loadPart_at hC ?_|wp_step))
 refine⟨rfl,codeAny_call_builtin_at (Code.quiet_builtin _ (by decide +kernel)) entry_typeCall (wpAny_check_type_call_sub hC (PN F T kin hC hN hi hf (λhp' e z m=>?_) hl))⟩;exact k hp' e z m
end
def S9(K:PySem.W.Frag)(C R:Addr):Bool:=(PySem.W.clsIn K C).any λcd=>cd.mro==Value.ref C::Value.ref R::Fh
structure XA(K:PySem.W.Frag)(C R:Addr)(f:Str):Prop where
 sa:PySem.W.findIn K (.ref C) "__setattr__"=some (some (.builtin "object.__setattr__"))
 hd:PySem.W.hasDictIn K C=true
 mr:S9 K C R=true
 no:PySem.W.findIn K (.ref C) f=some none
 ek:Ig K C
section
variable{prog:Program}{w:World}{A:Around}{K:PySem.W.Frag}{x R:Addr}{ox:Obj}{vs:Array Value}{f:Str}{v:Value}
theorem MU{Q:Unit->Shared->Prop}(kin:K.In s.heap)(c:XA K C R f)(hx:s.heap.get? x=some ox)(hc:ox.cls=.ref C)(hd:ox.data=.fields vs)(hn:ox.dict=none)
  (k:∀h' dx,s.heap.get? dx=none->dx≠x->h'.get? x=some {ox with dict:=some dx}->h'.Ns1 dx (λy=>if y=f then some v else none)->(∀b o,b≠x->s.heap.get? b=some o->h'.get? b=some o)->Q () {s with heap:=h',toks:=s.toks+2}):
  wpAny (model prog w) A (setAttr (.ref x) f v) Q E s:=by
 obtain⟨oc,od,dt,sl⟩:=ox;dsimp only at hc hd hn;subst hc hd hn;have SF:=PySem.F.store_object;have SV:=PySem.F.store_ValueError;have I:PySem.W.InstAt s.heap x ⟨.ref C,none,.fields vs,sl⟩ C none:=⟨hx,rfl,rfl,trivial⟩;refine PySem.W.set_plain kin I c.sa ?_;obtain⟨cd,hcd,hm0⟩:=PySem.W.any_some c.mr;have hm1:cd.mro=Value.ref C::Value.ref R::Fh:=beq_iff_eq.mp hm0;obtain⟨cd',hcd',hdd⟩:=PySem.W.any_some c.hd;have ecd:cd'=cd:=Option.some.inj (hcd'.symm.trans hcd);subst ecd;generalize es:({s with toks:=s.toks+1}:Shared)=s1;have hp1:s1.heap=s.heap:=by rw[<-es]
 have ty:PySem.W.Looks (model prog w) s1.heap (typeOf (.ref x)) (.ref C):=by rw[hp1];exact I.type
 have mo:PySem.W.Looks (model prog w) s1.heap (isInstance (.ref x) (.type "object")) true:=ty.andThen (by rw[hp1];exact PySem.W.looks_mroIn kin c.ek.mo);have ml:PySem.W.Looks (model prog w) s1.heap (mroOf (.ref C)) cd'.mro:=by rw[hp1];exact (PySem.W.looks_clsIn kin hcd).andThen .now
 have lf:PySem.W.Looks (model prog w) s1.heap (typeLookup (.ref C) f) none:=by rw[hp1];exact XU kin c.no
 refine codeAny_call_builtin SF.slot.plain SF.entry (@PySem.W.check_slot (model prog w) _ _ s1 "object.__setattr__" "object" "__setattr__" (.ref x) [.str f s.toks,v] [] _ SF.kind SF.split mo (SF.args (.ref x) (.str f s.toks) v) ?_);rw[PySem.W.osa_eq,refuse_eq];refine wpAny_bind (wpAny_bind (ty.here (wpAny_bind (ml.here ?_))));rw[hm1,refuseLoop_ref,refuseLoop_ref,SV.passes];refine wpAny_pure (wpAny_bind (ty.here (wpAny_bind (lf.here (wpAny_bind ?_)))));refine wpAny_pure (a:=(none:Option Value)) ?_;have hx1:s1.heap.get? x=some ⟨.ref C,none,.fields vs,sl⟩:=by rw[hp1];exact hx
 have lc:PySem.W.Looks (model prog w) s1.heap (classData C) cd':=by rw[hp1];exact PySem.W.looks_clsIn kin hcd
 refine wpAny_bind (wpAny_pure (wpAny_bind (wpAny_bind (wpAny_loadPart hx1 (wpAny_bind (lc.here ?_))))));rw[hdd];have nx:x≠s1.heap.objs.size:=Wj (WL hx1);have hx2:(s1.heap.push {cls:=.type "dict",data:=.dict #[]}).get? x=some ⟨.ref C,none,.fields vs,sl⟩:=WG _ hx1;refine wpAny_bind (wpAny_alloc' (wpAny_bind (wpAny_update' hx2 (wpAny_pure ?_))));generalize e3:(s1.heap.push {cls:=.type "dict",data:=.dict #[]}).update x (λo=>{cls:=o.cls,dict:=some s1.heap.objs.size,data:=o.data,slots:=o.slots})=h3;have d3:h3.get? s1.heap.objs.size=some {cls:=.type "dict",data:=.dict #[]}:=by rw[<-e3];exact (Heap.get?_update_ne _ _ _ _ nx.symm).trans (WR s1.heap rfl)
 have x3:h3.get? x=some ⟨.ref C,some s1.heap.objs.size,.fields vs,sl⟩:=by rw[<-e3];exact XR _ hx2 rfl
 have o3:∀b o,b≠x->s1.heap.get? b=some o->h3.get? b=some o:=λb o nb z=>by rw[<-e3];exact (Heap.get?_update_ne _ _ _ _ nb).trans (WG _ z)
 have n3:h3.Ns s1.heap.objs.size (λ_=>none):=⟨_,#[],_,d3,rfl,λe he=>absurd he (by simp),λ_=>rfl⟩;show wpAny _ _ (Builtin.ObjectAttr.storeInDict s1.heap.objs.size (.str f s.toks) f v) _ _ _;unfold Builtin.ObjectAttr.storeInDict Builtin.ObjectAttr.newKeyGuard;refine wpAny_bind (wpAny_pure (wpAny_bind (wpAny_nsSet1 (Heap.Ns1.of_empty n3) λh4 n4 sb=>?_)));obtain⟨oD,esD,epD,hoD,hdD,hcD⟩:=n4.count (PySem.Within.cons f v PySem.Within.nil);refine wpAny_bind (wpAny_lookBehind hoD (by rw[hdD];exact pastItsLine_dict (Wm hcD (by rw[Wy,YG,sizeLine_eq];lia))) ?_);subst es;exact wpAny_pure (k h4 _ (X1 (WM _)) nx.symm ((sb.2 x nx).trans x3) n4 λb o nb z=>(sb.2 b (Wj (WL z))).trans (o3 b o nb z))
end
def FC(H:Hp)(a:Addr):Hp:=λb=>if b=a then none else H b
theorem MV:FC H a a=none:=by unfold FC;rw[if_pos rfl]
theorem CU(h:b≠a):FC H a b=H b:=by unfold FC;rw[if_neg h]
theorem IA(h:FC H a b=some o):b≠a/\H b=some o:=by
 have ne:b≠a:=λz=>by rw[z,MV]at h;cases h
 rw[CU ne]at h;exact⟨ne,h⟩
section
variable{A:Around}{R:Addr}{f:Str}{n:Bool}
theorem PQ{Q:Unit->Shared->Prop}(I:AO X pins σ H s)(e:H a=some (Hz a (.ref C) none n))(c:XA X.K C R f)(ry:Ao y u)
  (h:∀dx s',H dx=none->AO X pins σ (Ad (Ad H a (Hz a (.ref C) (some dx) n)) dx (.xd [(f,y)])) s'->Q () s'):wpAny (model X.prog X.w) A (setAttr (.ref a) f u) Q E s:=by
 obtain⟨⟨ox,vs,hx,hc,hd,hn,hfr⟩,_,_⟩:=(show As X.prog X.w H s.heap a (.ext (D7 a (.ref C) none n)) from I.hok a _ e);refine MU I.kIn c hx hc hd hn λh' dx nd ne x1 n1 k1=>?_
 have hdx:H dx=none:=by
  cases q:H dx with
  |none=>rfl
  |some o =>
   obtain⟨ob,z⟩:=(I.hok dx o q).somewhere;rw[nd]at z;cases z
 have na:∀b,H b=none->b≠a:=λb z w=>by rw[w,e]at z;cases z
 have nb:∀b o,s.heap.get? b=some o->b≠dx:=λb o z w=>by rw[w,nd]at z;cases z
 have nh:∀b o,H b=some o->b≠dx:=λb o z=>Ai z hdx
 have at2:∀b,b≠a->b≠dx->Ad (Ad H a (Hz a (.ref C) (some dx) n)) dx (.xd [(f,y)]) b=H b:=λb z1 z2=>by rw[AI z2,AI z1]
 refine h dx _ hdx (I.un (h':=h') (t':=s.toks+2) ⟨λb o q z _ _=>k1 b o (na b z) q,λb o q z _ _=>⟨o.slots,k1 b o (na b z) q⟩,λb o q z _=>by rw[at2 b (na b z) (nb b o q)];exact z,λb o q _=>?_,λb xs q=>?_,λb o v q=>?_,λb ps q=>?_⟩ λb v q=>?_)
 ·by_cases w:b=a
  ·rw[w];exact⟨_,x1⟩
  ·exact⟨o,k1 b o w q⟩
 ·rw[at2 b (λw=>by rw[w,e]at q;cases q) (nh b _ q)];exact q
 ·rw[at2 b (λw=>by rw[w,e]at q;cases q) (nh b _ q)];exact q
 ·exact⟨#[],by rw[at2 b (λw=>by rw[w,e]at q;cases q) (nh b _ q),q];simp⟩
 ·by_cases w:b=dx
  ·rw[w,AC]at q;cases q;rw[w];refine⟨_,n1,λg=>?_⟩
   by_cases z:g=f
   ·rw[z,if_pos rfl,List.lookup_cons_self];exact ry
   ·rw[if_neg z,XZ,beq_false_of_ne z];exact True.intro
  ·rw[AI w]at q
   by_cases z:b=a
   ·rw[z,AC]at q;cases q;rw[z];exact⟨⟨_,vs,x1,hc,hd,rfl,hfr⟩,⟨_,x1⟩,λh1 h2 ⟨o,ws,e,r⟩ k=>⟨o,ws,k o e,r⟩⟩
   ·rw[AI z]at q;refine (I.hok b v q).stay (λc2 o hc2 r=>k1 c2 o ?_ r) (λc2 r=>by rw[at2 c2 (λw2=>by rw[w2,e]at r;cases r) (nh c2 _ r)];exact r) λc2 xs r=>by rw[at2 c2 (λw2=>by rw[w2,e]at r;cases r) (nh c2 _ r)];exact r
    rcases hc2 with w2|w2
    ·rw[w2];exact z
    ·intro w3;rw[w3,e]at w2;cases w2
end
def U2(K:PySem.W.Frag)(C f:Addr):Bool:=(K.lookup C).any λo=>match o with
 | ⟨.type t,_,.cls d,sl⟩=>t=="type"&&(match d.mro with
  |.ref c::tl=>c==C&&PySem.W.tailIn K Fh tl
  |_=>false)&&(match sl.toList with
  |[_,_,_,_,some (.builtin m),_]=>m=="ValueError.__new__"
  |_=>false)&&!d.hasDel&&PySem.W.nsOkIn K d.ns&&PySem.W.nsIn K d.ns "__init__"==some (some (.ref f))
 |_=>false
theorem PR{K:PySem.W.Frag}{N:Addr}{m:Str->Option Value}{v:Value}(kin:K.In h)(g:h.Ns N m)(e:PySem.W.nsIn K N x=some (some v)):m x=some v:=by
 obtain⟨o,es,ep,ho,hd,_,hf⟩:=g;unfold PySem.W.nsIn at e
 split at e
 ·rename_i es' n' sl q
  have z:=kin _ _ q;rw[ho]at z;cases z;cases hd
  split at e
  ·rename_i en he
   cases e;rw[<-hf];unfold nsFind findBy;rw[<-Array.find?_toList,he];rfl
  ·split at e<;>cases e
 ·cases e
theorem Lf{K:PySem.W.Frag}(kin:K.In h)(q:U2 K C f=true):
  ∃tl N nm qn bs dy sn sub ab col dd k0 k1 k2 k3 k5 mN,h.get? C=some (excClassObj nm qn C N bs tl dy sn sub ab col dd k0 k1 k2 k3 k5 "ValueError.__new__")/\h.Ns N mN/\mN "__init__"=some (.ref f)/\OwnTail h Fh tl:=by
 unfold U2 at q;cases ho:K.lookup C with
 |none=>rw[ho]at q;cases q
 |some o =>
  rw[ho]at q;simp only[Option.any_some]at q
  split at q
  next t dd d sl =>
   simp only[Bool.and_eq_true,beq_iff_eq,Bool.not_eq_true']at q;obtain⟨⟨⟨⟨⟨e1,e2⟩,e3⟩,e4⟩,e5⟩,e6⟩:=q;subst e1
   split at e2
   next c tl hm =>
    simp only[Bool.and_eq_true,beq_iff_eq]at e2;obtain⟨e7,e8⟩:=e2;subst e7
    split at e3
    next k0 k1 k2 k3 m k5 hs =>
     simp only[beq_iff_eq]at e3;subst e3;obtain⟨nm,bs,mro,N,qn,dy,sn,sub,ab,col,del⟩:=d;dsimp only at hm e4 e5 e6;subst hm e4
     have e9:sl=#[k0,k1,k2,k3,some (.builtin "ValueError.__new__"),k5]:=by obtain⟨l⟩:=sl;simp only at hs;rw[hs]
     subst e9;have g:h.Ns N (h.nsMap N):=.of_isNs (PySem.W.isNs_of_in kin e5);exact⟨tl,N,nm,qn,bs,dy,sn,sub,ab,col,dd,k0,k1,k2,k3,k5,_,kin _ _ ho,g,PR kin g e6,PySem.W.tail_of_in kin e8⟩
    next=>cases e3
   next=>cases e2
  next=>cases q
structure U3(K:PySem.W.Frag)(C f:Addr):Prop where
 ci:U2 K C f=true
 fn:PySem.W.typeIn K (.ref f)=some (.type "function")
 kp:PySem.W.keepIn K (.ref C)=true
section
variable{k:Nat}{vs:List V}
theorem Nn{Q:VK}(M:U3 X.K C f)(F:Di X.prog X.w X.K X.mg X.base (GH X.prog X.w) k f fd ps sp)(hr:BU (k+1) X.A)(hb:C7 X.K fd ps [])(I:AO X pins σ H s)(r:Am vs us)(hz:vs.length<=sizeLine)
  (h:∀a,H a=none->sp (.ref a::vs) (Ad H a (Hz a (.ref C) none true)) (λv H2=>v=.non/\Q (.ref a) H2) E0):
  wpAny (model X.prog X.w) X.A (call (.ref C) us) (λv s'=>∃a H',v=.ref a/\s.heap.get? a=none/\AO X pins σ H' s'/\Q (.ref a) H') X.xe s:=by
 obtain⟨tl,N,nm,qn,bs,dy,sn,sub,ab,col,dd,k0,k1,k2,k3,k5,mN,hO,hN,hi,T⟩:=Lf I.kIn M.ci;obtain⟨hp,g,d,t,os⟩:=s;refine PP X0 T I.kIn hO hN hi M.fn (λhp' e hsz m=>?_) (by rw[<-r.length];exact hz);obtain⟨t',he,ht,_⟩:=m.there
 have I2:AO X pins σ (Ad H e (Hz e (.ref C) none true)) ⟨hp',g,d,t,os⟩:=I.laid (t':=t) m.keeps hsz
  ⟨⟨_,_,he,rfl,rfl,rfl,λ_=>⟨t',rfl⟩⟩,⟨_,he⟩,λh1 h2 ⟨o,ws,e,r⟩ k=>⟨o,ws,k o e,r⟩⟩
 have hq:=h e (I.hok.fresh hsz);have r2:Am (V.ref e::vs) (Value.ref e::us):=.cons rfl r
 have hl:(Value.ref e::us++[]).length=ps.length:=by rw[W6,<-r2.length];exact F.len _ _ _ _ hq
 have bb:=hb ⟨hp',g,d,t,os⟩ (Value.ref e::us) I2.kIn hl;rw[W6]at bb;refine wpAny_call (codeAny_mono (F.run _ X.stack _ _ ⟨Value.ref e::us,[]⟩ (Value.ref e::us) _ _ E0 (hr.make C us []) (I2.env0.make C us []) bb r2 hq) λrs s2 hq2=>?_);rcases rs with er|fl
 ·obtain⟨_,_,_,_,_,_,_,_,z⟩:=hq2;exact z.elim
 ·cases fl with
  |ret u =>
   obtain⟨v,H',I3,rv,ev,q3⟩:=I2.after hq2;subst ev;exact⟨rv,e,H',rfl,m.new,I3,q3⟩
  |next=>exact False.elim hq2
  |brk=>exact False.elim hq2
  |cont=>exact False.elim hq2
end
def QJ(C:Addr)(sp:Sp)(t:TA):TE:=λσ H Q=>t σ H λvs H1=>vs.length<=sizeLine/\∀a,H1 a=none->sp (.ref a::vs) (Ad H1 a (Hz a (.ref C) none true)) (λv H2=>v=.non/\Q (.ref a) H2) E0
def Ii(C:Addr)(sp:Sp)(E:XK)(t:TA):TS:=λ_ σ H=>QJ C sp t σ H λv H2=>∃a D,v=.ref a/\H2 a=some (Hz a (.ref C) D true)/\E (.ref C) D (FC H2 a)
def TB(K:PySem.W.Frag)(ta tv:TE)(f:Str):TS:=λD σ H=>tv σ H λy H1=>ta σ H1 λx H2=>∃a C R n,x=.ref a/\H2 a=some (Hz a (.ref C) none n)/\XA K C R f/\∀dx,H2 dx=none->D.nx σ (Ad (Ad H2 a (Hz a (.ref C) (some dx) n)) dx (.xd [(f,y)]))
def Ij(X:Cx)(C:Value)(E:XK):Prop:=∀(pins:List (Addr×Obj)) (σ:St) (H:Hp) (s:Shared) (a:Addr) (D:Option Addr),AO X pins σ H s->X.s₀.heap.get? a=none->H a=some (Hz a C D true)->E C D (FC H a)->X.xe (.ref a) s
section
variable{P:Program}{w:World}{K:PySem.W.Frag}{mg:Str->Option Value}{base:Heap}{N:List Str}{cd:Value}{A:Around}{outer:List Env}{E:XK}
theorem FD{C:Value}:Ij (DI (Hy nc P w) P w K mg base N qual scope f cd A outer s H E) C E:=by
 intro pins σ H1 s1 a D I ha0 ea hE;generalize hX:DI (Hy nc P w) P w K mg base N qual scope f cd A outer s H E=X at I ha0⊢;have hst:X.stack=X.env::X.outer:=by rw[<-hX];rfl
 have hfr:X.env.frame=some X.env.locals:=by rw[<-hX];rfl
 have hxe:X.xe=λe s'=>wpAny (model P w) X.A (leaving X.env e) (λ_ s''=>Hy nc P w X.outer X.H₀ X.s₀ E e s'') (λe' s''=>Hy nc P w X.outer X.H₀ X.s₀ E e' s'') s':=by rw[<-hX];rfl
 have hex:X.ex=[]:=by rw[<-hX];rfl
 have hp:X.prog=P:=by rw[<-hX];rfl
 have hw:X.w=w:=by rw[<-hX];rfl
 subst hp hw;rw[hxe];obtain⟨⟨oe,vs,he,hcl,hd,hdt,hfs⟩,_,_⟩:=(show As X.prog X.w H1 s1.heap a (.ext (D7 a C D true)) from I.hok a _ ea);obtain⟨t,hv⟩:=hfs rfl;subst hv hcl;have fr:=I.stack;have hin:∀env∈X.stack,∀b,env.frame=some b->b∈a::CZ X.stack:=λenv he b hb=>WW _ (YD.mpr ⟨env,he,hb⟩)
 have fr':s1.heap.FunFrames (PySem.W.hideAll s1.heap (a::CZ X.stack)) (X.env::X.outer):=by rw[<-hst];exact PySem.W.funFrames_hide fr hin
 have hen:(PySem.W.hideAll s1.heap (a::CZ X.stack)).get? a=none:=PySem.W.hideAll_none _ (Wh ..);refine wpAny_mono (KT.run (Eo _ _) (wpAny_leaving_firstW (Q:=λ_ s2=>∃h2,s2={s1 with heap:=h2}/\Heap.LeftW (PySem.W.hideAll s1.heap (a::CZ X.stack)) (X.env::X.outer) a oe.cls (.ref t) s1.heap h2) (E:=λ_ _=>False) (a0:=.ref t) (by rw[<-hst];exact I.ok.frames) fr' hfr he (λb o q=>PySem.W.of_hideAll _ q) hen hd rfl rfl λh2 z=>⟨h2,rfl,z⟩)) (λ_ s2 q=>?_) λ_ _ q=>q.1.elim
 obtain⟨⟨h2,rfl,k1,⟨k0,kk,k2⟩,k3,k4⟩,dk⟩:=q;have fl:Heap.FlyingW (PySem.W.hideAll s1.heap (a::CZ X.stack)) X.outer a oe.cls (.ref t) h2:=⟨k1,hen,k2,k3⟩
 have naf:a∉CZ X.stack:=λz=>by have y:=I.stkFree a z;rw[ea]at y;cases y
 have nin:∀b,b∉CZ X.stack->b≠a->b∉a::CZ X.stack:=λb z1 z2 z=>(WY.mp z).elim z2 z1
 have kept:∀b o,s1.heap.get? b=some o->b∉CZ X.stack->b≠a->h2.get? b=some o:=λb o q hb hn=>k1 b o (XN _ q (nin b hb hn))
 have nea:∀b,H1 b=none->b≠a:=λb z w=>by rw[w,ea]at z;cases z
 have slt:∀b o,s1.heap.get? b=some o->b∈CZ X.stack->∃sl,h2.get? b=some {o with slots:=sl}:=λb o q hb=>k4 b o q (I.frameData q hb)
 obtain⟨ob,hob,_⟩:=fl.there
 have un1:Un (CZ X.stack) [] H1 (FC H1 a) s1.heap h2:=⟨λb o q z hb _=>kept b o q hb (nea b z),λb o q _ hb _=>slt b o q hb,λb o q z _=>by rw[CU (nea b z)];exact z,λb o q _=>by
  by_cases hb:b∈CZ X.stack
  ·obtain⟨sl,z⟩:=slt b o q hb;exact⟨_,z⟩
  ·by_cases hn:b=a
   ·rw[hn];exact⟨ob,hob⟩
   ·exact⟨o,kept b o q hb hn⟩,λb xs q=>by rw[CU λz=>by rw[z,ea]at q;cases q];exact q,λb o u q=>by rw[CU λz=>by rw[z,ea]at q;cases q];exact q,λb ps q=>⟨#[],by rw[CU (λz=>by rw[z,ea]at q;cases q),q];simp⟩⟩
 have hok1:DR X.prog X.w (FC H1 a) h2:=λb u q=>by
  obtain⟨hn,q'⟩:=IA q;refine (I.hok b u q').stay (λc v hc r=>?_) (λc z=>by rw[CU λz2=>by rw[z2,ea]at z;cases z];exact z) λc xs z=>by rw[CU λz2=>by rw[z2,ea]at z;cases z];exact z
  rcases hc with z|z
  ·refine kept c v r (λy=>?_) (by rw[z];exact hn);have y':=I.stkFree c y;rw[z,q']at y';cases y'
  ·refine kept c v r (λy=>?_) λy=>?_
   ·have y':=I.stkFree c y;rw[z]at y';cases y'
   ·rw[y,ea]at z;cases z
 have J:AO X pins σ (FC H1 a) {s1 with heap:=h2,toks:=s1.toks}:=I.call (g':=s1.gens) (d':=s1.drawn) (ch:=[]) un1 hok1 I.bare λb z=>absurd z (by simp)
 have un:Un (CZ X.outer) [] X.H₀ (FC H1 a) X.s₀.heap h2:=by have z:=J.base;rw[hex]at z;exact z
 refine⟨a,oe.cls,.ref t,D,_,FC H1 a,rfl,⟨J.os,J.bare,un,J.hok,fl,λb o q hb o' q'=>?_,λb u q o' q'=>?_,⟨ob,hob,(dk.get he hob).1.trans hdt⟩,λ_=>⟨ob,hob,(dk.get he hob).2.trans (by unfold Dw;rw[hd];rfl)⟩⟩,hE⟩
 ·obtain⟨o1,q1⟩:=I.base.there b o q (by rw[hex];simp)
  have hn:b∉CZ X.stack:=λz=>by
   rcases WY.mp (I.stkSub b z) with y|y
   ·exact absurd (WP (WL q) I.ok.above) (by rw[y];exact Wb _)
   ·exact hb y
  have hne:b≠a:=λz=>by rw[z,ha0]at q;cases q
  have q2:=kept b o1 q1 hn hne;rw[q']at q2;cases q2;exact XN _ q1 (nin b hn hne)
 ·obtain⟨hne,qq⟩:=IA q;have hn:b∉CZ X.stack:=λz=>by have y:=I.stkFree b z;rw[qq]at y;cases y
  obtain⟨o1,r⟩:=(I.hok b u qq).somewhere;have q2:=kept b o1 r hn hne;rw[q']at q2;cases q2;exact XN _ r (nin b hn hne)
end
section
variable{M:Model}{A:Around}{env:Env}{nm qn:Str}{N:Addr}{bs tl:List Value}{dy:Bool}{sn:List Str}{sub:List Value}{ab:Bool}{col:Option Bool}{dd:Option Addr}{k0 k1 k2 k3 k5:Option Value}{nid:String}
theorem Kt{x:Sem Value}{Q:Flow->Shared->Prop}(hb:tl.contains (.type "BaseException")=true)(hh:A.handled=none)
  (h:wpAny M A x (λv s1=>∃(a t:Addr) (D:Option Addr) (sl:Array (Option Value)),v=.ref a/\s1.heap.get? C=some (excClassObj nm qn C N bs tl dy sn sub ab col dd k0 k1 k2 k3 k5 nid) /\
   s1.heap.get? a=some ⟨.ref C,D,.fields #[.ref t,.none,.none,.none,.bool false,.none],sl⟩/\E (.ref a) s1) E s):wpAny M A (raiseStmt env (some x) none) Q E s:=by
 have hcB:(Value.ref C::tl).contains (.type "BaseException")=true:=by rw[List.contains_cons,hb,Bool.or_true]
 unfold raiseStmt;refine wpAny_bind (wpAny_mono h (λv s1 h1=>?_) λ_ _ x=>x);obtain⟨a,t,D,sl,rfl,hC,he,hE⟩:=h1;obtain⟨hp,g,d,tk,os⟩:=s1
 repeat (first|with_reducible refine wpAny_loadPart_at hC ?_|with_reducible refine wpAny_loadPart_at he ?_|(with_reducible refine wpAny_isSubtype_exc hC ?_;rw[hcB])|wp_step)
 exact wpAny_raiseNew_none hh hE
end
section
variable{k:Nat}{fld:Str}{E:XK}{e o value:Expr}{t:TA}{ta tv:TE}{np cpos pos':Pos}
theorem MW(hc:X.calm=true)(M:U3 X.K C f)(F:Di X.prog X.w X.K X.mg X.base (GH X.prog X.w) k f fd ps sp)(hr:BU (k+1) X.A)(hb:C7 X.K fd ps [])(hg:Gl X x)(hm:X.mg x=some (.ref C))(hx:Ij X (.ref C) E)(ha:PA X (e::es) t)(hex:X.ex=[]:=by rfl)
  (hdb:(x==("__debug__":Str))=false:=by decide) (he:starEach (e::es) X.env=(false,eval e X.env)::starEach es X.env:=by rfl) (hpl:(backTo cpos (starEach es X.env)).any (·.1)=false:=by rfl):
  PS X (.Raise (some (.Call (.Name x np) (e::es) [] cpos)) none pos) (Ii C sp E t):=by
 intro pins s σ H D I h;obtain⟨tl,N,nm,qn,bs,dy,sn,sub,ab,col,dd,k0,k1,k2,k3,k5,mN,hO,hN,hni,T⟩:=Lf I.mod.kin M.ci;have FB:=X0;rw[arm_exec_Raise]
 have call:wpAny (model X.prog X.w) X.A (eval (.Call (.Name x np) (e::es) [] cpos) X.env) (λv s2=>∃(a t:Addr) (D:Option Addr) (sl:Array (Option Value)),v=.ref a/\s2.heap.get? C=some (excClassObj nm qn C N bs tl dy sn sub ab col dd k0 k1 k2 k3 k5 "ValueError.__new__") /\
   s2.heap.get? a=some ⟨.ref C,D,.fields #[.ref t,.none,.none,.none,.bool false,.none],sl⟩/\X.xe (.ref a) s2) X.xe s:=by
  refine wpAny_Call_Name_kw (C6 I hg hm ?_ hdb);refine Xq (h₀:=X.base) I.ok.mod.kin M.kp (BJ (ha cpos pins s σ H _ I h) λus s1 ⟨vs,H1,I1,r,hz,q⟩=>⟨I1.kIn,?_⟩) he hpl;refine BJ (Nn (Q:=λv H2=>∃a D,v=.ref a/\H2 a=some (Hz a (.ref C) D true)/\E (.ref C) D (FC H2 a)) M F hr hb I1 r hz q) λv s2 z=>?_;obtain⟨a,H2,ev,hn,I2,a',D',ea',h2,hE⟩:=z;cases ea';obtain⟨⟨oe,vs',he',hcl,hd,hdt,hfs⟩,_,_⟩:=(show As X.prog X.w H2 s2.heap a (.ext (D7 a (.ref C) D' true)) from I2.hok a _ h2);obtain⟨t',hv⟩:=hfs rfl;subst hv;obtain⟨c1,c2,c3,c4⟩:=oe;dsimp only at hcl hd hdt;subst hcl hd hdt;refine⟨a,t',_,_,ev,I2.bk _ _ hO,he',hx pins σ H2 s2 a _ I2 ?_ h2 hE⟩;cases q0:X.s₀.heap.get? a with
  |none=>rfl
  |some o0 =>
   obtain⟨o1,q1⟩:=I1.base.there a o0 q0 (by rw[hex];simp);rw[hn]at q1;cases q1
 exact wpAny_bind (wpAny_standAt (Kt (C:=C) (nm:=nm) (qn:=qn) (N:=N) (bs:=bs) (tl:=tl) (dy:=dy) (sn:=sn) (sub:=sub) (ab:=ab) (col:=col) (dd:=dd) (k0:=k0) (k1:=k1) (k2:=k2) (k3:=k3) (k5:=k5) (nid:="ValueError.__new__") (T.hasType FB.hasBase) (I.ok.hd hc)
  (wpAny_bind (wpAny_mono call (λv s3 h3=>wpAny_bind (wpAny_standAt (wpAny_pure h3))) λ_ _ z=>z))))
theorem Q9(ha:PE X o ta)(hv:PE X value tv)(hs:swapsWith value (some (.Attribute o fld pos')) pos.line X.env=pure false:=by rfl):PS X (.Assign [.Attribute o fld pos'] value pos) (TB X.K ta tv fld):=by intro pins s σ H D I h;refine plainObj_wpAny_Assign_Attribute (BJ (hv pins s σ H _ I h) λu s1 ⟨y,H1,I1,ry,q⟩=>BJ (ha pins s1 σ H1 _ I1 q) λov s2 z9=>?_) hs;obtain⟨x,H2,I2,rx,a,C,R,n,ex,ea,c,q2⟩:=z9;subst ex;obtain rfl:ov=Value.ref a:=rx;exact PQ I2 ea c ry λdx s3 hdx I3=>⟨σ,_,I3,q2 dx hdx⟩
end
theorem AO.turnedNew(I:AO X pins σ H s)(hf:∀b∈ch,GF X pins H b)(k:∀b u,b∉ch->s.heap.get? b=some u->h'.get? b=some u)(hp:s.heap.objs.size<=p)
  (new:As X.prog X.w (Ad H p o) h' p o):AO X pins σ (Ad H p o) {s with heap:=h',toks:=t'}:=by
 have hpn:H p=none:=I.hok.fresh hp;have nit:∀b u,H b=some u->b∉ch:=λb u e z=>by rw[(hf b z).1]at e;cases e
 have np:∀b u,s.heap.get? b=some u->b≠p:=λb u e=>Wj (WP (WL e) hp)
 refine I.step (g':=s.gens) (d':=s.drawn) (ch:=ch) (λb hb=>⟨(hf b hb).2.2.2.1,(hf b hb).2.1,(hf b hb).2.2.2.2.1,(hf b hb).2.2.2.2.2⟩) (λb u _ _ hc e _=>k b u hc e) (λb u _ _ hc e _=>⟨u.slots,k b u hc e⟩)
  (λb u _ e n=>by rw[AI (np b u e)];exact n) (λb u hc e=>⟨u,k b u hc e⟩) (λb xs e=>by rw[AI (Ai e hpn)];exact e) (λb u v e=>by rw[AI (Ai e hpn)];exact e)
  (λb ps e=>⟨#[],by rw[AI (Ai e hpn),e];simp⟩) (λm hm=>?_) (λb u e=>?_) I.bare
 ·obtain⟨o,es,ep,ho,r⟩:=hm;exact⟨o,es,ep,k _ o (λz=>(hf _ z).2.1 rfl) ho,r⟩
 ·by_cases z:b=p
  ·subst z;rw[AC]at e;cases e;exact new
  ·rw[AI z]at e;refine (I.hok b u e).stay (λc v hc q=>k c v ?_ q) (λc q=>by rw[AI (Ai q hpn)];exact q) λc xs q=>by rw[AI (Ai q hpn)];exact q
   rcases hc with y|y
   ·rw[y];exact nit b u e
   ·exact nit c _ y
def TC(K:PySem.W.Frag)(a:Addr):It:=
 ⟨λi H=>∃xs x,Ac K H a xs/\xs[i]?=some x,λi H v H'=>∃p x,v=.ref p/\H p=none/\H'=Ad H p (.tup [.int i,x])/\∀xs,Ac K H a xs->xs[i]?=some x,λi H=>∃xs,Ac K H a xs/\xs.length<=i⟩
theorem MX{P:Program}{w:World}{K:PySem.W.Frag}{elts:List Expr}{ctx}{tpos:Pos}(a e it:Addr)(hne:e≠it):
  Hh P w K (.Tuple elts ctx tpos) (TC K a) [e,it] e (λi h=>(∃old,IsEnum h e it ((i:Nat):Int) old)/\h.IsListIter it a i) where
 mem:=by simp
 obj:=λi h st b hb=>by
  obtain⟨⟨old,q⟩,o,e1,c,d⟩:=st;rcases WY.mp hb with z|z
  ·rw[z];exact⟨_,q,λv y=>by cases y⟩
  ·rw[WE.mp z];exact⟨o,e1,λv y=>by rw[d]at y;cases y⟩
 keep:=λi h h' st k=>by obtain⟨⟨old,q⟩,li⟩:=st;exact⟨⟨old,k e (by simp) _ q⟩,li.at λo z=>k it (by simp) o z⟩
 item:=by
  intro X hP hw hK hc i pins s σ H E I hf st hg;subst hP hw hK;obtain⟨xs,x,hq,hx⟩:=hg;obtain⟨its,rv,p,hz⟩:=I.list hq;obtain⟨u,hu,ru⟩:=rv.get hx;obtain⟨⟨old,he⟩,li⟩:=st;refine wpAny_pyNext_enum_item he li p.isList (x:=u) (by simpa using hu) hne λh1 out li1 ht hsz k1=>?_;refine⟨_,rfl,wpAny_letOwnedTupleGo_enum out λh2 he2 sb=>?_⟩
  have k2:∀b o,b∉[e,it]->s.heap.get? b=some o->h2.get? b=some o:=λb o hb z=>by
   have hb1:b≠e:=λy=>hb (by simp[y])
   have hb2:b≠it:=λy=>hb (by simp[y])
   exact (sb.2 b hb1).trans (k1 b o hb1 hb2 z)
  have hpe:s.heap.objs.size≠e:=Xu (WL he);have ht2:h2.get? s.heap.objs.size=some {cls:=.type "tuple",data:=.seq #[.int ((i:Nat):Int) s.toks,u]}:=(sb.2 _ hpe).trans ht;have hn:H s.heap.objs.size=none:=I.hok.fresh (WM _);refine⟨.ref s.heap.objs.size,Ad H s.heap.objs.size (.tup [.int ((i:Nat):Int),x]),I.turnedNew (h':=h2) (t':=s.toks+1) hf k2 (WM _) ?_,rfl,⟨_,x,rfl,hn,rfl,λys hy=>by rw[I.list_inj hy hq];exact hx⟩,⟨⟨u,?_⟩,?_⟩,λb hb=>?_⟩
  ·exact⟨by show 2<=sizeLine;decide,[.int ((i:Nat):Int) s.toks,u],.cons ⟨_,rfl⟩ (.cons ru .nil),⟨_,ht2,rfl,_,rfl⟩⟩
  ·have ec:(((i+1:Nat)):Int)=((i:Nat):Int)+1:=by push_cast;rfl
   rw[ec];exact he2
  ·exact li1.at λo z=>(sb.2 it (Ne.symm hne)).trans z
  ·have b0:=(hf b hb).1;rw[AI λz=>?_]
   ·exact b0
   ·obtain⟨o,z1,_⟩:=id li;rcases WY.mp hb with y|y
    ·exact hpe (z.symm.trans y)
    ·exact absurd (WL z1) (by rw[<-WE.mp y,z];exact Wb _)
 done:=by intro X hP hw hK hc i pins s σ H E I hf st hg;subst hP hw hK;obtain⟨xs,hq,hx⟩:=hg;obtain⟨its,rv,p,hz⟩:=I.list hq;obtain⟨⟨old,he⟩,li⟩:=st;obtain⟨f0,f1,f2,f3,f4,f5⟩:=hf it (by simp);have hl:=rv.length;exact wpAny_pyNext_enum_end (I.ok.hd hc) he li p.isList (by simp;lia) λh' eb=>⟨rfl,I.turned (t':=s.toks) (λb o hb e=>eb b o hb e) f0 f1 f3 f4 f5⟩
 self:=λ_ _ _ _ _ st h=>by obtain⟨⟨old,he⟩,_⟩:=st;exact wpAny_pyIter_enum he h
section
variable{elts:List Expr}{ctx}{tpos:Pos}
def TD(K:PySem.W.Frag)(ta:TA):TI:=λσ H R=>ta σ H λvs H1=>∃a xs,vs=[.ref a]/\Ac K H1 a xs/\R (TC K a) H1
theorem Lg{l:Expr}{p pos:Pos}(hg:Gl X "enumerate")(hm:X.mg "enumerate"=none)(ha:PA X [l] ta)(hs:starEach [l] X.env=[(false,eval l X.env)]:=by rfl):PI X (.Tuple elts ctx tpos) (.Call (.Name "enumerate" p) [l] [] pos) (TD X.K ta):=by
 intro pins s σ H R I h;refine Call_ (Cp I hg hm boot_enumerate (Wo (BJ (ha pos pins s σ H _ I h) λus s1 z9=>?_) hs rfl));obtain⟨vs,H1,I1,r1,q1⟩:=z9;obtain⟨a,xs,e,hq,q⟩:=q1;subst e;cases r1 with
 |cons r rr =>
  cases rr;cases r;obtain⟨its,rv,pl,hz⟩:=I1.list hq;refine call_enumerate_list pl.isList λh1 he li hsz k1=>?_;refine wpAny_pyIter_enum he ?_;have n1:H1 (s1.heap.objs.size+1)=none:=I1.hok.fresh (Xi _);have n0:H1 s1.heap.objs.size=none:=I1.hok.fresh (WM _);refine⟨s1.heap.objs.size+1,[s1.heap.objs.size+1,s1.heap.objs.size],_,_,H1,rfl,I1.kept (t':=s1.toks) k1,MX a _ _ (Nat.succ_ne_self _),⟨⟨_,he⟩,li⟩,λb hb=>?_,q⟩;rcases WY.mp hb with z|z
  ·rw[z];exact I1.fpOk (Xi _) n1
  ·rw[WE.mp z];exact I1.fpOk (WM _) n0
theorem Jk{K:PySem.W.Frag}{g:TG}{tb:TS}(Pv:Nat->St->Hp->Prop)(h0:Pv 0 σ H)(hl:∀i σ H,i<=xs.length->Pv i σ H->Ac K H a xs)
  (hs:∀i x p σ H,xs[i]?=some x->Pv i σ H->H p=none->g (.ref p) σ (Ad H p (.tup [.int ((i:Nat):Int),x])) λσ2 H2=>tb {D with nx:=Pv (i+1),ct:=Pv (i+1),bk:=D.nx} σ2 H2) (hd:∀σ H,Pv xs.length σ H->D.nx σ H):
  ∃W:Nat->Nat->St->Hp->Prop,(∃m,W 0 m σ H)/\∀i m σ H,W i m σ H ->
   ((TC K a).stop i H/\D.nx σ H)\/((TC K a).go i H/\∃N:St->Hp->Prop,(∀σ' H',N σ' H'->∃m',m'<m/\W (i+1) m' σ' H')/\∀x H',(TC K a).yld i H x H'->g x σ H' λσ2 H2=>tb {D with nx:=N,ct:=N,bk:=D.nx} σ2 H2):=by
 refine⟨λi m σ H=>m=xs.length-i/\i<=xs.length/\Pv i σ H,⟨xs.length,by simp,Nat.zero_le _,h0⟩,?_⟩;rintro i m σ H ⟨rfl,hi,p⟩;have q:=hl i σ H hi p
 by_cases hlt:i<xs.length
 ·refine .inr ⟨⟨xs,xs[i],q,by simp[hlt]⟩,Pv (i+1),λσ' H' p'=>⟨xs.length-(i+1),by lia,rfl,hlt,p'⟩,λv H' y=>?_⟩;obtain⟨p2,x,e1,e2,e3,y⟩:=y;subst e1 e3;exact hs i x p2 σ H (y xs q) p e2
 ·have e:i=xs.length:=by lia
  subst e;exact .inl ⟨⟨xs,q,WM _⟩,hd σ H p⟩
end
theorem Lh:∀{xs:List V} {us:List Value},xs.length=us.length->(∀(i:Nat) (x:V) (u:Value),xs[i]?=some x->us[i]?=some u->Ao x u)->Am xs us
 |[],[],_,_=>.nil
 |x::xs,u::us,hl,h=>.cons (h 0 x u rfl rfl) (Lh (by simpa using hl) λi y v e1 e2=>h (i+1) y v (by simpa using e1) (by simpa using e2))
 |[],_::_,hl,_=>by simp at hl
 |_::_,[],hl,_=>by simp at hl
section
variable{a:Expr}{cs:List Expr}{ta:TE}{tc:TA}{p tpos:Pos}{ctx}
def No(K:PySem.W.Frag):List V->Hp->VK->Prop
 |[x,c],H,Q=>∃t tp vs us b,Q6 K H x t/\c=.ref tp/\H tp=some (.tup vs)/\vs.map PM=us.map some/\PySem.W.kitAny K t us=some b/\Q (.bl b) H
 |_,_,_=>False
theorem Jl:∀{vs:List V} {its us:List Value},Am vs its->vs.map PM=us.map some->its=us
 |_,_,[],.nil,_=>rfl
 |_,_,_::_,.nil,e=>by simp at e
 |_,_,[],.cons _ _,e=>by simp at e
 |x::xs,_,u::us,.cons r rr,e=>by
  simp only[List.map_cons,List.cons.injEq]at e;obtain⟨e1,e2⟩:=e;rw[Jl rr e2]
  congr 1
  cases x with
  |ty n=>cases e1;exact r
  |ref a=>cases e1;exact r
  |_=>cases e1
theorem RA{x:V}{v t:Value}(I:AO X pins σ H s)(rx:Ao x v)(ty:Q6 X.K H x t):(∃φ,PySem.W.KitX X.K v t φ/\φ s.heap)/\v≠.builtin "__main__.__loader__#opaque":=by
 cases ty with
 |of ty =>
  cases ty with
  |non=>cases (show v=Value.none from rx);exact⟨⟨_,PySem.W.kitx_none,True.intro⟩,λz=>nomatch z⟩
  |bl y=>cases (show v=Value.bool y from rx);exact⟨⟨_,PySem.W.kitx_bool,True.intro⟩,λz=>nomatch z⟩
  |int i=>obtain⟨t,q⟩:=(show ∃t,v=Value.int i t from rx);cases q;exact⟨⟨_,PySem.W.kitx_int,True.intro⟩,λz=>nomatch z⟩
  |str y=>obtain⟨t,q⟩:=(show ∃t,v=Value.str y t from rx);cases q;exact⟨⟨_,PySem.W.kitx_str,True.intro⟩,λz=>nomatch z⟩
  |flt y=>obtain⟨t,q⟩:=(show ∃t,v=Value.float y t from rx);cases q;exact⟨⟨_,PySem.W.kitx_float,True.intro⟩,λz=>nomatch z⟩
  | @lst a xs ea =>
   cases (show v=Value.ref a from rx);obtain⟨_,_,n,_,h1⟩:=(show As X.prog X.w H s.heap a (.lst xs) from I.hok a _ ea);exact⟨⟨_,YK,⟨_,h1,rfl⟩⟩,λz=>nomatch z⟩
  | @frz a ob xs ea =>
   cases (show v=Value.ref a from rx);obtain⟨_,_,_,n,_,h1⟩:=(show As X.prog X.w H s.heap a (.frz ob (.lst xs)) from I.hok a _ ea);exact⟨⟨_,YK,⟨_,h1,rfl⟩⟩,λz=>nomatch z⟩
  | @tup a xs ea =>
   cases (show v=Value.ref a from rx);obtain⟨_,_,_,p⟩:=(show As X.prog X.w H s.heap a (.tup xs) from I.hok a _ ea);obtain⟨o,h1,h2,_⟩:=p;exact⟨⟨_,PySem.W.kitx_tuple,⟨o,h1,h2⟩⟩,λz=>nomatch z⟩
  | @dK a kvs ea =>
   cases (show v=Value.ref a from rx);obtain⟨_,_,vs,_,p⟩:=(show As X.prog X.w H s.heap a (.dK kvs) from I.hok a _ ea);obtain⟨o,es,ep,h1,h2,_⟩:=p;exact⟨⟨_,YL,⟨o,h1,h2.1⟩⟩,λz=>nomatch z⟩
  | @dT a kvs ea =>
   cases (show v=Value.ref a from rx);obtain⟨_,_,xs,_,o,es,ep,h1,h2,_⟩:=(show As X.prog X.w H s.heap a (.dT kvs) from I.hok a _ ea);exact⟨⟨_,YL,⟨o,h1,h2.1⟩⟩,λz=>nomatch z⟩
  | @ins a C dx fs ea cl ha hn htk hm =>
   cases (show v=Value.ref a from rx);obtain⟨mA,O,_⟩:=E6 I.hok ea;obtain⟨od,J,_⟩:=O.look;exact⟨⟨_,PySem.W.kitx_own (cl.get _) cl.hd ha hn htk hm,J⟩,λz=>nomatch z⟩
 | @exc a D dy n e ck =>
  cases (show v=Value.ref a from rx);obtain⟨x,_,_⟩:=(show As X.prog X.w H s.heap a (.ext (D7 a (.ref D) _ _)) from I.hok a _ e);exact⟨⟨_,Jg ck,x⟩,λz=>nomatch z⟩
theorem MY:DT X (.builtin "isinstance") (No X.K):=by
 intro pins s σ H xs us Q I rv h
 match xs,h with
 |[x,c],h =>
 obtain⟨t,tp,vs,ucs,b,ty,rfl,ht,hcs,k,q⟩:=h;obtain⟨v1,v2,rfl,r1,r2⟩:=LY rv;cases (show v2=Value.ref tp from r2);obtain⟨_,its,rits,o,ho,hcl,n,hd⟩:=(show As X.prog X.w H s.heap tp (.tup vs) from I.hok tp _ ht);obtain⟨c1,c2,c3,c4⟩:=o;dsimp only at hcl hd;subst hcl hd;have e:=Jl rits hcs;subst e;obtain⟨⟨φ,Z,hφ⟩,hx⟩:=RA I r1 ty;exact PySem.W.kia_tup Z I.kIn hφ ho k hx λtk=>⟨.bl b,H,I.tok tk,rfl,q⟩
theorem PU(hg:Gl X "isinstance")(hm:X.mg "isinstance"=none)(ha:PE X a ta)(hc:PA X cs tc)(h1:starEach [a,.Tuple cs ctx tpos] X.env=(false,eval a X.env)::starEach [.Tuple cs ctx tpos] X.env:=by rfl)
  (h2:starEach [.Tuple cs ctx tpos] X.env=(false,eval (.Tuple cs ctx tpos) X.env)::starEach [] X.env:=by rfl)
  (h3:(backTo pos (starEach [.Tuple cs ctx tpos] X.env)).any (·.1)=false:=by rfl):PE X (.Call (.Name "isinstance" p) [a,.Tuple cs ctx tpos] [] pos) (Sz (No X.K) (BE ta (BE (E7 tc) Ct))):=
 AU MY hg hm PyProof.Rows.boot_isinstance (AA ha (AA (Dh hc) AB h2) h1) (by decide) (by decide) h1 h3
end
section
variable{K:PySem.W.Frag}
theorem QK:PySem.W.kitOne K (.type "int") (.type "int")=some true:=by kernel_rfl
theorem QL:PySem.W.kitOne K (.type "int") (.type "bool")=some false:=by kernel_rfl
theorem QM:PySem.W.kitOne K (.type "bool") (.type "int")=some true:=by kernel_rfl
theorem Np:PySem.W.kitOne K (.type "bool") (.type "bool")=some true:=by kernel_rfl
theorem QN:PySem.W.kitOne K (.type "NoneType") (.type "int")=some false:=by kernel_rfl
theorem QO:PySem.W.kitOne K (.type "str") (.type "int")=some false:=by kernel_rfl
theorem QP:PySem.W.kitOne K (.type "list") (.type "int")=some false:=by kernel_rfl
theorem QQ:PySem.W.kitOne K (.type "list") (.type "list")=some true:=by kernel_rfl
theorem QR:PySem.W.kitOne K (.type "tuple") (.type "tuple")=some true:=by kernel_rfl
theorem TF:PySem.W.kitOne K (.type "tuple") (.type "list")=some false:=by kernel_rfl
theorem QS:PySem.W.kitOne K (.type "tuple") (.type "int")=some false:=by kernel_rfl
end
structure Ag(P:Program)(w:World)(K:PySem.W.Frag)(mg:Str->Option Value)(base:Heap)(k:Nat)(f:Addr)(ps:List Str)(sp:Sp):Prop where
 ex:∃fd,Di P w K mg base (GH P w) k f fd ps sp/\C7 K fd ps []
 kp:PySem.W.keepIn K (.ref f)=true
section
variable{P:Program}{w:World}{K:PySem.W.Frag}{mg:Str->Option Value}{base:Heap}{st:Stmt}{N:List Str}{k:Nat}
theorem BY.ok0(F:BY K x qual st f fd)(S:AK N ps (AH st))(len:∀vs H Q E,sp vs H Q E->vs.length=ps.length)
  (hbody:∀(cdv:Value) (A:Around) (outer:List Env) (s:Shared) (H:Hp) (vs:List V) (Q:VK) (E:XK),BU k (A.deeper (envOfC qual (AH st) s.heap.objs.size f cdv))->sp vs H Q E ->
   ∃t,Fy (DI (GH P w) P w K mg base N qual (AH st) f cdv A outer s H E).nox (BW st) t/\t {nx:=λ_ H'=>Q .non H',rt:=Q} (CV N vs) H):Di P w K mg base (GH P w) (k+1) f fd ps sp:=
 F.okX S len λcdv A outer s H vs Q E hr hsp=>by obtain⟨t,h,q⟩:=hbody cdv A outer s H vs Q E hr hsp;exact⟨t,h.nox,q⟩
abbrev DW(x qual:Str)(st:Stmt)(ps:List Str):Prop:=∀(kV doc pm:Value) (an:Option Addr) (cdv ct:Value) (us:List Value),us.length=ps.length->bindArgs (PySem.W.fnOf x qual (C9 st) (BW st) (AH st) .none kV doc pm an cdv ct) ⟨us,[]⟩=pure (ps.zip us)
theorem PV(D:∃fd,BY K x qual st f fd)(S:AK N ps (AH st))(bd:DW x qual st ps)(len:∀vs H Q E,sp vs H Q E->vs.length=ps.length)
  (hbody:∀(cdv:Value) (A:Around) (outer:List Env) (s:Shared) (H:Hp) (vs:List V) (Q:VK) (E:XK),BU k (A.deeper (envOfC qual (AH st) s.heap.objs.size f cdv))->sp vs H Q E ->
   ∃t,Fy (DI (GH P w) P w K mg base N qual (AH st) f cdv A outer s H E).nox (BW st) t/\t {nx:=λ_ H'=>Q .non H',rt:=Q} (CV N vs) H):Ag P w K mg base (k+1) f ps sp:=by
 obtain⟨fd,F⟩:=D;exact⟨⟨fd,F.ok0 S len hbody,F.binds bd⟩,F.kp⟩
theorem PX(D:∃fd,BY K x qual st f fd)(S:AK N ps (AH st))(bd:DW x qual st ps)(len:∀vs H Q E,sp vs H Q E->vs.length=ps.length)
  (hbody:∀(cdv:Value) (A:Around) (outer:List Env) (s:Shared) (H:Hp) (vs:List V) (Q:VK) (E:XK),BU k (A.deeper (envOfC qual (AH st) s.heap.objs.size f cdv))->sp vs H Q E ->
   ∃t,Fy (DI (GH P w) P w K mg base N qual (AH st) f cdv A outer s H E) (BW st) t/\t {nx:=λ_ H'=>Q .non H',rt:=Q} (CV N vs) H):Ag P w K mg base (k+1) f ps sp:=by
 obtain⟨fd,F⟩:=D;exact⟨⟨fd,F.okX S len hbody,F.binds bd⟩,F.kp⟩
end
section
variable{k:Nat}{E:St->XK}{EX:XK}{np p cpos:Pos}{e:Expr}{t:TA}
theorem BG(G:Ag X.prog X.w X.K X.mg X.base k f ps sp)(hr:BU k X.A)(hg:Gl X x)(hm:X.mg x=some (.ref f))(hx:CS (GH X.prog X.w) X E)
  (ha:PA X (e::es) t) (hdb:(x==("__debug__":Str))=false:=by decide) (he:starEach (e::es) X.env=(false,eval e X.env)::starEach es X.env:=by rfl) (hpl:(backTo pos (starEach es X.env)).any (·.1)=false:=by rfl):
  PE X (.Call (.Name x p) (e::es) [] pos) (Gg sp [] E t):=by
 obtain⟨⟨fd,F,b⟩,kp⟩:=G;exact Jf F hr hg hm kp b .nil hx ha hdb he hpl
theorem IB(hc:X.calm=true)(M:U3 X.K C f)(G:Ag X.prog X.w X.K X.mg X.base k f ps sp)(hr:BU (k+1) X.A)(hg:Gl X x)(hm:X.mg x=some (.ref C))(hx:Ij X (.ref C) EX)(ha:PA X (e::es) t)(hex:X.ex=[]:=by rfl)
  (hdb:(x==("__debug__":Str))=false:=by decide) (he:starEach (e::es) X.env=(false,eval e X.env)::starEach es X.env:=by rfl) (hpl:(backTo cpos (starEach es X.env)).any (·.1)=false:=by rfl):
  PS X (.Raise (some (.Call (.Name x np) (e::es) [] cpos)) none pos) (Ii C sp EX t):=by
 obtain⟨⟨fd,F,b⟩,kp⟩:=G;exact MW hc M F hr b hg hm hx ha hex hdb he hpl
theorem ER{i:Int}(hg:Gl X x)(hm:∃t,X.mg x=some (.int i t))(hd:(x==("__debug__":Str))=false:=by decide):PE X (.Name x pos) (tC (.int i)):=by obtain⟨t,hm⟩:=hm;exact Nl hg hm hd
end
inductive Ik(K:PySem.W.Frag)(vs:List V)(H:Hp)(Q:VK)(z3_:XK):Prop
 |m (a:Addr) (ns:List Int) (k:Nat):vs=[.ref a,.int k]->Ac K H a (ns.map V.int)->ns.length<=63->Q (.int (ns.getD k 0)) H->Ik K vs H Q z3_
def Kd(H:Hp):V->Prop
 |.int _=>True
 |.bl _=>True
 |.non=>True
 |.str _=>True
 |.ref a=>∃xs,H a=some (.lst xs)\/H a=some (.tup xs)
 |_=>False
theorem Kd.same(e:AF H H'):∀{x:V},Kd H x->Kd H' x
 |.int _,_=>True.intro
 |.bl _,_=>True.intro
 |.non,_=>True.intro
 |.str _,_=>True.intro
 |.ref a,h=>by obtain⟨xs,h⟩:=h;exact⟨xs,h.elim (λq=>.inl (e _ _ q)) λq=>.inr (e _ _ q)⟩
def MZ:V->Bool
 |.int _=>true
 |_=>false
inductive ES(vs:List V)(H:Hp)(Q:VK)(z3_:XK):Prop
 |m (x:V):vs=[x]->Kd H x->Q (.bl (MZ x)) H->ES vs H Q z3_
def Ma(g:Int):V->Bool
 |.int i=>decide (0<=i)&&decide (i<g)
 |_=>false
inductive Gi(vs:List V)(H:Hp)(Q:VK)(z3_:XK):Prop
 |m (x:V) (g:Int):vs=[x,.int g]->Kd H x->Q (.bl (Ma g x)) H->Gi vs H Q z3_
inductive Il(K:PySem.W.Frag)(C R:Addr)(vs:List V)(H:Hp)(Q:VK)(z3_:XK):Prop
 |m (a:Addr) (n:Bool) (y:V):vs=[.ref a,y]->H a=some (Hz a (.ref C) none n)->(∀dx,H dx=none->Q .non (Ad (Ad H a (Hz a (.ref C) (some dx) n)) dx (.xd [("at",y)])))->Il K C R vs H Q z3_
def PY(C:Addr)(i:Nat)(H:Hp)(E:XK):Prop:=∀H' dx,AF H H'->H' dx=some (.xd [("at",.int ((i:Nat):Int))])->E (.ref C) (some dx) H'
def Bp(g:Int)(xs:List V):Option Nat:=xs.findIdx? λx=>!Ma g x
inductive FE(K:PySem.W.Frag)(C:Addr)(vs:List V)(H:Hp)(Q:VK)(E:XK):Prop
 |m (a:Addr) (xs:List V) (g:Int):vs=[.ref a,.int g]->Ac K H a xs->(∀x∈xs,Kd H x)->(match Bp g xs with|none=>∀H',AF H H'->Q .non H'|some i=>PY C i H E)->FE K C vs H Q E
def Ku(g n:Int)(ns:List Int):Int:=ns.foldl (λm x=>m*g+x) n
def Bn(g:Int)(ns:List Int):Int:=Ku g 0 ns
inductive Gj(K:PySem.W.Frag)(C:Addr)(vs:List V)(H:Hp)(Q:VK)(E:XK):Prop
 |m (a:Addr) (xs:List V) (g:Int):vs=[.ref a,.int g]->2<=g->g<=9->Ac K H a xs->(∀x∈xs,Kd H x)->(match Bp g xs with|none=>∀ns:List Int,xs=ns.map V.int->∀H',AF H H'->Q (.int (Bn g ns)) H'|some i=>PY C i H E)->Gj K C vs H Q E
variable{g:Int}
theorem Dm(h:Bp g xs=none):∃ns:List Int,xs=ns.map V.int/\∀n∈ns,0<=n/\n<g:=by
 unfold Bp at h;rw[X4]at h
 induction xs with
 |nil=>exact⟨[],rfl,λn z=>absurd z (by simp)⟩
 |cons x xs ih =>
  obtain⟨ns,e,b⟩:=ih λy hy=>h y (WW _ hy)
  have hx:=h x Wh;cases x with
  |int i =>
   simp only[Ma,Bool.not_eq_false',Bool.and_eq_true,decide_eq_true_eq]at hx;exact⟨i::ns,by rw[e];rfl,λn z=>(WY.mp z).elim (λq=>q▸hx) (b n)⟩
  |_=>simp[Ma]at hx
theorem Ep{ns:List Int}(h:∀n∈ns,0<=n/\n<g):Bp g (ns.map V.int)=none:=by unfold Bp;rw[X4];intro x hx;obtain⟨n,hn,e⟩:=Wd.mp hx;subst e;have q:=h n hn;simp[Ma,q.1,q.2]
theorem GO{ns:List Int}:∀x∈ns.map V.int,Kd H x:=λx hx=>by obtain⟨n,_,e⟩:=Wd.mp hx;subst e;exact True.intro
end L2
namespace L2
open PySem
variable{D:GZ}{H H' H1:Hp}{dx:Addr}{g:Int}{i:Nat}{o:HO}{xs:List V}{σ:St}
theorem RB{t:TS}(Z:Hp->Prop)(hz:Z H')(h:∀H2,Z H2->t D σ H2):t D σ H':=h H' hz
theorem Gk{ns ms:List Int}(h:ns.map V.int=ms.map V.int):ns=ms:=(List.map_inj_right (f:=V.int) λ_ _ e=>V.int.inj e).mp h
theorem PZ(ns:List Int)(lo hi:Option Int):(DM ns lo hi).length<=ns.length:=by unfold DM;rw[Wp,Xl];lia
theorem Pa(h:2<=g)(l:List Int):∀n∈l.map (·%g),0<=n/\n<g:=λn hn=>by obtain⟨m,_,e⟩:=Wd.mp hn;subst e;exact⟨W2 _ (by lia),Wu _ (by lia)⟩
theorem Gm{ea:Addr}{o2 o3:HO}(e:AF H H1)(hea:H1 ea=none)(hdx:Ad H1 ea o dx=none):AF H (FC (Ad (Ad (Ad H1 ea o) ea o2) dx o3) ea):=λb u q=>by have q1:=e b u q;have n1:=Ai q1 hea;have n2:=Ai q1 (DV hdx).2;rw[CU n1,AI n2,AI n1,AI n1];exact q1
theorem Er{x:V}(hb:Bp g (xs.take i)=none)(hx:xs[i]?=some x)(hs:Ma g x=true):Bp g (xs.take (i+1))=none:=by
 unfold Bp at *;rw[X4]at hb⊢;intro y hy;rw[Xm,hx]at hy;rcases WK.mp hy with z|z
 ·exact hb y z
 ·have e:y=x:=by simpa using z
  rw[e,hs];rfl
theorem Es{x:V}(hb:Bp g (xs.take i)=none)(hx:xs[i]?=some x)(hs:Ma g x=false):Bp g xs=some i:=by
 obtain⟨hi,ex⟩:=WF.mp hx
 have e:xs=xs.take i++x::xs.drop (i+1):=by rw[<-ex,<-Xe hi,List.take_append_drop]
 unfold Bp at *;rw[e,List.findIdx?_append,hb];simp[List.findIdx?_cons,hs,List.length_take];lia
theorem Bj{ns:List Int}{x:V}(h:(ns.map V.int)[i]?=some x):∃n,ns[i]?=some n/\x=.int n:=by rw[WO]at h;obtain⟨n,e1,e2⟩:=W5.mp h;exact⟨n,e1,e2.symm⟩
theorem Jm{n:Int}{ns:List Int}(h:ns[i]?=some n):Bn g (ns.take (i+1))=Bn g (ns.take i)*g+n:=by unfold Bn Ku;rw[Xm,h,YN];rfl
def low(g:Int):List Int->Int
 |[]=>0
 |x::r=>x+g*low g r
theorem Jn(g x:Int):∀l:List Int,low g (l++[x])=low g l+x*g^l.length
 |[]=>by simp[low]
 |y::l=>by
  rw[List.cons_append,low,low,Jn g x l,Wy,Wg,Int.mul_add,Int.add_assoc]
  congr 2
  rw[XJ g,Int.mul_assoc]
theorem FF(g x:Int)(l:List Int):Bn g (l++[x])=Bn g l*g+x:=by unfold Bn Ku;rw[YN];rfl
theorem Im(g:Int):∀l:List Int,Bn g l.reverse=low g l
 |[]=>rfl
 |x::l=>by rw[YM,FF,Im g l,low,XJ,Int.add_comm]
theorem Li(g:Int)(ns:List Int):Bn g ns=low g ns.reverse:=by rw[<-Im,List.reverse_reverse]
end L2
namespace L2
open PySem PySem.Spec PyProof.Rows
variable{C a f it:Addr}{D:GZ}{E Q:Value->Shared->Prop}{H H' H2:Hp}{T:String}{X:Cx}{es:List Expr}{fp:List Addr}{h':Heap}{i:Nat}{items:Array Value}{lo:Int}{pins:List (Addr×Obj)}{pos:Pos}{ps:List Str}{qual x:Str}{s s':Shared}{scope:Scope}{sp:Sp}{ta:TA}{te:TE}{tg:Expr}{xs:List V}{σ:St}
mutual
inductive GI(K:PySem.W.Frag)(H:Hp):V->PyData->Prop
 |non:GI K H .non .none
 |bl (b:Bool):GI K H (.bl b) (.bool b)
 |int (i:Int):GI K H (.int i) (.int i)
 |str (x:Str):GI K H (.str x) (.str x)
 |lst {a:Addr} {xs:List V} {ds:List PyData}:Ac K H a xs->DN K H xs ds->GI K H (.ref a) (.list ds)
 |tup {a:Addr} {xs:List V} {ds:List PyData}:Ba K H a xs->DN K H xs ds->GI K H (.ref a) (.tuple ds)
inductive DN(K:PySem.W.Frag)(H:Hp):List V->List PyData->Prop
 |nil:DN K H [] []
 |cons {x:V} {xs:List V} {d:PyData} {ds:List PyData}:GI K H x d->DN K H xs ds->DN K H (x::xs) (d::ds)
end
mutual
theorem GI.reads(I:AO X pins σ H s):∀{x:V} {d:PyData} {u:Value},GI X.K H x d->Ao x u->∃as,Reads s.heap u d as
 |_,_,_,.non,r=>by cases r;exact⟨_,.none⟩
 |_,_,_,.bl b,r=>by cases r;exact⟨_,.bool b⟩
 |_,_,_,.int i,r=>by obtain⟨t,e⟩:=r;subst e;exact⟨_,.int i t⟩
 |_,_,_,.str x,r=>by obtain⟨t,e⟩:=r;subst e;exact⟨_,.str x t⟩
 |_,_,_,.lst hq ha,r=>by cases r;obtain⟨its,rv,⟨o,n,e,c,_,d⟩,_⟩:=I.list hq;obtain⟨as,q⟩:=DN.reads I ha rv;exact⟨_,.list e c d (by simpa using q)⟩
 |_,_,_,.tup hq ha,r=>by cases r;obtain⟨its,rv,⟨o,e,c,n,d⟩,_⟩:=I.tuple hq;obtain⟨as,q⟩:=DN.reads I ha rv;exact⟨_,.tuple e c d (by simpa using q)⟩
theorem DN.reads(I:AO X pins σ H s):∀{xs:List V} {ds:List PyData} {us:List Value},DN X.K H xs ds->Am xs us->∃as,ReadsAll s.heap us ds as
 |_,_,_,.nil,.nil=>⟨_,.nil⟩
 |_,_,_,.cons h t,.cons r rr=>by obtain⟨as,q⟩:=GI.reads I h r;obtain⟨bs,q2⟩:=DN.reads I t rr;exact⟨_,.cons q q2⟩
end
def VN(K:PySem.W.Frag):R2:=λx y H Q=>∃d e,GI K H x d/\GI K H y e/\d.canLay0=true/\e.canLay0=true/\d.depth<=60/\Q (.bl (PyData.eqv d e)) H
theorem RC(hu:X.A.units+64<cLine):Fb X (compareOp .Eq) (VN X.K):=by intro pins s σ H x y v u Q I rx ry h;obtain⟨d,e,hd,he,c1,c2,dd,q⟩:=h;obtain⟨as,r1⟩:=hd.reads I rx;obtain⟨bs,r2⟩:=he.reads I ry;have z:=SeqAt.rcAt_reads (A:=X.A) r1 r2 c1 c2 (by have:=Nat.min_le_left d.depth e.depth;lia);exact z X.prog X.w X.xe _ ⟨.bl _,H,I,rfl,q⟩
theorem TH{it:Expr}{w1 w2:TI}(h1:PI X tg it w1)(h2:PI X tg it w2):PI X tg it (λσ H R=>w1 σ H R\/w2 σ H R):=λpins s σ H R I h=>h.elim (λq=>h1 pins s σ H R I q) λq=>h2 pins s σ H R I q
theorem V5{K:PySem.W.Frag}{t:Value}(h:PySem.W.kitOne K t (.type T)=some true)(r:List Value):PySem.W.kitAny K t (.type T::r)=some true:=by unfold PySem.W.kitAny;rw[h]
theorem Pb{K:PySem.W.Frag}{t:Value}{r:List Value}{b:Bool}(h:PySem.W.kitOne K t (.type T)=some false)(h2:PySem.W.kitAny K t r=some b):PySem.W.kitAny K t (.type T::r)=some b:=by unfold PySem.W.kitAny;rw[h];exact h2
section
variable{K:PySem.W.Frag}
theorem TJ:PySem.W.kitOne K (.type "NoneType") (.type "list")=some false:=by kernel_rfl
theorem TK:PySem.W.kitOne K (.type "NoneType") (.type "tuple")=some false:=by kernel_rfl
theorem TL:PySem.W.kitOne K (.type "str") (.type "list")=some false:=by kernel_rfl
theorem TM:PySem.W.kitOne K (.type "str") (.type "tuple")=some false:=by kernel_rfl
theorem TN:PySem.W.kitOne K (.type "int") (.type "list")=some false:=by kernel_rfl
theorem TQ:PySem.W.kitOne K (.type "int") (.type "tuple")=some false:=by kernel_rfl
theorem TR:PySem.W.kitOne K (.type "bool") (.type "list")=some false:=by kernel_rfl
theorem TU:PySem.W.kitOne K (.type "bool") (.type "tuple")=some false:=by kernel_rfl
end
theorem Cu{K:PySem.W.Frag}(h:X.K=K):S0 X (S1 K):=h▸Ay
theorem Lj{K:PySem.W.Frag}(h:X.K=K):S0 X (S2 K):=h▸Af
structure Pd(P:Program)(w:World)(K:PySem.W.Frag)(mg:Str->Option Value)(base:Heap)(k:Nat)(f:Addr)(ps:List Str)(sp:Sp):Prop where
 ex:∃fd,Di P w K mg base (Hy true P w) k f fd ps sp/\C7 K fd ps []
 kp:PySem.W.keepIn K (.ref f)=true
section
variable{P:Program}{w:World}{K:PySem.W.Frag}{mg:Str->Option Value}{base:Heap}{st:Stmt}{N:List Str}{k:Nat}
theorem Pe(D:∃fd,BY K x qual st f fd)(S:AK N ps (AH st))(bd:DW x qual st ps)(len:∀vs H Q E,sp vs H Q E->vs.length=ps.length)
  (hbody:∀(cdv:Value) (A:Around) (outer:List Env) (s:Shared) (H:Hp) (vs:List V) (Q:VK) (E:XK),BU k (A.deeper (envOfC qual (AH st) s.heap.objs.size f cdv))->sp vs H Q E ->
   ∃t,Fy (DI (Hy true P w) P w K mg base N qual (AH st) f cdv A outer s H E) (BW st) t/\t {nx:=λ_ H'=>Q .non H',rt:=Q} (CV N vs) H):Pd P w K mg base (k+1) f ps sp:=by
 obtain⟨fd,F⟩:=D;exact⟨⟨fd,F.okX S len hbody,F.binds bd⟩,F.kp⟩
end
section
variable{k:Nat}{E:St->XK}{p:Pos}{e:Expr}{t:TA}
theorem Nq(G:Pd X.prog X.w X.K X.mg X.base k f ps sp)(hr:BU k X.A)(hg:Gl X x)(hm:X.mg x=some (.ref f))(hx:CS (Hy true X.prog X.w) X E)
  (ha:PA X (e::es) t) (hdb:(x==("__debug__":Str))=false:=by decide) (he:starEach (e::es) X.env=(false,eval e X.env)::starEach es X.env:=by rfl) (hpl:(backTo pos (starEach es X.env)).any (·.1)=false:=by rfl):
  PE X (.Call (.Name x p) (e::es) [] pos) (Gg sp [] E t):=by
 obtain⟨⟨fd,F,b⟩,kp⟩:=G;exact Jf F hr hg hm kp b .nil hx ha hdb he hpl
end
def He(X:Cx)(s2:Shared)(H2:Hp)(env:Env)(fp:List Addr)(N:List Str):Cx:={X with N:=N,s₀:=s2,H₀:=H2,env:=env,outer:=X.stack,ex:=fp,fn:=λ_=>false,pn:=[],xe:=λ_ _=>False}
theorem TV{s2:Shared}{env:Env}{N:List Str}:(He X s2 H2 env fp N).K=X.K:=rfl
def Io(env:Env):List (Str×Addr)->Prop
 |[]=>True
 | (y,c)::r=>env.cells.lookup y=some c/\Io env r
theorem Io.at'{env:Env}:∀{cl:List (Str×Addr)},Io env cl->∀{y:Str} {c:Addr},cl.lookup y=some c->env.cells.lookup y=some c
 |[],_,_,_,h=>by cases h
 | (z,d)::r,⟨h1,h2⟩,y,c,h=>by
  rw[XZ]at h;cases e:y==z with
  |true =>
   rw[e]at h;cases h;rw[eq_of_beq e];exact h1
  |false =>
   rw[e]at h;exact h2.at' h
def U4:Option NameKind->Bool
 |some .cell=>true
 |some .free=>true
 |_=>false
theorem RD{k:Option NameKind}(h:U4 k=true):k=some .cell\/k=some .free:=by
 unfold U4 at h
 split at h
 ·exact .inl rfl
 ·exact .inr rfl
 ·cases h
def Jo(X:Cx)(scope:Scope)(cl:List (Str×Addr)):List (Nat×Str)->Prop
 |[]=>True
 | (j,y)::r=>(X.N[j]?=some y/\U4 (X.env.scope.names.lookup y)=true/\(relabel scope X.env).names.lookup y=X.env.scope.names.lookup y/\(cl.lookup y).isSome=true)/\Jo X scope cl r
theorem Jo.at'{cl:List (Str×Addr)}:∀{fv:List (Nat×Str)},Jo X scope cl fv->∀q∈fv,X.N[q.1]?=some q.2/\U4 (X.env.scope.names.lookup q.2)=true/\(relabel scope X.env).names.lookup q.2=X.env.scope.names.lookup q.2/\(cl.lookup q.2).isSome=true
 |[],_,q,h=>by cases h
 | (j,y)::r,⟨h1,h2⟩,q,h=>(WY.mp h).elim (λe=>by rw[e];exact h1) λz=>h2.at' q z
def El(σ:St)(fv:List (Nat×Str)):List (Option V):=fv.map λq=>(σ[q.1]?).join
def PF(X:Cx)(ifs:List Expr)(t:TT):Prop:=∀(pins:List (Addr×Obj)) (s:Shared) (σ:St) (H:Hp) (Q:Bool->Hp->Prop),AO X pins σ H s->t σ H Q ->
 wpAny (model X.prog X.w) X.A (forIn ifs true λc r=>if r=true then do let ok <-isTrue c X.env (eval c X.env);pure (ForInStep.yield ok) else pure (ForInStep.yield r)) (TP X pins σ Q) X.xe s
def Mb:TT:=λ_ H Q=>Q true H
theorem Bx:PF X [] Mb:=λpins s σ H Q I h=>wpAny_pure ⟨H,I,h⟩
theorem Nr{c:Expr}{t:TT}(h:PT X c t):PF X [c] t:=λpins s σ H Q I q=>by simp only[List.forIn_cons,List.forIn_nil,if_true];exact wpAny_bind (wpAny_bind (BJ (h pins s σ H Q I q) λb s1 z=>wpAny_pure (wpAny_pure z)))
def D8(J:It)(tt:TT)(te:TE)(σf:List (Option V))(D:Addr)(Q:VK)(H:Hp):Prop:=∃W:Nat->Nat->List V->Hp->Prop,(∃n,W n 0 [] (Ad H D (.lst [])))/\∀n i acc H2,W n i acc H2 ->
 (J.stop i H2/\Q (.ref D) H2)\/(J.go i H2/\∃N:List V->Hp->Prop,(∀l H',N l H'->∃n',n'<n/\W n' (i+1) l H')/\∀v H3,J.yld i H2 v H3->tt (some v::σf) H3 λb H4 =>
  if b=true then te (some v::σf) H4 λy H5=>H5 D=some (.lst acc)/\acc.length<sizeLine/\N (acc++[y]) (Ad H5 D (.lst (acc++[y]))) else N acc H4)
def Nt(wi:TI)(fv:List (Nat×Str))(tt:TT)(te:TE):TE:=λσ H Q=>wi σ H λJ H1=>∀D,H1 D=none->D8 J tt te (El σ fv) D Q H1
section
variable{X:Cx}{x:Str}{px pos:Pos}{elt iter:Expr}{ifs:List Expr}{scope:Scope}{cl:List (Str×Addr)}{fv:List (Nat×Str)}{wi:TI}{tt:TT}{te:TE}
 {pins:List (Addr×Obj)} {σ:St} {H2:Hp} {s2:Shared} {fp:List Addr} {it:Addr} {tn:Nat->Heap->Prop} {J:It}
theorem RE{N:List Str}(I2:AO X pins σ H2 s2)(f2:∀b∈fp,GF X pins H2 b)(o2:∀b∈fp,∃o,s2.heap.get? b=some o/\∀v,o.data≠.cell v)(hC:s2.heap.objs.size<=C)(hk:scope.kind=.function)(hcl:Io X.env cl)
  (hhas:((relabel scope X.env).names.all λz=>!(z.2==.cell||z.2==.free)||(cl.lookup z.1).isSome)=true):(He X s2 H2 (compEnvC scope cl C X.env) fp N).Ok where
 mod:=I2.ok.mod
 kind:=hk
 glob:=I2.ok.glob
 blt:=I2.ok.blt
 above:=hC
 inj:=λx y c h1 h2=>I2.ok.inj x y c (hcl.at' h1) (hcl.at' h2)
 has:=λy h=>by
  have key:∀k:NameKind,(relabel scope X.env).names.lookup y=some k->(k==.cell||k==.free)=true->∃c,cl.lookup y=some c:=λk hl hk=>by
   have mem:(y,k)∈(relabel scope X.env).names:=by
    generalize (relabel scope X.env).names=l at hl
    induction l with
    |nil=>cases hl
    |cons q r ih =>
     rw[XZ]at hl;cases e:y==q.1 with
     |true =>
      rw[e]at hl;cases hl;rw[eq_of_beq e];exact Wh
     |false =>
      rw[e]at hl;exact WW _ (ih hl)
   have z:=X6.mp hhas _ mem;simp only[hk,Bool.not_true,Bool.false_or]at z;exact X8.mp z
  rcases h with h|h
  ·exact key _ h rfl
  ·exact key _ h rfl
 cab:=λ_ _ h=>nomatch h
 hd:=I2.ok.hd
 frames:=I2.ok.frames
 stk:=.inl rfl
 exf:=λb hb=>by obtain⟨o,e,_⟩:=o2 b hb;exact⟨Wj (WP (WL e) hC),λy c h=>(f2 b hb).2.2.2.2.1 y c (hcl.at' h)⟩
 bs:=λb o e=>I2.bs b o e
 bsz:=Wm I2.ok.bsz I2.sz
 noex:=λb o e hb=>by
  obtain⟨_,_,_,h,_⟩:=f2 b hb;rcases h with h|h
  ·exact I2.ok.noex b o e h
  ·exact absurd (WP (WL e) (Wm I2.ok.bsz h)) (Wb _)
 exfs:=λb hb z=>(WY.mp (I2.stkSub b z)).elim (f2 b hb).2.1 (f2 b hb).2.2.1
 funs:=I2.stack
 frf:=I2.stkFree
theorem Jp{env:Env}{N:List Str}{σ':St}{pl:List (Addr×Obj)}(I2:AO X pins σ H2 s2)(f2:∀b∈fp,GF X pins H2 b)(Ib:AO (He X s2 H2 env fp N) pl σ' H' s'):AO X pins σ H' s':=
 I2.call' (ch:=fp) Ib.os Ib.base Ib.hok Ib.bare λb hb=>⟨(f2 b hb).2.2.2.1,(f2 b hb).2.1,(f2 b hb).2.2.2.2.1,(f2 b hb).2.2.2.2.2⟩
theorem RF{D:Addr}{h1:Heap}{t1:Nat}(I2:AO X pins σ H2 s2)(f2:∀b∈fp,GF X pins H2 b)(o2:∀b∈fp,∃o,s2.heap.get? b=some o/\∀v,o.data≠.cell v)(hD:s2.heap.objs.size<=D)(hC:s2.heap.objs.size<=C)(hDC:D≠C)
  (old:∀b o,s2.heap.get? b=some o->h1.get? b=some o) (hl:h1.PlainList D #[]) (hn:h1.Ns C (λ_=>none)) (hk:scope.kind=.function) (hcl:Io X.env cl)
  (hhas:((relabel scope X.env).names.all λz=>!(z.2==.cell||z.2==.free)||(cl.lookup z.1).isSome)=true) (hfv:Jo X scope cl fv):
  AO (He X s2 H2 (compEnvC scope cl C X.env) fp (x::fv.map (·.2))) [] (none::El σ fv) (Ad H2 D (.lst [])) {s2 with heap:=h1,toks:=t1} where
 ok:=RE I2 f2 o2 hC hk hcl hhas
 os:=rfl
 bare:=I2.bare
 base:=Un.laid old hD (I2.hok.fresh hD)
 loc:=by
  refine⟨_,hn,λi y v h1' h2' _=>?_⟩;cases i with
  |zero=>cases h2'
  |succ i =>
   have h1':(fv.map (·.2))[i]?=some y:=h1';have h2':(El σ fv)[i]?=some (some v):=h2'
   obtain⟨q,hq,e1⟩:∃q,fv[i]?=some q/\q.2=y:=by rw[WO]at h1';exact W5.mp h1'
   subst e1;obtain⟨g1,g2,g3,g4⟩:=hfv.at' q (WQ hq);unfold El at h2';rw[WO,hq]at h2';have e2:(σ[q.1]?).join=some v:=Option.some.inj h2'
   have e3:σ[q.1]?=some (some v):=by
    cases z:σ[q.1]? with
    |none=>rw[z]at e2;cases e2
    |some w=>rw[z]at e2;exact congrArg some e2
   obtain⟨m,_,lk⟩:=I2.loc;have g2:=RD g2;obtain⟨u,ru,lu⟩:=lk q.1 q.2 v g1 e3 (.inr g2);refine⟨u,ru,.inr ⟨g2.imp (λz=>g3.trans z) (λz=>g3.trans z),?_⟩⟩;obtain⟨c,hc⟩:=X8.mp g4;refine⟨c,hc,?_⟩;rcases lu with⟨kk,_⟩|⟨_,c',e',⟨o,eo,d⟩⟩
   ·rcases g2 with z|z<;>(rw[show X.env.kindOf q.2=_ from z]at kk;cases kk)
   ·have e4:=hcl.at' hc;rw[e']at e4;cases e4;exact⟨o,old c o eo,d⟩
 cell:=λy c h=>by obtain⟨v,o,eo,d⟩:=I2.cell y c (hcl.at' h);exact⟨v,o,old c o eo,d⟩
 free:=by show Ad H2 D _ C=none;rw[AI (Ne.symm hDC)];exact I2.hok.fresh hC
 freeC:=λy c h=>by obtain⟨v,o,eo,d⟩:=I2.cell y c (hcl.at' h);rw[AI (Wj (WP (WL eo) hD))];exact I2.freeC y c (hcl.at' h)
 pin:=λp hp=>nomatch hp
 hok:=I2.hok.laid old hD (by obtain⟨n,e⟩:=hl;exact⟨Nat.zero_le _,[],n,.nil,by simpa using e⟩)
 len:=by simp[El,He]
theorem Lk{RR:Value->Addr->Result->Shared->Prop}{Q:VK}(hc:X.calm=true)(I2:AO X pins σ H2 s2)(T:Hh X.prog X.w X.K (.Name x px) J fp it tn)(st2:tn 0 s2.heap)(f2:∀b∈fp,GF X pins H2 b)
  (hcell:∀y∈scope.names,y.2≠.cell) (hk:scope.kind=.function) (hx:scope.names.lookup x=some .local) (hcl:Io X.env cl) (hhas:((relabel scope X.env).names.all λz=>!(z.2==.cell||z.2==.free)||(cl.lookup z.1).isSome)=true) (hfv:Jo X scope cl fv) (hnd:(x::fv.map (·.2)).Nodup)
  (hf:∀s H C fp,PF (He X s H (compEnvC scope cl C X.env) fp (x::fv.map (·.2))) ifs tt) (he:∀s H C fp,PE (He X s H (compEnvC scope cl C X.env) fp (x::fv.map (·.2))) elt te)
  (hw:∀D,H2 D=none->D8 J tt te (El σ fv) D Q H2)
  (hRR:∀D C σ' H' s',s2.heap.objs.size<=C->AO (He X s2 H2 (compEnvC scope cl C X.env) fp (x::fv.map (·.2))) [] σ' H' s'->Q (.ref D) H'->RR (.ref D) C (.ok .next) s'):
  wpAny (model X.prog X.w) X.A (newList []) (λacc s3=>wpAny (model X.prog X.w) X.A (newFunctionEnv scope X.env.globals cl [] X.env.qual none .none (some X.env)) (λcenv s4 =>
   codeAny (model X.prog X.w) X.A (.compStart (.ListComp elt [⟨.Name x px,iter,ifs,0⟩] scope pos) 0 (.ref it) acc {cenv with scope:=relabel scope X.env}) (RR acc cenv.locals) s4) E s3) E s2:=by
 refine wpAny_newObj_type (wpAny_newFunctionEnv hcell (by intro y hy;simp at hy) (λh1 hns hsb=>?_) hk);dsimp only at hns hsb⊢;generalize hH:s2.heap.push {cls:=.type "list",dict:=none,data:=.seq ([]:List Value).toArray}=HH at hns hsb⊢;have eC:HH.objs.size=s2.heap.objs.size+1:=by rw[<-hH,Ww]
 have hDC:s2.heap.objs.size≠HH.objs.size:=by rw[eC];exact Wj (W8 _)
 have hC:s2.heap.objs.size<=HH.objs.size:=by rw[eC];exact Xi _
 have old:∀b o,s2.heap.get? b=some o->h1.get? b=some o:=λb o e=>hsb.extBut b o (by rw[eC];exact Wj (XO (WL e))) (WG _ (hH▸WG _ e))
 have hacc:h1.PlainList s2.heap.objs.size #[]:=⟨_,hsb.extBut _ _ hDC (WG _ (hH▸WR _ rfl))⟩;have o2:=T.obj _ _ st2;obtain⟨W,⟨n0,w0⟩,turn⟩:=hw s2.heap.objs.size (I2.hok.fresh (WM _));generalize eD:s2.heap.objs.size=D at *;generalize eCC:HH.objs.size=C at *;have Ib:=RF (x:=x) (t1:=s2.toks+([]:List (Str×Value)).length) I2 f2 o2 (by rw[eD];exact WM _) (by rw[eD];exact hC) hDC old hacc hns hk hcl hhas hfv;have st1:tn 0 h1:=T.keep _ _ _ st2 λb _ o e=>old b o e
 have nD:∀b∈fp,b≠D:=λb hb=>by obtain⟨o,e,_⟩:=o2 b hb;rw[<-eD];exact Wj (WL e)
 have fr1:∀b∈fp,Ad H2 D (.lst []) b=none:=λb hb=>by rw[AI (nD b hb)];exact (f2 b hb).1
 have hxl:(relabel scope X.env).names.lookup x=some .local:=lookup_relabel_local hx
 have stat:∀{H':Hp},(∀b∈fp,H' b=none)->∀b∈fp,GF (He X s2 H2 (compEnvC scope cl C X.env) fp (x::fv.map (·.2))) [] H' b:=λhn b hb=>by obtain⟨o,e,_⟩:=o2 b hb;exact⟨hn b hb,λz=>absurd (WL e) (by rw[z,eD];exact Nat.not_lt.mpr hC),λz=>(WY.mp (I2.stkSub b z)).elim (f2 b hb).2.1 (f2 b hb).2.2.1,.inl hb,λy c h=>(f2 b hb).2.2.2.2.1 y c (hcl.at' h),λq hq=>nomatch hq⟩
 have loop:codeAny (model X.prog X.w) X.A (.compLoop (.ListComp elt [⟨.Name x px,iter,ifs,0⟩] scope pos) 0 (.ref it) (.ref D) (compEnvC scope cl C X.env)) (RR (.ref D) C) {s2 with heap:=h1,toks:=s2.toks+([]:List (Str×Value)).length}:=by
  refine codeAny_compLoop_tests (λn s'=>∃i acc σb H',AO (He X s2 H2 (compEnvC scope cl C X.env) fp (x::fv.map (·.2))) [] σb H' s'/\σb.tail=El σ fv/\tn i s'.heap/\(∀b∈fp,H' b=none)/\W n i acc H') ?_ n0 ⟨0,[],_,_,Ib,rfl,st1,fr1,w0⟩;rintro n s3 ⟨i,acc,σ3,H3,I3,t3,st3,fr3,w3⟩;rcases turn n i acc H3 w3 with⟨stop,qn⟩|⟨go,NN,hNN,step⟩
  ·refine BJ (T.done (He X s2 H2 (compEnvC scope cl C X.env) fp (x::fv.map (·.2))) rfl rfl rfl hc i [] s3 σ3 H3 _ I3 (stat fr3) st3 stop) λr s4 q4=>?_;obtain⟨hr,I4⟩:=q4;subst hr;exact hRR D C σ3 H3 s4 hC I4 qn
  ·refine BJ (T.item (He X s2 H2 (compEnvC scope cl C X.env) fp (x::fv.map (·.2))) rfl rfl rfl hc i [] s3 σ3 H3 _ I3 (stat fr3) st3 go) λr s4 q4=>?_;obtain⟨u,hr,h4⟩:=q4;subst hr;refine (show wpAny _ _ (letOwnedTupleGo (.Name x px) (.ref it) u >>= λ_=>assign (.Name x px) (compEnvC scope cl C X.env) u) _ _ _ from wpAny_bind (BJ h4 λ_ s5 q5=>?_));obtain⟨v,H5,I5,r5,y5,st5,fr5⟩:=q5;have I5':=I5.pinned (stat fr5) (T.obj _ _ st5);have again:∀{σ7:St} {H7:Hp} {s7:Shared},AO (He X s2 H2 (compEnvC scope cl C X.env) fp (x::fv.map (·.2))) ([]++Gb fp s5.heap) σ7 H7 s7->tn (i+1) s7.heap/\∀b∈fp,H7 b=none:=λ{σ7 H7 s7} I7=>by refine⟨T.keep _ _ _ st5 λb hb o e=>(I7.pin (b,o) (Ws _ (Ws _ (Dg hb e)))).1,λb hb=>?_⟩;obtain⟨o,e,d⟩:=T.obj _ _ st5 b hb;exact (I7.pin (b,o) (Ws _ (Ws _ (Dg hb e)))).2.1
   have sσ:σ3.set 0 (some v)=some v::El σ fv:=by
    cases σ3 with
    |nil =>
     have z:=I3.len;simp[He]at z
    |cons a b =>
     have z:b=El σ fv:=t3;rw[z];rfl
   have g:=LU (X:=He X s2 H2 (compEnvC scope cl C X.env) fp (x::fv.map (λq:Nat×Str=>q.2))) (pos:=px) (i:=0) (x:=x) hnd rfl (.inl hxl) (.inr hxl);refine wpAny_noRaise (BJ (g _ s5 σ3 H5 v u (λσ' H'=>σ'=some v::El σ fv/\H'=H5) I5' r5 ⟨sσ,rfl⟩) λ_ s6 q6=>?_);obtain⟨σ6,H6,I6,rfl,rfl⟩:=q6;refine wpAny_noRaise (BJ (hf _ _ _ _ _ s6 _ _ _ I6 (step v _ y5)) λb s7 q7=>?_);obtain⟨H7,I7,q7⟩:=q7;cases b with
   |false =>
    rw[if_neg (by decide)]at q7⊢;obtain⟨n',hn',w7⟩:=hNN _ _ q7;exact⟨n',hn',i+1,acc,_,H7,I7.unpinned,rfl,(again I7).1,(again I7).2,w7⟩
   |true =>
    rw[if_pos rfl]at q7⊢;refine wpAny_noRaise (BJ (he _ _ _ _ _ s7 _ _ _ I7 q7) λyv s8 q8=>?_);obtain⟨y,H8,I8,r8,e8,l8,q8⟩:=q8;obtain⟨n',hn',w8⟩:=hNN _ _ q8;refine wpAny_noRaise (BJ (BD (X:=He X s2 H2 (compEnvC scope cl C X.env) fp (x::fv.map (·.2))) _ s8 _ H8 (.ref D) [y] (.ref D) [yv] (λ_ H'=>H'=Ad H8 D (.lst (acc++[y]))) I8 rfl (.cons r8 .nil) ⟨D,acc,y,rfl,rfl,e8,l8,rfl⟩) λ_ s9 q9=>?_);obtain⟨_,H9,I9,_,rfl⟩:=q9;exact⟨n',hn',i+1,acc++[y],_,_,I9.unpinned,rfl,(again I9).1,(again I9).2,w8⟩
 exact codeAny_compStart_list loop (T.self X.A 0 _ _ _ st1 loop)
theorem AO.letGo(I2:AO X pins σ H2 s2){σ':St}(J:AO X pins σ' H' s')(hC:s2.heap.objs.size<=C)(hn:H' C=none)(sb:Heap.SameBut C s'.heap h'):AO X pins σ' H' {s' with heap:=h',toks:=s'.toks}:=
 J.turned (it:=C) (λb o hb e=>(sb.2 b hb).trans e) hn (Xu (WP I2.lt hC)) (.inr (Wm I2.sz hC)) (λy c e z=>by obtain⟨v,o,eo,d⟩:=I2.cell y c e;exact absurd (WP (WL eo) (by rw[z];exact hC)) (Wb _)) λp hp z=>absurd (WP (WL (I2.pin p hp).1) (by rw[z];exact hC)) (Wb _)
theorem Pg(hc:X.calm=true)(hi:PI X (.Name x px) iter wi)(hclos:closureFor scope X.env=pure cl)(hcell:∀y∈scope.names,y.2≠.cell)(hk:scope.kind=.function)(hnames:∀z∈scope.names,z.2=.local->scope.names.lookup z.1=some .local)
  (hx:scope.names.lookup x=some .local) (hcl:Io X.env cl) (hhas:((relabel scope X.env).names.all λz=>!(z.2==.cell||z.2==.free)||(cl.lookup z.1).isSome)=true) (hfv:Jo X scope cl fv) (hnd:(x::fv.map (·.2)).Nodup)
  (hf:∀s H C fp,PF (He X s H (compEnvC scope cl C X.env) fp (x::fv.map (·.2))) ifs tt) (he:∀s H C fp,PE (He X s H (compEnvC scope cl C X.env) fp (x::fv.map (·.2))) elt te)
  (hs:∀x,foldedSetIterable iter X.env x=pure x:=by intro _;rfl):PE X (.ListComp elt [⟨.Name x px,iter,ifs,0⟩] scope pos) (Nt wi fv tt te):=by
 intro pins s σ H Q I h;rw[eval_ListComp];refine wpAny_comprehension_free (use:=none) rfl hs hclos hk hnames (BJ (hi pins s σ H _ I h) λv s1 h1=>BJ h1 λitv s2 h2=>?_);obtain⟨it,fp,tn,J,H2,e,I2,T,st2,f2,hw⟩:=h2;subst e;refine Lk (RR:=λacc C=>compPost (model X.prog X.w) X.A X.xe none (EP X pins σ Q) acc C) hc I2 T st2 f2 hcell hk hx hcl hhas hfv hnd hf he hw λD C σ' H' s' hC Ib q=>?_;obtain⟨m,hn,_⟩:=Ib.loc;exact⟨m,hn,λh' sb=>⟨.ref D,H',AO.letGo I2 (Jp I2 f2 Ib) hC Ib.free sb,rfl,q⟩⟩
theorem FG{y:Str}{iy:Nat}{py spos:Pos}(hc:X.calm=true)(hN:X.N.Nodup)(hy:X.N[iy]?=some y)(hyl:P4 X.env.scope y)(hi:PI X (.Name x px) iter wi)(hsw:swapsWith (.ListComp elt [⟨.Name x px,iter,ifs,0⟩] scope pos) (some (.Name y py)) spos.line X.env=pure true)
  (hclos:closureFor scope X.env=pure cl) (hcell:∀y∈scope.names,y.2≠.cell) (hk:scope.kind=.function) (hnames:∀z∈scope.names,z.2=.local->scope.names.lookup z.1=some .local)
  (hx:scope.names.lookup x=some .local) (hcl:Io X.env cl) (hhas:((relabel scope X.env).names.all λz=>!(z.2==.cell||z.2==.free)||(cl.lookup z.1).isSome)=true) (hfv:Jo X scope cl fv) (hnd:(x::fv.map (·.2)).Nodup)
  (hf:∀s H C fp,PF (He X s H (compEnvC scope cl C X.env) fp (x::fv.map (·.2))) ifs tt) (he:∀s H C fp,PE (He X s H (compEnvC scope cl C X.env) fp (x::fv.map (·.2))) elt te)
  (hyf:X.fn y=true\/X.env.scope.names.lookup y=some .local:=by first|exact .inl rfl|exact .inr rfl) (hs:∀x,foldedSetIterable iter X.env x=pure x:=by intro _;rfl):
  PS X (.Assign [.Name y py] (.ListComp elt [⟨.Name x px,iter,ifs,0⟩] scope pos) spos) (Kc (Nt wi fv tt te) (Cd iy)):=by
 intro pins s σ H D h' h;have I:=h';rw[exec_Assign_Name_used _ _ _ _ hsw];refine wpAny_bind (wpAny_standAt (wpAny_bind ?_));show wpAny _ X.A (do let _ <-comprehension (.ListComp elt [⟨.Name x px,iter,ifs,0⟩] scope pos) scope X.env _ (newList []) false (eval iter X.env) (some (assign (.Name y py) X.env))) _ _ s;refine wpAny_bind (wpAny_mono (wpAny_comprehension_free (use:=some (assign (.Name y py) X.env)) (Q:=λ_ s'=>SP X pins D .next s') rfl hs hclos hk hnames (BJ (hi pins s σ H _ I h) λv s1 h1=>BJ h1 λitv s2 h2=>?_)) (λ_ s' hq=>wpAny_pure (wpAny_pure hq)) λ_ _ e=>e);obtain⟨it,fp,tn,J,H2,e,I2,T,st2,f2,hw⟩:=h2;subst e;refine Lk (Q:=λv H1=>Cd iy v σ H1 D.nx) (RR:=λacc C=>compPost (model X.prog X.w) X.A X.xe (some (assign (.Name y py) X.env)) (λ_ s'=>SP X pins D .next s') acc C) hc I2 T st2 f2 hcell hk hx hcl hhas hfv hnd hf he hw λD' C σ' H' s' hC Ib q=>?_;obtain⟨m,hn,_⟩:=Ib.loc;show wpAny _ X.A (assign (.Name y py) X.env (.ref D')) _ _ _;refine wpAny_assign_Name (Hr (Jp I2 f2 Ib) hN hy hyl (v:=.ref D') rfl (λs3 I3 hsb=>?_) hyf);obtain⟨a,sb3,ha⟩:=hsb
 have nC:C≠a:=λz=>by
  rcases ha with e|e
  ·exact absurd (WP I2.lt hC) (by rw[z,e];exact Wb _)
  ·obtain⟨v,o,eo,d⟩:=I2.cell y a e;exact absurd (WP (WL eo) (by rw[<-z];exact hC)) (Wb _)
 exact⟨m,hn.sameBut sb3 nC,λh'' sb=>⟨_,H',AO.letGo I2 I3 hC Ib.free sb,q⟩⟩
end
variable{tt:TT}{σf:List (Option V)}
theorem BH{n:Nat}{D:Addr}{Q:VK}(Pv:Nat->List V->Hp->Prop)(h0:Pv 0 [] (Ad H D (.lst [])))
  (hs:∀i acc H2,i<n->Pv i acc H2->tt (some (.int (lo+i))::σf) H2 λb H4=>if b=true then te (some (.int (lo+i))::σf) H4 λy H5=>H5 D=some (.lst acc)/\acc.length<sizeLine/\Pv (i+1) (acc++[y]) (Ad H5 D (.lst (acc++[y]))) else Pv (i+1) acc H4)
  (hd:∀acc H2,Pv n acc H2->Q (.ref D) H2):D8 (P8 lo n) tt te σf D Q H:=by
 refine⟨λk i acc H=>k=n-i/\i<=n/\Pv i acc H,⟨n,by simp,Nat.zero_le _,h0⟩,?_⟩;rintro k i acc H2 ⟨rfl,hi,p⟩
 by_cases hlt:i<n
 ·refine .inr ⟨hlt,Pv (i+1),λl H' p'=>⟨n-(i+1),by lia,rfl,hlt,p'⟩,λx H' y=>?_⟩;obtain⟨e,y⟩:=y;subst e y;exact hs i acc _ hlt p
 ·have e:i=n:=by lia
  subst e;exact .inl ⟨WM _,hd acc H2 p⟩
theorem ET{K:PySem.W.Frag}{D:Addr}{Q:VK}(Pv:Nat->List V->Hp->Prop)(h0:Pv 0 [] (Ad H D (.lst [])))(hl:∀i acc H,i<=xs.length->Pv i acc H->Ac K H a xs)
  (hs:∀i x acc H2,xs[i]?=some x->Pv i acc H2->tt (some x::σf) H2 λb H4=>if b=true then te (some x::σf) H4 λy H5=>H5 D=some (.lst acc)/\acc.length<sizeLine/\Pv (i+1) (acc++[y]) (Ad H5 D (.lst (acc++[y]))) else Pv (i+1) acc H4)
  (hd:∀acc H2,Pv xs.length acc H2->Q (.ref D) H2):D8 (Sg K a) tt te σf D Q H:=by
 refine⟨λk i acc H=>k=xs.length-i/\i<=xs.length/\Pv i acc H,⟨xs.length,by simp,Nat.zero_le _,h0⟩,?_⟩;rintro k i acc H2 ⟨rfl,hi,p⟩;have q:=hl i acc H2 hi p
 by_cases hlt:i<xs.length
 ·refine .inr ⟨⟨xs,xs[i],q,by simp[hlt]⟩,Pv (i+1),λl H' p'=>⟨xs.length-(i+1),by lia,rfl,hlt,p'⟩,λx H' y=>?_⟩;obtain⟨e,y⟩:=y;subst e;exact hs i x acc _ (y xs q) p
 ·have e:i=xs.length:=by lia
  subst e;exact .inl ⟨⟨xs,q,WM _⟩,hd acc H2 p⟩
theorem F2:∀(ns:List Int) (k:Nat),k<=ns.length->preSum (λi=>ns.getD i 0) k=(ns.take k).sum
 |ns,0,_=>by simp[preSum]
 |ns,k+1,h=>by
  have e:ns.take (k+1)=ns.take k++[ns[k]]:=by rw[Xm,WJ (by lia)];rfl
  rw[preSum,F2 ns k (by lia),e,List.sum_append,WH,WJ (by lia)];simp
theorem F3(hc:X.calm=true):DT X (.builtin "sum") (λxs H Q=>∃(p:Addr) (ns:List Int),xs=[.ref p]/\Ac X.K H p (ns.map V.int)/\Q (.int ns.sum) H):=by
 intro pins s σ H xs us Q I r h;obtain⟨p,ns,rfl,hq,q⟩:=h;obtain⟨u,rfl,rx⟩:=Fz r;cases rx;obtain⟨its,rits,pl,hz⟩:=I.list hq;have hlen:=rits.length;rw[WD]at hlen;have alt:p<s.heap.objs.size:=by obtain⟨o,e,_⟩:=pl.isList;exact WL e
 refine call_sum_walkG (wpAny_pyIter_list pl.isList ?_);have up:∀b o,s.heap.get? b=some o->(s.heap.push {cls:=.type "list_iterator",data:=.fields #[.ref p,.int 0 0]}).get? b=some o:=λb o e=>WG _ e
 refine⟨s.heap.objs.size,[s.heap.objs.size,p],[s.heap.objs.size],its.toArray.size,_,_,λi=>ns.getD i 0,rfl,Walks.list (A:=X.A.in1) (I.ok.hd hc) _ p (Wj alt) its.toArray,⟨⟨_,WR _ rfl,rfl,rfl⟩,pl.isList.at λo e=>up p o e⟩,λb hb=>?_,λi v hv=>?_,λh' tk t' kk=>?_⟩
 ·show b<(s.heap.push _).objs.size;rw[Ww];rcases WY.mp hb with z|z
  ·rw[z];exact W8 _
  ·rw[WE.mp z];exact XO alt
 ·have hv':its[i]?=some v:=by simpa using hv
  have hi:=(WF.mp hv').1;obtain⟨u2,hu2,ru2⟩:=rits.get (x:=.int (ns.getD i 0)) (i:=i) (by rw[WO,WJ (by lia),WH,WJ (by lia)];rfl);rw[hv']at hu2;cases hu2;exact ru2
 ·refine⟨.int ns.sum,H,I.kept (t':=tk) λb o e=>kk b o (λz=>?_) (up b o e),⟨t',?_⟩,q⟩
  ·rw[WE.mp z]at e;exact absurd (WL e) (Wb _)
  ·rw[F2 ns _ (by simp[<-hlen]),List.size_toArray,<-hlen,List.take_length]
theorem Jq(hc:X.calm=true):DT X (.builtin "max") (λxs H Q=>∃(p:Addr) (ns:List Int),xs=[.ref p]/\Ac X.K H p (ns.map V.int)/\0<ns.length/\∀m:Int,m∈ns->(∀n∈ns,n<=m)->Q (.int m) H):=by
 intro pins s σ H xs us Q I r h;obtain⟨p,ns,rfl,hq,hpos,q⟩:=h;obtain⟨u,rfl,rx⟩:=Fz r;cases rx;obtain⟨its,rits,pl,hz⟩:=I.list hq;have hlen:=rits.length;rw[WD]at hlen;have alt:p<s.heap.objs.size:=by obtain⟨o,e,_⟩:=pl.isList;exact WL e
 have up:∀b o,s.heap.get? b=some o->(s.heap.push {cls:=.type "list_iterator",data:=.fields #[.ref p,.int 0 0]}).get? b=some o:=λb o e=>WG _ e
 have hval:∀(i:Nat) (v:Value),its.toArray[i]?=some v->i<ns.length/\∃t,v=.int (ns.getD i 0) t:=λi v hv=>by
  have hv':its[i]?=some v:=by simpa using hv
  have hi:=(WF.mp hv').1;obtain⟨u2,hu2,ru2⟩:=rits.get (x:=.int (ns.getD i 0)) (i:=i) (by rw[WO,WJ (by lia),WH,WJ (by lia)];rfl);rw[hv']at hu2;cases hu2;exact⟨by lia,ru2⟩
 refine call_max_walk (wpAny_pyIter_list pl.isList ?_);refine⟨s.heap.objs.size,[s.heap.objs.size,p],[s.heap.objs.size],its.toArray.size,_,_,_,rfl,Walks.list (A:=X.A.in1) (I.ok.hd hc) _ p (Wj alt) its.toArray,⟨⟨_,WR _ rfl,rfl,rfl⟩,pl.isList.at λo e=>up p o e⟩,λb hb=>?_,by rw[Wi];lia,CmpOf.ints_gt (λi=>ns.getD i 0) (λi v hv=>(hval i v hv).2),λv h' tk hv kk=>?_⟩
 ·show b<(s.heap.push _).objs.size;rw[Ww];rcases WY.mp hb with z|z
  ·rw[z];exact W8 _
  ·rw[WE.mp z];exact XO alt
 ·obtain⟨hb,t,rfl⟩:=hval _ v hv;refine⟨.int _,H,I.kept (t':=tk) λb o e=>kk b o (λz=>?_) (up b o e),⟨t,rfl⟩,q _ ?_ ?_⟩
  ·rw[WE.mp z]at e;exact absurd (WL e) (Wb _)
  ·rw[WH,WJ hb];exact List.getElem_mem hb
  ·intro n hn;obtain⟨j,hj,e⟩:=List.getElem_of_mem hn;have z:=(argBest_gt (λi=>ns.getD i 0) (its.toArray.size-1)).2 j (by rw[Wi];lia);have e2:ns.getD j 0=n:=by rw[WH,WJ hj];exact e
   rw[e2]at z;exact z
def RG(lo c:Int)(n:Nat):It:=⟨λi _=>i<n,λi H x H'=>H'=H/\x=.int (lo+i*c),λi _=>n<=i⟩
def Ou(a b c:Int):Nat:=if a<b then ((b-a-1)/c+1).toNat else 0
theorem Nu{a b c:Int}(hc:0<c):Builtin.Range.rangeSize a b c=((Ou a b c:Nat):Int):=by
 unfold Builtin.Range.rangeSize Ou;rw[if_pos hc];split
 ·have:=Xw (show 0<=b-a-1 by lia) (W3 hc);lia
 ·rfl
theorem Jr{P:Program}{w:World}{K:PySem.W.Frag}(it:Addr)(lo c:Int)(n:Nat):Hh P w K tg (RG lo c n) [it] it (λi h=>IsRangeIter h it (lo+(i:Nat)*c) ((n:Int)-(i:Nat)) c) where
 mem:=WE.mpr rfl
 obj:=λi h st b hb=>by cases WE.mp hb;refine⟨_,st,λv z=>?_⟩;have y:Data.fields _=Data.cell v:=z;cases y
 keep:=λi h h' st k=>k it (WE.mpr rfl) _ st
 item:=by intro X hP hw hK hc i pins s σ H E I hf st hg;subst hP hw hK;obtain⟨f0,f1,f2,f3,f4,f5⟩:=hf it (WE.mpr rfl);have V:=Walks.range (prog:=X.prog) (w:=X.w) (I.ok.hd hc) it lo c n;refine V.item i s _ _ hg st λv h' tk hv st' kk=>?_;obtain⟨t,rfl⟩:=hv;have J:AO X pins σ H {s with heap:=h',toks:=tk}:=I.turned (λb o hb e=>kk b o (λz=>hb (WE.mp z)) e) f0 f1 f3 f4 f5;exact⟨_,rfl,Hs (s:={s with heap:=h',toks:=tk}) (n:="range_iterator") st' rfl rfl (by decide) ⟨.int (lo+i*c),H,J,⟨t,rfl⟩,⟨rfl,rfl⟩,st',λb hb=>(hf b hb).1⟩⟩
 done:=by intro X hP hw hK hc i pins s σ H E I hf st hg;subst hP hw hK;obtain⟨f0,f1,f2,f3,f4,f5⟩:=hf it (WE.mpr rfl);exact wpAny_pyNext_range_end (I.ok.hd hc) st (by have z:n<=i:=hg;lia) λh' eb=>⟨rfl,I.turned (t':=s.toks) (λb o hb e=>eb b o hb e) f0 f1 f3 f4 f5⟩
 self:=λ_ _ _ _ _ st h=>wpAny_pyIter_rangeiter st h
def TW(ta:TA):TI:=λσ H R=>ta σ H λvs H1=>∃a b c:Int,vs=[.int a,.int b,.int c]/\(0<=a/\a<2^29/\0<=b/\b<2^29/\0<c/\c<2^29)/\R (RG a c (Ou a b c)) H1
theorem Kv{a b c:Int}(h:0<=a/\a<2^29/\0<=b/\b<2^29/\0<c/\c<2^29):Builtin.Range.small a b c=true:=by
 obtain⟨a0,a1,b0,b1,c0,c1⟩:=h;unfold Builtin.Range.small;rw[Nu c0]
 have hr:((Ou a b c:Nat):Int)<=2^29:=by
  unfold Ou;split
  ·have h1:=Int.ediv_le_self c (show 0<=b-a-1 by lia);have h2:=Xw (show 0<=b-a-1 by lia) (W3 c0);lia
  ·lia
 simp only[Builtin.Range.rangeFitsLong,Bool.and_eq_true,Bool.or_eq_true,decide_eq_true_eq,beq_iff_eq];rw[if_pos c0];simp only[Bool.and_eq_true,decide_eq_true_eq];lia
theorem Mc{a b c:Expr}{p pos:Pos}(hg:Gl X "range")(hm:X.mg "range"=none)(ha:PA X [a,b,c] ta)(hs:starEach [a,b,c] X.env=[(false,eval a X.env),(false,eval b X.env),(false,eval c X.env)]:=by rfl)(hs2:starEach [b,c] X.env=[(false,eval b X.env),(false,eval c X.env)]:=by rfl):
  PI X tg (.Call (.Name "range" p) [a,b,c] [] pos) (TW ta):=by
 intro pins s σ H R I h;refine Call_ (Cp I hg hm boot_range (Wo (BJ (ha pos pins s σ H _ I h) λus s1 ⟨vs,H1,I1,r1,q1⟩=>?_) (by rw[hs,hs2]) (by rw[hs2];rfl)));obtain⟨x,y,z,e,hb,q⟩:=q1;subst e
 obtain⟨u1,u2,u3,rfl,⟨t1,rfl⟩,⟨t2,rfl⟩,⟨t3,rfl⟩⟩:∃u1 u2 u3,us=[u1,u2,u3]/\Ao (.int x) u1/\Ao (.int y) u2/\Ao (.int z) u3:=by
  cases r1 with
  |cons r rr =>
   cases rr with
   |cons r' rr =>
    cases rr with
    |cons r'' rr =>
     cases rr;exact⟨_,_,_,rfl,r,r',r''⟩
 refine call_range_3 (by lia) ?_ (Or.inl (PyProof.noPylong_small (by lia)));refine wpAny_pyIter_range (IsRange.new ..) (Kv hb) ?_;have J:AO X pins σ H1 {s1 with heap:=s1.heap.push {cls:=.type "range",data:=.fields #[.int x t1,.int y t2,.int z t3]},toks:=s1.toks}:=I1.kept λb o e=>WG _ e
 generalize hG:s1.heap.push {cls:=.type "range",data:=.fields #[.int x t1,.int y t2,.int z t3]}=G at J⊢;refine⟨G.objs.size,[G.objs.size],_,_,H1,rfl,J.kept (t':=s1.toks) λb o e=>WG _ e,Jr _ x z (Ou x y z),?_,λb hb=>?_,q⟩
 ·have e1:x+((0:Nat):Int)*z=x:=by simp
  have e2:(((Ou x y z):Nat):Int)-((0:Nat):Int)=Builtin.Range.rangeSize x y z:=by rw[Nu hb.2.2.2.2.1];simp
  show IsRangeIter _ _ (x+((0:Nat):Int)*z) ((((Ou x y z):Nat):Int)-((0:Nat):Int)) z;rw[e1,e2];exact WR _ rfl
 ·cases WE.mp hb;exact J.fpOk (WM _) (J.hok.fresh (WM _))
theorem Js{c:Int}{n:Nat}{D:Addr}{Q:VK}(Pv:Nat->List V->Hp->Prop)(h0:Pv 0 [] (Ad H D (.lst [])))
  (hs:∀i acc H2,i<n->Pv i acc H2->tt (some (.int (lo+i*c))::σf) H2 λb H4=>if b=true then te (some (.int (lo+i*c))::σf) H4 λy H5=>H5 D=some (.lst acc)/\acc.length<sizeLine/\Pv (i+1) (acc++[y]) (Ad H5 D (.lst (acc++[y]))) else Pv (i+1) acc H4)
  (hd:∀acc H2,Pv n acc H2->Q (.ref D) H2):D8 (RG lo c n) tt te σf D Q H:=by
 refine⟨λk i acc H=>k=n-i/\i<=n/\Pv i acc H,⟨n,by simp,Nat.zero_le _,h0⟩,?_⟩;rintro k i acc H2 ⟨rfl,hi,p⟩
 by_cases z:i<n
 ·refine .inr ⟨z,Pv (i+1),λl H' p'=>⟨n-(i+1),by lia,rfl,z,p'⟩,λx H' y=>?_⟩;obtain⟨e1,e2⟩:=y;subst e1 e2;exact hs i acc _ z p
 ·obtain rfl:i=n:=by lia
  exact .inl ⟨WM _,hd acc H2 p⟩
section
variable{prog:Program}{w:World}{A:Around}
theorem GJ{t:Addr}{items}{x:Value}(hit:s.heap.IsTupleIter it t i)(ht:s.heap.IsTuple t items)(hx:items[i]?=some x)
  (hQ:∀h',h'.IsTupleIter it t (i+1)->Heap.SameBut it s.heap h'->Q x {s with heap:=h'}):wpAny (model prog w) A (Builtin.SmallTypes.nextOf (.ref it)) Q E s:=by
 obtain⟨o,ho,hc,hd⟩:=id hit;obtain⟨ol,hol,_,nl,hdl⟩:=ht;unfold Builtin.SmallTypes.nextOf;refine wpAny_bind (wpAny_callSpecial?_slot (name:=Str.ofString "__next__") hit.typeIs F.slot_tuple_iterator_next (wpAny_call_entry F.slot_tuple_iterator_next hit.typeIs F.entry_tuple_iterator_next ?_ (F.args_tuple_iterator_next_1 _)))
 (show wpAny _ _ (field (.ref it) 0 >>= _) _ _ s);refine wpAny_bind (wpAny_field ho hd (x:=.ref t) rfl ?_)
 (show wpAny _ _ (if (Value.ref t==Value.none)=true then _ else _) _ _ s);rw[if_neg (show ¬((Value.ref t==Value.none)=true) from WZ)]
 (show wpAny _ _ (field (.ref it) 1 >>= _) _ _ s);refine wpAny_bind (wpAny_field ho hd (x:=.int i 0) rfl ?_)
 (show wpAny _ _ (seqItems? (.ref t) >>= _) _ _ s);refine wpAny_bind (wpAny_seqItems hol hdl ?_)
 simp only[Int.toNat_natCast,hx];refine wpAny_bind (wpAny_setField ho hd (by simp) (wpAny_pure ⟨x,rfl,wpAny_pure (hQ _ ⟨_,Heap.get?_update_self _ ho (Obj.isFreed_of_fields (Obj.data_mapFields hd _)),(Obj.cls_mapFields ..).trans hc,by rw[Obj.data_mapFields hd];simp[rawInt]⟩ (Heap.SameBut.update ..))⟩))
theorem D9{t:Addr}{items}(hh:A.handled=none)(hit:s.heap.IsTupleIter it t i)(ht:s.heap.IsTuple t items)(hx:items[i]?=none)
  (hE:∀h' e,Heap.ExtBut it s.heap h'->(∃o,h'.get? e=some o/\o.cls=.type "StopIteration")->E (.ref e) {s with heap:=h'}):wpAny (model prog w) A (Builtin.SmallTypes.nextOf (.ref it)) Q E s:=by
 obtain⟨o,ho,hc,hd⟩:=id hit;obtain⟨ol,hol,_,nl,hdl⟩:=ht;unfold Builtin.SmallTypes.nextOf;refine wpAny_bind (wpAny_callSpecial?_slot (name:=Str.ofString "__next__") hit.typeIs F.slot_tuple_iterator_next (wpAny_call_entry F.slot_tuple_iterator_next hit.typeIs F.entry_tuple_iterator_next ?_ (F.args_tuple_iterator_next_1 _)))
 (show wpAny _ _ (field (.ref it) 0 >>= _) _ _ s);refine wpAny_bind (wpAny_field ho hd (x:=.ref t) rfl ?_)
 (show wpAny _ _ (if (Value.ref t==Value.none)=true then _ else _) _ _ s);rw[if_neg (show ¬((Value.ref t==Value.none)=true) from WZ)]
 (show wpAny _ _ (field (.ref it) 1 >>= _) _ _ s);refine wpAny_bind (wpAny_field ho hd (x:=.int i 0) rfl ?_)
 (show wpAny _ _ (seqItems? (.ref t) >>= _) _ _ s);refine wpAny_bind (wpAny_seqItems hol hdl ?_)
 simp only[Int.toNat_natCast,hx];refine wpAny_bind (wpAny_rule (wpAny_bind (wpAny_setField ho hd (by simp) ?_)));show wpAny _ _ (newExc (.type "StopIteration") [] >>= _) _ _ _;refine wpAny_bind ?_;simp only[newExc,newTuple];refine wpAny_bind (wpAny_newObj_type ?_ (by size_fits));refine wpAny_bind (m:=firstArgMember _ _) (wpAny_of_eq (a:=Value.none) (by first|rfl|(simp only[firstArgMember];rfl)) ?_);refine wpAny_newObj_type ?_ (by size_fits);simp only[raiseNew];refine wpAny_bind (wpAny_handled ?_);(first|rw[show A.in1.handled=none from hh]|rw[hh]);refine wpAny_bind (wpAny_pure (wpAny_throw ?_));exact (hE _ _ (((Heap.SameBut.update ..).extBut.push _).push _) ⟨_,WR _ rfl,rfl⟩)
theorem Md(hh:A.handled=none)(it t:Addr)(hne:t≠it)(items:Array Value):Draws prog w A it [it,t] items.size (λi v=>items[i]?=some v) (λi h=>h.IsTupleIter it t i/\h.IsTuple t items) where
 live:=λ_ _ ⟨⟨o,ho,_⟩,_⟩=>⟨o,ho⟩
 frame:=λ_ _ _ ⟨st,o,ho,r⟩ hk=>⟨st.at λo e=>hk it (by simp) o e,o,hk t (by simp) o ho,r⟩
 item:=λi s Q E hi st hQ=>GJ st.1 st.2 (x:=items[i]) (by simp[hi]) λh' hit' hs'=>hQ _ h' s.toks (by simp[hi]) ⟨hit',st.2.extBut hs'.extBut hne⟩ hs'
 done:=λs Q E st hE=>D9 hh st.1 st.2 (by simp) hE
open AutoSeq1 (wpAny_loadPart') in
theorem Jt(l:Addr)(items:Array Value)(n:Nat)(dct:Option Addr)(sl:Array (Option Value)):
  Meets (Builtin.«enumerate.__new__» ⟨[.type "enumerate",.ref l],[]⟩) (λ_ R s=>s.heap.get? l=some {cls:=.type "tuple",dict:=dct,data:=.seq items n,slots:=sl} /\
   R (.ok (.ret (.ref (s.heap.push {cls:=.type "tuple_iterator",data:=.fields #[.ref l,.int 0 0]}).objs.size)))
    {s with heap:=(s.heap.push {cls:=.type "tuple_iterator",data:=.fields #[.ref l,.int 0 0]}).push {cls:=.type "enumerate",data:=.fields #[.none,.bool false,.ref s.heap.objs.size,rawInt 0,.none,.none]}}):=
 .of_wp λprog w A R s h=>by
  obtain⟨hp,g,d,tk,os⟩:=s;obtain⟨hl,h⟩:=h;have hsub:=sub_enumerate;have hL:Heap.IsTuple (Shared.heap ⟨hp,g,d,tk,os⟩) l items:=⟨_,hl,rfl,n,rfl⟩
  wp_walk using wpAny_loadPart' hl
  refine wpAny_stack_any λst=>wpAny_pure ?_
  split
  ·rename_i c _ _ _ _ _
   cases (c==Value.type "enumerate")<;>(wp_walk using wpAny_loadPart' hl,wpAny_pyIter_tuple hL)<;>exact⟨_,rfl,h⟩
  ·(wp_walk using wpAny_loadPart' hl,wpAny_pyIter_tuple hL);exact⟨_,rfl,h⟩
theorem Kw{l:Addr}(hL:s.heap.IsTuple l items)
  (h:∀h',IsEnum h' (s.heap.objs.size+1) s.heap.objs.size 0 .none->h'.IsTupleIter s.heap.objs.size l 0->h'.objs.size=s.heap.objs.size+2->(∀b o,s.heap.get? b=some o->h'.get? b=some o)->Q (.ref (s.heap.objs.size+1)) {s with heap:=h'}):
  wpAny (model prog w) A (call (.type "enumerate") [.ref l]) Q E s:=by
 obtain⟨⟨c,dct,dt,sl⟩,hl,hc,n,hd⟩:=hL;replace hc:c=.type "tuple":=hc;replace hd:dt=.seq items n:=hd;subst hc hd;refine callType_new F.called_enumerate (by decide) (F.typeCall_enumerate_1 _) (F.newCall_enumerate_1 _) (λobj=>F.args_object_init_2 obj _) F.entry_enumerate_new (Jt l items n dct sl) ⟨hl,?_⟩;have hz:(s.heap.push {cls:=.type "tuple_iterator",data:=.fields #[.ref l,.int 0 0]}).objs.size=s.heap.objs.size+1:=Ww ..;show _/\_;rw[hz]
 have he:IsEnum ((s.heap.push {cls:=.type "tuple_iterator",data:=.fields #[.ref l,.int 0 0]}).push {cls:=.type "enumerate",data:=.fields #[.none,.bool false,.ref s.heap.objs.size,rawInt 0,.none,.none]}) (s.heap.objs.size+1) s.heap.objs.size 0 .none:=by have:=WR (s.heap.push {cls:=.type "tuple_iterator",data:=.fields #[.ref l,.int 0 0]}) (o:={cls:=.type "enumerate",data:=.fields #[.none,.bool false,.ref s.heap.objs.size,rawInt 0,.none,.none]}) rfl;rw[hz]at this;exact this
 exact⟨⟨_,he,rfl⟩,h _ he ⟨_,WG _ (WR _ rfl),rfl,rfl⟩ (by rw[Ww,hz]) λb o x=>WG _ (WG _ x)⟩
theorem Fj{e t:Addr}{old:Value}{Q:Option Value->Shared->Prop}(hh:A.handled=none)(he:IsEnum s.heap e it i old)(hit:s.heap.IsTupleIter it t i)(ht:s.heap.IsTuple t items)(hx:items[i]?=none)
  (hQ:∀h',Heap.ExtBut it s.heap h'->Q none {s with heap:=h'}):wpAny (model prog w) A (pyNext (.ref e)) Q E s:=by
 have hT:s.TypeIs (.ref e) "enumerate":=⟨_,he,rfl⟩;unfold pyNext;refine wpAny_bind (wpAny_attempt (wpAny_callSpecial?_slot (name:=Str.ofString "__next__") hT F.slot_enumerate_next (wpAny_call_entry F.slot_enumerate_next hT F.entry_enumerate_next ?_ (F.args_enumerate_next_1 _))))
 (show wpAny _ _ (field (.ref e) 2 >>= _) _ _ _);refine wpAny_bind (wpAny_field he rfl (x:=.ref it) rfl ?_)
 refine wpAny_bind (D9 hh hit ht hx λh' x he' hx'=>?_);obtain⟨o,ho,hc⟩:=hx';exact wpAny_bind (wpAny_isInstance (T:="StopIteration") (b:=true) ⟨o,ho,hc⟩ isSubtype_stop (wpAny_pure (hQ _ he')))
end
def Nv(K:PySem.W.Frag)(a:Addr):It:=
 ⟨λi H=>∃xs x,Ba K H a xs/\xs[i]?=some x,λi H v H'=>∃p x,v=.ref p/\H p=none/\H'=Ad H p (.tup [.int i,x])/\∀xs,Ba K H a xs->xs[i]?=some x,λi H=>∃xs,Ba K H a xs/\xs.length<=i⟩
theorem Kx{P:Program}{w:World}{K:PySem.W.Frag}{elts:List Expr}{ctx}{tpos:Pos}(a e it:Addr)(hne:e≠it)(hna:a≠it)(hea:e≠a):
  Hh P w K (.Tuple elts ctx tpos) (Nv K a) [e,it] e (λi h=>(∃old,IsEnum h e it ((i:Nat):Int) old)/\h.IsTupleIter it a i) where
 mem:=by simp
 obj:=λi h st b hb=>by
  obtain⟨⟨old,q⟩,o,e1,c,d⟩:=st;rcases WY.mp hb with z|z
  ·rw[z];exact⟨_,q,λv y=>by cases y⟩
  ·rw[WE.mp z];exact⟨o,e1,λv y=>by rw[d]at y;cases y⟩
 keep:=λi h h' st k=>by obtain⟨⟨old,q⟩,li⟩:=st;exact⟨⟨old,k e (by simp) _ q⟩,li.at λo z=>k it (by simp) o z⟩
 item:=by
  intro X hP hw hK hc i pins s σ H E I hf st hg;subst hP hw hK;obtain⟨xs,x,hq,hx⟩:=hg;obtain⟨its,rv,p,hz⟩:=I.tuple hq;obtain⟨u,hu,ru⟩:=rv.get hx;obtain⟨⟨old,he⟩,li⟩:=st
  have hil:i<its.toArray.size:=by have:=(WF.mp hu).1;simpa using this
  refine wpAny_pyNext_enum_itemD (Md (A:=X.A.in1) (show X.A.in1.handled=none from I.ok.hd hc) it a hna its.toArray) he ⟨li,show s.heap.IsTuple a its.toArray from p⟩ hil hne (by simp[hne,hea]) λy h1 tk hy out li1 ht hsz k1=>?_
  have ey:y=u:=by
   have e1:its.toArray[i]?=some u:=by simpa using hu
   rw[e1]at hy;exact (Option.some.inj hy).symm
  subst ey;refine⟨_,rfl,wpAny_letOwnedTupleGo_enum out λh2 he2 sb=>?_⟩;have k2:∀b o,b∉[e,it]->s.heap.get? b=some o->h2.get? b=some o:=λb o hb z=>(sb.2 b λy=>hb (by simp[y])).trans (k1 b o (λy=>hb (by simp[y])) (λy=>hb (by simp[y])) z)
  have hpe:s.heap.objs.size≠e:=Xu (WL he);have ht2:h2.get? s.heap.objs.size=some {cls:=.type "tuple",data:=.seq #[.int ((i:Nat):Int) tk,y]}:=(sb.2 _ hpe).trans ht;have hn:H s.heap.objs.size=none:=I.hok.fresh (WM _);refine⟨.ref s.heap.objs.size,Ad H s.heap.objs.size (.tup [.int ((i:Nat):Int),x]),I.turnedNew (h':=h2) (t':=tk+1) hf k2 (WM _) ⟨by show 2<=sizeLine;decide,[.int ((i:Nat):Int) tk,y],.cons ⟨_,rfl⟩ (.cons ru .nil),⟨_,ht2,rfl,_,rfl⟩⟩,rfl,⟨_,x,rfl,hn,rfl,λys hy=>by rw[I.tuple_inj hy hq];exact hx⟩,⟨⟨y,?_⟩,?_⟩,λb hb=>?_⟩
  ·have ec:(((i+1:Nat)):Int)=((i:Nat):Int)+1:=by push_cast;rfl
   rw[ec];exact he2
  ·exact li1.1.at λo z=>(sb.2 it (Ne.symm hne)).trans z
  ·have b0:=(hf b hb).1;rw[AI λz=>?_]
   ·exact b0
   ·obtain⟨o,z1,_⟩:=id li;rcases WY.mp hb with y|y
    ·exact hpe (z.symm.trans y)
    ·exact absurd (WL z1) (by rw[<-WE.mp y,z];exact Wb _)
 done:=by intro X hP hw hK hc i pins s σ H E I hf st hg;subst hP hw hK;obtain⟨xs,hq,hx⟩:=hg;obtain⟨its,rv,p,hz⟩:=I.tuple hq;obtain⟨⟨old,he⟩,li⟩:=st;obtain⟨f0,f1,f2,f3,f4,f5⟩:=hf it (by simp);have hl:=rv.length;exact Fj (I.ok.hd hc) he li p (by simp;lia) λh' eb=>⟨rfl,I.turned (t':=s.toks) (λb o hb e=>eb b o hb e) f0 f1 f3 f4 f5⟩
 self:=λ_ _ _ _ _ st h=>by obtain⟨⟨old,he⟩,_⟩:=st;exact wpAny_pyIter_enum he h
section
variable{elts:List Expr}{ctx}{tpos:Pos}
def RH(K:PySem.W.Frag)(ta:TA):TI:=λσ H R=>ta σ H λvs H1=>∃a xs,vs=[.ref a]/\Ba K H1 a xs/\R (Nv K a) H1
theorem Nw{l:Expr}{p pos:Pos}(hg:Gl X "enumerate")(hm:X.mg "enumerate"=none)(ha:PA X [l] ta)(hs:starEach [l] X.env=[(false,eval l X.env)]:=by rfl):PI X (.Tuple elts ctx tpos) (.Call (.Name "enumerate" p) [l] [] pos) (RH X.K ta):=by
 intro pins s σ H R I h;refine Call_ (Cp I hg hm boot_enumerate (Wo (BJ (ha pos pins s σ H _ I h) λus s1 z9=>?_) hs rfl));obtain⟨vs,H1,I1,r1,q1⟩:=z9;obtain⟨a,xs,e,hq,q⟩:=q1;subst e;cases r1 with
 |cons r rr =>
  cases rr;cases r;obtain⟨its,rv,pl,hz⟩:=I1.tuple hq;have hal:a<s1.heap.objs.size:=by obtain⟨o,ho,_⟩:=id pl;exact WL ho
  refine Kw pl λh1 he li hsz k1=>?_;refine wpAny_pyIter_enum he ?_;have n1:H1 (s1.heap.objs.size+1)=none:=I1.hok.fresh (Xi _);have n0:H1 s1.heap.objs.size=none:=I1.hok.fresh (WM _);refine⟨s1.heap.objs.size+1,[s1.heap.objs.size+1,s1.heap.objs.size],_,_,H1,rfl,I1.kept (t':=s1.toks) k1,Kx a _ _ (Nat.succ_ne_self _) (Wj hal) (Xu (XO hal)),⟨⟨_,he⟩,li⟩,λb hb=>?_,q⟩;rcases WY.mp hb with z|z
  ·rw[z];exact I1.fpOk (Xi _) n1
  ·rw[WE.mp z];exact I1.fpOk (WM _) n0
theorem Me{K:PySem.W.Frag}{g:TG}{tb:TS}(Pv:Nat->St->Hp->Prop)(h0:Pv 0 σ H)(hl:∀i σ H,i<=xs.length->Pv i σ H->Ba K H a xs)
  (hs:∀i x p σ H,xs[i]?=some x->Pv i σ H->H p=none->g (.ref p) σ (Ad H p (.tup [.int ((i:Nat):Int),x])) λσ2 H2=>tb {D with nx:=Pv (i+1),ct:=Pv (i+1),bk:=D.nx} σ2 H2) (hd:∀σ H,Pv xs.length σ H->D.nx σ H):
  ∃W:Nat->Nat->St->Hp->Prop,(∃m,W 0 m σ H)/\∀i m σ H,W i m σ H ->
   ((Nv K a).stop i H/\D.nx σ H)\/((Nv K a).go i H/\∃N:St->Hp->Prop,(∀σ' H',N σ' H'->∃m',m'<m/\W (i+1) m' σ' H')/\∀x H',(Nv K a).yld i H x H'->g x σ H' λσ2 H2=>tb {D with nx:=N,ct:=N,bk:=D.nx} σ2 H2):=by
 refine⟨λi m σ H=>m=xs.length-i/\i<=xs.length/\Pv i σ H,⟨xs.length,by simp,Nat.zero_le _,h0⟩,?_⟩;rintro i m σ H ⟨rfl,hi,p⟩;have q:=hl i σ H hi p
 by_cases hlt:i<xs.length
 ·refine .inr ⟨⟨xs,xs[i],q,by simp[hlt]⟩,Pv (i+1),λσ' H' p'=>⟨xs.length-(i+1),by lia,rfl,hlt,p'⟩,λv H' y=>?_⟩;obtain⟨p2,x,e1,e2,e3,y⟩:=y;subst e1 e3;exact hs i x p2 σ H (y xs q) p e2
 ·have e:i=xs.length:=by lia
  subst e;exact .inl ⟨⟨xs,q,WM _⟩,hd σ H p⟩
end
end L2
namespace RW
def dr(g n:Int):Nat->Int
 |0=>n
 |i+1=>dr g n i/g
def DO(g n:Int):Nat->List Int
 |0=>[]
 |i+1=>DO g n i++[dr g n i%g]
theorem DA(g n:Int):∀i,(DO g n i).length=i
 |0=>rfl
 |i+1=>by rw[DO,WI,DA g n i];rfl
theorem Ap{g:Int}(hg:2<=g):∀m:Nat,0<g^m
 |0=>by rw[Wn];decide
 |m+1=>by rw[Wg];exact Int.mul_pos (Ap hg m) (by lia)
theorem Nx{g:Int}(hg:2<=g)(n:Int):∀i:Nat,dr g n i=n/g^i
 |0=>by rw[dr,Wn,Int.ediv_one]
 |i+1=>by rw[dr,Nx hg n i,Wg,YH (W3 (Ap hg i))]
theorem Ll{g n:Int}(hg:2<=g)(hn:0<=n){m:Nat}(h:n<g^m):dr g n m=0:=by rw[Nx hg];exact Xo hn h
theorem RI{g n:Int}(hg:2<=g){m:Nat}(h:g^m<=n):0<dr g n m:=by
 rw[Nx hg];have h1:1*g^m<=n:=by rw[XT];exact h
 have h2:=(Int.le_ediv_iff_mul_le (Ap hg m)).mpr h1;lia
end RW
namespace L2
open PySem
variable{C a b p:Addr}{H H' H1:Hp}{g lo:Int}{i:Nat}{o:HO}{xs:List V}{y:V}{α:Type}
theorem Bc(hg:2<=g){m n:Nat}(h:m<=n):g^m<=g^n:=by obtain⟨k,rfl⟩:=Nat.exists_eq_add_of_le h;rw[Int.pow_add];have h1:=RW.Ap hg m;have h2:=RW.Ap hg k;have h3:=W9 (show 1<=g^k by lia) (W3 h1);lia
theorem Ip(hg:2<=g){m n:Nat}(h:m<n):g^m<g^n:=by have h1:=Bc hg (show m+1<=n from h);rw[Wg]at h1;have h2:=RW.Ap hg m;have h3:=W9 hg (W3 h2);lia
theorem Ch(hg:2<=g){m n:Nat}(h:g^m=g^n):m=n:=by
 rcases Nat.lt_trichotomy m n with z|z|z
 ·have:=Ip hg z;lia
 ·exact z
 ·have:=Ip hg z;lia
theorem IC(hg:2<=g):∀{rs:List Int},(∀n∈rs,0<=n/\n<g)->0<=low g rs/\low g rs<g^rs.length
 |[],_=>⟨YO _,by show (0:Int)<g^0;rw[Wn];decide⟩
 |x::r,h=>by
  obtain⟨h1,h2⟩:=IC hg (rs:=r) λn hn=>h n (WW _ hn)
  obtain⟨h3,h4⟩:=h x Wh;have h5:=Int.mul_nonneg (show 0<=g by lia) h1;have h6:=W9 (show low g r+1<=g^r.length by lia) (show 0<=g by lia);rw[Int.mul_add,Int.mul_one]at h6;refine⟨by show 0<=x+g*low g r;lia,?_⟩;show x+g*low g r<g^(r.length+1);rw[Wg,XJ (g^r.length)];lia
theorem Dn(hg:2<=g){ns:List Int}(h:∀n∈ns,0<=n/\n<g):0<=Bn g ns/\Bn g ns<g^ns.length:=by rw[Li,<-XE];exact IC hg λn hn=>h n (List.mem_reverse.mp hn)
theorem FH{l:Addr}{zs:List V}{Q:VK}(h1:H l=some (.lst xs))(h2:H b=some (.lst zs))(hz:xs.length+zs.length<=1000)(q:∀p H',AF H H'->H p=none->H' p=some (.lst (xs++zs))->Q (.ref p) H'):PD (.ref l) (.ref b) H Q:=
 ⟨l,b,xs,zs,rfl,rfl,h1,h2,QI hz,λp hp=>q p _ (AF.new hp _) hp AC⟩
theorem CJ{K:PySem.W.Frag}{lo hi:Option Int}{Q:VK}(h:Ac K H a xs)(q:∀p H',AF H H'->H p=none->H' p=some (.lst (IZ xs lo hi))->Q (.ref p) H'):Q3 K (.ref a) lo hi H Q:=
 ⟨a,xs,rfl,h,λp hp=>q p _ (AF.new hp _) hp AC⟩
theorem Lm{l:Addr}{x:V}{k:Int}{Q:VK}(h:H l=some (.lst [x]))(k0:0<=k)(k1:k<=1000)(q:∀p H',AF H H'->H p=none->H' p=some (.lst (List.replicate k.toNat x))->Q (.ref p) H'):Q4 (.ref l) (.int k) H Q:=
 ⟨l,k,[x],rfl,rfl,h,by lia,by lia,by rw[WX,Nat.one_mul];exact QI (by lia),λp hp=>q p _ (AF.new hp _) hp (by rw[AC,Nm])⟩
theorem Iq{k:Nat}:IZ xs none (some ((k:Nat):Int))=xs.take k:=by
 have e:HT.GG xs.length xs.length (some ((k:Nat):Int))=min k xs.length:=by show (if ((k:Nat):Int)<0 then (((k:Nat):Int)+(xs.length:Int)).toNat else min ((k:Nat):Int).toNat xs.length)=_;rw[if_neg (by lia),WS]
 unfold IZ;rw[e];show (xs.drop 0).take (min k xs.length-0)=_;rw[List.drop_zero,YR]
 by_cases z:k<=xs.length
 ·rw[Nat.min_eq_left z]
 ·rw[Nat.min_eq_right (by lia),Wk,List.take_of_length_le (by lia)]
theorem PY.same{E:XK}(e:AF H H1)(h:PY C i H E):PY C i H1 E:=λH' dx e1 hd=>h H' dx (e.trans e1) hd
theorem DX{ns:List Int}{k:Nat}(h:k<ns.length):JZ (ns.map V.int) ((k:Nat):Int)=some (.int (ns.getD k 0)):=by refine C8 ?_;rw[WO,WJ h,WH,WJ h];rfl
def EB(H:Hp)(r:Addr)(g lo:Int)(tab:List Int):Prop:=∃tb,H r=some (.tup [.int g,.int lo,.ref tb])/\H tb=some (.tup (tab.map V.int))
variable{r:Addr}{tab:List Int}
theorem EB.same(e:AF H H')(h:EB H r g lo tab):EB H' r g lo tab:=by obtain⟨tb,h1,h2⟩:=h;exact⟨tb,e _ _ h1,e _ _ h2⟩
inductive DB(vs:List V)(H:Hp)(Q:VK)(z3_:XK):Prop
 |m (g n:Int):vs=[.int g,.int n]->2<=g->g<=9->(∀m:Nat,n=g^m->Q (.int ((m:Nat):Int)) H)->((∀m:Nat,n≠g^m)->Q (.int 0) H)->DB vs H Q z3_
inductive DY(vs:List V)(H:Hp)(Q:VK)(z3_:XK):Prop
 |m (r:Addr) (g lo:Int) (tab:List Int) (m:Nat):vs=[.ref r]->2<=g->g<=9->EB H r g lo tab->(tab.length:Int)=g^m->Q (.int ((m:Nat):Int)) H->DY vs H Q z3_
def EC(g:Int)(m:Nat)(xs:List V):Option Nat:=match Bp g (xs.take m) with
 |some i=>some i
 |none=>if xs.length=m then none else some (min xs.length m)
inductive Et(K:PySem.W.Frag)(C:Addr)(vs:List V)(H:Hp)(Q:VK)(E:XK):Prop
 |m (a:Addr) (xs:List V) (g:Int) (m:Nat):vs=[.ref a,.int g,.int ((m:Nat):Int)]->Ac K H a xs->(∀x∈xs,Kd H x)->(match EC g m xs with|none=>∀H',AF H H'->Q .non H'|some i=>PY C i H E)->Et K C vs H Q E
inductive Ky(K:PySem.W.Frag)(C:Addr)(vs:List V)(H:Hp)(Q:VK)(E:XK):Prop
 |m (r a:Addr) (g lo:Int) (tab:List Int) (m:Nat) (xs:List V):vs=[.ref r,.ref a]->2<=g->g<=9->EB H r g lo tab->(tab.length:Int)=g^m->Ac K H a xs->(∀x∈xs,Kd H x)->(match EC g m xs with|none=>∀ns:List Int,xs=ns.map V.int->∀H',AF H H'->Q (.int (tab.getD (Bn g ns).toNat 0)) H'|some i=>PY C i H E)->Ky K C vs H Q E
theorem Ju{m:Nat}(h:EC g m xs=none):xs.length=m/\Bp g xs=none:=by
 unfold EC at h;cases e:Bp g (xs.take m) with
 |some i=>rw[e]at h;cases h
 |none =>
  rw[e]at h
  by_cases z:xs.length=m
  ·refine⟨z,?_⟩;rw[<-z,Wk]at e;exact e
  ·rw[if_neg z]at h;cases h
theorem Jv{ns:List Int}(h:∀n∈ns,0<=n/\n<g):EC g ns.length (ns.map V.int)=none:=by unfold EC;have e:(ns.map V.int).take ns.length=ns.map V.int:=List.take_of_length_le (by rw[WD];exact WM _);rw[e,Ep h,WD];exact if_pos rfl
inductive Gn(vs:List V)(H:Hp)(Q:VK)(z3_:XK):Prop
 |m (c m:Int):vs=[.int c,.int m]->0<=m->m<=300->(∀(r:Addr) (H':Hp) (l:List Int),l.length=m.toNat->AF H H'->H r=none->H' r=some (.lst (l.map V.int))->Q (.ref r) H')->Gn vs H Q z3_
def Cv(x y:V):Bool:=(match x with
 |.int g=>decide (2<=g)&&decide (g<=9)
 |_=>false)&&MZ y
theorem Ir{x:V}(h:Cv x y=true):∃g lo:Int,x=.int g/\y=.int lo/\2<=g/\g<=9:=by
 unfold Cv at h;cases x with
 |int g =>
  cases y with
  |int lo =>
   simp only[MZ,Bool.and_true,Bool.and_eq_true,decide_eq_true_eq]at h;exact⟨g,lo,rfl,rfl,h.1,h.2⟩
  |_=>simp[MZ]at h
 |_=>simp at h
theorem Hk(g2:2<=g)(g9:g<=9):Cv (.int g) (.int lo)=true:=by show ((decide (2<=g)&&decide (g<=9))&&true)=true;rw[decide_eq_true g2,decide_eq_true g9];rfl
inductive Kz(C:Addr)(vs:List V)(H:Hp)(Q:VK)(E:XK):Prop
 |m (x y:V):vs=[x,y]->Kd H x->Kd H y->(Cv x y=true->Q .non H)->(Cv x y=false->E (.ref C) none H)->Kz C vs H Q E
def GK(H:Hp)(a:Addr)(xs:List V):Prop:=H a=some (.lst xs)\/H a=some (.tup xs)
theorem GK.same(e:AF H H')(h:GK H a xs):GK H' a xs:=h.elim (λq=>.inl (e _ _ q)) λq=>.inr (e _ _ q)
theorem GK.inj{ys:List V}(h:GK H a xs)(h':GK H a ys):xs=ys:=by
 rcases h with h|h
 ·rcases h' with h'|h'
  ·rw[h]at h';cases h';rfl
  ·rw[h]at h';cases h'
 ·rcases h' with h'|h'
  ·rw[h]at h';cases h'
  ·rw[h]at h';cases h';rfl
theorem GK.sq{K:PySem.W.Frag}(h:GK H a xs):Ac K H a xs\/Ba K H a xs:=h.elim (λq=>.inl (Ac.of q)) λq=>.inr (Ba.of q)
def QT(H:Hp):V->Prop
 |.ref a=>∃xs,GK H a xs/\∀x∈xs,Kd H x
 |.non=>True
 |.str _=>True
 |.int _=>True
 |.bl _=>True
 |_=>False
def Ln(g:Int)(xs:List V):Prop:=xs.length<=256/\(∃m:Nat,1<=m/\(xs.length:Int)=g^m)/\Bp g xs=none
def GP(H:Hp)(g:Int)(z:V):Prop:=∃a xs,z=.ref a/\GK H a xs/\Ln g xs
inductive Iu(C:Addr)(vs:List V)(H:Hp)(Q:VK)(E:XK):Prop
 |m (g:Int) (z:V):vs=[.int g,z]->2<=g->g<=9->QT H z->(GP H g z->∀H',AF H H'->Q .non H')->(¬GP H g z->∀H',AF H H'->E (.ref C) none H')->Iu C vs H Q E
def Ny(H:Hp)(x y z:V):Prop:=Cv x y=true/\∃g,x=.int g/\GP H g z
inductive Iv(C:Addr)(vs:List V)(H:Hp)(Q:VK)(E:XK):Prop
 |m (x y z:V):vs=[x,y,z]->Kd H x->Kd H y->QT H z->(∀(g lo:Int) (tab:List Int) (a:Addr),x=.int g->y=.int lo->z=.ref a->GK H a (tab.map V.int)->2<=g->g<=9->Ln g (tab.map V.int)->(∀n∈tab,0<=n/\n<g)->∀r H',AF H H'->EB H' r g lo tab->Q (.ref r) H')->(¬Ny H x y z->∀H',AF H H'->E (.ref C) none H')->Iv C vs H Q E
theorem GQ{n:Nat}(h:i<n):JY n ((i:Nat):Int)=some i:=by unfold JY;rw[if_pos (by lia),if_pos (by lia),WS]
theorem RJ{n:Nat}(h:n<=100000):n<=sizeLine:=by rw[sizeLine_eq];lia
theorem Nz{l:Addr}{k:Int}{Q:VK}(h:H l=some (.lst xs))(k0:0<=k)(k1:k<=100000)(hz:xs.length*k.toNat<=100000)(q:∀p H',AF H H'->H p=none->H' p=some (.lst (List.replicate k.toNat xs).flatten)->Q (.ref p) H'):Q4 (.ref l) (.int k) H Q:=
 ⟨l,k,xs,rfl,rfl,h,by lia,by lia,RJ hz,λp hp=>q p _ (AF.new hp _) hp AC⟩
def FI(H H':Hp)(r:Addr)(ns:List Int):Prop:=AF H H'/\H r=none/\H' r=some (.lst (ns.map V.int))
inductive K0(NS:Addr)(vs:List V)(H:Hp)(Q:VK)(E:XK):Prop
 |m (n g m:Int):vs=[.int n,.int g,.int m]->2<=g->g<=9->0<=m->m<=300->((n<0\/g^m.toNat<=n)->∀H',AF H H'->E (.ref NS) none H')->(0<=n->n<g^m.toNat->∀r H',FI H H' r (RW.DO g n m.toNat).reverse->Q (.ref r) H')->K0 NS vs H Q E
inductive Iw(vs:List V)(H:Hp)(Q:VK)(z3_:XK):Prop
 |m (g m:Int):vs=[.int g,.int m]->2<=g->g<=9->1<=m->(g^m.toNat<=256->Q (.int (g^m.toNat)) H)->(256<g^m.toNat->∀r:Int,256<r->Q (.int r) H)->Iw vs H Q z3_
inductive Do(vs:List V)(H:Hp)(Q:VK)(z3_:XK):Prop
 |m (g m:Int):vs=[.int g,.int m]->2<=g->g<=9->0<=m->m<=256->Q (.int (g^m.toNat)) H->Do vs H Q z3_
theorem Lo(g n:Int):∀i:Nat,RW.dr g n (i+1)=RW.dr g (n/g) i
 |0=>rfl
 |i+1=>by rw[RW.dr,Lo g n i];rfl
theorem ID(g n:Int):∀i:Nat,RW.DO g n (i+1)=n%g::RW.DO g (n/g) i
 |0=>rfl
 |i+1=>by rw[RW.DO,ID g n i,Lo];rfl
theorem Jw(hg:2<=g):∀{l:List Int},(∀n∈l,0<=n/\n<g)->RW.DO g (low g l) l.length=l
 |[],_=>rfl
 |x::r,h=>by obtain⟨h0,h1⟩:=h x Wh;rw[Wy,ID,low,XY,XV h0 h1,YS _ _ (show g≠0 by lia),Xo h0 h1,Wv,Jw hg λn hn=>h n (WW _ hn)]
theorem Lp(hg:2<=g)(n:Int):∀i:Nat,∀x∈RW.DO g n i,0<=x/\x<g
 |0,x,h=>absurd h (by simp[RW.DO])
 |i+1,x,h=>by
  rw[RW.DO]at h;rcases WK.mp h with z|z
  ·exact Lp hg n i x z
  ·rw[WE.mp z];exact⟨W2 _ (by lia),Wu _ (by lia)⟩
theorem F4(g n:Int):∀i:Nat,low g (RW.DO g n i)+g^i*RW.dr g n i=n
 |0=>by rw[RW.DO,low,RW.dr,Wn];lia
 |i+1=>by have h:=F4 g n i;have e:=Int.emod_add_mul_ediv (RW.dr g n i) g;rw[RW.DO,Jn,RW.DA,RW.dr,Wg,Int.mul_assoc,XJ (RW.dr g n i%g),Int.add_assoc,<-Int.mul_add,e];exact h
theorem N0{n:Int}(hg:2<=g)(hn:0<=n)(h:n<g^i):low g (RW.DO g n i)=n:=by have e:=F4 g n i;rw[RW.Ll hg hn h,Int.mul_zero,Int.add_zero]at e;exact e
theorem AF.into(e:AF H H1)(hp:H p=none):AF H (Ad H1 p o):=λb u q=>by rw[AI (Ai q hp)];exact e b u q
theorem Ix(g:Int):∀(n:Int) (l:List Int),Ku g n l=n*g^l.length+Bn g l
 |n,[]=>by show n=n*g^0+0;rw[Wn];lia
 |n,x::r=>by show Ku g (n*g+x) r=n*g^(r.length+1)+Ku g (0*g+x) r;rw[Ix g (n*g+x) r,Ix g (0*g+x) r,Int.zero_mul,Wv,Int.add_mul,Wg,Int.mul_assoc,XJ g,Int.add_assoc]
theorem Go(g:Int)(a b:List Int):Bn g (a++b)=Bn g a*g^b.length+Bn g b:=by show (a++b).foldl (λm x=>m*g+x) 0=_;rw[YN];exact Ix g (Ku g 0 a) b
theorem Dq(hg:2<=g)(hb:∀n∈tab,0<=n/\n<g)(k:Nat):0<=tab.getD k 0/\tab.getD k 0<g:=by
 rw[WH];cases e:tab[k]? with
 |none=>exact⟨YO _,by show (0:Int)<g;lia⟩
 |some v=>exact hb v (WQ e)
theorem Ak(f:Nat->α)(i:Nat):(List.range (i+1)).map f=(List.range i).map f++[f i]:=by rw[W7,WN];rfl
variable{z:Int}
theorem DP{ns:List Int}(h0:0<=z)(h:z.toNat<ns.length):JZ (ns.map V.int) z=some (.int (ns.getD z.toNat 0)):=by have e:=DX (ns:=ns) h;rw[show ((z.toNat:Nat):Int)=z by lia]at e;exact e
def Ce(g n:Int)(m:Nat):List Int:=(RW.DO g n m).reverse
theorem Mf(g n:Int)(m:Nat):(Ce g n m).length=m:=by unfold Ce;rw[List.length_reverse,RW.DA]
theorem Gp(hg:2<=g)(n:Int)(m:Nat):∀x∈Ce g n m,0<=x/\x<g:=λx hx=>Lp hg n m x (List.mem_reverse.mp hx)
theorem Mg{n:Int}(hg:2<=g)(h0:0<=n){m:Nat}(h:n<g^m):Bn g (Ce g n m)=n:=by unfold Ce;rw[Im,N0 hg h0 h]
theorem Mh(hg:2<=g){ws:List Int}(hb:∀x∈ws,0<=x/\x<g):Ce g (Bn g ws) ws.length=ws:=by
 unfold Ce;have e:=Jw hg (l:=ws.reverse) λn hn=>hb n (List.mem_reverse.mp hn)
 rw[XE]at e;rw[Li,e,List.reverse_reverse]
theorem AY{f:Nat->Int}{n k:Nat}(h:k<n):((List.range n).map f).getD k 0=f k:=by rw[WH,WO,List.getElem?_range h];rfl
theorem Az{a b:List Int}(hl:a.length=b.length)(h:∀k,k<a.length->a.getD k 0=b.getD k 0):a=b:=by apply List.ext_getElem hl;intro i h1 h2;have:=h i h1;rw[WH,WH,WJ h1,WJ h2]at this;exact this
def A4(g:Int)(tab:List Int)(w:Int):Bool:=(List.range tab.length).any λk:Nat=>!decide (tab.getD k 0=tab.getD ((k:Int)-(k:Int)/w%g*w).toNat 0)
def Bd(g lo:Int)(tab:List Int)(m:Nat):List Int:=((List.range m).filter λj=>A4 g tab (g^(m-1-j))).map λj:Nat=>lo+(j:Int)
inductive Gq(vs:List V)(H:Hp)(Q:VK)(z3_:XK):Prop
 |m (r:Addr) (g lo:Int) (tab:List Int) (w:Int):vs=[.ref r,.int w]->2<=g->g<=9->EB H r g lo tab->0<w->w<=1000->tab.length<=256->(∀H',AF H H'->Q (.bl (A4 g tab w)) H')->Gq vs H Q z3_
inductive Dr(vs:List V)(H:Hp)(Q:VK)(z3_:XK):Prop
 |m (r:Addr) (g lo:Int) (tab:List Int) (m:Nat):vs=[.ref r]->2<=g->g<=9->EB H r g lo tab->(tab.length:Int)=g^m->1<=m->m<=8->g^m<=256->(∀p H',FI H H' p (Bd g lo tab m)->Q (.ref p) H')->Dr vs H Q z3_
theorem RK{k w:Int}(hk:0<=k)(hw:0<w)(hg:2<=g):0<=k-k/w%g*w/\k-k/w%g*w<=k:=by
 have h1:=W2 (k/w) (show g≠0 by lia);have h2:=Xw hk (W3 hw)
 have h3:k/w%g<=k/w:=by
  by_cases z:k/w<g
  ·rw[XV h2 z];lia
  ·have:=Wu (k/w) (show 0<g by lia);lia
 have h4:=Int.mul_le_mul_of_nonneg_right h3 (W3 hw);have h5:=Int.mul_nonneg h1 (W3 hw);have h6:=Int.ediv_mul_le k (show w≠0 by lia);exact⟨by lia,by lia⟩
end L2
namespace L2
variable{g lo z:Int}{i j:Nat}{tab:List Int}
theorem Lq(g x:Int):Bn g [x]=x:=by show 0*g+x=x;rw[Int.zero_mul,Wv]
theorem Fk(g:Int)(a:List Int)(x:Int)(b:List Int):Bn g (a++x::b)=(Bn g a*g+x)*g^b.length+Bn g b:=by rw[show a++x::b=(a++[x])++b by rw[List.append_assoc];rfl,Go,FF]
theorem Mi(hg:2<=g){a b:List Int}{x:Int}(hb:∀n∈b,0<=n/\n<g)(hx:0<=x/\x<g):Bn g (a++x::b)/g^b.length%g=x:=by have b1:=Dn hg hb;have gp:=RW.Ap hg b.length;rw[Fk,Int.add_comm,XJ,YS _ _ (by lia),Xo b1.1 b1.2,Wv,Int.add_comm,XJ,XY,XV hx.1 hx.2]
theorem Jx{w:List Int}(h:j<w.length):w=w.take j++w.getD j 0::w.drop (j+1):=by rw[WH,WJ h];show w=w.take j++w[j]::w.drop (j+1);rw[<-Xe h,List.take_append_drop]
theorem Mj{w:List Int}(h:j<w.length)(v:Int):w.set j v=w.take j++v::w.drop (j+1):=List.set_eq_take_append_cons_drop▸if_pos h
theorem Iy(hg:2<=g){w:List Int}(hb:∀n∈w,0<=n/\n<g)(h:j<w.length):Bn g w/g^(w.length-1-j)%g=w.getD j 0:=by
 have hl:(w.drop (j+1)).length=w.length-1-j:=by rw[Xl];lia
 have e:=Mi hg (a:=w.take j) (b:=w.drop (j+1)) (x:=w.getD j 0) (λn hn=>hb n (List.mem_of_mem_drop hn)) (Dq hg hb j);rw[<-Jx h,hl]at e;exact e
theorem Gr(hg:2<=g){w:List Int}(hb:∀n∈w,0<=n/\n<g)(h:j<w.length):Bn g w-Bn g w/g^(w.length-1-j)%g*g^(w.length-1-j)=Bn g (w.set j 0):=by
 rw[Iy hg hb h,Mj h];have hl:(w.drop (j+1)).length=w.length-1-j:=by rw[Xl];lia
 have e:=Fk g (w.take j) (w.getD j 0) (w.drop (j+1));rw[<-Jx h]at e;rw[e,Fk,hl,Int.add_mul,Int.add_zero];lia
theorem Eu{w:Int}(h:A4 g tab w=false){k:Nat}(hk:k<tab.length):tab.getD k 0=tab.getD ((k:Int)-(k:Int)/w%g*w).toNat 0:=by unfold A4 at h;rw[List.any_eq_false]at h;have:=h k (Wl.mpr hk);simpa using this
theorem K1(hg:2<=g){m:Nat}(hl:(tab.length:Int)=g^m){w:List Int}(hb:∀n∈w,0<=n/\n<g)(hw:w.length=m)(hj:j<m)(hc:A4 g tab (g^(m-1-j))=false):tab.getD (Bn g w).toNat 0=tab.getD (Bn g (w.set j 0)).toNat 0:=by have b:=Dn hg hb;rw[hw]at b;have e:=Eu hc (k:=(Bn g w).toNat) (by lia);have n0:=Gr hg hb (j:=j) (by lia);rw[hw]at n0;rw[show (((Bn g w).toNat:Nat):Int)=Bn g w by lia,n0]at e;exact e
def zk(keep:Nat->Bool)(w:List Int)(k:Nat):List Int:=(List.range w.length).map λj=>if j<k/\keep j=false then 0 else w.getD j 0
theorem CK(keep:Nat->Bool)(w:List Int)(k:Nat):(zk keep w k).length=w.length:=by unfold zk;rw[List.length_map,List.length_range]
theorem Ev(keep:Nat->Bool)(w:List Int)(k:Nat)(h:j<w.length):(zk keep w k).getD j 0=if j<k/\keep j=false then 0 else w.getD j 0:=by unfold zk;exact AY h
theorem Ph(keep:Nat->Bool)(w:List Int):zk keep w 0=w:=by refine Az (CK keep w 0) λj hj=>?_;rw[CK]at hj;rw[Ev keep w 0 hj,if_neg (by lia)]
theorem TY(hg:2<=g){keep:Nat->Bool}{w:List Int}(hb:∀n∈w,0<=n/\n<g)(k:Nat):∀n∈zk keep w k,0<=n/\n<g:=λn hn=>by
 unfold zk at hn;obtain⟨j,_,e⟩:=Wd.mp hn;subst e;split
 ·exact⟨YO _,by lia⟩
 ·exact Dq hg hb _
theorem Jy{w:List Int}{v:Int}(h:i<w.length):(w.set i v).getD j 0=if i=j then v else w.getD j 0:=by
 rw[WH,List.getElem?_set]
 by_cases e:i=j
 ·rw[if_pos e,if_pos e];subst e;rw[if_pos h];rfl
 ·rw[if_neg e,if_neg e,WH]
theorem Pi(keep:Nat->Bool)(w:List Int){k:Nat}(hk:k<w.length):zk keep w (k+1)=if keep k=false then (zk keep w k).set k 0 else zk keep w k:=by
 by_cases e:keep k=false
 ·rw[if_pos e];refine Az (by rw[Xv,CK,CK]) λj hj=>?_;rw[CK]at hj;rw[Ev keep w _ hj,Jy (by rw[CK];exact hk),Ev keep w _ hj]
  by_cases z:k=j
  ·subst z;rw[if_pos ⟨by lia,e⟩,if_pos rfl]
  ·rw[if_neg z]
   by_cases y:j<k/\keep j=false
   ·rw[if_pos y,if_pos ⟨by lia,y.2⟩]
   ·rw[if_neg y,if_neg (λx=>y ⟨by lia,x.2⟩)]
 ·rw[if_neg e];refine Az (by rw[CK,CK]) λj hj=>?_;rw[CK]at hj;rw[Ev keep w _ hj,Ev keep w _ hj]
  by_cases y:j<k/\keep j=false
  ·rw[if_pos y,if_pos ⟨by lia,y.2⟩]
  ·rw[if_neg y,if_neg (λx=>y ⟨Nat.lt_of_le_of_ne (by lia) (λz=>e (z▸x.2)),x.2⟩)]
theorem GR(hg:2<=g){m:Nat}(hl:(tab.length:Int)=g^m){keep:Nat->Bool}(hc:∀j,j<m->keep j=false->A4 g tab (g^(m-1-j))=false){w:List Int}(hb:∀n∈w,0<=n/\n<g)(hw:w.length=m):∀k,k<=m->tab.getD (Bn g (zk keep w k)).toNat 0=tab.getD (Bn g w).toNat 0
 |0,_=>by rw[Ph]
 |k+1,h=>by
  rw[Pi keep w (by lia)]
  by_cases e:keep k=false
  ·rw[if_pos e,<-K1 hg hl (TY hg hb k) (by rw[CK,hw]) (by lia) (hc k (by lia) e)];exact GR hg hl hc hb hw k (by lia)
  ·rw[if_neg e];exact GR hg hl hc hb hw k (by lia)
theorem Gs(hg:2<=g){m:Nat}(hl:(tab.length:Int)=g^m){v w:List Int}(hv:∀n∈v,0<=n/\n<g)(hw:∀n∈w,0<=n/\n<g)(lv:v.length=m)(lw:w.length=m)
  (h:∀j,j<m->A4 g tab (g^(m-1-j))=true->v.getD j 0=w.getD j 0):tab.getD (Bn g v).toNat 0=tab.getD (Bn g w).toNat 0:=by
 have key:∀j,j<m->(λj=>A4 g tab (g^(m-1-j))) j=false->A4 g tab (g^(m-1-j))=false:=λj _ e=>e
 rw[<-GR hg hl key hv lv m (WM _),<-GR hg hl key hw lw m (WM _)]
 congr 3
 refine Az (by rw[CK,CK,lv,lw]) λj hj=>?_;rw[CK,lv]at hj;rw[Ev _ _ _ (by lia),Ev _ _ _ (by lia)]
 by_cases e:j<m/\A4 g tab (g^(m-1-j))=false
 ·rw[if_pos e,if_pos e]
 ·rw[if_neg e,if_neg e];refine h j hj ?_;cases z:A4 g tab (g^(m-1-j)) with
  |true=>rfl
  |false=>exact absurd ⟨hj,z⟩ e
def sn(v:List Int)(z:Int):Int:=if z<0\/(v.length:Int)<=z then 0 else v.getD z.toNat 0
theorem QU(hg:2<=g){v:List Int}(hb:∀n∈v,0<=n/\n<g)(z:Int):0<=sn v z/\sn v z<g:=by
 unfold sn;split
 ·exact⟨YO _,by lia⟩
 ·exact Dq hg hb _
theorem N4{v:List Int}(h:j<v.length):sn v ((j:Nat):Int)=v.getD j 0:=by unfold sn;rw[if_neg (by lia),WS]
def K2(v:List Int)(d:Int)(m:Nat):List Int:=(List.range m).map λj:Nat=>sn v (d+(j:Int))
theorem FJ(v:List Int)(d:Int)(m:Nat):(K2 v d m).length=m:=by unfold K2;rw[List.length_map,List.length_range]
theorem K3(hg:2<=g){v:List Int}(hb:∀n∈v,0<=n/\n<g)(d:Int)(m:Nat):∀n∈K2 v d m,0<=n/\n<g:=λn hn=>by unfold K2 at hn;obtain⟨j,_,e⟩:=Wd.mp hn;subst e;exact QU hg hb _
theorem Lr(v:List Int)(d:Int){m:Nat}(h:j<m):(K2 v d m).getD j 0=sn v (d+(j:Int)):=by unfold K2;exact AY h
theorem Jz(v:List Int):K2 v 0 v.length=v:=by refine Az (FJ _ _ _) λj hj=>?_;rw[FJ]at hj;rw[Lr v 0 hj,Wv,N4 hj]
def Eg(g lo:Int)(tab:List Int)(m:Nat)(low:Int)(M:Nat):List Int:=(List.range (g^M).toNat).map λn:Nat=>tab.getD (Bn g (K2 (Ce g (n:Int) M) (lo-low) m)).toNat 0
theorem BF(hg:2<=g)(lo:Int)(tab:List Int)(m:Nat)(low:Int)(M:Nat):((Eg g lo tab m low M).length:Int)=g^M:=by unfold Eg;rw[WD,WV,XF (W3 (RW.Ap hg M))]
theorem N5(hg:2<=g)(lo:Int)(hb:∀n∈tab,0<=n/\n<g)(m:Nat)(low:Int)(M:Nat):∀n∈Eg g lo tab m low M,0<=n/\n<g:=λn hn=>by unfold Eg at hn;obtain⟨j,_,e⟩:=Wd.mp hn;subst e;exact Dq hg hb _
theorem J1(hg:2<=g)(lo:Int)(tab:List Int)(m:Nat)(low:Int){v:List Int}(hb:∀n∈v,0<=n/\n<g):(Eg g lo tab m low v.length).getD (Bn g v).toNat 0=tab.getD (Bn g (K2 v (lo-low) m)).toNat 0:=by have b:=Dn hg hb;unfold Eg;rw[AY (by lia),show (((Bn g v).toNat:Nat):Int)=Bn g v by lia,Mh hg hb]
theorem Iz(hg:2<=g){m k:Nat}(h:(k:Int)<g^m):∃w:List Int,w.length=m/\(∀n∈w,0<=n/\n<g)/\Bn g w=(k:Int):=⟨Ce g (k:Int) m,Mf _ _ _,Gp hg _ _,Mg hg (by lia) h⟩
theorem N6(hg:2<=g){a b:List Int}{m:Nat}(la:(a.length:Int)=g^m)(lb:(b.length:Int)=g^m)(h:∀w:List Int,w.length=m->(∀n∈w,0<=n/\n<g)->a.getD (Bn g w).toNat 0=b.getD (Bn g w).toNat 0):a=b:=by refine Az (by lia) λk hk=>?_;obtain⟨w,h1,h2,h3⟩:=Iz hg (m:=m) (k:=k) (by lia);have:=h w h1 h2;rw[h3,WS]at this;exact this
theorem N7(hg:2<=g)(lo:Int){m:Nat}(hl:(tab.length:Int)=g^m):Eg g lo tab m lo m=tab:=by refine N6 hg (BF hg _ _ _ _ _) hl λw hw hb=>?_;subst hw;rw[J1 hg lo tab _ lo hb,Int.sub_self,Jz]
theorem K4{m:Nat}:z∈Bd g lo tab m↔∃j:Nat,j<m/\A4 g tab (g^(m-1-j))=true/\z=lo+(j:Int):=by
 unfold Bd;constructor
 ·intro h;obtain⟨j,hj,e⟩:=Wd.mp h;obtain⟨h1,h2⟩:=Xg.mp hj;exact⟨j,Wl.mp h1,h2,e.symm⟩
 ·rintro⟨j,hj,hc,rfl⟩;exact Wd.mpr ⟨j,Xg.mpr ⟨Wl.mpr hj,hc⟩,rfl⟩
theorem DZ{w:Int}:A4 g tab w=true↔∃k:Nat,k<tab.length/\tab.getD k 0≠tab.getD ((k:Int)-(k:Int)/w%g*w).toNat 0:=by
 unfold A4;rw[XB];constructor
 ·rintro⟨k,hk,h⟩;exact⟨k,List.mem_range.mp hk,by simpa using h⟩
 ·rintro⟨k,hk,h⟩;exact⟨k,List.mem_range.mpr hk,by simpa using h⟩
theorem K6(hg:2<=g){m:Nat}(hl:(tab.length:Int)=g^m)(hj:j<m):A4 g tab (g^(m-1-j))=true↔∃w:List Int,w.length=m/\(∀n∈w,0<=n/\n<g)/\tab.getD (Bn g w).toNat 0≠tab.getD (Bn g (w.set j 0)).toNat 0:=by
 rw[DZ];constructor
 ·rintro⟨k,hk,h⟩;obtain⟨w,h1,h2,h3⟩:=Iz hg (m:=m) (k:=k) (by lia);refine⟨w,h1,h2,?_⟩;have n0:=Gr hg h2 (j:=j) (by lia);rw[h1,h3]at n0;rw[<-n0,h3,WS];exact h
 ·rintro⟨w,h1,h2,h⟩;have b:=Dn hg h2;rw[h1]at b;refine⟨(Bn g w).toNat,by lia,?_⟩;have n0:=Gr hg h2 (j:=j) (by lia);rw[h1]at n0;rw[show (((Bn g w).toNat:Nat):Int)=Bn g w by lia,n0];exact h
structure Ds(g lo:Int)(tab:List Int)(m:Nat)(low:Int)(M:Nat):Prop where
 one:1<=M
 all:∀j,j<m->A4 g tab (g^(m-1-j))=true->low<=lo+(j:Int)/\lo+(j:Int)<low+(M:Int)
 ends:((∀j,j<m->A4 g tab (g^(m-1-j))=false)/\low=0/\M=1)\/∃j0 j1:Nat,j0<=j1/\j1<m/\low=lo+(j0:Int)/\M=j1-j0+1/\A4 g tab (g^(m-1-j0))=true/\A4 g tab (g^(m-1-j1))=true
theorem Hl(p:Nat->Bool)(n:Nat):((List.range n).filter p).Pairwise (·<·):=List.Pairwise.filter p List.pairwise_lt_range
theorem K7:∀{l:List Nat},l.Pairwise (·<·)->∀x∈l,l.getD 0 0<=x
 |[],_,x,h=>absurd h (by simp)
 |a::r,hp,x,h=>by
  rcases WY.mp h with z|z
  ·rw[z];exact WM _
  ·exact Xc ((List.pairwise_cons.mp hp).1 x z)
theorem Fl:∀{l:List Nat},l.Pairwise (·<·)->∀x∈l,x<=l.getD (l.length-1) 0
 |[],_,x,h=>absurd h (by simp)
 |[a],_,x,h=>by rw[WE.mp h];exact WM _
 |a::b::r,hp,x,h=>by
  have ih:=Fl (l:=b::r) (List.pairwise_cons.mp hp).2;have e:(a::b::r).getD ((a::b::r).length-1) 0=(b::r).getD ((b::r).length-1) 0:=rfl;rw[e];rcases WY.mp h with z|z
  ·rw[z];exact Wm (Xc ((List.pairwise_cons.mp hp).1 b Wh)) (ih b Wh)
  ·exact ih x z
theorem Gu:∀{l:List Nat} {k:Nat},k<l.length->l.getD k 0∈l:=λ{l k} h=>by rw[WH,WJ h];exact List.getElem_mem h
theorem F5{f:Nat->Int}{l:List Nat}{k:Nat}(h:k<l.length):(l.map f).getD k 0=f (l.getD k 0):=by rw[WH,WO,WJ h,WH,WJ h];rfl
theorem J2{m:Nat}(h:Bd g lo tab m=[]):Ds g lo tab m 0 1:=by
 have f:∀j,j<m->A4 g tab (g^(m-1-j))=false:=λj hj=>by
  cases z:A4 g tab (g^(m-1-j)) with
  |false=>rfl
  |true=>exact absurd (K4.mpr ⟨j,hj,z,rfl⟩) (by rw[h];simp)
 exact⟨WM _,λj hj hc=>absurd hc (by rw[f j hj];decide),.inl ⟨f,rfl,rfl⟩⟩
theorem IE{m:Nat}(h:Bd g lo tab m≠[]):∃M:Nat,(M:Int)=(Bd g lo tab m).getD ((Bd g lo tab m).length-1) 0-(Bd g lo tab m).getD 0 0+1/\M<=m/\Ds g lo tab m ((Bd g lo tab m).getD 0 0) M:=by
 unfold Bd at h⊢;generalize hl:((List.range m).filter λj=>A4 g tab (g^(m-1-j)))=l at h⊢
 have hne:0<l.length:=by
  cases l with
  |nil=>exact absurd rfl h
  |cons a r=>simp
 have hm:∀j,j∈l↔j<m/\A4 g tab (g^(m-1-j))=true:=λj=>by rw[<-hl,Xg,Wl]
 have hp:l.Pairwise (·<·):=by rw[<-hl];exact Hl _ _
 rw[WD,F5 (show l.length-1<l.length by lia),F5 hne];have m0:=(hm _).mp (Gu hne);have m1:=(hm _).mp (Gu (show l.length-1<l.length by lia));have le:=Fl hp _ (Gu hne);refine⟨l.getD (l.length-1) 0-l.getD 0 0+1,by lia,by lia,⟨by lia,λj hj hc=>?_,.inr ⟨l.getD 0 0,l.getD (l.length-1) 0,le,m1.1,rfl,rfl,m0.2,m1.2⟩⟩⟩;have a1:=K7 hp j ((hm j).mpr ⟨hj,hc⟩);have a2:=Fl hp j ((hm j).mpr ⟨hj,hc⟩);lia
theorem Ml(hg:2<=g){m:Nat}(hl:(tab.length:Int)=g^m)(f:∀j,j<m->A4 g tab (g^(m-1-j))=false){w:List Int}(hb:∀n∈w,0<=n/\n<g)(hw:w.length=m):tab.getD (Bn g w).toNat 0=tab.getD 0 0:=by
 obtain⟨z,h1,h2,h3⟩:=Iz hg (m:=m) (k:=0) (RW.Ap hg m);have e:=Gs hg hl hb h2 hw h1 λj hj hc=>absurd hc (by rw[f j hj];decide)
 rw[h3]at e;exact e
variable{M:Nat}
theorem N8(hg:2<=g){low:Int}{m:Nat}(hl:(tab.length:Int)=g^m)(f:∀j,j<m->A4 g tab (g^(m-1-j))=false):Eg g lo tab m low M=List.replicate (g^M).toNat (tab.getD 0 0):=by unfold Eg;rw[YT];refine⟨by rw[WD,WV],λb hb=>?_⟩;obtain⟨n,_,e⟩:=Wd.mp hb;rw[<-e,Ml hg hl f (K3 hg (Gp hg _ _) _ _) (FJ _ _ _)]
end L2
namespace L2
variable{g:Int}{j:Nat}{tab:List Int}
def Eh(n:Nat)(f:Nat->Int):Int:=((List.range n).map f).sum
theorem Mm(f:Nat->Int):Eh 0 f=0:=rfl
theorem EU(n:Nat)(f:Nat->Int):Eh (n+1) f=Eh n f+f n:=by unfold Eh;rw[W7,WN,List.sum_append];show _+([f n]:List Int).sum=_;rw[List.sum_cons,List.sum_nil,Int.add_zero]
theorem K8{n:Nat}{f g:Nat->Int}(h:∀k,k<n->f k=g k):Eh n f=Eh n g:=by unfold Eh;rw[XQ λk hk=>h k (Wl.mp hk)]
theorem K9(n:Nat)(c:Int):Eh n (λ_=>c)=(n:Int)*c:=by
 induction n with
 |zero=>rw[Mm];simp
 |succ n ih=>rw[EU,ih,Int.natCast_add,Int.add_mul];simp
theorem F6{n:Nat}{f:Nat->Int}(h:∀k,k<n->0<=f k):0<=Eh n f:=by
 induction n with
 |zero=>exact YO _
 |succ n ih =>
  rw[EU];have h1:=ih λk hk=>h k (XO hk)
  have h2:=h n (W8 n);lia
theorem Pj{n:Nat}{f:Nat->Int}(h:∀k,k<n->0<=f k)(hj:j<n):f j<=Eh n f:=by
 induction n with
 |zero=>exact absurd hj (YY _)
 |succ n ih =>
  rw[EU]
  by_cases e:j=n
  ·subst e;have h1:=F6 (n:=j) (f:=f) λk hk=>h k (XO hk)
   lia
  ·have h1:=ih (λk hk=>h k (XO hk)) (by lia);have h2:=h n (W8 n);lia
def QV(p:Bool)(x:Int):Int:=if p then x else 0
theorem Gv{p:Bool}{x:Int}(h:0<=x):0<=QV p x:=by unfold QV;split<;>lia
def Mn(G:Nat)(tab:List Int):List Int->Nat->Int
 |[],_=>1
 |s::r,h=>Eh G λj=>QV (decide (tab.getD (h*G+j) 0=s)) (Mn G tab r ((h*G+j)%(tab.length/G)))
theorem Ew(G:Nat)(tab:List Int):∀(r:List Int) (h:Nat),0<=Mn G tab r h
 |[],_=>by show (0:Int)<=1;decide
 |s::r,h=>F6 λj _=>Gv (Ew G tab r _)
def U5(G:Nat)(tab:List Int)(r:List Int):Int:=Eh (tab.length/G) (Mn G tab r)
theorem CA(hg:2<=g){m:Nat}(hl:(tab.length:Int)=g^m)(hm:1<=m):((tab.length/g.toNat:Nat):Int)=g^(m-1)/\tab.length=tab.length/g.toNat*g.toNat:=by
 obtain⟨k,rfl⟩:∃k,m=k+1:=⟨m-1,by lia⟩
 have e:tab.length=(g^k).toNat*g.toNat:=by have p:=RW.Ap hg k;rw[Wg]at hl;apply Int.ofNat.inj;show (tab.length:Int)=(((g^k).toNat*g.toNat:Nat):Int);rw[hl,Xx,XF (W3 p),XF (by lia)]
 have q:tab.length/g.toNat=(g^k).toNat:=by rw[e];exact Nat.mul_div_cancel _ (by lia)
 rw[q,Xr];exact⟨XF (W3 (RW.Ap hg k)),e⟩
end L2
namespace L2
open PySem
variable{C a r:Addr}{H H':Hp}{M:Nat}{X:Cx}{g lo:Int}{tab:List Int}
def Cw(G:Nat)(tab:List Int)(h:Nat)(s:Int):List Nat:=((List.range G).filter λj=>decide (tab.getD (h*G+j) 0=s)).map λj=>h*G+j
theorem LA(n:Nat)(p:Nat->Bool)(f:Nat->Int):(((List.range n).filter p).map f).sum=Eh n λj=>QV (p j) (f j):=by
 induction n with
 |zero=>rfl
 |succ n ih =>
  rw[EU,W7,Xs,WN,List.sum_append,ih]
  congr 1
  unfold QV;cases h:p n<;>simp[List.filter,h]
theorem N9(G:Nat)(tab:List Int)(h:Nat)(s:Int)(f:Nat->Int):((Cw G tab h s).map f).sum=Eh G λj=>QV (decide (tab.getD (h*G+j) 0=s)) (f (h*G+j)):=by unfold Cw;rw[List.map_map];exact LA G _ _
theorem OA(G:Nat)(tab:List Int)(h:Nat)(s:Int)(r:List Int):((Cw G tab h s).map λn=>Mn G tab r (n%(tab.length/G))).sum=Mn G tab (s::r) h:=N9 G tab h s _
def Fm(G:Nat)(tab r:List Int):List Int:=(List.range (tab.length/G)).map (Mn G tab r)
theorem OB(G:Nat)(tab r:List Int):(Fm G tab r).length=tab.length/G:=by unfold Fm;rw[List.length_map,List.length_range]
theorem OC(G:Nat)(tab r:List Int):(Fm G tab r).sum=U5 G tab r:=rfl
variable{G:Nat}
theorem OD{r:List Int}{h:Nat}(hh:h<tab.length/G):(Fm G tab r).getD h 0=Mn G tab r h:=by unfold Fm;exact AY hh
def Ex(ns:List Nat):List Int:=ns.map λn:Nat=>(n:Int)
structure Al(H:Hp)(r:Addr)(g lo:Int)(tab:List Int)(m:Nat):Prop where
 v:EB H r g lo tab
 g2:2<=g
 g9:g<=9
 m1:1<=m
 m8:m<=8
 len:(tab.length:Int)=g^m
 sz:g^m<=256
 tb:∀n∈tab,0<=n/\n<g
theorem Al.same{m:Nat}(e:AF H H')(h:Al H r g lo tab m):Al H' r g lo tab m:=⟨h.v.same e,h.g2,h.g9,h.m1,h.m8,h.len,h.sz,h.tb⟩
inductive DC(vs:List V)(H:Hp)(Q:VK)(z3_:XK):Prop
 |m (r:Addr) (g lo:Int) (tab:List Int) (m:Nat):vs=[.ref r]->Al H r g lo tab m->Q (.int ((tab.length/g.toNat:Nat):Int)) H->DC vs H Q z3_
inductive JA(vs:List V)(H:Hp)(Q:VK)(z3_:XK):Prop
 |m (r:Addr) (g lo:Int) (tab:List Int) (m h:Nat) (s:Int):vs=[.ref r,.int ((h:Nat):Int),.int s]->Al H r g lo tab m->h<tab.length/g.toNat->(∀p H',FI H H' p (Ex (Cw g.toNat tab h s))->Q (.ref p) H')->JA vs H Q z3_
inductive Gw(vs:List V)(H:Hp)(Q:VK)(z3_:XK):Prop
 |m (r f w:Addr) (g lo:Int) (tab:List Int) (m:Nat) (fs:List Nat) (ws:List Int):vs=[.ref r,.ref f,.ref w]->Al H r g lo tab m->H f=some (.lst ((Ex fs).map V.int))->fs.length<=300->H w=some (.lst (ws.map V.int))->ws.length=tab.length/g.toNat->(∀p H',FI H H' p (fs.map λn=>ws.getD (n%(tab.length/g.toNat)) 0)->Q (.ref p) H')->Gw vs H Q z3_
def TZ(H:Hp)(p:Addr)(G:Nat)(tab row:List Int):Prop:=∃ps:List Addr,H p=some (.lst (ps.map V.ref))/\ps.length=row.length+1/\∀(k:Nat) (q:Addr),ps[k]?=some q->H q=some (.lst ((Fm G tab (row.drop k)).map V.int))
inductive LB(K:PySem.W.Frag)(vs:List V)(H:Hp)(Q:VK)(z3_:XK):Prop
 |m (r a:Addr) (g lo:Int) (tab:List Int) (m:Nat) (ns:List Int):vs=[.ref r,.ref a]->Al H r g lo tab m->Ac K H a (ns.map V.int)->ns.length<=900->(∀p H',AF H H'->H p=none->TZ H' p g.toNat tab ns->Q (.ref p) H')->LB K vs H Q z3_
inductive LC(K:PySem.W.Frag)(C:Addr)(vs:List V)(H:Hp)(Q:VK)(E:XK):Prop
 |m (r a:Addr) (g lo:Int) (tab:List Int) (m:Nat) (xs:List V):vs=[.ref r,.ref a]->Al H r g lo tab m->Ac K H a xs->(∀x∈xs,Kd H x)->xs.length<=900->(match Bp g xs with|none=>∀ns:List Int,xs=ns.map V.int->∀H',AF H H'->Q (.int (U5 g.toNat tab ns)) H'|some i=>PY C i H E)->LC K C vs H Q E
theorem RL{P:Program}{w:World}:CS (Hy true P w) X (λ_=>E0):=λ_ _ _ _ _ _ _ ⟨_,_,_,_,_,_,_,_,h⟩=>h.elim
theorem LF{K:PySem.W.Frag}(h:X.K=K)(hc:X.calm=true):DT X (.builtin "sum") (λxs H Q=>∃(p:Addr) (ns:List Int),xs=[.ref p]/\Ac K H p (ns.map V.int)/\Q (.int ns.sum) H):=h▸F3 hc
theorem Mo{m:Nat}{Q:VK}{E:XK}(g2:2<=g)(g9:g<=9)(m1:1<=m)(len:(tab.length:Int)=g^m)(sz:g^m<=256)(tb:∀n∈tab,0<=n/\n<g)(hs:GK H a (tab.map V.int))
  (q:∀r' H',AF H H'->EB H' r' g lo tab->Q (.ref r') H'):Iv C [.int g,.int lo,.ref a] H Q E:=by
 have tok:Ln g (tab.map V.int):=⟨by rw[WD];lia,⟨m,m1,by rw[WD];exact len⟩,Ep tb⟩;refine⟨_,_,_,rfl,True.intro,True.intro,⟨_,hs,GO⟩,λg' lo' tab' a' e1 e2 e3 hs' _ _ _ _ r' H' e' hR'=>?_,λnok=>absurd ⟨Hk g2 g9,g,rfl,a,_,rfl,hs,tok⟩ nok⟩;cases e1;cases e2;cases e3;have:=Gk (hs.inj hs');subst this;exact q r' H' e' hR'
inductive Gx(K:PySem.W.Frag)(vs:List V)(H:Hp)(Q:VK)(z3_:XK):Prop
 |m (a:Addr) (v:List Int) (z:Int):vs=[.ref a,.int z]->Ac K H a (v.map V.int)->Q (.int (sn v z)) H->Gx K vs H Q z3_
theorem FK(hg:2<=g)(h:g^M<=256):M<=8:=by
 apply Nat.le_of_not_lt;intro z;have h1:=Bc hg (show 9<=M by lia)
 have h2:(512:Int)<=g^9:=by
  have h2:2*2<=g*g:=X5 hg hg (by decide) (by lia);have h4:4*4<=(g*g)*(g*g):=X5 (by lia) (by lia) (by decide) (by lia);have h8:16*16<=((g*g)*(g*g))*((g*g)*(g*g)):=X5 (by lia) (by lia) (by decide) (by lia);have h9:256*2<=(((g*g)*(g*g))*((g*g)*(g*g)))*g:=X5 (by lia) hg (by decide) (by lia);have e:g^9=(((g*g)*(g*g))*((g*g)*(g*g)))*g:=by simp only[Int.pow_succ,Int.pow_zero,Int.one_mul,Int.mul_assoc]
  rw[e];lia
 lia
theorem Al.bw{r':Addr}{m:Nat}(h:Al H r g lo tab m){low:Int}(hM:1<=M)(hz:g^M<=256)(hv:EB H' r' g low (Eg g lo tab m low M)):Al H' r' g low (Eg g lo tab m low M) M:=
 ⟨hv,h.g2,h.g9,hM,FK h.g2 hz,BF h.g2 _ _ _ _ _,hz,N5 h.g2 _ h.tb _ _ _⟩
inductive GS(vs:List V)(H:Hp)(Q:VK)(z3_:XK):Prop
 |m (r:Addr) (g lo:Int) (tab:List Int) (m:Nat) (low:Int) (M:Nat):vs=[.ref r,.int low,.int ((M:Nat):Int)]->Al H r g lo tab m->1<=M->g^M<=256->(∀r' H',AF H H'->Al H' r' g low (Eg g lo tab m low M) M->Q (.ref r') H')->GS vs H Q z3_
inductive Gy(vs:List V)(H:Hp)(Q:VK)(z3_:XK):Prop
 |m (r:Addr) (g lo:Int) (tab:List Int) (m:Nat):vs=[.ref r]->Al H r g lo tab m->(∀(low:Int) (M:Nat),Ds g lo tab m low M->∀r' H',AF H H'->Al H' r' g low (Eg g lo tab m low M) M->Q (.ref r') H')->Gy vs H Q z3_
def Pk(g lo:Int)(tab:List Int)(m:Nat)(low high:Int):Prop:=high<low\/∃z∈Bd g lo tab m,z<low\/high<z
inductive Fn(CW CT:Addr)(vs:List V)(H:Hp)(Q:VK)(E:XK):Prop
 |m (r:Addr) (g lo:Int) (tab:List Int) (m:Nat) (low high:Int):vs=[.ref r,.int low,.int high]->Al H r g lo tab m->(Pk g lo tab m low high->∀H',AF H H'->E (.ref CW) none H')->(¬Pk g lo tab m low high->256<g^(high-low+1).toNat->∀H',AF H H'->E (.ref CT) none H')->(¬Pk g lo tab m low high->g^(high-low+1).toNat<=256->∀r' H',AF H H'->Al H' r' g low (Eg g lo tab m low (high-low+1).toNat) (high-low+1).toNat->Q (.ref r') H')->Fn CW CT vs H Q E
theorem Mp{ns:List Int}(h:0<ns.length):JZ (ns.map V.int) (-1)=some (.int (ns.getD (ns.length-1) 0)):=by
 have e:=DX (ns:=ns) (k:=ns.length-1) (by lia)
 have z:JY (ns.map V.int).length (-1)=some (ns.length-1):=by
  unfold JY;rw[WD];rw[if_neg (by decide),if_pos (by lia)]
  congr 1
  lia
 have y:JY (ns.map V.int).length (((ns.length-1:Nat)):Int)=some (ns.length-1):=by rw[WD];exact GQ (by lia)
 unfold JZ at e⊢;rw[z];rw[y]at e;exact e
end L2
namespace L2
open PySem PySem.Spec PyProof.Rows
variable{X:Cx}{es:List Expr}{i:Nat}{pos:Pos}{tc:TT}{te:TE}{x:Str}
section
variable{t:TA}
theorem Ah{i:Int}{j}(hr:PA X es t):PA X (.Constant (.int i) j pos::es) (BE (tC (.int i)) t):=AA AG hr (by rfl)
end
@[irreducible] def Ov (X:Cx) (st:Stmt) (t:TS):Prop:=PS X st t
@[irreducible] def Ey (X:Cx) (ss:List Stmt) (t:TS):Prop:=Fy X ss t
section
variable{st:Stmt}{rest ss:List Stmt}{t u:TS}
theorem Ov.of(h:PS X st t):Ov X st t:=by unfold Ov;exact h
theorem Ov.out(h:Ov X st t):PS X st t:=by unfold Ov at h;exact h
theorem Ey.of(h:Fy X ss t):Ey X ss t:=by unfold Ey;exact h
theorem Ey.out(h:Ey X ss t):Fy X ss t:=by unfold Ey at h;exact h
theorem Ab(h1:Ov X st t)(h2:Ey X rest u):Ey X (st::rest) (NG t u):=.of (AD h1.out h2.out)
theorem Bs(h1:Ov X st t):Ey X [st] t:=.of (AE h1.out)
end
@[irreducible] def QW (X:Cx) (e:Expr) (te:TE):Prop:=PE X e te
@[irreducible] def Mq (X:Cx) (es:List Expr) (t:TA):Prop:=PA X es t
section
variable{e a b:Expr}{ta tb:TE}{t:TA}
theorem QW.of(h:PE X e te):QW X e te:=by unfold QW;exact h
theorem QW.out(h:QW X e te):PE X e te:=by unfold QW at h;exact h
theorem Mq.of(h:PA X es t):Mq X es t:=by unfold Mq;exact h
theorem Mq.out(h:Mq X es t):PA X es t:=by unfold Mq at h;exact h
theorem CB:Mq X [] Ct:=.of AB
theorem A6{i:Int}{j}{p:Pos}(hr:Mq X es t):Mq X (.Constant (.int i) j p::es) (BE (tC (.int i)) t):=.of (Ah hr.out)
theorem Ls(h:Mq X es t):QW X (.List es pos) (O7 t):=.of (BB h.out)
theorem A3{pos':Pos}(hN:X.N.Nodup)(hi:X.N[i]?=some x)(hx:P4 X.env.scope x)(he:QW X e te)(hs:swapsWith e (some (.Name x pos')) pos.line X.env=pure false)(hf:X.fn x=true\/X.env.scope.names.lookup x=some .local):
  Ov X (.Assign [.Name x pos'] e pos) (Kc te (Cd i)):=.of (IW hN hi hx he.out hs hf)
theorem ED{c:Expr}{a b:List Stmt}{t u:TS}(hc:PT X c tc)(ha:Ey X a t)(hb:Ey X b u):Ov X (.If c a b pos) (Qs tc t u):=.of (Av hc ha.out hb.out)
theorem EV:Ey X [] NF:=.of AX
end
end L2
namespace L2
open PySem
variable{D:GZ}{H:Hp}{M j:Nat}{g lo z:Int}{tab:List Int}{σ:St}
def Bt(x:Int->Int)(lo:Int)(m:Nat):List Int:=(List.range m).map λj:Nat=>x (lo+(j:Int))
theorem Bq(x:Int->Int)(lo:Int)(m:Nat):(Bt x lo m).length=m:=by unfold Bt;rw[List.length_map,List.length_range]
theorem FL(x:Int->Int)(lo:Int){m:Nat}(h:j<m):(Bt x lo m).getD j 0=x (lo+(j:Int)):=by unfold Bt;exact AY h
def ND(g:Int)(x:Int->Int):Prop:=∀z,0<=x z/\x z<g
theorem DD{x:Int->Int}(hx:ND g x)(lo:Int)(m:Nat):∀n∈Bt x lo m,0<=n/\n<g:=λn hn=>by unfold Bt at hn;obtain⟨j,_,rfl⟩:=Wd.mp hn;exact hx _
def JQ(g lo:Int)(tab:List Int)(m:Nat)(x:Int->Int):Int:=tab.getD (Bn g (Bt x lo m)).toNat 0
def IF(w:List Int)(lo:Int):Int->Int:=λz=>sn w (z-lo)
theorem IG(hg:2<=g){w:List Int}(hb:∀n∈w,0<=n/\n<g)(lo:Int):ND g (IF w lo):=λz=>QU hg hb _
theorem Pl(w:List Int)(low lo:Int)(m:Nat):Bt (IF w low) lo m=K2 w (lo-low) m:=by unfold Bt K2 IF;exact XQ λj _=>by rw[show lo+(j:Int)-low=lo-low+(j:Int) by lia]
theorem F7(w:List Int)(lo:Int):Bt (IF w lo) lo w.length=w:=by rw[Pl,Int.sub_self,Jz]
theorem EW(hg:2<=g){low:Int}{m:Nat}(hl:(tab.length:Int)=g^m)(hc:∀j,j<m->A4 g tab (g^(m-1-j))=true->low<=lo+(j:Int)/\lo+(j:Int)<low+(M:Int)){x:Int->Int}(hx:ND g x):JQ g low (Eg g lo tab m low M) M x=JQ g lo tab m x:=by
 unfold JQ;have z:=J1 hg lo tab m low (v:=Bt x low M) (DD hx low M);rw[Bq]at z;rw[z];refine Gs hg hl (K3 hg (DD hx low M) _ _) (DD hx lo m) (FJ ..) (Bq ..) λj hj hcj=>?_;obtain⟨a,b⟩:=hc j hj hcj;rw[Lr _ _ hj,FL _ _ hj,show lo-low+(j:Int)=(((lo+(j:Int)-low).toNat:Nat):Int) by lia,N4 (by rw[Bq];lia),FL _ _ (by lia)]
 congr 1
 lia
def QX(g:Int)(f:(Int->Int)->Int)(z:Int):Prop:=∃x,ND g x/\f x≠f λy=>if y=z then 0 else x y
theorem VO(hg:2<=g){x:Int->Int}(hx:ND g x)(z:Int):ND g λy=>if y=z then 0 else x y:=λy=>by
 show 0<=(if y=z then 0 else x y)/\(if y=z then 0 else x y)<g;split
 ·lia
 ·exact hx y
theorem J3(x:Int->Int)(lo:Int){m:Nat}(hj:j<m):Bt (λy=>if y=lo+(j:Int) then 0 else x y) lo m=(Bt x lo m).set j 0:=by
 refine Az (by rw[Xv,Bq,Bq]) λk hk=>?_;rw[Bq]at hk;rw[FL _ _ hk,Jy (by rw[Bq];exact hj),FL _ _ hk]
 by_cases e:j=k
 ·subst e;rw[if_pos rfl,if_pos rfl]
 ·rw[if_neg e,if_neg (by lia)]
theorem GU(hg:2<=g){m:Nat}(hl:(tab.length:Int)=g^m)(hj:j<m):A4 g tab (g^(m-1-j))=true↔QX g (JQ g lo tab m) (lo+(j:Int)):=by
 rw[K6 hg hl hj];constructor
 ·rintro⟨w,wl,wb,ne⟩;subst wl;refine⟨IF w lo,IG hg wb lo,?_⟩;unfold JQ;rw[J3 _ _ hj,F7];exact ne
 ·rintro⟨x,hx,ne⟩;unfold JQ at ne;rw[J3 _ _ hj]at ne;exact⟨_,Bq ..,DD hx lo m,ne⟩
theorem OE{m:Nat}(h:QX g (JQ g lo tab m) z):∃j:Nat,j<m/\z=lo+(j:Int):=by
 obtain⟨x,hx,ne⟩:=h
 by_cases e:lo<=z/\z<lo+(m:Int)
 ·exact⟨(z-lo).toNat,by lia,by lia⟩
 ·exfalso;apply ne;unfold JQ
  congr 3
  unfold Bt;refine XQ λj hj=>?_;have:=Wl.mp hj;show x (lo+(j:Int))=if lo+(j:Int)=z then 0 else x (lo+(j:Int));rw[if_neg (by lia)]
structure LG(g:Int)(f:(Int->Int)->Int)(low:Int)(M:Nat):Prop where
 one:1<=M
 all:∀z,QX g f z->low<=z/\z<low+(M:Int)
 ends:((∀z,¬QX g f z)/\low=0/\M=1)\/(QX g f low/\QX g f (low+(M:Int)-1))
theorem Ds.toF(hg:2<=g){m:Nat}(hl:(tab.length:Int)=g^m){low:Int}(h:Ds g lo tab m low M):LG g (JQ g lo tab m) low M:=by
 refine⟨h.one,λz hz=>?_,?_⟩
 ·obtain⟨j,hj,rfl⟩:=OE hz;exact h.all j hj ((GU hg hl hj).mpr hz)
 ·rcases h.ends with⟨f,a,b⟩|⟨j0,j1,le,lt,a,b,c0,c1⟩
  ·refine .inl ⟨λz hz=>?_,a,b⟩;obtain⟨j,hj,rfl⟩:=OE hz;rw[<-GU hg hl hj,f j hj]at hz;cases hz
  ·have d0:=(GU (lo:=lo) hg hl (show j0<m by lia)).mp c0;have d1:=(GU (lo:=lo) hg hl lt).mp c1;refine .inr ⟨a▸d0,?_⟩;rw[show low+(M:Int)-1=lo+(j1:Int) by lia];exact d1
variable{low':Int}{M':Nat}
theorem LG.uniq{f:(Int->Int)->Int}{low:Int}(h:LG g f low M)(h':LG g f low' M'):low=low'/\M=M':=by
 have o:=h.one;have o':=h'.one;rcases h.ends with⟨n,a,b⟩|⟨d0,d1⟩
 ·rcases h'.ends with⟨_,a',b'⟩|⟨d0',_⟩
  ·lia
  ·exact absurd d0' (n _)
 ·rcases h'.ends with⟨n',_,_⟩|⟨d0',d1'⟩
  ·exact absurd d0 (n' _)
  ·have:=h.all _ d0';have:=h.all _ d1';have:=h'.all _ d0;have:=h'.all _ d1;lia
theorem EY(hg:2<=g){f f':(Int->Int)->Int}(h:∀x,ND g x->f x=f' x)(d:QX g f z):QX g f' z:=by obtain⟨x,hx,ne⟩:=d;refine⟨x,hx,?_⟩;rw[<-h x hx,<-h _ (VO hg hx z)];exact ne
theorem LG.congr(hg:2<=g){f f':(Int->Int)->Int}(h:∀x,ND g x->f x=f' x){low:Int}(n:LG g f low M):LG g f' low M:=by
 have h2:∀x,ND g x->f' x=f x:=λx hx=>(h x hx).symm
 refine⟨n.one,λz d=>n.all z (EY hg h2 d),?_⟩;rcases n.ends with⟨a,b,c⟩|⟨a,b⟩
 ·exact .inl ⟨λz d=>a z (EY hg h2 d),b,c⟩
 ·exact .inr ⟨EY hg h a,EY hg h b⟩
def CC(g lo:Int)(tab:List Int)(m:Nat)(lo':Int)(tab':List Int)(m':Nat):Prop:=∀x,ND g x->JQ g lo tab m x=JQ g lo' tab' m' x
theorem RM(hg:2<=g){a b:List Int}{m:Nat}(la:(a.length:Int)=g^m)(lb:(b.length:Int)=g^m)(h:∀x,ND g x->JQ g lo a m x=JQ g lo b m x):a=b:=by refine N6 hg la lb λw wl wb=>?_;subst wl;have z:=h (IF w lo) (IG hg wb lo);unfold JQ at z;rw[F7]at z;exact z
variable{lo':Int}{tab':List Int}{m':Nat}
theorem CD(hg:2<=g){m:Nat}(hl:(tab.length:Int)=g^m)(hl':(tab'.length:Int)=g^m'){low:Int}(n:Ds g lo tab m low M)(n':Ds g lo' tab' m' low' M'):
  CC g lo tab m lo' tab' m'↔low=low'/\Eg g lo tab m low M=Eg g lo' tab' m' low' M':=by
 constructor
 ·intro h;obtain⟨e1,e2⟩:=((n.toF hg hl).congr hg h).uniq (n'.toF hg hl');subst e1 e2;refine⟨rfl,RM hg (lo:=low) (BF hg ..) (BF hg ..) λx hx=>?_⟩;rw[EW hg hl n.all hx,EW hg hl' n'.all hx];exact h x hx
 ·rintro⟨rfl,e⟩ x hx;have hM:M=M':=by have a:=BF hg lo tab m low M;have b:=BF hg lo' tab' m' low M';rw[e,b]at a;exact Ch hg a.symm
  subst hM;rw[<-EW hg hl n.all hx,<-EW hg hl' n'.all hx,e]
theorem OF(hg:2<=g){low:Int}{m:Nat}(hl:(tab.length:Int)=g^m)(h1:low<=lo)(h2:lo+(m:Int)<=low+(M:Int)){x:Int->Int}(hx:ND g x):JQ g low (Eg g lo tab m low M) M x=JQ g lo tab m x:=
 EW hg hl (λj hj _=>by lia) hx
theorem BC{t u:TS}(h:∀N:St->Hp->Prop,(∀σ' H',u D σ' H'->N σ' H')->t {D with nx:=N} σ H):NG t u D σ H:=h (u D) λ_ _ z=>z
end L2
namespace L2
open PySem PySem.Spec PyProof.Rows
variable{E Q:Value->Shared->Prop}{H H':Hp}{T:String}{X:Cx}{a b:Addr}{h h':Heap}{pins:List (Addr×Obj)}{pos:Pos}{s:Shared}{t':Nat}{u:Value}{y:V}{σ:St}
theorem Mr(bs:List Bool):(List.range bs.length).all (λi=>bs.getD i false)=bs.all id:=by
 rw[XW,X6,X6];constructor
 ·intro h b hb;obtain⟨i,hi,e⟩:=List.getElem_of_mem hb;have z:=h i (Wl.mpr hi);rw[WH,WJ hi,e]at z;exact z
 ·intro h i hi;have hi':=Wl.mp hi;rw[WH,WJ hi'];exact h _ (List.getElem_mem hi')
theorem F8(hc:X.calm=true):DT X (.builtin "all") (λxs H Q=>∃(p:Addr) (bs:List Bool),xs=[.ref p]/\Ac X.K H p (bs.map V.bl)/\Q (.bl (bs.all id)) H):=by
 intro pins s σ H xs us Q I r h;obtain⟨p,bs,rfl,hq,q⟩:=h;obtain⟨u,rfl,rx⟩:=Fz r;cases rx;obtain⟨its,rits,pl,hz⟩:=I.list hq;have hlen:=rits.length;rw[WD]at hlen;have alt:p<s.heap.objs.size:=by obtain⟨o,e,_⟩:=pl.isList;exact WL e
 refine call_all_walk (wpAny_pyIter_list pl.isList ?_);have up:∀b o,s.heap.get? b=some o->(s.heap.push {cls:=.type "list_iterator",data:=.fields #[.ref p,.int 0 0]}).get? b=some o:=λb o e=>WG _ e
 refine⟨s.heap.objs.size,[s.heap.objs.size,p],[s.heap.objs.size],its.toArray.size,_,_,λi=>bs.getD i false,rfl,Walks.list (A:=X.A.in1) (I.ok.hd hc) _ p (Wj alt) its.toArray,⟨⟨_,WR _ rfl,rfl,rfl⟩,pl.isList.at λo e=>up p o e⟩,λi v Q' E' s' hv hq'=>?_,λh' tk kk=>?_⟩
 ·have hv':its[i]?=some v:=by simpa using hv
  have hi:=(WF.mp hv').1;obtain⟨u2,hu2,ru2⟩:=rits.get (x:=.bl (bs.getD i false)) (i:=i) (by rw[WO,WJ (by lia),WH,WJ (by lia)];rfl);rw[hv']at hu2;cases hu2;cases ru2;exact wpAny_truthy_bool hq'
 ·refine⟨.bl (bs.all id),H,I.kept (t':=tk) λb o e=>kk b o (λz=>?_) (up b o e),?_,q⟩
  ·rw[WE.mp z]at e;exact absurd (WL e) (Wb _)
  ·rw[Wi,<-hlen,Mr];rfl
section
variable{κ:Type}[DecidableEq κ]
def CG(kvs:List (κ×V))(k:κ):Option V:=(kvs.find? λkv=>decide (kv.1=k)).map (·.2)
def Cy(kvs:List (κ×V))(k:κ)(v:V):List (κ×V):=
 if (kvs.any λkv=>decide (kv.1=k))=true then kvs.map (λkv=>if kv.1=k then (kv.1,v) else kv) else kvs++[(k,v)]
theorem FM{p:κ×V}{r:List (κ×V)}{k:κ}(e:p.1=k):CG (p::r) k=some p.2:=by simp[CG,List.find?_cons,e]
theorem EE{p:κ×V}{r:List (κ×V)}{k:κ}(e:¬p.1=k):CG (p::r) k=CG r k:=by simp[CG,List.find?_cons,e]
theorem Gz(k:κ):∀kvs:List (κ×V),(kvs.any λkv=>decide (kv.1=k))=(CG kvs k).isSome
 |[]=>rfl
 |p::r=>by
  rw[Xy]
  by_cases e:p.1=k
  ·simp only[FM e,decide_eq_true e,Bool.true_or,Option.isSome_some]
  ·rw[EE e,decide_eq_false e,Bool.false_or];exact Gz k r
theorem EF(kvs:List (κ×V))(k:κ)(v:V):(Cy kvs k v).length<=kvs.length+1:=by
 unfold Cy;split
 ·rw[WD];lia
 ·rw[WI,Wy,YG];lia
theorem OG{kvs:List (κ×V)}{k:κ}(v:V)(h:CG kvs k=none):Cy kvs k v=kvs++[(k,v)]:=by unfold Cy;rw[Gz,h];exact if_neg (by decide)
theorem D0.isSome_eq{o:Option V}{u:Option Value}(r:D0 o u):o.isSome=u.isSome:=by
 cases o with
 |none=>cases u with
  |none=>rfl
  |some _=>exact (show False from r).elim
 |some _=>cases u with
  |none=>exact (show False from r).elim
  |some _=>rfl
theorem D0.getD{o:Option V}{u:Option Value}{d:V}{d':Value}(r:D0 o u)(rd:Ao d d'):Ao (o.getD d) (u.getD d'):=by
 cases o with
 |none=>cases u with
  |none=>exact rd
  |some _=>exact (show False from r).elim
 |some _=>cases u with
  |none=>exact (show False from r).elim
  |some _=>exact r
theorem KV.val{kvs:List (κ×V)}{vs:List (κ×Value)}(r:KV kvs vs)(k:κ):D0 (CG kvs k) (valueAt vs k):=by
 unfold KV at r
 induction r with
 |nil=>exact True.intro
 | @cons p q ps qs h t ih =>
  obtain⟨h1,h2⟩:=h
  by_cases e:p.1=k
  ·have e':q.1=k:=h1.symm.trans e;have b:valueAt (q::qs) k=some q.2:=by simp[valueAt,List.find?_cons,e']
   rw[FM e,b];exact h2
  ·have e':¬q.1=k:=λz=>e (h1.trans z)
   have b:valueAt (q::qs) k=valueAt qs k:=by simp[valueAt,List.find?_cons,e']
   rw[EE e,b];exact ih
theorem KV.any{kvs:List (κ×V)}{vs:List (κ×Value)}(r:KV kvs vs)(k:κ):(kvs.any λkv=>decide (kv.1=k))=vs.any λkv=>decide (kv.1=k):=by
 unfold KV at r
 induction r with
 |nil=>rfl
 |cons h t ih=>rw[Xy,Xy,ih,h.1]
theorem KV.repl{kvs:List (κ×V)}{vs:List (κ×Value)}(r:KV kvs vs)(k:κ)(ry:Ao y u):
  KV (kvs.map λkv=>if kv.1=k then (kv.1,y) else kv) (vs.map λkv=>if kv.1=k then (kv.1,u) else kv):=by
 unfold KV at r⊢
 induction r with
 |nil=>exact .nil
 | @cons p q ps qs h t ih =>
  rw[W0,W0];refine .cons ?_ ih;obtain⟨h1,h2⟩:=h
  by_cases e:p.1=k
  ·rw[if_pos e,if_pos (h1.symm.trans e)];exact⟨h1,ry⟩
  ·rw[if_neg e,if_neg (λz=>e (h1.trans z))];exact⟨h1,h2⟩
theorem KV.put{kvs:List (κ×V)}{vs:List (κ×Value)}(r:KV kvs vs)(k:κ)(ry:Ao y u):KV (Cy kvs k y) (stored vs k u):=by
 unfold Cy stored;rw[r.any k]
 by_cases e:(vs.any λkv=>decide (kv.1=k))=true
 ·rw[if_pos e,if_pos e];exact r.repl k ry
 ·rw[if_neg e,if_neg e];exact Paired.snoc r ⟨rfl,ry⟩
theorem KV.length{kvs:List (κ×V)}{vs:List (κ×Value)}(r:KV kvs vs):kvs.length=vs.length:=Paired.length r
end
theorem F9{P:Program}{w:World}{k:CF}(r:Ao (kV k) u):(BM P w).is k u=true:=by
 cases k with
 |inl i=>obtain⟨t,e⟩:=(show ∃t,u=Value.int i t from r);subst e;exact JR P w i t
 |inr x=>obtain⟨t,e⟩:=(show ∃t,u=Value.str x t from r);subst e;exact JS P w x t
theorem IH{P:Program}{w:World}:∀{ks:List CF} {us:List Value},Am (ks.map kV) us->ItemsAre (BM P w) ks us
 |[],_,r=>by rw[X9]at r;cases r;exact .nil
 |k::ks,_,r=>by
  rw[W0]at r;cases r with
  |cons h t=>exact .cons (F9 h) (IH t)
abbrev Lu(H:Hp):List (List CF×V)->List (List CF×Addr×Value)->Prop:=Paired λp q=>p.1=q.1/\H q.2.1=some (.tup (p.1.map kV))/\Ao p.2 q.2.2
theorem Lu.val{kvs:List (List CF×V)}{xs:List (List CF×Addr×Value)}(r:Lu H kvs xs)(k:List CF):D0 (CG kvs k) ((atKey xs k).map (·.2)):=by
 induction r with
 |nil=>exact True.intro
 | @cons p q ps qs h t ih =>
  obtain⟨h1,_,h2⟩:=h
  by_cases e:p.1=k
  ·have e':q.1=k:=h1.symm.trans e;have b:atKey (q::qs) k=some q.2:=by simp[atKey,List.find?_cons,e']
   rw[FM e,b];exact h2
  ·have e':¬q.1=k:=λz=>e (h1.trans z)
   have b:atKey (q::qs) k=atKey qs k:=by simp[atKey,List.find?_cons,e']
   rw[EE e,b];exact ih
theorem Lu.repl{kvs:List (List CF×V)}{xs:List (List CF×Addr×Value)}(r:Lu H kvs xs)(k:List CF)(ry:Ao y u):
  Lu H (kvs.map λkv=>if kv.1=k then (kv.1,y) else kv) (xs.map (putAt k u)):=by
 induction r with
 |nil=>exact .nil
 | @cons p q ps qs h t ih =>
  rw[W0,W0];refine .cons ?_ ih;obtain⟨h1,h2,h3⟩:=h;unfold putAt
  by_cases e:p.1=k
  ·rw[if_pos e,if_pos (h1.symm.trans e)];exact⟨h1,h2,ry⟩
  ·rw[if_neg e,if_neg (λz=>e (h1.trans z))];exact⟨h1,h2,h3⟩
theorem Lu.put{kvs:List (List CF×V)}{xs:List (List CF×Addr×Value)}(r:Lu H kvs xs)(k:List CF)(hb:H b=some (.tup (k.map kV)))(ry:Ao y u):
  Lu H (Cy kvs k y) (storedH xs k b u):=by
 have e:(kvs.any λkv=>decide (kv.1=k))=(atKey xs k).isSome:=by rw[Gz,(r.val k).isSome_eq,Option.isSome_map]
 unfold Cy storedH;rw[e]
 by_cases q:(atKey xs k).isSome=true
 ·rw[if_pos q,if_pos q];exact r.repl k ry
 ·rw[if_neg q,if_neg q];exact Paired.snoc r ⟨rfl,hb,ry⟩
theorem Lu.keeps{kvs:List (List CF×V)}{xs:List (List CF×Addr×Value)}(r:Lu H kvs xs)(ht:∀b ys,H b=some (.tup ys)->H' b=some (.tup ys)):Lu H' kvs xs:=
 Paired.mapP r λ_ _ z=>⟨z.1,ht _ _ z.2.1,z.2.2⟩
variable{kvs:List (CF×V)}
section
variable{P:Program}{w:World}
theorem QY{u:HO}(ok:DR P w H h)(e:Rd H a u):As P w H h a u:=e.ok ok
theorem FN(ok:DR P w H h)(e:Rd H a (.dK kvs)):kvs.length<=sizeLine/\(a==sysModules)=false/\∃vs,KV kvs vs/\h.DictOf (BM P w) a vs:=
 show As P w H h a (.dK kvs) from QY ok e
theorem QZ(ok:DR P w H h)(e:H a=some (.dK kvs)):kvs.length<=sizeLine/\(a==sysModules)=false/\∃vs,KV kvs vs/\h.DictOf (BM P w) a vs:=FN ok (.inl e)
theorem Ez{ks:List CF}(ok:DR P w H h)(e:H a=some (.tup (ks.map kV))):(tupleKind (BM P w)).is h ks a:=by obtain⟨_,its,r,o,h1,h2,n,h3⟩:=(show As P w H h a (.tup (ks.map kV)) from ok a _ e);exact⟨o,its.toArray,n,h1,h2,h3,by simpa using IH r⟩
theorem GA{kvs:List (List CF×V)}(ok:DR P w H h)(e:Rd H a (.dT kvs)):kvs.length<=sizeLine/\(a==sysModules)=false /\
  ∃xs,Lu H kvs xs/\h.DictOfH (tupleKind (BM P w)) a xs:=by
 obtain⟨z,y,xs,r,o,es,ep,h1,h2,h3,h4,h5⟩:=(show As P w H h a (.dT kvs) from QY ok e);refine⟨z,y,xs,r,o,es,ep,h1,h2,h3,h4,λx hx=>?_,h5⟩
 have all:∀{l:List (List CF×V)} {m:List (List CF×Addr×Value)},Lu H l m->∀x∈m,(tupleKind (BM P w)).is h x.1 x.2.1:=by
  intro l m q
  induction q with
  |nil=>intro x hx;exact nomatch hx
  | @cons p q ps qs hq t ih =>
   intro x hx;rcases WY.mp hx with e|hx
   ·subst e;exact Ez ok (by rw[<-hq.1];exact hq.2.1)
   ·exact ih x hx
 exact all r x hx
theorem Ta{kvs:List (List CF×V)}(ok:DR P w H h)(e:H a=some (.dT kvs)):kvs.length<=sizeLine/\(a==sysModules)=false /\
  ∃xs,Lu H kvs xs/\h.DictOfH (tupleKind (BM P w)) a xs:=GA ok (.inl e)
end
def Cz(H:Hp)(a:Addr)(y:V)(r:Option V):Prop:=
 (∃kvs k,Rd H a (.dK kvs)/\y=kV k/\r=CG kvs k)\/∃kvs k b,Rd H a (.dT kvs)/\y=.ref b/\H b=some (.tup (k.map kV))/\r=CG kvs k
def JB(H:Hp)(a:Addr)(y v:V)(H':Hp):Prop:=
 (∃kvs k,H a=some (.dK kvs)/\y=kV k/\kvs.length<sizeLine/\H'=Ad H a (.dK (Cy kvs k v))) \/
 ∃kvs k b,H a=some (.dT kvs)/\y=.ref b/\H b=some (.tup (k.map kV))/\kvs.length<sizeLine/\H'=Ad H a (.dT (Cy kvs k v))
theorem Cz.k{k:CF}(e:H a=some (.dK kvs)):Cz H a (kV k) (CG kvs k):=.inl ⟨kvs,k,.inl e,rfl,rfl⟩
theorem JB.k{k:CF}{v:V}(e:H a=some (.dK kvs))(hl:kvs.length<sizeLine):JB H a (kV k) v (Ad H a (.dK (Cy kvs k v))):=.inl ⟨kvs,k,e,rfl,hl,rfl⟩
section
variable{v:V}{r:Value}{o:Option V}{A:Around}
theorem AO.big(I:AO X pins σ H s):sysModules<s.heap.objs.size:=by have h:mainGlobals<s.heap.objs.size:=(I.mod.glob.keeps I.bk).lt;exact Nat.lt_trans (by decide) h
theorem Ms(hu:A.units+1<cLine)(I:AO X pins σ H s)(g:Cz H a y (some v))(ry:Ao y u)(h:∀w' s',AO X pins σ H s'->Ao v w'->Q w' s'):
  wpAny (model X.prog X.w) A (getItem (.ref a) u) Q E s:=by
 rcases g with⟨kvs,k,e,ey,l⟩|⟨kvs,k,b,e,ey,eb,l⟩
 ·subst ey;obtain⟨z,hd,vs,rel,dd⟩:=FN I.hok e;obtain⟨w',hw,rw'⟩:=D0.some_of (v:=v) (o:=valueAt vs k) (by rw[l];exact rel.val k);exact wpAny_getItem_of (F9 ry) dd.mapOf hw (h w' _ (I.tok _) rw')
 ·subst ey;cases (show u=Value.ref b from ry);obtain⟨z,hd,xs,rel,dd⟩:=GA I.hok e;obtain⟨w',hw,rw'⟩:=D0.some_of (v:=v) (o:=(atKey xs k).map (·.2)) (by rw[l];exact rel.val k);obtain⟨p,hp,hp2⟩:=W5.mp hw;refine wpAny_getItem_heap (tupleKind_room_in1 hu) (Ez I.hok eb) dd hp ?_;rw[hp2];exact h w' _ (I.tok _) rw'
theorem VP(hu:A.units+1<cLine)(I:AO X pins σ H s)(g:Cz H a y o)(ry:Ao y u)(h:∀s',AO X pins σ H s'->Q (.bool o.isSome) s'):
  wpAny (model X.prog X.w) A (compareOp .In u (.ref a)) Q E s:=by
 rcases g with⟨kvs,k,e,ey,l⟩|⟨kvs,k,b,e,ey,eb,l⟩
 ·subst ey;obtain⟨z,hd,vs,rel,dd⟩:=FN I.hok e;refine wpAny_in_of (F9 ry) hd dd.mapOf ?_;rw[<-(rel.val k).isSome_eq,<-l];exact h _ (I.tok _)
 ·subst ey;cases (show u=Value.ref b from ry);obtain⟨z,hd,xs,rel,dd⟩:=GA I.hok e;refine wpAny_in_heap (tupleKind_room_in1 hu) (Ez I.hok eb) hd dd ?_;have q:=(rel.val k).isSome_eq;rw[Option.isSome_map]at q;rw[<-q,<-l];exact h _ (I.tok _)
theorem Pm(hu:A.units+1<cLine)(I:AO X pins σ H s)(g:Cz H a y o)(ry:Ao y u)(h:∀s',AO X pins σ H s'->Q (.bool (!o.isSome)) s'):
  wpAny (model X.prog X.w) A (compareOp .NotIn u (.ref a)) Q E s:=by
 rcases g with⟨kvs,k,e,ey,l⟩|⟨kvs,k,b,e,ey,eb,l⟩
 ·subst ey;obtain⟨z,hd,vs,rel,dd⟩:=FN I.hok e;refine wpAny_notIn_of (F9 ry) hd dd.mapOf ?_;rw[<-(rel.val k).isSome_eq,<-l];exact h _ (I.tok _)
 ·subst ey;cases (show u=Value.ref b from ry);obtain⟨z,hd,xs,rel,dd⟩:=GA I.hok e;refine wpAny_notIn_heap (tupleKind_room_in1 hu) (Ez I.hok eb) hd dd ?_;have q:=(rel.val k).isSome_eq;rw[Option.isSome_map]at q;rw[<-q,<-l];exact h _ (I.tok _)
theorem JC{ob:HO}(I:AO X pins σ H s)(mu:Sh (H a))(hs:Heap.SameBut a s.heap h')(he:∃q,h'.get? a=some q)(new:As X.prog X.w (Ad H a ob) h' a ob):
  AO X pins σ (Ad H a ob) {s with heap:=h',toks:=t'}:=
 I.write (x:=a) (e:=a) mu (.inl rfl) (λb q hb z=>(hs.2 b hb).trans z) he new
theorem OH{P:Program}{w:World}{vs:List (CF×Value)}(z:kvs.length<=sizeLine)(hd:(a==sysModules)=false)(rel:KV kvs vs)(dd:h'.DictOf (BM P w) a vs):
  As P w H' h' a (.dK kvs):=⟨z,hd,vs,rel,dd⟩
theorem Mt{Q:Unit->Shared->Prop}(hu:A.units+1<cLine)(I:AO X pins σ H s)(g:JB H a y v H')(ry:Ao y u)(rv:Ao v r)(h:∀s',AO X pins σ H' s'->Q () s'):
  wpAny (model X.prog X.w) A (setItem (.ref a) u r) Q E s:=by
 rcases g with⟨kvs,k,e,ey,l,eH⟩|⟨kvs,k,b,e,ey,eb,l,eH⟩
 ·subst ey eH;obtain⟨z,hd,vs,rel,dd⟩:=QZ I.hok e;have hz:vs.length<=sizeLine:=by rw[<-rel.length];exact z
  have hl:(Cy kvs k v).length<=sizeLine:=by have:=EF kvs k v;lia
  refine wpAny_setItem_pairs (hsz:=hz) (F9 ry) dd λh' dd' hs=>h _ ?_
  have he:∃q,h'.get? a=some q:=let ⟨q,_,_,hq,_⟩:=dd';⟨q,hq⟩;exact JC I (by rw[e];exact True.intro) hs he (OH hl hd (rel.put k rv) dd')
 ·subst ey eH;cases (show u=Value.ref b from ry);obtain⟨z,hd,xs,rel,dd⟩:=Ta I.hok e;have hz:xs.length<=sizeLine:=by rw[<-Paired.length rel];exact z
  have hl:(Cy kvs k v).length<=sizeLine:=by have:=EF kvs k v;lia
  refine wpAny_setItem_heap (hsz:=hz) (tupleKind_room_in1 hu) (Ez I.hok eb) dd λh' dd' hs=>h _ ?_
  obtain⟨q,es,ep,hq,h2,h3,h4,_,h5⟩:=dd';refine JC I (by rw[e];exact True.intro) hs ⟨q,hq⟩ ⟨hl,hd,_,(rel.put k eb rv).keeps λc ys ec=>?_,q,es,ep,hq,h2,h3,h4,h5⟩;rw[AI (LR ec e (λz=>nomatch z))];exact ec
end
def Tb(i:Expr):Prop:=∀ov iv,subscripted i false ov iv=operate [ov,iv] (getItem ov iv)
theorem Pn{prog:Program}{w:World}{A:Around}{env:Env}{value slice:Expr}{id:String}
  (hl:typeLookup (.type T) "__getitem__"=pure (some (.builtin id))) (hs:Tb slice)
  (h:wpAny (model prog w) A (eval value env) (λo s₁=>wpAny (model prog w) A (eval slice env) (λi s₂=>s₂.TypeIs o T/\wpAny (model prog w) A (getItem o i) Q E s₂) E s₁) E s):
  wpAny (model prog w) A (eval (.Subscript value slice pos) env) Q E s:=by
 refine Subscript_ (wpAny_mono h (λo s₁ h₁=>wpAny_mono h₁ (λi s₂ h₂=>?_) λ_ _ x=>x) λ_ _ x=>x);obtain⟨hT,h₂⟩:=h₂;unfold subscriptTail;refine wpAny_bind ?_;rw[getitemInPython_of_ne hT.not_modules];refine wpAny_bind (wpAny_specialOf hT hl ?_)
 have fin:wpAny (model prog w) A (subscripted slice false o i) (λr s₃=>wpAny (model prog w) A (letTemporaryGo value o r >>= λ_=>pure r) Q E s₃) E s₂:=by rw[hs o i];exact wpAny_operating (wpAny_mono h₂ (λr s₃ h₃=>wpAny_bind (wpAny_letTemporaryGo (wpAny_pure h₃))) λ_ _ x=>x)
 first
  |exact wpAny_pure (wpAny_bind fin)
  |exact wpAny_bind (wpAny_pure (wpAny_bind fin))
  |exact wpAny_bind fin
theorem J4{o:Option V}(I:AO X pins σ H s)(g:Cz H a y o):s.TypeIs (.ref a) "dict":=by
 rcases g with⟨kvs,k,e,_,_⟩|⟨kvs,k,b,e,_,_,_⟩
 ·obtain⟨_,_,vs,_,dd⟩:=FN I.hok e;exact dd.typeIs
 ·obtain⟨_,_,xs,_,dd⟩:=GA I.hok e;exact dd.typeIs
def Tc(td ty:TE):TE:=λσ H Q=>td σ H λx H1=>ty σ H1 λy H2=>∃a v,x=.ref a/\Cz H2 a y (some v)/\Q v H2
def VQ(ty td:TE):TE:=λσ H Q=>ty σ H λy H1=>td σ H1 λx H2=>∃a o,x=.ref a/\Cz H2 a y o/\Q (.bl o.isSome) H2
def Po(ty td:TE):TE:=λσ H Q=>ty σ H λy H1=>td σ H1 λx H2=>∃a o,x=.ref a/\Cz H2 a y o/\Q (.bl (!o.isSome)) H2
def Td(td ty tv:TE):TS:=λD σ H=>tv σ H λv H1=>td σ H1 λx H2=>ty σ H2 λy H3=>∃a H4,x=.ref a/\JB H3 a y v H4/\D.nx σ H4
section
variable{o i e value:Expr}{pos' tpos:Pos}{td ty tv:TE}
theorem FO(hu:X.A.units+1<cLine)(ho:PE X o td)(hi:PE X i ty)(hs:Tb i):PE X (.Subscript o i pos) (Tc td ty):=by intro pins s σ H Q I h;refine Pn PySem.F.slot_dict_getitem.lookup hs (BJ (ho pins s σ H _ I h) λu s1 ⟨x,H1,I1,rx,q1⟩=>BJ (hi pins s1 σ H1 _ I1 q1) λiv s2 z9=>?_);obtain⟨y,H2,I2,ry,a,v,ex,g,q2⟩:=z9;subst ex;obtain rfl:u=Value.ref a:=rx;exact⟨J4 I2 g,Ms hu I2 g ry λw' s3 I3 rw'=>⟨v,H2,I3,rw',q2⟩⟩
theorem RN(hu:X.A.units+1<cLine)(hi:PE X i ty)(ho:PE X o td):PC X .In i o (VQ ty td):=by
 intro pins s σ H Q I h;refine BJ (hi pins s σ H _ I h) λiv s1 ⟨y,H1,I1,ry,q1⟩=>BJ (ho pins s1 σ H1 _ I1 q1) λu s2 z9=>?_
 obtain⟨x,H2,I2,rx,a,ov,ex,g,q2⟩:=z9;subst ex;obtain rfl:u=Value.ref a:=rx;exact VP hu I2 g ry λs3 I3=>⟨.bl ov.isSome,H2,I3,rfl,q2⟩
theorem CM(hu:X.A.units+1<cLine)(hi:PE X i ty)(ho:PE X o td):PC X .NotIn i o (Po ty td):=by
 intro pins s σ H Q I h;refine BJ (hi pins s σ H _ I h) λiv s1 ⟨y,H1,I1,ry,q1⟩=>BJ (ho pins s1 σ H1 _ I1 q1) λu s2 z9=>?_
 obtain⟨x,H2,I2,rx,a,ov,ex,g,q2⟩:=z9;subst ex;obtain rfl:u=Value.ref a:=rx;exact Pm hu I2 g ry λs3 I3=>⟨.bl (!ov.isSome),H2,I3,rfl,q2⟩
theorem FP(hu:X.A.units+1<cLine)(ho:PE X o td)(hi:PE X i ty)(hv:PE X value tv)(hs:swapsWith value (some (.Subscript o i pos')) pos.line X.env=pure false):
  PS X (.Assign [.Subscript o i pos'] value pos) (Td td ty tv):=by
 intro pins s σ H D I h;refine wpAny_Assign_Subscript (BJ (hv pins s σ H _ I h) λr s1 ⟨v,H1,I1,rv,q1⟩=>BJ (ho pins s1 σ H1 _ I1 q1) λu s2 ⟨x,H2,I2,rx,q2⟩=>BJ (hi pins s2 σ H2 _ I2 q2) λiv s3 z9=>?_) hs;obtain⟨y,H3,I3,ry,a,H4,ex,g,q3⟩:=z9;subst ex;obtain rfl:u=Value.ref a:=rx;exact Mt hu I3 g ry rv λs4 I4=>⟨σ,H4,I4,q3⟩
end
theorem OI{P:Program}{w:World}(h:Heap)(hb:sysModules<h.objs.size):As P w H (h.push {cls:=.type "dict",data:=.dict #[]}) h.objs.size (.dK []):=
 ⟨XX _,beq_eq_false_iff_ne.mpr (Ne.symm (Wj hb)),[],.nil,Heap.DictOf.new h⟩
def RO:TE:=λ_ H Q=>∀p,H p=none->Q (.ref p) (Ad H p (.dK []))
theorem Da:PE X (.Dict [] [] pos) RO:=λpins s σ H Q I h =>
 wpAny_Dict_empty ⟨.ref s.heap.objs.size,_,I.laid (a:=s.heap.objs.size) (o:=.dK []) (t':=s.toks) (λ_ _ q=>WG _ q) (WM _) (OI s.heap I.big),rfl,h _ (I.hok.fresh (WM _))⟩
structure M1(X:Cx)(o:Expr)(m:Str)(apos:Pos)(e:Expr)(cpos:Pos):Prop where
 base:attributeBase o m X.env (eval o X.env)=eval o X.env
 few:((backTo cpos (starEach [e] X.env)).all (λx=>!x.1)&&(backToKw cpos (keywordEach [] X.env)).all (λx=>x.1.isSome)
  && decide (([e]:List Expr).length+([]:List Keyword).length+(if ([]:List Keyword).isEmpty then 0 else 1)<30))=true
 line:(apos.endLine==cpos.line)=true
 trees:backTo cpos (starEach [e] X.env)=[(false,eval e X.env)]
structure M2(X:Cx)(o:Expr)(m:Str)(apos:Pos)(e f:Expr)(cpos:Pos):Prop where
 base:attributeBase o m X.env (eval o X.env)=eval o X.env
 few:((backTo cpos (starEach [e,f] X.env)).all (λx=>!x.1)&&(backToKw cpos (keywordEach [] X.env)).all (λx=>x.1.isSome)
  && decide (([e,f]:List Expr).length+([]:List Keyword).length+(if ([]:List Keyword).isEmpty then 0 else 1)<30))=true
 line:(apos.endLine==cpos.line)=true
 trees:backTo cpos (starEach [e,f] X.env)=[(false,eval e X.env),(false,eval f X.env)]
def VR(H:Hp)(a:Addr):Prop:=(∃kvs,Rd H a (.dK kvs))\/∃kvs,Rd H a (.dT kvs)
theorem OJ(I:AO X pins σ H s)(d:VR H a):
  s.TypeIs (.ref a) "dict"/\(∀b,Value.ref a=.ref b->∃ob,s.heap.get? b=some ob/\ob.dict=none)/\(a==sysModules)=false:=by
 rcases d with⟨kvs,e⟩|⟨kvs,e⟩
 ·obtain⟨_,hd,vs,_,dd⟩:=FN I.hok e;refine⟨dd.typeIs,λb q=>?_,hd⟩;cases q;obtain⟨ob,_,_,h1,h2,_⟩:=dd;exact⟨ob,h1,h2.2.1⟩
 ·obtain⟨_,hd,xs,_,dd⟩:=GA I.hok e;refine⟨dd.typeIs,λb q=>?_,hd⟩;cases q;obtain⟨ob,_,_,h1,h2,_⟩:=dd;exact⟨ob,h1,h2.2.1⟩
section
variable{d:V}{r:Value}{o:Option V}{A:Around}
theorem RP(hu:A.units+1<cLine)(I:AO X pins σ H s)(g:Cz H a y o)(ry:Ao y u)(h:∀w' s',AO X pins σ H s'->Ao (o.getD .non) w'->Q w' s'):
  wpAny (model X.prog X.w) A (call (.builtin "dict.get") [.ref a,u]) Q E s:=by
 rcases g with⟨kvs,k,e,ey,l⟩|⟨kvs,k,b,e,ey,eb,l⟩
 ·subst ey;obtain⟨z,hd,vs,rel,dd⟩:=FN I.hok e;refine call_meetsIn XS dd.typeIs Xp (PySem.F.args_dict_get_2 _ _) (meets_dict_get (BM X.prog X.w) a (F9 ry) hd) ⟨_,dd.mapOf,h _ _ (I.tok _) ?_⟩;rw[l];exact (rel.val k).getD rfl
 ·subst ey;cases (show u=Value.ref b from ry);obtain⟨z,hd,xs,rel,dd⟩:=GA I.hok e;refine call_meetsIn XS dd.typeIs Xp (PySem.F.args_dict_get_2 _ _) (meetsH_dict_get (tupleKind (BM X.prog X.w)) a b hd) ⟨tupleKind_room_in1 hu,k,xs,Ez I.hok eb,dd,h _ _ (I.tok _) ?_⟩;rw[l];exact (rel.val k).getD rfl
theorem RQ(hu:A.units+1<cLine)(I:AO X pins σ H s)(g:Cz H a y o)(ry:Ao y u)(rd:Ao d r)(h:∀w' s',AO X pins σ H s'->Ao (o.getD d) w'->Q w' s'):
  wpAny (model X.prog X.w) A (call (.builtin "dict.get") [.ref a,u,r]) Q E s:=by
 rcases g with⟨kvs,k,e,ey,l⟩|⟨kvs,k,b,e,ey,eb,l⟩
 ·subst ey;obtain⟨z,hd,vs,rel,dd⟩:=FN I.hok e;refine call_meetsIn XS dd.typeIs Xp (PySem.F.args_dict_get_3 _ _ _) (meets_dict_get_default (BM X.prog X.w) a (F9 ry) hd r) ⟨_,dd.mapOf,h _ _ (I.tok _) ?_⟩;rw[l];exact (rel.val k).getD rd
 ·subst ey;cases (show u=Value.ref b from ry);obtain⟨z,hd,xs,rel,dd⟩:=GA I.hok e;refine call_meetsIn XS dd.typeIs Xp (PySem.F.args_dict_get_3 _ _ _) (meetsH_dict_get_default (tupleKind (BM X.prog X.w)) a b hd r) ⟨tupleKind_room_in1 hu,k,xs,Ez I.hok eb,dd,h _ _ (I.tok _) ?_⟩;rw[l];exact (rel.val k).getD rd
end
def RS(td ty:TE):TE:=λσ H Q=>td σ H λx H1=>∃a,x=.ref a/\VR H1 a/\ty σ H1 λy H2=>∃o,Cz H2 a y o/\Q (o.getD .non) H2
def RT(td ty tx:TE):TE:=λσ H Q=>td σ H λx H1=>∃a,x=.ref a/\VR H1 a/\ty σ H1 λy H2=>tx σ H2 λz H3=>∃o,Cz H3 a y o/\Q (o.getD z) H3
section
variable{o e f:Expr}{apos cpos:Pos}{td ty tx:TE}
theorem OK(hu:X.A.units+1<cLine)(ho:PE X o td)(he:PE X e ty)(m:M1 X o "get" apos e cpos):PE X (.Call (.Attribute o "get" apos) [e] [] cpos) (RS td ty):=by intro pins s σ H Q I h;refine wpAny_Call_method m.base m.few m.line Xk XS PySem.F.type_dict_get (BJ (ho pins s σ H _ I h) λu s1 z9=>?_);obtain⟨x,H1,I1,rx,a,ex,d,q1⟩:=z9;subst ex;obtain rfl:u=Value.ref a:=rx;obtain⟨t1,t2,_⟩:=OJ I1 d;refine⟨t1,t2,?_⟩;rw[m.trees];refine Calls.callWith_builtin rfl (Calls.evalArgs_plain (Calls.spliced_cons (BJ (he pins s1 σ H1 _ I1 q1) λiv s2 ⟨y,H2,I2,ry,ov,g,q2⟩=>Calls.spliced_nil ?_)));exact RP hu I2 g ry λw' s3 I3 rw'=>⟨_,H2,I3,rw',q2⟩
theorem OL(hu:X.A.units+1<cLine)(ho:PE X o td)(he:PE X e ty)(hf:PE X f tx)(m:M2 X o "get" apos e f cpos):PE X (.Call (.Attribute o "get" apos) [e,f] [] cpos) (RT td ty tx):=by
 intro pins s σ H Q I h;refine wpAny_Call_method m.base m.few m.line Xk XS PySem.F.type_dict_get (BJ (ho pins s σ H _ I h) λu s1 z9=>?_);obtain⟨x,H1,I1,rx,a,ex,d,q1⟩:=z9;subst ex;obtain rfl:u=Value.ref a:=rx;obtain⟨t1,t2,_⟩:=OJ I1 d;refine⟨t1,t2,?_⟩;rw[m.trees]
 refine Calls.callWith_builtin rfl (Calls.evalArgs_plain (Calls.spliced_cons (BJ (he pins s1 σ H1 _ I1 q1) λiv s2 ⟨y,H2,I2,ry,q2⟩ =>
  Calls.spliced_cons (BJ (hf pins s2 σ H2 _ I2 q2) λfv s3 ⟨z,H3,I3,rz,ov,g,q3⟩=>Calls.spliced_nil ?_))))
 exact RQ hu I3 g ry rz λw' s4 I4 rw'=>⟨_,H3,I4,rw',q3⟩
end
end L2
namespace PySem
end PySem
namespace L2
open PySem PySem.Spec PyProof.Rows
variable{X:Cx}{es:List Expr}{f:Addr}{fd:FuncData}{i:Nat}{pos:Pos}{ps:List Str}{qual x:Str}{scope:Scope}{sp:Sp}{te:TE}{tt:TT}
section
variable{p:List Value->Prop}
theorem b0(h:p []):∀us:List Value,us.length=0->p us:=λus e=>by cases us with
 |nil=>exact h
 |cons a r=>cases e
theorem b1(h:∀a,p [a]):∀us:List Value,us.length=1->p us:=λus e=>by cases us with
 |nil=>cases e
 |cons a r=>exact b0 (p:=λl=>p (a::l)) (h a) r (Nat.succ.inj e)
theorem b2(h:∀a b,p [a,b]):∀us:List Value,us.length=2->p us:=λus e=>by cases us with
 |nil=>cases e
 |cons a r=>exact b1 (p:=λl=>p (a::l)) (h a) r (Nat.succ.inj e)
theorem b3(h:∀a b c,p [a,b,c]):∀us:List Value,us.length=3->p us:=λus e=>by cases us with
 |nil=>cases e
 |cons a r=>exact b2 (p:=λl=>p (a::l)) (h a) r (Nat.succ.inj e)
theorem b4(h:∀a b c d,p [a,b,c,d]):∀us:List Value,us.length=4->p us:=λus e=>by cases us with
 |nil=>cases e
 |cons a r=>exact b3 (p:=λl=>p (a::l)) (h a) r (Nat.succ.inj e)
end
def V6(N P:List Str)(sc:Scope):Bool:=decide (sc.kind=.function)&&!sc.isCoroutine&&!sc.isGenerator&&decide N.Nodup&&decide (N.take P.length=P) &&
 P.all (λx=>decide (sc.names.lookup x=some .local\/sc.names.lookup x=some .cell))&&sc.names.all λy=>decide (y.2≠.free)
theorem B0{N P:List Str}{sc:Scope}(h:V6 N P sc=true):AK N P sc:=by unfold V6 at h;simp only[Bool.and_eq_true,decide_eq_true_eq,Bool.not_eq_true',List.all_eq_true]at h;obtain⟨⟨⟨⟨⟨⟨a,b⟩,c⟩,d⟩,e⟩,f⟩,g⟩:=h;exact⟨a,b,c,d,e,f,g⟩
section
variable{P:Program}{w:World}{K:PySem.W.Frag}{mg:Str->Option Value}{base:Heap}{st:Stmt}{N:List Str}{k:Nat}
theorem BY.okY(F:BY K x qual st f fd)(S:AK N ps (AH st)) (h:∀vs H Q E,sp vs H Q E->vs.length=ps.length /\
  ∀(cdv:Value) (A:Around) (outer:List Env) (s:Shared),BU k (A.deeper (envOfC qual (AH st) s.heap.objs.size f cdv)) ->
   ∃t,Fy (DI (GH P w) P w K mg base N qual (AH st) f cdv A outer s H E).nox (BW st) t/\t {nx:=λ_ H'=>Q .non H',rt:=Q} (CV N vs) H):Di P w K mg base (GH P w) (k+1) f fd ps sp:=
 F.ok0 S (λvs H Q E q=>(h vs H Q E q).1) λcdv A outer s H vs Q E hr q=>(h vs H Q E q).2 cdv A outer s hr
theorem Aw(D:∃fd,BY K x qual st f fd)(S:AK N ps (AH st))(bd:DW x qual st ps) (h:∀vs H Q E,sp vs H Q E->vs.length=ps.length /\
  ∀(cdv:Value) (A:Around) (outer:List Env) (s:Shared),BU k (A.deeper (envOfC qual (AH st) s.heap.objs.size f cdv)) ->
   ∃t,Fy (DI (GH P w) P w K mg base N qual (AH st) f cdv A outer s H E).nox (BW st) t/\t {nx:=λ_ H'=>Q .non H',rt:=Q} (CV N vs) H):Ag P w K mg base (k+1) f ps sp:=
 PV D S bd (λvs H Q E q=>(h vs H Q E q).1) λcdv A outer s H vs Q E hr q=>(h vs H Q E q).2 cdv A outer s hr
theorem C0(D:∃fd,BY K x qual st f fd)(S:AK N ps (AH st))(bd:DW x qual st ps) (h:∀vs H Q E,sp vs H Q E->vs.length=ps.length /\
  ∀(cdv:Value) (A:Around) (outer:List Env) (s:Shared),BU k (A.deeper (envOfC qual (AH st) s.heap.objs.size f cdv)) ->
   ∃t,Fy (DI (GH P w) P w K mg base N qual (AH st) f cdv A outer s H E) (BW st) t/\t {nx:=λ_ H'=>Q .non H',rt:=Q} (CV N vs) H):Ag P w K mg base (k+1) f ps sp:=
 PX D S bd (λvs H Q E q=>(h vs H Q E q).1) λcdv A outer s H vs Q E hr q=>(h vs H Q E q).2 cdv A outer s hr
end
section
variable{e elt iter:Expr}{t:TA}{pos' p px:Pos}{N:List Str}{sc:Scope}{k k':Nat}{cl:List (Str×Addr)}{fv:List (Nat×Str)}{ifs:List Expr}{wi:TI}
theorem AT(hr:BU k' X.A)(G:Ag X.prog X.w X.K X.mg X.base k f ps sp)(hm:X.mg x=some (.ref f))(ha:PA X (e::es) t)(hk:k<=k':=by decide)(hg:Gl X x:=by rfl)
  (hdb:(x==("__debug__":Str))=false:=by decide) (he:starEach (e::es) X.env=(false,eval e X.env)::starEach es X.env:=by rfl) (hpl:(backTo pos (starEach es X.env)).any (·.1)=false:=by rfl):
  PE X (.Call (.Name x p) (e::es) [] pos) (Gg sp [] (λ_=>E0) t):=BG G (hr.mono hk) hg hm Dx ha hdb he hpl
theorem AR(i:Nat)(S:AK X.N ps sc)(he:PE X e te)(hi:X.N[i]?=some x:=by rfl)(hx:P4 X.env.scope x:=by first|exact Or.inl rfl|exact Or.inr rfl)(hs:swapsWith e (some (.Name x pos')) pos.line X.env=pure false:=by rfl)
  (hf:X.fn x=true\/X.env.scope.names.lookup x=some .local:=by first|exact .inl rfl|exact .inr rfl|assumption):PS X (.Assign [.Name x pos'] e pos) (Kc te (Cd i)):=IW S.nd hi hx he hs hf
theorem BK(i:Nat)(S:AK X.N ps sc)(hi:X.N[i]?=some x:=by rfl)(hx:P4 X.env.scope x:=by first|exact Or.inl rfl|exact Or.inr rfl)
  (hf:X.fn x=true\/X.env.scope.names.lookup x=some .local:=by first|exact .inl rfl|exact .inr rfl|assumption):PG X (.Name x pos) (Cd i):=LU S.nd hi hx hf
theorem Db(fv:List (Nat×Str))(cl:List (Str×Addr))(hi:PI X (.Name x px) iter wi)(hf:∀s H C fp,PF (He X s H (compEnvC scope cl C X.env) fp (x::fv.map (·.2))) ifs tt)(he:∀s H C fp,PE (He X s H (compEnvC scope cl C X.env) fp (x::fv.map (·.2))) elt te)
  (hclos:closureFor scope X.env=pure cl:=by with_unfolding_all rfl) (hcell:∀y∈scope.names,y.2≠.cell:=by decide +kernel) (hk:scope.kind=.function:=by rfl) (hnames:∀z∈scope.names,z.2=.local->scope.names.lookup z.1=some .local:=by decide +kernel)
  (hx:scope.names.lookup x=some .local:=by rfl) (hcl:Io X.env cl:=by repeat' first|exact trivial|with_unfolding_all rfl|constructor) (hhas:((relabel scope X.env).names.all λz=>!(z.2==.cell||z.2==.free)||(cl.lookup z.1).isSome)=true:=by with_unfolding_all rfl)
  (hfv:Jo X scope cl fv:=by repeat' first|exact trivial|with_unfolding_all rfl|constructor) (hnd:(x::fv.map (·.2)).Nodup:=by decide) (hc:X.calm=true:=by rfl) (hs:∀x,foldedSetIterable iter X.env x=pure x:=by intro _;rfl):
  PE X (.ListComp elt [⟨.Name x px,iter,ifs,0⟩] scope pos) (Nt wi fv tt te):=Pg hc hi hclos hcell hk hnames hx hcl hhas hfv hnd hf he hs
end
end L2
namespace PySem
open Sem (wp)
end PySem
namespace L2
open PySem PySem.Spec PyProof.Rows RW
variable{G M M' m':Nat}{g lo lo' low':Int}{tab tab':List Int}
theorem Mu(x:Int->Int)(lo:Int)(m:Nat):Bt x lo (m+1)=x lo::Bt x (lo+1) m:=by
 unfold Bt;rw[List.range_succ_eq_map,W0,List.map_map]
 congr 1
 ·congr 1;show lo+((0:Nat):Int)=lo;lia
 ·refine XQ λj _=>?_;show x (lo+((j+1:Nat):Int))=x (lo+1+(j:Int))
  congr 1;lia
theorem Mv(x:Int->Int)(lo:Int)(m:Nat):Bt x lo (m+1)=Bt x lo m++[x (lo+(m:Int))]:=by unfold Bt;rw[W7,WN];rfl
theorem Te(g:Int)(m:Nat):g^(m+1)=g^m*g:=Wg ..
theorem Dt(hg:2<=g){m h:Nat}(hl:(tab.length:Int)=g^(m+1))(hh:(h:Int)=g^m):A4 g tab (g^m)=false↔∀k,k<tab.length->tab.getD k 0=tab.getD (k%h) 0:=by
 have key:∀k:Nat,k<tab.length->((k:Int)-(k:Int)/g^m%g*g^m).toNat=k%h:=λk hk=>by
  have gp:=RW.Ap hg m;rw[<-hh];have k1:(k:Int)<(h:Int)*g:=by rw[hh,<-Te];lia
  have d1:(k:Int)/(h:Int)<g:=Int.ediv_lt_of_lt_mul (by lia) (by rw[XJ];exact k1);have d0:0<=(k:Int)/(h:Int):=Xw (by lia) (by lia);rw[XV d0 d1];have e:=Int.emod_def (k:Int) (h:Int);rw[XJ ((k:Int)/(h:Int)) (h:Int),<-e];lia
 constructor
 ·intro hc k hk;have:=Eu hc hk;rw[key k hk]at this;exact this
 ·intro ha;cases z:A4 g tab (g^m) with
  |false=>rfl
  |true =>
   obtain⟨k,hk,ne⟩:=DZ.mp z;rw[key k hk]at ne;exact absurd (ha k hk) ne
theorem EZ(hG:(G:Int)=g):A4 g tab 1=false↔∀k,k<tab.length->tab.getD k 0=tab.getD (k-k%G) 0:=by
 have key:∀k:Nat,((k:Int)-(k:Int)/1%g*1).toNat=k-k%G:=λk=>by rw[<-hG,Int.ediv_one,Int.mul_one];have:k%G<=k:=Nat.mod_le ..;lia
 constructor
 ·intro hc k hk;have:=Eu hc hk;rw[key k]at this;exact this
 ·intro ha;cases z:A4 g tab 1 with
  |false=>rfl
  |true =>
   obtain⟨k,hk,ne⟩:=DZ.mp z;rw[key k]at ne;exact absurd (ha k hk) ne
theorem II{l:List Int}{n k:Nat}(h:k<n):(l.take n).getD k 0=l.getD k 0:=by rw[WH,List.getElem?_take,if_pos h,WH]
theorem Mw(hg:2<=g)(lo:Int){m h:Nat}(hl:(tab.length:Int)=g^(m+1))(hh:(h:Int)=g^m)(ha:∀k,k<tab.length->tab.getD k 0=tab.getD (k%h) 0):CC g (lo+1) (tab.take h) m lo tab (m+1):=by
 intro x hx;unfold JQ;have b:=Dn hg (DD hx (lo+1) m);have b2:=Dn hg (DD hx lo (m+1));rw[Bq]at b b2;rw[ha (Bn g (Bt x lo (m+1))).toNat (by lia),II (by lia)]
 congr 1
 have e:Bn g (Bt x lo (m+1))=x lo*(h:Int)+Bn g (Bt x (lo+1) m):=by rw[Mu,show x lo::Bt x (lo+1) m=[x lo]++Bt x (lo+1) m from rfl,Go,Lq,Bq,hh]
 have m1:Bn g (Bt x lo (m+1))%(h:Int)=Bn g (Bt x (lo+1) m):=by rw[e,Int.add_comm,XJ,XY,XV b.1 (by lia)]
 have m2:(((Bn g (Bt x lo (m+1))).toNat%h:Nat):Int)=Bn g (Bt x lo (m+1))%(h:Int):=by rw[Xa,XF b2.1]
 lia
theorem OM(hg:2<=g)(lo:Int){m h:Nat}(hl:(tab.length:Int)=g^(m+1))(hh:(h:Int)=g^m)(hG:(G:Int)=g)(ha:∀k,k<tab.length->tab.getD k 0=tab.getD (k-k%G) 0):CC g lo ((List.range h).map λi=>tab.getD (i*G) 0) m lo tab (m+1):=by
 intro x hx;unfold JQ;have b:=Dn hg (DD hx lo m);have b2:=Dn hg (DD hx lo (m+1));rw[Bq]at b b2;have hxz:=hx (lo+(m:Int));rw[ha (Bn g (Bt x lo (m+1))).toNat (by lia),AY (by lia)]
 congr 1
 have e:Bn g (Bt x lo (m+1))=Bn g (Bt x lo m)*g+x (lo+(m:Int)):=by rw[Mv,FF]
 generalize Bn g (Bt x lo m)=n at *;generalize Bn g (Bt x lo (m+1))=n2 at *;generalize x (lo+(m:Int))=y at *;obtain⟨n',rfl⟩:∃n':Nat,n=(n':Int):=⟨n.toNat,by lia⟩;obtain⟨y',rfl⟩:∃y':Nat,y=(y':Int):=⟨y.toNat,by lia⟩;have e2:n2=((n'*G+y':Nat):Int):=by rw[e,<-hG];simp
 rw[e2,WS,WS];have:(n'*G+y')%G=y':=by rw[XI,Nat.mul_add_mod,Xb (by lia)]
 lia
theorem J7{m:Nat}(hm:1<=m)(c0:A4 g tab (g^(m-1))=true)(c1:A4 g tab 1=true):Ds g lo tab m lo m:=
 ⟨hm,λj hj _=>by lia,.inr ⟨0,m-1,by lia,by lia,by lia,by lia,by rw[YR];exact c0,by rw[W4,Wn];exact c1⟩⟩
theorem ON(c:A4 g tab 1=false):Ds g lo tab 1 0 1:=
 have f:∀j,j<1->A4 g tab (g^(1-1-j))=false:=λj hj=>by
  have:j=0:=by lia
  subst this;rw[YR,W4,Wn];exact c
 ⟨WM _,λj hj hc=>absurd hc (by rw[f j hj];decide),.inl ⟨f,rfl,rfl⟩⟩
theorem OO(hg:2<=g){m:Nat}(hl:(tab.length:Int)=g^m)(hl':(tab'.length:Int)=g^m')(al:CC g lo' tab' m' lo tab m)(n':Ds g lo' tab' m' lo' m'){low:Int}(n:Ds g lo tab m low M):low=lo'/\M=m'/\Eg g lo tab m low M=tab':=by obtain⟨e1,e2⟩:=(CD hg hl' hl n' n).mp al;rw[N7 hg lo' hl']at e2;refine⟨e1.symm,?_,e2.symm⟩;have a:=BF hg lo tab m low M;rw[<-e2,hl']at a;exact (Ch hg a).symm
theorem Pp(hg:2<=g){m:Nat}(hl:(tab.length:Int)=g^m)(hl':(tab'.length:Int)=g^1)(al:CC g lo' tab' 1 lo tab m)(c:A4 g tab' 1=false){low:Int}(n:Ds g lo tab m low M):low=0/\M=1/\Eg g lo tab m low M=tab':=by
 obtain⟨e1,e2⟩:=(CD hg hl' hl (ON c) n).mp al;have a:=BF hg lo tab m low M;rw[<-e2,BF hg]at a;have hM:=(Ch hg a).symm;subst hM;refine⟨e1.symm,rfl,?_⟩;rw[<-e2]
 have f:∀j,j<1->A4 g tab' (g^(1-1-j))=false:=λj hj=>by
  have:j=0:=by lia
  subst this;rw[YR,W4,Wn];exact c
 have g1:g^1=g:=by rw[Wg,Wn,XT]
 refine Az (by have:=BF hg lo' tab' 1 0 1;lia) λk hk=>?_;have lk:(k:Int)<g^1:=by have:=BF hg lo' tab' 1 0 1;lia
 rw[N8 hg hl' f];obtain⟨G,hG⟩:∃G:Nat,(G:Int)=g:=⟨g.toNat,by lia⟩;have z:=(EZ hG).mp c k (by lia);rw[Xb (by lia),W4]at z;rw[z,WH,Xj,if_pos (by lia)];rfl
theorem Lv(ns:List Int):∀(q i:Nat),i<q*ns.length->((List.replicate q ns).flatten).getD i 0=ns.getD (i%ns.length) 0
 |0,i,h=>by lia
 |q+1,i,h=>by
  rw[Nat.succ_mul]at h;rw[XD,Xh]
  by_cases c:i<ns.length
  ·rw[Xb c,WH,WH,Wx c]
  ·rw[WH,Wc (by lia),<-WH,Lv ns q (i-ns.length) (by lia),<-Nat.mod_eq_sub_mod (by lia)]
theorem Pq(q:Nat)(ns:List Int):((List.replicate q ns).flatten).length=q*ns.length:=by rw[List.length_flatten,List.map_replicate,List.sum_replicate_nat]
theorem IJ{h:Nat}(hl:tab.length=h*G)(G1:1<=G):tab=(List.replicate G (tab.take h)).flatten↔∀k,k<tab.length->tab.getD k 0=tab.getD (k%h) 0:=by
 have hG:h<=h*G:=Nat.le_mul_of_pos_right h G1;have tl:(tab.take h).length=h:=by rw[Wp];lia
 have key:∀k,k<tab.length->((List.replicate G (tab.take h)).flatten).getD k 0=tab.getD (k%h) 0:=λk hk=>by
  rw[Lv _ _ _ (by rw[tl,XI];lia),tl];refine II (YA _ ?_);rcases Nat.eq_zero_or_pos h with z|z
  ·rw[z,Nat.zero_mul]at hl;lia
  ·exact z
 constructor
 ·intro e k hk;rw[<-key k hk,<-e]
 ·intro a;refine Az (by rw[Pq,tl,XI];exact hl) λk hk=>?_;rw[key k hk];exact a k hk
theorem G0:tab=(List.range tab.length).map (λk=>tab.getD (k-k%G) 0)↔∀k,k<tab.length->tab.getD k 0=tab.getD (k-k%G) 0:=by
 constructor
 ·intro e k hk;have:tab.getD k 0=((List.range tab.length).map (λk=>tab.getD (k-k%G) 0)).getD k 0:=congrArg (λl=>l.getD k 0) e;rw[this,AY hk]
 ·intro a;refine Az (by rw[WD,WV]) λk hk=>?_;rw[AY hk];exact a k hk
theorem J8{h:Nat}(G1:1<=G)(hl:tab.length=h*G*G)(hu:∀k,k<tab.length->tab.getD k 0=tab.getD (k-k%G) 0)
  (hc:∀i,i<h*G->((List.range (h*G)).map λi=>tab.getD (i*G) 0).getD i 0=((List.range (h*G)).map λi=>tab.getD (i*G) 0).getD (i%h) 0):∀k,k<tab.length->tab.getD k 0=tab.getD (k%(h*G)) 0:=by
 intro k hk;have kl:k/G<h*G:=Xf (by rw[XI];lia)
 have h1:1<=h:=by
  rcases Nat.eq_zero_or_pos h with z|z
  ·rw[z,Nat.zero_mul]at kl;exact absurd kl (YY _)
  ·exact z
 have hb:k/G%h<h:=YA _ h1;have hh:h<=h*G:=Nat.le_mul_of_pos_right h G1;have a:=hc (k/G) kl;rw[AY kl,AY (by lia)]at a;have e1:k-k%G=k/G*G:=by have:=Nat.div_add_mod k G;rw[XI]at this;lia
 have e2:k%(h*G)=k%G+G*(k/G%h):=by rw[XI h G,Nat.mod_mul]
 have e3:k%(h*G)%G=k%G:=Nat.mod_mul_left_mod ..;have e4:k%(h*G)-k%(h*G)%G=k/G%h*G:=by rw[e3,e2,XI G];lia
 rw[hu k hk,e1,a,hu (k%(h*G)) (YF (Nat.mod_le ..) hk),e4]
def Aq(g lo:Int)(tab:List Int)(m:Nat)(lf:Int)(tf:List Int)(mf:Nat):Prop:=∃(low:Int) (M:Nat),Ds g lo tab m low M/\lf=low/\((M=1/\mf=2/\tf=Eg g low (Eg g lo tab m low 1) 1 low 2)\/(2<=M/\mf=M/\tf=Eg g lo tab m low M))
theorem J9(hg:2<=g){m:Nat}(hl:(tab.length:Int)=g^m){low:Int}(n:Ds g lo tab m low M)(n':Ds g lo tab m low' M'):low=low'/\M=M':=by
 obtain⟨e1,e2⟩:=(CD hg hl hl n n').mp λ_ _=>rfl
 refine⟨e1,?_⟩;have a:=BF hg lo tab m low M;rw[e2,BF hg]at a;exact (Ch hg a).symm
theorem Fo(g lo:Int)(tab:List Int)(m:Nat):∃low M,Ds g lo tab m low M:=by
 by_cases hc:Bd g lo tab m=[]
 ·exact⟨0,1,J2 hc⟩
 ·obtain⟨M,_,_,hW⟩:=IE hc;exact⟨_,M,hW⟩
theorem G2(hg:2<=g){m:Nat}(hl:(tab.length:Int)=g^m)(hl':(tab'.length:Int)=g^m')(al:CC g lo' tab' m' lo tab m)(h2:2<=m')(c0:A4 g tab' (g^(m'-1))=true)(c1:A4 g tab' 1=true):Aq g lo tab m lo' tab' m':=by obtain⟨low,M,n⟩:=Fo g lo tab m;obtain⟨rfl,rfl,e⟩:=OO hg hl hl' al (J7 (by lia) c0 c1) n;exact⟨_,_,n,rfl,.inr ⟨h2,rfl,e.symm⟩⟩
theorem Mx(hg:2<=g){m:Nat}(hl:(tab.length:Int)=g^m)(hl':(tab'.length:Int)=g^1)(al:CC g lo' tab' 1 lo tab m)(c1:A4 g tab' 1=true):Aq g lo tab m lo' (Eg g lo' tab' 1 lo' 2) 2:=by obtain⟨low,M,n⟩:=Fo g lo tab m;obtain⟨rfl,rfl,e⟩:=OO hg hl hl' al (J7 (WM _) (by rw[W4,Wn];exact c1) c1) n;exact⟨_,_,n,rfl,.inl ⟨rfl,rfl,by rw[e]⟩⟩
theorem LH(hg:2<=g){m:Nat}(hl:(tab.length:Int)=g^m)(hl':(tab'.length:Int)=g^1)(al:CC g lo' tab' 1 lo tab m)(c1:A4 g tab' 1=false):Aq g lo tab m 0 (Eg g 0 tab' 1 0 2) 2:=by obtain⟨low,M,n⟩:=Fo g lo tab m;obtain⟨rfl,rfl,e⟩:=Pp hg hl hl' al c1 n;exact⟨_,_,n,rfl,.inl ⟨rfl,rfl,by rw[e]⟩⟩
theorem RU(hg:2<=g)(hG:(G:Int)=g)(x:Int)(T:List Int):Eg g x T 1 x 2=(List.range (G*G)).map λk=>T.getD (k/G) 0:=by
 have g22:g^2=((G*G:Nat):Int):=by rw[show (2:Nat)=0+1+1 from rfl,Wg,Wg,Wn,XT,<-hG,Xx]
 have hL:=BF hg x T 1 x 2;refine Az (by rw[WD,WV];lia) λk hk=>?_;have hk2:k<G*G:=by lia
 rw[AY hk2];unfold Eg;rw[AY (by lia)]
 congr 1
 have e:K2 (Ce g (k:Int) 2) (x-x) 1=[((k/G:Nat):Int)]:=by obtain⟨a,b,hw,ha,hb⟩:∃a b:Int,Ce g (k:Int) 2=[a,b]/\a=(k:Int)/g%g/\b=(k:Int)%g:=⟨_,_,rfl,rfl,rfl⟩;rw[hw];show[sn [a,b] (x-x+((0:Nat):Int))]=_;rw[show x-x+((0:Nat):Int)=0 by lia];show[a]=_;rw[ha,<-hG,<-XC,<-Xa,Xb (Xf hk2)]
 rw[e,Lq,WS]
variable{lf:Int}{tf:List Int}{mf:Nat}
theorem Aq.two{m:Nat}(h:Aq g lo tab m lf tf mf):2<=mf:=by
 obtain⟨low,M,_,_,z|z⟩:=h
 ·lia
 ·lia
inductive Ea(CT:Addr)(vs:List V)(H:Hp)(Q:VK)(E:XK):Prop
 |m (r:Addr) (g lo:Int) (tab:List Int) (m:Nat) (lf:Int) (tf:List Int) (mf:Nat):vs=[.ref r]->Al H r g lo tab m->Aq g lo tab m lf tf mf->(g^(mf-1)<=9->∀r' H',AF H H'->Al H' r' g lf tf mf->Q (.ref r') H')->(9<g^(mf-1)->∀H',AF H H'->E (.ref CT) none H')->Ea CT vs H Q E
inductive JD(CT:Addr)(vs:List V)(H:Hp)(Q:VK)(E:XK):Prop
 |m (r:Addr) (g lo:Int) (tab:List Int) (m:Nat) (lf:Int) (tf:List Int) (mf:Nat):vs=[.ref r]->Al H r g lo tab m->Aq g lo tab m lf tf mf->(g^(mf-1)<=9->∀H',AF H H'->Q (.int (g^(mf-1))) H')->(9<g^(mf-1)->∀H',AF H H'->E (.ref CT) none H')->JD CT vs H Q E
inductive FQ(CT:Addr)(vs:List V)(H:Hp)(Q:VK)(E:XK):Prop
 |m (r:Addr) (g lo:Int) (tab:List Int) (m:Nat) (lf:Int) (tf:List Int) (mf:Nat):vs=[.ref r]->Al H r g lo tab m->Aq g lo tab m lf tf mf->(g^(mf-1)<=9->∀H',AF H H'->Q (.int (2^(g^(mf-1)).toNat-1)) H')->(9<g^(mf-1)->∀H',AF H H'->E (.ref CT) none H')->FQ CT vs H Q E
structure Ei(g lo:Int)(tab:List Int)(m:Nat)(lo':Int)(tab':List Int)(m':Nat):Prop where
 m1:1<=m'
 le:m'<=m
 len:(tab'.length:Int)=g^m'
 tb:∀n∈tab',0<=n/\n<g
 al:CC g lo' tab' m' lo tab m
section
variable(g2:2<=g){m:Nat}(c:Ei g lo tab m lo' tab' m')
include g2 c
theorem Ei.half:((tab'.length/g.toNat:Nat):Int)=g^(m'-1)/\tab'.length=tab'.length/g.toNat*g.toNat:=CA g2 c.len c.m1
theorem Ei.first(h2:2<=m')(e:tab'=(List.replicate g.toNat (tab'.take (tab'.length/g.toNat))).flatten):Ei g lo tab m (lo'+1) (tab'.take (tab'.length/g.toNat)) (m'-1):=by have hh:=c.half g2;have gl:=(IJ hh.2 (by lia)).mp e;obtain⟨k,rfl⟩:∃k,m'=k+1:=⟨m'-1,by lia⟩;rw[Xr]at hh;have cf:=Mw g2 lo' c.len hh.1 gl;refine⟨by lia,by have:=c.le;lia,?_,λn hn=>c.tb n (List.mem_of_mem_take hn),λx hx=>(cf x hx).trans (c.al x hx)⟩;rw[Wp,Nat.min_eq_left (YZ ..)];exact hh.1
theorem Ei.first_counts(e:¬tab'=(List.replicate g.toNat (tab'.take (tab'.length/g.toNat))).flatten):A4 g tab' (g^(m'-1))=true:=by
 have hh:=c.half g2;have m1:=c.m1;have hl:=c.len;obtain⟨k,rfl⟩:∃k,m'=k+1:=⟨m'-1,by lia⟩;cases z:A4 g tab' (g^(k+1-1)) with
 |true=>rfl
 |false=>exact absurd ((IJ hh.2 (by lia)).mpr ((Dt g2 hl hh.1).mp z)) e
theorem Ei.last(h2:2<=m')(e:tab'=(List.range tab'.length).map λk=>tab'.getD (k-k%g.toNat) 0):Ei g lo tab m lo' ((List.range (tab'.length/g.toNat)).map λi=>tab'.getD (i*g.toNat) 0) (m'-1):=by
 have hh:=c.half g2;have gl:=G0.mp e;obtain⟨k,rfl⟩:∃k,m'=k+1:=⟨m'-1,by lia⟩;rw[Xr]at hh;have cf:=OM g2 lo' c.len hh.1 (show ((g.toNat:Nat):Int)=g by lia) gl;refine⟨by lia,by have:=c.le;lia,?_,λn hn=>?_,λx hx=>(cf x hx).trans (c.al x hx)⟩
 ·rw[WD,WV];exact hh.1
 ·obtain⟨i,hi,rfl⟩:=Wd.mp hn;exact Dq g2 c.tb _
theorem Ei.last_counts(e:¬tab'=(List.range tab'.length).map λk=>tab'.getD (k-k%g.toNat) 0):A4 g tab' 1=true:=by
 cases z:A4 g tab' 1 with
 |true=>rfl
 |false=>exact absurd (G0.mpr ((EZ (show ((g.toNat:Nat):Int)=g by lia)).mp z)) e
theorem Ei.stays(h2:3<=m')(e:tab'=(List.range tab'.length).map λk=>tab'.getD (k-k%g.toNat) 0)(h:A4 g tab' (g^(m'-1))=true):A4 g ((List.range (tab'.length/g.toNat)).map λi=>tab'.getD (i*g.toNat) 0) (g^(m'-1-1))=true:=by
 have d:=c.last g2 (by lia) e;have hh:=c.half g2;have hd:=d.half g2;have G1:1<=g.toNat:=by lia
 rw[WD,WV]at hd;obtain⟨H,hH⟩:∃H,H=tab'.length/g.toNat/g.toNat:=⟨_,rfl⟩;rw[<-hH]at hd;cases z:A4 g ((List.range (tab'.length/g.toNat)).map λi=>tab'.getD (i*g.toNat) 0) (g^(m'-1-1)) with
 |true=>rfl
 |false =>
  exfalso;have dl:=d.len;obtain⟨k,rfl⟩:∃k,m'=k+1+1:=⟨m'-2,by lia⟩;have q:=(Dt g2 (m:=k) (h:=H) dl hd.1).mp z;rw[WD,WV,hd.2]at q;have s:=J8 G1 (by rw[<-hd.2];exact hh.2) (G0.mp e) q;rw[<-hd.2]at s;have f:=(Dt g2 c.len hh.1).mpr s;have h':A4 g tab' (g^(k+1))=true:=h;rw[f]at h';cases h'
theorem Ei.frame(hl:(tab.length:Int)=g^m)(h2:2<=m')(c0:A4 g tab' (g^(m'-1))=true)(c1:A4 g tab' 1=true):Aq g lo tab m lo' tab' m':=G2 g2 hl c.len c.al h2 c0 c1
theorem Ei.frame1(hl:(tab.length:Int)=g^m)(h1:m'=1)(x:Int)(e:tab'=List.replicate g.toNat (tab'.getD 0 0)->x=0)(ne:¬tab'=List.replicate g.toNat (tab'.getD 0 0)->x=lo'):Aq g lo tab m x ((List.range (g.toNat*g.toNat)).map λk=>tab'.getD (k/g.toNat) 0) 2:=by
 subst h1;have gn:((g.toNat:Nat):Int)=g:=by lia
 have g1:g^1=g:=by rw[Wg,Wn,XT]
 have hl':=c.len
 have key:tab'=List.replicate g.toNat (tab'.getD 0 0)↔A4 g tab' 1=false:=by
  rw[EZ gn];constructor
  ·intro y k hk;obtain⟨v,hv⟩:∃v,v=tab'.getD 0 0:=⟨_,rfl⟩;rw[<-hv]at y;rw[Xb (by lia),W4,<-hv,y,WH,Xj,if_pos (by lia)];rfl
  ·intro y;refine Az (by rw[List.length_replicate];lia) λk hk=>?_;have z:=y k hk;rw[Xb (by lia),W4]at z;rw[z,WH,WH,Xj,if_pos (by lia)];rfl
 rw[<-RU g2 gn x tab'];cases z:A4 g tab' 1 with
 |false=>rw[e (key.mpr z)];exact LH g2 hl c.len c.al z
 |true =>
  rw[ne (λy=>by rw[key.mp y]at z;cases z)];exact Mx g2 hl c.len c.al z
end
theorem Pr(g2:2<=g){n h:Nat}(hn:n=h*g.toNat)(h1:1<=h):Ou 0 (n:Int) g=h:=by
 have e:(n:Int)=(h:Int)*g:=by rw[hn,Xx,show ((g.toNat:Nat):Int)=g by lia]
 have k:(h:Int)*g=g*((h:Int)-1)+g:=by rw[Int.mul_sub,Int.mul_one,XJ];lia
 have p:0<=g*((h:Int)-1):=Int.mul_nonneg (by lia) (by lia);unfold Ou;rw[if_pos (by lia),show (n:Int)-0-1=g-1+g*((h:Int)-1) by lia,YS _ _ (by lia),Xo (by lia) (by lia)];lia
theorem Aq.le(hg:2<=g){m:Nat}(fw:Aq g lo tab m lf tf mf)(hl:(tab.length:Int)=g^m)(hl':(tab'.length:Int)=g^m')(al:CC g lo tab m lo' tab' m'):mf<=max 2 m':=by
 obtain⟨low,M,n,rfl,z⟩:=fw;obtain⟨low',M',n'⟩:=Fo g lo' tab' m';obtain⟨e1,e2⟩:=(CD hg hl hl' n n').mp al;have a:=BF hg lo tab m lf M;rw[e2,BF hg]at a;have eM:=Ch hg a
 have:M'<=max 1 m':=by rcases n'.ends with⟨_,_,y⟩|⟨j0,j1,_,_,_,_,_,_⟩<;>lia
 rcases z with z|z<;>lia
theorem OP(hg:2<=g)(lo:Int){m:Nat}:∃lf tf mf,Aq g lo tab m lf tf mf:=by
 obtain⟨low,M,n⟩:=Fo g lo tab m;have:=n.one
 by_cases z:M=1
 ·subst z;exact⟨_,_,_,low,1,n,rfl,.inl ⟨rfl,rfl,rfl⟩⟩
 ·exact⟨_,_,_,low,M,n,rfl,.inr ⟨by lia,rfl,rfl⟩⟩
end L2
namespace L2
end L2
namespace L2
open PySem PySem.Spec PyProof.Rows RW
variable{D:GZ}{G M M' i m' mf:Nat}{H H':Hp}{X:Cx}{es:List Expr}{g lf lo lo' low':Int}{p:Addr}{tab tab' tf:List Int}{te:TE}{σ:St}
theorem KA(hg:2<=g){m:Nat}(hl:(tab.length:Int)=g^m)(hl':(tab'.length:Int)=g^m')(al:CC g lo tab m lo' tab' m'){low:Int}(n:Ds g lo tab m low M)(n':Ds g lo' tab' m' low' M'):low=low'/\M=M'/\Eg g lo tab m low M=Eg g lo' tab' m' low' M':=by obtain⟨e1,e2⟩:=(CD hg hl hl' n n').mp al;have a:=BF hg lo tab m low M;rw[e2,BF hg]at a;exact⟨e1,(Ch hg a).symm,e2⟩
theorem KB(hg:2<=g){m:Nat}(hl:(tab.length:Int)=g^m){low:Int}(n:Ds g lo tab m low M):CC g low (Eg g lo tab m low M) M lo tab m:=λx hx=>EW hg hl n.all hx
theorem Aq.alike(hg:2<=g){m:Nat}(hl:(tab.length:Int)=g^m)(fw:Aq g lo tab m lf tf mf):CC g lf tf mf lo tab m/\(tf.length:Int)=g^mf:=by
 obtain⟨low,M,n,rfl,⟨rfl,rfl,rfl⟩|⟨h2,rfl,rfl⟩⟩:=fw
 ·refine⟨λx hx=>?_,BF hg ..⟩;rw[OF hg (BF hg ..) (YO _) (by lia) hx];exact KB hg hl n x hx
 ·exact⟨KB hg hl n,BF hg ..⟩
theorem LI(hg:2<=g){m:Nat}(hl:(tab.length:Int)=g^m){lo0:Int}{tab0:List Int}{m0:Nat}(hl0:(tab0.length:Int)=g^m0)(al:CC g lo tab m lo0 tab0 m0)(fw:Aq g lo0 tab0 m0 lf tf mf):Aq g lo tab m lf tf mf:=by
 obtain⟨low0,M0,n0,rfl,z⟩:=fw;obtain⟨low,M,n⟩:=Fo g lo tab m;obtain⟨rfl,rfl,e⟩:=KA hg hl hl0 al n n0;refine⟨_,_,n,rfl,?_⟩;rcases z with⟨rfl,rfl,rfl⟩|⟨h2,rfl,rfl⟩
 ·exact .inl ⟨rfl,rfl,by rw[e]⟩
 ·exact .inr ⟨h2,rfl,e.symm⟩
theorem GB(hg:2<=g){m:Nat}(hl:(tab.length:Int)=g^m)(fw:Aq g lo tab m lf tf mf):Aq g lf tf mf lf tf mf:=by obtain⟨al,tfl⟩:=fw.alike hg hl;exact LI hg tfl hl al fw
theorem Br(hg:2<=g){m:Nat}(hl:(tab.length:Int)=g^m)(fw:Aq g lo tab m lf tf mf):((tf.length/g.toNat:Nat):Int)=g^(mf-1)/\tf.length=tf.length/g.toNat*g.toNat:=by obtain⟨_,tfl⟩:=fw.alike hg hl;have h2:=fw.two;have hd:=CA hg tfl (show 1<=mf by lia);lia
theorem OQ(g2:2<=g)(g6:g<=6)(c:Int):∃m:Nat,JZ [V.int (5+c%4),V.int (4+c%2),V.int (3+c%2),V.int 3,V.int 3] (g-2)=some (V.int ((m:Nat):Int))/\3<=m/\m<=8/\g^m<=256/\9<g^(m-1):=by
 obtain rfl|rfl|rfl|rfl|rfl:g=2\/g=3\/g=4\/g=5\/g=6:=by lia
 ·obtain z|z|z|z:c%4=0\/c%4=1\/c%4=2\/c%4=3:=by lia
  ·exact⟨5,by rw[z];rfl,by decide,by decide,by decide,by decide⟩
  ·exact⟨6,by rw[z];rfl,by decide,by decide,by decide,by decide⟩
  ·exact⟨7,by rw[z];rfl,by decide,by decide,by decide,by decide⟩
  ·exact⟨8,by rw[z];rfl,by decide,by decide,by decide,by decide⟩
 ·obtain z|z:c%2=0\/c%2=1:=by lia
  ·exact⟨4,by rw[z];rfl,by decide,by decide,by decide,by decide⟩
  ·exact⟨5,by rw[z];rfl,by decide,by decide,by decide,by decide⟩
 ·obtain z|z:c%2=0\/c%2=1:=by lia
  ·exact⟨3,by rw[z];rfl,by decide,by decide,by decide,by decide⟩
  ·exact⟨4,by rw[z];rfl,by decide,by decide,by decide,by decide⟩
 ·exact⟨3,rfl,by decide,by decide,by decide,by decide⟩
 ·exact⟨3,rfl,by decide,by decide,by decide,by decide⟩
def Bk(g:Int)(m:Nat):List Int:=(List.range (g^m).toNat).map λk:Nat=>((k/(g^(m-1)).toNat+k:Nat):Int)%g
theorem KC(g2:2<=g)(lo:Int){m:Nat}(m2:2<=m):((Bk g m).length:Int)=g^m/\Aq g lo (Bk g m) m lo (Bk g m) m:=by
 have gp:=RW.Ap g2 m;have pp:=RW.Ap g2 (m-1);have gg:g^m=g^(m-1)*g:=by rw[<-Wg,show (m-1).succ=m by lia]
 have pg:g<=g^(m-1):=by have:=Bc g2 (show 1<=m-1 by lia);rw[Wg,Wn,XT]at this;exact this
 have p2:g^(m-1)*2<=g^m:=by rw[gg];exact W9 g2 (W3 pp)
 have hl:((Bk g m).length:Int)=g^m:=by unfold Bk;rw[List.length_map,List.length_range];lia
 have at':∀k:Nat,(k:Int)<g^m->(Bk g m).getD k 0=((k/(g^(m-1)).toNat+k:Nat):Int)%g:=λk hk=>by unfold Bk;rw[AY (by lia)]
 have P0:0<(g^(m-1)).toNat:=by lia
 have t0:(Bk g m).getD 0 0=0:=by rw[at' 0 (by lia),Nat.zero_div];rfl
 have t1:(Bk g m).getD 1 0=1:=by rw[at' 1 (by lia),Nat.div_eq_of_lt (by lia)];exact XV (by decide) (by lia)
 have tP:(Bk g m).getD (g^(m-1)).toNat 0=1:=by
  rw[at' _ (by lia),Nat.div_self P0,Int.natCast_add,XF (by lia)];have e:g^(m-1)=g*g^(m-2):=by rw[XJ,<-Wg,show (m-2).succ=m-1 by lia]
  rw[e,XY];exact XV (by decide) (by lia)
 have c0:A4 g (Bk g m) (g^(m-1))=true:=by
  cases z:A4 g (Bk g m) (g^(m-1)) with
  |true=>rfl
  |false =>
   have y:=(Dt g2 (m:=m-1) (h:=(g^(m-1)).toNat) (by rw[hl,show m-1+1=m by lia]) (by lia)).mp z (g^(m-1)).toNat (by lia);rw[Nat.mod_self,tP,t0]at y;cases y
 have c1:A4 g (Bk g m) 1=true:=by
  cases z:A4 g (Bk g m) 1 with
  |true=>rfl
  |false =>
   have y:=(EZ (show ((g.toNat:Nat):Int)=g by lia)).mp z 1 (by lia);rw[Xb (by lia),W4,t1,t0]at y;cases y
 exact⟨hl,G2 g2 hl hl (λ_ _=>rfl) m2 c0 c1⟩
theorem My(g2:2<=g)(m:Nat):∀n∈Bk g m,0<=n/\n<g:=λn hn=>by unfold Bk at hn;obtain⟨k,_,rfl⟩:=Wd.mp hn;exact⟨W2 _ (by lia),Wu _ (by lia)⟩
theorem E1(g2:2<=g){m:Nat}(hl:(tab.length:Int)=g^m){lf':Int}{tf':List Int}{mf':Nat}(fw:Aq g lo tab m lf tf mf)(fw':Aq g lo tab m lf' tf' mf'):mf=mf'/\tf=tf':=by
 obtain⟨low,M,n,_,h⟩:=fw;obtain⟨low',M',n',_,h'⟩:=fw';obtain⟨rfl,rfl⟩:=J9 g2 hl n n';rcases h with⟨a,b,c⟩|⟨a,b,c⟩
 ·rcases h' with⟨a',b',c'⟩|⟨a',b',c'⟩
  ·exact⟨by lia,by rw[c,c']⟩
  ·lia
 ·rcases h' with⟨a',b',c'⟩|⟨a',b',c'⟩
  ·lia
  ·exact⟨by lia,by rw[c,c']⟩
def BR:Nat->(Nat->Bool)->Int
 |0,_=>0
 |n+1,f=>(if f 0=true then 1 else 0)+2*BR n λi=>f (i+1)
theorem GV(n:Nat):∀f:Nat->Bool,0<=BR n f/\BR n f<2^n:=by
 induction n with
 |zero=>intro f;exact⟨YO _,by rw[Wn];exact Int.one_pos⟩
 |succ n ih =>
  intro f;have:=ih λi=>f (i+1)
  rw[Wg];show 0<=(if f 0=true then (1:Int) else 0)+2*BR n _/\(if f 0=true then (1:Int) else 0)+2*BR n _<_
  split<;>lia
theorem C1{n:Nat}:∀{f h:Nat->Bool},(∀i,i<n->f i=h i)->BR n f=BR n h:=by
 induction n with
 |zero=>intro f h _;rfl
 |succ n ih =>
  intro f h e;show (if f 0=true then (1:Int) else 0)+2*BR n _=(if h 0=true then (1:Int) else 0)+2*BR n _;rw[e 0 (by lia),ih λi hi=>e (i+1) (by lia)]
theorem Fp(n:Nat)(f:Nat->Bool):BR (n+1) f/2=BR n (λi=>f (i+1))/\BR (n+1) f%2=if f 0=true then 1 else 0:=by
 have e:BR (n+1) f=(if f 0=true then (1:Int) else 0)+2*BR n λi=>f (i+1):=rfl
 rw[e]
 split<;>lia
theorem G3{n:Nat}:∀{f:Nat->Bool} {i:Nat},i<n->BR n f/2^i%2=if f i=true then 1 else 0:=by
 induction n with
 |zero=>intro f i h;lia
 |succ n ih =>
  intro f i h;obtain⟨h1,h2⟩:=Fp n f;cases i with
  |zero=>rw[Wn,Int.ediv_one];exact h2
  |succ i =>
   rw[Wg,XJ,<-YH (by decide),h1];exact ih (f:=λi=>f (i+1)) (by lia)
theorem Eb(n:Nat):BR n (λ_=>false)=0:=by
 induction n with
 |zero=>rfl
 |succ n ih=>show (if false=true then (1:Int) else 0)+2*BR n (λ_=>false)=0;rw[ih];rfl
theorem KD(n:Nat):BR n (λ_=>true)=2^n-1:=by
 induction n with
 |zero=>rfl
 |succ n ih=>show (if true=true then (1:Int) else 0)+2*BR n (λ_=>true)=_;rw[ih,if_pos rfl,Wg];lia
theorem OR{n:Nat}:∀{i:Nat},i<n->BR n (λj=>decide (j=i))=2^i:=by
 induction n with
 |zero=>intro i h;lia
 |succ n ih =>
  intro i h;show (if decide (0=i)=true then (1:Int) else 0)+2*BR n (λj=>decide (j+1=i))=_;cases i with
  |zero =>
   rw[show (λj:Nat=>decide (j+1=0))=λ_=>false from funext λj=>decide_eq_false (by lia),Eb];rfl
  |succ i =>
   rw[show (λj:Nat=>decide (j+1=i+1))=λj=>decide (j=i) from funext λj=>by simp,ih (by lia),Int.pow_succ,if_neg (by simp)];lia
theorem G4{x y:Int}(hx:0<=x)(hy:0<=y):Builtin.bitAnd x y=2*Builtin.bitAnd (x/2) (y/2)+(if x%2=1/\y%2=1 then 1 else 0):=by
 obtain⟨a,rfl⟩:∃a:Nat,x=(a:Int):=⟨x.toNat,by lia⟩;obtain⟨b,rfl⟩:∃b:Nat,y=(b:Int):=⟨y.toNat,by lia⟩;rw[bitAnd_pp hx hy,bitAnd_pp (by lia) (by lia)];rw[show ((a:Int)/2).toNat=a/2 by lia,show ((b:Int)/2).toNat=b/2 by lia,WS,WS];have h1:(a &&& b)/2=a/2 &&& b/2:=Nat.and_div_two;have h2:(a &&& b)%2=1↔a%2=1/\b%2=1:=Nat.and_mod_two_eq_one;rw[<-h1]
 by_cases c:a%2=1/\b%2=1
 ·have:=h2.mpr c;rw[if_pos (by lia)];lia
 ·have:¬(a &&& b)%2=1:=λz=>c (h2.mp z)
  rw[if_neg (by lia)];lia
theorem Mz{x y:Int}(hx:0<=x)(hy:0<=y):Builtin.bitOr x y=2*Builtin.bitOr (x/2) (y/2)+(if x%2=1\/y%2=1 then 1 else 0):=by
 rw[bitOr_and,bitOr_and,G4 hx hy]
 by_cases a:x%2=1
 ·by_cases b:y%2=1
  ·rw[if_pos ⟨a,b⟩,if_pos (.inl a)];lia
  ·rw[if_neg (λz=>b z.2),if_pos (.inl a)];lia
 ·by_cases b:y%2=1
  ·rw[if_neg (λz=>a z.1),if_pos (.inr b)];lia
  ·rw[if_neg (λz=>a z.1),if_neg (λz=>z.elim a b)];lia
theorem Lw(n:Nat):∀f h:Nat->Bool,Builtin.bitOr (BR n f) (BR n h)=BR n λi=>f i||h i:=by
 induction n with
 |zero=>intro f h;show Builtin.bitOr 0 0=0;decide
 |succ n ih =>
  intro f h;obtain⟨a1,a2⟩:=Fp n f;obtain⟨b1,b2⟩:=Fp n h;rw[Mz (GV _ _).1 (GV _ _).1,a1,b1,ih,a2,b2];show _=(if (f 0||h 0)=true then (1:Int) else 0)+2*BR n _;cases f 0<;>cases h 0<;>simp<;>lia
theorem Ps{x:Int}(hx:0<=x):Builtin.bitAnd x 1=x%2:=by
 rw[G4 hx (by decide),show (1:Int)/2=0 from rfl,bitAnd_zero]
 by_cases a:x%2=1
 ·rw[if_pos ⟨a,rfl⟩];lia
 ·rw[if_neg (λz=>a z.1)];lia
theorem OS:∀l:List Int,(∀n∈l,n=0\/n=1)->Bn 2 l.reverse=BR l.length λi=>decide (l.getD i 0=1):=by
 intro l
 induction l with
 |nil=>intro _;rfl
 |cons a t ih =>
  intro h;rw[YM,FF,ih λn hn=>h n (WW _ hn)];show _=(if decide ((a::t).getD 0 0=1)=true then (1:Int) else 0)+2*BR t.length λi=>decide ((a::t).getD (i+1) 0=1)
  have e:(λi:Nat=>decide ((a::t).getD (i+1) 0=1))=λi=>decide (t.getD i 0=1):=funext λi=>by rw[List.getD_cons_succ]
  rw[e,List.getD_cons_zero];rcases h a Wh with z|z
  ·rw[z];simp;lia
  ·rw[z];simp;lia
def EG(h:Nat)(ks:List Nat)(e:Nat):Bool:=ks.any λk=>k%h==e
theorem M3(h:Nat)(ks:List Nat)(k e:Nat):EG h (ks++[k]) e=(EG h ks e||decide (e=k%h)):=by
 unfold EG;rw[Ya]
 congr 1
 rw[Xy,List.any_nil,Xz]
 by_cases z:k%h=e
 ·rw[z,decide_eq_true rfl];exact beq_self_eq_true e
 ·rw[decide_eq_false (λy=>z y.symm)];exact beq_eq_false_iff_ne.mpr z
theorem OT{h:Nat}(h1:1<=h)(ks:List Nat)(k:Nat):Builtin.bitOr (BR h (EG h ks)) (2^(k%h))=BR h (EG h (ks++[k])):=by rw[<-OR (YA k h1),Lw];exact C1 λi _=>(M3 h ks k i).symm
theorem FR{k:Nat}{s:Int}:k∈Cw G tab i s↔∃j,j<G/\tab.getD (i*G+j) 0=s/\k=i*G+j:=by
 unfold Cw;rw[Wd];constructor
 ·rintro⟨j,hj,rfl⟩;have z:=Xg.mp hj;exact⟨j,Wl.mp z.1,of_decide_eq_true z.2,rfl⟩
 ·rintro⟨j,hj,hs,rfl⟩;exact⟨j,Xg.mpr ⟨Wl.mpr hj,decide_eq_true hs⟩,rfl⟩
def C3(G:Nat)(tab:List Int)(h:Nat)(x s:Int)(n e:Nat):Bool:=(List.range n).any λi=>decide (x/2^i%2=1)&&EG h (Cw G tab i s) e
theorem Pu{h:Nat}{x s:Int}{n:Nat}(z:x/2^n%2=1):Builtin.bitOr (BR h (C3 G tab h x s n)) (BR h (EG h (Cw G tab n s)))=BR h (C3 G tab h x s (n+1)):=by rw[Lw];refine C1 λi _=>?_;unfold C3;rw[W7,Ya,Xy,List.any_nil,Xz,decide_eq_true z,Bool.true_and]
theorem OU{h:Nat}{x s:Int}{n:Nat}(z:¬x/2^n%2=1):BR h (C3 G tab h x s n)=BR h (C3 G tab h x s (n+1)):=by refine C1 λi _=>?_;unfold C3;rw[W7,Ya,Xy,List.any_nil,Xz,decide_eq_false z,Bool.false_and,Xz]
def KE(G:Nat)(tab:List Int)(h:Nat)(x s:Int)(n e:Nat):Bool:=(List.range n).any λk=>decide (tab.getD k 0=s/\x/2^(k/G)%2=1/\k%h=e)
def C5(G:Nat)(tab:List Int)(h:Nat)(x s:Int)(n:Nat):List Int:=(List.range h).map λe=>if KE G tab h x s n e=true then 1 else 0
theorem Dc(G:Nat)(tab:List Int)(h:Nat)(x s:Int)(n:Nat):(C5 G tab h x s n).length=h:=by unfold C5;rw[List.length_map,List.length_range]
theorem IK(G:Nat)(tab:List Int)(h:Nat)(x s:Int)(n e:Nat):KE G tab h x s (n+1) e=(KE G tab h x s n e||decide (tab.getD n 0=s/\x/2^(n/G)%2=1/\n%h=e)):=by unfold KE;rw[W7,Ya,Xy,List.any_nil,Xz]
theorem M4(G:Nat)(tab:List Int)(h:Nat)(x s:Int):C5 G tab h x s 0=List.replicate h 0:=by unfold C5;rw[YT];refine⟨by rw[WD,WV],λb hb=>?_⟩;obtain⟨e,_,rfl⟩:=Wd.mp hb;rfl
theorem Pw{h:Nat}(h1:1<=h){x s:Int}{n:Nat}(z:tab.getD n 0=s)(y:x/2^(n/G)%2=1):(C5 G tab h x s n).set (n%h) 1=C5 G tab h x s (n+1):=by
 refine Az (by rw[Xv,Dc,Dc]) λk hk=>?_;rw[Xv,Dc]at hk;have e:(C5 G tab h x s (n+1)).getD k 0=if KE G tab h x s (n+1) k=true then 1 else 0:=by unfold C5;rw[AY hk]
 rw[e,IK];rw[WH,List.getElem?_set]
 by_cases c:n%h=k
 ·rw[if_pos c,if_pos (by rw[Dc];lia),decide_eq_true ⟨z,y,c⟩,Bool.or_true,if_pos rfl];rfl
 ·rw[if_neg c,decide_eq_false (λw=>c w.2.2),Xz,<-WH];unfold C5;rw[AY hk]
theorem KG{h:Nat}{x s:Int}{n:Nat}(z:¬(tab.getD n 0=s/\x/2^(n/G)%2=1)):C5 G tab h x s n=C5 G tab h x s (n+1):=by unfold C5;refine XQ λe _=>?_;rw[IK,decide_eq_false (λw=>z ⟨w.1,w.2.1⟩),Xz]
theorem RV(G1:1<=G)(tab:List Int)(h:Nat)(x s:Int)(e:Nat):KE G tab h x s (h*G) e=C3 G tab h x s h e:=by
 unfold KE C3 EG;rw[XW,XB,XB];constructor
 ·rintro⟨k,hk,z⟩;obtain⟨z1,z2,z3⟩:=of_decide_eq_true z;have kl:=Wl.mp hk;refine⟨k/G,Wl.mpr (Xf (by rw[XI];exact kl)),?_⟩;rw[YW];refine⟨decide_eq_true z2,XB.mpr ⟨k,FR.mpr ⟨k%G,YA _ G1,?_,?_⟩,by rw[z3];exact beq_self_eq_true e⟩⟩
  ·rw[XI,Nat.div_add_mod];exact z1
  ·rw[XI,Nat.div_add_mod]
 ·rintro⟨i,hi,z⟩;rw[YW]at z;obtain⟨k,hk,ke⟩:=XB.mp z.2;obtain⟨j,hj,hs,rfl⟩:=FR.mp hk;have il:=Wl.mp hi;have d:(i*G+j)/G=i:=by rw[XI,Nat.mul_add_div G1,Nat.div_eq_of_lt hj,Nat.add_zero]
  refine⟨i*G+j,Wl.mpr ?_,decide_eq_true ⟨hs,?_,eq_of_beq ke⟩⟩
  ·have:=Nat.mul_le_mul_right G (show i+1<=h from il);rw[Nat.add_mul,Nat.one_mul]at this;lia
  ·rw[d];exact of_decide_eq_true z.1
def DE(G:Nat)(tab:List Int)(h:Nat)(x s:Int):Int:=BR h (C3 G tab h x s h)
theorem Px(G1:1<=G)(tab:List Int)(h:Nat)(x s:Int):Bn 2 (C5 G tab h x s (h*G)).reverse=DE G tab h x s:=by
 rw[OS _ λn hn=>by
  unfold C5 at hn;obtain⟨e,_,rfl⟩:=Wd.mp hn;split
  ·exact .inr rfl
  ·exact .inl rfl]
 rw[Dc];refine C1 λi hi=>?_;rw[<-RV G1];unfold C5;rw[AY hi];cases KE G tab h x s (h*G) i<;>rfl
theorem M5(x:Int)(i:Nat):x/2^i/2=x/2^(i+1):=by rw[Wg,YH (W3 (Int.pow_pos (by decide)))]
structure Ow(H:Hp)(p:Addr)(ps:List Addr)(ws:List (List Int)):Prop where
 l:H p=some (.lst (ps.map V.ref))
 n:ps.length=ws.length
 e:∀(i:Nat) (q:Addr) (w:List Int),ps[i]?=some q->ws[i]?=some w->H q=some (.lst (w.map V.int))
theorem Ow.same{ps:List Addr}{ws:List (List Int)}(s:AF H H')(h:Ow H p ps ws):Ow H' p ps ws:=⟨s _ _ h.l,h.n,λi q w h1 h2=>s _ _ (h.e i q w h1 h2)⟩
def G5(G:Nat)(tab:List Int)(h i:Nat):List Int:=(List.range G).map λs:Nat=>BR h (EG h (Cw G tab i (s:Int)))
def Dy(G:Nat)(tab:List Int)(h n:Nat):List (List Int):=(List.range n).map (G5 G tab h)
inductive LJ(vs:List V)(H:Hp)(Q:VK)(z3_:XK):Prop
 |m (r f:Addr) (g lo:Int) (tab:List Int) (m:Nat) (ks:List Nat):vs=[.ref r,.ref f]->Al H r g lo tab m->H f=some (.lst ((Ex ks).map V.int))->Q (.int (BR (tab.length/g.toNat) (EG (tab.length/g.toNat) ks))) H->LJ vs H Q z3_
inductive Ec(vs:List V)(H:Hp)(Q:VK)(z3_:XK):Prop
 |m (r:Addr) (g lo:Int) (tab:List Int) (m:Nat):vs=[.ref r]->Al H r g lo tab m->tab.length/g.toNat<=9->(∀(p:Addr) (ps:List Addr) (H':Hp),AF H H'->Ow H' p ps (Dy g.toNat tab (tab.length/g.toNat) (tab.length/g.toNat))->Q (.ref p) H')->Ec vs H Q z3_
inductive FS(vs:List V)(H:Hp)(Q:VK)(z3_:XK):Prop
 |m (p:Addr) (ps:List Addr) (G:Nat) (tab:List Int) (h:Nat) (x:Int) (s:Nat):vs=[.ref p,.int x,.int ((s:Nat):Int)]->Ow H p ps (Dy G tab h h)->0<=x->s<G->(∀H',AF H H'->Q (.int (DE G tab h x (s:Int))) H')->FS vs H Q z3_
theorem Bu{es2:List Expr}{t t2:TA}{p:Pos}{x1}(hl:Mq X es2 t2)(hr:Mq X es t):Mq X (.Tuple es2 x1 p::es) (BE (E7 t2) t):=.of (AA (Dh hl.out) hr.out (by rfl))
def OV:List Int->TA
 |[]=>Ct
 |i::is=>BE (tC (.int i)) (OV is)
def Lx:List (List Int)->TA
 |[]=>Ct
 |w::ws=>BE (E7 (OV w)) (Lx ws)
theorem Ly:∀{is:List Int} {k:List V->Hp->Prop},k (is.map V.int) H->OV is σ H k
 |[],_,h=>h
 |i::is,k,h=>Ly (is:=is) (k:=λxs H2=>k (.int i::xs) H2) h
structure Qa(H:Hp)(ps:List Addr)(ts:List (List Int)):Prop where
 n:ps.length=ts.length
 e:∀(i:Nat) (q:Addr) (w:List Int),ps[i]?=some q->ts[i]?=some w->H q=some (.tup (w.map V.int))
theorem Lz:∀{ts:List (List Int)} {H:Hp} {k:List V->Hp->Prop},(∀w∈ts,w.length<=100)->(∀ps H',AF H H'->Qa H' ps ts->k (ps.map V.ref) H')->Lx ts σ H k
 |[],H,k,_,h=>h [] H (AF.refl _) ⟨rfl,λi q w hq=>absurd hq (by simp)⟩
 |w::ts,H,k,hl,h=>by
  refine Ly ⟨by rw[WD];exact Wm (hl w (Wh ..)) (by decide),λp hp=>?_⟩;refine Lz (λw' hw'=>hl w' (WW _ hw')) λps H' e' hv=>h (p::ps) H' ((AF.new hp _).trans e') ⟨by rw[Wy,Wy,hv.n],λi q u hq hu=>?_⟩
  cases i with
  |zero =>
   cases hq;cases hu;exact e' _ _ AC
  |succ i=>exact hv.e i q u hq hu
theorem OW{ts:List (List Int)}{Q:VK}(hl:∀w∈ts,w.length<=100)(hn:ts.length<=100)(h:∀ps H',AF H H'->Qa H' ps ts->∀p,H' p=none->Q (.ref p) (Ad H' p (.lst (ps.map V.ref)))):O7 (Lx ts) σ H Q:=
 Lz hl λps H' e hv=>⟨by rw[WD,hv.n];exact Wm hn (by decide),λp hp=>h ps H' e hv p hp⟩
theorem RX{g:TG}(h:te σ H λx H1=>g x σ H1 D.nx):Kc te g D σ H:=h
end L2
namespace PySem
section
variable{prog:Program}{w:World}{A:Around}{E:Value->Shared->Prop}{s:Shared}{it d:Addr}{i ep:Nat}{od:Obj}{es:Array DictEntry}
theorem keys_item{Q:Option Value->Shared->Prop}(hit:s.heap.IsKeyIter it d i es.size ep)(hod:s.heap.get? d=some od)(hdd:od.data=.dict es ep)(hlt:i<es.size)
  (hQ:∀h',h'.IsKeyIter it d (i+1) es.size ep->Heap.SameBut it s.heap h'->Q (some es[i].key) {s with heap:=h'}):wpAny (model prog w) A (pyNext (.ref it)) Q E s:=by
 obtain⟨o,ho,hc,hd⟩:=id hit;have T:=hit.typeIs;unfold pyNext;refine wpAny_bind (wpAny_attempt (wpAny_callSpecial?_slot (name:=Str.ofString "__next__") T F.slot_dict_keyiterator_next (wpAny_call_entry F.slot_dict_keyiterator_next T F.entry_dict_keyiterator_next ?_ (F.args_dict_keyiterator_next_1 _))));refine wpAny_bind (wpAny_pure (wpAny_bind (wpAny_bind ?_)));refine wpAny_bind (wpAny_typeNameOfWhole_keyiter T (wpAny_pure (wpAny_bind (wpAny_fieldsOf ho hd ?_))));simp only[show Builtin.Dict_items.ownsTuple "dict_keyiterator"=false by decide,Bool.false_eq_true,if_false];show wpAny _ _ (if (Value.ref d==.none)=true then _ else _) _ _ s;rw[if_neg (show ¬((Value.ref d==.none)=true) from WZ)];refine wpAny_bind (wpAny_pure (wpAny_bind (wpAny_dictEntries hod hdd ?_)));rw[if_neg (by simp)];refine wpAny_bind (wpAny_pure (wpAny_bind (wpAny_dictEpoch hod hdd ?_)));rw[if_neg (by simp)];refine wpAny_pure ?_;simp only[show ¬((i:Int)<0) by lia,if_false,Int.toNat_natCast,Array.getElem?_eq_getElem hlt];refine wpAny_bind (wpAny_bind (wpAny_typeNameOfWhole_keyiter T (wpAny_pure (wpAny_bind (wpAny_isOneOf_keyiter T ?_)))));show wpAny _ _ (setField (.ref it) 1 (rawInt ((i:Int)+1)) >>= _) _ _ s;have hit':(s.heap.update it (Obj.mapFields (·.setIfInBounds 1 (rawInt ((i:Int)+1))))).IsKeyIter it d (i+1) es.size ep:=⟨_,Heap.get?_update_self _ ho (Obj.isFreed_of_fields (Obj.data_mapFields hd _)),(Obj.cls_mapFields ..).trans hc,by rw[Obj.data_mapFields hd];simp[rawInt]⟩;refine wpAny_bind (wpAny_setField ho hd (by simp) (wpAny_bind (wpAny_holding (wpAny_bind (wpAny_isOneOf_keyiter (s:={s with heap:=s.heap.update it (Obj.mapFields (·.setIfInBounds 1 (rawInt ((i:Int)+1))))}) hit'.typeIs ?_)))));show wpAny _ _ (pure es[i].key) _ _ _;exact wpAny_pure (wpAny_pure ⟨_,rfl,wpAny_pure (hQ _ hit' (Heap.SameBut.update ..))⟩)
theorem keys_end{Q:Option Value->Shared->Prop}(hh:A.handled=none)(hit:s.heap.IsKeyIter it d i es.size ep)(hod:s.heap.get? d=some od)(hdd:od.data=.dict es ep)(hge:es.size<=i)
  (hQ:∀h',Heap.ExtBut it s.heap h'->Q none {s with heap:=h'}):wpAny (model prog w) A (pyNext (.ref it)) Q E s:=by
 obtain⟨o,ho,hc,hd⟩:=id hit;have T:=hit.typeIs;unfold pyNext;refine wpAny_bind (wpAny_attempt (wpAny_callSpecial?_slot (name:=Str.ofString "__next__") T F.slot_dict_keyiterator_next (wpAny_call_entry F.slot_dict_keyiterator_next T F.entry_dict_keyiterator_next ?_ (F.args_dict_keyiterator_next_1 _))));refine wpAny_bind (wpAny_pure (wpAny_bind (wpAny_bind ?_)));refine wpAny_bind (wpAny_typeNameOfWhole_keyiter T (wpAny_pure (wpAny_bind (wpAny_fieldsOf ho hd ?_))));simp only[show Builtin.Dict_items.ownsTuple "dict_keyiterator"=false by decide,Bool.false_eq_true,if_false];show wpAny _ _ (if (Value.ref d==.none)=true then _ else _) _ _ s;rw[if_neg (show ¬((Value.ref d==.none)=true) from WZ)];refine wpAny_bind (wpAny_pure (wpAny_bind (wpAny_dictEntries hod hdd ?_)));rw[if_neg (by simp)];refine wpAny_bind (wpAny_pure (wpAny_bind (wpAny_dictEpoch hod hdd ?_)));rw[if_neg (by simp)];refine wpAny_pure ?_;simp only[show ¬((i:Int)<0) by lia,if_false,Int.toNat_natCast,Array.getElem?_eq_none hge];refine wpAny_bind (wpAny_bind (wpAny_typeNameOfWhole_keyiter T (wpAny_pure ?_)));show wpAny _ _ (setField (.ref it) 0 .none >>= _) _ _ s;refine wpAny_bind (wpAny_setField ho hd (by simp) ?_);show wpAny _ _ (newExc (.type "StopIteration") [] >>= _) _ _ _;refine wpAny_bind ?_;simp only[newExc,newTuple];refine wpAny_bind (wpAny_newObj_type (wpAny_bind (m:=firstArgMember _ _) (wpAny_of_eq (a:=Value.none) (by first|rfl|(simp only[firstArgMember];rfl)) (wpAny_newObj_type ?_ (by size_fits)))) (by size_fits));simp only[raiseNew];refine wpAny_bind (wpAny_handled ?_);rw[show A.in1.handled=none from hh];refine wpAny_bind (wpAny_pure (wpAny_throw ?_));exact wpAny_bind (wpAny_isInstance (T:="StopIteration") (b:=true) ⟨_,WR _ rfl,rfl⟩ isSubtype_stop (wpAny_pure (hQ _ (((Heap.SameBut.update ..).extBut.push _).push _))))
theorem keys_iter{Q:Value->Shared->Prop}(hm:(d==sysModules)=false)(hT:s.TypeIs (.ref d) "dict")(hod:s.heap.get? d=some od)(hdd:od.data=.dict es ep)
  (hQ:Q (.ref s.heap.objs.size) {s with heap:=s.heap.push {cls:=.type "dict_keyiterator",data:=.fields #[.ref d,.int 0 0,.int es.size 0,.int ep 0]}}):wpAny (model prog w) A (pyIter (.ref d)) Q E s:=by
 refine wpAny_pyIter_slot hT F.slot_dict_iter (wpAny_call_entry F.slot_dict_iter hT F.entry_dict_iter ?_ (F.args_dict_iter_1 _));unfold Builtin.«dict.__iter__»;refine wpAny_bind ?_;unfold Builtin.Dict.dictSlotNone;refine wpAny_bind (wpAny_notOrdered_dict hT ?_);show wpAny _ _ (pure (Value.ref d)) _ _ s;refine wpAny_pure ?_;show wpAny _ _ (Builtin.Dict.showsAll d >>= _) _ _ s;unfold Builtin.Dict.showsAll;rw[if_neg (by rw[hm];exact WZ)];refine wpAny_bind (wpAny_pure (wpAny_bind (wpAny_dictEntries hod hdd (wpAny_bind (wpAny_dictEpoch hod hdd ?_)))));exact wpAny_bind (wpAny_newObj_type (wpAny_pure ⟨_,rfl,"dict_keyiterator",_,⟨_,Heap.get?_push_size _ rfl,rfl⟩,F.slot_dict_keyiterator_next.lookup,by simpa [rawInt] using hQ⟩))
end
end PySem
namespace L2
open PySem PySem.Spec PyProof.Rows
variable{D:GZ}{H:Hp}{X:Cx}{it:Addr}{kvs:List (CF×V)}{pins:List (Addr×Obj)}{s:Shared}{tg:Expr}{tl:TE}{u:Value}{α β:Type}{σ:St}
def OX(d:Addr)(o:Obj)(kvs:List (CF×V)):It:=
 ⟨λi H=>H d=some (.frz o (.dK kvs))/\i<kvs.length,λi H x H'=>H'=H/\∃(k:CF) (v:V),x=kV k/\kvs[i]?=some (k,v),λi H=>H d=some (.frz o (.dK kvs))/\kvs.length<=i⟩
theorem E2{F:α->β->Prop}:∀{l₁:List α} {l₂:List β} {i:Nat} {x:α},Paired F l₁ l₂->l₁[i]?=some x->∃y,l₂[i]?=some y/\F x y
 |_,_,_,_,.nil,e=>by simp at e
 |_,_,0,_,.cons r _,e=>by simp at e;subst e;exact⟨_,rfl,r⟩
 |_,_,i+1,x,.cons _ t,e=>by obtain⟨u,h1,h2⟩:=E2 (i:=i) (x:=x) t (by simpa using e);exact⟨u,by simpa using h1,h2⟩
variable{d:Addr}
theorem AO.freeze{u:HO}(I:AO X pins σ H s)(e:H d=some u)(nt:∀ys,u≠.tup ys)(nf:∀o v,u≠.frz o v)(nb:∀ps,u≠.tbl ps)(no:∀x,u≠.own x){o:Obj}(ho:s.heap.get? d=some o):AO X pins σ (Ad H d (.frz o u)) s:=
 have up:∀{b:Addr} {v:HO},H b=some v->v≠u->Ad H d (.frz o u) b=some v:=λ{b v} z n=>by rw[AI λy=>n (by rw[y,e]at z;exact (Option.some.inj z).symm)];exact z
 have un:∀{b:Addr},H b=none->Ad H d (.frz o u) b=none:=λ{b} z=>by rw[AI λy=>by rw[y,e]at z;cases z];exact z
 {I with
  base:=⟨I.base.keep,I.base.slot,λb ob q n hx=>un (I.base.free b ob q n hx),I.base.there,λb xs q=>up (I.base.tups b xs q) λz=>nt _ z.symm,λb ob v q=>up (I.base.frzs b ob v q) λz=>nf _ _ z.symm,λb ps q=>by obtain⟨m,z⟩:=I.base.tbls b ps q;exact⟨m,up z λy=>nb _ y.symm⟩⟩
  free:=un I.free
  freeC:=λx c q=>un (I.freeC x c q)
  pin:=λp hp=>⟨(I.pin p hp).1,un (I.pin p hp).2.1,(I.pin p hp).2.2⟩
  hok:=λb v q=>by
   have st:∀{b:Addr} {v:HO},H b=some v->As X.prog X.w (Ad H d (.frz o u)) s.heap b v:=λ{b v} q=>(I.hok b v q).stay (λ_ _ _ z=>z) (λc z=>up z λy=>no _ y.symm) λc xs z=>up z λy=>nt _ y.symm
   by_cases hb:b=d
   ·subst hb;rw[AC]at q;cases q;exact⟨ho,st e⟩
   ·rw[AI hb]at q;exact st q}
theorem RY{u:HO}(e:H d=some u):Ad H d u=H:=funext λb=>by
 by_cases z:b=d
 ·subst z;rw[AC,e]
 ·rw[AI z]
theorem Qb{P:Program}{w:World}{k:CF}(h:(BM P w).is k u=true):Ao (kV k) u:=by
 rcases BO h with⟨i,t,e1,e2⟩|⟨x,t,e1,e2⟩
 ·subst e1 e2;exact⟨_,rfl⟩
 ·subst e1 e2;exact⟨_,rfl⟩
theorem LK{P:Program}{w:World}{K:PySem.W.Frag}{o:Obj}{es:Array DictEntry}{ep:Nat}(ho:o.data=.dict es ep)(hl:es.size=kvs.length):Hh P w K tg (OX d o kvs) [it] it (λi h=>h.IsKeyIter it d i es.size ep) where
 mem:=by simp
 obj:=λi h st b hb=>by
  have e:b=it:=by simpa using hb
  subst e;obtain⟨o,e,c,d⟩:=st;exact⟨o,e,λv z=>by rw[d]at z;cases z⟩
 keep:=λi h h' st k=>st.at λo e=>k it (by simp) o e
 item:=by
  rintro X hP hw hK hc i pins s σ H E I hf st ⟨hg,hi⟩;subst hP hw hK;obtain⟨f0,f1,f2,f3,f4,f5⟩:=hf it (by simp);obtain⟨g0,g1⟩:=(show As X.prog X.w H s.heap d (.frz o (.dK kvs)) from I.hok d _ hg);obtain⟨_,_,vs,r,o2,es2,ep2,e2,_,d2,_,prs,_⟩:=(show As X.prog X.w H s.heap d (.dK kvs) from g1);rw[g0]at e2;cases e2;rw[ho]at d2;cases d2;have hie:i<es.size:=by lia
  obtain⟨p,hp⟩:∃p,kvs[i]?=some p:=⟨kvs[i],by simp[hi]⟩;obtain⟨q,hq,r1,r3⟩:=E2 r hp;have he:=(prs.get? (e:=es[i]) (k:=q.1) (v:=q.2) (by simp[hie]) hq).1;rw[<-r1]at he;refine keys_item st g0 ho hie λh' st' sb=>?_;have I1:AO X pins σ H {s with heap:=h'}:=I.turned (t':=s.toks) (λb o hb e=>(sb.2 b hb).trans e) f0 f1 f3 f4 f5;obtain⟨oo,e,c,dd⟩:=id st';exact⟨_,rfl,Hs (s:={s with heap:=h'}) e c dd (by decide) ⟨kV p.1,H,I1,Qb he,⟨rfl,p.1,p.2,rfl,hp⟩,st',λb hb=>(hf b hb).1⟩⟩
 done:=by rintro X hP hw hK hc i pins s σ H E I hf st ⟨hg,hi⟩;subst hP hw hK;obtain⟨f0,f1,f2,f3,f4,f5⟩:=hf it (by simp);obtain⟨g0,g1⟩:=(show As X.prog X.w H s.heap d (.frz o (.dK kvs)) from I.hok d _ hg);exact keys_end (I.ok.hd hc) st g0 ho (by lia) λh' eb=>⟨rfl,I.turned (t':=s.toks) (λb o hb e=>eb b o hb e) f0 f1 f3 f4 f5⟩
 self:=λ_ _ _ _ _ st h=>wpAny_pyIter_keyiter st h
def RZ(tl:TE):TI:=λσ H R=>tl σ H λx H1=>∃(d:Addr) (kvs:List (CF×V)),x=.ref d/\Rd H1 d (.dK kvs)/\∀o,R (OX d o kvs) (Ad H1 d (.frz o (.dK kvs)))
theorem G6{l:Expr}(hl:PE X l tl):PI X tg l (RZ tl):=by
 intro pins s σ H R I h;refine BJ (hl pins s σ H _ I h) λv s1 z9=>?_;obtain⟨x,H1,I1,r1,q1⟩:=z9;obtain⟨d,kvs,e,hq,q⟩:=q1;subst e;cases r1;obtain⟨z,hm,vs,r,o,es,ep,ho,hx,hd,ks,prs,nd⟩:=(show As X.prog X.w H1 s1.heap d (.dK kvs) from hq.ok I1.hok)
 have I2:AO X pins σ (Ad H1 d (.frz o (.dK kvs))) s1:=by
  rcases hq with e|⟨o',e⟩
  ·exact I1.freeze e (λ_ z=>nomatch z) (λ_ _ z=>nomatch z) (λ_ z=>nomatch z) (λ_ z=>nomatch z) ho
  ·obtain⟨g0,_⟩:=(show As X.prog X.w H1 s1.heap d (.frz o' (.dK kvs)) from I1.hok d _ e);rw[ho]at g0;cases g0;rw[RY e];exact I1
 have hsz:es.size=kvs.length:=by have a:=prs.length;have b:=Paired.length r;simp at a;lia
 refine keys_iter hm ⟨o,ho,hx.1⟩ ho hd ⟨s1.heap.objs.size,[s1.heap.objs.size],_,_,_,rfl,I2.kept (t':=s1.toks) λb o e=>WG _ e,LK hd hsz,⟨_,WR _ rfl,rfl,rfl⟩,λb hb=>?_,q o⟩;have e:b=s1.heap.objs.size:=by simpa using hb
 subst e;exact I2.fpOk (WM _) (I2.hok.fresh (WM _))
theorem Fq{o:Obj}{g:TG}{tb:TS}(Pv:Nat->St->Hp->Prop)(h0:Pv 0 σ H)(hl:∀i σ H,i<=kvs.length->Pv i σ H->H d=some (.frz o (.dK kvs)))
  (hs:∀i k v σ H,kvs[i]?=some (k,v)->Pv i σ H->g (kV k) σ H λσ2 H2=>tb {D with nx:=Pv (i+1),ct:=Pv (i+1),bk:=D.nx} σ2 H2) (hd:∀σ H,Pv kvs.length σ H->D.nx σ H):
  ∃W:Nat->Nat->St->Hp->Prop,(∃m,W 0 m σ H)/\∀i m σ H,W i m σ H ->
   ((OX d o kvs).stop i H/\D.nx σ H)\/((OX d o kvs).go i H/\∃N:St->Hp->Prop,(∀σ' H',N σ' H'->∃m',m'<m/\W (i+1) m' σ' H')/\∀x H',(OX d o kvs).yld i H x H'->g x σ H' λσ2 H2=>tb {D with nx:=N,ct:=N,bk:=D.nx} σ2 H2):=by
 refine⟨λi m σ H=>m=kvs.length-i/\i<=kvs.length/\Pv i σ H,⟨kvs.length,by simp,Nat.zero_le _,h0⟩,?_⟩;rintro i m σ H ⟨rfl,hi,p⟩;have q:=hl i σ H hi p
 by_cases hlt:i<kvs.length
 ·refine .inr ⟨⟨q,hlt⟩,Pv (i+1),λσ' H' p'=>⟨kvs.length-(i+1),by lia,rfl,hlt,p'⟩,λx H' y=>?_⟩;obtain⟨e,k,v,ex,hk⟩:=y;subst e ex;exact hs i k v σ _ hk p
 ·have e:i=kvs.length:=by lia
  subst e;exact .inl ⟨⟨q,WM _⟩,hd σ H p⟩
def V7(n:Int):V->Bool
 |.int i=>i==n
 |_=>false
def NI:V->Prop
 |.int _=>True
 |.non=>True
 |_=>False
def V8(n:Int):Value->Bool
 |.int i _=>i==n
 |_=>false
theorem V9{n:Int}{v:V}(h:NI v)(r:Ao v u):V8 n u=V7 n v:=by
 cases v with
 |int i=>obtain⟨t,rfl⟩:=r;rfl
 |non=>cases r;rfl
 |_=>exact h.elim
theorem OY:U0 X "list.index" (λx xs H Q=>∃(p:Addr) (ys:List V) (n:Int) (j:Nat),x=.ref p/\xs=[.int n]/\H p=some (.lst ys)/\(∀y∈ys,NI y)/\ys[j]?=some (.int n)/\(∀m,m<j->∀y,ys[m]?=some y->V7 n y=false)/\Q (.int ((j:Nat):Int)) H):=by
 intro pins s σ H x xs v us Q I rx rs h;obtain⟨p,ys,n,j,rfl,rfl,hp,ni,hj,hm,q⟩:=h;cases rx;obtain⟨u,rfl,ru⟩:=Fz rs;obtain⟨t,rfl⟩:=ru;obtain⟨z,its,c,r,hl,e⟩:=I.lstM hp
 have ix:∀(m:Nat) (hm:m<its.toArray.size),∃y,ys[m]?=some y/\Ao y its.toArray[m]:=λm hm=>by
  have hm':m<its.length:=by simpa using hm
  have h2:m<ys.length:=by lia
  obtain⟨u,hu,ru⟩:=r.get (WJ h2);refine⟨ys[m],WJ h2,?_⟩;rw[WJ hm']at hu;cases hu;simpa using ru
 have jl:j<its.toArray.size:=by have:=(WF.mp hj).1;rw[Wi];lia
 have zz:=z;rw[sizeLine_eq]at zz;have jj:j<ys.length:=(WF.mp hj).1
 refine call_meets PySem.F.slot_list_index ⟨_,e,rfl⟩ PySem.F.entry_list_index (PySem.F.args_list_index_2 _ _)
  (SeqAt.list_indexAt p its.toArray c none #[] (.int n t) (V8 n) j jl (by lia) ?_ ?_) ⟨e,λy hy=>?_,.int ((j:Nat):Int),H,I.tok _,⟨_,rfl⟩,q⟩
 ·obtain⟨y,h1,h2⟩:=ix j jl;rw[hj]at h1;cases h1;rw[V9 (v:=.int n) trivial h2];exact beq_self_eq_true n
 ·intro m hm2 hlt;obtain⟨y,h1,h2⟩:=ix m hm2;rw[V9 (ni y (WQ h1)) h2];exact hm m hlt y h1
 ·obtain⟨m,hm2,rfl⟩:=Array.mem_iff_getElem.mp hy;obtain⟨y,h1,h2⟩:=ix m hm2;have:=ni y (WQ h1);generalize its.toArray[m]=uu at h2⊢;cases y with
  |int i=>obtain⟨t',rfl⟩:=h2;exact SeqAt.EqAt.int_int i t' n t
  |non=>cases h2;exact SeqAt.EqAt.none_int n t
  |_=>exact this.elim
theorem G7:U0 X "dict.setdefault" (λx xs H Q=>∃(d:Addr) (kvs:List (CF×V)) (k:CF) (y:V),x=.ref d/\xs=[kV k,y]/\H d=some (.dK kvs)/\kvs.length<sizeLine /\
  (∀z,CG kvs k=some z->Q z H)/\(CG kvs k=none->Q y (Ad H d (.dK (Cy kvs k y))))):=by
 intro pins s σ H x xs v us Q I rx rs h;obtain⟨d,kvs,k,y,rfl,rfl,e,hz,h1,h2⟩:=h;obtain⟨u1,u2,rfl,r1,r2⟩:=LY rs;cases rx;obtain⟨z,hd,vs,rel,dd⟩:=QZ I.hok e;have hl:vs.length<=sizeLine:=by rw[<-rel.length];exact z
 have rk:=rel.val k;refine call_meetsIn Xt dd.typeIs PySem.F.entry_dict_setdefault (PySem.F.args_dict_setdefault_3 _ _ _) (kt_meets_setdefault (BM X.prog X.w) d (F9 r1) hd u2) ⟨vs,dd,hl,λp hp=>?_,λhn h' dd' sb=>?_⟩
 ·rw[hp]at rk;cases hv:CG kvs k with
  |none=>rw[hv]at rk;exact (show False from rk).elim
  |some t =>
   rw[hv]at rk;exact⟨t,H,I.tok _,rk,h1 t hv⟩
 ·have hv:CG kvs k=none:=by
   cases hv:CG kvs k with
   |none=>rfl
   |some t=>rw[hv,hn]at rk;exact (show False from rk).elim
  have hlen:(Cy kvs k y).length<=sizeLine:=by have:=EF kvs k y;lia
  have he:∃q,h'.get? d=some q:=let ⟨q,_,_,hq,_⟩:=dd';⟨q,hq⟩;exact⟨y,_,JC (ob:=.dK (Cy kvs k y)) I (by rw[e];exact True.intro) sb he (OH hlen hd (rel.put k r2) dd'),r2,h2 hv⟩
end L2
namespace PySem
open Sem (wp)
section
variable{prog:Program}{w:World}{K:Type}[DecidableEq K]{knd:KeyKind prog w K}{A:Around}{E:Value->Shared->Prop}{s:Shared}
theorem hint_dict{d:Addr}{Q:Bool->Shared->Prop}(hT:s.TypeIs (.ref d) "dict")(h:Q false s):wpAny (model prog w) A (Builtin.List.listLengthHint (.ref d)) Q E s:=by
 unfold Builtin.List.listLengthHint;refine wpAny_bind (wpAny_specialOf hT F.slot_dict_len.lookup ?_);generalize hid:("dict.__len__":String)=id0
 wp_delta
 rw[show splitId id0=some ("dict","__len__") from by subst hid;decide +kernel];subst hid;refine wpAny_bind (wpAny_isInstance (T:="dict") (b:=true) hT (by rw[isSubtype_type];kernel_rfl) ?_);refine wpAny_ite_split (λhab=>absurd hab (by decide)) (λ_=>?_);refine wpAny_ite_split (λ_=>?_) (λhab=>absurd (by decide +kernel) hab);refine wpAny_bind (wpAny_typeOf hT ?_);exact wpAny_pure h
theorem extend_dict{R:Result->Shared->Prop}{d:Addr}{kvs:List (K×Value)}{ep:Nat}(hh:A.handled=none)(hm:(d==sysModules)=false)(hr:s.heap.DictAt knd d kvs ep)(hlen:kvs.length<=sizeLine)(S:Addr)(res:Value)(c₀:Nat)(hS:s.heap.get? S=some {cls:=.type "list",data:=.seq #[] c₀})
  (hR:∀h' tk acc' c',(∀b o,b≠S->s.heap.get? b=some o->h'.get? b=some o)->h'.get? S=some {cls:=.type "list",dict:=none,data:=.seq acc' c',slots:=#[]} ->
   ItemsOf (λi v=>∃k x,kvs[i]?=some (k,x)/\knd.is k v=true) acc' kvs.length->R (.ok (.ret res)) {s with heap:=h',toks:=tk}):
  wpAny (model prog w) A.in1 (Builtin.List.listExtendWith (.ref S) (.ref d) res)
   (λfin s'=>match fin with|.done f=>R (.ok f) s'|.again c'=>c'.quiet=true/\codeAny (model prog w) A c' R s') (λe s'=>R (.error e) s') s:=by
 obtain⟨o,es,ho,hc,hdat,hk,hp,hn⟩:=id hr;have hT:s.TypeIs (.ref d) "dict":=⟨o,ho,hc.1⟩
 have hSr:S≠d:=λe=>by rw[e,ho]at hS;cases hS;cases hdat
 have hSlt:S<s.heap.objs.size:=WL hS;have hSI:S≠s.heap.objs.size:=Wj hSlt;have hdI:d≠s.heap.objs.size:=Wj (WL ho)
 have hSf:S∉[s.heap.objs.size,d]:=λhm=>by
  rcases WY.mp hm with z|z
  ·exact hSI z
  ·exact hSr (WE.mp z)
 have W:=(Walks.dictKeys (prog:=prog) (w:=w) (A:=A.in1) (knd:=knd) hh s.heap.objs.size d hdI kvs ep).toS
 have key:∀(h:Heap) (c₁ tk:Nat),h.IsKeyIter s.heap.objs.size d 0 kvs.length ep->h.DictAt knd d kvs ep->(∀b o,b≠S->s.heap.get? b=some o->h.get? b=some o) ->
   h.get? S=some {cls:=.type "list",data:=.seq #[] c₁}->codeAny (model prog w) A (.builtin "list.extend.loop" ⟨[.ref S,.ref s.heap.objs.size,res],[]⟩) R {s with heap:=h,toks:=tk}:=by
  intro h c₁ tk hit hda hk hS₁;refine codeAny_extend_loopS W hlen S hSf res kvs.length 0 _ #[] c₁ rfl (XX _) ⟨hit,hda⟩ hS₁ (ItemsOf.nil _) λs' acc' c' hm hS' hacc=>?_;rw[Moved.eq_with hm];refine hR s'.heap s'.toks acc' c' (λb o hb e=>hm.heap b o (λhmem=>?_) (hk b o hb e)) hS' hacc;rcases WY.mp hmem with e'|hmem
  ·exact hb e'
  ·exact absurd (WL e) (by rw[WE.mp hmem];exact Wb _)
 unfold Builtin.List.listExtendWith;refine wpAny_bind (wpAny_typeOf (T:="dict") hT ?_);have h1:Builtin.List.listSameRef (.ref S) (.ref d)=false:=by simp[Builtin.List.listSameRef,hSr]
 have h2:(Value.type "dict"==Value.type "list")=false:=by decide
 have h3:(Value.type "dict"==Value.type "tuple")=false:=by decide
 simp only[h1,h2,h3,Bool.or_false,Bool.false_eq_true,if_false];refine wpAny_bind (wpAny_pyIter_dict hm hr ?_);obtain⟨itO,hIt⟩:∃itO:Obj,itO={cls:=.type "dict_keyiterator",data:=.fields #[.ref d,.int 0 0,.int kvs.length 0,.int ep 0]}:=⟨_,rfl⟩;rw[<-hIt];have kp:∀b o,s.heap.get? b=some o->(s.heap.push itO).get? b=some o:=λb o e=>WG _ e
 refine wpAny_bind (wpAny_holding (hint_dict ⟨o,kp _ _ ho,hc.1⟩ ?_));have hit₁:(s.heap.push itO).IsKeyIter s.heap.objs.size d 0 kvs.length ep:=⟨_,WR _ (by rw[hIt];rfl),by rw[hIt],by rw[hIt];rfl⟩;have hd₁:(s.heap.push itO).DictAt knd d kvs ep:=hr.at' λo e=>kp d o e
 have hS₁:=kp _ _ hS;refine wpAny_ite_split (λ_=>?_) (λhab=>absurd (by decide +kernel) hab);refine wpAny_bind (wpAny_rule ?_);refine wpAny_bind ?_;show wpAny _ _ (updateSeq S (·.push .none) >>= λ_=>updateSeq S (·.pop)) _ _ _;refine wpAny_bind (wpAny_updateSeq hS₁ rfl ?_);have hS₂:=XR (Obj.mapSeq (·.push Value.none)) hS₁ rfl;refine wpAny_updateSeq (hz:=by seq_fits) hS₂ rfl ?_;have hS₃:=XR (Obj.mapSeq (·.pop)) hS₂ rfl;have up:∀b o,b≠S->(s.heap.push itO).get? b=some o->(((s.heap.push itO).update S (Obj.mapSeq (·.push Value.none))).update S (Obj.mapSeq (·.pop))).get? b=some o:=λb o hb e=>(XM _ _ (Ne.symm hb)).trans ((XM _ _ (Ne.symm hb)).trans e)
 refine wpAny_pure ⟨plainId_quiet F.plain_extend_loop _,key _ _ _ (hit₁.at λo e=>up _ o (Ne.symm hSI) e) (hd₁.at' λo e=>up _ o (Ne.symm hSr) e) (λb o hb e=>up b o hb (kp b o e)) hS₃⟩
theorem call_list_dict{Q:Value->Shared->Prop}{d:Addr}{kvs:List (K×Value)}{ep:Nat}(hh:A.handled=none)(hm:(d==sysModules)=false)(hr:s.heap.DictAt knd d kvs ep)(hlen:kvs.length<=sizeLine)
  (hQ:∀h' tk acc' c',(∀b o,s.heap.get? b=some o->h'.get? b=some o) ->
   h'.get? s.heap.objs.size=some {cls:=.type "list",dict:=none,data:=.seq acc' c',slots:=#[]}->ItemsOf (λi v=>∃k x,kvs[i]?=some (k,x)/\knd.is k v=true) acc' kvs.length->Q (.ref s.heap.objs.size) {s with heap:=h',toks:=tk}):
  wpAny (model prog w) A (call (.type "list") [.ref d]) Q E s:=by
 refine callType_codes (Q₁:=λobj s₁=>obj=.ref s.heap.objs.size/\s₁={s with heap:=s.heap.push {cls:=.type "list",data:=.seq #[]}}) F.called_list (F.typeCall_list_1 _) F.entry_list_init
  (code_list_new _ ⟨rfl,rfl⟩) λobj s₁ h₁=>?_
 obtain⟨rfl,rfl⟩:=h₁;generalize hG:s.heap.push {cls:=.type "list",data:=.seq #[]}=G;have hS:G.get? s.heap.objs.size=some {cls:=.type "list",data:=.seq #[]}:=by rw[<-hG];exact WR _ rfl
 have gk:∀b o,s.heap.get? b=some o->G.get? b=some o:=λb o e=>by rw[<-hG];exact WG _ e
 generalize hSS:s.heap.objs.size=S at hS;refine⟨⟨_,hS,rfl⟩,F.args_list_init_2 _ _,?_⟩;show wpAny _ _ (do let old <-Builtin.List.listItems (.ref S);Builtin.List.listUpdate (.ref S) (λ_=>#[]);letGo old.toList.reverse;Builtin.List.listExtendWith (.ref S) (.ref d) .none) _ _ _;refine wpAny_bind ?_;unfold Builtin.List.listItems;refine wpAny_bind (wpAny_seqItems hS rfl (wpAny_pure ?_));show wpAny _ _ (updateSeq S (λ_=>#[]) >>= λ_=>letGo (#[]:Array Value).toList.reverse >>= λ_=>Builtin.List.listExtendWith (.ref S) (.ref d) .none) _ _ _;refine wpAny_bind (wpAny_updateSeq hS rfl ?_);have hS₂:=XR (Obj.mapSeq (λ_=>(#[]:Array Value))) hS rfl;have nS:∀b o,s.heap.get? b=some o->b≠S:=λb o e z=>by rw[z,<-hSS]at e;exact absurd (WL e) (Wb _)
 have oth:∀b o,s.heap.get? b=some o->(G.update S (Obj.mapSeq (λ_=>(#[]:Array Value)))).get? b=some o:=
  λb o e=>(XM _ _ (Ne.symm (nS b o e))).trans (gk b o e)
 refine wpAny_bind (wpAny_letGo ?_);refine extend_dict (A:=A.in1) (knd:=knd) hh hm (hr.at' λo e=>oth d o e) hlen S .none _ hS₂ λh' tk acc' c' hk hS' hacc=>?_;exact⟨rfl,by rw[<-hSS];exact hQ h' tk acc' c' (λb o e=>hk b o (nS b o e) (oth b o e)) (by rw[hSS];exact hS') hacc⟩
end
end PySem
namespace L2
open PySem PySem.Spec PyProof.Rows
variable{C a b dx f:Addr}{CX:NC}{E:Value->Shared->Prop}{H H' H1 H2:Hp}{X:Cx}{an od:Option Addr}{cdv doc oc pm:Value}{es:List Expr}{fd:FuncData}{h:Heap}{name qual x:Str}{o:HO}{osl:Array (Option Value)}{params:Arguments}{pins:List (Addr×Obj)}{pl:Sem Bool}{pos:Pos}{ps:List Str}{s:Shared}{scope:Scope}{sp:Sp}{us:List Value}{α β:Type}{σ:St}
theorem GL(hc:X.calm=true):DT X (.type "list") (λxs H Q=>∃(p:Addr) (kvs:List (CF×V)),xs=[.ref p]/\Rd H p (.dK kvs)/\∀l,H l=none->Q (.ref l) (Ad H l (.lst (kvs.map λq=>kV q.1)))):=by intro pins s σ H xs us Q I r h;obtain⟨p,kvs,rfl,hq,q⟩:=h;obtain⟨u,rfl,rx⟩:=Fz r;cases rx;obtain⟨z,hd,vs,rel,dd⟩:=FN I.hok hq;obtain⟨ep,da⟩:=dd.dictAt;have hl:=rel.length;refine call_list_dict (I.ok.hd hc) hd da (by lia) λh' tk acc c' kp e hacc=>?_;refine⟨.ref s.heap.objs.size,_,I.laid (t':=tk) kp (Nat.le_refl _) (show As X.prog X.w _ h' _ (.lst (kvs.map λq=>kV q.1)) from⟨by rw[List.length_map];exact z,acc.toList,c',?_,by simpa using e⟩),rfl,q _ (I.hok.fresh (Nat.le_refl _))⟩;refine Lh (by have z:=hacc.1;rw[List.length_map];simp only[Array.length_toList];lia) λi x u e1 e2=>?_;obtain⟨k,x',hk,is⟩:=hacc.2 i u (by simpa using e2);rw[WO]at e1;obtain⟨⟨k',v'⟩,h1,rfl⟩:=W5.mp e1;obtain⟨y,hy,ry⟩:=E2 rel h1;rw[hk]at hy;cases hy;obtain rfl:k'=k:=ry.1;exact Qb is
def G8(mg:Str->Option Value)(h:Heap):Prop:=∃bm ob,mg "__builtins__"=some (.ref bm)/\bm≠builtinsNs/\h.get? bm=some ob/\ob.cls=.type "module"/\ob.dict=some builtinsNs/\ob.data=.plain
def Qc(ts:List Addr)(H:Hp):Prop:=(∀b,H b=none\/(∃o xs,H b=some (.frz o (.lst xs)))\/(b∈ts/\H b=some (.tbl #[])))/\∀b∈ts,H b=some (.tbl #[])
def OZ(K:PySem.W.Frag)(cts:List (Addr×Addr)):Prop:=∀q∈cts,PySem.W.codeHdIn K q.1 q.2=true/\K.lookup q.2=none
theorem M6{P:Program}{w:World}{K:PySem.W.Frag}{mg mb:Str->Option Value}{CX:NC}{k:Nat}{fa:Addr}{fd:FuncData}{sp:Sp}{s₁:Shared}{vs:List Value}{ns:List Int}{cts:List (Addr×Addr)}
  (KX:K.In s₁.heap) (hns:s₁.heap.Ns mainGlobals mg) (hb:s₁.heap.Ns builtinsNs mb) (hbb:∀x:Str,x≠"__name__"->mb x=bootBuiltins x) (hlim:s₁.heap.NoLimit) (hbm:G8 mg s₁.heap) (hg:s₁.gens=#[])
  (hT:OZ K cts) (hT2:∀q∈cts,s₁.heap.get? q.2=some (PySem.W.tabObj #[]))
  (ha:s₁.heap.get? a=some {cls:=.type "list",data:=.seq vs.toArray}) (hi:IntsAre vs ns) (hl:ns.length<=sizeLine) (hr:BU k callerA)
  (F:∀base:Heap,K.In base->base.Ns mainGlobals mg->G8 mg base->Di P w K mg base CX k fa fd [x] sp) (hbind:∀(s:Shared) (u:Value),BindsTo s fd ⟨[u],[]⟩ [(x,u)])
  (hsp:∀H:Hp,Qc (cts.map (·.2)) H->Ac K H a (ns.map V.int)->sp [.ref a] H (λv _=>v=.bl true) λ_ _ _=>False)
  (hCX:∀H e s',CX [] H s₁ (λ_ _ _=>False) e s'->False):
  codeAny (model P w) callerA (.call (.ref fa) ⟨[.ref a],[]⟩) (λr s'=>r=.ok (.ret (.bool true))/\OldK s₁.heap s'.heap/\s'.os=s₁.os/\AllBare s'.gens) s₁:=by
 have rv:=Hw hi;have lenV:=hi.length
 have atT:∀b∈cts.map (·.2),s₁.heap.get? b=some (PySem.W.tabObj #[])/\K.lookup b=none/\isCodeTable s₁.heap b:=λb hb=>by obtain⟨q,hq,rfl⟩:=Wd.mp hb;exact⟨hT2 q hq,(hT q hq).2,((PySem.W.codeHd_of_K KX (hT q hq).1).tab (hT2 q hq)).isCodeTable⟩
 have aT:a∉cts.map (·.2):=λz=>by have e:=(atT a z).1;rw[ha]at e;cases e
 have core:∀H:Hp,Qc (cts.map (·.2)) H->Ac K H a (ns.map V.int)->DR P w H s₁.heap->(∀b,H b≠none->b=a\/b∈cts.map (·.2))->(H a≠none->K.lookup a=none) ->
   codeAny (model P w) callerA (.call (.ref fa) ⟨[.ref a],[]⟩) (λr s'=>r=.ok (.ret (.bool true))/\OldK s₁.heap s'.heap/\s'.os=s₁.os/\AllBare s'.gens) s₁:=by
  intro H hO hS hok hA hK;have base_of:∀{b:Addr} {o:Obj},s₁.heap.get? b=some o->H b=none->(Hg s₁.heap H).get? b=some o:=λe n=>NE e n
  have noA:∀{b:Addr} {o:Obj},s₁.heap.get? b=some o->(∀xs n,o.data≠.seq xs n)->(∀xs,o.data≠.fields xs)->H b=none:=λ{b o} e d d2=>by
   cases q:H b with
   |none=>rfl
   |some u =>
    rcases hA b (by rw[q];simp) with e'|e'
    ·subst e';rw[ha]at e;cases e;exact (d _ _ rfl).elim
    ·rw[(atT b e').1]at e;cases e;exact (d2 _ rfl).elim
  have nsK:∀{b:Addr} {m:Str->Option Value},s₁.heap.Ns b m->(Hg s₁.heap H).Ns b m:=λ{b m} ⟨o,es,ep,e,d,r⟩=>⟨o,es,ep,base_of e (noA e (λ_ _ z=>by rw[d]at z;cases z) (λ_ z=>by rw[d]at z;cases z)),d,r⟩
  have hKb:K.In (Hg s₁.heap H):=λb o e=>base_of (KX b o e) (by
   cases q:H b with
   |none=>rfl
   |some u =>
    rcases hA b (by rw[q];simp) with e'|e'
    ·subst e';rw[hK (by rw[q];simp)]at e;cases e
    ·rw[(atT b e').2.1]at e;cases e)
  have hM:Uy K mg (Hg s₁.heap H):=⟨hKb,nsK hns,⟨mb,nsK hb,hbb⟩,let ⟨mc,h1,h2⟩:=hlim;⟨mc,nsK h1,h2⟩⟩
  have hB:G8 mg (Hg s₁.heap H):=by obtain⟨bm,ob,b1,b2,b3,b4,b5,b6⟩:=hbm;exact⟨bm,ob,b1,b2,base_of b3 (noA b3 (λ_ _ z=>by rw[b6]at z;cases z) (λ_ z=>by rw[b6]at z;cases z)),b4,b5,b6⟩
  have e0:JW P w K mg (Hg s₁.heap H) callerA [] s₁ H:=⟨rfl,hM,λb o e=>Ox e,Nat.le_of_eq (MI _ _),trivial,λb hb=>absurd (show b∈([]:List Addr) from hb) (by simp),hok,.of_eq hg⟩;refine codeAny_mono ((F _ hKb (nsK hns) hB).run callerA [] s₁ H ⟨[.ref a],[]⟩ [.ref a] [.ref a] _ _ hr e0 (hbind s₁ (.ref a)) (.cons rfl .nil) (hsp H hO hS)) λr s' h=>?_;cases r with
  |error e=>exact (hCX H e s' h).elim
  |ok fl =>
   cases fl with
   |next=>exact False.elim h
   |brk=>exact False.elim h
   |cont=>exact False.elim h
   |ret u =>
    obtain⟨v,H',os,bare,un,hok',r',q⟩:=h;have q':v=.bl true:=q;subst q';obtain rfl:u=Value.bool true:=r'
    have keep:∀b o,s₁.heap.get? b=some o->b∉cts.map (·.2)->s'.heap.get? b=some o:=λb o e nb=>by
     cases q:H b with
     |none=>exact un.keep b o e q (by intro z;exact absurd (show b∈([]:List Addr) from z) (by simp)) (by simp)
     |some u =>
      rcases hO.1 b with z|⟨ob,xs,z⟩|⟨z,_⟩
      ·rw[q]at z;cases z
      ·have z2:=un.frzs b ob _ z;obtain⟨e1,_⟩:=hok b _ z;obtain⟨e2,_⟩:=hok' b _ z2;rw[e]at e1;cases e1;exact e2
      ·exact absurd z nb
    have tabs:∀b∈cts.map (·.2),∃more,s'.heap.get? b=some {cls:=.none,data:=.fields ((#[]:Array Value)++more)}:=λb hb=>by obtain⟨more,z⟩:=un.tbls b #[] (hO.2 b hb);exact⟨more,hok' b _ z⟩
    refine⟨rfl,⟨λb o e=>?_,λb o e=>?_⟩,os,bare⟩
    ·by_cases hb:b∈cts.map (·.2)
     ·obtain⟨more,z⟩:=tabs b hb;have e1:=(atT b hb).1;rw[e]at e1;cases e1;exact .inr (.inl ⟨(atT b hb).2.2,rfl,#[],more,rfl,z⟩)
     ·exact .inl (keep b o e hb)
    ·by_cases hb:b∈cts.map (·.2)
     ·obtain⟨more,z⟩:=tabs b hb;exact⟨_,z⟩
     ·exact⟨o,keep b o e hb⟩
 cases hk:K.lookup a with
 |some o =>
  have e:=KX a o hk;rw[ha]at e;cases e;refine core (λb=>if b∈cts.map (·.2) then some (.tbl #[]) else none) ⟨λb=>?_,λb hb=>if_pos hb⟩ (.inr ⟨_,vs.toArray,_,hk,rfl,rfl,rfl,by rw[List.size_toArray,lenV];exact hl,by simpa using rv⟩) (λb u z=>?_) (λb z=>?_) λz=>absurd (if_neg aT) z
  ·by_cases hb:b∈cts.map (·.2)
   ·exact .inr (.inr ⟨hb,if_pos hb⟩)
   ·exact .inl (if_neg hb)
  ·by_cases hb:b∈cts.map (·.2)
   ·have z':=(if_pos hb).symm.trans z;cases z';exact (atT b hb).1
   ·have z':=(if_neg hb).symm.trans z;cases z'
  ·by_cases hb:b∈cts.map (·.2)
   ·exact .inr hb
   ·exact absurd (if_neg hb) z
 |none =>
  have at1:∀b,b∉cts.map (·.2)->b=a->(if b∈cts.map (·.2) then some (HO.tbl #[]) else if b=a then some (.frz {cls:=.type "list",data:=.seq vs.toArray} (.lst (ns.map V.int))) else none)=some (.frz {cls:=.type "list",data:=.seq vs.toArray} (.lst (ns.map V.int))):=λb h1 h2=>by rw[if_neg h1,if_pos h2]
  have at2:∀b,b∉cts.map (·.2)->b≠a->(if b∈cts.map (·.2) then some (HO.tbl #[]) else if b=a then some (.frz {cls:=.type "list",data:=.seq vs.toArray} (.lst (ns.map V.int))) else none)=none:=λb h1 h2=>by rw[if_neg h1,if_neg h2]
  refine core (λb=>if b∈cts.map (·.2) then some (.tbl #[]) else if b=a then some (.frz {cls:=.type "list",data:=.seq vs.toArray} (.lst (ns.map V.int))) else none) ⟨λb=>?_,λb hb=>if_pos hb⟩ (.inl (.inr ⟨{cls:=.type "list",data:=.seq vs.toArray},at1 a aT rfl⟩)) (λb u z=>?_) (λb z=>?_) λ_=>hk
  ·by_cases hb:b∈cts.map (·.2)
   ·exact .inr (.inr ⟨hb,if_pos hb⟩)
   ·by_cases hba:b=a
    ·exact .inr (.inl ⟨_,_,at1 b hb hba⟩)
    ·exact .inl (at2 b hb hba)
  ·by_cases hb:b∈cts.map (·.2)
   ·have z':=(if_pos hb).symm.trans z;cases z';exact (atT b hb).1
   ·by_cases hba:b=a
    ·have z':=(at1 b hb hba).symm.trans z;cases z';subst hba;exact⟨ha,by rw[WD];exact hl,vs,_,rv,ha⟩
    ·have z':=(at2 b hb hba).symm.trans z;cases z'
  ·by_cases hb:b∈cts.map (·.2)
   ·exact .inr hb
   ·by_cases hba:b=a
    ·exact .inl hba
    ·exact absurd (at2 b hb hba) z
abbrev CH:HO:=.ext λ_=>True
theorem G9{P:Program}{w:World}{o:Obj}(e:h.get? a=some o):As P w H h a (.frz o CH):=⟨e,trivial,⟨o,e⟩,λ_ _ _ _=>trivial⟩
def Oa(oc:Obj)(q:Str):Prop:=∃vs t,oc.data=.fields vs/\vs[1]?=some (.str q t)
def BL(pos:Pos)(q:Str)(P:Addr)(H:Hp):Prop:=∃ps:Array Value,H P=some (.tbl ps)/\TriplesOk ps.toList /\
 ∀cv,codeAmong pos ps.toList=some cv->∃c' oc,cv=.ref c'/\H c'=some (.frz oc CH)/\Oa oc q
variable{q:Str}
theorem BL.same{P:Addr}(t:BL pos q P H)(e:AF H H'):BL pos q P H':=by obtain⟨ps,h1,h2,h3⟩:=t;refine⟨ps,e _ _ h1,h2,λcv hc=>?_⟩;obtain⟨c',oc,h4,h5,h6⟩:=h3 cv hc;exact⟨c',oc,h4,e _ _ h5,h6⟩
theorem BL.start{P:Addr}(h:H P=some (.tbl #[])):BL pos q P H:=⟨#[],h,trivial,λ_ z=>by cases z⟩
def BX(P:Addr)(H H':Hp):Prop:=∀b o,b≠P->H b=some o->H' b=some o
theorem AF.t{P:Addr}(e:AF H H'):BX P H H':=λb o _ h=>e b o h
theorem BX.trans{P:Addr}(a:BX P H H1)(b:BX P H1 H2):BX P H H2:=λc o n h=>b c o n (a c o n h)
abbrev Py(q:Str)(params:Arguments)(body:Expr)(scope:Scope)(clos:List (Str×Addr))(pm:Value)(c':Addr)(ctv:Value):Obj:=PySem.W.kla_obj "<lambda>" q params body scope clos pm c' ctv
def IL(q:Str)(params:Arguments)(body:Expr)(scope:Scope)(clos:List (Str×Addr))(f:Addr)(H:Hp):Prop:=
 ∃pm c' ctv oc,H f=some (.frz (Py q params body scope clos pm c' ctv) CH)/\H c'=some (.frz oc CH)/\Oa oc q
theorem IL.same{body:Expr}{clos:List (Str×Addr)}(l:IL q params body scope clos f H)(e:AF H H'):IL q params body scope clos f H':=by obtain⟨pm,c',ctv,oc,h1,h2,h3⟩:=l;exact⟨pm,c',ctv,oc,e _ _ h1,e _ _ h2,h3⟩
def VS(P:Addr)(pos:Pos)(q:Str)(params:Arguments)(body:Expr)(scope:Scope)(clos:List (Str×Addr)):TE:=λ_ H Q=>BL pos q P H /\
 ∀f H',BX P H H'->BL pos q P H'->H f=none->IL q params body scope clos f H'->Q (.ref f) H'
theorem Ra{c P:Addr}{body:Expr}{clos:List (Str×Addr)}(hB:G8 X.mg X.base)(hcode:X.env.code=.ref c)(hc:PySem.W.codeHdIn X.K c P=true)
  (hcl:closureFor scope X.env=pure clos) (hdef:defaultsOf params X.env=([],[])):PE X (.Lambda params body scope pos) (VS P pos (X.env.qual++"<lambda>") params body scope clos):=by
 intro pins s σ H Q I h;obtain⟨⟨ps,hP,ht,hh⟩,hq⟩:=h;refine PySem.W.kla_eval hdef ?_;have hPh:s.heap.get? P=some (PySem.W.tabObj ps):=I.hok P _ hP;have hPl:P<s.heap.objs.size:=WL hPh;have C:PySem.W.CodeHd s.heap c P:=PySem.W.codeHd_of_K I.kIn hc;have hgs:s.heap.Ns mainGlobals X.mg:=I.ok.mod.glob.keeps I.bk;obtain⟨bm,ob,b1,b2,b3,b4,b5,b6⟩:=hB;have b3':=I.bk _ _ b3
 have hgP:mainGlobals≠P:=λq=>by obtain⟨o,es,ep,e,hd,_⟩:=hgs;rw[q,hPh]at e;cases e;cases hd
 have hbP:bm≠P:=λq=>by rw[q,hPh]at b3';cases b3';cases b4
 have hbG:bm≠mainGlobals:=λq=>by obtain⟨o,es,ep,e,hd,_⟩:=hgs;rw[q,e]at b3';cases b3';rw[hd]at b6;cases b6
 have BA:s.heap.BuiltinsAt X.mg P:=⟨bm,ob,b1,b2,hbG,hbP,b3',b4,b5,b6⟩;have nP:∀b,H b=none->b≠P:=λb e z=>by rw[z,hP]at e;cases e
 have fresh:∀b,s.heap.objs.size<=b->H b=none:=λb hb=>I.hok.fresh hb
 cases hca:codeAmong pos ps.toList with
 |none =>
  refine PySem.W.kla_makeFunction (mg:=X.mg) hcl I.ok.glob hgs hcode C hPh ht hca hgP BA λc' ctv h' tk hx hge hlt hrec htb=>?_;obtain⟨c₂,oc,vs,t,e2,hoc,hd,hv⟩:=hrec;cases e2;have hsz:s.heap.objs.size<=h'.objs.size:=Wm hge (Xc hlt);obtain⟨f,hf⟩:∃f,f=h'.objs.size:=⟨_,rfl⟩;obtain⟨fo,hfo⟩:∃fo,fo=Py (X.env.qual++"<lambda>") params body scope clos ((X.mg "__name__").getD .none) c' ctv:=⟨_,rfl⟩;obtain⟨H',hH'⟩:∃H',H'=Ad (Ad (Ad H P (.tbl (ps++#[rawInt pos.line,rawInt pos.col,.ref c']))) c' (.frz oc CH)) f (.frz fo CH):=⟨_,rfl⟩;have cf:c'≠f:=λz=>by rw[z,hf]at hlt;exact absurd hlt (Wb _)
  have Pc:P≠c':=λz=>absurd (WP hPl hge) (by rw[<-z];exact Wb _)
  have Pf:P≠f:=λz=>absurd (WP hPl hsz) (by rw[<-hf,<-z];exact Wb _)
  have nf:H f=none:=fresh f (by rw[hf];exact hsz);have nc:H c'=none:=fresh c' hge;have oth:∀b,b≠P->b≠c'->b≠f->H' b=H b:=λb h1 h2 h3=>by rw[hH',AI h3,AI h2,AI h1]
  have atP:H' P=some (.tbl (ps++#[rawInt pos.line,rawInt pos.col,.ref c'])):=by rw[hH',AI Pf,AI Pc];exact AC
  have atc:H' c'=some (.frz oc CH):=by rw[hH',AI cf];exact AC
  have atf:H' f=some (.frz fo CH):=by rw[hH'];exact AC
  have keep:∀b o,b≠P->s.heap.get? b=some o->(h'.push fo).get? b=some o:=λb o hb e=>WG _ (hx b o hb e)
  have trk:∀b u,H b=some u->b≠c'/\b≠f:=λb u e=>⟨λz=>(by rw[z,nc]at e;cases e),λz=>(by rw[z,nf]at e;cases e)⟩
  have sm:BX P H H':=λb o hb e=>by rw[oth b hb (trk b o e).1 (trk b o e).2];exact e
  have un:Un (CZ X.stack) [] H H' s.heap (h'.push fo):=by
   refine⟨λb o e n _ _=>keep b o (nP b n) e,λb o e n _ _=>⟨o.slots,keep b o (nP b n) e⟩,λb o e n _=>?_,λb o e _=>?_,λb xs e=>?_,λb o u e=>?_,λb qs e=>?_⟩
   ·have hl:=WL e;rw[oth b (nP b n) (λz=>absurd (WP hl hge) (by rw[z];exact Wb _)) (λz=>absurd (WP hl hsz) (by rw[z,hf];exact Wb _))];exact n
   ·by_cases hb:b=P
    ·rw[hb];exact⟨_,WG _ htb⟩
    ·exact⟨o,keep b o hb e⟩
   ·exact sm b _ (λz=>by rw[z,hP]at e;cases e) e
   ·exact sm b _ (λz=>by rw[z,hP]at e;cases e) e
   ·by_cases hb:b=P
    ·subst hb;rw[hP]at e;cases e;exact⟨_,atP⟩
    ·exact⟨#[],by rw[Array.append_empty];exact sm b _ hb e⟩
  have hok:DR X.prog X.w H' (h'.push fo):=λb u e=>by
   by_cases hbf:b=f
   ·subst hbf;rw[atf]at e;cases e;exact G9 (by rw[hf];exact WR _ (by rw[hfo];rfl))
   ·by_cases hbc:b=c'
    ·subst hbc;rw[atc]at e;cases e;exact G9 (WG _ hoc)
    ·by_cases hb:b=P
     ·subst hb;rw[atP]at e;cases e;exact WG _ htb
     ·rw[oth b hb hbc hbf]at e;refine (I.hok b u e).stay (λd o hd q=>keep d o ?_ q) (λd q=>?_) λd xs q=>?_
      ·rcases hd with z|z
       ·rw[z];exact hb
       ·intro y;rw[y,hP]at z;cases z
      ·exact sm d _ (λy=>by rw[y,hP]at q;cases q) q
      ·exact sm d _ (λy=>by rw[y,hP]at q;cases q) q
  have I':AO X pins σ H' {s with heap:=h'.push fo,toks:=tk}:=I.call (g':=s.gens) (d':=s.drawn) (ch:=[]) un hok I.bare (λb z=>absurd z (by simp));refine⟨.ref f,H',?_,by rw[hf];rfl,hq f H' sm ⟨_,atP,?_,λcv hcv=>?_⟩ nf ⟨(X.mg "__name__").getD .none,c',ctv,oc,by rw[atf,hfo],atc,vs,t,hd,hv⟩⟩
  ·subst hfo;exact I'
  ·rw[Array.toList_append];exact TriplesOk_snoc _ _ _ _ ht
  ·rw[Array.toList_append]at hcv;have e:=codeAmong_snoc (c:=.ref c') ps.toList ht hca;have hcv':codeAmong pos (ps.toList++[rawInt pos.line,rawInt pos.col,.ref c'])=some cv:=hcv;rw[e]at hcv';cases hcv';exact⟨c',oc,rfl,atc,vs,t,hd,hv⟩
 |some cv =>
  obtain⟨c',oc,rfl,hc',co⟩:=hh cv hca;refine PySem.W.kla_makeFunctionHit (mg:=X.mg) hcl I.ok.glob hgs hcode C hPh ht hca BA λctv h' tk hk hsz=>?_;obtain⟨f,hf⟩:∃f,f=h'.objs.size:=⟨_,rfl⟩;obtain⟨fo,hfo⟩:∃fo,fo=Py (X.env.qual++"<lambda>") params body scope clos ((X.mg "__name__").getD .none) c' ctv:=⟨_,rfl⟩;have nf:H f=none:=fresh f (by rw[hf];exact hsz);have keep:∀b o,s.heap.get? b=some o->(h'.push fo).get? b=some o:=λb o e=>WG _ (hk b o e)
  have sm:AF H (Ad H f (.frz fo CH)):=AF.new nf _;have hok:DR X.prog X.w (Ad H f (.frz fo CH)) (h'.push fo):=I.hok.laid keep (by rw[hf];exact hsz) (G9 (by rw[hf];exact WR _ (by rw[hfo];rfl)))
  have un:Un (CZ X.stack) [] H (Ad H f (.frz fo CH)) s.heap (h'.push fo):=by refine⟨λb o e n _ _=>keep b o e,λb o e n _ _=>⟨o.slots,keep b o e⟩,λb o e n _=>?_,λb o e _=>⟨o,keep b o e⟩,λb xs e=>sm _ _ e,λb o u e=>sm _ _ e,λb qs e=>⟨#[],by rw[Array.append_empty];exact sm _ _ e⟩⟩;rw[AI (λz=>absurd (WP (WL e) hsz) (by rw[z,hf];exact Wb _))];exact n
  have I':AO X pins σ (Ad H f (.frz fo CH)) {s with heap:=h'.push fo,toks:=tk}:=I.call (g':=s.gens) (d':=s.drawn) (ch:=[]) un hok I.bare (λb z=>absurd z (by simp));refine⟨.ref f,Ad H f (.frz fo CH),?_,by rw[hf];rfl,hq f _ sm.t (BL.same ⟨ps,hP,ht,hh⟩ sm) nf ⟨(X.mg "__name__").getD .none,c',ctv,oc,by rw[AC,hfo],sm _ _ hc',co⟩⟩;subst hfo;exact I'
abbrev Be(cl:List (Str×Addr)):List Addr:=cl.map (·.2)
def Hf(cl:List (Str×Addr))(H:Hp):Hp:=λb=>if b∈Be cl then none else H b
def Tf(cl:List (Str×Addr))(H H':Hp):Hp:=λb=>if b∈Be cl then H b else H' b
def Cb(cl:List (Str×Addr))(vs:List V)(H:Hp):Prop:=Paired (λ(p:Str×Addr) (v:V)=>∃u o,Ao v u/\o.data=.cell (some u)/\H p.2=some (.frz o CH)) cl vs
theorem Bh{cl:List (Str×Addr)}(h:b∉Be cl):Hf cl H b=H b:=if_neg h
theorem HC{cl:List (Str×Addr)}(h:b∈Be cl):Hf cl H b=none:=if_pos h
theorem Ci{cl:List (Str×Addr)}(h:b∉Be cl):Tf cl H H' b=H' b:=if_neg h
theorem LL{cl:List (Str×Addr)}(h:b∈Be cl):Tf cl H H' b=H b:=if_pos h
theorem Paired.left{F:α->β->Prop}:∀{l₁:List α} {l₂:List β},Paired F l₁ l₂->∀a∈l₁,∃b,F a b
 |_,_,.nil,_,h=>by cases h
 |_,_,.cons r t,a,h=>by
  rcases WY.mp h with rfl|h
  ·exact⟨_,r⟩
  ·exact Paired.left t a h
theorem Paired.at{F:α->β->Prop}:∀{l₁:List α} {l₂:List β},Paired F l₁ l₂->∀{i:Nat} {b:β},l₂[i]?=some b->∃a,l₁[i]?=some a/\F a b
 |_,_,.nil,_,_,h=>by simp at h
 |_,_,.cons r _,0,_,h=>by simp at h;subst h;exact⟨_,rfl,r⟩
 |_,_,.cons _ t,i+1,_,h=>by obtain⟨a,h1,h2⟩:=Paired.at t (i:=i) (by simpa using h);exact⟨a,by simpa using h1,h2⟩
theorem Paired.lens{F:α->β->Prop}:∀{l₁:List α} {l₂:List β},Paired F l₁ l₂->l₁.length=l₂.length
 |_,_,.nil=>rfl
 |_,_,.cons _ t=>by simp[Paired.lens t]
section
variable{cl:List (Str×Addr)}{vs:List V}
theorem Cb.at(c:Cb cl vs H)(h:b∈Be cl):∃u o,o.data=.cell (some u)/\H b=some (.frz o CH):=by obtain⟨p,hp,rfl⟩:=Wd.mp h;obtain⟨v,u,o,_,h1,h2⟩:=Paired.left c p hp;exact⟨u,o,h1,h2⟩
theorem Cb.same(c:Cb cl vs H)(e:AF H H'):Cb cl vs H':=Paired.mapP c λ_ _ ⟨u,o,h1,h2,h3⟩=>⟨u,o,h1,h2,e _ _ h3⟩
theorem Cb.out(c:Cb cl vs H){u:HO}(h:H b=some u)(n:∀o,u≠.frz o CH):b∉Be cl:=λz=>by obtain⟨_,o,_,e⟩:=c.at z;rw[h]at e;exact n o (Option.some.inj e)
theorem Ob(h0:∀b∈Be cl,H b=none)(e:AF H H'):AF H (Hf cl H'):=λb o q=>by rw[Bh (λz=>by rw[h0 b z]at q;cases q)];exact e b o q
theorem C4(h:H b=none):Hf cl H b=none:=by
 unfold Hf;split
 ·rfl
 ·exact h
theorem Oc(e:AF (Hf cl H) H'):AF H (Tf cl H H'):=λb o q=>by
 by_cases hb:b∈Be cl
 ·rw[LL hb];exact q
 ·rw[Ci hb];exact e b o (by rw[Bh hb];exact q)
theorem DR.unC{P:Program}{w:World}(x:DR P w H h)(n:∀b∈Be cl,∀u,H b=some u->∃o,u=.frz o CH):DR P w (Hf cl H) h:=λb u e=>by
 have hb:b∉Be cl:=λz=>by rw[HC z]at e;cases e
 rw[Bh hb]at e;refine (x b u e).stay (λ_ _ _ q=>q) (λc q=>?_) λc xs q=>?_
 ·rw[Bh (λz=>by obtain⟨o,y⟩:=n c z _ q;cases y)];exact q
 ·rw[Bh (λz=>by obtain⟨o,y⟩:=n c z _ q;cases y)];exact q
end
def Rb(P:Program)(w:World)(K:PySem.W.Frag)(mg:Str->Option Value)(base:Heap)(k i:Nat)(t:TA):TE:=λσ H Q=>∃f fd ps sp oc od fd' sl,σ[i]?=some (some (.ref f))/\Di P w K mg base (GH P w) k f fd ps sp/\C7 K fd ps [] /\
 H f=some (.frz ⟨oc,od,.func fd',sl⟩ CH)/\t σ H λvs H1=>H1 f=some (.frz ⟨oc,od,.func fd',sl⟩ CH)/\sp vs H1 Q E0
theorem Od{k:Nat}{p pos:Pos}{e:Expr}{t:TA}(i:Nat)(hr:BU k X.A)(ha:PA X (e::es) t)(hN:X.N[i]?=some x:=by rfl)
  (hv:Si X.env.scope x:=by first|exact Or.inl rfl|exact Or.inr (Or.inl rfl)|exact Or.inr (Or.inr rfl)) (hdb:(x==("__debug__":Str))=false:=by decide) (hcd:(x==("__classdict__":Str))=false:=by decide)
  (he:starEach (e::es) X.env=(false,eval e X.env)::starEach es X.env:=by rfl) (hpl:(backTo pos (starEach es X.env)).any (·.1)=false:=by rfl):
  PE X (.Call (.Name x p) (e::es) [] pos) (Rb X.prog X.w X.K X.mg X.base k i t):=by
 intro pins s σ H Q I h;obtain⟨f,fd,ps,sp,oc,od,fd',sl,hi,F,hb,hf,h⟩:=h
 have fin:wpAny (model X.prog X.w) X.A (callWith pos (.ref f) [] (backTo pos (starEach (e::es) X.env)) []) (EP X pins σ Q) X.xe s:=by
  refine PySem.W.callWith_F ⟨oc,od,fd',sl,(I.hok f _ hf).1⟩ (BJ (ha pos pins s σ H _ I h) λus s1 ⟨vs,H1,I1,r,hf1,q⟩=>⟨⟨oc,od,fd',sl,(I1.hok f _ hf1).1⟩,?_⟩) he hpl;have hl:us.length=ps.length:=by rw[<-r.length];exact F.len _ _ _ _ q
  have bd:=hb s1 us I1.kIn (by rw[W6];exact hl);rw[W6]at bd;refine wpAny_call (codeAny_mono (F.run X.A X.stack s1 H1 ⟨us,[]⟩ us vs Q E0 hr I1.env0 bd r q) λrs s2 hq=>?_);rcases rs with er|fl
  ·exact Dx (P:=X.prog) (w:=X.w) pins σ H1 s1 er s2 I1 hq
  ·cases fl with
   |ret u=>exact I1.after hq
   |next=>exact False.elim hq
   |brk=>exact False.elim hq
   |cont=>exact False.elim hq
 obtain⟨m,hn,hl⟩:=I.loc;obtain⟨u,r,l⟩:=hl i x _ hN hi hv;obtain rfl:u=Value.ref f:=r;refine wpAny_Call_Name_kw ?_;rcases l with⟨hk,hm⟩|⟨hk,c,hc,hcell⟩
 ·exact wpAny_Name (wpAny_loadName_local I.ok.kind hk hn hm fin) hdb
 ·rcases hk with hk|hk
  ·exact wpAny_Name (wpAny_loadName_cell I.ok.kind hk hc hcell fin) hdb
  ·exact wpAny_Name (wpAny_loadName_free I.ok.kind hk hc hcell fin hcd) hdb
def At(σ:St)(is:List Nat)(vs:List V):Prop:=Paired (λ(i:Nat) (v:V)=>σ[i]?=some (some v)) is vs
def Rc(cl:List (Str×Addr))(is:List Nat)(sp:Sp)(t:TA):TE:=λσ H Q=>∃El,At σ is El/\t σ H λvs H1=>∀H1',AF H1 H1'->(∀b∈Be cl,H1 b=none)->Cb cl El H1'->(∀b,b∉Be cl->H1' b=H1 b)->sp vs H1' (λv H2=>Q v (Hf cl H2)) E0
theorem Oe{k:Nat}{p pos:Pos}{e:Expr}{t:TA}{cl:List (Str×Addr)}{is:List Nat}(G:Ag X.prog X.w X.K X.mg X.base k f ps sp)(hr:BU k X.A)(hg:Gl X x)(hm:X.mg x=some (.ref f))
  (ha:PA X (e::es) t) (hcl:Paired (λ(i:Nat) (q:Str×Addr)=>X.N[i]?=some q.1/\X.env.kindOf q.1=some .cell/\X.env.cells.lookup q.1=some q.2/\X.fn q.1=true) is cl)
  (hdb:(x==("__debug__":Str))=false:=by decide) (he:starEach (e::es) X.env=(false,eval e X.env)::starEach es X.env:=by rfl) (hpl:(backTo pos (starEach es X.env)).any (·.1)=false:=by rfl):
  PE X (.Call (.Name x p) (e::es) [] pos) (Rc cl is sp t):=by
 obtain⟨⟨fd,F,hb⟩,kp⟩:=G;intro pins s σ H Q I h;obtain⟨El,hAt,h⟩:=h;refine wpAny_Call_Name_kw (C6 I hg hm ?_ hdb);refine Xq (h₀:=X.base) I.ok.mod.kin kp (BJ (ha pos pins s σ H _ I h) λus s1 ⟨vs,H1,I1,r,q⟩=>⟨I1.kIn,?_⟩) he hpl
 have each:∀{is:List Nat} {cl:List (Str×Addr)} {El:List V},Paired (λ(i:Nat) (q:Str×Addr)=>X.N[i]?=some q.1/\X.env.kindOf q.1=some .cell/\X.env.cells.lookup q.1=some q.2/\X.fn q.1=true) is cl->At σ is El ->
   Paired (λ(p:Str×Addr) (v:V)=>∃u o,Ao v u/\o.data=.cell (some u)/\s1.heap.get? p.2=some o/\X.s₀.heap.objs.size<=p.2/\H1 p.2=none/\X.env.locals≠p.2) cl El:=by
  intro is cl El h1 h2
  induction h1 generalizing El with
  |nil=>cases h2;exact .nil
  |cons a _ ih =>
   cases h2 with
   |cons b h2 =>
    refine .cons ?_ (ih h2);obtain⟨n1,n2,n3,n4⟩:=a;obtain⟨m,hn,hl⟩:=I1.loc;obtain⟨u,ru,l⟩:=hl _ _ _ n1 b (.inr (.inl n2));rcases l with⟨hk,_⟩|⟨_,c,hc,o,ho,hd⟩
    ·rw[n2]at hk;cases hk
    ·rw[n3]at hc;cases hc;exact⟨u,o,ru,hd,ho,I1.ok.cab _ _ n4 n3,I1.freeC _ _ n3,(I1.cne _ _ n3).symm⟩
 have cells:=each hcl hAt
 have cin:∀b∈Be cl,∃u o,o.data=.cell (some u)/\s1.heap.get? b=some o/\X.s₀.heap.objs.size<=b/\H1 b=none/\X.env.locals≠b:=λb hb=>by obtain⟨p,hp,rfl⟩:=Wd.mp hb;obtain⟨v,u,o,_,h1,h2,h3,h4,h5⟩:=Paired.left cells p hp;exact⟨u,o,h1,h2,h3,h4,h5⟩
 obtain⟨H1',hH⟩:∃H1':Hp,H1'=λb=>if b∈Be cl then (s1.heap.get? b).map (λo=>HO.frz o CH) else H1 b:=⟨_,rfl⟩
 have hin:∀b∈Be cl,∀o,s1.heap.get? b=some o->H1' b=some (.frz o CH):=λb hb o e=>by rw[hH];show (if _ then _ else _)=_;rw[if_pos hb,e];rfl
 have hout:∀b,b∉Be cl->H1' b=H1 b:=λb hb=>by rw[hH];exact if_neg hb
 have sm:AF H1 H1':=λb o q=>by rw[hout b (λz=>by obtain⟨_,_,_,_,_,n,_⟩:=cin b z;rw[n]at q;cases q)];exact q
 have ck:Cb cl El H1':=by
  have go:∀{cl':List (Str×Addr)} {fv:List V},Paired (λ(p:Str×Addr) (v:V)=>∃u o,Ao v u/\o.data=.cell (some u)/\s1.heap.get? p.2=some o/\X.s₀.heap.objs.size<=p.2/\H1 p.2=none/\X.env.locals≠p.2) cl' fv->(∀q∈cl',q.2∈Be cl)->Cb cl' fv H1':=by
   intro cl' fv h1 h2
   induction h1 with
   |nil=>exact .nil
   |cons a _ ih =>
    obtain⟨u,o,r1,r2,r3,_⟩:=a;exact .cons ⟨u,o,r1,r2,hin _ (h2 _ Wh) o r3⟩ (ih λq hq=>h2 q (WW _ hq))
  exact go cells λq hq=>Wd.mpr ⟨q,hq,rfl⟩
 have q1:=q H1' sm (λb hb=>by obtain⟨_,_,_,_,_,n,_⟩:=cin b hb;exact n) ck hout;have hl:us.length=ps.length:=by rw[<-r.length];exact F.len _ _ _ _ q1
 have bd:=hb s1 us I1.kIn (by rw[W6];exact hl);rw[W6]at bd
 have stk:∀b∈CZ X.stack,b∉Be cl:=λb hb z=>by
  obtain⟨_,o,_,ho,hs,_,hL⟩:=cin b z;rcases WY.mp (I1.stkSub b hb) with y|y
  ·exact hL y.symm
  ·obtain⟨_,o',ho',_⟩:=I1.ok.funs.mem y;exact absurd (WP (WL ho') hs) (Wb _)
 have hok1:DR X.prog X.w H1' s1.heap:=λb u e=>by
  by_cases hb:b∈Be cl
  ·obtain⟨_,o,_,ho,_⟩:=cin b hb;rw[hin b hb o ho]at e;cases e;exact G9 ho
  ·rw[hout b hb]at e;exact (I1.hok b u e).stay (λ_ _ _ q=>q) (λc q=>sm _ _ q) λc xs q=>sm _ _ q
 have e0:JW X.prog X.w X.K X.mg X.base X.A X.stack s1 H1':=by
  have e:=I1.env0;refine⟨e.frames,e.mod,λb o q=>⟨(e.bs b o q).1,?_⟩,e.bsz,e.funs,λb hb=>?_,hok1,e.bare⟩
  ·rw[hout b (λz=>by
    obtain⟨_,_,_,_,hs,_⟩:=cin b z;exact absurd (WP (WL q) (Wm I1.ok.bsz hs)) (Wb _))]
   exact (e.bs b o q).2
  ·rw[hout b (stk b hb)];exact e.frf b hb
 refine wpAny_call (codeAny_mono (F.run X.A X.stack s1 H1' ⟨us,[]⟩ us vs _ E0 hr e0 bd r q1) λrs s2 hq=>?_);rcases rs with er|fl
 ·obtain⟨_,_,_,_,_,_,_,_,z⟩:=hq;exact z.elim
 ·cases fl with
  |next=>exact False.elim hq
  |brk=>exact False.elim hq
  |cont=>exact False.elim hq
  |ret u =>
   obtain⟨v,H2,os,bare,un,hok,rv,q2⟩:=hq
   have fz:∀b∈Be cl,∃o,s1.heap.get? b=some o/\H2 b=some (.frz o CH)/\s2.heap.get? b=some o:=λb hb=>by obtain⟨_,o,_,ho,_⟩:=cin b hb;have z:=un.frzs b o _ (hin b hb o ho);exact⟨o,ho,z,(hok b _ z).1⟩
   have nC:∀{b:Addr} {o:HO},H1 b=some o->b∉Be cl:=λ{b o} e z=>by obtain⟨_,_,_,_,_,n,_⟩:=cin b z;rw[n]at e;cases e
   have un':Un (CZ X.stack) [] H1 (Hf cl H2) s1.heap s2.heap:=by
    refine⟨λb o e n h1 h2=>?_,λb o e n h1 h2=>?_,λb o e n h2=>?_,un.there,λb xs e=>?_,λb o u e=>?_,λb qs e=>?_⟩
    ·by_cases hb:b∈Be cl
     ·obtain⟨o',e1,_,e2⟩:=fz b hb;rw[e]at e1;cases e1;exact e2
     ·exact un.keep b o e (by rw[hout b hb];exact n) h1 h2
    ·exact un.slot b o e (by rw[hout b (stk b h1)];exact n) h1 h2
    ·by_cases hb:b∈Be cl
     ·exact HC hb
     ·rw[Bh hb];exact un.free b o e (by rw[hout b hb];exact n) h2
    ·rw[Bh (nC e)];exact un.tups b xs (sm _ _ e)
    ·rw[Bh (nC e)];exact un.frzs b o u (sm _ _ e)
    ·rw[Bh (nC e)];exact un.tbls b qs (sm _ _ e)
   have hok':DR X.prog X.w (Hf cl H2) s2.heap:=hok.unC λb hb u e=>by obtain⟨o,_,z,_⟩:=fz b hb;rw[z]at e;cases e;exact⟨o,rfl⟩
   exact⟨v,Hf cl H2,I1.call' (ch:=[]) os un' hok' bare (λb z=>absurd z (by simp)),rv,q2⟩
theorem DQ(cl:List (Str×Addr)):∀(names:List (Str×NameKind)) (n:Nat) (acc:List (Str×Addr)),cellsFrom n names (acc++cl)=cellsFrom n names acc++cl
 |[],_,_=>rfl
 | (name,kind)::r,n,acc=>by
  unfold cellsFrom;split
  ·exact DQ cl r (n+1) ((name,n)::acc)
  ·exact DQ cl r n acc
theorem CN:∀{l r:List (Str×α)},(l++r).lookup x=(l.lookup x).or (r.lookup x)
 |[],r=>by simp
 | (k,v)::l,r=>by
  rw[List.cons_append,XZ,XZ];split
  ·rfl
  ·exact CN
theorem HD{f g:α->PUnit->Sem (ForInStep PUnit)}:∀{l:List α},(∀x∈l,f x ⟨⟩=g x ⟨⟩)->forIn l (⟨⟩:PUnit) f=forIn l (⟨⟩:PUnit) g
 |[],_=>by rw[List.forIn_nil,List.forIn_nil]
 |x::r,h=>by
  rw[List.forIn_cons,List.forIn_cons,h x Wh];refine bind_congr λy=>?_;cases y with
  |done b=>rfl
  |yield b=>exact HD λz hz=>h z (WW _ hz)
theorem LM{e1 e2:Env}{v:Value}(h1:e1.scope=e2.scope)(h2:e1.locals=e2.locals)(h3:e1.globals=e2.globals)(h4:e1.cells.lookup x=e2.cells.lookup x)(hk:e1.scope.kind=.function)(hx:e1.kindOf x=some .local\/e1.kindOf x=some .cell):storeName e1 x v=storeName e2 x v:=by
 have k2:e2.kindOf x=e1.kindOf x:=by unfold Env.kindOf;rw[h1]
 have c2:cellOf e1 x=cellOf e2 x:=by unfold cellOf;rw[h4]
 unfold storeName;rw[k2];have hk2:e2.scope.kind=.function:=by rw[<-h1];exact hk
 rcases hx with hx|hx<;>rw[hx]<;>simp[h1,h2,h3,c2,hk2]
theorem Hm{M:Model}{A:Around}{globals:Addr}{binds:List (Str×Value)}{func:Option Addr}{code:Value}{builtins:Addr}{Q:Env->Shared->Prop}{cl:List (Str×Addr)}
  (hk:scope.kind=.function)
  (hkind:∀x∈binds,scope.names.lookup x.1=some .local\/(scope.names.lookup x.1=some .cell/\((cellsFrom (s.heap.objs.size+1) scope.names []).lookup x.1).isSome=true))
  (hout:∀x∈binds,∀c,(cellsFrom (s.heap.objs.size+1) scope.names []).lookup x.1=none->cl.lookup x.1≠some c)
  (hQ:∀s',InCallC s s.heap.objs.size (bindL (λx=>scope.names.lookup x) binds λ_=>none) (cellsFrom (s.heap.objs.size+1) scope.names []) (bindC (λx=>scope.names.lookup x) binds λ_=>none) s' ->
   Q (newEnv scope s.heap.objs.size globals (cellsFrom (s.heap.objs.size+1) scope.names []++cl) qual func code none builtins) s'):
  wpAny M A (newFunctionEnv scope globals cl binds qual func code none builtins) Q E s:=by
 simp only[newFunctionEnv,Option.isSome_none,Bool.false_eq_true,if_false];refine wpAny_bind (wpAny_alloc ?_);refine wpAny_bind (wpAny_layCells _ (λname kind cells=>by cases hkc:kind==NameKind.cell<;>simp[hkc]) _ _ _ _ ?_);have ok:=cellsFrom_ok scope.names (s.heap.push {cls:=.type "frame",data:=.dict #[]}) (s.heap.objs.size+1) [] ⟨λ_ _ hm=>(nomatch hm),List.Pairwise.nil⟩ (by rw[Ww];exact WM _);rw[Ww]at ok;rw[show ({s with heap:=s.heap.push {cls:=.type "frame",data:=.dict #[]}}:Shared).heap.objs.size=s.heap.objs.size+1 from Ww ..];have ca:=DQ cl scope.names (s.heap.objs.size+1) [];rw[List.nil_append]at ca;rw[ca]
 have env2:∀x∈binds,(cellsFrom (s.heap.objs.size+1) scope.names []++cl).lookup x.1=(cellsFrom (s.heap.objs.size+1) scope.names []).lookup x.1:=λx hx=>by
  rw[CN];cases e:(cellsFrom (s.heap.objs.size+1) scope.names []).lookup x.1 with
  |some c=>rfl
  |none =>
   cases e2:cl.lookup x.1 with
   |none=>rfl
   |some c=>exact absurd e2 (hout x hx c e)
 refine wpAny_bind ?_
 rw[HD (g:=λ(x:Str×Value) _=>(do storeName (newEnv scope s.heap.objs.size globals (cellsFrom (s.heap.objs.size+1) scope.names []) qual func code none builtins) x.1 x.2;pure (.yield ⟨⟩):Sem (ForInStep PUnit))) (λx hx=>by
  exact congrArg (λz:Sem Unit=>(do z;pure (ForInStep.yield PUnit.unit):Sem (ForInStep PUnit))) (LM (e1:=newEnv scope s.heap.objs.size globals (cellsFrom (s.heap.objs.size+1) scope.names []++cl) qual func code none builtins) (e2:=newEnv scope s.heap.objs.size globals (cellsFrom (s.heap.objs.size+1) scope.names []) qual func code none builtins) rfl rfl rfl (env2 x hx) hk (by
   rcases hkind x hx with z|z
   ·exact .inl z
   ·exact .inr z.1)))]
 exact wpAny_bindParams (s₀:=s) (env:=newEnv scope s.heap.objs.size globals (cellsFrom (s.heap.objs.size+1) scope.names []) qual func code none builtins)
  _ (λ_ _ _=>rfl) hk binds (λ_=>none) (λ_=>none) _ _
  ⟨⟨⟨_,_,rfl⟩,(Heap.Ns.new s.heap (.type "frame")).keeps (pushCells_keeps _ _),λb o e=>pushCells_keeps _ _ b o (WG _ e),WM _⟩,
   λn c hc=>(ok.empty n c (mem_of_lookup hc)).1,ok.apart,λn c hm=>(ok.empty n c hm).2⟩
  hkind λs' x=>wpAny_pure (hQ s' x)
structure KH(ps fns:List Str)(sc:Scope):Prop where
 kind:sc.kind=.function
 co:sc.isCoroutine=false
 gen:sc.isGenerator=false
 nd:(ps++fns).Nodup
 par:∀x∈ps,sc.names.lookup x=some .local\/sc.names.lookup x=some .cell
 fre:∀x∈fns,sc.names.lookup x=some .free
 all:∀y∈sc.names,y.2=.free->y.1∈fns
 own:∀y∈sc.names,y.2=.cell->y.1∉fns
def U6(P:Program)(w:World)(K:PySem.W.Frag)(mg:Str->Option Value)(base:Heap)(N:List Str)(qual:Str)(scope:Scope)(f:Addr)(cd:Value)(cl:List (Str×Addr))(A:Around)(outer:List Env)(s:Shared)(H:Hp):Cx where
 prog:=P
 w:=w
 K:=K
 mg:=mg
 base:=base
 A:=A.deeper (PySem.W.envX qual scope s.heap.objs.size f cd (cellsFrom (s.heap.objs.size+1) scope.names []++cl))
 N:=N
 s₀:=s
 H₀:=Hf cl H
 env:=PySem.W.envX qual scope s.heap.objs.size f cd (cellsFrom (s.heap.objs.size+1) scope.names []++cl)
 outer:=outer
 stack:=PySem.W.envX qual scope s.heap.objs.size f cd (cellsFrom (s.heap.objs.size+1) scope.names []++cl)::outer
 ex:=[]
 calm:=true
 fn:=λx=>((cellsFrom (s.heap.objs.size+1) scope.names []).lookup x).isSome
 pn:=[]
 xe:=λ_ _=>False
theorem Fs{c:Addr}:∀{names:List (Str×NameKind)} {n:Nat} {acc:List (Str×Addr)},(cellsFrom n names acc).lookup x=some c->(∃k,(x,k)∈names/\k=.cell)\/acc.lookup x=some c
 |[],_,_,h=>.inr h
 | (name,kind)::r,n,acc,h=>by
  unfold cellsFrom at h
  split at h
  ·rename_i hk
   rcases Fs h with⟨k,h1,h2⟩|h
   ·exact .inl ⟨k,WW _ h1,h2⟩
   ·rw[XZ]at h
    split at h
    ·rename_i hx
     exact .inl ⟨kind,by rw[beq_iff_eq.mp hx];exact Wh,beq_iff_eq.mp hk⟩
    ·exact .inr h
  ·rcases Fs h with⟨k,h1,h2⟩|h
   ·exact .inl ⟨k,WW _ h1,h2⟩
   ·exact .inr h
theorem Cc{c:α}:∀{l:List (Str×α)},(l.map (·.1)).Nodup->(x,c)∈l->l.lookup x=some c
 |[],_,h=>by cases h
 | (k,v)::r,nd,h=>by
  rw[XZ];rcases WY.mp h with e|h
  ·cases e;simp
  ·have:x≠k:=λz=>(Wt.mp nd).1 (by rw[<-z];exact Wd.mpr ⟨(x,c),h,rfl⟩)
   rw[beq_eq_false_iff_ne.mpr this];exact Cc (Wt.mp nd).2 h
theorem Re{P:Program}{w:World}{K:PySem.W.Frag}{mg:Str->Option Value}{base:Heap}{k:Nat}{c':Addr}{body:Expr}{ctv:Value}{fns:List Str}{cl:List (Str×Addr)}
  (S:KH ps fns scope) (hcl:cl.map (·.1)=fns) (hnd:(Be cl).Nodup) (len:∀vs H Q E,sp vs H Q E->vs.length=ps.length)
  (hbody:∀(A:Around) (outer:List Env) (s:Shared) (H:Hp) (vs:List V) (Q:VK) (E:XK),BU k (A.deeper (PySem.W.envX q scope s.heap.objs.size f (.ref c') (cellsFrom (s.heap.objs.size+1) scope.names []++cl)))->sp vs H Q E ->
   ∃El oc,H f=some (.frz (Py q params body scope cl pm c' ctv) CH)/\H c'=some (.frz oc CH)/\Oa oc q/\Cb cl El H /\
   ∃t,PE (U6 P w K mg base (ps++fns) q scope f (.ref c') cl A outer s H) body t/\t ((vs++El).map some) (Hf cl H) (λv H'=>(∀b∈Be cl,H' b=none)->Q v (Tf cl H H'))):
  Di P w K mg base (GH P w) (k+1) f (PySem.W.kla_fn "<lambda>" q params body scope cl pm (.ref c') ctv) ps sp:=by
 refine⟨len,λA outer s H args us vs Q E hr e0 hb r hsp=>?_⟩;have hl:=len _ _ _ _ hsp;have KX:K.In s.heap:=e0.mod.kin.keeps λb o e=>(e0.bs b o e).1
 have lim:s.heap.NoLimit:=e0.mod.nolimit.keeps λb o e=>(e0.bs b o e).1
 obtain⟨El,oc,hf,hc',⟨cvs,ctk,hcd,hcv⟩,hck,t,ht,hq⟩:=hbody A outer s H vs Q E (hr.deeper _) hsp
 have hkind:∀y∈ps.zip us,scope.names.lookup y.1=some .local\/(scope.names.lookup y.1=some .cell/\((cellsFrom (s.heap.objs.size+1) scope.names []).lookup y.1).isSome=true):=λ⟨n,v⟩ hy=>by
  rcases S.par n (YE hy).1 with q|q
  ·exact .inl q
  ·exact .inr ⟨q,YJ _ _ _ (.inl q)⟩
 have clin:∀{x:Str} {c:Addr},cl.lookup x=some c->x∈fns/\c∈Be cl:=λ{x c} e=>by have m:=Wq e;exact⟨by rw[<-hcl];exact Wd.mpr ⟨_,m,rfl⟩,Wd.mpr ⟨_,m,rfl⟩⟩
 have ndf:fns.Nodup:=(XG.mp S.nd).2.1;have ndp:ps.Nodup:=(XG.mp S.nd).1;have apart:∀x∈ps,x∉fns:=λx h1 h2=>(XG.mp S.nd).2.2 x h1 x h2 rfl
 have old:∀b∈Be cl,∃u o,o.data=.cell (some u)/\H b=some (.frz o CH)/\s.heap.get? b=some o:=λb hb=>by obtain⟨u,o,h1,h2⟩:=hck.at hb;exact⟨u,o,h1,h2,(e0.hok b _ h2).1⟩
 refine PySem.W.kla_callFunE hr.depth (e0.hok f _ hf).1 rfl S.co S.gen rfl ⟨c',oc,cvs,ctk,rfl,(e0.hok c' _ hc').1,hcd,hcv⟩ (hb _ _ _ _ ?_);refine Hm S.kind hkind (λy hy c _ z=>apart y.1 (YE (a:=y.1) (b:=y.2) hy).1 (clin z).1) λs1 x=>?_;refine⟨lim.keeps x.toInCall.keep,PySem.W.kla_codeExpr ?_⟩;obtain⟨h1,tk,rfl,hk⟩:=x.done;obtain⟨own,hown⟩:∃own,own=cellsFrom (s.heap.objs.size+1) scope.names []:=⟨_,rfl⟩
 have ownk:∀{y:Str} {c:Addr},own.lookup y=some c->∃k,(y,k)∈scope.names/\k=.cell:=λ{y c} h=>by
  rw[hown]at h;rcases Fs h with z|z
  ·exact z
  ·cases z
 have noA:∀b:Addr,b∉(U6 P w K mg base (ps++fns) q scope f (.ref c') cl A outer s H).ex:=λb z=>absurd (show b∈([]:List Addr) from z) (by simp)
 have lk:∀{y:Str} {c:Addr},(own++cl).lookup y=some c->(own.lookup y=some c)\/(own.lookup y=none/\cl.lookup y=some c):=λ{y c} h=>by
  rw[CN]at h;cases e:own.lookup y with
  |some d=>rw[e]at h;left;exact h
  |none=>rw[e]at h;right;exact⟨rfl,h⟩
 have above:∀{y:Str} {c:Addr},own.lookup y=some c->s.heap.objs.size<c:=λ{y c} h=>x.above y c (by rw[hown]at h;exact Wq h)
 have ltc:∀b∈Be cl,b<s.heap.objs.size:=λb hb=>by obtain⟨_,_,_,_,e⟩:=old b hb;exact WL e
 have I:AO (U6 P w K mg base (ps++fns) q scope f (.ref c') cl A outer s H) [] ((vs++El).map some) (Hf cl H) {s with heap:=h1,toks:=tk}:=by
  refine⟨⟨e0.mod,S.kind,rfl,rfl,WM _,λy z c h1 h2=>?_,λy hy=>?_,λy c h h2=>?_,λ_=>hr.hd,Around.frames_deeper e0.frames,.inr ⟨rfl,rfl⟩,λb z=>absurd z (noA b),λb o e=>⟨(e0.bs b o e).1,C4 (e0.bs b o e).2⟩,e0.bsz,λb _ _=>noA b,λb z=>absurd z (noA b),e0.funs,λb hb=>C4 (e0.frf b hb)⟩,
   rfl,e0.bare,Un.kept hk,⟨_,x.toInCall.ns,λi y v h1 h2 h3=>?_⟩,λy c h=>?_,C4 (e0.hok.fresh (Nat.le_refl _)),λy c h=>?_,λp hp=>absurd (show p∈([]:List (Addr×Obj)) from hp) (by simp),?_,?_⟩
  ·have h1:(own++cl).lookup y=some c:=by rw[hown];exact h1
   have h2:(own++cl).lookup z=some c:=by rw[hown];exact h2
   rcases lk h1 with a|⟨_,a⟩<;>rcases lk h2 with b|⟨_,b⟩
   ·rw[hown]at a b;exact name_of_addr x.apart (Wq a) (Wq b)
   ·exact absurd (Nat.lt_trans (above a) (ltc c (clin b).2)) (Wb _)
   ·exact absurd (Nat.lt_trans (above b) (ltc c (clin a).2)) (Wb _)
   ·refine name_of_addr ?_ (Wq a) (Wq b);have z:=hnd;unfold Be List.Nodup at z;rw[List.pairwise_map]at z;exact z
  ·have hy:scope.names.lookup y=some .cell\/scope.names.lookup y=some .free:=hy;show ∃c,(cellsFrom (s.heap.objs.size+1) scope.names []++cl).lookup y=some c;rw[CN];rcases hy with hy|hy
   ·obtain⟨c,e⟩:=E8 (n:=s.heap.objs.size+1) hy;rw[e];exact⟨c,rfl⟩
   ·cases e:(cellsFrom (s.heap.objs.size+1) scope.names []).lookup y with
    |some c=>exact⟨c,rfl⟩
    |none =>
     have m:=S.all _ (Wq hy) rfl;rw[<-hcl]at m;obtain⟨p,hp,rfl⟩:=Wd.mp m;exact⟨p.2,by rw[Option.none_or];exact Cc (by rw[hcl];exact ndf) hp⟩
  ·have h:((cellsFrom (s.heap.objs.size+1) scope.names []).lookup y).isSome=true:=h;have h2:(own++cl).lookup y=some c:=by rw[hown];exact h2
   rcases lk h2 with a|⟨a,_⟩
   ·exact Xc (above a)
   ·rw[hown]at a;rw[a]at h;cases h
  ·have h1:(ps++fns)[i]?=some y:=h1;rw[WO]at h2;cases e:(vs++El)[i]? with
   |none=>rw[e]at h2;cases h2
   |some v' =>
    rw[e]at h2;cases h2
    by_cases hi:i<vs.length
    ·rw[Wx hi]at e;rw[Wx (by lia)]at h1;obtain⟨u,hu,rv⟩:=r.get e;refine⟨u,rv,?_⟩;rcases S.par y (WQ h1) with k|k
     ·exact .inl ⟨k,Fe ndp h1 hu k⟩
     ·obtain⟨c,e⟩:=E8 (n:=s.heap.objs.size+1) k;refine .inr ⟨.inl k,c,?_,?_⟩
      ·show (cellsFrom (s.heap.objs.size+1) scope.names []++cl).lookup y=some c;rw[CN,e];rfl
      ·have q:=x.cell y c e;rw[Ff ndp h1 hu (by show scope.names.lookup y≠_;rw[k];decide)]at q;exact q
    ·rw[Wc (by lia)]at e;rw[Wc (by lia)]at h1;obtain⟨p,hp,u,o,rv,hd,hH⟩:=Paired.at hck e;have hp1:p.1=y:=by rw[<-hcl,WO,<-hl,hp]at h1;exact Option.some.inj h1
     have hy:=S.fre y (WQ h1);refine⟨u,rv,.inr ⟨.inr hy,p.2,?_,o,hk _ _ (e0.hok _ _ hH).1,hd⟩⟩;show (cellsFrom (s.heap.objs.size+1) scope.names []++cl).lookup y=some p.2;rw[CN];cases ee:(cellsFrom (s.heap.objs.size+1) scope.names []).lookup y with
     |none=>rw[Option.none_or];exact Cc (by rw[hcl];exact ndf) (by rw[<-hp1];exact WQ hp)
     |some c =>
      obtain⟨kk,m1,m2⟩:=ownk (y:=y) (c:=c) (by rw[hown];exact ee);exact absurd (WQ h1) (S.own _ m1 m2)
  ·have h:(own++cl).lookup y=some c:=by rw[hown];exact h
   rcases lk h with a|⟨_,a⟩
   ·rw[hown]at a;exact⟨_,x.cell y c a⟩
   ·obtain⟨u,o,hd,_,ho⟩:=old c (clin a).2;exact⟨some u,o,hk _ _ ho,hd⟩
  ·have h:(own++cl).lookup y=some c:=by rw[hown];exact h
   rcases lk h with a|⟨_,a⟩
   ·exact C4 (e0.hok.fresh (Xc (above a)))
   ·exact HC (clin a).2
  ·refine DR.unC (e0.hok.kept hk) λb hb u e=>?_;obtain⟨_,o,_,h2,_⟩:=old b hb;rw[h2]at e;cases e;exact⟨o,rfl⟩
  ·show ((vs++El).map some).length=(ps++fns).length;rw[WD,WI,WI,hl,<-hcl,WD,Paired.lens hck]
 refine wpAny_mono (ht [] _ _ _ _ I hq) (λu s' hs=>?_) λe s' hs=>hs.elim
 obtain⟨v,H',J,rv,qq⟩:=hs
 have frn:∀b∈CZ outer,b∉Be cl:=λb hb z=>by obtain⟨_,_,_,h2,_⟩:=old b z;rw[e0.frf b hb]at h2;cases h2
 have nC:∀{b:Addr} {u:HO},H b=some u->(∀o,u≠.frz o CH)->b∉Be cl:=λh n=>hck.out h n
 have cz:∀b∈Be cl,H' b=none:=λb hb=>by obtain⟨_,o,_,_,ho⟩:=old b hb;exact J.base.free b o ho (HC hb) (noA b)
 refine⟨v,Tf cl H H',J.os,J.bare,⟨λb o e n h1 h2=>J.base.keep b o e (C4 n) h1 h2,λb o e n h1 h2=>J.base.slot b o e (C4 n) h1 h2,λb o e n h2=>?_,J.base.there,λb xs e=>?_,λb o u e=>?_,λb qs e=>?_⟩,λb u e=>?_,rv,qq cz⟩
 ·have hb:b∉Be cl:=λz=>by
   obtain⟨_,_,_,h2,_⟩:=old b z;rw[n]at h2;cases h2
  rw[Ci hb];exact J.base.free b o e (C4 n) h2
 ·have hb:=nC e (by intro o z;cases z);rw[Ci hb];exact J.base.tups b xs (by show Hf cl H b=_;rw[Bh hb];exact e)
 ·by_cases hb:b∈Be cl
  ·rw[LL hb];exact e
  ·rw[Ci hb];exact J.base.frzs b o u (by show Hf cl H b=_;rw[Bh hb];exact e)
 ·have hb:=nC e (by intro o z;cases z);rw[Ci hb];exact J.base.tbls b qs (by show Hf cl H b=_;rw[Bh hb];exact e)
 ·by_cases hb:b∈Be cl
  ·rw[LL hb]at e;obtain⟨_,o,_,h2,ho⟩:=old b hb;rw[h2]at e;cases e;refine G9 (J.base.keep b o ho (HC hb) (λz=>frn b z hb) (noA b))
  ·rw[Ci hb]at e;refine (J.hok b u e).stay (λ_ _ _ q=>q) (λc q=>?_) λc xs q=>?_
   ·rw[Ci (λz=>by rw[cz c z]at q;cases q)];exact q
   ·rw[Ci (λz=>by rw[cz c z]at q;cases q)];exact q
structure Rf(K:PySem.W.Frag)(x qual:Str)(st:Stmt)(f c Pt:Addr)(fd:FuncData):Prop where
 ex:∃(oc:Value) (od:Option Addr) (kV doc pm:Value) (an:Option Addr) (ct:Value) (osl:Array (Option Value)),
  fd=PySem.W.fnOf x qual (C9 st) (BW st) (AH st) .none kV doc pm an (.ref c) ct/\K.lookup f=some ⟨oc,od,.func fd,osl⟩/\PySem.W.codeIn K (.ref c) qual=true
 kp:PySem.W.keepIn K (.ref f)=true
 hd:PySem.W.codeHdIn K c Pt=true
section
variable{P:Program}{w:World}{K:PySem.W.Frag}{mg:Str->Option Value}{base:Heap}{st:Stmt}{c Pt:Addr}{N:List Str}{k:Nat}
theorem Tg(D:∃fd,Rf K x qual st f c Pt fd)(S:AK N ps (AH st))(bd:DW x qual st ps) (h:∀vs H Q E,sp vs H Q E->vs.length=ps.length /\
  ∀(A:Around) (outer:List Env) (s:Shared),BU k (A.deeper (envOfC qual (AH st) s.heap.objs.size f (.ref c))) ->
   ∃t,Fy (DI (GH P w) P w K mg base N qual (AH st) f (.ref c) A outer s H E) (BW st) t/\t {nx:=λ_ H'=>Q .non H',rt:=Q} (CV N vs) H):Ag P w K mg base (k+1) f ps sp:=by
 obtain⟨fd,⟨oc,od,kV,doc,pm,an,ct,osl,rfl,lk,hcd⟩,kp,hd⟩:=D;exact⟨⟨_,QF lk hcd S (λvs H Q E q=>(h vs H Q E q).1) λA outer s H vs Q E hr q=>(h vs H Q E q).2 A outer s hr,.all (bd kV doc pm an (.ref c) ct)⟩,kp⟩
def L0(K:PySem.W.Frag)(x:Str)(st:Stmt)(f c Pt:Addr):Prop:=(∃fd,Rf K x x st f c Pt fd)/\PySem.W.nsIn K mainGlobals x=some (some (.ref f))
theorem Pz{kV ct:Value}(a:PySem.W.nsIn K mainGlobals x=some (some (.ref f)))
  (l:K.lookup f=some ⟨oc,od,.func (PySem.W.fnOf x x (C9 st) (BW st) (AH st) .none kV doc pm an (.ref c) ct),osl⟩) (e:PySem.W.codeIn K (.ref c) x=true) (k:PySem.W.keepIn K (.ref f)=true) (h:PySem.W.codeHdIn K c Pt=true):L0 K x st f c Pt:=
 ⟨⟨_,⟨⟨oc,od,kV,doc,pm,an,ct,osl,rfl,l,e⟩,k,h⟩⟩,a⟩
end
section
variable{P:Addr}
theorem BL.at(t:BL pos q P H):∃ps,H P=some (.tbl ps):=by obtain⟨ps,h,_⟩:=t;exact⟨ps,h⟩
theorem BX.get(e:BX P H H')(t:BL pos q P H)(h:H b=some o)(n:∀ps,o≠.tbl ps):H' b=some o:=by obtain⟨ps,hp⟩:=t.at;exact e b o (λz=>by rw[z,hp]at h;cases h;exact n _ rfl) h
theorem BX.free(e:BX P H H')(t:BL pos q P H')(h:H' b=none):H b=none:=by
 cases z:H b with
 |none=>rfl
 |some o =>
  have n:b≠P:=λy=>by obtain⟨ps,hp⟩:=t.at;rw[y,hp]at h;cases h
  rw[e b o n z]at h;cases h
end
theorem M7{K:PySem.W.Frag}{body:Expr}{cl:List (Str×Addr)}{ct:Value}
  (h:∀us:List Value,us.length=ps.length->bindArgs (PySem.W.kla_fn name q params body scope cl pm cdv ct) ⟨us,[]⟩=pure (ps.zip us)):C7 K (PySem.W.kla_fn name q params body scope cl pm cdv ct) ps []:=.all h
theorem L5{K:PySem.W.Frag}:∀{ts:List Addr},(∀P∈ts,∃c,PySem.W.codeHdIn K c P=true)->(∀P∈ts,K.lookup P=none)->∃cts:List (Addr×Addr),cts.map (·.2)=ts/\OZ K cts
 |[],_,_=>⟨[],rfl,λq hq=>absurd hq WU⟩
 |P::ts,h1,h2=>by
  obtain⟨c,hc⟩:=h1 P Wh;obtain⟨cts,e,h⟩:=L5 (λP hP=>h1 P (WW _ hP)) λP hP=>h2 P (WW _ hP)
  refine⟨(c,P)::cts,by rw[W0,e],λq hq=>?_⟩;rcases WY.mp hq with z|z
  ·rw[z];exact⟨hc,h2 P Wh⟩
  ·exact h q z
inductive JE(K:PySem.W.Frag)(ts:List Addr)(vs:List V)(H:Hp)(Q:VK)(z3_:XK):Prop
 |m (a:Addr) (ns:List Int):vs=[.ref a]->Ac K H a (ns.map V.int)->ns.length<=63->(∀P∈ts,H P=some (.tbl #[]))->(∀H',Q (.bl true) H')->JE K ts vs H Q z3_
theorem M9{l:PySem.W.OpenLaw}{n k:Nat}{q:Program}{loose:List Str}{XP:(Str->Option Value)->Heap->Prop}{YP:World->Heap->Prop}{d:DefRec}{K:Params->PySem.W.Frag}{ts:List Addr}
  (hn:l.most=some 63) (hdf:d.params.defaults=[]) (hr:BU k callerA)
  (hY:∀(w:World) (h:Heap),YP w h->(K w.params).In h/\∀P∈ts,h.get? P=some (PySem.W.tabObj #[])) (hT:∀w:World,∀P∈ts,(K w.params).lookup P=none)
  (F:∀(w:World) (mg:Str->Option Value) (fa:Addr) (h:Heap),(K w.params).In h->h.Ns mainGlobals mg->mg d.name=some (.ref fa) ->
   (∀P∈ts,∃c,PySem.W.codeHdIn (K w.params) c P=true)/\∃fd:FuncData,(∀(s:Shared) (u:Value),BindsTo s fd ⟨[u],[]⟩ [(x,u)]) /\
    ∀base:Heap,(K w.params).In base->base.Ns mainGlobals mg->G8 mg base->Di l.prog w (K w.params) mg base (GH l.prog w) k fa fd [x] (JE (K w.params) ts)):
  PySem.W.WalkO q loose XP YP l.row.toRowW d [] (λf vs=>PySem.call f vs):=by
 refine Att.attach_call hn hdf λw s₀ s₁ mg mb fa o pm cd doc a vs ns G Y ho hd hcd hmg hobj hints hlen hg=>?_;obtain⟨KX,TX⟩:=hY w _ Y;obtain⟨hc,fd,hb,hF⟩:=F w mg fa _ KX G.T.g hmg;obtain⟨cts,rfl,hT'⟩:=L5 hc (hT w);exact M6 KX G.T.g G.T.b G.T.builtins G.T.nolimit G.T.bmain hg hT' (λq hq=>TX _ (Wd.mpr ⟨q,hq,rfl⟩)) hobj hints (Wm hlen (by decide)) hr hF hb (λH hO hS=>⟨a,ns,rfl,hS,hlen,hO.2,λ_=>rfl⟩) λH e s' ⟨_,_,_,_,_,_,_,_,z⟩=>z
def Of(C:Addr)(m:Str)(sp:Sp)(E:St->XK)(ta:TE)(t:TA):TE:=λσ H Q=>ta σ H λx H1=>∃a dx fs,x=.ref a/\H1 a=some (.ins C dx fs)/\fs.lookup m=none/\t σ H1 λvs H2=>sp (x::vs) H2 Q (E σ)
section
variable{k:Nat}{E:St->XK}{m:Str}{p apos:Pos}{e o:Expr}{ta ta':TE}{t:TA}
theorem L6{Q:VK}{vs:List V}(F:Di X.prog X.w X.K X.mg X.base CX k f fd ps sp)(hr:BU k X.A)(hb:C7 X.K fd ps [])(hx:CS CX X E)
  (I:AO X pins σ H s) (r:Am vs us) (h:sp vs H Q (E σ)):wpAny (model X.prog X.w) X.A (call (.ref f) us) (EP X pins σ Q) X.xe s:=by
 have hl:(us++[]).length=ps.length:=by rw[W6,<-r.length];exact F.len _ _ _ _ h
 have hb':=hb s us I.kIn hl;rw[W6]at hb';refine wpAny_call (codeAny_mono (F.run X.A X.stack s H ⟨us,[]⟩ us vs Q (E σ) hr I.env0 hb' r h) λrs s2 hq=>?_);rcases rs with er|fl
 ·exact hx pins σ H s er s2 I hq
 ·cases fl with
  |ret u=>exact I.after hq
  |next=>exact False.elim hq
  |brk=>exact False.elim hq
  |cont=>exact False.elim hq
theorem Dd{pl:Sem Bool}(he:PE X o ta)(c:NT X.K C)(hm:IY X.K C m f)(G:Ag X.prog X.w X.K X.mg X.base k f ps sp)(hr:BU k X.A)(hx:CS (GH X.prog X.w) X E)(ha:PA X (e::es) t)
  (hst:starEach (e::es) X.env=(false,eval e X.env)::starEach es X.env:=by rfl) (hpl:(backTo pos (starEach es X.env)).any (·.1)=false:=by rfl)
  (ht:eval (.Call (.Attribute o m apos) (e::es) [] pos) X.env=(do
   let ov <-eval o X.env
   standAt apos.atName
   let (f,first) <-holding [ov] (getMethod ov m pl)
   callWith pos f first (backTo pos (starEach (e::es) X.env)) (backToKw pos (keywordEach [] X.env))):=by rfl):
  PE X (.Call (.Attribute o m apos) (e::es) [] pos) (Of C m sp E ta t):=by
 obtain⟨⟨fd,F,b⟩,kp⟩:=G;intro pins s σ H Q I h;refine PySem.W.methodCall_KW (pl:=pl) (BJ (he pins s σ H _ I h) λu s1 z9=>?_) ht;obtain⟨x,H1,I1,rx,a,dx,fs,ex,ea,l,q⟩:=z9;subst ex;obtain rfl:u=Value.ref a:=rx;refine Gd I1 ea c hm l ?_;refine Xq (first:=[.ref a]) (h₀:=X.base) I.ok.mod.kin hm.kp (BJ (ha pos pins s1 σ H1 _ I1 q) λus s2 ⟨vs,H2,I2,r,q2⟩=>⟨I2.kIn,?_⟩) hst hpl;exact L6 (us:=.ref a::us) (vs:=.ref a::vs) F hr b hx I2 (.cons rfl r) q2
theorem Ck(he:PE X o ta)(c:NT X.K C)(hm:IY X.K C m f)(G:Ag X.prog X.w X.K X.mg X.base k f ps sp)(hr:BU k X.A)(hx:CS (GH X.prog X.w) X E)
  (ht:eval (.Call (.Attribute o m apos) [] [] pos) X.env=(do
   let ov <-eval o X.env
   standAt apos.atName
   let (f,first) <-holding [ov] (getMethod ov m pl)
   callWith pos f first (backTo pos (starEach [] X.env)) (backToKw pos (keywordEach [] X.env))):=by rfl):
  PE X (.Call (.Attribute o m apos) [] [] pos) (Of C m sp E ta Ct):=by
 obtain⟨⟨fd,F,b⟩,kp⟩:=G;intro pins s σ H Q I h;refine PySem.W.methodCall_KW (pl:=pl) (BJ (he pins s σ H _ I h) λu s1 z9=>?_) ht;obtain⟨x,H1,I1,rx,a,dx,fs,ex,ea,l,q⟩:=z9;subst ex;obtain rfl:u=Value.ref a:=rx;refine Gd I1 ea c hm l ?_;exact PySem.W.callWith_K0 (first:=[.ref a]) I1.kIn hm.kp (L6 (us:=[.ref a]) (vs:=[.ref a]) F hr b hx I1 (.cons rfl .nil) q)
theorem Rg{P:Program}{w:World}:Km (GH P w) X E0:=λ_ _ _ _ _ _ _ ⟨_,_,_,_,_,_,_,_,h⟩=>h.elim
theorem KI(M:Mk X.K C f)(G:Ag X.prog X.w X.K X.mg X.base k f ps sp)(hr:BU (k+1) X.A)(hg:Gl X x)(hm:X.mg x=some (.ref C))
  (ha:PA X (e::es) t) (hdb:(x==("__debug__":Str))=false:=by decide) (he:starEach (e::es) X.env=(false,eval e X.env)::starEach es X.env:=by rfl) (hpl:(backTo pos (starEach es X.env)).any (·.1)=false:=by rfl):
  PE X (.Call (.Name x p) (e::es) [] pos) (QE C sp [] E0 t):=by
 obtain⟨⟨fd,F,b⟩,kp⟩:=G;exact O8 M F hr hg hm b .nil Rg ha hdb he hpl
theorem EH(h1:PE X e ta)(h2:PE X e ta'):PE X e (λσ H Q=>ta σ H Q\/ta' σ H Q):=λpins s σ H Q I h=>h.elim (λq=>h1 pins s σ H Q I q) λq=>h2 pins s σ H Q I q
end
structure Th(K:PySem.W.Frag)(C:Addr):Prop where
 cl:NT K C
 ca:PySem.W.findIn K (.ref C) "__class__"=some (some (.builtin "object.__class__"))
 sg:PySem.W.specialIn K (.builtin "object.__class__") "__get__"=some (some (.builtin "getset_descriptor.__get__"))
 tk:PySem.W.takesIn K (.builtin "object.__class__")=some true
 mo:PySem.W.mroIn K C (.type "object")=some true
theorem Th.ty{K:PySem.W.Frag}{fs:List (Str×V)}(t:Th K C)(e:H a=some (.ins C dx fs)):Q6 K H (.ref a) (.ref C):=.of (.ins e t.cl t.ca t.sg t.tk t.mo)
def Rh(C:Addr):TE:=λ_ H Q=>∀x dx,H x=none->H dx=none->dx≠x->Q (.ref x) (Ad (Ad H dx (.own x)) x (.ins C dx []))
structure WA(K:PySem.W.Frag)(C:Addr):Prop where
 makes:PySem.W.makesIn K C=true
 init:PySem.W.findIn K (.ref C) "__init__"=some (some (.builtin "object.__init__"))
 kp:PySem.W.keepIn K (.ref C)=true
theorem Og{p pos:Pos}(M:WA X.K C)(hg:Gl X x)(hm:X.mg x=some (.ref C))(hdb:(x==("__debug__":Str))=false:=by decide):PE X (.Call (.Name x p) [] [] pos) (Rh C):=by
 intro pins s σ H Q I h;refine wpAny_Call_Name_kw (C6 I hg hm ?_ hdb);have hq:=h (s.heap.objs.size+1) s.heap.objs.size (I.hok.fresh (Xi _)) (I.hok.fresh (WM _)) (Wj (W8 _));have I2:=AO.made (C:=C) I;refine PySem.W.callWith_K0 I.kIn M.kp (wpAny_call (MO I.kIn M.makes M.init (λself=>PySem.W.Looks.of_pure (PySem.W.oi_bind self)) ?_));have Y:=PySem.W.makes_of (M:=model X.prog X.w) I.kIn M.makes
 have at2:((s.heap.push PySem.W.emptyDict).push (PySem.W.instObj C s.heap.objs.size)).get? (s.heap.objs.size+1)=some (PySem.W.instObj C s.heap.objs.size):=by
  have:=WR (s.heap.push PySem.W.emptyDict) (o:=PySem.W.instObj C s.heap.objs.size) rfl
  rwa [Ww]at this
 have t1:PySem.W.Looks (model X.prog X.w) ((s.heap.push PySem.W.emptyDict).push (PySem.W.instObj C s.heap.objs.size)) (typeOf (.ref (s.heap.objs.size+1))) (.ref C):=(PySem.W.Looks.ld at2).andThen .now;have t2:PySem.W.Looks (model X.prog X.w) ((s.heap.push PySem.W.emptyDict).push (PySem.W.instObj C s.heap.objs.size)) (isInstance (.ref (s.heap.objs.size+1)) (.type "object")) true:=t1.andThen (Y.top.keeps λb o e=>WG _ (WG _ e));refine codeAny_call_builtin PySem.W.oi_plain PySem.W.entry_oi (@PySem.W.check_slot (model X.prog X.w) _ _ _ "object.__init__" "object" "__init__" (.ref (s.heap.objs.size+1)) [] [] _ PySem.W.oi_kind PySem.W.oi_split t2 (PySem.W.oi_args (.ref (s.heap.objs.size+1))) ?_);rw[PySem.W.oi_run];exact wpAny_pure ⟨rfl,.ref (s.heap.objs.size+1),_,I2,rfl,hq⟩
end L2
namespace L2
open PySem PySem.Spec PyProof.Rows RW
variable{C a d f p r:Addr}{G i j mf:Nat}{H H':Hp}{g lf lo:Int}{kvs:List (CF×V)}{params:Arguments}{pos:Pos}{q:Str}{scope:Scope}{tab tf:List Int}{xs:List V}{α β:Type}
def Au(A:List Int)(vs:List V):List (CF×V):=List.zipWith (λa v=>(Sum.inl a,v)) A vs
theorem Cm{A:List Int}{vs:List V}(h:vs.length=A.length):(Au A vs).length=A.length:=by unfold Au;rw[List.length_zipWith,h,Nat.min_self]
theorem Oh{a b:Int}(h:a≠b):¬(Sum.inl a:CF)=Sum.inl b:=λe=>h (Sum.inl.inj e)
theorem CQ:∀{A:List Int} {vs:List V} {a:Int},a∉A->CG (Au A vs) (Sum.inl a)=none
 |[],_,_,_=>rfl
 |_::_,[],_,_=>rfl
 |b::A,v::vs,a,h=>by show CG ((Sum.inl b,v)::Au A vs) (Sum.inl a)=none;rw[EE (show ¬(Sum.inl b,v).1=Sum.inl a from Oh λe=>h (by rw[e];exact Wh))];exact CQ λe=>h (WW _ e)
theorem B4:∀{A:List Int} {vs:List V} {i:Nat} {a:Int} {v:V},A.Nodup->A[i]?=some a->vs[i]?=some v->CG (Au A vs) (Sum.inl a)=some v
 |[],_,_,_,_,_,h,_=>by simp at h
 |_::_,[],_,_,_,_,_,h=>by simp at h
 |b::A,v::vs,0,a,w,nd,h1,h2=>by simp at h1 h2;subst h1 h2;exact FM rfl
 |b::A,v::vs,i+1,a,w,nd,h1,h2=>by simp at h1 h2;have nd':=Wt.mp nd;show CG ((Sum.inl b,v)::Au A vs) (Sum.inl a)=some w;rw[EE (show ¬(Sum.inl b,v).1=Sum.inl a from Oh λe=>nd'.1 (by rw[e];exact WQ h1))];exact B4 nd'.2 h1 h2
theorem FT{A:List Int}{vs:List V}{a:Int}{v:V}(hl:vs.length=A.length)(h:a∉A):Cy (Au A vs) (Sum.inl a) v=Au (A++[a]) (vs++[v]):=by rw[OG _ (CQ h)];unfold Au;rw[List.zipWith_append hl.symm];rfl
theorem GW{A:List Int}{vs:List V}{k:CF}{v:V}(h:(Au A vs)[i]?=some (k,v)):∃a,A[i]?=some a/\vs[i]?=some v/\k=Sum.inl a:=by
 unfold Au at h;rw[List.getElem?_zipWith]at h;cases ha:A[i]? with
 |none=>rw[ha]at h;simp at h
 |some a =>
  cases hl:vs[i]? with
  |none=>rw[ha,hl]at h;simp at h
  |some l =>
   rw[ha,hl]at h;simp at h;exact⟨a,rfl,by rw[h.2],h.1.symm⟩
theorem EI{A:List α}{a:α}(h:a∈A):∃i:Nat,A[i]?=some a:=List.mem_iff_getElem?.mp h
theorem KJ{A:List α}{ls:List β}(n:ls.length=A.length){a:α}(h:A[i]?=some a):∃l,ls[i]?=some l:=
 ⟨ls[i]'(by rw[n];exact (WF.mp h).1),WJ _⟩
theorem CY{A:List Int}{vs:List V}{a:Int}(n:vs.length=A.length)(nd:A.Nodup):(CG (Au A vs) (Sum.inl a)).isSome=decide (a∈A):=by
 by_cases h:a∈A
 ·obtain⟨i,hi⟩:=EI h;obtain⟨v,hv⟩:=KJ n hi;rw[B4 nd hi hv,decide_eq_true h];rfl
 ·rw[CQ h,decide_eq_false h];rfl
structure EJ(H:Hp)(ls:List Addr)(A:List Int)(F:Int->List Int):Prop where
 n:ls.length=A.length
 nd:ls.Nodup
 e:∀(i:Nat) (a:Int) (l:Addr),A[i]?=some a->ls[i]?=some l->H l=some (.lst ((F a).map V.int))
section
variable{ls:List Addr}{A:List Int}{F:Int->List Int}
theorem EJ.nil:EJ H [] [] F:=⟨rfl,List.nodup_nil,λi a l z=>by simp at z⟩
theorem EJ.same(e:AF H H')(g:EJ H ls A F):EJ H' ls A F:=⟨g.n,g.nd,λi a l h1 h2=>e _ _ (g.e i a l h1 h2)⟩
theorem EJ.snoc(g:EJ H ls A F){l:Addr}{a:Int}(hl:l∉ls)(h:H l=some (.lst ((F a).map V.int))):EJ H (ls++[l]) (A++[a]) F:=by
 refine⟨by rw[WI,WI,g.n];rfl,XG.mpr ⟨g.nd,Wt.mpr ⟨WU,XH⟩,λx hx y hy e=>hl (by rw[<-WE.mp hy,<-e];exact hx)⟩,λi b k h1 h2=>?_⟩
 by_cases z:i<A.length
 ·rw[Wx z]at h1;rw[Wx (by rw[g.n];exact z)]at h2;exact g.e i b k h1 h2
 ·rw[Wc (by lia)]at h1;rw[Wc (by rw[g.n];lia),g.n]at h2;have z0:i-A.length=0:=by have:=(WF.mp h1).1;simp at this;lia
  rw[z0]at h1 h2;cases h1;cases h2;exact h
theorem EJ.out(g:EJ H ls A F){l:Addr}(h:∀xs,H l≠some (.lst xs)):l∉ls:=λz=>by obtain⟨i,hi⟩:=EI z;obtain⟨a,ha⟩:=KJ g.n.symm hi;exact h _ (g.e i a l ha hi)
theorem EJ.new(g:EJ H ls A F){l:Addr}(h:H l=none):l∉ls:=g.out λxs z=>by rw[h]at z;cases z
theorem EJ.keep(g:EJ H ls A F){l:Addr}(nl:l∉ls)(v:HO):EJ (Ad H l v) ls A F:=
 ⟨g.n,g.nd,λi a k h1 h2=>by rw[AI λe=>nl (by rw[<-e];exact WQ h2)];exact g.e i a k h1 h2⟩
theorem EJ.push(g:EJ H ls A F)(nd:A.Nodup){p0 x:Int}{l:Addr}(hj:A[j]?=some p0)(hl:ls[j]?=some l):EJ (Ad H l (.lst ((F p0++[x]).map V.int))) ls A (λp=>if p0=p then F p++[x] else F p):=
 ⟨g.n,g.nd,λi a k h1 h2=>by
  by_cases e:p0=a
  ·subst e;have ij:i=j:=by have a1:=WF.mp h1;have a2:=WF.mp hj;exact (YV (h₀:=a1.1) (h₁:=a2.1) nd).mp (by rw[a1.2,a2.2])
   subst ij;rw[hl]at h2;cases h2;rw[AC,if_pos rfl]
  ·have kl:k≠l:=λz=>by
    subst z;have b1:=WF.mp h2;have b2:=WF.mp hl;have ij:i=j:=(YV (h₀:=b1.1) (h₁:=b2.1) g.nd).mp (by rw[b1.2,b2.2]);subst ij;rw[hj]at h1;exact e (Option.some.inj h1)
   rw[AI kl,if_neg e];exact g.e i a k h1 h2⟩
end
inductive JF(S:List Int)(F:Int->List Int):Int->Prop
 |base {s:Int}:s∈S->JF S F s
 |step {a b:Int}:JF S F a->b∈F a->JF S F b
structure HE(S:List Int)(F:Int->List Int)(A:List Int):Prop where
 nd:A.Nodup
 st:∀s∈S,s∈A
 cl:∀a∈A,∀b∈F a,b∈A
 co:∀a∈A,JF S F a
structure D1(S:List Int)(F:Int->List Int)(A W:List Int):Prop where
 nd:A.Nodup
 st:∀s∈S,s∈A\/s∈W
 cl:∀a∈A,∀b∈F a,b∈A\/b∈W
 co:∀a,a∈A\/a∈W->JF S F a
section
variable{S:List Int}{F:Int->List Int}{A W:List Int}
theorem D1.start:D1 S F [] S:=⟨XH,λ_ h=>.inr h,λ_ h=>absurd h WU,λ_ h=>.base (h.resolve_left WU)⟩
theorem D1.done(r:D1 S F A []):HE S F A:=⟨r.nd,λs h=>(r.st s h).resolve_right WU,λa h b hb=>(r.cl a h b hb).resolve_right WU,λa h=>r.co a (.inl h)⟩
theorem D1.old{x:Int}(r:D1 S F A (W++[x]))(h:x∈A):D1 S F A W:=by
 have k:∀{b:Int},b∈A\/b∈W++[x]->b∈A\/b∈W:=λ{b} z=>z.elim .inl λz=>(WK.mp z).elim .inr λz=>.inl (by rw[WE.mp z];exact h)
 exact⟨r.nd,λs z=>k (r.st s z),λa z b hb=>k (r.cl a z b hb),λa z=>r.co a (z.imp id λz=>WK.mpr (.inl z))⟩
theorem D1.next{x:Int}(r:D1 S F A (W++[x]))(h:x∉A):D1 S F (A++[x]) (W++F x):=by
 have k:∀{b:Int},b∈A\/b∈W++[x]->b∈A++[x]\/b∈W++F x:=λ{b} z=>z.elim (λz=>.inl (WK.mpr (.inl z))) λz=>(WK.mp z).elim (λz=>.inr (WK.mpr (.inl z))) λz=>.inl (WK.mpr (.inr z))
 have cx:=r.co x (.inr (WK.mpr (.inr (WE.mpr rfl))));refine⟨XG.mpr ⟨r.nd,Wt.mpr ⟨WU,XH⟩,λa ha b hb e=>h (by rw[<-WE.mp hb,<-e];exact ha)⟩,λs z=>k (r.st s z),λa ha b hb=>?_,λa ha=>?_⟩
 ·rcases WK.mp ha with z|z
  ·exact k (r.cl a z b hb)
  ·rw[WE.mp z]at hb;exact .inr (WK.mpr (.inr hb))
 ·rcases ha with z|z
  ·rcases WK.mp z with z|z
   ·exact r.co a (.inl z)
   ·rw[WE.mp z];exact cx
  ·rcases WK.mp z with z|z
   ·exact r.co a (.inr (WK.mpr (.inl z)))
   ·exact .step cx z
theorem Cn{N:Nat}{A:List Int}(nd:A.Nodup)(h:∀a∈A,0<=a/\a<(N:Int)):A.length<=N:=by
 have e:=nd.length_le_of_subset (l₂:=(List.range N).map λn:Nat=>(n:Int)) λa ha=>by obtain⟨a0,a1⟩:=h a ha;exact Wd.mpr ⟨a.toNat,Wl.mpr (by lia),by lia⟩
 rwa [WD,WV]at e
theorem JF.low{N:Nat}(hS:∀s∈S,0<=s/\s<(N:Int))(hF:∀x,0<=x->x<(N:Int)->∀y∈F x,0<=y/\y<(N:Int)){a:Int}(c:JF S F a):0<=a/\a<(N:Int):=by
 induction c with
 |base h=>exact hS _ h
 |step _ h ih=>exact hF _ ih.1 ih.2 _ h
end
structure JG(A:List Int)(F:Int->List Int)(A2:List Int)(B:Int->List Int):Prop where
 nd:A2.Nodup
 all:∀p,p∈A2↔p∈A
 on:∀p q,q∈B p↔q∈A/\p∈F q
 len:∀p,(B p).length<=6000
structure HG(A:List Int)(F:Int->List Int)(i:Nat)(D:Int->Int->Prop)(n:Nat)(A2:List Int)(B:Int->List Int):Prop where
 nd:A2.Nodup
 sub:∀p∈A2,p∈A
 got:∀p∈A.take i,p∈A2
 no:∀p,p∉A2->B p=[]
 on:∀p q,q∈B p↔(q∈A.take i/\p∈F q)\/D p q
 len:∀p,(B p).length<=n
variable{L:List Int}
section
variable{A:List Int}{F:Int->List Int}{n:Nat}{D:Int->Int->Prop}{A2:List Int}{B:Int->List Int}
theorem HG.start:HG A F 0 (λ_ _=>False) 0 [] λ_=>[]:=⟨List.nodup_nil,λp hp=>absurd hp List.not_mem_nil,λp hp=>absurd hp (by simp),λ_ _=>rfl,λp q=>by simp,λ_=>Nat.zero_le _⟩
theorem HG.key(t:HG A F i D n A2 B){k:Int}(hk:k∉A2)(hA:k∈A):HG A F i D n (A2++[k]) B where
 nd:=XG.mpr ⟨t.nd,Wt.mpr ⟨WU,XH⟩,λx hx y hy e=>hk (by rw[<-WE.mp hy,<-e];exact hx)⟩
 sub:=λp hp=>(WK.mp hp).elim (t.sub p) λz=>by rw[WE.mp z];exact hA
 got:=λp hp=>WK.mpr (.inl (t.got p hp))
 no:=λp hp=>t.no p λz=>hp (WK.mpr (.inl z))
 on:=t.on
 len:=t.len
theorem HG.inner(t:HG A F i (λ_ _=>False) n A2 B)(a:Int):HG A F i (λp q=>q=a/\p∈(F a).take 0) n A2 B:=⟨t.nd,t.sub,t.got,t.no,λp q=>by rw[t.on];simp,t.len⟩
theorem HG.push{a p0:Int}(t:HG A F i (λp q=>q=a/\p∈L.take j) n A2 B)(hp:L[j]?=some p0)(m:p0∈A2):HG A F i (λp q=>q=a/\p∈L.take (j+1)) (n+1) A2 (λp=>if p0=p then B p++[a] else B p) where
 nd:=t.nd
 sub:=t.sub
 got:=t.got
 no:=λp h=>by rw[if_neg λe=>h (by rw[<-e];exact m)];exact t.no p h
 on:=λp q=>by
  rw[Wz,hp,show (some p0).toList=[p0] from rfl,WK,WE]
  by_cases e:p0=p
  ·rw[if_pos e,WK,WE,t.on];constructor
   ·rintro ((h|⟨h1,h2⟩)|h)
    ·exact .inl h
    ·exact .inr ⟨h1,.inl h2⟩
    ·exact .inr ⟨h,.inr e.symm⟩
   ·rintro (h|⟨h1,_⟩)
    ·exact .inl (.inl h)
    ·exact .inr h1
  ·rw[if_neg e,t.on];constructor
   ·rintro (h|⟨h1,h2⟩)
    ·exact .inl h
    ·exact .inr ⟨h1,.inl h2⟩
   ·rintro (h|⟨h1,h2|h2⟩)
    ·exact .inl h
    ·exact .inr ⟨h1,h2⟩
    ·exact absurd h2.symm e
 len:=λp=>by
  have:=t.len p
  by_cases e:p0=p
  ·rw[if_pos e,WI,WX];lia
  ·rw[if_neg e];lia
theorem HG.outer{a:Int}(t:HG A F i (λp q=>q=a/\p∈(F a).take (F a).length) n A2 B)(ha:A[i]?=some a)(m:a∈A2){n':Nat}(h:n<=n'):HG A F (i+1) (λ_ _=>False) n' A2 B where
 nd:=t.nd
 sub:=t.sub
 got:=λp hp=>by
  rw[Wz,ha,show (some a).toList=[a] from rfl]at hp;rcases WK.mp hp with z|z
  ·exact t.got p z
  ·rw[WE.mp z];exact m
 no:=t.no
 on:=λp q=>by
  rw[t.on,Wz,ha,show (some a).toList=[a] from rfl,WK,WE,Wk,or_false];constructor
  ·rintro (⟨h1,h2⟩|⟨rfl,h2⟩)
   ·exact⟨.inl h1,h2⟩
   ·exact⟨.inr rfl,h2⟩
  ·rintro⟨h1|rfl,h2⟩
   ·exact .inl ⟨h1,h2⟩
   ·exact .inr ⟨rfl,h2⟩
 len:=λp=>Wm (t.len p) h
theorem HG.done(t:HG A F A.length (λ_ _=>False) n A2 B)(h:n<=6000):JG A F A2 B where
 nd:=t.nd
 all:=λp=>⟨t.sub p,λhp=>t.got p (by rw[Wk];exact hp)⟩
 on:=λp q=>by rw[t.on,Wk,or_false]
 len:=λp=>Wm (t.len p) h
end
structure KL(A:List Int)(F:Int->List Int)(E:List Int)(M:List Int)(f:Int->Nat):Prop where
 nd:M.Nodup
 sub:∀p∈M,p∈A\/p∈E
 ends:∀p∈E,p∈M/\f p=0
 zero:∀p∈M,f p=0->p∈E
 down:∀p∈M,∀n,f p=n+1->p∈A/\∃q∈F p,q∈M/\f q=n
 up:∀p∈A,∀q∈F p,q∈M->p∈M/\f p<=f q+1
structure JH(A:List Int)(F:Int->List Int)(E:List Int)(M:List Int)(f:Int->Nat)(n:Nat)(L R:List Int):Prop where
 nd:M.Nodup
 sub:∀p∈M,p∈A\/p∈E
 subL:∀p,p∈L\/p∈R->p∈A\/p∈E
 ends:∀p∈E,(p∈M/\f p=0)\/(n=0/\p∈L)
 zero:∀p∈M,f p=0->p∈E
 down:∀p∈M,∀m,f p=m+1->p∈A/\∃q∈F p,q∈M/\f q=m
 le:∀p∈M,f p<=n
 next:∀p∈L,p∈M\/(n=0/\p∈E)\/∃m,n=m+1/\p∈A/\∃q∈F p,q∈M/\f q=m
 more:∀p∈R,p∈A/\∃q∈F p,q∈M/\f q=n
 up:∀p∈A,∀q∈F p,q∈M->(p∈M/\f p<=f q+1)\/(f q+1=n/\p∈L)\/(f q=n/\p∈R)
section
variable{A:List Int}{F:Int->List Int}{E M:List Int}{f:Int->Nat}{n:Nat}{R:List Int}
theorem JH.start:JH A F E [] f 0 E [] where
 nd:=XH
 sub:=λp hp=>absurd hp WU
 subL:=λp hp=>.inr (hp.resolve_right WU)
 ends:=λp hp=>.inr ⟨rfl,hp⟩
 zero:=λp hp=>absurd hp WU
 down:=λp hp=>absurd hp WU
 le:=λp hp=>absurd hp WU
 next:=λp hp=>.inr (.inl ⟨rfl,hp⟩)
 more:=λp hp=>absurd hp WU
 up:=λp _ q _ hq=>absurd hq WU
theorem JH.skip{x:Int}(w:JH A F E M f n (x::L) R)(h:x∈M):JH A F E M f n L R where
 nd:=w.nd
 sub:=w.sub
 subL:=λp hp=>w.subL p (hp.imp (WW _) id)
 ends:=λp hp=>by
  rcases w.ends p hp with z|⟨z,y⟩
  ·exact .inl z
  ·rcases WY.mp y with y|y
   ·exact .inl ⟨by rw[y];exact h,by have:=w.le x h;rw[y];lia⟩
   ·exact .inr ⟨z,y⟩
 zero:=w.zero
 down:=w.down
 le:=w.le
 next:=λp hp=>w.next p (WW _ hp)
 more:=w.more
 up:=λp hp q hq hM=>by
  rcases w.up p hp q hq hM with z|⟨z,y⟩|z
  ·exact .inl z
  ·rcases WY.mp y with y|y
   ·exact .inl ⟨by rw[y];exact h,by have:=w.le x h;rw[y];lia⟩
   ·exact .inr (.inl ⟨z,y⟩)
  ·exact .inr (.inr z)
theorem JH.take{x:Int}{B:Int->List Int}(w:JH A F E M f n (x::L) R)(h:x∉M)(hB:∀q,q∈B x↔q∈A/\x∈F q):JH A F E (M++[x]) (λp=>if p∈M then f p else n) n L (R++B x):=by
 have old:∀{p:Int},p∈M->(if p∈M then f p else n)=f p:=λz=>if_pos z
 have new:(if x∈M then f x else n)=n:=if_neg h;have mx:x∈M++[x]:=WK.mpr (.inr (WE.mpr rfl));have mM:∀{p:Int},p∈M->p∈M++[x]:=λz=>WK.mpr (.inl z)
 refine⟨XG.mpr ⟨w.nd,Wt.mpr ⟨WU,XH⟩,λa ha b hb e=>h (by rw[<-WE.mp hb,<-e];exact ha)⟩,λp hp=>?_,λp hp=>?_,λp hp=>?_,λp hp=>?_,λp hp m e=>?_,λp hp=>?_,λp hp=>?_,λp hp=>?_,λp hp q hq hM=>?_⟩
 ·rcases WK.mp hp with z|z
  ·exact w.sub p z
  ·rw[WE.mp z];exact w.subL x (.inl Wh)
 ·rcases hp with z|z
  ·exact w.subL p (.inl (WW _ z))
  ·rcases WK.mp z with z|z
   ·exact w.subL p (.inr z)
   ·exact .inl ((hB p).mp z).1
 ·rcases w.ends p hp with⟨z,y⟩|⟨z,y⟩
  ·exact .inl ⟨mM z,by rw[old z];exact y⟩
  ·rcases WY.mp y with y|y
   ·exact .inl ⟨by rw[y];exact mx,by rw[y,new];exact z⟩
   ·exact .inr ⟨z,y⟩
 ·rcases WK.mp hp with z|z
  ·intro e;rw[old z]at e;exact w.zero p z e
  ·rw[WE.mp z,new];intro e;rcases w.next x Wh with y|⟨_,y⟩|⟨m,y,_⟩
   ·exact absurd y h
   ·exact y
   ·lia
 ·rcases WK.mp hp with z|z
  ·rw[old z]at e;obtain⟨h1,q,h2,h3,h4⟩:=w.down p z m e;exact⟨h1,q,h2,mM h3,by rw[old h3];exact h4⟩
  ·rw[WE.mp z,new]at e;rw[WE.mp z];rcases w.next x Wh with y|⟨y,_⟩|⟨m',y,h1,q,h2,h3,h4⟩
   ·exact absurd y h
   ·lia
   ·exact⟨h1,q,h2,mM h3,by rw[old h3];lia⟩
 ·rcases WK.mp hp with z|z
  ·rw[old z];exact w.le p z
  ·rw[WE.mp z,new];exact WM _
 ·rcases w.next p (WW _ hp) with z|z|⟨m,h1,h2,q,h3,h4,h5⟩
  ·exact .inl (mM z)
  ·exact .inr (.inl z)
  ·exact .inr (.inr ⟨m,h1,h2,q,h3,mM h4,by rw[old h4];exact h5⟩)
 ·rcases WK.mp hp with z|z
  ·obtain⟨h1,q,h2,h3,h4⟩:=w.more p z;exact⟨h1,q,h2,mM h3,by rw[old h3];exact h4⟩
  ·obtain⟨h1,h2⟩:=(hB p).mp z;exact⟨h1,x,h2,mx,new⟩
 ·rcases WK.mp hM with z|z
  ·rw[old z];rcases w.up p hp q hq z with⟨h1,h2⟩|⟨h1,h2⟩|⟨h1,h2⟩
   ·exact .inl ⟨mM h1,by rw[old h1];exact h2⟩
   ·rcases WY.mp h2 with y|y
    ·exact .inl ⟨by rw[y];exact mx,by rw[y,new];lia⟩
    ·exact .inr (.inl ⟨h1,y⟩)
   ·exact .inr (.inr ⟨h1,WK.mpr (.inl h2)⟩)
  ·have e:=WE.mp z;subst e;rw[new];exact .inr (.inr ⟨rfl,WK.mpr (.inr ((hB p).mpr ⟨hp,hq⟩))⟩)
theorem JH.round(w:JH A F E M f n [] R):JH A F E M f (n+1) R [] where
 nd:=w.nd
 sub:=w.sub
 subL:=λp hp=>w.subL p (.inr (hp.resolve_right WU))
 ends:=λp hp=>.inl ((w.ends p hp).resolve_right λz=>absurd z.2 WU)
 zero:=w.zero
 down:=w.down
 le:=λp hp=>Nat.le_succ_of_le (w.le p hp)
 next:=λp hp=>.inr (.inr ⟨n,rfl,w.more p hp⟩)
 more:=λp hp=>absurd hp WU
 up:=λp hp q hq hM=>by
  rcases w.up p hp q hq hM with z|⟨_,z⟩|⟨z,y⟩
  ·exact .inl z
  ·exact absurd z WU
  ·exact .inr (.inl ⟨by lia,y⟩)
theorem JH.done(w:JH A F E M f n [] []):KL A F E M f where
 nd:=w.nd
 sub:=w.sub
 ends:=λp hp=>(w.ends p hp).resolve_right λz=>absurd z.2 WU
 zero:=w.zero
 down:=w.down
 up:=λp hp q hq hM=>(w.up p hp q hq hM).resolve_right λz=>z.elim (λz=>absurd z.2 WU) λz=>absurd z.2 WU
theorem JH.few(w:JH A F E M f n L R):M.length<=A.length+E.length:=by rw[<-WI];exact w.nd.length_le_of_subset λp hp=>WK.mpr (w.sub p hp)
end
def Oi(P:Program)(w:World)(K:PySem.W.Frag)(mg:Str->Option Value)(base:Heap)(k:Nat)(f:Addr)(F:Int->List Int)(N:Nat)(H:Hp):Prop:=∃fd ps sp oc od fd' sl,Di P w K mg base (GH P w) k f fd ps sp/\C7 K fd ps []/\H f=some (.frz ⟨oc,od,.func fd',sl⟩ CH) /\
 ∀x:Int,0<=x->x<(N:Int)->∀(H1:Hp) (Q:VK),AF H H1->(∀l H2,AF H1 H2->H1 l=none->H2 l=some (.lst ((F x).map V.int))->Q (.ref l) H2)->sp [.int x] H1 Q E0
def Ti(N:Nat)(F:Int->List Int):Prop:=∀x,0<=x->x<(N:Int)->(F x).length<=9/\∀y∈F x,0<=y/\y<(N:Int)
inductive Ft(P:Program)(w:World)(K:PySem.W.Frag)(mg:Str->Option Value)(base:Heap)(k:Nat)(vs:List V)(H:Hp)(Q:VK)(z3_:XK):Prop
 |m (a f:Addr) (S:List Int) (N:Nat) (F:Int->List Int):vs=[.ref a,.ref f]->Ac K H a (S.map V.int)->S.length<=100->N<=512->(∀s∈S,0<=s/\s<(N:Int))->Ti N F->Oi P w K mg base k f F N H->(∀d H' ls A,AF H H'->H d=none->(∀l∈ls,H l=none)->H' d=some (.dK (Au A (ls.map V.ref)))->EJ H' ls A F->HE S F A->(∀a∈A,0<=a/\a<(N:Int))->Q (.ref d) H')->Ft P w K mg base k vs H Q z3_
def VT(H HX:Hp)(d p:Addr)(S:List Int)(F:Int->List Int)(A W:List Int):Prop:=∃ls,AF H HX/\(∀l∈ls,H l=none)/\HX d=some (.dK (Au A (ls.map V.ref)))/\EJ HX ls A F/\HX p=some (.lst (W.map V.int))/\p∉ls/\D1 S F A W
theorem HI{l:List α}(h:l≠[]):∃r x,l=r++[x]:=⟨l.dropLast,l.getLast h,(List.dropLast_concat_getLast h).symm⟩
def AW(g:Int)(tf:List Int)(x:Int):List Int:=(List.range g.toNat).map λs:Nat=>DE g.toNat tf (tf.length/g.toNat) x (s:Int)
theorem Du(g:Int)(tf:List Int)(x:Int):(AW g tf x).length=g.toNat:=by unfold AW;rw[List.length_map,List.length_range]
theorem FU{h:Nat}(h9:h<=9):2^h<=512:=Wm (Nat.pow_le_pow_right (by decide) h9) (by decide)
theorem HJ(g9:g<=9)(tf:List Int):Ti (2^(tf.length/g.toNat)) (AW g tf):=λx _ _=>by refine⟨by rw[Du];lia,λy hy=>?_⟩;unfold AW at hy;obtain⟨s,_,rfl⟩:=Wd.mp hy;have:=GV (tf.length/g.toNat) (C3 g.toNat tf (tf.length/g.toNat) x (s:Int) (tf.length/g.toNat));rw[Int.natCast_pow];exact this
abbrev Ae(g:Int)(tf:List Int):Int:=2^(tf.length/g.toNat)-1
theorem HK(g:Int)(tf:List Int):0<=Ae g tf/\Ae g tf<((2^(tf.length/g.toNat):Nat):Int):=by
 have:=GV (tf.length/g.toNat) λ_=>true
 rw[KD]at this;rw[Int.natCast_pow];exact⟨this.1,Int.sub_lt_self _ Int.one_pos⟩
theorem Al.sameT{P:Addr}{m:Nat}(e:BX P H H')(t:BL pos q P H)(h:Al H r g lo tab m):Al H' r g lo tab m:=by obtain⟨⟨tb,v1,v2⟩,h1,h2,h3,h4,h5,h6,h7⟩:=h;exact⟨⟨tb,e.get t v1 (λ_ z=>by cases z),e.get t v2 (λ_ z=>by cases z)⟩,h1,h2,h3,h4,h5,h6,h7⟩
theorem Ow.sameT{P:Addr}{ps:List Addr}{ws:List (List Int)}(e:BX P H H')(t:BL pos q P H)(h:Ow H p ps ws):Ow H' p ps ws:=
 ⟨e.get t h.l (λ_ z=>by cases z),h.n,λi q w h1 h2=>e.get t (h.e i q w h1 h2) (λ_ z=>by cases z)⟩
def HL(x:Str):Str:=x++".<locals>."++"<lambda>"
inductive JI(CT:Addr)(pos:Pos)(Pt:Addr)(vs:List V)(H:Hp)(Q:VK)(E:XK):Prop
 |m (r:Addr) (g lo:Int) (tab:List Int) (m:Nat) (lf:Int) (tf:List Int) (mf:Nat):vs=[.ref r]->Al H r g lo tab m->Aq g lo tab m lf tf mf->BL pos (HL "sets_reached") Pt H->(g^(mf-1)<=9->∀d H' ls A,BX Pt H H'->BL pos (HL "sets_reached") Pt H'->H d=none->(∀l∈ls,H l=none)->H' d=some (.dK (Au A (ls.map V.ref)))->EJ H' ls A (AW g tf)->HE [Ae g tf] (AW g tf) A->(∀a∈A,0<=a/\a<((2^(tf.length/g.toNat):Nat):Int))->Q (.ref d) H')->(9<g^(mf-1)->∀H',AF H H'->E (.ref CT) none H')->JI CT pos Pt vs H Q E
variable{F:Int->List Int}
theorem LN{P:Program}{w:World}{K:PySem.W.Frag}{mg:Str->Option Value}{base:Heap}{k:Nat}{body:Expr}{cl:List (Str×Addr)}{N:Nat}{El:List V}{x1:Str}{fns:List Str}
  (la:IL q params body scope cl f H) (ck:Cb cl El H) (S:KH [x1] fns scope) (hcl:cl.map (·.1)=fns) (hnd:(Be cl).Nodup) (hbind:∀(pm cdv ct:Value) (us:List Value),us.length=1->bindArgs (PySem.W.kla_fn "<lambda>" q params body scope cl pm cdv ct) ⟨us,[]⟩=pure ([x1].zip us))
  (hbody:∀(c':Addr) (A:Around) (outer:List Env) (s:Shared) (HA:Hp) (x:Int),BU k (A.deeper (PySem.W.envX q scope s.heap.objs.size f (.ref c') (cellsFrom (s.heap.objs.size+1) scope.names []++cl)))->0<=x->x<(N:Int)->AF H HA ->
   ∃t,PE (U6 P w K mg base (x1::fns) q scope f (.ref c') cl A outer s HA) body t/\∀Q:VK,(∀D H',AF (Hf cl HA) H'->Hf cl HA D=none->H' D=some (.lst ((F x).map V.int))->Q (.ref D) H')->t (some (.int x)::El.map some) (Hf cl HA) Q):
  Oi P w K mg base (k+1) f F N H:=by
 obtain⟨pm,c',ctv,oc,l1,l2,l3⟩:=la;refine⟨_,[x1],λvs HA QA _=>∃x:Int,vs=[.int x]/\0<=x/\x<(N:Int)/\AF H HA/\∀l H2,AF HA H2->HA l=none->H2 l=some (.lst ((F x).map V.int))->QA (.ref l) H2,_,_,_,_,Re (q:=q) (params:=params) (body:=body) (scope:=scope) (cl:=cl) (fns:=fns) (pm:=pm) (ctv:=ctv) (c':=c') S hcl hnd ?_ ?_,M7 (hbind pm (.ref c') ctv),l1,λx x0 x1 HA QA eA qA=>⟨x,rfl,x0,x1,eA,qA⟩⟩
 ·rintro vs HA QA _ ⟨x,rfl,_⟩;rfl
 ·rintro A outer s HA vs QA EA hr ⟨x,rfl,x0,x1,eA,qA⟩;obtain⟨t,ht,hq⟩:=hbody c' A outer s HA x hr x0 x1 eA;refine⟨El,oc,eA _ _ l1,eA _ _ l2,l3,ck.same eA,t,ht,hq _ λD H' e1 hD hH cz=>?_⟩;have out:D∉Be cl:=λz=>by rw[cz D z]at hH;cases hH
  exact qA D _ (Oc e1) (by rw[<-hD,Bh out]) (by rw[Ci out];exact hH)
inductive JJ(vs:List V)(H:Hp)(Q:VK)(z3_:XK):Prop
 |m (d:Addr) (ls:List Addr) (A:List Int) (F:Int->List Int):vs=[.ref d]->Rd H d (.dK (Au A (ls.map V.ref)))->EJ H ls A F->A.Nodup->(∀a∈A,∀p∈F a,p∈A)->A.length<=512->(∀a∈A,(F a).length<=9)->(∀o H' d2 ls2 A2 B,AF (Ad H d (.frz o (.dK (Au A (ls.map V.ref))))) H'->H d2=none->(∀l∈ls2,H l=none)->H' d2=some (.dK (Au A2 (ls2.map V.ref)))->EJ H' ls2 A2 B->JG A F A2 B->Q (.ref d2) H')->JJ vs H Q z3_
def P1(H HX:Hp)(d2:Addr)(A2:List Int)(B:Int->List Int):Prop:=∃ls2:List Addr,(∀l∈ls2,H l=none)/\HX d2=some (.dK (Au A2 (ls2.map V.ref)))/\EJ HX ls2 A2 B
theorem P1.put{HX:Hp}{d2:Addr}{A2:List Int}{B:Int->List Int}{ls2:List Addr}{l:Addr}{k:Int}(ln:∀l∈ls2,H l=none)(w0:HX d2=some (.dK (Au A2 (ls2.map V.ref))))(g:EJ HX ls2 A2 B)(hl:HX l=some (.lst []))(nl:l∉ls2)(h0:H l=none)(hk:k∉A2)(hB:B k=[]):
  (∀x∈ls2++[l],H x=none)/\Ad HX d2 (.dK (Cy (Au A2 (ls2.map V.ref)) (Sum.inl k) (.ref l))) d2=some (.dK (Au (A2++[k]) ((ls2++[l]).map V.ref)))/\EJ (Ad HX d2 (.dK (Cy (Au A2 (ls2.map V.ref)) (Sum.inl k) (.ref l)))) (ls2++[l]) (A2++[k]) B:=by
 have d2n:d2∉ls2:=g.out λxs z=>by rw[w0]at z;cases z
 refine⟨λx hx=>?_,by rw[AC,FT (by rw[WD];exact g.n) hk,WN];rfl,(g.keep d2n _).snoc nl ?_⟩
 ·rcases WK.mp hx with z|z
  ·exact ln x z
  ·rw[WE.mp z];exact h0
 ·rw[AI (LR hl w0 λz=>by cases z),hB];exact hl
theorem AF.bothI{H0:Hp}(e:AF H H0)(d:Addr)(v:HO):AF (Ad H d v) (Ad H0 d v):=λb y h=>by
 by_cases z:b=d
 ·subst z;rw[AC]at h⊢;exact h
 ·rw[AI z]at h⊢;exact e b y h
theorem Rd.is(r:Rd H d (.dK kvs)):∃u,H d=some u/\(∀xs,u≠.lst xs):=by
 rcases r with r|⟨o,r⟩
 ·exact⟨_,r,λ_ z=>by cases z⟩
 ·exact⟨_,r,λ_ z=>by cases z⟩
abbrev De(M:List Int)(f:Int->Nat):List (CF×V):=Au M (M.map λp=>V.int ((f p:Nat):Int))
theorem Oj(M:List Int)(f:Int->Nat):(De M f).length=M.length:=Cm (by rw[WD])
theorem Ol{M:List Int}{f:Int->Nat}{x:Int}{n:Nat}(h:x∉M):Cy (De M f) (Sum.inl x) (.int ((n:Nat):Int))=De (M++[x]) (λp=>if p∈M then f p else n):=by
 unfold De;rw[FT (by rw[WD]) h]
 congr 1
 rw[WN,W0,X9]
 congr 1
 ·exact XQ λp hp=>by show V.int ((f p:Nat):Int)=V.int (((if p∈M then f p else n):Nat):Int);rw[if_pos hp]
 ·show[V.int ((n:Nat):Int)]=[V.int (((if x∈M then f x else n):Nat):Int)];rw[if_neg h]
theorem KM{M:List Int}{f:Int->Nat}(nd:M.Nodup)(x:Int):CG (De M f) (Sum.inl x)=if x∈M then some (.int ((f x:Nat):Int)) else none:=by
 by_cases h:x∈M
 ·obtain⟨i,hi⟩:=EI h;rw[if_pos h];exact B4 nd hi (by rw[WO,hi];rfl)
 ·rw[if_neg h];exact CQ h
inductive LO(vs:List V)(H:Hp)(Q:VK)(z3_:XK):Prop
 |m (d e:Addr) (ls:List Addr) (A:List Int) (F:Int->List Int) (E:List Int):vs=[.ref d,.ref e]->Rd H d (.dK (Au A (ls.map V.ref)))->EJ H ls A F->A.Nodup->(∀a∈A,∀p∈F a,p∈A)->A.length<=512->(∀a∈A,(F a).length<=9)->H e=some (.lst (E.map V.int))->E.length<=600->(∀o H' d2 M f,AF (Ad H d (.frz o (.dK (Au A (ls.map V.ref))))) H'->H d2=none->H' d2=some (.dK (De M f))->KL A F E M f->Q (.ref d2) H')->LO vs H Q z3_
def VU(HB HX:Hp)(d2 p:Addr)(A:List Int)(F:Int->List Int)(E:List Int)(M0:List Int)(n:Nat)(L:List Int):Prop:=∃M f R,AF HB HX/\HX d2=some (.dK (De M f))/\HX p=some (.lst (R.map V.int))/\R.length<=M.length*6000/\(R=[]\/M0.length<M.length)/\M0.length<=M.length/\JH A F E M f n L R
def GX(M:List Int)(f:Int->Nat)(x:Int):Option Nat:=if x∈M then some (f x) else none
def EK(F:Int->List Int)(fo:Int->Option Nat)(n:Nat)(x:Int):Nat:=(F x).findIdx λy=>fo y==some n
def Em(F:Int->List Int)(fo:Int->Option Nat):Nat->Int->List Int
 |0,_=>[]
 |n+1,x=>((EK F fo n x:Nat):Int)::Em F fo n ((F x).getD (EK F fo n x) 0)
theorem Ri{fo:Int->Option Nat}{n:Nat}{x y:Int}(h:y∈F x)(e:fo y=some n):∃z,(F x)[EK F fo n x]?=some z/\fo z=some n/\(F x).getD (EK F fo n x) 0=z/\EK F fo n x<(F x).length/\∀m,m<EK F fo n x->∀y,(F x)[m]?=some y->fo y≠some n:=by
 have lt:EK F fo n x<(F x).length:=List.findIdx_lt_length_of_exists ⟨y,h,by rw[e];exact beq_self_eq_true _⟩;refine⟨_,WJ lt,?_,by rw[WH,WJ lt];rfl,lt,λm hm y hy=>?_⟩
 ·have:=List.findIdx_getElem (w:=lt);exact eq_of_beq this
 ·have ml:m<(F x).length:=Nat.lt_trans hm lt;rw[WJ ml]at hy;cases hy;intro z;have:=List.not_of_lt_findIdx hm;rw[z]at this;simp at this
theorem BX.into{P:Addr}(e:BX P H H')(h:H d=none)(u:HO):BX P H (Ad H' d u):=λb o n q=>by rw[AI λz=>by rw[z,h]at q;cases q];exact e b o n q
theorem BL.into{P:Addr}(t:BL pos q P H){u v:HO}(h:H d=some u)(n1:∀ps,u≠.tbl ps)(n2:∀o,u≠.frz o CH):BL pos q P (Ad H d v):=by obtain⟨ps,h1,h2,h3⟩:=t;refine⟨ps,by rw[AI λz=>by rw[z,h]at h1;cases h1;exact n1 _ rfl];exact h1,h2,λcv hc=>?_⟩;obtain⟨c',oc,h4,h5,h6⟩:=h3 cv hc;exact⟨c',oc,h4,by rw[AI λz=>by rw[z,h]at h5;cases h5;exact n2 _ rfl];exact h5,h6⟩
theorem KL.chain{A:List Int}{E M:List Int}{f:Int->Nat}(w:KL A F E M f):∀(n:Nat) (p:Int),p∈M->f p=n->∃l:List Int,l.length=n+1/\l.Nodup/\∀q∈l,q∈M/\f q<=n
 |0,p,hp,e=>⟨[p],rfl,Wt.mpr ⟨WU,XH⟩,λq hq=>by rw[WE.mp hq];exact⟨hp,Nat.le_of_eq e⟩⟩
 |n+1,p,hp,e=>by
  obtain⟨_,q,_,hq,eq⟩:=w.down p hp n e;obtain⟨l,h1,h2,h3⟩:=w.chain n q hq eq;refine⟨p::l,by rw[Wy,h1],Wt.mpr ⟨λz=>by have:=(h3 p z).2;lia,h2⟩,λy hy=>?_⟩;rcases WY.mp hy with z|z
  ·rw[z];exact⟨hp,Nat.le_of_eq e⟩
  ·exact⟨(h3 y z).1,by have:=(h3 y z).2;lia⟩
theorem KL.low{A:List Int}{E M:List Int}{f:Int->Nat}(w:KL A F E M f){p:Int}(hp:p∈M):f p<M.length/\M.length<=A.length+E.length:=by
 obtain⟨l,h1,h2,h3⟩:=w.chain (f p) p hp rfl;have a:=h2.length_le_of_subset (l₂:=M) λq hq=>(h3 q hq).1
 have b:=w.nd.length_le_of_subset (l₂:=A++E) λq hq=>WK.mpr (w.sub q hq)
 rw[WI]at b;lia
inductive LQ(CT:Addr)(pos:Pos)(Pt:Addr)(vs:List V)(H:Hp)(Q:VK)(E:XK):Prop
 |m (r:Addr) (g lo:Int) (tab:List Int) (m:Nat) (lf:Int) (tf:List Int) (mf:Nat):vs=[.ref r]->Al H r g lo tab m->Aq g lo tab m lf tf mf->BL pos (HL "sets_reached") Pt H->(g^(mf-1)<=9->∀A M f,HE [Ae g tf] (AW g tf) A->KL A (AW g tf) [0] M f->(Ae g tf∉M->∀H',BX Pt H H'->BL pos (HL "sets_reached") Pt H'->Q .non H')/\(Ae g tf∈M->∀D H',BX Pt H H'->BL pos (HL "sets_reached") Pt H'->H D=none->H' D=some (.lst ((Em (AW g tf) (GX M f) (f (Ae g tf)) (Ae g tf)).map V.int))->Q (.ref D) H'))->(9<g^(mf-1)->∀H',AF H H'->E (.ref CT) none H')->LQ CT pos Pt vs H Q E
abbrev Bl(A:List Int):List (CF×V):=Au A (A.map λ_=>V.bl true)
theorem EL(A:List Int):(Bl A).length=A.length:=Cm (by rw[WD])
theorem P2:∀{A:List Int} {x:Int},x∈A->Cy (Bl A) (Sum.inl x) (.bl true)=Bl A:=λ{A x} h=>by
 unfold Cy
 have any:((Bl A).any λkv=>decide (kv.1=Sum.inl x))=true:=by obtain⟨i,hi⟩:=EI h;refine XB.mpr ⟨(Sum.inl x,.bl true),WQ (i:=i) ?_,decide_eq_true rfl⟩;unfold Bl Au;rw[List.getElem?_zipWith,WO,hi];rfl
 rw[if_pos any];refine List.ext_getElem? λi=>?_;rw[WO];cases e:(Bl A)[i]? with
 |none=>rfl
 |some kv =>
  obtain⟨k,v⟩:=kv;obtain⟨a,h1,h2,rfl⟩:=GW e;rw[WO,h1]at h2;cases h2;show some (if (Sum.inl a:CF)=Sum.inl x then ((Sum.inl a:CF),V.bl true) else (Sum.inl a,V.bl true))=_
  split<;>rfl
theorem HM{A:List Int}{x:Int}:Cy (Bl A) (Sum.inl x) (.bl true)=Bl (if x∈A then A else A++[x]):=by
 by_cases h:x∈A
 ·rw[if_pos h,P2 h]
 ·rw[if_neg h];unfold Bl;rw[FT (by rw[WD]) h,WN];rfl
structure Fu(L A:List Int):Prop where
 nd:A.Nodup
 on:∀x,x∈A↔x∈L
theorem Fu.nil:Fu [] []:=⟨XH,λ_=>Iff.rfl⟩
theorem Fu.put{A:List Int}(m:Fu L A)(x:Int):Fu (L++[x]) (if x∈A then A else A++[x]):=by
 by_cases h:x∈A
 ·rw[if_pos h];refine⟨m.nd,λy=>?_⟩;rw[WK,WE,m.on];exact⟨.inl,λz=>z.elim id λz=>by rw[z];exact (m.on x).mp h⟩
 ·rw[if_neg h];refine⟨XG.mpr ⟨m.nd,Wt.mpr ⟨WU,XH⟩,λa ha b hb e=>h (by rw[<-WE.mp hb,<-e];exact ha)⟩,λy=>?_⟩;rw[WK,WK,m.on]
theorem Fu.len{A:List Int}(m:Fu L A):A.length<=L.length:=m.nd.length_le_of_subset λx hx=>(m.on x).mp hx
def Cj(g:Int)(tf sets:List Int):Prop:=Ae g tf∈sets/\∀x∈sets,1<=x/\x<=Ae g tf/\∀y∈AW g tf x,y∈sets
inductive HN(vs:List V)(H:Hp)(Q:VK)(z3_:XK):Prop
 |m (r a:Addr) (g lf:Int) (tf:List Int) (mf:Nat) (sets:List Int):vs=[.ref r,.ref a]->Al H r g lf tf mf->Aq g lf tf mf lf tf mf->g^(mf-1)<=9->H a=some (.lst (sets.map V.int))->sets.length<=900->(∀(c:Bool) H',AF H H'->(c=true↔Cj g tf sets)->Q (.bl c) H')->HN vs H Q z3_
def EM(g:Int)(tf:List Int)(x:Int)(row:List Int):Int:=row.foldl (λx s=>DE g.toNat tf (tf.length/g.toNat) x s) x
theorem IM{n:Nat}{f:Nat->Int}(h:∀k,k<n->0<=f k):Eh n f=0↔∀k,k<n->f k=0:=by
 constructor
 ·intro e k hk;have:=Pj h hk;have:=h k hk;lia
 ·intro e;rw[K8 (g:=λ_=>0) e,K9,Int.mul_zero]
theorem NA{n:Nat}{f:Nat->Bool}:BR n f=0↔∀i,i<n->f i=false:=by
 constructor
 ·intro e i hi;have b:=G3 (f:=f) hi;rw[e,Int.zero_ediv]at b;cases z:f i with
  |false=>rfl
  |true=>rw[z]at b;cases b
 ·intro e;rw[C1 (h:=λ_=>false) e,Eb]
theorem IN(g2:2<=g):∀(row:List Int) (f:Nat->Bool),EM g tf (BR (tf.length/g.toNat) f) row=0↔∀i,i<tf.length/g.toNat->f i=true->Mn g.toNat tf row i=0
 |[],f=>by
  show BR _ f=0↔_;rw[NA];constructor
  ·intro h i hi e;rw[h i hi]at e;cases e
  ·intro h i hi;cases z:f i with
   |false=>rfl
   |true=>have:=h i hi z;cases this
 |s::row,f=>by
  obtain⟨h,hh⟩:∃h,h=tf.length/g.toNat:=⟨_,rfl⟩;show EM g tf (BR _ (C3 g.toNat tf _ (BR _ f) s _)) row=0↔_;rw[IN g2 row,<-hh]
  have eq:∀i,Mn g.toNat tf (s::row) i=0↔∀j,j<g.toNat->tf.getD (i*g.toNat+j) 0=s->Mn g.toNat tf row ((i*g.toNat+j)%h)=0:=λi=>by
   show Eh g.toNat (λj=>QV (decide (tf.getD (i*g.toNat+j) 0=s)) (Mn g.toNat tf row ((i*g.toNat+j)%(tf.length/g.toNat))))=0↔_;rw[IM λj _=>Gv (Ew ..),<-hh];refine forall_congr' λj=>forall_congr' λhj=>?_
   unfold QV
   by_cases z:tf.getD (i*g.toNat+j) 0=s
   ·rw[decide_eq_true z];exact⟨λy _=>y,λy=>y z⟩
   ·rw[decide_eq_false z];exact⟨λ_ y=>absurd y z,λ_=>rfl⟩
  constructor
  ·intro H i hi fi;rw[eq];intro j hj hs;have lt:(i*g.toNat+j)%h<h:=YA _ (by lia);refine H _ lt ?_;unfold C3;refine XB.mpr ⟨i,Wl.mpr hi,?_⟩;rw[YW];refine⟨decide_eq_true ?_,?_⟩
   ·rw[G3 hi,if_pos fi]
   ·unfold EG;exact XB.mpr ⟨_,FR.mpr ⟨j,hj,hs,rfl⟩,beq_self_eq_true _⟩
  ·intro H e he st;unfold C3 at st;obtain⟨i,hi,st⟩:=XB.mp st;rw[YW]at st;have il:=Wl.mp hi
   have fi:f i=true:=by
    have b:=of_decide_eq_true st.1;rw[G3 il]at b;cases z:f i with
    |true=>rfl
    |false=>rw[z]at b;cases b
   unfold EG at st;obtain⟨k,hk,ke⟩:=XB.mp st.2;obtain⟨j,hj,hs,rfl⟩:=FR.mp hk;rw[<-eq_of_beq ke];exact (eq i).mp (H i il fi) j hj hs
theorem KN(g2:2<=g)(row:List Int):EM g tf (Ae g tf) row=0↔U5 g.toNat tf row=0:=by unfold Ae U5;rw[<-KD,IN g2,IM λk _=>Ew ..];exact⟨λh k hk=>h k hk rfl,λh k hk _=>h k hk⟩
def GC(g:Int)(tf row:List Int):Prop:=(∀n∈row,0<=n/\n<g)/\EM g tf (Ae g tf) row=0
def FV(H:Hp)(x C:Addr)(f:Str)(xs:List Int):Prop:=∃dx p,H x=some (.ins C dx [(f,.ref p)])/\H p=some (.lst (xs.map V.int))
theorem FV.same{x:Addr}{f:Str}{xs:List Int}(e:AF H H')(h:FV H x C f xs):FV H' x C f xs:=by obtain⟨dx,p,h1,h2⟩:=h;exact⟨dx,p,e _ _ h1,e _ _ h2⟩
theorem FV.sameT{P:Addr}{x:Addr}{f:Str}{xs:List Int}(e:BX P H H')(t:BL pos q P H)(h:FV H x C f xs):FV H' x C f xs:=by obtain⟨dx,p,h1,h2⟩:=h;exact⟨dx,p,e.get t h1 (λ_ z=>by cases z),e.get t h2 (λ_ z=>by cases z)⟩
inductive HP(C:Addr)(f:Str)(vs:List V)(H:Hp)(Q:VK)(z3_:XK):Prop
 |m (x dx a:Addr) (xs:List Int):vs=[.ref x,.ref a]->H x=some (.ins C dx [])->H a=some (.lst (xs.map V.int))->(∀p H',(∀H2,AF H2 H->H2 x=none->AF H2 H')->H' x=some (.ins C dx [(f,.ref p)])->H' p=some (.lst (xs.map V.int))->H p=none->Q .non H')->HP C f vs H Q z3_
inductive E3(C:Addr)(f:Str)(vs:List V)(H:Hp)(Q:VK)(z3_:XK):Prop
 |m (x:Addr) (xs:List Int):vs=[.ref x]->FV H x C f xs->(∀(t p:Addr) (H':Hp),AF H H'->H' t=some (.tup [.ref p])->H' p=some (.lst (xs.map V.int))->H p=none->Q (.ref t) H')->E3 C f vs H Q z3_
inductive JK(C:Addr)(vs:List V)(H:Hp)(Q:VK)(z3_:XK):Prop
 |m (x:Addr):vs=[.ref x]->(∀(t:Addr) (H':Hp),AF H H'->H' t=some (.tup [])->Q (.ref t) H')->JK C vs H Q z3_
inductive JL(vs:List V)(H:Hp)(Q:VK)(z3_:XK):Prop
 |m (x r:V):vs=[x,r]->Q (.bl false) H->JL vs H Q z3_
inductive Dv(CT C:Addr)(f:Str)(P:Int->List Int->List Int->Prop)(most:Nat)(vs:List V)(H:Hp)(Q:VK)(E:XK):Prop
 |m (x r:Addr) (g lo:Int) (tab:List Int) (m:Nat) (lf:Int) (tf:List Int) (mf:Nat) (xs:List Int):vs=[.ref x,.ref r]->FV H x C f xs->Al H r g lo tab m->Aq g lo tab m lf tf mf->(9<g^(mf-1)->∀H',AF H H'->E (.ref CT) none H')->(g^(mf-1)<=9->xs.length<=most/\∀(b:Bool) (H':Hp),AF H H'->(b=true↔P g tf xs)->Q (.bl b) H')->Dv CT C f P most vs H Q E
structure Cf(H:Hp)(p:Addr)(ps:List Addr)(G:Nat)(D:Nat->List Int):Prop where
 l:H p=some (.lst (ps.map V.ref))
 n:ps.length=G
 nd:ps.Nodup
 np:p∉ps
 e:∀(s:Nat) (q:Addr),ps[s]?=some q->H q=some (.lst ((D s).map V.int))
theorem Cf.same{ps:List Addr}{D:Nat->List Int}(e:AF H H')(r:Cf H p ps G D):Cf H' p ps G D:=⟨e _ _ r.l,r.n,r.nd,r.np,λs q h=>e _ _ (r.e s q h)⟩
theorem Cf.congr{ps:List Addr}{D D':Nat->List Int}(r:Cf H p ps G D)(h:∀s,s<G->D' s=D s):Cf H p ps G D':=⟨r.l,r.n,r.nd,r.np,λs q hq=>by rw[h s (by rw[<-r.n];exact (WF.mp hq).1)];exact r.e s q hq⟩
theorem Cf.set{ps:List Addr}{D:Nat->List Int}(r:Cf H p ps G D){s:Nat}{q:Addr}(hq:ps[s]?=some q)(L:List Int):Cf (Ad H q (.lst (L.map V.int))) p ps G (λk=>if k=s then L else D k):=by
 refine⟨by rw[AI λz=>r.np (by rw[z];exact WQ hq)];exact r.l,r.n,r.nd,r.np,λk q' hk=>?_⟩
 by_cases e:k=s
 ·subst e;rw[hq]at hk;cases hk;rw[AC];show some (HO.lst (L.map V.int))=some (.lst ((if k=k then L else D k).map V.int));rw[if_pos rfl]
 ·rw[AI λz=>e (by
   subst z;have a:=WF.mp hk;have b:=WF.mp hq;exact (YV (h₀:=a.1) (h₁:=b.1) r.nd).mp (by rw[a.2,b.2]))]
  show H q'=some (.lst ((if k=s then L else D k).map V.int));rw[if_neg e];exact r.e k q' hk
theorem Cf.snoc{ps:List Addr}{D:Nat->List Int}(r:Cf H p ps G D){q:Addr}(hq:H q=some (.lst ((D G).map V.int)))(nq:q∉ps)(np:q≠p):Cf (Ad H p (.lst (ps.map V.ref++[V.ref q]))) p (ps++[q]) (G+1) D:=by
 refine⟨by rw[AC,WN];rfl,by rw[WI,r.n];rfl,XG.mpr ⟨r.nd,Wt.mpr ⟨WU,XH⟩,λa ha b hb e=>nq (by rw[<-WE.mp hb,<-e];exact ha)⟩,λz=>(WK.mp z).elim r.np λz=>np (WE.mp z).symm,λs q' h=>?_⟩
 by_cases z:s<ps.length
 ·rw[Wx z]at h;rw[AI λy=>r.np (by rw[<-y];exact WQ h)];exact r.e s q' h
 ·rw[Wc (by lia)]at h;have z0:s-ps.length=0:=by have:=(WF.mp h).1;simp at this;lia
  rw[z0]at h;cases h;rw[AI np,show s=G by rw[<-r.n];lia];exact hq
inductive FW(vs:List V)(H:Hp)(Q:VK)(z3_:XK):Prop
 |m (p:Addr) (g:Int) (tab:List Int) (x:Int):vs=[.ref p,.int g,.int x]->H p=some (.lst (tab.map V.int))->2<=g->g<=9->tab.length=tab.length/g.toNat*g.toNat->1<=tab.length/g.toNat->tab.length/g.toNat<=9->(∀n∈tab,0<=n/\n<g)->(∀q H',FI H H' q (AW g tab x)->Q (.ref q) H')->FW vs H Q z3_
inductive JM(vs:List V)(H:Hp)(Q:VK)(z3_:XK):Prop
 |m (r:Addr) (g lo:Int) (tab:List Int) (m:Nat) (lf:Int) (tf:List Int) (mf:Nat):vs=[.ref r]->Al H r g lo tab m->Aq g lo tab m lf tf mf->g^(mf-1)<=9->(∀p H' A,FI H H' p A->HE [Ae g tf] (AW g tf) A->(∀a∈A,0<=a/\a<((2^(tf.length/g.toNat):Nat):Int))->Q (.ref p) H')->JM vs H Q z3_
inductive Fv(vs:List V)(H:Hp)(Q:VK)(z3_:XK):Prop
 |m (r a:Addr) (g lo:Int) (tab:List Int) (m:Nat) (lf:Int) (tf:List Int) (mf:Nat) (sets:List Int):vs=[.ref r,.ref a]->Al H r g lo tab m->Aq g lo tab m lf tf mf->g^(mf-1)<=9->H a=some (.lst (sets.map V.int))->sets.length<=900->(∀(c:Bool) H',AF H H'->(c=true↔Cj g tf sets)->Q (.bl c) H')->Fv vs H Q z3_
inductive JN(vs:List V)(H:Hp)(Q:VK)(z3_:XK):Prop
 |m (r a:Addr) (g lo:Int) (tab:List Int) (m:Nat) (lf:Int) (tf:List Int) (mf:Nat) (row:List Int):vs=[.ref r,.ref a]->Al H r g lo tab m->Aq g lo tab m lf tf mf->g^(mf-1)<=9->H a=some (.lst (row.map V.int))->(∀(c:Bool) H',AF H H'->(c=true↔GC g tf row)->Q (.bl c) H')->JN vs H Q z3_
theorem HR(hg:2<=g){m:Nat}(tb:∀n∈tab,0<=n/\n<g)(fw:Aq g lo tab m lf tf mf):∀n∈tf,0<=n/\n<g:=by
 have bw:∀{lo:Int} {tab:List Int} {m:Nat} {low:Int} {M:Nat},(∀n∈tab,0<=n/\n<g)->∀n∈Eg g lo tab m low M,0<=n/\n<g:=λ{lo tab m low M} tb n hn=>by unfold Eg at hn;obtain⟨k,_,rfl⟩:=Wd.mp hn;exact Dq hg tb _
 obtain⟨low,M,n,rfl,⟨rfl,rfl,rfl⟩|⟨h2,rfl,rfl⟩⟩:=fw
 ·exact bw (bw tb)
 ·exact bw tb
theorem IP:∀{A:List Int} {vs:List V},vs.length=A.length->(Au A vs).map (λq=>kV q.1)=A.map V.int
 |[],[],_=>rfl
 |a::A,v::vs,h=>by show kV (Sum.inl a)::(Au A vs).map (λq=>kV q.1)=V.int a::A.map V.int;rw[IP (Nat.succ.inj h)];rfl
theorem NB(x:Int){row:List Int}{n:Int}(h:row[i]?=some n)(n0:0<=n)(n1:n<g):EM g tf x (row.take (i+1))=(AW g tf (EM g tf x (row.take i))).getD n.toNat 0:=by rw[Wz,h];unfold EM AW;rw[YN,WH,WO,List.getElem?_range (by lia)];show DE _ _ _ _ n=DE _ _ _ _ ((n.toNat:Nat):Int);rw[XF n0]
theorem BX.seq{K:PySem.W.Frag}{P:Addr}(e:BX P H H')(t:BL pos q P H)(h:Ac K H a xs):Ac K H' a xs:=by
 rcases h with (h|⟨o,h⟩)|h
 ·exact .inl (.inl (e.get t h λ_ z=>by cases z))
 ·exact .inl (.inr ⟨o,e.get t h λ_ z=>by cases z⟩)
 ·exact .inr h
theorem AF.toT{P:Addr}(e:AF H H'):BX P H H':=λb o _ h=>e b o h
end L2
local macro_rules|`(tactic|walk_at "rd")=>`(tactic|try simp only[L2.Q8,L2.VM,L2.S8,L2.NG,L2.NF,L2.Qs,L2.S4,L2.QD,L2.Sv,L2.Vz,L2.Qp,L2.tC,L2.Nc,L2.BE,L2.Ct,L2.O7,L2.E7,L2.Kc,L2.Cd,L2.P7,L2.V4,L2.U1,L2.Lc,L2.Sm,L2.QH,L2.TV,L2.Mb,L2.El,Option.join_some,L2.Sz,L2.Gg,L2.Jj,L2.Ii,L2.QJ,L2.TB,L2.No,L2.MZ,L2.S6,L2.S7,
 L2.Sl,L2.Sk,L2.Vx,L2.tB,L2.P5,L2.P6,L2.rI,L2.NL,L2.rU,L2.Q7,L2.PM,L2.V3,L2.QG,L2.LZ,L2.CV,L2.Sx,L2.O2,L2.Sy,L2.V0,L2.V1,L2.Qz,
 W0,X9,Wy,YG,List.cons_append,List.nil_append,List.replicate,List.getElem?_cons_zero,List.getElem?_cons_succ,List.set_cons_zero,List.set_cons_succ,Nat.reduceAdd,Nat.reduceSub,
 Option.some.injEq,L2.V.int.injEq,L2.V.bl.injEq,L2.V.ref.injEq,L2.V.str.injEq,List.cons.injEq,and_true,true_and,exists_eq_left',exists_eq_left,exists_eq_right,exists_and_left,exists_and_right,exists_eq,and_assoc,if_true,if_false,reduceIte,reduceCtorEq,not_true_eq_false,not_false_eq_true,Bool.false_eq_true,Bool.not_true,Bool.not_false,decide_eq_true_eq,Bool.not_eq_true',decide_eq_false_iff_not])
namespace K71
open PySem L2 RW
def B1(i:Nat):Stmt:=PySem.Challenge.pw_rowrules_k71_papers_of_reach_and_loss.main.body.getD i (.Pass ⟨0,0,0,0⟩)
abbrev VV:Stmt:=Cg (B1 3) 0
abbrev Rj:Stmt:=B1 8
abbrev Rk:Stmt:=B1 9
abbrev Rl:Stmt:=B1 10
abbrev Rm:Stmt:=B1 11
abbrev Rn:Stmt:=B1 12
abbrev Ro:Stmt:=B1 13
abbrev Rp:Stmt:=B1 14
abbrev Rq:Stmt:=B1 17
abbrev Rr:Stmt:=B1 18
abbrev Rs:Stmt:=B1 19
abbrev Rt:Stmt:=B1 20
abbrev Ru:Stmt:=B1 21
abbrev Rv:Stmt:=B1 22
abbrev Rw:Stmt:=B1 23
abbrev Rx:Stmt:=B1 24
abbrev Ry:Stmt:=B1 25
abbrev Rz:Stmt:=B1 27
abbrev R0:Stmt:=B1 28
abbrev R1:Stmt:=B1 29
abbrev R3:Stmt:=B1 31
abbrev R4:Stmt:=B1 32
abbrev VW:Stmt:=B1 33
abbrev R5:Stmt:=B1 34
abbrev R6:Stmt:=B1 35
abbrev R7:Stmt:=B1 36
abbrev R8:Stmt:=B1 39
abbrev R9:Stmt:=B1 40
abbrev SA:Stmt:=B1 41
abbrev SB:Stmt:=B1 42
abbrev SC:Stmt:=B1 43
abbrev SD:Stmt:=B1 44
abbrev SE:Stmt:=B1 46
abbrev SG:Stmt:=B1 47
abbrev SH:Stmt:=B1 48
abbrev SI:Stmt:=B1 50
abbrev SJ:Stmt:=B1 51
abbrev SK:Stmt:=Cg (B1 53) 0
abbrev SL:Stmt:=Cg (B1 53) 1
abbrev VX:Stmt:=Cg (B1 54) 0
abbrev VY:Stmt:=Cg (B1 54) 1
abbrev SM:Stmt:=B1 56
abbrev VZ:Stmt:=Cg (B1 54) 2
abbrev Va:Stmt:=Cg (B1 55) 0
abbrev Vb:Stmt:=Cg (B1 55) 1
abbrev Vc:Stmt:=Cg (B1 55) 2
abbrev SN:Stmt:=B1 58
abbrev Vd:Stmt:=B1 59
abbrev SO:Stmt:=B1 60
abbrev SQ:Stmt:=B1 61
abbrev SR:Stmt:=B1 62
abbrev SS:Stmt:=B1 63
abbrev SU:Stmt:=B1 64
abbrev SW:Stmt:=B1 65
abbrev SX:Stmt:=B1 66
abbrev SY:Stmt:=B1 67
abbrev Ve:Stmt:=B1 68
abbrev SZ:Stmt:=B1 69
abbrev Sa:Stmt:=B1 70
abbrev Sb:Stmt:=B1 71
abbrev Sc:Stmt:=B1 72
abbrev Sd:Stmt:=B1 73
abbrev Se:Stmt:=B1 74
abbrev P3:Stmt:=B1 75
set_option genInjectivity false
structure WB where
 (c_47 c_59 c_65 c_60 c_46 c_50 c_66 c_37 c_36:Addr)
 (f_8 f_49 f_52 f_53 f_33 f_12 f_44 f_58 f_32 f_35 f_16 f_20 f_71 f_63 f_43 f_45 f_68 f_64 f_56 f_21 f_61 f_48 f_7 f_42 f_62 f_57 f_67 f_69 f_34 f_51 f_15 f_55 f_54 f_22 f_13 f_14 f_70 f_23 f_17 f_1 f_6 f_31 f_3 f_0 f_5 f_2 f_30 f_9 f_19 f_28 f_39 f_25 f_38 f_40 f_11 f_18 f_4 f_29 f_27 f_10 f_26 f_24 f_41 f_72:Addr)
 (cc_14 p_14:Addr)
structure Bz(K:PySem.W.Frag)(mg:Str->Option Value)(t:WB):Prop where
 m_47:mg "RowError"=some (.ref t.c_47)
 m_59:mg "NoRule"=some (.ref t.c_59)
 m_65:mg "NoRow"=some (.ref t.c_65)
 m_60:mg "NoSuch"=some (.ref t.c_60)
 m_46:mg "NoWindow"=some (.ref t.c_46)
 m_50:mg "TooWide"=some (.ref t.c_50)
 m_66:mg "Paper"=some (.ref t.c_66)
 m_37:mg "OntoPaper"=some (.ref t.c_37)
 m_36:mg "LostPaper"=some (.ref t.c_36)
 d_8:∃fd,BY K "__init__" "NoRow.__init__" VV t.f_8 fd
 m_49:mg "is_whole"=some (.ref t.f_49)
 d_49:∃fd,BY K "is_whole" "is_whole" Rj t.f_49 fd
 m_52:mg "is_sign"=some (.ref t.f_52)
 d_52:∃fd,BY K "is_sign" "is_sign" Rk t.f_52 fd
 m_53:mg "is_word"=some (.ref t.f_53)
 d_53:∃fd,BY K "is_word" "is_word" Rl t.f_53 fd
 m_33:mg "check_word"=some (.ref t.f_33)
 d_33:∃fd,BY K "check_word" "check_word" Rm t.f_33 fd
 m_12:mg "check_length"=some (.ref t.f_12)
 d_12:∃fd,BY K "check_length" "check_length" Rn t.f_12 fd
 m_44:mg "number_of"=some (.ref t.f_44)
 d_44:∃fd,BY K "number_of" "number_of" Ro t.f_44 fd
 m_58:mg "word_of"=some (.ref t.f_58)
 d_58:∃fd,BY K "word_of" "word_of" Rp t.f_58 fd
 m_32:mg "check_head"=some (.ref t.f_32)
 d_32:∃fd,BY K "check_head" "check_head" Rq t.f_32 fd
 m_35:mg "places_for"=some (.ref t.f_35)
 d_35:∃fd,BY K "places_for" "places_for" Rr t.f_35 fd
 m_16:mg "table_length"=some (.ref t.f_16)
 d_16:∃fd,BY K "table_length" "table_length" Rs t.f_16 fd
 m_20:mg "check_table"=some (.ref t.f_20)
 d_20:∃fd,BY K "check_table" "check_table" Rt t.f_20 fd
 m_71:mg "rule"=some (.ref t.f_71)
 d_71:∃fd,BY K "rule" "rule" Ru t.f_71 fd
 m_63:mg "places"=some (.ref t.f_63)
 d_63:∃fd,BY K "places" "places" Rv t.f_63 fd
 m_43:mg "next_sign"=some (.ref t.f_43)
 d_43:∃fd,BY K "next_sign" "next_sign" Rw t.f_43 fd
 m_45:mg "told_from"=some (.ref t.f_45)
 d_45:∃fd,BY K "told_from" "told_from" Rx t.f_45 fd
 m_68:mg "heads"=some (.ref t.f_68)
 d_68:∃fd,BY K "heads" "heads" Ry t.f_68 fd
 m_64:mg "shares"=some (.ref t.f_64)
 d_64:∃fd,BY K "shares" "shares" Rz t.f_64 fd
 m_56:mg "ways_on"=some (.ref t.f_56)
 d_56:∃fd,BY K "ways_on" "ways_on" R0 t.f_56 fd
 m_21:mg "many_before"=some (.ref t.f_21)
 d_21:∃fd,BY K "many_before" "many_before" R1 t.f_21 fd
 m_61:mg "counts"=some (.ref t.f_61)
 d_61:∃fd,BY K "counts" "counts" R3 t.f_61 fd
 m_48:mg "counting"=some (.ref t.f_48)
 d_48:∃fd,BY K "counting" "counting" R4 t.f_48 fd
 m_7:mg "sign_or_nought"=some (.ref t.f_7)
 d_7:∃fd,BY K "sign_or_nought" "sign_or_nought" VW t.f_7 fd
 m_42:mg "by_window"=some (.ref t.f_42)
 d_42:∃fd,BY K "by_window" "by_window" R5 t.f_42 fd
 m_62:mg "narrow"=some (.ref t.f_62)
 d_62:∃fd,BY K "narrow" "narrow" R6 t.f_62 fd
 m_57:mg "widened"=some (.ref t.f_57)
 d_57:∃fd,BY K "widened" "widened" R7 t.f_57 fd
 m_67:mg "frame"=some (.ref t.f_67)
 d_67:∃fd,BY K "frame" "frame" R8 t.f_67 fd
 m_69:mg "nodes"=some (.ref t.f_69)
 d_69:∃fd,BY K "nodes" "nodes" R9 t.f_69 fd
 m_34:mg "everything"=some (.ref t.f_34)
 d_34:∃fd,BY K "everything" "everything" SA t.f_34 fd
 m_51:mg "ends_of"=some (.ref t.f_51)
 d_51:∃fd,BY K "ends_of" "ends_of" SB t.f_51 fd
 m_15:mg "single_steps"=some (.ref t.f_15)
 d_15:∃fd,BY K "single_steps" "single_steps" SC t.f_15 fd
 m_55:mg "step_by"=some (.ref t.f_55)
 d_55:∃fd,BY K "step_by" "step_by" SD t.f_55 fd
 m_54:mg "reached"=some (.ref t.f_54)
 d_54:∃fd,BY K "reached" "reached" SE t.f_54 fd
 m_22:mg "turned_back"=some (.ref t.f_22)
 d_22:∃fd,BY K "turned_back" "turned_back" SG t.f_22 fd
 m_13:mg "fewest_steps"=some (.ref t.f_13)
 d_13:∃fd,BY K "fewest_steps" "fewest_steps" SH t.f_13 fd
 m_14:mg "sets_reached"=some (.ref t.f_14)
 d_14:∃fd,Rf K "sets_reached" "sets_reached" SI t.f_14 t.cc_14 t.p_14 fd
 hd_14:PySem.W.codeHdIn K t.cc_14 t.p_14=true
 m_70:mg "lost"=some (.ref t.f_70)
 d_70:∃fd,BY K "lost" "lost" SJ t.f_70 fd
 d_23:∃fd,BY K "told" "Paper.told" SK t.f_23 fd
 d_17:∃fd,BY K "holds" "Paper.holds" SL t.f_17 fd
 d_1:∃fd,BY K "__init__" "OntoPaper.__init__" VX t.f_1 fd
 d_6:∃fd,BY K "told" "OntoPaper.told" VY t.f_6 fd
 m_31:mg "are_closed"=some (.ref t.f_31)
 d_31:∃fd,BY K "are_closed" "are_closed" SM t.f_31 fd
 d_3:∃fd,BY K "holds" "OntoPaper.holds" VZ t.f_3 fd
 d_0:∃fd,BY K "__init__" "LostPaper.__init__" Va t.f_0 fd
 d_5:∃fd,BY K "told" "LostPaper.told" Vb t.f_5 fd
 d_2:∃fd,BY K "holds" "LostPaper.holds" Vc t.f_2 fd
 m_30:mg "_law_whole"=some (.ref t.f_30)
 d_30:∃fd,BY K "_law_whole" "_law_whole" SN t.f_30 fd
 m_9:mg "_law_cell_at"=some (.ref t.f_9)
 d_9:∃fd,BY K "_law_cell_at" "_law_cell_at" Vd t.f_9 fd
 m_19:mg "_law_stream"=some (.ref t.f_19)
 d_19:∃fd,BY K "_law_stream" "_law_stream" SO t.f_19 fd
 m_28:mg "_law_power"=some (.ref t.f_28)
 d_28:∃fd,BY K "_law_power" "_law_power" SQ t.f_28 fd
 m_39:mg "_law_rule"=some (.ref t.f_39)
 d_39:∃fd,BY K "_law_rule" "_law_rule" SR t.f_39 fd
 m_25:mg "_law_frame"=some (.ref t.f_25)
 d_25:∃fd,BY K "_law_frame" "_law_frame" SS t.f_25 fd
 m_38:mg "_law_ends"=some (.ref t.f_38)
 d_38:∃fd,BY K "_law_ends" "_law_ends" SU t.f_38 fd
 m_40:mg "_law_sets"=some (.ref t.f_40)
 d_40:∃fd,BY K "_law_sets" "_law_sets" SW t.f_40 fd
 m_11:mg "_law_spoiled"=some (.ref t.f_11)
 d_11:∃fd,BY K "_law_spoiled" "_law_spoiled" SX t.f_11 fd
 m_18:mg "_law_closed"=some (.ref t.f_18)
 d_18:∃fd,BY K "_law_closed" "_law_closed" SY t.f_18 fd
 m_4:mg "_law_none_leads"=some (.ref t.f_4)
 d_4:∃fd,BY K "_law_none_leads" "_law_none_leads" Ve t.f_4 fd
 m_29:mg "_law_tells"=some (.ref t.f_29)
 d_29:∃fd,BY K "_law_tells" "_law_tells" SZ t.f_29 fd
 m_27:mg "_law_holds"=some (.ref t.f_27)
 d_27:∃fd,BY K "_law_holds" "_law_holds" Sa t.f_27 fd
 m_10:mg "_law_refused"=some (.ref t.f_10)
 d_10:∃fd,BY K "_law_refused" "_law_refused" Sb t.f_10 fd
 m_26:mg "_law_great"=some (.ref t.f_26)
 d_26:∃fd,BY K "_law_great" "_law_great" Sc t.f_26 fd
 m_24:mg "_law_asked"=some (.ref t.f_24)
 d_24:∃fd,BY K "_law_asked" "_law_asked" Sd t.f_24 fd
 m_41:mg "_law_word"=some (.ref t.f_41)
 d_41:∃fd,BY K "_law_word" "_law_word" Se t.f_41 fd
 m_72:mg "law"=some (.ref t.f_72)
 d_72:∃fd,BY K "law" "law" P3 t.f_72 fd
 z_len:mg "len"=none
 z_list:mg "list"=none
 z_reversed:mg "reversed"=none
 z_isinstance:mg "isinstance"=none
 z_range:mg "range"=none
 z_int:mg "int"=none
 z_bool:mg "bool"=none
 z_ValueError:mg "ValueError"=none
 z_tuple:mg "tuple"=none
 z_enumerate:mg "enumerate"=none
 z_min:mg "min"=none
 z_max:mg "max"=none
 z_sum:mg "sum"=none
 z_all:mg "all"=none
 g_LONGEST_TABLE:∃k,mg "LONGEST_TABLE"=some (.int 256 k)
 g_MOST_NODES:∃k,mg "MOST_NODES"=some (.int 9 k)
 th_66:Th K t.c_66
 mz_66:WA K t.c_66
 me_23:IY K t.c_66 "told" t.f_23
 me_17:IY K t.c_66 "holds" t.f_17
 th_37:Th K t.c_37
 na_OntoPaper_sets:D5 K t.c_37 "sets"
 mk_37:Mk K t.c_37 t.f_1
 me_6:IY K t.c_37 "told" t.f_6
 me_3:IY K t.c_37 "holds" t.f_3
 th_36:Th K t.c_36
 na_LostPaper_row:D5 K t.c_36 "row"
 mk_36:Mk K t.c_36 t.f_0
 me_5:IY K t.c_36 "told" t.f_5
 me_2:IY K t.c_36 "holds" t.f_2
 x_59:PySem.W.excIn K t.c_59 Fh "ValueError.__new__"=true
 x_60:PySem.W.excIn K t.c_60 Fh "ValueError.__new__"=true
 x_46:PySem.W.excIn K t.c_46 Fh "ValueError.__new__"=true
 x_50:PySem.W.excIn K t.c_50 Fh "ValueError.__new__"=true
 xm_65:U3 K t.c_65 t.f_8
 ek_65:Ig K t.c_65
 ek_50:Ig K t.c_50
 xa_NoRow_at:XA K t.c_65 t.c_47 "at"
 kt_50_50:PySem.W.kitOne K (.ref t.c_50) (.ref t.c_50)=some true
 kt_TooWide_ValueError:PySem.W.kitOne K (.ref t.c_50) (.type "ValueError")=some true
 kt_50_65:PySem.W.kitOne K (.ref t.c_50) (.ref t.c_65)=some false
 kt_50_60:PySem.W.kitOne K (.ref t.c_50) (.ref t.c_60)=some false
 kt_37_36:PySem.W.kitOne K (.ref t.c_37) (.ref t.c_36)=some false
 kt_37_66:PySem.W.kitOne K (.ref t.c_37) (.ref t.c_66)=some true
 kt_36_37:PySem.W.kitOne K (.ref t.c_36) (.ref t.c_37)=some false
 kt_36_66:PySem.W.kitOne K (.ref t.c_36) (.ref t.c_66)=some true
 em_50_47:PySem.W.exmOne K (.ref t.c_50) (.ref t.c_47)=some true
abbrev LP:Pos:=⟨210,41,210,113⟩
inductive HS(K:PySem.W.Frag)(vs:List V)(H:Hp)(Q:VK)(z3_:XK):Prop
 |m (a:Addr) (ns:List Int) (g:Int):vs=[.ref a,.int g]->H a=some (.lst (ns.map V.int))->ns.length<=800->(∀(b:Bool) (H':Hp),AF H H'->(b=true↔∀n∈ns,0<=n/\n<g)->Q (.bl b) H')->HS K vs H Q z3_
inductive Df(vs:List V)(H:Hp)(Q:VK)(z3_:XK):Prop
 |m (r:Addr) (g lo:Int) (tab:List Int) (m:Nat):vs=[.ref r]->Al H r g lo tab m->(∀(p:Addr) (lf:Int) (tf:List Int) (mf:Nat) (H':Hp),AF H H'->Aq g lo tab m lf tf mf->H' p=some (.lst (tf.map V.int))->(tf.length:Int)=g^mf->mf<=8->Q (.ref p) H')->Df vs H Q z3_
def KO:List (List Int):=[[2,3],[2,4],[3,2],[4,2],[2,2],[3,3],[5,2],[6,2],[2,1]]
def Bv(g:Int)(m:Nat):Prop:=2<=g/\g<=6/\1<=m/\m<=4/\g^m<=36/\g^(m-1)<=9
theorem KP:∀k,k<9->∃(g:Int) (m:Nat),KO[k]?=some [g,(m:Int)]/\Bv g m
 |0,_=>⟨2,3,rfl,by unfold Bv;decide⟩
 |1,_=>⟨2,4,rfl,by unfold Bv;decide⟩
 |2,_=>⟨3,2,rfl,by unfold Bv;decide⟩
 |3,_=>⟨4,2,rfl,by unfold Bv;decide⟩
 |4,_=>⟨2,2,rfl,by unfold Bv;decide⟩
 |5,_=>⟨3,3,rfl,by unfold Bv;decide⟩
 |6,_=>⟨5,2,rfl,by unfold Bv;decide⟩
 |7,_=>⟨6,2,rfl,by unfold Bv;decide⟩
 |8,_=>⟨2,1,rfl,by unfold Bv;decide⟩
 |n+9,h=>absurd h (by lia)
theorem Ho{g:Int}{m:Nat}(s:Bv g m){lo:Int}{tab:List Int}(tl:(tab.length:Int)=g^m){lf:Int}{tf:List Int}{mf:Nat}(fw:Aq g lo tab m lf tf mf):g^(mf-1)<=9:=by
 obtain⟨g2,g6,m1,m4,_,s9⟩:=s;have:=fw.le g2 tl tl λ_ _=>rfl
 by_cases y:mf<=m
 ·exact Int.le_trans (Bc g2 (show mf-1<=m-1 by lia)) s9
 ·rw[show mf-1=0+1 by have:=fw.two;lia,Wg,Wn,XT];lia
inductive HU(vs:List V)(H:Hp)(Q:VK)(z3_:XK):Prop
 |m (b:Addr) (g w c:Int) (m:Nat):vs=[.ref b,.int w,.int c]->H b=some (.tup [.int g,.int ((m:Nat):Int)])->Bv g m->(∀(r:Addr) (lo:Int) (tab:List Int) (H':Hp),AF H H'->Al H' r g lo tab m->Q (.ref r) H')->HU vs H Q z3_
theorem JO{ns:List Int}(k:Nat)(k1:1<=k)(h:k<=ns.length):JZ (ns.map V.int) (-(k:Int))=some (.int (ns.getD (ns.length-k) 0)):=by
 have e:=DX (ns:=ns) (k:=ns.length-k) (by lia)
 have z:JY (ns.map V.int).length (-(k:Int))=some (ns.length-k):=by
  unfold JY;rw[WD];rw[if_neg (by lia),if_pos (by lia)]
  congr 1
  lia
 have y:JY (ns.map V.int).length (((ns.length-k:Nat)):Int)=some (ns.length-k):=by rw[WD];exact GQ (by lia)
 unfold JZ at e⊢;rw[y]at e;rw[z];exact e
def Om(g:Int)(i:Nat)(acc:List V):Prop:=∃us:List Int,acc=us.map V.int/\us.length=i/\∀n∈us,0<=n/\n<g
theorem Om.nil{g:Int}:Om g 0 []:=⟨[],rfl,rfl,λn hn=>by cases hn⟩
theorem Om.snoc{g:Int}(g2:2<=g){i:Nat}{acc:List V}(h:Om g i acc)(v:Int):Om g (i+1) (acc++[V.int (v%g)]):=by
 obtain⟨us,rfl,ul,ub⟩:=h;refine⟨us++[v%g],by rw[WN];rfl,by rw[WI,ul];rfl,λn hn=>?_⟩;rcases WK.mp hn with z|z
 ·exact ub n z
 ·rw[WE.mp z];exact⟨W2 _ (by lia),Wu _ (by lia)⟩
theorem Om.len{g:Int}{i:Nat}{acc:List V}(h:Om g i acc)(hi:i<=1000):acc.length<sizeLine:=by obtain⟨us,rfl,ul,_⟩:=h;rw[WD];exact AQ (by lia)
theorem JP{xs:List Int}{z:Int}(z0:0<=z)(h:z<=(xs.length:Int)):(DM xs none (some z)).length=z.toNat:=by have ea:HT.GG xs.length 0 none=0:=rfl;have eb:HT.GG xs.length xs.length (some z)=min z.toNat xs.length:=if_neg (by lia);unfold DM;rw[ea,eb,Wp,Xl];lia
inductive EN(vs:List V)(H:Hp)(Q:VK)(z3_:XK):Prop
 |m (a:Addr) (sets:List Int) (w c f:Int):vs=[.ref a,.int w,.int c,.int f]->H a=some (.lst (sets.map V.int))->0<=w->1<=sets.length->sets.length<=600->1<=f->(∀(p:Addr) (sets':List Int) (H':Hp),AF H H'->H' p=some (.lst (sets'.map V.int))->sets'.length<=sets.length+1->Q (.ref p) H')->EN vs H Q z3_
theorem Ha{xs:List Int}{z:Int}(z0:0<=z)(h:z<=(xs.length:Int)):(DM xs (some z) none).length=xs.length-z.toNat:=by have ea:HT.GG xs.length 0 (some z)=min z.toNat xs.length:=if_neg (by lia);have eb:HT.GG xs.length xs.length none=xs.length:=rfl;unfold DM;rw[ea,eb,Wp,Xl];lia
theorem On{K:PySem.W.Frag}{H H1:Hp}{x a p:Addr}{sets:List Int}{v j:Int}{Q:VK}(e:AF H H1)(ha:H1 a=some (.lst (sets.map V.int)))(hx:H1 x=some (.lst ((DM sets none (some j)).map V.int)))(hp:H1 p=none)(j0:0<=j)(j1:j<sets.length)(s6:sets.length<=600)(q:∀(p:Addr) (sets':List Int) (H':Hp),AF H H'->H' p=some (.lst (sets'.map V.int))->sets'.length<=sets.length+1->Q (.ref p) H'):PD (.ref x) (.ref p) (Ad H1 p (.lst [V.int v])) λx H1=>Q3 K (V.ref a) (some j) none H1 λy H2=>PD x y H2 Q:=by have e1:=AF.new hp (.lst [V.int v]);have l1:=JP j0 (show j<=(sets.length:Int) by lia);have l2:=Ha j0 (show j<=(sets.length:Int) by lia);refine FH (e1 _ _ hx) AC (by rw[WD,l1];show _+1<=1000;lia) λp2 H2 e2 n2 h2=>?_;refine CJ (Ac.of ((e1.trans e2) _ _ ha)) λp3 H3 e3 n3 h3=>?_;rw[B9]at h3;refine FH (e3 _ _ h2) h3 (by rw[WI,WD,WD,l1,l2];show _+1+_<=1000;lia) λp4 H4 e4 n4 h4=>?_;refine q p4 (DM sets none (some j)++[v]++DM sets (some j) none) H4 ((((e.trans e1).trans e2).trans e3).trans e4) (by rw[h4,WN,WN];rfl) ?_;rw[WI,WI,l1,l2,WX];lia
inductive Fw(vs:List V)(H:Hp)(Q:VK)(z3_:XK):Prop
 |m (c:Int):vs=[.int c]->(∀(r:Addr) (g lo:Int) (tab:List Int) (m:Nat) (lf:Int) (tf:List Int) (mf:Nat) (H':Hp),AF H H'->Al H' r g lo tab m->Aq g lo tab m lf tf mf->9<g^(mf-1)->Q (.ref r) H')->Fw vs H Q z3_
def IQ(CO CL:Addr)(H:Hp)(x:Addr)(xs:List Int):Prop:=FV H x CO "sets" xs\/FV H x CL "row" xs
theorem IQ.same{CO CL:Addr}{H H':Hp}{x:Addr}{xs:List Int}(e:AF H H')(h:IQ CO CL H x xs):IQ CO CL H' x xs:=h.imp (λz=>z.same e) λz=>z.same e
inductive Ed(CO CL:Addr)(vs:List V)(H:Hp)(Q:VK)(z3_:XK):Prop
 |m (x a:Addr) (xs:List Int):vs=[.ref x,.ref a]->IQ CO CL H x xs->H a=some (.lst (xs.map V.int))->xs.length<=900->(∀H',AF H H'->Q (.bl true) H')->Ed CO CL vs H Q z3_
inductive FX(CT CO CL CP:Addr)(H:Hp)(x r:Addr)(b:Bool):Prop
 |o (h:∀(H':Hp) (Q:VK) (E:XK),AF H H'->(∀H2,AF H' H2->Q (.bl b) H2)->Dv CT CO "sets" Cj 900 [.ref x,.ref r] H' Q E) (d:∃dx p,H x=some (.ins CO dx [("sets",.ref p)]))
 |l (h:∀(H':Hp) (Q:VK) (E:XK),AF H H'->(∀H2,AF H' H2->Q (.bl b) H2)->Dv CT CL "row" GC 500 [.ref x,.ref r] H' Q E) (d:∃dx p,H x=some (.ins CL dx [("row",.ref p)]))
 |p (h:b=false) (d:∃dx,H x=some (.ins CP dx []))
inductive Ee(CT CO CL CP:Addr)(vs:List V)(H:Hp)(Q:VK)(z3_:XK):Prop
 |m (x r:Addr) (b:Bool):vs=[.ref x,.ref r,.bl b]->FX CT CO CL CP H x r b->(∀H',AF H H'->Q (.bl true) H')->Ee CT CO CL CP vs H Q z3_
inductive EO(CO CL:Addr)(vs:List V)(H:Hp)(Q:VK)(z3_:XK):Prop
 |m (x r:Addr) (xs:List Int) (g lo:Int) (tab:List Int) (m:Nat) (lf:Int) (tf:List Int) (mf:Nat):vs=[.ref x,.ref r]->IQ CO CL H x xs->Al H r g lo tab m->Aq g lo tab m lf tf mf->9<g^(mf-1)->(∀H',AF H H'->Q (.bl true) H')->EO CO CL vs H Q z3_
theorem FX.same{CT CO CL CP:Addr}{H H1:Hp}{x r:Addr}{b:Bool}(e:AF H H1)(h:FX CT CO CL CP H x r b):FX CT CO CL CP H1 x r b:=by
 rcases h with⟨h,dx,p,k⟩|⟨h,dx,p,k⟩|⟨h,dx,k⟩
 ·exact .o (λH' Q E e'=>h H' Q E (e.trans e')) ⟨dx,p,e _ _ k⟩
 ·exact .l (λH' Q E e'=>h H' Q E (e.trans e')) ⟨dx,p,e _ _ k⟩
 ·exact .p h ⟨dx,e _ _ k⟩
def DF(H:Hp)(r:Addr):Prop:=∃(g lo:Int) (tab:List Int) (m:Nat) (lf:Int) (tf:List Int) (mf:Nat),Al H r g lo tab m/\Aq g lo tab m lf tf mf/\9<g^(mf-1)
theorem DF.same{H H1:Hp}{r:Addr}(e:AF H H1)(h:DF H r):DF H1 r:=by obtain⟨g,lo,tab,m,lf,tf,mf,ok,fw,b⟩:=h;exact⟨g,lo,tab,m,lf,tf,mf,ok.same e,fw,b⟩
inductive Fx(CT CO CL CP:Addr)(vs:List V)(H:Hp)(Q:VK)(z3_:XK):Prop
 |m (x pr pd a r0 r1 r2:Addr) (b0 b1:Bool) (xs:List Int):vs=[.ref x,.ref pr,.ref pd,.ref a]->H pr=some (.lst [.ref r0,.ref r1,.ref r2])->H pd=some (.lst [.bl b0,.bl b1])->H a=some (.lst (xs.map V.int))->xs.length<=900->IQ CO CL H x xs->FX CT CO CL CP H x r0 b0->FX CT CO CL CP H x r1 b1->DF H r2->(∀H',AF H H'->Q (.bl true) H')->Fx CT CO CL CP vs H Q z3_
inductive Hb(K:PySem.W.Frag)(Pt:Addr)(vs:List V)(H:Hp)(Q:VK)(z3_:XK):Prop
 |m (a r:Addr) (ns:List Int) (g lo:Int) (tab:List Int) (m:Nat) (lf:Int) (tf:List Int) (mf:Nat):vs=[.ref a,.int g,.ref r]->Ac K H a (ns.map V.int)->ns.length<=63->Al H r g lo tab m->Aq g lo tab m lf tf mf->g^(mf-1)<=9->BL LP (HL "sets_reached") Pt H->(∀(p:Addr) (ws:List Int) (H':Hp),BX Pt H H'->BL LP (HL "sets_reached") Pt H'->H' p=some (.lst (ws.map V.int))->ws.length<=300->Q (.ref p) H')->Hb K Pt vs H Q z3_
def FY(H:Hp)(r:Addr)(g:Int)(tf:List Int):Prop:=∃(lo:Int) (tab:List Int) (m:Nat) (lf:Int) (mf:Nat),Al H r g lo tab m/\Aq g lo tab m lf tf mf/\g^(mf-1)<=9
theorem FY.same{H H1:Hp}{r:Addr}{g:Int}{tf:List Int}(e:AF H H1)(h:FY H r g tf):FY H1 r g tf:=by obtain⟨lo,tab,m,lf,mf,ok,fw,s⟩:=h;exact⟨lo,tab,m,lf,mf,ok.same e,fw,s⟩
theorem FY.sameT{P:Addr}{H H1:Hp}{pos:Pos}{q:Str}{r:Addr}{g:Int}{tf:List Int}(e:BX P H H1)(t:BL pos q P H)(h:FY H r g tf):FY H1 r g tf:=by obtain⟨lo,tab,m,lf,mf,ok,fw,s⟩:=h;exact⟨lo,tab,m,lf,mf,ok.sameT e t,fw,s⟩
theorem DF.sameT{P:Addr}{H H1:Hp}{pos:Pos}{q:Str}{r:Addr}(e:BX P H H1)(t:BL pos q P H)(h:DF H r):DF H1 r:=by obtain⟨g,lo,tab,m,lf,tf,mf,ok,fw,b⟩:=h;exact⟨g,lo,tab,m,lf,tf,mf,ok.sameT e t,fw,b⟩
theorem FY.of{H:Hp}{r:Addr}{g lo:Int}{tab:List Int}{m:Nat}(ok:Al H r g lo tab m)(s:Bv g m):∃tf,FY H r g tf:=by obtain⟨lf,tf,mf,fw⟩:=OP ok.g2 lo (tab:=tab) (m:=m);exact⟨tf,lo,tab,m,lf,mf,ok,fw,Ho s ok.len fw⟩
theorem Tj{CT CO CL CP:Addr}{H:Hp}{x r:Addr}{g:Int}{tf xs:List Int}{b:Bool}(pv:FV H x CO "sets" xs)(sm:FY H r g tf)(xl:xs.length<=900)(hb:b=true↔Cj g tf xs):FX CT CO CL CP H x r b:=by obtain⟨lo,tab,m,lf,mf,ok,fw,s⟩:=sm;refine .o (λH' Q E e q=>⟨x,r,g,lo,tab,m,lf,tf,mf,xs,rfl,pv.same e,ok.same e,fw,λz=>absurd z (by lia),λ_=>⟨xl,λb' H2 e2 hb'=>?_⟩⟩) (by obtain⟨dx,p,h,_⟩:=pv;exact⟨dx,p,h⟩);rw[XW.mpr (hb'.trans hb.symm)];exact q H2 e2
theorem Tk{CT CO CL CP:Addr}{H:Hp}{x r:Addr}{g:Int}{tf xs:List Int}{b:Bool}(pv:FV H x CL "row" xs)(sm:FY H r g tf)(xl:xs.length<=500)(hb:b=true↔GC g tf xs):FX CT CO CL CP H x r b:=by obtain⟨lo,tab,m,lf,mf,ok,fw,s⟩:=sm;refine .l (λH' Q E e q=>⟨x,r,g,lo,tab,m,lf,tf,mf,xs,rfl,pv.same e,ok.same e,fw,λz=>absurd z (by lia),λ_=>⟨xl,λb' H2 e2 hb'=>?_⟩⟩) (by obtain⟨dx,p,h,_⟩:=pv;exact⟨dx,p,h⟩);rw[XW.mpr (hb'.trans hb.symm)];exact q H2 e2
section
variable{P:Program}{w:World}{K:PySem.W.Frag}{mg:Str->Option Value}{base:Heap}{t:WB}
theorem Vf:AK ["self","at"] ["self","at"] (AH VV):=B0 (by decide +kernel)
theorem Vg(T:Bz K mg t) :Ag P w K mg base 1 t.f_8 ["self","at"] (Il K t.c_65 t.c_47):=by refine Aw T.d_8 Vf (λ_ _ _ _ _ _=>b2 λ_ _=>rfl) λvs H Q E h=>?_;obtain⟨a,n,y,rfl,ea,q⟩:=h;refine⟨rfl,λcdv A outer s hr=>?_⟩;refine⟨_,(AE (Q9 (pv 0) (pv 1))),?_⟩;walk_at "rd";exact⟨_,_,n,ea,T.xa_NoRow_at,q⟩
theorem Tl:AK ["thing"] ["thing"] (AH Rj):=B0 (by decide +kernel)
theorem Tn(T:Bz K mg t) :Ag P w K mg base 1 t.f_49 ["thing"] (ES):=by
 refine Aw T.d_49 Tl (λ_ _ _ _ _ _=>b1 λ_=>rfl) λvs H Q E h=>?_;obtain⟨x,rfl,kd,q⟩:=h;refine⟨rfl,λcdv A outer s hr=>?_⟩;refine⟨_,(AE (AL (DG (B8 rfl T.z_isinstance (pv 0) (Ek rfl T.z_int PyProof.Rows.boot_int)) (D3 (IU (B8 rfl T.z_isinstance (pv 0) (Ek rfl T.z_bool PyProof.Rows.boot_bool))))))),?_⟩;walk_at "rd";cases x with
 |int i =>
  refine⟨_,.of (.int i),_,QK,?_⟩;rw[if_pos rfl];exact⟨_,.of (.int i),_,QL,q⟩
 |bl b =>
  refine⟨_,.of (.bl b),_,QM,?_⟩;rw[if_pos rfl];exact⟨_,.of (.bl b),_,Np,q⟩
 |non =>
  refine⟨_,.of .non,_,QN,?_⟩;rw[if_neg (by decide)];exact q
 |str y =>
  refine⟨_,.of (.str y),_,QO,?_⟩;rw[if_neg (by decide)];exact q
 |ref a =>
  obtain⟨xs,z|z⟩:=kd
  ·refine⟨_,.of (.lst z),_,QP,?_⟩;rw[if_neg (by decide)];exact q
  ·refine⟨_,.of (.tup z),_,QS,?_⟩;rw[if_neg (by decide)];exact q
 |byt _=>exact kd.elim
 |flt _=>exact kd.elim
 |ty _=>exact kd.elim
theorem To:AK ["thing","signs"] ["thing","signs"] (AH Rk):=B0 (by decide +kernel)
theorem Tp(T:Bz K mg t)(G_49:Ag P w K mg base 1 t.f_49 ["thing"] (ES)):Ag P w K mg base 2 t.f_52 ["thing","signs"] (Gi):=by
 refine Aw T.d_52 To (λ_ _ _ _ _ _=>b2 λ_ _=>rfl) λvs H Q E h=>?_;obtain⟨x,g,rfl,kd,q⟩:=h;refine⟨rfl,λcdv A outer s hr=>?_⟩;refine⟨_,(AE (AL (DG (AT hr G_49 T.m_49 (AA (pv 0) AB)) (DG (EQ NP AG (pv 0) (AS _)) (D3 (EQ DU (pv 0) (pv 1) (AS _))))))),?_⟩;walk_at "rd";refine⟨x,rfl,kd,?_⟩;cases x with
 |int i =>
  walk_at "rd";simp only[Ma]at q
  by_cases h:0<=i
  ·rw[decide_eq_true h,Bool.true_and]at q;rw[if_pos h];exact q
  ·rw[decide_eq_false h,Bool.false_and]at q;rw[if_neg h];exact q
 |_=>exact⟨false,rfl,Hj q⟩
theorem Tq:AK ["word","signs"] ["word","signs"] (AH Rl):=B0 (by decide +kernel)
theorem Tr(T:Bz K mg t)(G_52:Ag P w K mg base 2 t.f_52 ["thing","signs"] (Gi)):Ag P w K mg base 3 t.f_53 ["word","signs"] (HS K):=by
 refine Aw T.d_53 Tq (λ_ _ _ _ _ _=>b2 λ_ _=>rfl) λvs H Q E h=>?_;obtain⟨a,ns,g,rfl,ha,n8,q⟩:=h;refine⟨rfl,λcdv A outer s hr=>?_⟩;refine⟨_,(AE (AL (AU (F8 rfl) rfl T.z_all PyProof.Rows.boot_all (AA (Db [(1,"signs")] [("signs",_)] (BN (pv 0)) (λ_ _ _ _=>Bx) (λ_ _ _ _=>(AT hr G_52 T.m_52 (AA (pv 0) (AA (pv 1) AB))))) AB)))),?_⟩;walk_at "rd";refine⟨_,rfl,a,rfl,⟨_,Ac.of ha⟩,λD hD=>?_⟩;refine ET (xs:=ns.map V.int) (λi acc Hx=>acc=((ns.take i).map λn=>decide (0<=n/\n<g)).map V.bl/\AF H Hx/\Hx D=some (.lst acc)) ⟨rfl,AF.new hD _,AC⟩ (λi acc Hx _ z=>Ac.of (z.2.1 _ _ ha)) ?_ ?_
 ·rintro i x acc Hx hx ⟨rfl,ex,hDx⟩;obtain⟨v,hv,rfl⟩:=Bj hx;have hi:=(WF.mp hv).1;walk_at "rd";refine⟨.int v,g,rfl,True.intro,hDx,?_,?_,ex.into hD,AC⟩
  ·rw[WD,WD,Wp];exact AQ (by lia)
  ·rw[Xm,hv];rw[show (some v).toList=[v] from rfl,List.map_append,List.map_append,show Ma g (V.int v)=decide (0<=v/\v<g) by unfold Ma;rw[Bool.eq_iff_iff];simp];rfl
 rintro acc H2 ⟨rfl,e2,h2⟩;rw[WD,Wk]at h2;refine⟨D,rfl,_,Ac.of h2,q _ _ e2 ?_⟩;rw[X6];constructor
 ·intro z n hn;have:=z _ (Wd.mpr ⟨n,hn,rfl⟩);exact of_decide_eq_true this
 ·intro z b hb;obtain⟨n,hn,rfl⟩:=Wd.mp hb;exact decide_eq_true (z n hn)
theorem Oo:AK ["word","signs","at","thing"] ["word","signs"] (AH Rm):=B0 (by decide +kernel)
theorem Ts(T:Bz K mg t)(G_52:Ag P w K mg base 2 t.f_52 ["thing","signs"] (Gi))(G_8:Ag P w K mg base 1 t.f_8 ["self","at"] (Il K t.c_65 t.c_47)):Ag P w K mg base 3 t.f_33 ["word","signs"] (FE K t.c_65):=by
 refine C0 T.d_33 Oo (λ_ _ _ _ _ _=>b2 λ_ _=>rfl) λvs H Q E h=>?_;obtain⟨a,xs,g,rfl,hS,kd,h⟩:=h;refine⟨rfl,λcdv A outer s hr=>?_⟩;refine⟨_,(AE (A9 PassesOwn.leaving rfl (Lg rfl T.z_enumerate (AA (pv 0) AB)) (Kb rfl (DS (BK 2 Oo) (DS (BK 3 Oo) IV))) (AE (Av (Bw (Bf (AT hr G_52 T.m_52 (AA (pv 3) (AA (pv 1) AB))))) (AE (IB rfl T.xm_65 G_8 (hr.mono (by decide)) rfl T.m_65 FD (AA (pv 2) AB))) AX)))),?_⟩;refine⟨_,rfl,a,xs,rfl,hS,?_⟩;refine Jk (xs:=xs) (λi σ H1=>Bp g (xs.take i)=none/\(∃x2 x3,σ=[some (.ref a),some (.int g),x2,x3])/\AF H H1) ⟨rfl,⟨none,none,rfl⟩,AF.refl _⟩ (λi σ H1 _ z=>z.2.2.seq hS) ?_ ?_
 ·rintro i x p σ H1 hx ⟨hb,⟨x2,x3,rfl⟩,e⟩ hp;have e2:AF H (Ad H1 p (.tup [.int ((i:Nat):Int),x])):=e.trans (AF.new hp _);refine⟨p,_,rfl,Ba.of AC,rfl,_,_,rfl,_,_,rfl,rfl,?_⟩;walk_at "rd";refine⟨x,g,rfl,(kd x (WQ hx)).same e2,?_⟩;cases hs:Ma g x with
  |true =>
   walk_at "rd";exact⟨Er hb hx hs,⟨_,rfl⟩,e2⟩
  |false =>
   walk_at "rd";refine⟨by decide,λea hea=>⟨ea,true,_,rfl,AC,λdx hdx=>⟨rfl,some dx,?_,?_⟩⟩⟩
   ·rw[AI (Ne.symm (DV hdx).1),AC]
   ·rw[Es hb hx hs]at h;exact h _ dx (Gm e2 hea hdx) (by rw[CU (DV hdx).1,AC])
 ·rintro σ H1 ⟨hb,_,e⟩;rw[Wk]at hb;rw[hb]at h;exact h H1 e
theorem Tt:AK ["word","signs","many"] ["word","signs","many"] (AH Rn):=B0 (by decide +kernel)
theorem Tu(T:Bz K mg t)(G_33:Ag P w K mg base 3 t.f_33 ["word","signs"] (FE K t.c_65))(G_8:Ag P w K mg base 1 t.f_8 ["self","at"] (Il K t.c_65 t.c_47)):Ag P w K mg base 4 t.f_12 ["word","signs","many"] (Et K t.c_65):=by
 refine C0 T.d_12 Tt (λ_ _ _ _ _ _=>b3 λ_ _ _=>rfl) λvs H Q E h=>?_;obtain⟨a,xs,g,m,rfl,hS,kd,h⟩:=h;refine⟨rfl,λcdv A outer s hr=>?_⟩
 refine⟨_,(AD (A5 (BG G_33 (hr.mono (by decide)) rfl T.m_33 An (AA (BQ Bg (pv 0) Bm (Bb (pv 2))) (AA (pv 1) AB))))
  (AE (Av (AN JV (AU AM rfl T.z_len Wa (AA (pv 0) AB)) (pv 2) (AS _)) (AE (IB rfl T.xm_65 G_8 (hr.mono (by decide)) rfl T.m_65 FD (AA (AU (MM rfl) rfl T.z_min PyProof.Rows.boot_min (AA (AU AM rfl T.z_len Wa (AA (pv 0) AB)) (AA (pv 2) AB))) AB))) AX))),?_⟩
 walk_at "rd";refine CJ hS λp H1 e1 _ h1=>?_;rw[Iq]at h1;refine⟨p,_,g,rfl,Ac.of h1,λx hx=>(kd x (List.mem_of_mem_take hx)).same e1,?_⟩;unfold EC at h;cases hb:Bp g (xs.take m) with
 |some i =>
  rw[hb]at h;exact PY.same e1 h
 |none =>
  rw[hb]at h;dsimp only at h;intro H2 e2;refine⟨xs,.inl ((e1.trans e2).seq hS),?_⟩
  by_cases hl:xs.length=m
  ·rw[if_pos hl]at h;rw[if_neg (by lia)];exact h _ (e1.trans e2)
  ·rw[if_neg hl]at h;rw[if_pos (by lia)];refine⟨xs,.inl ((e1.trans e2).seq hS),by decide,λea hea=>⟨ea,true,_,rfl,AC,λdx hdx=>⟨rfl,some dx,?_,?_⟩⟩⟩
   ·rw[AI (Ne.symm (DV hdx).1),AC]
   ·refine h _ dx (Gm (e1.trans e2) hea hdx) ?_;rw[CU (DV hdx).1,AC];have e:(if (m:Int)<(xs.length:Int) then (m:Int) else (xs.length:Int))=((min xs.length m:Nat):Int):=by split<;>lia
    rw[e]
theorem L7:AK ["word","signs","number","sign"] ["word","signs"] (AH Ro):=B0 (by decide +kernel)
theorem Tv(T:Bz K mg t)(G_33:Ag P w K mg base 3 t.f_33 ["word","signs"] (FE K t.c_65)):Ag P w K mg base 4 t.f_44 ["word","signs"] (Gj K t.c_65):=by
 refine C0 T.d_44 L7 (λ_ _ _ _ _ _=>b2 λ_ _=>rfl) λvs H Q E h=>?_;obtain⟨a,xs,g,rfl,g2,g9,hS,kd,h⟩:=h;refine⟨rfl,λcdv A outer s hr=>?_⟩
 refine⟨_,(AD (A5 (BG G_33 (hr.mono (by decide)) rfl T.m_33 An (AA (pv 0) (AA (pv 1) AB))))
  (AD (AR 2 L7 AG)
  (AD (PS.nox (A9 PassesOwn.never rfl (BN (pv 0)) (BK 3 L7) (AE (AR 2 L7 (AJ A8 (AJ Cr (pv 2) (pv 1)) (pv 3))))))
  (AE (AL (pv 2)))))),?_⟩
 walk_at "rd";refine⟨a,xs,g,rfl,hS,kd,?_⟩;cases hb:Bp g xs with
 |some i =>
  rw[hb]at h;exact h
 |none =>
  rw[hb]at h;obtain⟨ns,rfl,hns⟩:=Dm hb;intro H1 e;refine⟨_,rfl,a,rfl,⟨_,e.seq hS⟩,?_⟩;refine BP (xs:=ns.map V.int) (λi σ H2=>(∃x3,σ=[some (.ref a),some (.int g),some (.int (Bn g (ns.take i))),x3])/\H2=H1) ⟨⟨none,rfl⟩,rfl⟩ (λi σ H2 _ z=>by rw[z.2];exact e.seq hS) ?_ ?_
  ·rintro i x σ H2 hx ⟨⟨x3,rfl⟩,rfl⟩;obtain⟨n,hn,rfl⟩:=Bj hx;walk_at "rd";refine⟨.inr ⟨by lia,by lia⟩,?_⟩;rw[Jm hn];exact⟨rfl,_,rfl⟩
  ·rintro σ H2 ⟨⟨x3,rfl⟩,rfl⟩;walk_at "rd";rw[WD,Wk];exact h ns rfl _ e
theorem L8:AK ["number","signs","many","backwards","rest"] ["number","signs","many"] (AH Rp):=B0 (by decide +kernel)
theorem Tw(T:Bz K mg t) :Pd P w K mg base 1 t.f_58 ["number","signs","many"] (K0 t.c_60):=by
 refine Pe T.d_58 L8 (λ_ _ _ _ _ _ us hl=>match us,hl with|[_,_,_],_=>rfl) (λvs H Q E h=>?_) (λcdv A outer s H vs Q E hr h=>?_)
 ·obtain⟨n,g,m,rfl,g2,g9,m0,m3,hbad,hgood⟩:=h;rfl
 obtain⟨n,g,m,rfl,g2,g9,m0,m3,hbad,hgood⟩:=h
 refine⟨_,(AD (Av (AN DU (pv 0) AG (AS _)) (AE (Bo rfl T.x_60 rfl T.m_60 BI (AA Co AB))) AX)
  (AD (AR 3 L8 (BB AB))
  (AD (AR 4 L8 (pv 0))
  (AD (PS.nox (B6 PassesOwn.never (AN DU (AU AM rfl T.z_len Wa (AA (pv 3) AB)) (pv 2) (AS _)) (AD (A5 (By WT We Wf BD (pv 3) (AA (AJ Aj (pv 4) (pv 1)) AB)))
  (AE (AR 4 L8 (AJ Ar (pv 4) (pv 1)))))))
  (AD (Av (AN Cs (pv 4) AG (AS _)) (AE (Bo rfl T.x_60 rfl T.m_60 BI (AA Co AB))) AX)
  (AE (AL (Ih rfl rfl T.z_reversed rfl T.z_list (AA (pv 3) AB))))))))),?_⟩
 walk_at "rd"
 by_cases hn:n<0
 ·rw[if_pos hn];exact⟨by decide,hbad (.inl hn) H (AF.refl H)⟩
 rw[if_neg hn];refine⟨XX _,λp hp=>?_⟩
 refine D4 (λσ H1=>∃i:Nat,i<=m.toNat/\σ=[some (.int n),some (.int g),some (.int m),some (.ref p),some (.int (dr g n i))]/\H1=Ad H p (.lst ((DO g n i).map V.int)))
  (λσ H1=>match H1 p with|some (.lst xs)=>m.toNat-xs.length|_=>0) ⟨0,XX _,rfl,rfl⟩ ?_ ?_
 ·rintro σ H1 ⟨i,hi,rfl,rfl⟩;walk_at "rd";have hl:((DO g n i).map V.int).length=i:=by rw[WD,DA]
  refine⟨_,.inl (Ac.of AC),?_⟩;rw[hl]
  by_cases hlt:(i:Int)<m
  ·rw[if_pos hlt];refine⟨.inl ⟨_,Ac.of AC⟩,by lia,_,AC,by rw[hl];exact AQ (by lia),by lia,by lia,⟨i+1,by lia,rfl,?_⟩,?_⟩
   ·rw[E4,DO,WN];rfl
   ·rw[AC,AC];show m.toNat-(List.map V.int (DO g n i)++[V.int (dr g n i%g)]).length<m.toNat-(List.map V.int (DO g n i)).length;rw[WI,hl];simp only[List.length_cons,List.length_nil];lia
  ·rw[if_neg hlt];have ei:i=m.toNat:=by lia
   by_cases hd:0<dr g n i
   ·rw[if_pos hd];refine⟨by decide,hbad (.inr (Int.not_lt.mp λz=>?_)) _ (AF.new hp _)⟩;rw[ei,Ll g2 (by lia) z]at hd;lia
   ·rw[if_neg hd];refine⟨_,Ac.of AC,λr hr'=>hgood (by lia) (Int.not_le.mp λz=>?_) r _ ⟨(AF.new hp _).trans (AF.new hr' _),(DV hr').2,?_⟩⟩
    ·rw[ei]at hd;exact hd (RI g2 z)
    ·rw[AC,ei,X7]
 ·intro σ H1 Q1 Q2 hq;walk_at "rd";rintro⟨v,h1,p,h2,x,h3,v2,h4,x1,h5,h6⟩;exact⟨v,h1,p,h2,x,h3,v2,h4,x1,h5,hq _ _ h6⟩
theorem Tx:AK ["signs","low"] ["signs","low"] (AH Rq):=B0 (by decide +kernel)
theorem Tz(T:Bz K mg t)(G_49:Ag P w K mg base 1 t.f_49 ["thing"] (ES)):Ag P w K mg base 2 t.f_32 ["signs","low"] (Kz t.c_59):=by
 refine C0 T.d_32 Tx (λ_ _ _ _ _ _=>b2 λ_ _=>rfl) λvs H Q E h=>?_;obtain⟨x,y,rfl,kx,ky,hg,hbad⟩:=h;refine⟨rfl,λcdv A outer s hr=>?_⟩
 refine⟨_,(AD (Av (PW.pt (Cq (Bw (Bf (AT hr G_49 T.m_49 (AA (pv 0) AB)))) (Cq (AN DU (pv 0) AG (AS _)) (Ca (AN Cs (pv 0) AG (AS _)))))) (AE (Bo rfl T.x_59 rfl T.m_59 BI (AA Co AB))) AX)
  (AE (Av (Bw (Bf (AT hr G_49 T.m_49 (AA (pv 1) AB)))) (AE (Bo rfl T.x_59 rfl T.m_59 BI (AA Co AB))) AX))),?_⟩
 walk_at "rd";refine⟨x,rfl,kx,MZ x,rfl,?_⟩;cases x with
 |int g =>
  show if true=false then _ else _;rw[if_neg (by decide)];refine⟨g,rfl,?_⟩
  by_cases h2:g<2
  ·rw[if_pos h2];exact⟨by decide,hbad (by show ((decide (2<=g)&&decide (g<=9))&&MZ y)=false;rw[decide_eq_false (p:=2<=g) (by lia)];rfl)⟩
  rw[if_neg h2];refine⟨g,rfl,?_⟩
  by_cases h9:9<g
  ·rw[if_pos h9];exact⟨by decide,hbad (by show ((decide (2<=g)&&decide (g<=9))&&MZ y)=false;rw[decide_eq_false (p:=g<=9) (by lia),Bool.and_false];rfl)⟩
  rw[if_neg h9]
  have e:Cv (.int g) y=MZ y:=by show ((decide (2<=g)&&decide (g<=9))&&MZ y)=MZ y;rw[decide_eq_true (p:=2<=g) (by lia),decide_eq_true (p:=g<=9) (by lia)];rfl
  rw[e]at hg hbad;refine⟨y,rfl,ky,MZ y,rfl,?_⟩;cases hy:MZ y with
  |false =>
   rw[if_pos rfl];exact⟨by decide,hbad hy⟩
  |true =>
   rw[if_neg (by decide)];exact hg hy
 |_ =>
  show if false=false then _ else _;rw[if_pos rfl];exact⟨by decide,hbad rfl⟩
theorem KQ:AK ["signs","length","many","words"] ["signs","length"] (AH Rr):=B0 (by decide +kernel)
theorem T0(T:Bz K mg t) :Ag P w K mg base 1 t.f_35 ["signs","length"] (DB):=by
 refine Aw T.d_35 KQ (λ_ _ _ _ _ _=>b2 λ_ _=>rfl) λvs H Q E h=>?_;obtain⟨g,n,rfl,g2,g9,hy,hn⟩:=h;refine⟨rfl,λcdv A outer s hr=>?_⟩
 refine⟨_,(AD (AR 2 KQ AG)
  (AD (AR 3 KQ AG)
  (AD (B6 PassesOwn.never (AN DU (pv 3) (pv 1) (AS _)) (AD (AR 3 KQ (AJ Cr (pv 3) (pv 0)))
  (AE (AR 2 KQ (AJ A8 (pv 2) AG)))))
  (AD (Av (AN B7 (pv 3) (pv 1) (AS _)) (AE (AL (pv 2))) AX)
  (AE (AL AG)))))),?_⟩
 walk_at "rd"
 refine D4 (λσ H1=>∃i:Nat,σ=[some (.int g),some (.int n),some (.int ((i:Nat):Int)),some (.int (g^i))]/\H1=H/\∀j,j<i->g^j<n)
  (λ(σ:St) (H1:Hp)=>match σ[3]? with|some (some (V.int x))=>(n-x).toNat|_=>0) ⟨0,by rw[Wn];rfl,rfl,λj hj=>absurd hj (YY _)⟩ ?_ ?_
 ·rintro σ H1 ⟨i,rfl,rfl,hj⟩;have gp:=RW.Ap g2 i;walk_at "rd"
  by_cases hlt:g^i<n
  ·rw[if_pos hlt];refine⟨.inr ⟨by lia,by lia⟩,⟨i+1,rfl,?_,λj hj2=>?_⟩,?_⟩
   ·rw[Wg]
   ·by_cases z:j=i
    ·rw[z];exact hlt
    ·exact hj j (by lia)
   ·have:g^i<g^i*g:=by
     have:=W9 g2 (W3 gp);lia
    lia
  ·rw[if_neg hlt]
   by_cases he:g^i=n
   ·rw[if_pos he];exact hy i he.symm
   ·rw[if_neg he];refine hn λm z=>?_
    by_cases hm:m<i
    ·have:=hj m hm;lia
    ·have:=Bc g2 (Nat.le_of_not_lt hm);lia
 ·intro σ H1 Q1 Q2 hq;walk_at "rd";rintro⟨v,h1,v2,h2,i,h3,x,h4,h5⟩;exact⟨v,h1,v2,h2,i,h3,x,h4,hq _ _ h5⟩
theorem KR:AK ["signs","many","length","done"] ["signs","many"] (AH Rs):=B0 (by decide +kernel)
theorem T1(T:Bz K mg t) :Ag P w K mg base 1 t.f_16 ["signs","many"] (Iw):=by
 refine Aw T.d_16 KR (λ_ _ _ _ _ _=>b2 λ_ _=>rfl) λvs H Q E h=>?_;obtain⟨g,m,rfl,g2,g9,m1,hy,hn⟩:=h;refine⟨rfl,λcdv A outer s hr=>?_⟩
 refine⟨_,(AD (AR 2 KR AG)
  (AD (AR 3 KR AG)
  (AD (B6 PassesOwn.never (PW.pt (Ga (AN DU (pv 3) (pv 1) (AS _)) (GM (AN NP (pv 2) (ER rfl T.g_LONGEST_TABLE) (AS _))))) (AD (AR 2 KR (AJ Cr (pv 2) (pv 0)))
  (AE (AR 3 KR (AJ A8 (pv 3) AG)))))
  (AE (AL (pv 2)))))),?_⟩
 walk_at "rd"
 refine D4 (λσ H1=>∃i:Nat,i<=m.toNat/\σ=[some (.int g),some (.int m),some (.int (g^i)),some (.int ((i:Nat):Int))]/\H1=H)
  (λ(σ:St) (H1:Hp)=>match σ[3]? with|some (some (V.int x))=>(m-x).toNat|_=>0) ⟨0,XX _,by rw[Wn];rfl,rfl⟩ ?_ ?_
 ·rintro σ H1 ⟨i,hi,rfl,rfl⟩;have gp:=RW.Ap g2 i;walk_at "rd"
  by_cases hlt:(i:Int)<m
  ·rw[if_pos hlt]
   by_cases hle:g^i<=256
   ·rw[if_pos hle];exact⟨.inr ⟨by lia,by lia⟩,⟨i+1,by lia,by rw[Wg],by lia⟩,by lia⟩
   ·rw[if_neg hle];have:=Bc g2 hi;exact hn (by lia) _ (by lia)
  ·rw[if_neg hlt];have ei:i=m.toNat:=by lia
   subst ei
   by_cases hle:g^m.toNat<=256
   ·exact hy hle
   ·exact hn (by lia) _ (by lia)
 ·intro σ H1 Q1 Q2 hq;walk_at "rd";rintro⟨v,h1,v2,h2,i,h3,x,h4,h5⟩;refine⟨v,h1,v2,h2,i,h3,x,h4,?_⟩
  by_cases z:i<x
  ·rw[if_pos z]at h5⊢;obtain⟨v3,h6,j,h7,h8⟩:=h5;exact⟨v3,h6,j,h7,hq _ _ h8⟩
  ·rw[if_neg z]at h5⊢;exact hq _ _ h5
theorem Qd:AK ["signs","table","told"] ["signs","table"] (AH Rt):=B0 (by decide +kernel)
theorem T3(T:Bz K mg t)(G_35:Ag P w K mg base 1 t.f_35 ["signs","length"] (DB))(G_52:Ag P w K mg base 2 t.f_52 ["thing","signs"] (Gi)):Ag P w K mg base 3 t.f_20 ["signs","table"] (Iu t.c_59):=by
 refine C0 T.d_20 Qd (λ_ _ _ _ _ _=>b2 λ_ _=>rfl) λvs H Q E h=>?_;obtain⟨g,z,rfl,g2,g9,kz,hg,hbad⟩:=h;refine⟨rfl,λcdv A outer s hr=>?_⟩
 refine⟨_,(AD (Av (Bw (Bf (PU rfl T.z_isinstance (pv 1) (AA (Ek rfl T.z_list PyProof.Rows.boot_list) (AA (Ek rfl T.z_tuple PyProof.Rows.boot_tuple) AB))))) (AE (Bo rfl T.x_59 rfl T.m_59 BI (AA Co AB))) AX)
  (AD (Av (PW.pt (Cq (AN Cs (AU AM rfl T.z_len Wa (AA (pv 1) AB)) (ER rfl T.g_LONGEST_TABLE) (AS _)) (Ca (AN B7 (AT hr G_35 T.m_35 (AA (pv 0) (AA (AU AM rfl T.z_len Wa (AA (pv 1) AB)) AB))) AG (AS _))))) (AE (Bo rfl T.x_59 rfl T.m_59 BI (AA Co AB))) AX)
  (AE (A9 PassesOwn.leaving rfl (TH (BN (pv 1)) (Qv (pv 1))) (BK 2 Qd) (AE (Av (Bw (Bf (AT hr G_52 T.m_52 (AA (pv 2) (AA (pv 0) AB))))) (AE (Bo rfl T.x_59 rfl T.m_59 BI (AA Co AB))) AX)))))),?_⟩
 walk_at "rd";refine⟨by decide,λp hp=>?_⟩;have e1:=AF.new hp (.tup [V.ty "list",V.ty "tuple"]);have h1:Ad H p (.tup [V.ty "list",V.ty "tuple"]) p=some (.tup [V.ty "list",V.ty "tuple"]):=AC;generalize Ad H p (HO.tup [V.ty "list",V.ty "tuple"])=H1 at e1 h1⊢;cases z with
 |ref a =>
  obtain⟨xs,hs,kx⟩:=kz;have hs1:=hs.same e1
  have notk:¬Ln g xs->¬GP H g (.ref a):=by rintro h ⟨b,ys,e,hs2,ok⟩;cases e;have:=hs.inj hs2;subst this;exact h ok
  obtain⟨tt,ty,hk⟩:∃tt,Q6 K H1 (.ref a) tt/\PySem.W.kitAny K tt [.type "list",.type "tuple"]=some true:=hs1.elim (λq=>⟨_,.of (.lst q),V5 QQ _⟩) λq=>⟨_,.of (.tup q),Pb TF (V5 QR _)⟩
  refine⟨tt,ty,_,h1,[.type "list",.type "tuple"],rfl,true,hk,?_⟩;rw[if_neg (by decide)];refine⟨a,rfl,xs,hs1.sq,?_⟩
  by_cases h256:(256:Int)<xs.length
  ·rw[if_pos h256];exact⟨by decide,hbad (notk λok=>by have:=ok.1;lia) _ e1⟩
  rw[if_neg h256];refine⟨a,rfl,xs,hs1.sq,g,_,rfl,g2,g9,λm hm=>⟨rfl,?_⟩,λhno=>⟨rfl,?_⟩⟩
  ·by_cases hm0:m=0
   ·subst hm0;rw[if_pos (show V.int ((0:Nat):Int)=V.int 0 from rfl)];refine⟨by decide,hbad (notk λok=>?_) _ e1⟩;obtain⟨m',hm1,hl⟩:=ok.2.1;have:=Ch g2 (hm.symm.trans hl);lia
   rw[if_neg (by intro z;injection z with z;lia)];rcases hs1 with hL|hT
   ·refine Or.inl ⟨_,rfl,a,rfl,⟨_,Ac.of hL⟩,?_⟩;refine BP (xs:=xs) (λi σ H2=>Bp g (xs.take i)=none/\(∃x2,σ=[some (.int g),some (.ref a),x2])/\H2=H1) ⟨rfl,⟨none,rfl⟩,rfl⟩ (λi σ H2 _ z=>by rw[z.2.2];exact Ac.of hL) ?_ ?_
    ·rintro i x σ H2 hx ⟨hb,⟨x2,rfl⟩,rfl⟩;walk_at "rd";refine⟨x,g,rfl,(kx x (WQ hx)).same e1,?_⟩;cases hsg:Ma g x with
     |true =>
      walk_at "rd";exact⟨Er hb hx hsg,_,rfl⟩
     |false =>
      walk_at "rd";exact⟨by decide,hbad (notk λok=>by have z:=ok.2.2;rw[Es hb hx hsg]at z;cases z) _ e1⟩
    ·rintro σ H2 ⟨hb,_,rfl⟩;rw[Wk]at hb;exact hg ⟨a,xs,rfl,hs,by lia,⟨m,by lia,hm⟩,hb⟩ _ e1
   ·refine Or.inr ⟨_,rfl,a,rfl,⟨_,Ba.of hT⟩,?_⟩;refine Oz (xs:=xs) (λi σ H2=>Bp g (xs.take i)=none/\(∃x2,σ=[some (.int g),some (.ref a),x2])/\H2=H1) ⟨rfl,⟨none,rfl⟩,rfl⟩ (λi σ H2 _ z=>by rw[z.2.2];exact Ba.of hT) ?_ ?_
    ·rintro i x σ H2 hx ⟨hb,⟨x2,rfl⟩,rfl⟩;walk_at "rd";refine⟨x,g,rfl,(kx x (WQ hx)).same e1,?_⟩;cases hsg:Ma g x with
     |true =>
      walk_at "rd";exact⟨Er hb hx hsg,_,rfl⟩
     |false =>
      walk_at "rd";exact⟨by decide,hbad (notk λok=>by have z:=ok.2.2;rw[Es hb hx hsg]at z;cases z) _ e1⟩
    ·rintro σ H2 ⟨hb,_,rfl⟩;rw[Wk]at hb;exact hg ⟨a,xs,rfl,hs,by lia,⟨m,by lia,hm⟩,hb⟩ _ e1
  ·rw[if_pos rfl];refine⟨by decide,hbad (notk λok=>?_) _ e1⟩;obtain⟨m',_,hl⟩:=ok.2.1;exact hno m' hl
 |non =>
  refine⟨_,.of .non,_,h1,[.type "list",.type "tuple"],rfl,false,Pb TJ (Pb TK rfl),?_⟩;rw[if_pos rfl];exact⟨by decide,hbad (λ⟨_,_,e,_⟩=>nomatch e) _ e1⟩
 |str y =>
  refine⟨_,.of (.str y),_,h1,[.type "list",.type "tuple"],rfl,false,Pb TL (Pb TM rfl),?_⟩;rw[if_pos rfl];exact⟨by decide,hbad (λ⟨_,_,e,_⟩=>nomatch e) _ e1⟩
 |int y =>
  refine⟨_,.of (.int y),_,h1,[.type "list",.type "tuple"],rfl,false,Pb TN (Pb TQ rfl),?_⟩;rw[if_pos rfl];exact⟨by decide,hbad (λ⟨_,_,e,_⟩=>nomatch e) _ e1⟩
 |bl y =>
  refine⟨_,.of (.bl y),_,h1,[.type "list",.type "tuple"],rfl,false,Pb TR (Pb TU rfl),?_⟩;rw[if_pos rfl];exact⟨by decide,hbad (λ⟨_,_,e,_⟩=>nomatch e) _ e1⟩
 |byt _=>exact kz.elim
 |flt _=>exact kz.elim
 |ty _=>exact kz.elim
theorem T4:AK ["signs","low","table"] ["signs","low","table"] (AH Ru):=B0 (by decide +kernel)
theorem T5(T:Bz K mg t)(G_32:Ag P w K mg base 2 t.f_32 ["signs","low"] (Kz t.c_59))(G_20:Ag P w K mg base 3 t.f_20 ["signs","table"] (Iu t.c_59)):Ag P w K mg base 4 t.f_71 ["signs","low","table"] (Iv t.c_59):=by
 refine C0 T.d_71 T4 (λ_ _ _ _ _ _=>b3 λ_ _ _=>rfl) λvs H Q E h=>?_;obtain⟨x,y,z,rfl,kx,ky,kz,hg,hbad⟩:=h;refine⟨rfl,λcdv A outer s hr=>?_⟩
 refine⟨_,(AD (A5 (BG G_32 (hr.mono (by decide)) rfl T.m_32 An (AA (pv 0) (AA (pv 1) AB))))
  (AD (A5 (BG G_20 (hr.mono (by decide)) rfl T.m_20 An (AA (pv 0) (AA (pv 2) AB))))
  (AE (AL (Dh (AA (pv 0) (AA (pv 1) (AA (BS DJ rfl T.z_tuple YI (AA (pv 2) AB)) AB)))))))),?_⟩
 walk_at "rd";refine⟨x,y,rfl,kx,ky,λhgood=>?_,λhb=>hbad (λh=>by rw[h.1]at hb;cases hb) _ (AF.refl _)⟩;obtain⟨g,lo,rfl,rfl,g2,g9⟩:=Ir hgood;refine⟨g,z,rfl,g2,g9,kz,λok H1 e1=>?_,λnok H1 e1=>hbad (λh=>?_) _ e1⟩
 ·obtain⟨a,xs,rfl,hs,ok⟩:=ok;obtain⟨tab,rfl,htab⟩:=Dm ok.2.2;refine⟨a,rfl,tab.map V.int,?_⟩;rcases hs with hL|hT
  ·refine .inl ⟨Ac.of (e1 _ _ hL),λl hl=>⟨by decide,λp hp=>?_⟩⟩;have e2:=AF.new hl (.tup (tab.map V.int));have e3:=AF.new hp (.tup [.int g,.int lo,.ref l]);exact hg g lo tab a rfl rfl rfl (.inl hL) g2 g9 ok htab p _ ((e1.trans e2).trans e3) ⟨l,AC,e3 _ _ AC⟩
  ·refine .inr ⟨Ba.of (e1 _ _ hT),by decide,λp hp=>?_⟩;have e3:=AF.new hp (.tup [.int g,.int lo,.ref a]);exact hg g lo tab a rfl rfl rfl (.inr hT) g2 g9 ok htab p _ (e1.trans e3) ⟨a,AC,e3 _ _ (e1 _ _ hT)⟩
 ·obtain⟨_,g',e,h'⟩:=h;cases e;exact nok h'
theorem T6:AK ["one"] ["one"] (AH Rv):=B0 (by decide +kernel)
theorem T7(T:Bz K mg t)(G_35:Ag P w K mg base 1 t.f_35 ["signs","length"] (DB)):Ag P w K mg base 2 t.f_63 ["one"] (DY):=by
 refine Aw T.d_63 T6 (λ_ _ _ _ _ _=>b1 λ_=>rfl) λvs H Q E h=>?_;obtain⟨r,g,lo,tab,m,rfl,g2,g9,⟨tb,h1,h2⟩,hl,q⟩:=h;refine⟨rfl,λcdv A outer s hr=>?_⟩;refine⟨_,(AE (AL (AT hr G_35 T.m_35 (AA (AV Af (pv 0) AG (λ_ _=>rfl)) (AA (AU AM rfl T.z_len Wa (AA (AV Af (pv 0) AG (λ_ _=>rfl)) AB)) AB))))),?_⟩;walk_at "rd";refine⟨r,_,0,.int g,rfl,rfl,Ba.of h1,C8 rfl,r,_,2,.ref tb,rfl,rfl,Ba.of h1,C8 rfl,?_⟩;walk_at "rd";refine⟨_,.inr (Ba.of h2),g,_,rfl,g2,g9,λm' e=>?_,λz=>?_⟩
 ·rw[WD,hl]at e;rw[<-Ch g2 e];exact q
 ·exact absurd (by rw[WD,hl]) (z m)
theorem T8:AK ["one","word"] ["one","word"] (AH Rw):=B0 (by decide +kernel)
theorem T9(T:Bz K mg t)(G_12:Ag P w K mg base 4 t.f_12 ["word","signs","many"] (Et K t.c_65))(G_63:Ag P w K mg base 2 t.f_63 ["one"] (DY))(G_44:Ag P w K mg base 4 t.f_44 ["word","signs"] (Gj K t.c_65)):Ag P w K mg base 5 t.f_43 ["one","word"] (Ky K t.c_65):=by
 refine C0 T.d_43 T8 (λ_ _ _ _ _ _=>b2 λ_ _=>rfl) λvs H Q E h=>?_;obtain⟨r,a,g,lo,tab,m,xs,rfl,g2,g9,hR,hl,hS,kd,h⟩:=h;refine⟨rfl,λcdv A outer s hr=>?_⟩
 refine⟨_,(AD (A5 (BG G_12 (hr.mono (by decide)) rfl T.m_12 An (AA (pv 1) (AA (AV Af (pv 0) AG (λ_ _=>rfl)) (AA (AT hr G_63 T.m_63 (AA (pv 0) AB)) AB)))))
  (AE (AL (AV Af (AV Af (pv 0) AG (λ_ _=>rfl)) (BG G_44 (hr.mono (by decide)) rfl T.m_44 An (AA (pv 1) (AA (AV Af (pv 0) AG (λ_ _=>rfl)) AB))) (λ_ _=>rfl))))),?_⟩
 obtain⟨tb,h1,h2⟩:=id hR;walk_at "rd";refine⟨r,_,0,_,rfl,rfl,Ba.of h1,rfl,r,g,lo,tab,m,rfl,g2,g9,hR,hl,a,xs,g,m,rfl,hS,kd,?_⟩;cases hb:EC g m xs with
 |some i =>
  rw[hb]at h;exact h
 |none =>
  rw[hb]at h;obtain⟨hlen,hbi⟩:=Ju hb;obtain⟨ns,rfl,hns⟩:=Dm hbi;rw[WD]at hlen;intro H1 e1;refine⟨r,_,2,_,rfl,rfl,Ba.of (e1 _ _ h1),rfl,r,_,0,_,rfl,rfl,Ba.of (e1 _ _ h1),rfl,a,_,g,rfl,g2,g9,e1.seq hS,GO,?_⟩;rw[hbi];intro ms hms H2 e2;have:=Gk hms;subst this;have nb:=Dn g2 hns;rw[hlen,<-hl]at nb;refine⟨tb,_,_,.int (tab.getD (Bn g ns).toNat 0),rfl,rfl,Ba.of (e2 _ _ (e1 _ _ h2)),?_,h ns rfl _ (e1.trans e2)⟩;have z:=DX (ns:=tab) (k:=(Bn g ns).toNat) (by lia);rw[show (((Bn g ns).toNat:Nat):Int)=Bn g ns by lia]at z;exact z
theorem Qe:AK ["one","head","sign","first"] ["one","head","sign"] (AH Rx):=B0 (by decide +kernel)
theorem UA(T:Bz K mg t) :Ag P w K mg base 1 t.f_45 ["one","head","sign"] (JA):=by
 refine Aw T.d_45 Qe (λ_ _ _ _ _ _=>b3 λ_ _ _=>rfl) λvs H Q E h=>?_;obtain⟨r,g,lo,tab,m,h,s',rfl,ok,hh,q⟩:=h;refine⟨rfl,λcdv A outer s hr=>?_⟩
 refine⟨_,(AD (AR 3 Qe (AJ Cr (pv 1) (AV Af (pv 0) AG (λ_ _=>rfl))))
  (AE (AL (Db [(2,"sign"),(0,"one")] [("sign",_),("one",_)] (MK rfl T.z_range (AA (pv 3) (AA (AJ A8 (pv 3) (AV Af (pv 0) AG (λ_ _=>rfl))) AB))) (λ_ _ _ _=>(Nr (AN B7 (AV (Lj (K:=K) rfl) (AV (Lj (K:=K) rfl) (pv 2) AG (λ_ _=>rfl)) (pv 0) (λ_ _=>rfl)) (pv 1) (AS _)))) (λ_ _ _ _=>(pv 0)))))),?_⟩
 obtain⟨tb,h1,h2⟩:=id ok.v;have g2:=ok.g2;have g9:=ok.g9;have m1:=ok.m1;have m8:=ok.m8;have hl:=ok.len;have sz:=ok.sz;have hlm:(tab.map V.int).length=tab.length:=WD ..;have hd:=CA g2 hl m1;walk_at "rd";have gn:((g.toNat:Nat):Int)=g:=by lia
 have hb2:h*g.toNat+g.toNat<=tab.length:=by have:=Nat.mul_le_mul_right g.toNat (show h+1<=tab.length/g.toNat from hh);rw[Nat.add_mul,Nat.one_mul]at this;lia
 refine⟨r,_,0,_,rfl,rfl,Ba.of h1,rfl,g,rfl,.inr ⟨by lia,by lia⟩,?_⟩;refine⟨_,rfl,_,rfl,_,rfl,r,_,0,_,rfl,rfl,Ba.of h1,rfl,_,_,rfl,rfl,_,_,rfl,?_⟩;have eh:(h:Int)*g=((h*g.toNat:Nat):Int):=by rw[Xx,gn]
 rw[eh];refine⟨⟨by lia,by lia,by lia,by lia⟩,λD hD=>?_⟩;rw[show (((h*g.toNat:Nat):Int)+g-((h*g.toNat:Nat):Int)).toNat=g.toNat by lia];refine BH (lo:=((h*g.toNat:Nat):Int)) (n:=g.toNat) (λi acc Hx=>acc=(Ex (((List.range i).filter λj=>decide (tab.getD (h*g.toNat+j) 0=s')).map λj=>h*g.toNat+j)).map V.int/\Hx=Ad H D (.lst acc)) ⟨rfl,rfl⟩ ?_ ?_
 ·rintro i acc Hx hi ⟨rfl,rfl⟩;have en:=AF.new hD (.lst ((Ex (((List.range i).filter λj=>decide (tab.getD (h*g.toNat+j) 0=s')).map λj=>h*g.toNat+j)).map V.int));have ei:((h*g.toNat:Nat):Int)+(i:Int)=((h*g.toNat+i:Nat):Int):=by lia
  have fl:((List.range i).filter λj=>decide (tab.getD (h*g.toNat+j) 0=s')).length<=i:=by have:=YU (λj=>decide (tab.getD (h*g.toNat+j) 0=s')) (List.range i);rw[WV]at this;exact this
  rw[ei];walk_at "rd";refine⟨r,_,2,_,rfl,rfl,Ba.of (en _ _ h1),rfl,tb,_,_,_,rfl,rfl,Ba.of (en _ _ h2),DX (by lia),rfl,?_⟩
  by_cases hc:tab.getD (h*g.toNat+i) 0=s'
  ·rw[if_pos (by rw[hc])];refine⟨AC,?_,?_,by rw[E4]⟩
   ·unfold Ex;rw[WD,WD,WD];exact AQ (by lia)
   ·unfold Ex;have f1:([i]:List Nat).filter (λj=>decide (tab.getD (h*g.toNat+j) 0=s'))=[i]:=by rw[List.filter_cons,if_pos (decide_eq_true hc)];rfl
    rw[W7,Xs,f1,WN,WN,WN];rfl
  ·rw[if_neg (by intro z;exact hc (V.int.inj z))];have f1:([i]:List Nat).filter (λj=>decide (tab.getD (h*g.toNat+j) 0=s'))=[]:=by rw[List.filter_cons,if_neg (by rw[decide_eq_false hc];decide)];rfl
   rw[W7,Xs,f1,W6];exact⟨rfl,rfl⟩
 ·rintro acc Hx ⟨rfl,rfl⟩;exact q D _ ⟨AF.new hD _,hD,AC⟩
theorem UB:AK ["one"] ["one"] (AH Ry):=B0 (by decide +kernel)
theorem UC(T:Bz K mg t) :Ag P w K mg base 1 t.f_68 ["one"] (DC):=by
 refine Aw T.d_68 UB (λ_ _ _ _ _ _=>b1 λ_=>rfl) λvs H Q E h=>?_;obtain⟨r,g,lo,tab,m,rfl,ok,q⟩:=h;refine⟨rfl,λcdv A outer s hr=>?_⟩;refine⟨_,(AE (AL (AJ Ar (AU AM rfl T.z_len Wa (AA (AV Af (pv 0) AG (λ_ _=>rfl)) AB)) (AV Af (pv 0) AG (λ_ _=>rfl))))),?_⟩;obtain⟨tb,h1,h2⟩:=id ok.v;have g2:=ok.g2;have g9:=ok.g9;have m1:=ok.m1;have m8:=ok.m8;have hl:=ok.len;have sz:=ok.sz;have hlm:(tab.map V.int).length=tab.length:=WD ..;walk_at "rd";refine⟨r,_,2,_,rfl,rfl,Ba.of h1,rfl,?_⟩;walk_at "rd";refine⟨_,.inr (Ba.of h2),r,_,0,_,rfl,rfl,Ba.of h1,rfl,g,rfl,by lia,by lia,?_⟩
 have e:(((tab.map V.int).length:Nat):Int)/g=((tab.length/g.toNat:Nat):Int):=by rw[hlm,XC,XF (by lia)]
 rw[e];exact q
theorem UD:AK ["one","fitting","ways"] ["one","fitting","ways"] (AH Rz):=B0 (by decide +kernel)
theorem UE(T:Bz K mg t)(G_68:Ag P w K mg base 1 t.f_68 ["one"] (DC)):Ag P w K mg base 2 t.f_64 ["one","fitting","ways"] (Gw):=by
 refine Aw T.d_64 UD (λ_ _ _ _ _ _=>b3 λ_ _ _=>rfl) λvs H Q E h=>?_;obtain⟨r,f,w',g,lo,tab,m,fs,ws,rfl,ok,hf,fl,hw,wl,q⟩:=h;refine⟨rfl,λcdv A outer s hr=>?_⟩;refine⟨_,(AE (AL (Db [(2,"ways"),(0,"one")] [("ways",_),("one",_)] (BN (pv 1)) (λ_ _ _ _=>Bx) (λ_ _ _ _=>(AV (Cu (K:=K) rfl) (pv 1) (AJ Aj (pv 0) (AT hr G_68 T.m_68 (AA (pv 2) AB))) (λ_ _=>rfl)))))),?_⟩;obtain⟨tb,h1,h2⟩:=id ok.v;have g2:=ok.g2;have g9:=ok.g9;have m1:=ok.m1;have m8:=ok.m8;have hl:=ok.len;have sz:=ok.sz;have hlm:(tab.map V.int).length=tab.length:=WD ..;have hd:=CA g2 hl m1;have hp:=RW.Ap g2 (m-1);have hp2:0<tab.length/g.toNat:=by lia
 walk_at "rd";refine⟨_,rfl,f,rfl,⟨_,Ac.of hf⟩,λD hD=>?_⟩;refine ET (xs:=(Ex fs).map V.int) (λi acc Hx=>acc=((fs.take i).map λn=>ws.getD (n%(tab.length/g.toNat)) 0).map V.int/\Hx=Ad H D (.lst acc)) ⟨rfl,rfl⟩ (λi acc Hx _ z=>by rw[z.2];exact Ac.of (AF.new hD _ _ _ hf)) ?_ ?_
 ·rintro i x acc Hx hx ⟨rfl,rfl⟩;obtain⟨v,hv,rfl⟩:=Bj hx
  obtain⟨n,hn,rfl⟩:∃n:Nat,fs[i]?=some n/\v=(n:Int):=by
   unfold Ex at hv;rw[WO]at hv;cases z:fs[i]? with
   |none=>rw[z]at hv;cases hv
   |some n=>rw[z]at hv;exact⟨n,rfl,(Option.some.inj hv).symm⟩
  have en:=AF.new hD (.lst (((fs.take i).map λn=>ws.getD (n%(tab.length/g.toNat)) 0).map V.int));have md:(n:Int)%((tab.length/g.toNat:Nat):Int)=((n%(tab.length/g.toNat):Nat):Int):=(Xa ..).symm;have lt:=YA n hp2;walk_at "rd";refine⟨r,g,lo,tab,m,rfl,ok.same en,_,rfl,by lia,?_⟩;rw[md];refine⟨w',_,_,_,rfl,rfl,Ac.of (en _ _ hw),DX (by lia),AC,?_,?_,by rw[E4]⟩
  ·rw[WD,WD,Wp];exact AQ (by lia)
  ·rw[Xm,hn];simp
 rintro acc Hx ⟨rfl,rfl⟩;have lf:((Ex fs).map V.int).length=fs.length:=by unfold Ex;rw[List.length_map,List.length_map]
 rw[lf,Wk];exact q D _ ⟨AF.new hD _,hD,AC⟩
theorem L9:AK ["one","row","ways","sign","ends"] ["one","row"] (AH R0):=B0 (by decide +kernel)
theorem UF(T:Bz K mg t)(G_68:Ag P w K mg base 1 t.f_68 ["one"] (DC))(G_64:Ag P w K mg base 2 t.f_64 ["one","fitting","ways"] (Gw))(G_45:Ag P w K mg base 1 t.f_45 ["one","head","sign"] (JA)):Ag P w K mg base 3 t.f_56 ["one","row"] (LB K):=by
 refine Aw T.d_56 L9 (λ_ _ _ _ _ _=>b2 λ_ _=>rfl) λvs H Q E h=>?_;obtain⟨r,a,g,lo,tab,m,ns,rfl,ok,hS,hn,q⟩:=h;refine⟨rfl,λcdv A outer s hr=>?_⟩
 refine⟨_,(AD (AR 2 L9 (BB (AA (AJ Kp (BB (Ah AB)) (AT hr G_68 T.m_68 (AA (pv 0) AB))) AB)))
  (AD (A9 PassesOwn.never rfl (Ni rfl T.z_reversed (AA (pv 1) AB)) (BK 3 L9) (AD (AR 4 L9 (AV Ay (pv 2) (JU Gc AG) (λ_ _=>rfl)))
  (AE (A5 (By WT We Wf BD (pv 2) (AA (Db [(3,"sign"),(0,"one"),(4,"ends")] [("sign",_),("one",_),("ends",_)] (Ax rfl T.z_range (AA (AT hr G_68 T.m_68 (AA (pv 0) AB)) AB)) (λ_ _ _ _=>Bx) (λ_ _ _ _=>(AU (LF (K:=K) rfl rfl) rfl T.z_sum PyProof.Rows.boot_sum (AA (AT hr G_64 T.m_64 (AA (pv 2) (AA (AT hr G_45 T.m_45 (AA (pv 2) (AA (pv 0) (AA (pv 1) AB)))) (AA (pv 3) AB)))) AB)))) AB))))))
  (AE (AL (Ih rfl rfl T.z_reversed rfl T.z_list (AA (pv 2) AB)))))),?_⟩
 obtain⟨tb,h1,h2⟩:=id ok.v;have g2:=ok.g2;have g9:=ok.g9;have m1:=ok.m1;have m8:=ok.m8;have hl:=ok.len;have sz:=ok.sz;have hlm:(tab.map V.int).length=tab.length:=WD ..;have hd:=CA g2 hl m1;have hp:=RW.Ap g2 (m-1);have hm1:=Bc g2 (show m-1<=m by lia);walk_at "rd";refine⟨by decide,λp1 hp1=>?_⟩;have f1:=AF.new hp1 (.lst [V.int 1]);refine⟨r,g,lo,tab,m,rfl,ok.same f1,?_⟩;refine Lm AC (by lia) (by lia) λp2 H2 f2 n2 h2'=>⟨by decide,λpw hpw=>?_⟩
 rw[WS]at h2';have f3:=AF.new hpw (.lst [.ref p2])
 have c0:H2 p2=some (.lst ((Fm g.toNat tab []).map V.int)):=by
  rw[h2']
  congr 2
  unfold Fm;rw[List.map_map]
  symm
  rw[YT];refine⟨by rw[WD,WV],λb hb=>?_⟩;obtain⟨x,_,e⟩:=Wd.mp hb;rw[<-e];rfl
 have sA:AF H (Ad H2 pw (.lst [.ref p2])):=(f1.trans f2).trans f3;have npw:H pw=none:=(f1.trans f2).free hpw;refine⟨_,rfl,a,_,rfl,sA.seq hS,?_⟩;refine Le (xs:=ns.map V.int) (λi σ H3=>∃(ps:List Addr) (x3 x4:Option V),σ=[some (.ref r),some (.ref a),some (.ref pw),x3,x4]/\AF H H3/\H3 pw=some (.lst (ps.map V.ref))/\ps.length=i+1/\∀(j:Nat) (q':Addr),ps[j]?=some q'->H3 q'=some (.lst ((Fm g.toNat tab (ns.drop (ns.length-j))).map V.int))) ⟨[p2],none,none,rfl,sA,AC,rfl,λj q' hq=>?_⟩ (λi σ H3 _ z=>by obtain⟨_,_,_,_,e,_⟩:=z;exact e.seq hS) ?_ ?_
 ·have hj:j=0:=by
   have:=(WF.mp hq).1;simpa using this
  subst hj;have:q'=p2:=by simpa using hq.symm
  subst this;rw[YR,List.drop_length];exact f3 _ _ c0
 ·rintro i x σ H3 hx ⟨ps,x3,x4,rfl,e3,hpw3,pl,hps⟩;rw[<-X7]at hx;obtain⟨sg,hsg,rfl⟩:=Bj hx;walk_at "rd";have il:i<ns.length:=by have:=(WF.mp hsg).1;rw[XE]at this;exact this
  have dr:ns.drop (ns.length-(i+1))=sg::ns.drop (ns.length-i):=by rw[YQ il]at hsg;obtain⟨hlt,hget⟩:=WF.mp hsg;rw[show ns.length-(i+1)=ns.length-1-i by lia,Xe hlt,hget,show ns.length-1-i+1=ns.length-i by lia]
  obtain⟨q0,hq0⟩:∃q0,ps[i]?=some q0:=⟨ps[i],WJ (by lia)⟩;have hv0:=hps i q0 hq0
  have la:JZ (ps.map V.ref) (-1)=some (V.ref q0):=by
   have z:JY (ps.map V.ref).length (-1)=some i:=by
    unfold JY;rw[WD,if_neg (by decide),if_pos (by lia)]
    congr 1
    lia
   unfold JZ;rw[z];show (ps.map V.ref)[i]?=_;rw[WO,hq0];rfl
  refine⟨pw,_,_,_,rfl,rfl,Ac.of hpw3,la,.inl ⟨_,Ac.of hpw3⟩,?_⟩;refine⟨_,rfl,r,g,lo,tab,m,rfl,ok.same e3,_,rfl,by lia,by lia,λD hD=>?_⟩;rw[WS]
  have hne:D≠pw:=λz=>by rw[z,hpw3]at hD;cases hD
  refine BH (n:=tab.length/g.toNat) (λk acc Hx=>acc=((List.range k).map (Mn g.toNat tab (sg::ns.drop (ns.length-i)))).map V.int/\AF H3 Hx/\Hx D=some (.lst acc)) ⟨rfl,AF.new hD _,AC⟩ ?_ ?_
  ·rintro k acc Hx hk ⟨rfl,ex,hDx⟩;walk_at "rd";refine⟨r,g,lo,tab,m,k,sg,by rw[Wv],ok.same (e3.trans ex),hk,λp5 H5 hN5=>?_⟩;have fl:(Cw g.toNat tab k sg).length<=9:=by unfold Cw;rw[WD];have:=YU (λj=>decide (tab.getD (k*g.toNat+j) 0=sg)) (List.range g.toNat);rw[WV]at this;lia
   refine⟨r,p5,q0,g,lo,tab,m,Cw g.toNat tab k sg,Fm g.toNat tab (ns.drop (ns.length-i)),rfl,ok.same ((e3.trans ex).trans hN5.1),hN5.2.2,by lia,hN5.1 _ _ (ex _ _ hv0),OB ..,λp6 H6 hN6=>?_⟩
   have sumE:((Cw g.toNat tab k sg).map λn=>(Fm g.toNat tab (ns.drop (ns.length-i))).getD (n%(tab.length/g.toNat)) 0).sum=Mn g.toNat tab (sg::ns.drop (ns.length-i)) k:=by
    rw[<-OA]
    congr 1
    refine XQ λn _=>OD (YA _ (by lia))
   refine⟨p6,rfl,_,Ac.of hN6.2.2,hN6.1 _ _ (hN5.1 _ _ hDx),?_,?_,((ex.trans hN5.1).trans hN6.1).into hD,AC⟩
   ·rw[WD,WD,WV];exact AQ (by lia)
   ·rw[sumE,Ak,WN];rfl
  ·rintro acc Hx ⟨rfl,ex,hDx⟩;refine⟨_,ex _ _ hpw3,?_,(e3.trans ex).into npw,ps++[D],?_,?_,λj q' hq=>?_⟩
   ·rw[WD];exact AQ (by lia)
   ·rw[AC,WN];rfl
   ·rw[WI,pl];rfl
   ·by_cases hj:j<ps.length
    ·rw[Wx hj]at hq;have hh:=hps j q' hq
     have:q'≠pw:=λz=>by
      rw[z,hpw3]at hh;have z2:=HO.lst.inj (Option.some.inj hh);have e1:(ps.map V.ref)[i]?=some (V.ref q0):=by rw[WO,hq0];rfl
      rw[z2,WO]at e1;cases hz:(Fm g.toNat tab (ns.drop (ns.length-j)))[i]? with
      |none=>rw[hz]at e1;cases e1
      |some c=>rw[hz]at e1;cases e1
     rw[AI this];exact ex _ _ hh
    ·have hj2:=(WF.mp hq).1;rw[WI]at hj2;have hj3:j=i+1:=by simp only[List.length_cons,List.length_nil]at hj2;lia
     subst hj3;rw[Wc (by lia),pl,W4]at hq;have:q'=D:=(Option.some.inj hq).symm;subst this;rw[AI hne,hDx,dr];rfl
 ·rintro σ H3 ⟨ps,x3,x4,rfl,e3,hpw3,pl,hps⟩;walk_at "rd";refine⟨_,Ac.of hpw3,λp9 hp9=>?_⟩;have f9:=AF.new hp9 (.lst (ps.map V.ref).reverse);rw[WD]at pl;refine q p9 _ (e3.trans f9) (e3.free hp9) ⟨ps.reverse,by rw[AC,X7],by rw[XE,pl],λk q' hq=>?_⟩;have kl:=(WF.mp hq).1;rw[XE]at kl;rw[YQ kl]at hq;have hh:=hps _ q' hq;rw[show ns.length-(ps.length-1-k)=k by lia]at hh;exact f9 _ _ hh
theorem UG:AK ["one","row"] ["one","row"] (AH R1):=B0 (by decide +kernel)
theorem UH(T:Bz K mg t)(G_33:Ag P w K mg base 3 t.f_33 ["word","signs"] (FE K t.c_65))(G_56:Ag P w K mg base 3 t.f_56 ["one","row"] (LB K)):Ag P w K mg base 4 t.f_21 ["one","row"] (LC K t.c_65):=by
 refine C0 T.d_21 UG (λ_ _ _ _ _ _=>b2 λ_ _=>rfl) λvs H Q E h=>?_;obtain⟨r,a,g,lo,tab,m,xs,rfl,ok,hS,kd,hn,h⟩:=h;refine⟨rfl,λcdv A outer s hr=>?_⟩
 refine⟨_,(AD (A5 (BG G_33 (hr.mono (by decide)) rfl T.m_33 An (AA (pv 1) (AA (AV Af (pv 0) AG (λ_ _=>rfl)) AB))))
  (AE (AL (AU (F3 rfl) rfl T.z_sum PyProof.Rows.boot_sum (AA (AV Ay (AT hr G_56 T.m_56 (AA (pv 0) (AA (pv 1) AB))) AG (λ_ _=>rfl)) AB))))),?_⟩
 obtain⟨tb,h1,h2⟩:=id ok.v;walk_at "rd";refine⟨r,_,0,_,rfl,rfl,Ba.of h1,rfl,a,xs,g,rfl,hS,kd,?_⟩;cases hb:Bp g xs with
 |some i =>
  rw[hb]at h;exact h
 |none =>
  rw[hb]at h;obtain⟨ns,rfl,hns⟩:=Dm hb;rw[WD]at hn;intro H1 e1;refine⟨r,a,g,lo,tab,m,ns,rfl,ok.same e1,e1.seq hS,hn,λp H2 e2 hp hW=>?_⟩;obtain⟨ps,hp2,pl,hps⟩:=hW;obtain⟨q0,hq0⟩:∃q0,ps[0]?=some q0:=⟨ps[0],WJ (by lia)⟩;have hv:=hps 0 q0 hq0;rw[List.drop_zero]at hv;refine⟨p,_,0,.ref q0,rfl,rfl,Ac.of hp2,?_,q0,rfl,Fm g.toNat tab ns,Ac.of hv,?_⟩
  ·exact C8 (by rw[WO,hq0];rfl)
  ·rw[OC];exact h ns rfl H2 (e1.trans e2)
theorem KS:AK ["one","weight","table","number","told","there"] ["one","weight"] (AH R3):=B0 (by decide +kernel)
theorem UI(T:Bz K mg t) :Ag P w K mg base 1 t.f_61 ["one","weight"] (Gq):=by
 refine Aw T.d_61 KS (λ_ _ _ _ _ _=>b2 λ_ _=>rfl) λvs H Q E h=>?_;obtain⟨r,g,lo,tab,wt,rfl,g2,g9,hR,w0,w3,tl,q⟩:=h;refine⟨rfl,λcdv A outer s hr=>?_⟩
 refine⟨_,(AD (AR 2 KS (AV Af (pv 0) AG (λ_ _=>rfl)))
  (AD (A9 PassesOwn.never rfl (Nw rfl T.z_enumerate (AA (pv 2) AB)) (Kb rfl (DS (BK 3 KS) (DS (BK 4 KS) IV))) (AD (AR 5 KS (AJ Aj (AJ Ar (pv 3) (pv 1)) (AV Af (pv 0) AG (λ_ _=>rfl))))
  (AE (Av (AN JV (pv 4) (AV Af (pv 2) (AJ BZ (pv 3) (AJ Cr (pv 5) (pv 1))) (λ_ _=>rfl)) (AS _)) (AE (AL Bi)) AX))))
  (AE (AL Bi)))),?_⟩
 obtain⟨tb,h1,h2⟩:=id hR;walk_at "rd";refine⟨r,_,2,_,rfl,rfl,Ba.of h1,rfl,?_⟩;walk_at "rd";refine⟨_,rfl,tb,_,rfl,Ba.of h2,?_⟩;refine Me (xs:=tab.map V.int) (λi σ H1=>(∃x3 x4 x5,σ=[some (.ref r),some (.int wt),some (.ref tb),x3,x4,x5])/\AF H H1/\∀k,k<i->tab.getD k 0=tab.getD ((k:Int)-(k:Int)/wt%g*wt).toNat 0) ⟨⟨none,none,none,rfl⟩,AF.refl _,λk hk=>absurd hk (YY _)⟩ (λi σ H1 _ z=>Ba.of (z.2.1 _ _ h2)) ?_ ?_
 ·rintro i x p2 σ H1 hx ⟨⟨x3,x4,x5,rfl⟩,e,hall⟩ hp2;obtain⟨n,hn,rfl⟩:=Bj hx;have hi:i<tab.length:=(WF.mp hn).1;have e2:AF H (Ad H1 p2 (.tup [.int ((i:Nat):Int),.int n])):=e.trans (AF.new hp2 _);refine⟨p2,_,rfl,Ba.of AC,rfl,_,_,rfl,_,_,rfl,rfl,?_⟩;walk_at "rd";have ix:=RK (k:=(i:Int)) (w:=wt) (g:=g) (by lia) w0 g2;have gA:=DP (ns:=tab) ix.1 (by lia);have ng:n=tab.getD i 0:=by rw[WH,hn];rfl
  refine⟨w0,by lia,r,_,0,_,rfl,rfl,Ba.of (e2 _ _ h1),rfl,g,rfl,by lia,.inr ⟨by lia,by lia⟩,tb,_,_,_,rfl,rfl,Ba.of (e2 _ _ h2),gA,rfl,?_⟩
  by_cases hd:V.int n=V.int (tab.getD ((i:Int)-(i:Int)/wt%g*wt).toNat 0)
  ·rw[if_neg (λz=>z hd)];refine⟨⟨_,rfl⟩,e2,λk hk=>?_⟩
   by_cases z:k=i
   ·subst z;rw[<-ng];exact V.int.inj hd
   ·exact hall k (by lia)
  ·rw[if_pos hd];have z:A4 g tab wt=true:=DZ.mpr ⟨i,hi,λy=>hd (by rw[ng,y])⟩;rw[z]at q;exact q _ e2
 ·rintro σ H1 ⟨⟨x3,x4,x5,rfl⟩,e,hall⟩;walk_at "rd";rw[WD]at hall
  have z:A4 g tab wt=false:=by
   cases z:A4 g tab wt with
   |false=>rfl
   |true =>
    obtain⟨k,hk,h⟩:=DZ.mp z;exact absurd (hall k hk) h
  rw[z]at q;exact q H1 e
theorem KU:AK ["one","found","weight","at"] ["one"] (AH R4):=B0 (by decide +kernel)
theorem UJ(T:Bz K mg t)(G_63:Ag P w K mg base 2 t.f_63 ["one"] (DY))(G_61:Ag P w K mg base 1 t.f_61 ["one","weight"] (Gq)):Ag P w K mg base 3 t.f_48 ["one"] (Dr):=by
 refine Aw T.d_48 KU (λ_ _ _ _ _ _=>b1 λ_=>rfl) λvs H Q E h=>?_;obtain⟨r,g,lo,tab,m,rfl,g2,g9,hR,hl,m1,m8,gm,q⟩:=h;refine⟨rfl,λcdv A outer s hr=>?_⟩
 refine⟨_,(AD (AR 1 KU (BB AB))
  (AD (AR 2 KU (AU AM rfl T.z_len Wa (AA (AV Af (pv 0) AG (λ_ _=>rfl)) AB)))
  (AD (A9 PassesOwn.never rfl (Ax rfl T.z_range (AA (AT hr G_63 T.m_63 (AA (pv 0) AB)) AB)) (BK 3 KU) (AD (AR 2 KU (AJ Ar (pv 2) (AV Af (pv 0) AG (λ_ _=>rfl))))
  (AE (Av (Bf (AT hr G_61 T.m_61 (AA (pv 0) (AA (pv 2) AB)))) (AE (A5 (By WT We Wf BD (pv 1) (AA (AJ A8 (AV Af (pv 0) AG (λ_ _=>rfl)) (pv 3)) AB)))) AX))))
  (AE (AL (pv 1)))))),?_⟩
 obtain⟨tb,h1,h2⟩:=id hR;walk_at "rd";refine⟨XX _,λp hp=>?_⟩;have e0:=AF.new hp (.lst []);refine⟨r,_,2,_,rfl,rfl,Ba.of (e0 _ _ h1),rfl,?_⟩;walk_at "rd";refine⟨_,.inr (Ba.of (e0 _ _ h2)),?_⟩;rw[WD];refine⟨_,rfl,r,g,lo,tab,m,rfl,g2,g9,hR.same e0,hl,_,rfl,by lia,by lia,?_⟩;refine CI (n:=m) (λi σ H1=>∃x3,σ=[some (.ref r),some (.ref p),some (.int (g^(m-i))),x3]/\AF H H1/\H1 p=some (.lst ((((List.range i).filter λj=>A4 g tab (g^(m-1-j))).map λj:Nat=>lo+(j:Int)).map V.int))) ⟨none,by rw[hl,YR],e0,AC⟩ ?_ ?_
 ·rintro i σ H1 hi ⟨x3,rfl,e,hp1⟩;have dv:g^(m-i)/g=g^(m-1-i):=by rw[show m-i=(m-1-i)+1 by lia,Wg,Int.mul_ediv_cancel _ (by lia)]
  have gp:=RW.Ap g2 (m-1-i);have gb:=Bc g2 (show m-1-i<=m by lia);walk_at "rd";refine⟨r,_,0,_,rfl,rfl,Ba.of (e _ _ h1),rfl,?_⟩;walk_at "rd";rw[dv];refine⟨by lia,by lia,r,g,lo,tab,_,rfl,g2,g9,hR.same e,gp,by lia,by lia,λH2 e2=>?_⟩;have e3:=e.trans e2;refine⟨_,rfl,?_⟩;cases hc:A4 g tab (g^(m-1-i)) with
  |true =>
   rw[if_pos rfl];refine⟨.inl ⟨_,Ac.of (e2 _ _ hp1)⟩,r,_,1,_,rfl,rfl,Ba.of (e3 _ _ h1),rfl,lo,rfl,_,e2 _ _ hp1,?_,by rw[show m-(i+1)=m-1-i by lia],e3.into hp,?_⟩
   ·rw[WD,WD];have:=YU (λj=>A4 g tab (g^(m-1-j))) (List.range i);rw[WV]at this;exact AQ (by lia)
   ·rw[AC,W7,Xs,WN,WN,Wv];simp[List.filter,hc]
  |false =>
   rw[if_neg (by decide)];refine⟨by rw[show m-(i+1)=m-1-i by lia],e3,?_⟩;rw[e2 _ _ hp1,W7,Xs];simp[List.filter,hc]
 ·rintro σ H1 ⟨x3,rfl,e,hp1⟩;walk_at "rd";exact q p H1 ⟨e,hp,hp1⟩
theorem Vh:AK ["word","at"] ["word","at"] (AH VW):=B0 (by decide +kernel)
theorem Vi(T:Bz K mg t) :Ag P w K mg base 1 t.f_7 ["word","at"] (Gx K):=by
 refine Aw T.d_7 Vh (λ_ _ _ _ _ _=>b2 λ_ _=>rfl) λvs H Q E h=>?_;obtain⟨a,v,z,rfl,hS,q⟩:=h;refine⟨rfl,λcdv A outer s hr=>?_⟩
 refine⟨_,(AD (Av (PW.pt (Cq (AN DU (pv 1) AG (AS _)) (Ca (AN QC (pv 1) (AU AM rfl T.z_len Wa (AA (pv 0) AB)) (AS _))))) (AE (AL AG)) AX)
  (AE (AL (AV Ay (pv 0) (pv 1) (λ_ _=>rfl))))),?_⟩
 have hlm:(v.map V.int).length=v.length:=WD ..;unfold sn at q;walk_at "rd"
 by_cases h0:z<0
 ·rw[if_pos (.inl h0)]at q;rw[if_pos h0];exact q
 rw[if_neg h0];refine⟨_,.inl hS,?_⟩;rw[hlm]
 by_cases h1:(v.length:Int)<=z
 ·rw[if_pos (.inr h1)]at q;rw[if_pos h1];exact q
 rw[if_neg h1];rw[if_neg (by lia)]at q;exact⟨a,_,_,_,rfl,rfl,hS,DP (by lia) (by lia),q⟩
theorem KW:AK ["one","low","many","ahead","table","number","word"] ["one","low","many"] (AH R5):=B0 (by decide +kernel)
theorem UK(T:Bz K mg t)(G_71:Ag P w K mg base 4 t.f_71 ["signs","low","table"] (Iv t.c_59))(G_16:Ag P w K mg base 1 t.f_16 ["signs","many"] (Iw))(G_58:Pd P w K mg base 1 t.f_58 ["number","signs","many"] (K0 t.c_60))(G_43:Ag P w K mg base 5 t.f_43 ["one","word"] (Ky K t.c_65))(G_7:Ag P w K mg base 1 t.f_7 ["word","at"] (Gx K))(G_63:Ag P w K mg base 2 t.f_63 ["one"] (DY)):Ag P w K mg base 6 t.f_42 ["one","low","many"] (GS):=by
 refine Aw T.d_42 KW (λ_ _ _ _ _ _=>b3 λ_ _ _=>rfl) λvs H Q E h=>?_;obtain⟨r,g,lo,tab,m,low,M,rfl,ok,M1,gM,q⟩:=h;refine⟨rfl,λcdv A outer s hr=>?_⟩
 refine⟨_,(AD (AR 3 KW (AJ BZ (AV Af (pv 0) AG (λ_ _=>rfl)) (pv 1)))
  (AD (AR 4 KW (BB AB))
  (AD (A9 PassesOwn.never rfl (Ax rfl T.z_range (AA (AT hr G_16 T.m_16 (AA (AV Af (pv 0) AG (λ_ _=>rfl)) (AA (pv 2) AB))) AB)) (BK 5 KW) (AD (AR 6 KW (Nq G_58 (hr.mono (by decide)) rfl T.m_58 RL (AA (pv 5) (AA (AV Af (pv 0) AG (λ_ _=>rfl)) (AA (pv 2) AB)))))
  (AE (A5 (By WT We Wf BD (pv 4) (AA (AT hr G_43 T.m_43 (AA (pv 0) (AA (Db [(6,"word"),(3,"ahead")] [("word",_),("ahead",_)] (Ax rfl T.z_range (AA (AT hr G_63 T.m_63 (AA (pv 0) AB)) AB)) (λ_ _ _ _=>Bx) (λ_ _ _ _=>(AT hr G_7 T.m_7 (AA (pv 1) (AA (AJ A8 (pv 2) (pv 0)) AB))))) AB))) AB))))))
  (AE (AL (AT hr G_71 T.m_71 (AA (AV Af (pv 0) AG (λ_ _=>rfl)) (AA (pv 1) (AA (pv 4) AB))))))))),?_⟩
 obtain⟨tb,h1,h2⟩:=id ok.v;have g2:=ok.g2;have g9:=ok.g9;have m8:=ok.m8;have hl:=ok.len;have gp:=RW.Ap g2 M;have M8:=FK g2 gM;walk_at "rd";refine⟨r,_,1,_,rfl,rfl,Ba.of h1,rfl,lo,rfl,XX _,λp hp=>?_⟩;have e0:=AF.new hp (.lst []);refine⟨_,rfl,r,_,0,_,rfl,rfl,Ba.of (e0 _ _ h1),rfl,_,rfl,?_⟩;refine⟨g,_,rfl,g2,g9,by lia,λ_=>?_,λz=>absurd z (by rw[WS];lia)⟩;rw[WS];refine⟨_,rfl,by lia,by lia,?_⟩;refine CI (n:=(g^M).toNat) (λi σ H1=>∃x5 x6,σ=[some (.ref r),some (.int low),some (.int ((M:Nat):Int)),some (.int (lo-low)),some (.ref p),x5,x6]/\AF H H1/\H1 p=some (.lst (((List.range i).map λn:Nat=>tab.getD (Bn g (K2 (Ce g (n:Int) M) (lo-low) m)).toNat 0).map V.int))) ⟨none,none,rfl,e0,AC⟩ ?_ ?_
 ·rintro i σ H1 hi ⟨x5,x6,rfl,e,hp1⟩;walk_at "rd";refine⟨r,_,0,_,rfl,rfl,Ba.of (e _ _ h1),rfl,_,g,_,rfl,g2,g9,by lia,by lia,λz=>absurd z (by rw[WS];lia),λ_ _ pw H2 hN2=>?_⟩;rw[WS,Wv]at hN2;have e2:=e.trans hN2.1;have hp2:=hN2.1 _ _ hp1;refine⟨.inl ⟨_,Ac.of hp2⟩,?_⟩;refine⟨_,rfl,r,g,lo,tab,m,rfl,g2,g9,ok.v.same e2,hl,_,rfl,by lia,by lia,λD hD=>?_⟩;rw[WS];have hw2:H2 pw=some (.lst ((Ce g (i:Int) M).map V.int)):=hN2.2.2;refine BH (n:=m) (λj acc Hx=>acc=((List.range j).map λk:Nat=>sn (Ce g (i:Int) M) (lo-low+(k:Int))).map V.int/\Hx=Ad H2 D (.lst acc)) ⟨rfl,rfl⟩ ?_ ?_
  ·rintro j acc Hx hj ⟨rfl,rfl⟩;walk_at "rd";rw[Wv];refine⟨pw,_,_,rfl,Ac.of (AF.new hD _ _ _ hw2),AC,?_,?_,by rw[E4]⟩
   ·rw[WD,WD,WV];exact AQ (by lia)
   ·rw[Ak,WN];rfl
  ·rintro acc Hx ⟨rfl,rfl⟩;have en:=AF.new hD (.lst ((K2 (Ce g (i:Int) M) (lo-low) m).map V.int));have bb:=K3 g2 (Gp g2 (i:Int) M) (lo-low) m;have bl:=Jv bb;rw[FJ]at bl;refine⟨r,D,g,lo,tab,m,(K2 (Ce g (i:Int) M) (lo-low) m).map V.int,rfl,g2,g9,(ok.v.same e2).same en,hl,Ac.of AC,GO,?_⟩;rw[bl];intro ms hms H4 e4;have:=Gk hms;subst this;have e24:=en.trans e4;refine⟨_,e24 _ _ hp2,?_,(e2.trans e24).into hp,?_⟩
   ·rw[WD,WD,WV];exact AQ (by lia)
   ·rw[AC,Ak,WN];rfl
 ·rintro σ H1 ⟨x5,x6,rfl,e,hp1⟩;walk_at "rd";refine⟨r,_,0,_,rfl,rfl,Ba.of (e _ _ h1),rfl,?_⟩;exact Mo (tab:=Eg g lo tab m low M) g2 g9 M1 (BF g2 _ _ _ _ _) gM (N5 g2 _ ok.tb _ _ _) (.inl hp1) λr' H' e' hR=>q r' H' (e.trans e') (ok.bw M1 gM hR)
theorem Qf:AK ["one","found"] ["one"] (AH R6):=B0 (by decide +kernel)
theorem UL(T:Bz K mg t)(G_48:Ag P w K mg base 3 t.f_48 ["one"] (Dr))(G_42:Ag P w K mg base 6 t.f_42 ["one","low","many"] (GS)):Ag P w K mg base 7 t.f_62 ["one"] (Gy):=by
 refine Aw T.d_62 Qf (λ_ _ _ _ _ _=>b1 λ_=>rfl) λvs H Q E h=>?_;obtain⟨r,g,lo,tab,m,rfl,ok,q⟩:=h;refine⟨rfl,λcdv A outer s hr=>?_⟩
 refine⟨_,(AD (AR 1 Qf (AT hr G_48 T.m_48 (AA (pv 0) AB)))
  (AD (Av (AN B7 (AU AM rfl T.z_len Wa (AA (pv 1) AB)) AG (AS _)) (AE (AL (AT hr G_42 T.m_42 (AA (pv 0) (Ah (Ah AB)))))) AX)
  (AE (AL (AT hr G_42 T.m_42 (AA (pv 0) (AA (AV Ay (pv 1) AG (λ_ _=>rfl)) (AA (AJ A8 (AJ BZ (AV Ay (pv 1) (JU Gc AG) (λ_ _=>rfl)) (AV Ay (pv 1) AG (λ_ _=>rfl))) AG) AB)))))))),?_⟩
 have g2:=ok.g2;have g9:=ok.g9;have m1:=ok.m1;have m8:=ok.m8;have sz:=ok.sz;walk_at "rd";refine⟨r,g,lo,tab,m,rfl,g2,g9,ok.v,ok.len,m1,m8,sz,λp H1 hN1=>?_⟩;have hcl:((Bd g lo tab m).map V.int).length=(Bd g lo tab m).length:=WD ..;walk_at "rd";refine⟨_,.inl (Ac.of hN1.2.2),?_⟩;rw[hcl]
 by_cases hc:Bd g lo tab m=[]
 ·rw[if_pos (by rw[hc];rfl)];have g1:g^1=g:=by rw[Wg,Wn,XT]
  exact⟨r,g,lo,tab,m,0,1,rfl,ok.same hN1.1,WM _,by lia,λr' H' e' ok'=>q 0 1 (J2 hc) r' H' (hN1.1.trans e') ok'⟩
 ·obtain⟨M,hM,hMm,hW⟩:=IE hc;have hp0:0<(Bd g lo tab m).length:=List.length_pos_iff.mpr hc;rw[if_neg (by lia)];have gM:=Bc g2 hMm;refine⟨p,_,0,_,rfl,rfl,Ac.of hN1.2.2,DP (by decide) (by show 0<_;lia),p,_,_,_,rfl,rfl,Ac.of hN1.2.2,Mp hp0,p,_,0,_,rfl,rfl,Ac.of hN1.2.2,DP (by decide) (by show 0<_;lia),_,rfl,_,rfl,?_⟩;refine⟨r,g,lo,tab,m,(Bd g lo tab m).getD 0 0,M,?_,ok.same hN1.1,hW.one,by lia,λr' H' e' ok'=>q _ M hW r' H' (hN1.1.trans e') ok'⟩;rw[hM];rfl
theorem Qg:AK ["one","low","high","place"] ["one","low","high"] (AH R7):=B0 (by decide +kernel)
theorem UM(T:Bz K mg t)(G_48:Ag P w K mg base 3 t.f_48 ["one"] (Dr))(G_42:Ag P w K mg base 6 t.f_42 ["one","low","many"] (GS))(G_16:Ag P w K mg base 1 t.f_16 ["signs","many"] (Iw)):Ag P w K mg base 7 t.f_57 ["one","low","high"] (Fn t.c_46 t.c_50):=by
 refine C0 T.d_57 Qg (λ_ _ _ _ _ _=>b3 λ_ _ _=>rfl) λvs H Q E h=>?_;obtain⟨r,g,lo,tab,m,low,high,rfl,ok,hout,hwide,hok⟩:=h;refine⟨rfl,λcdv A outer s hr=>?_⟩
 refine⟨_,(AD (Av (AN Cs (pv 1) (pv 2) (AS _)) (AE (Bo rfl T.x_46 rfl T.m_46 BI (AA Co AB))) AX)
  (AD (A9 PassesOwn.leaving rfl (BN (AT hr G_48 T.m_48 (AA (pv 0) AB))) (BK 3 Qg) (AE (Av (PW.pt (Cq (AN DU (pv 3) (pv 1) (AS _)) (Ca (AN Cs (pv 3) (pv 2) (AS _))))) (AE (Bo rfl T.x_46 rfl T.m_46 BI (AA Co AB))) AX)))
  (AD (Av (AN Cs (AT hr G_16 T.m_16 (AA (AV Af (pv 0) AG (λ_ _=>rfl)) (AA (AJ A8 (AJ BZ (pv 2) (pv 1)) AG) AB))) (ER rfl T.g_LONGEST_TABLE) (AS _)) (AE (Bo rfl T.x_50 rfl T.m_50 BI (AA Co AB))) AX)
  (AE (AL (AT hr G_42 T.m_42 (AA (pv 0) (AA (pv 1) (AA (AJ A8 (AJ BZ (pv 2) (pv 1)) AG) AB))))))))),?_⟩
 obtain⟨tb,h1,h2⟩:=id ok.v;have g2:=ok.g2;have g9:=ok.g9;have m1:=ok.m1;have m8:=ok.m8;walk_at "rd"
 by_cases hlh:high<low
 ·rw[if_pos hlh];exact⟨by decide,hout (.inl hlh) _ (AF.refl _)⟩
 rw[if_neg hlh];refine⟨_,rfl,r,g,lo,tab,m,rfl,g2,g9,ok.v,ok.len,m1,m8,ok.sz,λp H1 hN1=>?_⟩;refine⟨p,rfl,⟨_,Ac.of hN1.2.2⟩,?_⟩;refine BP (xs:=(Bd g lo tab m).map V.int) (λi σ H2=>(∃x3,σ=[some (.ref r),some (.int low),some (.int high),x3])/\H2=H1/\∀z∈(Bd g lo tab m).take i,low<=z/\z<=high) ⟨⟨none,rfl⟩,rfl,λz hz=>absurd hz (by simp)⟩ (λi σ H2 _ z=>by rw[z.2.1];exact Ac.of hN1.2.2) ?_ ?_
 ·rintro i x σ H2 hx ⟨⟨x3,rfl⟩,rfl,hall⟩;obtain⟨n,hn,rfl⟩:=Bj hx;have nm:=WQ hn;walk_at "rd"
  by_cases c1:n<low
  ·rw[if_pos c1];exact⟨by decide,hout (.inr ⟨n,nm,.inl c1⟩) _ hN1.1⟩
  rw[if_neg c1]
  by_cases c2:high<n
  ·rw[if_pos c2];exact⟨by decide,hout (.inr ⟨n,nm,.inr c2⟩) _ hN1.1⟩
  rw[if_neg c2];refine⟨⟨_,rfl⟩,λz hz=>?_⟩;rw[Xm,hn]at hz;rcases WK.mp hz with y|y
  ·exact hall z y
  ·have:z=n:=by simpa using y
   lia
 ·rintro σ H2 ⟨⟨x3,rfl⟩,rfl,hall⟩;rw[WD,Wk]at hall
  have nout:¬Pk g lo tab m low high:=by
   rintro (z|⟨z,hz,y⟩)
   ·exact hlh z
   ·have:=hall z hz;lia
  walk_at "rd";refine⟨r,_,0,_,rfl,rfl,Ba.of (hN1.1 _ _ h1),rfl,g,_,rfl,g2,g9,by lia,λhle=>?_,λhgt rr hrr=>?_⟩
  ·refine⟨_,rfl,?_⟩;rw[if_neg (by lia)];exact⟨r,g,lo,tab,m,low,(high-low+1).toNat,by rw[show (((high-low+1).toNat:Nat):Int)=high-low+1 by lia],ok.same hN1.1,by lia,hle,λr' H' e' ok'=>hok nout hle r' H' (hN1.1.trans e') ok'⟩
  ·refine⟨_,rfl,?_⟩;rw[if_pos hrr];exact⟨by decide,hwide nout hgt _ hN1.1⟩
theorem Qh:AK ["one","least"] ["one"] (AH R8):=B0 (by decide +kernel)
theorem UN(T:Bz K mg t)(G_62:Ag P w K mg base 7 t.f_62 ["one"] (Gy))(G_63:Ag P w K mg base 2 t.f_63 ["one"] (DY))(G_57:Ag P w K mg base 7 t.f_57 ["one","low","high"] (Fn t.c_46 t.c_50))(G_68:Ag P w K mg base 1 t.f_68 ["one"] (DC)):Ag P w K mg base 8 t.f_67 ["one"] (Ea t.c_50):=by
 refine C0 T.d_67 Qh (λ_ _ _ _ _ _=>b1 λ_=>rfl) λvs H Q E h=>?_;obtain⟨r,g,lo,tab,m,lf,tf,mf,rfl,ok,fw,hok,hex⟩:=h;refine⟨rfl,λcdv A outer s hr=>?_⟩
 refine⟨_,(AD (AR 1 Qh (AT hr G_62 T.m_62 (AA (pv 0) AB)))
  (AD (Av (AN B7 (AT hr G_63 T.m_63 (AA (pv 1) AB)) AG (AS _)) (AE (AL (BG G_57 (hr.mono (by decide)) rfl T.m_57 An (AA (pv 1) (AA (AV Af (pv 1) AG (λ_ _=>rfl)) (AA (AJ A8 (AV Af (pv 1) AG (λ_ _=>rfl)) AG) AB)))))) AX)
  (AD (Av (AN Cs (AT hr G_68 T.m_68 (AA (pv 1) AB)) (ER rfl T.g_MOST_NODES) (AS _)) (AE (Bo rfl T.x_50 rfl T.m_50 BI (AA Co AB))) AX)
  (AE (AL (pv 1)))))),?_⟩
 have g2:=ok.g2;have g9:=ok.g9;refine BC λN hN=>?_;walk_at "rd";refine⟨r,g,lo,tab,m,rfl,ok,λlow M hW r1 H1 e1 ok1=>hN _ _ ?_⟩;clear hN N;walk_at "rd";refine⟨r1,g,low,_,M,rfl,g2,g9,ok1.v,ok1.len,rfl,?_⟩;obtain⟨low',M',hW',elf,hc⟩:=id fw;obtain⟨rfl,rfl⟩:=J9 g2 ok.len hW hW';subst elf;obtain⟨tb,h1,h2⟩:=id ok1.v;rcases hc with⟨rfl,rfl,rfl⟩|⟨hM,rfl,rfl⟩
 ·rw[if_pos (show V.int ((1:Nat):Int)=V.int 1 from rfl)];have g1:g^(2-1)=g:=by show g^(0+1)=g;rw[Wg,Wn,XT]
  have e2:(lf+1-lf+1).toNat=2:=by lia
  refine⟨r1,_,1,_,rfl,rfl,Ba.of h1,rfl,r1,_,1,_,rfl,rfl,Ba.of h1,rfl,lf,rfl,?_⟩;refine⟨r1,g,lf,_,1,lf,lf+1,rfl,ok1,λho=>?_,λ_ hw=>?_,λ_ _ r2 H2 f2 ok2=>?_⟩
  ·exfalso;rcases ho with z|⟨z,hz,y⟩
   ·lia
   ·unfold Bd at hz;obtain⟨j,hj,rfl⟩:=Wd.mp hz;have:=Wl.mp (Xg.mp hj).1;lia
  ·exfalso;rw[e2]at hw;have:g^2<=9*9:=by rw[show (2:Nat)=(2-1)+1 from rfl,Wg,g1];exact X5 g9 g9 (by lia) (by lia)
   lia
  ·rw[e2]at ok2;exact hok (by lia) r2 H2 (e1.trans f2) ok2
 ·rw[if_neg (λz=>by have:=V.int.inj z;lia)];refine⟨r1,g,lf,_,mf,rfl,ok1,_,rfl,?_⟩;rw[(CA g2 ok1.len ok1.m1).1]
  by_cases h9:9<g^(mf-1)
  ·rw[if_pos h9];exact⟨by decide,hex h9 _ e1⟩
  ·rw[if_neg h9];exact hok (by lia) r1 H1 e1 ok1
theorem UO:AK ["one"] ["one"] (AH R9):=B0 (by decide +kernel)
theorem UP(T:Bz K mg t)(G_68:Ag P w K mg base 1 t.f_68 ["one"] (DC))(G_67:Ag P w K mg base 8 t.f_67 ["one"] (Ea t.c_50)):Ag P w K mg base 9 t.f_69 ["one"] (JD t.c_50):=by refine C0 T.d_69 UO (λ_ _ _ _ _ _=>b1 λ_=>rfl) λvs H Q E h=>?_;obtain⟨r,g,lo,tab,m,lf,tf,mf,rfl,ok,fw,hok,hex⟩:=h;refine⟨rfl,λcdv A outer s hr=>?_⟩;refine⟨_,(AE (AL (AT hr G_68 T.m_68 (AA (BG G_67 (hr.mono (by decide)) rfl T.m_67 An (AA (pv 0) AB)) AB)))),?_⟩;walk_at "rd";refine⟨r,g,lo,tab,m,lf,tf,mf,rfl,ok,fw,λh9 r1 H1 e1 ok1=>⟨r1,g,lf,tf,mf,rfl,ok1,?_⟩,hex⟩;rw[(CA ok1.g2 ok1.len ok1.m1).1];exact hok h9 _ e1
theorem UQ:AK ["one"] ["one"] (AH SA):=B0 (by decide +kernel)
theorem UR(T:Bz K mg t)(G_69:Ag P w K mg base 9 t.f_69 ["one"] (JD t.c_50)):Ag P w K mg base 10 t.f_34 ["one"] (FQ t.c_50):=by refine C0 T.d_34 UQ (λ_ _ _ _ _ _=>b1 λ_=>rfl) λvs H Q E h=>?_;obtain⟨r,g,lo,tab,m,lf,tf,mf,rfl,ok,fw,hok,hex⟩:=h;refine⟨rfl,λcdv A outer s hr=>?_⟩;refine⟨_,(AE (AL (AJ BZ (AJ NM AG (BG G_69 (hr.mono (by decide)) rfl T.m_69 An (AA (pv 0) AB))) AG))),?_⟩;walk_at "rd";refine⟨r,g,lo,tab,m,lf,tf,mf,rfl,ok,fw,λh9 H1 e1=>⟨_,rfl,W3 (RW.Ap ok.g2 _),by lia,by decide,?_⟩,hex⟩;rw[XT];exact hok h9 _ e1
theorem MA:AK ["framed","fitting","some","number"] ["framed","fitting"] (AH SB):=B0 (by decide +kernel)
theorem US(T:Bz K mg t)(G_68:Ag P w K mg base 1 t.f_68 ["one"] (DC)):Ag P w K mg base 2 t.f_51 ["framed","fitting"] (LJ):=by
 refine Aw T.d_51 MA (λ_ _ _ _ _ _=>b2 λ_ _=>rfl) λvs H Q E h=>?_;obtain⟨r,f,g,lo,tab,m,ks,rfl,ok,hf,q⟩:=h;refine⟨rfl,λcdv A outer s hr=>?_⟩
 refine⟨_,(AD (AR 2 MA AG)
  (AD (A9 PassesOwn.never rfl (BN (pv 1)) (BK 3 MA) (AE (AR 2 MA (AJ P9 (pv 2) (AJ NM AG (AJ Aj (pv 3) (AT hr G_68 T.m_68 (AA (pv 0) AB))))))))
  (AE (AL (pv 2))))),?_⟩
 have g2:=ok.g2;have hd:=CA g2 ok.len ok.m1
 have h1:1<=tab.length/g.toNat:=by have:=RW.Ap g2 (m-1);lia
 obtain⟨h,hh⟩:∃h,h=tab.length/g.toNat:=⟨_,rfl⟩;rw[<-hh]at h1 q;refine BC λN hN=>?_;walk_at "rd";refine hN _ _ ?_;clear hN N;refine B2 (λσ HX=>(∃x3,σ=[some (.ref r),some (.ref f),some (.int (BR h (EG h ks))),x3])/\HX=H) (λN hN=>?_) ?_
 ·refine⟨_,rfl,f,rfl,⟨_,Ac.of hf⟩,?_⟩;refine BP (xs:=(Ex ks).map V.int) (λi σ HX=>(∃x3,σ=[some (.ref r),some (.ref f),some (.int (BR h (EG h (ks.take i)))),x3])/\HX=H) ⟨⟨none,by rw[List.take_zero,show EG h []=λ_=>false from rfl,Eb]⟩,rfl⟩ (λi σ HX _ z=>by rw[z.2];exact Ac.of hf) ?_ ?_
  ·rintro i x σ HX hx ⟨⟨x3,rfl⟩,rfl⟩;obtain⟨v,hv,rfl⟩:=Bj hx
   obtain⟨n,hn,rfl⟩:∃n:Nat,ks[i]?=some n/\v=(n:Int):=by
    unfold Ex at hv;rw[WO]at hv;cases z:ks[i]? with
    |none=>rw[z]at hv;cases hv
    |some n=>rw[z]at hv;exact⟨n,rfl,(Option.some.inj hv).symm⟩
   walk_at "rd";have md:(n:Int)%((h:Nat):Int)=((n%h:Nat):Int):=(Xa ..).symm;have lt:=YA n h1;have hle:tab.length/g.toNat<=tab.length:=YZ ..;have sz:=ok.sz;have tl:=ok.len;refine⟨r,g,lo,tab,m,rfl,ok,_,rfl,?_⟩;rw[<-hh,md,WS,XT];refine⟨by lia,by lia,by lia,by decide,?_,⟨_,rfl⟩,rfl⟩;rw[OT h1,Xm,hn];rfl
  ·rintro σ HX ⟨⟨x3,rfl⟩,rfl⟩;have lf:((Ex ks).map V.int).length=ks.length:=by unfold Ex;rw[List.length_map,List.length_map]
   rw[lf,Wk];exact hN _ _ ⟨⟨_,rfl⟩,rfl⟩
 rintro σ HX ⟨⟨x3,rfl⟩,rfl⟩;walk_at "rd";exact q
theorem Op:AK ["framed","singles","node"] ["framed"] (AH SC):=B0 (by decide +kernel)
theorem UT(T:Bz K mg t)(G_68:Ag P w K mg base 1 t.f_68 ["one"] (DC))(G_51:Ag P w K mg base 2 t.f_51 ["framed","fitting"] (LJ))(G_45:Ag P w K mg base 1 t.f_45 ["one","head","sign"] (JA)):Ag P w K mg base 3 t.f_15 ["framed"] (Ec):=by
 refine Aw T.d_15 Op (λ_ _ _ _ _ _=>b1 λ_=>rfl) λvs H Q E h=>?_;obtain⟨r,g,lo,tab,m,rfl,ok,h9,q⟩:=h;refine⟨rfl,λcdv A outer s hr=>?_⟩
 refine⟨_,(AD (AR 1 Op (BB AB))
  (AD (A9 PassesOwn.never rfl (Ax rfl T.z_range (AA (AT hr G_68 T.m_68 (AA (pv 0) AB)) AB)) (BK 2 Op) (AE (A5 (By WT We Wf BD (pv 1) (AA (Db [(2,"node"),(0,"framed")] [("node",_),("framed",_)] (Ax rfl T.z_range (AA (AV Af (pv 0) AG (λ_ _=>rfl)) AB)) (λ_ _ _ _=>Bx) (λ_ _ _ _=>(AT hr G_51 T.m_51 (AA (pv 2) (AA (AT hr G_45 T.m_45 (AA (pv 2) (AA (pv 1) (AA (pv 0) AB)))) AB))))) AB)))))
  (AE (AL (pv 1))))),?_⟩
 obtain⟨tb,h1,h2⟩:=id ok.v;have g2:=ok.g2;have g9:=ok.g9;have hd:=CA g2 ok.len ok.m1;obtain⟨h,hh⟩:∃h,h=tab.length/g.toNat:=⟨_,rfl⟩;rw[<-hh]at h9 q;refine BC λN hN=>?_;walk_at "rd";refine⟨XX _,λp hp=>hN _ _ ?_⟩;clear hN N;refine B2 (λσ HX=>(∃x2,σ=[some (.ref r),some (.ref p),x2])/\AF H HX/\∃ps,Ow HX p ps (Dy g.toNat tab h h)/\p∉ps) (λN hN=>?_) ?_
 ·refine⟨_,rfl,r,g,lo,tab,m,rfl,ok.same (AF.new hp _),_,rfl,by lia,by lia,?_⟩;rw[<-hh,WS];refine CI (n:=h) (λi σ HX=>(∃x2,σ=[some (.ref r),some (.ref p),x2])/\AF H HX/\∃ps,Ow HX p ps (Dy g.toNat tab h i)/\p∉ps) ⟨⟨none,rfl⟩,AF.new hp _,[],⟨AC,rfl,λi q w hq=>absurd hq (by simp)⟩,by simp⟩ ?_ λσ HX z=>hN _ _ z
  rintro i σ HX hi ⟨⟨x2,rfl⟩,eX,ps,hs,np⟩;walk_at "rd";have npH:H p=none:=hp;refine⟨.inl ⟨_,Ac.of hs.l⟩,?_⟩;refine⟨_,rfl,r,_,0,_,rfl,rfl,Ba.of (eX _ _ h1),rfl,_,rfl,by lia,by lia,λD hD=>?_⟩;refine BH (n:=g.toNat) (λs acc Hx=>acc=((List.range s).map λs:Nat=>BR h (EG h (Cw g.toNat tab i (s:Int)))).map V.int/\AF HX Hx/\Hx D=some (.lst acc)) ⟨rfl,AF.new hD _,AC⟩ ?_ ?_
  ·rintro s acc Hx hs' ⟨rfl,ex,hDx⟩;walk_at "rd";simp only[Int.zero_add];refine⟨r,g,lo,tab,m,i,_,rfl,ok.same (eX.trans ex),by lia,λp2 H2 n2=>?_⟩;refine⟨r,p2,g,lo,tab,m,_,rfl,ok.same ((eX.trans ex).trans n2.1),n2.2.2,?_⟩;rw[<-hh];refine⟨n2.1 _ _ hDx,?_,?_,(ex.trans n2.1).into hD,AC⟩
   ·rw[WD,WD,WV];exact AQ (by lia)
   ·rw[Ak,WN];rfl
  rintro acc H5 ⟨rfl,e5,h5⟩
  have Dp:D≠p:=λz=>by rw[z,hs.l]at hD;cases hD
  have sl:(Dy g.toNat tab h i).length=i:=by unfold Dy;rw[List.length_map,List.length_range]
  have ss:Dy g.toNat tab h (i+1)=Dy g.toNat tab h i++[G5 g.toNat tab h i]:=by unfold Dy;rw[List.range_succ,List.map_append];rfl
  have pl:ps.length=i:=by rw[hs.n,sl]
  refine⟨_,e5 _ _ hs.l,?_,⟨_,rfl⟩,(eX.trans e5).into npH,ps++[D],⟨?_,?_,λk q' w hq hw=>?_⟩,?_⟩
  ·rw[WD];exact AQ (by lia)
  ·rw[AC,WN];rfl
  ·rw[ss,WI,WI,hs.n];rfl
  ·have qp:q'≠p:=λz=>by
    have:=WQ hq;rw[z]at this;rcases WK.mp this with y|y
    ·exact np y
    ·exact Dp (WE.mp y).symm
   rw[AI qp];rw[ss]at hw
   by_cases kl:k<i
   ·rw[Wx (by lia)]at hq hw;exact e5 _ _ (hs.e k q' w hq hw)
   ·rw[Wc (by lia)]at hq hw;have k0:k-i=0:=by rw[pl]at hq;have:=(WF.mp hq).1;rw[WX]at this;lia
    rw[pl,k0]at hq;rw[sl,k0]at hw;cases hq;cases hw;exact h5
  ·intro z;rcases WK.mp z with y|y
   ·exact np y
   ·exact Dp (WE.mp y).symm
 rintro σ HX ⟨⟨x2,rfl⟩,eX,ps,hs,np⟩;walk_at "rd";exact q p ps _ eX hs
theorem KY:AK ["singles","some","sign","come","node","steps"] ["singles","some","sign"] (AH SD):=B0 (by decide +kernel)
theorem UU(T:Bz K mg t) :Ag P w K mg base 1 t.f_55 ["singles","some","sign"] (FS):=by
 refine Aw T.d_55 KY (λ_ _ _ _ _ _=>b3 λ_ _ _=>rfl) λvs H Q E h=>?_;obtain⟨p,ps,G,tab,h,x,s',rfl,hs,x0,sG,q⟩:=h;refine⟨rfl,λcdv A outer s hr=>?_⟩
 refine⟨_,(AD (AR 3 KY AG)
  (AD (A9 PassesOwn.never rfl (Lg rfl T.z_enumerate (AA (pv 0) AB)) (Kb rfl (DS (BK 4 KY) (DS (BK 5 KY) IV))) (AE (Av (AN B7 (AJ Qy (AJ Qx (pv 1) (pv 4)) AG) AG (AS _)) (AE (AR 3 KY (AJ P9 (pv 3) (AV Ay (pv 5) (pv 2) (λ_ _=>rfl))))) AX)))
  (AE (AL (pv 3))))),?_⟩
 refine BC λN hN=>?_;walk_at "rd";refine hN _ _ ?_;clear hN N;have sn:(Dy G tab h h).length=h:=by unfold Dy;rw[List.length_map,List.length_range]
 refine B2 (λσ HX=>(∃x4 x5,σ=[some (.ref p),some (.int x),some (.int ((s':Nat):Int)),some (.int (DE G tab h x (s':Int))),x4,x5])/\AF H HX) (λN hN=>?_) ?_
 ·refine⟨_,rfl,p,_,rfl,Ac.of hs.l,?_⟩;refine Jk (xs:=ps.map V.ref) (λi σ HX=>(∃x4 x5,σ=[some (.ref p),some (.int x),some (.int ((s':Nat):Int)),some (.int (BR h (C3 G tab h x (s':Int) i))),x4,x5])/\AF H HX) ⟨⟨none,none,by rw[show C3 G tab h x (s':Int) 0=λ_=>false from rfl,Eb]⟩,AF.refl _⟩ (λi σ HX _ z=>Ac.of (z.2 _ _ hs.l)) ?_ ?_
  ·rintro i y p2 σ HX hy ⟨⟨x4,x5,rfl⟩,eX⟩ hp2
   obtain⟨pk,hpk,rfl⟩:∃pk,ps[i]?=some pk/\y=.ref pk:=by
    rw[WO]at hy;cases z:ps[i]? with
    |none=>rw[z]at hy;cases hy
    |some pk=>rw[z]at hy;exact⟨pk,rfl,(Option.some.inj hy).symm⟩
   have e2:=eX.trans (AF.new hp2 (.tup [.int ((i:Nat):Int),.ref pk]));have il:i<h:=by rw[<-sn,<-hs.n];exact (WF.mp hpk).1
   have hw:=e2 _ _ (hs.e i pk (G5 G tab h i) hpk (by unfold Dy;rw[List.getElem?_map,List.getElem?_range il];rfl));refine⟨p2,_,rfl,Ba.of AC,rfl,_,_,rfl,_,_,rfl,rfl,?_⟩;generalize Ad HX p2 (.tup [.int ((i:Nat):Int),.ref pk])=HT at e2 hw⊢;walk_at "rd";refine⟨by lia,?_⟩;rw[WS,Ps (Xw x0 (W3 (Int.pow_pos (by decide))))]
   by_cases z:x/2^i%2=1
   ·rw[if_pos z];have gl:s'<(G5 G tab h i).length:=by unfold G5;rw[List.length_map,List.length_range];exact sG
    refine⟨pk,_,_,_,rfl,rfl,Ac.of hw,DX gl,_,rfl,?_,⟨_,rfl⟩,e2⟩;rw[show (G5 G tab h i).getD s' 0=BR h (EG h (Cw G tab i (s':Int))) by unfold G5;rw[AY sG]];exact Pu z
   ·rw[if_neg z];exact⟨OU z,⟨_,rfl⟩,e2⟩
  ·rintro σ HX ⟨⟨x4,x5,rfl⟩,eX⟩;rw[WD,hs.n,sn];exact hN _ _ ⟨⟨_,_,rfl⟩,eX⟩
 rintro σ HX ⟨⟨x4,x5,rfl⟩,eX⟩;walk_at "rd";exact q _ eX
theorem MB:AK ["starts","nexts_of","nexts","waiting","here"] ["starts","nexts_of"] (AH SE):=B0 (by decide +kernel)
theorem UV(T:Bz K mg t) :Ag P w K mg base 3 t.f_54 ["starts","nexts_of"] (Ft P w K mg base 2):=by
 refine Aw T.d_54 MB (λ_ _ _ _ _ _=>b2 λ_ _=>rfl) λvs H Q E h=>?_;obtain⟨a,f,S,N,F,rfl,hS,sl,n5,lS,lF,⟨fd,ps,sp,oc,od,fd',sl',fok,fb,hf,hsp⟩,q⟩:=h;refine⟨rfl,λcdv A outer s hr=>?_⟩
 refine⟨_,(AD (AR 2 MB Da)
  (AD (AR 3 MB (BS BV rfl T.z_list Wr (AA (pv 0) AB)))
  (AD (B6 PassesOwn.never (AN Cs (AU AM rfl T.z_len Wa (AA (pv 3) AB)) AG (AS _)) (AD (AR 4 MB (NX WT PySem.F.slot_list_pop PySem.F.type_list_pop NY (pv 3)))
  (AE (Av (En (CM (B3 hr) (pv 4) (pv 2))) (AD (FP (B3 hr) (pv 2) (pv 4) (Od (k:=2) 1 (hr.mono (by decide)) (AA (pv 4) AB)) rfl)
  (AE (A5 (By WT YB YC Fg (pv 3) (AA (FO (B3 hr) (pv 2) (pv 4) (λ_ _=>rfl)) AB))))) AX))))
  (AE (AL (pv 2)))))),?_⟩
 refine BC λN1 hN=>?_;intro d hd;refine hN _ _ ?_;clear hN N1;have e0:=AF.new hd (.dK []);refine BC λN1 hN=>?_;walk_at "rd";refine⟨_,.inl (e0.seq hS),λp hp=>hN _ _ ?_⟩;clear hN N1;have pd:d≠p:=λz=>by rw[<-z,AC]at hp;cases hp
 have dw:JF S F=JF S F:=rfl;have low:∀{A W:List Int},D1 S F A W->(∀a∈A,0<=a/\a<(N:Int))/\(∀a∈W,0<=a/\a<(N:Int)):=λr=>⟨λa ha=>(r.co a (.inl ha)).low lS λx h0 h1=>(lF x h0 h1).2,λa ha=>(r.co a (.inr ha)).low lS λx h0 h1=>(lF x h0 h1).2⟩
 refine B2 (λσ HX=>∃x4,σ=[some (.ref a),some (.ref f),some (.ref d),some (.ref p),x4]/\∃A,VT H HX d p S F A []) (λN1 hN=>?_) ?_
 ·refine⟨λm σ HX=>(∃x4,σ=[some (.ref a),some (.ref f),some (.ref d),some (.ref p),x4])/\∃A W,VT H HX d p S F A W/\m=(512-A.length)*10+W.length/\m<=5220,⟨_,⟨none,rfl⟩,[],S,⟨[],(e0.trans (AF.new hp _)),λl hl=>absurd hl WU,?_,EJ.nil,AC,WU,D1.start⟩,rfl,by rw[YG];lia⟩,?_⟩
  ·rw[AI pd];exact AC
  rintro m σ HX ⟨⟨x4,rfl⟩,A,W,⟨ls,eX,ln,hdX,gX,hpX,np,rc⟩,rfl,m5⟩;obtain⟨lA,lW⟩:=low rc;have cA:=Cn rc.nd lA;refine⟨_,rfl,p,_,rfl,.inl (Ac.of hpX),_,_,rfl,rfl,_,rfl,?_⟩;rw[WD]
  by_cases z:W=[]
  ·subst z;rw[if_neg (by decide)];exact hN _ _ ⟨_,rfl,A,ls,eX,ln,hdX,gX,hpX,np,rc⟩
  obtain⟨W',x,rfl⟩:=HI z;rw[if_pos (by rw[WI,WX];exact decide_eq_true (by lia))];refine⟨λσ' H'=>∃m',m'<(512-A.length)*10+(W'++[x]).length/\((∃x4,σ'=[some (.ref a),some (.ref f),some (.ref d),some (.ref p),x4])/\∃A W,VT H H' d p S F A W/\m'=(512-A.length)*10+W.length/\m'<=5220),λ_ _ h=>h,?_⟩;obtain⟨x0,x1⟩:=lW x (WK.mpr (.inr (WE.mpr rfl)));obtain⟨fx9,fxl⟩:=lF x x0 x1;refine BC λN2 hN2=>?_;refine⟨_,rfl,.inl ⟨rfl,_,Ac.of hpX⟩,p,_,.int x,rfl,rfl,hpX,?_,?_⟩
  ·rw[WD,WI,WX,Xr,WO,Wc (WM _),W4];rfl
  rw[show ((W'++[x]).map V.int).dropLast=W'.map V.int by rw[WN,W0,X9,List.dropLast_concat]];refine hN2 _ _ ?_;clear hN2 N2;have pn:H p=none:=e0.free hp;have dX2:Ad HX p (.lst (W'.map V.int)) d=some (.dK (Au A (ls.map V.ref))):=by rw[AI pd];exact hdX
  have eX2:AF H (Ad HX p (.lst (W'.map V.int))):=eX.into pn;have gX2:=gX.keep np (.lst (W'.map V.int));have pX2:Ad HX p (.lst (W'.map V.int)) p=some (.lst (W'.map V.int)):=AC;generalize Ad HX p (.lst (W'.map V.int))=HY at dX2 eX2 gX2 pX2⊢;clear hdX eX gX hpX HX hp;have rl:(ls.map V.ref).length=A.length:=by rw[WD];exact gX2.n
  refine⟨_,rfl,_,rfl,d,_,rfl,Cz.k (k:=Sum.inl x) dX2,_,rfl,?_⟩;rw[CY rl rc.nd]
  by_cases m:x∈A
  ·rw[decide_eq_true m];rw[WI,WX]at m5⊢;exact Hj ⟨_,by lia,⟨_,rfl⟩,A,W',⟨ls,eX2,ln,dX2,gX2,pX2,np,rc.old m⟩,rfl,by lia⟩
  rw[decide_eq_false m];refine Jc ?_;refine BC λN2 hN2=>?_;refine⟨f,fd,ps,sp,oc,od,fd',sl',rfl,fok,fb,eX2 _ _ hf,_,rfl,eX2 _ _ hf,hsp x x0 x1 HY _ eX2 λl HZ eZ hl hlZ=>?_⟩
  have cA2:A.length<512:=by have nd2:=rc.next m;have:=Cn nd2.nd (low nd2).1;rw[WI,WX]at this;lia
  refine⟨_,rfl,_,rfl,d,_,rfl,JB.k (k:=Sum.inl x) (eZ _ _ dX2) (by rw[Cm rl];exact AQ (by lia)),hN2 _ _ ?_⟩;clear hN2 N2;rw[FT rl m];have nl:=gX2.new hl;have ld:l≠d:=λz=>by rw[z,dX2]at hl;cases hl
  have lp:l≠p:=λz=>by rw[z,pX2]at hl;cases hl
  have dn:d∉ls:=gX2.out λxs z=>by rw[dX2]at z;cases z
  have gQ:=(gX2.same eZ).keep dn (.dK (Au (A++[x]) (ls.map V.ref++[V.ref l])));have lQ:Ad HZ d (.dK (Au (A++[x]) (ls.map V.ref++[V.ref l]))) l=some (.lst ((F x).map V.int)):=by rw[AI ld];exact hlZ
  have pQ:Ad HZ d (.dK (Au (A++[x]) (ls.map V.ref++[V.ref l]))) p=some (.lst (W'.map V.int)):=by rw[AI (Ne.symm pd)];exact eZ _ _ pX2
  have eQ:AF H (Ad HZ d (.dK (Au (A++[x]) (ls.map V.ref++[V.ref l])))):=(eX2.trans eZ).into hd;have dQ:Ad HZ d (.dK (Au (A++[x]) (ls.map V.ref++[V.ref l]))) d=some (.dK (Au (A++[x]) ((ls++[l]).map V.ref))):=by rw[AC,WN];rfl
  generalize Ad HZ d (.dK (Au (A++[x]) (ls.map V.ref++[V.ref l])))=HQ at gQ lQ pQ eQ dQ⊢;have gQ2:=gQ.snoc nl lQ;have rl2:((ls++[l]).map V.ref).length=(A++[x]).length:=by rw[WD];exact gQ2.n
  refine⟨_,rfl,.inl ⟨rfl,_,Ac.of pQ⟩,_,rfl,_,rfl,d,_,rfl,?_,p,l,_,_,rfl,rfl,pQ,lQ,?_,?_⟩
  ·have:=Cz.k (k:=Sum.inl x) dQ;rw[B4 (rc.next m).nd (i:=A.length) (by rw[Wc (WM _),W4];rfl) (v:=.ref l) (by rw[WO,Wc (by rw[gQ.n];exact WM _),gQ.n,W4];rfl)]at this;exact this
  ·rw[WI,WX]at m5;rw[WD,WD,sizeLine_eq];lia
  ·rw[<-WN];rw[WI,WX]at m5⊢;have pl:p∉ls++[l]:=λz=>(WK.mp z).elim np λz=>lp (WE.mp z).symm
   refine⟨_,?_,⟨_,rfl⟩,A++[x],W'++F x,⟨ls++[l],eQ.into pn,λy hy=>?_,?_,gQ2.keep pl _,AC,pl,rc.next m⟩,rfl,?_⟩
   ·rw[WI,WI,WX];lia
   ·rcases WK.mp hy with z|z
    ·exact ln y z
    ·rw[WE.mp z];exact eX2.free hl
   ·rw[AI pd];exact dQ
   ·rw[WI,WI,WX];lia
 rintro σ HX ⟨x4,rfl,A,ls,eX,ln,hdX,gX,hpX,np,rc⟩;walk_at "rd";exact q d HX ls A eX hd ln hdX gX rc.done (low rc).1
theorem MC:AK ["nexts","ahead","here","come"] ["nexts"] (AH SG):=B0 (by decide +kernel)
theorem UW(T:Bz K mg t) :Ag P w K mg base 1 t.f_22 ["nexts"] (JJ):=by
 refine Aw T.d_22 MC (λ_ _ _ _ _ _=>b1 λ_=>rfl) λvs H Q E h=>?_;obtain⟨d,ls,A0,F,rfl,dr,gr,nd,cl,lA,lF,q⟩:=h;refine⟨rfl,λcdv A outer s hr=>?_⟩
 refine⟨_,(AD (AR 1 MC Da)
  (AD (A9 PassesOwn.never rfl (G6 (pv 0)) (BK 2 MC) (AD (A5 (By Xk Xt PySem.F.type_dict_setdefault G7 (pv 1) (AA (pv 2) (AA (BB AB) AB))))
  (AE (A9 PassesOwn.never rfl (BN (FO (B3 hr) (pv 0) (pv 2) (λ_ _=>rfl))) (BK 3 MC) (AE (A5 (By WT We Wf BD (By Xk Xt PySem.F.type_dict_setdefault G7 (pv 1) (AA (pv 3) (AA (BB AB) AB))) (AA (pv 2) AB))))))))
  (AE (AL (pv 1))))),?_⟩
 refine BC λN hN=>?_;intro d2 hd2;refine hN _ _ ?_;clear hN N;have e0:=AF.new hd2 (.dK []);obtain⟨u0,hu0,nu0⟩:=dr.is;have nd2:d≠d2:=λe=>by rw[e,hd2]at hu0;cases hu0
 refine B2 (λσ HX=>(∃x2 x3,σ=[some (.ref d),some (.ref d2),x2,x3])/\∃o A2 B,AF (Ad H d (.frz o (.dK (Au A0 (ls.map V.ref))))) HX/\P1 H HX d2 A2 B/\JG A0 F A2 B) (λN hN=>?_) ?_
 ·have dr0:Rd (Ad H d2 (.dK [])) d (.dK (Au A0 (ls.map V.ref))):=by
   rcases dr with r|⟨o,r⟩
   ·exact .inl (e0 _ _ r)
   ·exact .inr ⟨o,e0 _ _ r⟩
  refine⟨_,rfl,d,_,rfl,dr0,λo=>?_⟩;obtain⟨U,hU⟩:∃U,U=HO.frz o (.dK (Au A0 (ls.map V.ref))):=⟨_,rfl⟩;rw[<-hU];have eF:=e0.bothI d U;have dF:Ad (Ad H d2 (.dK [])) d U d=some U:=AC;have dn:d∉ls:=gr.out λxs z=>by rw[hu0]at z;exact nu0 xs (Option.some.inj z)
  have gF:=(gr.same e0).keep dn U;have aF:P1 H (Ad (Ad H d2 (.dK [])) d U) d2 [] (λ_=>[]):=⟨[],λl hl=>absurd hl WU,by rw[AI (Ne.symm nd2)];exact AC,EJ.nil⟩;generalize Ad (Ad H d2 (.dK [])) d U=HF at eF dF gF aF⊢;have uU:∀{HX:Hp},AF (Ad H d U) HX->HX d=some U:=λe=>e _ _ AC
  refine Fq (d:=d) (o:=o) (kvs:=Au A0 (ls.map V.ref)) (λi σ HX=>(∃x2 x3,σ=[some (.ref d),some (.ref d2),x2,x3])/\AF (Ad H d U) HX/\EJ HX ls A0 F/\∃A2 B,P1 H HX d2 A2 B/\HG A0 F i (λ_ _=>False) (i*9) A2 B) ⟨⟨none,none,rfl⟩,eF,gF,[],λ_=>[],aF,HG.start⟩ (λi σ HX _ z=>by rw[<-hU];exact uU z.2.1) ?_ ?_
  ·rintro i k v σ HX hk ⟨⟨x2,x3,rfl⟩,eX,gX,A2,B,aX,tX⟩;obtain⟨a,ha,hv,rfl⟩:=GW hk;rw[WO]at hv;obtain⟨l,hl,rfl⟩:=W5.mp hv;have aA:a∈A0:=WQ ha;have i5:i<=512:=by have:=(WF.mp ha).1;lia
   have lA2:∀{A2:List Int} {B:Int->List Int} {D:Int->Int->Prop} {n:Nat},HG A0 F i D n A2 B->A2.length<=512:=λt=>Wm (t.nd.length_le_of_subset t.sub) lA
   have Hn:∀{HX:Hp} {l:Addr},AF (Ad H d U) HX->HX l=none->H l=none:=λ{HX l} e z=>by have y:=e.free z;rw[AI λx=>by rw[x,AC]at y;cases y]at y;exact y
   have hd2':Ad H d U d2=none:=by rw[AI (Ne.symm nd2)];exact hd2
   have frn:∀{l:Addr},H l=none->Ad H d U l=none:=λ{l} h=>by rw[AI λz=>by rw[z,hu0]at h;cases h];exact h
   refine B2 (λσ HY=>(∃x3,σ=[some (.ref d),some (.ref d2),some (.int a),x3])/\AF (Ad H d U) HY/\EJ HY ls A0 F/\∃A2 B,P1 H HY d2 A2 B/\HG A0 F i (λ_ _=>False) (i*9) A2 B/\a∈A2) (λN2 hN2=>?_) ?_
   ·obtain⟨ls2,ln,wX,g2⟩:=aX;have rl:(Au A2 (ls2.map V.ref)).length=A2.length:=Cm (by rw[WD];exact g2.n);refine⟨_,rfl,.inr (.inr (.inl ⟨rfl,.inl ⟨_,wX⟩⟩)),_,rfl,by decide,λl' hl'=>?_⟩;have f1:=AF.new hl' (.lst []);have h0:=Hn eX hl';have nl:=g2.new hl';have lY:Ad HX l' (.lst []) l'=some (.lst []):=AC;have eY:=eX.trans f1;have gY:=gX.same f1;have wY:=f1 _ _ wX;have g2Y:=g2.same f1;generalize Ad HX l' (.lst [])=HY at lY eY gY wY g2Y⊢;refine⟨d2,_,Sum.inl a,.ref l',rfl,rfl,wY,by rw[rl];have:=lA2 tX;exact AQ (by lia),λz hz=>hN2 _ _ ⟨⟨_,rfl⟩,eY,gY,A2,B,⟨ls2,ln,wY,g2Y⟩,tX,?_⟩,λhz=>hN2 _ _ ?_⟩
    ·by_cases m:a∈A2
     ·exact m
     ·rw[CQ m]at hz;cases hz
    ·have m:a∉A2:=λm=>by
      have y:=CY (a:=a) (vs:=ls2.map V.ref) (by rw[WD];exact g2.n) tX.nd;rw[hz,decide_eq_true m]at y;cases y
     have d2n:d2∉ls:=gY.out λxs z=>by rw[wY]at z;cases z
     exact⟨⟨_,rfl⟩,eY.into hd2',gY.keep d2n _,A2++[a],B,⟨_,P1.put ln wY g2Y lY nl h0 m (tX.no a m)⟩,tX.key m aA,WK.mpr (.inr (WE.mpr rfl))⟩
   clear tX aX eX gX;rintro σ HY ⟨⟨x3,rfl⟩,eX,gX,A2,B,aX,tX,mA⟩;have hps:=gX.e i a l ha hl;have fa:=lF a aA;refine⟨_,rfl,_,rfl,d,.ref l,rfl,.inl ⟨_,Sum.inl a,.inr ⟨o,by rw[<-hU];exact uU eX⟩,rfl,?_⟩,l,rfl,⟨_,Ac.of hps⟩,?_⟩
   ·rw[B4 nd ha (by rw[WO,hl];rfl)]
   refine BP (xs:=(F a).map V.int) (λj σ HZ=>(∃x3,σ=[some (.ref d),some (.ref d2),some (.int a),x3])/\AF (Ad H d U) HZ/\EJ HZ ls A0 F/\∃A2 B,P1 H HZ d2 A2 B/\HG A0 F i (λp q=>q=a/\p∈(F a).take j) (i*9+j) A2 B/\a∈A2) ⟨⟨_,rfl⟩,eX,gX,A2,B,aX,tX.inner a,mA⟩ (λj σ HZ _ z=>Ac.of (z.2.2.1.e i a l ha hl)) ?_ ?_
   ·clear tX aX eX gX mA hps;rintro j x σ HZ hx ⟨⟨x3,rfl⟩,eX,gX,A2,B,⟨ls2,ln,wX,g2⟩,tX,mA⟩;obtain⟨p0,hp0,rfl⟩:=Bj hx;have p0A:p0∈A0:=cl a aA p0 (WQ hp0);have j9:j<9:=by have:=(WF.mp hp0).1;lia
    have rl:(Au A2 (ls2.map V.ref)).length=A2.length:=Cm (by rw[WD];exact g2.n)
    have app:∀(HQ:Hp) (A2:List Int) (ls2:List Addr) (j2:Nat) (l2:Addr),AF (Ad H d U) HQ->EJ HQ ls A0 F->(∀l∈ls2,H l=none)->HQ d2=some (.dK (Au A2 (ls2.map V.ref)))->EJ HQ ls2 A2 B->HG A0 F i (λp q=>q=a/\p∈(F a).take j) (i*9+j) A2 B->a∈A2->A2[j2]?=some p0->ls2[j2]?=some l2 ->
      HQ l2=some (.lst ((B p0).map V.int))/\((B p0).map V.int).length<sizeLine/\∃HW,HW=Ad HQ l2 (.lst ((B p0).map V.int++[V.int a]))/\AF (Ad H d U) HW/\EJ HW ls A0 F/\∃A2 B,P1 H HW d2 A2 B/\HG A0 F i (λp q=>q=a/\p∈(F a).take (j+1)) (i*9+(j+1)) A2 B/\a∈A2:=by
     intro HQ A2 ls2 j2 l2 e h4 ln w2 g2 t m hj2 hl2;have hq:=g2.e j2 p0 l2 hj2 hl2;have ml:=WQ hl2;have h0:=ln l2 ml;have nl:l2∉ls:=gr.new h0;have lb:=t.len p0;have tp:=t.push hp0 (WQ hj2);rw[Nat.add_assoc]at tp;refine⟨hq,by rw[WD,sizeLine_eq];lia,_,rfl,?_⟩;rw[show (B p0).map V.int++[V.int a]=(B p0++[a]).map V.int by rw[WN];rfl];refine⟨e.into (frn h0),h4.keep nl _,A2,_,⟨ls2,ln,?_,g2.push t.nd hj2 hl2⟩,tp,m⟩;rw[AI (LR w2 hq λz=>by cases z)];exact w2
    refine⟨_,rfl,.inr (.inr (.inl ⟨rfl,.inl ⟨_,wX⟩⟩)),_,rfl,by decide,λl' hl'=>?_⟩;have f1:=AF.new hl' (.lst []);have h0:=Hn eX hl';have nl:=g2.new hl';have lY:Ad HZ l' (.lst []) l'=some (.lst []):=AC;have eY:=eX.trans f1;have gY:=gX.same f1;have wY:=f1 _ _ wX;have g2Y:=g2.same f1;generalize Ad HZ l' (.lst [])=HY at lY eY gY wY g2Y⊢;refine⟨d2,_,Sum.inl p0,.ref l',rfl,rfl,wY,by rw[rl];have:=lA2 tX;exact AQ (by lia),λz hz=>?_,λhz=>?_⟩
    ·have m:p0∈A2:=by
      by_cases m:p0∈A2
      ·exact m
      ·rw[CQ m]at hz;cases hz
     obtain⟨j2,hj2⟩:=EI m;obtain⟨l2,hl2⟩:=KJ g2Y.n hj2;rw[B4 tX.nd hj2 (v:=.ref l2) (by rw[WO,hl2];rfl)]at hz;cases hz;obtain⟨h1,h2,HW,hW,h3⟩:=app HY A2 ls2 j2 l2 eY gY ln wY g2Y tX mA hj2 hl2;refine⟨.inl ⟨rfl,_,Ac.of h1⟩,_,rfl,l2,_,_,rfl,rfl,h1,h2,⟨_,rfl⟩,?_⟩;rw[<-hW];exact h3
    ·have m:p0∉A2:=λm=>by
      have y:=CY (a:=p0) (vs:=ls2.map V.ref) (by rw[WD];exact g2.n) tX.nd;rw[hz,decide_eq_true m]at y;cases y
     have d2n:d2∉ls:=gY.out λxs z=>by rw[wY]at z;cases z
     obtain⟨k1,k2,k3⟩:=P1.put ln wY g2Y lY nl h0 m (tX.no p0 m);obtain⟨h1,h2,HW,hW,h3⟩:=app _ (A2++[p0]) (ls2++[l']) A2.length l' (eY.into hd2') (gY.keep d2n _) k1 k2 k3 (tX.key m p0A) (WK.mpr (.inl mA)) (by rw[Wc (WM _),W4];rfl) (by rw[Wc (by rw[g2.n];exact WM _),g2.n,W4];rfl);refine⟨.inl ⟨rfl,_,Ac.of h1⟩,_,rfl,l',_,_,rfl,rfl,h1,h2,⟨_,rfl⟩,?_⟩;rw[<-hW];exact h3
   ·rintro σ HZ ⟨⟨x3,rfl⟩,eX,gX,A2,B,aX,tX,mA⟩;rw[WD]at tX;exact⟨⟨_,_,rfl⟩,eX,gX,A2,B,aX,tX.outer ha mA (by lia)⟩
  ·rintro σ HX ⟨⟨x2,x3,rfl⟩,eX,gX,A2,B,aX,tX⟩;rw[Cm (by rw[WD];exact gr.n)]at tX;exact hN _ _ ⟨⟨_,_,rfl⟩,o,A2,B,by rw[<-hU];exact eX,aX,tX.done (by lia)⟩
 rintro σ HX ⟨⟨x2,x3,rfl⟩,o,A2,B,eX,⟨ls2,ln,wX,g2⟩,tI⟩;walk_at "rd";exact q o HX d2 ls2 A2 B eX hd2 ln wX g2 tI
theorem FZ:AK ["nexts","ends","ahead","left","found","steps","further","come"] ["nexts","ends"] (AH SH):=B0 (by decide +kernel)
theorem UX(T:Bz K mg t)(G_22:Ag P w K mg base 1 t.f_22 ["nexts"] (JJ)):Ag P w K mg base 2 t.f_13 ["nexts","ends"] (LO):=by
 refine Aw T.d_13 FZ (λ_ _ _ _ _ _=>b2 λ_ _=>rfl) λvs H Q E h=>?_;obtain⟨d,e,ls,A0,F,E0,rfl,dr,gr,nd,cl,lA,lF,he,lE,q⟩:=h;refine⟨rfl,λcdv A outer s hr=>?_⟩
 refine⟨_,(AD (AR 2 FZ (AT hr G_22 T.m_22 (AA (pv 0) AB)))
  (AD (AR 3 FZ Da)
  (AD (AR 4 FZ (pv 1))
  (AD (AR 5 FZ AG)
  (AD (B6 PassesOwn.never (AN Cs (AU AM rfl T.z_len Wa (AA (pv 4) AB)) AG (AS _)) (AD (AR 6 FZ (BB AB))
  (AD (A9 PassesOwn.never rfl (BN (pv 4)) (BK 7 FZ) (AE (Av (En (CM (B3 hr) (pv 7) (pv 3))) (AD (FP (B3 hr) (pv 3) (pv 7) (pv 5) rfl)
  (AE (A5 (By WT YB YC Fg (pv 6) (AA (OL (B3 hr) (pv 2) (pv 7) (BB AB) ⟨rfl,rfl,rfl,rfl⟩) AB))))) AX)))
  (AD (AR 4 FZ (pv 6))
  (AE (AR 5 FZ (AJ A8 (pv 5) AG)))))))
  (AE (AL (pv 3)))))))),?_⟩
 refine BC λN hN=>?_;walk_at "rd";refine⟨d,ls,A0,F,rfl,dr,gr,nd,cl,lA,lF,λo H1 d1 ls1 A1 B e1 hd1 hls1 w1 g1 ti=>hN _ _ ?_⟩;clear hN N;obtain⟨u0,hu0,nu0⟩:=dr.is;have he1:H1 e=some (.lst (E0.map V.int)):=e1 _ _ (by rw[AI λz=>by rw[z,hu0]at he;exact nu0 _ (Option.some.inj he)];exact he)
 have fr1:∀{l:Addr},H1 l=none->H l=none:=λ{l} h=>by have y:=e1.free h;rw[AI λx=>by rw[x,AC]at y;cases y]at y;exact y
 refine BC λN hN=>?_;intro d2 hd2;refine hN _ _ ?_;clear hN N;have e2:=AF.new hd2 (.dK (De [] λ_=>0));refine BC λN hN=>?_;walk_at "rd";refine hN _ _ ?_;clear hN N;refine BC λN hN=>?_;walk_at "rd";refine hN _ _ ?_;clear hN N;refine B2 (λσ HX=>(∃x4 x5 x6 x7,σ=[some (.ref d),some (.ref e),some (.ref d1),some (.ref d2),x4,x5,x6,x7])/\AF H1 HX/\∃M f,HX d2=some (.dK (De M f))/\KL A0 F E0 M f) (λN hN=>?_) ?_
 ·refine⟨λm σ HX=>∃(p:Addr) (n:Nat) (L M:List Int) (f:Int->Nat),(∃x6 x7,σ=[some (.ref d),some (.ref e),some (.ref d1),some (.ref d2),some (.ref p),some (.int ((n:Nat):Int)),x6,x7])/\AF H1 HX/\HX d2=some (.dK (De M f))/\HX p=some (.lst (L.map V.int))/\JH A0 F E0 M f n L []/\m=2*(A0.length+E0.length-M.length)+(if L=[] then 0 else 1),⟨_,e,0,E0,[],λ_=>0,⟨none,none,rfl⟩,e2,AC,e2 _ _ he1,JH.start,rfl⟩,?_⟩;rintro m σ HX ⟨p,n,L,M,f,⟨x6,x7,rfl⟩,eX,hX,hpX,fw,rfl⟩;refine⟨_,rfl,p,_,rfl,.inl (Ac.of hpX),_,_,rfl,rfl,_,rfl,?_⟩;rw[WD]
  by_cases z:L=[]
  ·subst z;rw[if_neg (by decide)];exact hN _ _ ⟨⟨_,_,_,_,rfl⟩,eX,M,f,hX,fw.done⟩
  dsimp only;rw[if_pos (decide_eq_true (by have:=List.length_pos_iff.mpr z;lia)),if_neg z];refine⟨λσ' H'=>∃m',m'<2*(A0.length+E0.length-M.length)+1/\∃(p:Addr) (n:Nat) (L M:List Int) (f:Int->Nat),(∃x6 x7,σ'=[some (.ref d),some (.ref e),some (.ref d1),some (.ref d2),some (.ref p),some (.int ((n:Nat):Int)),x6,x7])/\AF H1 H'/\H' d2=some (.dK (De M f))/\H' p=some (.lst (L.map V.int))/\JH A0 F E0 M f n L []/\m'=2*(A0.length+E0.length-M.length)+(if L=[] then 0 else 1),λ_ _ h=>h,?_⟩;refine BC λN2 hN2=>?_;walk_at "rd";refine⟨by decide,λr hr'=>hN2 _ _ ?_⟩;clear hN2 N2;have e3:=AF.new hr' (.lst []);have rp:p≠r:=λz=>by rw[<-z,hpX]at hr';cases hr'
  have rd2:d2≠r:=λz=>by rw[<-z,hX]at hr';cases hr'
  have rH:H1 r=none:=eX.free hr';refine B2 (λσ HY=>(∃x7,σ=[some (.ref d),some (.ref e),some (.ref d1),some (.ref d2),some (.ref p),some (.int ((n:Nat):Int)),some (.ref r),x7])/\VU H1 HY d2 r A0 F E0 M n []) (λN2 hN2=>?_) ?_
  ·refine⟨_,rfl,p,rfl,⟨_,Ac.of (e3 _ _ hpX)⟩,?_⟩;refine BP (xs:=L.map V.int) (λi σ HY=>(∃x7,σ=[some (.ref d),some (.ref e),some (.ref d1),some (.ref d2),some (.ref p),some (.int ((n:Nat):Int)),some (.ref r),x7])/\HY p=some (.lst (L.map V.int))/\VU H1 HY d2 r A0 F E0 M n (L.drop i)) ⟨⟨_,rfl⟩,e3 _ _ hpX,M,f,[],eX.trans e3,e3 _ _ hX,AC,XX _,.inl rfl,WM _,fw⟩ (λi σ HY _ z=>Ac.of z.2.1) ?_ ?_
   ·rintro i x σ HY hx ⟨⟨x7,rfl⟩,hpY,M1,f1,R,eY,hY,hrY,lR,nR,mM,fw1⟩;obtain⟨x,hxi,rfl⟩:=Bj hx;have hdr:L.drop i=x::L.drop (i+1):=by have:=(WF.mp hxi);rw[Xe this.1,this.2]
    rw[hdr]at fw1;dsimp only[Cd];refine⟨_,rfl,_,rfl,d2,_,rfl,Cz.k (k:=Sum.inl x) hY,_,rfl,?_⟩;rw[CY (by rw[WD]) fw1.nd]
    by_cases m:x∈M1
    ·rw[decide_eq_true m];exact Hj ⟨⟨_,rfl⟩,hpY,M1,f1,R,eY,hY,hrY,lR,nR,mM,fw1.skip m⟩
    rw[decide_eq_false m];refine Jc ?_;have few:=fw1.few;refine BC λN3 hN3=>?_;refine⟨_,rfl,_,rfl,_,rfl,d2,_,rfl,JB.k (k:=Sum.inl x) hY (by rw[Oj,sizeLine_eq];lia),hN3 _ _ ?_⟩;clear hN3 N3;rw[Ol m];have fw2:=fw1.take m (B:=B) λq=>ti.on x q
    have few2:=fw2.few;have pd2:p≠d2:=LR hpY hY λz=>by cases z
    have eQ:AF H1 (Ad HY d2 (.dK (De (M1++[x]) (λp=>if p∈M1 then f1 p else n)))):=eY.into hd2;have dQ:Ad HY d2 (.dK (De (M1++[x]) (λp=>if p∈M1 then f1 p else n))) d2=some (.dK (De (M1++[x]) (λp=>if p∈M1 then f1 p else n))):=AC;have pQ:Ad HY d2 (.dK (De (M1++[x]) (λp=>if p∈M1 then f1 p else n))) p=some (.lst (L.map V.int)):=by rw[AI pd2];exact hpY
    have rQ:Ad HY d2 (.dK (De (M1++[x]) (λp=>if p∈M1 then f1 p else n))) r=some (.lst (R.map V.int)):=by rw[AI (Ne.symm rd2)];exact hrY
    generalize Ad HY d2 (.dK (De (M1++[x]) (λp=>if p∈M1 then f1 p else n)))=HQ at eQ dQ pQ rQ⊢;refine⟨_,rfl,.inl ⟨rfl,_,Ac.of rQ⟩,_,rfl,d1,rfl,.inl ⟨_,.inl (eQ _ _ w1)⟩,_,rfl,by decide,λz hz=>?_⟩;have f4:=AF.new hz (.lst []);have zr:Ad HQ z (.lst []) z=some (.lst ([].map V.int)):=AC;have eZ:=eQ.trans f4;have rl:(ls1.map V.ref).length=A1.length:=by rw[WD];exact g1.n
    have fin:∀(l2:Addr),Ad HQ z (.lst []) l2=some (.lst ((B x).map V.int))->∃(l b:Addr) (xs zs:List V),V.ref r=.ref l/\[V.ref l2]=[.ref b]/\Ad HQ z (.lst []) l=some (.lst xs)/\Ad HQ z (.lst []) b=some (.lst zs)/\xs.length+zs.length<=sizeLine/\((∃x7,[some (V.ref d),some (.ref e),some (.ref d1),some (.ref d2),some (.ref p),some (.int ((n:Nat):Int)),some (.ref r),some (.int x)]=[some (.ref d),some (.ref e),some (.ref d1),some (.ref d2),some (.ref p),some (.int ((n:Nat):Int)),some (.ref r),x7])/\Ad (Ad HQ z (.lst [])) l (.lst (xs++zs)) p=some (.lst (L.map V.int))/\VU H1 (Ad (Ad HQ z (.lst [])) l (.lst (xs++zs))) d2 r A0 F E0 M n (L.drop (i+1))):=by
     intro l2 h2;have lb:=ti.len x;refine⟨r,l2,_,_,rfl,rfl,f4 _ _ rQ,h2,by rw[WD,WD,sizeLine_eq];lia,⟨_,rfl⟩,by rw[AI rp];exact f4 _ _ pQ,M1++[x],_,R++B x,eZ.into rH,by rw[AI rd2];exact f4 _ _ dQ,by rw[AC,WN],?_,.inr ?_,?_,fw2⟩
     ·rw[WI,WI,WX];lia
     ·rw[WI,WX];lia
     ·rw[WI];lia
    by_cases mA:x∈A1
    ·obtain⟨j,hj⟩:=EI mA;obtain⟨l2,hl2⟩:=KJ g1.n hj;refine⟨some (.ref l2),.inl ⟨_,Sum.inl x,.inl (eZ _ _ w1),rfl,?_⟩,?_⟩
     ·rw[B4 ti.nd hj (by rw[WO,hl2];rfl)]
     ·exact fin l2 (eZ _ _ (g1.e j x l2 hj hl2))
    ·refine⟨none,.inl ⟨_,Sum.inl x,.inl (eZ _ _ w1),rfl,?_⟩,?_⟩
     ·rw[CQ mA]
     ·refine fin z ?_;have bn:B x=[]:=List.eq_nil_iff_forall_not_mem.mpr λy hy=>by obtain⟨h1,h2⟩:=(ti.on x y).mp hy;exact mA ((ti.all x).mpr (cl y h1 x h2))
      rw[bn];exact zr
   ·rintro σ HY ⟨⟨x7,rfl⟩,_,fv⟩;rw[WD,List.drop_length]at fv;exact hN2 _ _ ⟨⟨_,rfl⟩,fv⟩
  rintro σ HY ⟨⟨x7,rfl⟩,M1,f1,R,eY,hY,hrY,lR,nR,mM,fw1⟩;have few:=fw1.few;refine BC λN3 hN3=>?_;walk_at "rd";refine hN3 _ _ ?_;clear hN3 N3;refine⟨_,rfl,_,_,rfl,rfl,_,?_,r,n+1,R,M1,f1,⟨_,_,rfl⟩,eY,hY,hrY,fw1.round,rfl⟩
  by_cases z:R=[]
  ·rw[if_pos z];lia
  ·rw[if_neg z];have:=nR.resolve_left z;lia
 rintro σ HX ⟨⟨x4,x5,x6,x7,rfl⟩,eX,M,f,hX,fw⟩;walk_at "rd";exact q o HX d2 M f (e1.trans eX) (fr1 hd2) hX fw
theorem Oq:AK ["one","framed","singles"] ["one"] (AH SI):=B0 (by decide +kernel)
theorem UY(T:Bz K mg t)(hB:G8 mg base)(G_67:Ag P w K mg base 8 t.f_67 ["one"] (Ea t.c_50))(G_15:Ag P w K mg base 3 t.f_15 ["framed"] (Ec))(G_54:Ag P w K mg base 3 t.f_54 ["starts","nexts_of"] (Ft P w K mg base 2))(G_34:Ag P w K mg base 10 t.f_34 ["one"] (FQ t.c_50))(G_55:Ag P w K mg base 1 t.f_55 ["singles","some","sign"] (FS)):Ag P w K mg base 11 t.f_14 ["one"] (JI t.c_50 LP t.p_14):=by
 refine Tg T.d_14 Oq (λ_ _ _ _ _ _=>b1 λ_=>rfl) λvs H Q E h=>?_;obtain⟨r,g,lo,tab,m,lf,tf,mf,rfl,ok,fw,tb,hsm,hbig⟩:=h;refine⟨rfl,λA outer s hr=>?_⟩
 refine⟨_,(AD (AR 1 Oq (BG G_67 (hr.mono (by decide)) rfl T.m_67 An (AA (pv 0) AB)))
  (AD (AR 2 Oq (AT hr G_15 T.m_15 (AA (pv 1) AB)))
  (AE (AL (Oe (cl:=[("singles",_),("framed",_)]) (is:=[2,1]) G_54 (hr.mono (by decide)) rfl T.m_54 (AA (BB (AA (BG G_34 (hr.mono (by decide)) rfl T.m_34 An (AA (pv 1) AB)) AB)) (AA (Ra (clos:=[("singles",_),("framed",_)]) hB rfl T.hd_14 (by with_unfolding_all rfl) rfl) AB)) (.cons ⟨rfl,rfl,by with_unfolding_all rfl,rfl⟩ (.cons ⟨rfl,rfl,by with_unfolding_all rfl,rfl⟩ .nil))))))),?_⟩
 have g2:=ok.g2;have g9:=ok.g9;obtain⟨hn,hl⟩:=Br g2 ok.len fw;refine BC λN hN=>?_;walk_at "rd";refine⟨r,g,lo,tab,m,lf,tf,mf,rfl,ok,fw,λs9 r1 H1 e1 ok1=>hN _ _ ?_,hbig⟩;clear hN N;have h9:tf.length/g.toNat<=9:=by lia
 refine BC λN hN=>?_;walk_at "rd";refine⟨r1,g,lf,tf,mf,rfl,ok1,h9,λp ps H2 e2 sl=>hN _ _ ?_⟩;clear hN N;have e12:=e1.trans e2;refine⟨[.ref p,.ref r1],.cons rfl (.cons rfl .nil),?_⟩;have fa:=GB g2 ok.len fw;have hh:(g^(mf-1)).toNat=tf.length/g.toNat:=by rw[<-hn,WS]
 refine⟨_,rfl,r1,g,lf,tf,mf,lf,tf,mf,rfl,ok1.same e2,fa,λ_ H3 e3=>⟨Xc (AQ (show 1<=1000 by decide)),λa ha=>?_⟩,λz=>by lia⟩;rw[hh];have e4:=AF.new ha (.lst [V.int (2^(tf.length/g.toNat)-1)]);have a4:Ad H3 a (.lst [V.int (2^(tf.length/g.toNat)-1)]) a=some (.lst ([Ae g tf].map V.int)):=AC;have e24:=e3.trans e4;generalize Ad H3 a (.lst [V.int (2^(tf.length/g.toNat)-1)])=H4 at e4 a4 e24⊢;clear ha;have e14:=e12.trans e24;refine⟨tb.same e14,λf H5 s5 tb5 hf la=>?_⟩;obtain⟨pm,c',ctv,oc,l1,l2,l3⟩:=la;dsimp only[Ct];intro H6 e6 n6 ck6 o6;have ab:=s5.get (tb.same e14) a4 (λ_ z=>by cases z);have ok5:=(ok1.same (e2.trans e24)).sameT s5 (tb.same e14);have sl5:=(sl.same e24).sameT s5 (tb.same e14);have ok6:=ok5.same e6;have sl6:=sl5.same e6;have s56:∀{HA:Hp},AF H6 HA->AF H5 (Hf [("singles",s.heap.objs.size+1+1),("framed",s.heap.objs.size+1)] HA):=λeA=>Ob n6 (e6.trans eA)
 refine⟨a,f,[Ae g tf],2^(tf.length/g.toNat),AW g tf,rfl,Ac.of (e6 _ _ ab),(show 1<=100 by decide),FU h9,λs hs=>by rw[WE.mp hs];exact HK g tf,HJ g9 tf,LN (k:=1) (x1:="some") (fns:=["singles","framed"]) (IL.same ⟨pm,c',ctv,oc,l1,l2,l3⟩ e6) ck6 ⟨rfl,rfl,rfl,by decide,λx hx=>by rw[WE.mp hx];exact .inr rfl,λx hx=>by rcases WY.mp hx with z|z;rw[z];rfl;rw[WE.mp z];rfl,by decide +kernel,by decide +kernel⟩ rfl ?N (λ_ _ _=>b1 λ_=>rfl) λc2 A2 outer2 s2 HA x hr x0 x1 eA=>⟨_,(Db [(0,"some"),(1,"singles")] [("some",_),("singles",_)] (Ax rfl T.z_range (AA (AV Af (pv 2) AG (λ_ _=>rfl)) AB)) (λ_ _ _ _=>Bx) (λ_ _ _ _=>(AT hr G_55 T.m_55 (AA (pv 2) (AA (pv 1) (AA (pv 0) AB)))))),?B⟩,λd H7 ls A e7 hd hls hd7 g7 rp lA=>?_⟩
 case N=>exact Wt.mpr ⟨λz=>absurd (WE.mp z) (by show s.heap.objs.size+1+1≠s.heap.objs.size+1;lia),Wt.mpr ⟨WU,XH⟩⟩
 case B =>
  intro QB qB;have eB:=s56 eA;obtain⟨tb',v1,v2⟩:=(ok5.same eB).v;have slB:=sl5.same eB;generalize Hf [("singles",s.heap.objs.size+1+1),("framed",s.heap.objs.size+1)] HA=HB at eB v1 v2 slB qB⊢;refine⟨_,rfl,r1,_,0,_,rfl,rfl,Ba.of v1,rfl,_,rfl,by lia,by lia,λD hD=>?_⟩;refine BH (n:=g.toNat) (λi acc Hx=>acc=((List.range i).map λs:Nat=>DE g.toNat tf (tf.length/g.toNat) x (s:Int)).map V.int/\AF HB Hx/\Hx D=some (.lst acc)) ⟨rfl,AF.new hD _,AC⟩ ?_ ?_
  ·rintro i acc Hx hi ⟨rfl,ex,hDx⟩;dsimp only[Mb];rw[if_pos rfl];refine⟨_,rfl,_,rfl,_,rfl,p,ps,g.toNat,tf,tf.length/g.toNat,x,i,?_,slB.same ex,x0,hi,λH8 e8=>⟨e8 _ _ hDx,?_,?_,(ex.trans e8).into hD,AC⟩⟩
   ·rw[Wv];rfl
   ·rw[WD,WD,WV];exact AQ (by lia)
   ·rw[Ak,WN];rfl
  ·rintro acc H8 ⟨rfl,e8,h8⟩;exact qB D _ e8 hD h8
 have e57:=s56 e7
 have out:∀{b:Addr},H6 b=none->b∉Be [(("singles":Str),s.heap.objs.size+1+1),("framed",s.heap.objs.size+1)]:=λ{b} h z=>by obtain⟨_,_,_,y⟩:=ck6.at z;rw[h]at y;cases y
 have fr:∀{b:Addr},H6 b=none->H b=none:=λh=>e14.free (s5.free tb5 (e6.free h))
 exact hsm s9 d _ ls A ((e14.t.trans s5).trans e57.t) (tb5.same e57) (fr hd) (λl hl=>fr (hls l hl)) (by rw[Bh (out hd)];exact hd7) ⟨g7.n,g7.nd,λi b l h1 h2=>by rw[Bh (out (hls l (WQ h2)))];exact g7.e i b l h1 h2⟩ rp lA
theorem Hc:AK ["one","nexts","left","some","stretch","sign"] ["one"] (AH SJ):=B0 (by decide +kernel)
theorem UZ(T:Bz K mg t)(G_14:Ag P w K mg base 11 t.f_14 ["one"] (JI t.c_50 LP t.p_14))(G_13:Ag P w K mg base 2 t.f_13 ["nexts","ends"] (LO))(G_34:Ag P w K mg base 10 t.f_34 ["one"] (FQ t.c_50)):Ag P w K mg base 12 t.f_70 ["one"] (LQ t.c_50 LP t.p_14):=by
 refine C0 T.d_70 Hc (λ_ _ _ _ _ _=>b1 λ_=>rfl) λvs H Q E h=>?_;obtain⟨r,g,lo,tab,m,lf,tf,mf,rfl,ok,fw,tb,hsm,hbig⟩:=h;refine⟨rfl,λcdv A outer s hr=>?_⟩
 refine⟨_,(AD (AR 1 Hc (BG G_14 (hr.mono (by decide)) rfl T.m_14 An (AA (pv 0) AB)))
  (AD (AR 2 Hc (AT hr G_13 T.m_13 (AA (pv 1) (AA (BB (Ah AB)) AB))))
  (AD (AR 3 Hc (BG G_34 (hr.mono (by decide)) rfl T.m_34 An (AA (pv 0) AB)))
  (AD (Av (En (CM (B3 hr) (pv 3) (pv 2))) (AE (AL IT)) AX)
  (AD (AR 4 Hc (BB AB))
  (AD (PS.nox (B6 PassesOwn.never (AN JV (pv 3) AG (AS _)) (AD (AR 5 Hc (By WT PySem.F.slot_list_index PySem.F.type_list_index OY (Db [(2,"left")] [("left",_)] (BN (FO (B3 hr) (pv 1) (pv 3) (λ_ _=>rfl))) (λ_ _ _ _=>Bx) (λ_ _ _ _=>(OK (B3 hr) (pv 1) (pv 0) ⟨rfl,rfl,rfl,rfl⟩))) (AA (AJ BZ (FO (B3 hr) (pv 2) (pv 3) (λ_ _=>rfl)) AG) AB)))
  (AD (A5 (By WT We Wf BD (pv 4) (AA (pv 5) AB)))
  (AE (AR 3 Hc (AV Ay (FO (B3 hr) (pv 1) (pv 3) (λ_ _=>rfl)) (pv 5) (λ_ _=>rfl))))))))
  (AE (AL (pv 4))))))))),?_⟩
 have g2:=ok.g2;have g9:=ok.g9;obtain⟨hn,hl⟩:=Br g2 ok.len fw;refine BC λN hN=>?_;walk_at "rd";refine⟨r,g,lo,tab,m,lf,tf,mf,rfl,ok,fw,tb,λs9 d H1 ls A s1 tb1 hd hls w1 g1 rp lA=>hN _ _ ?_,hbig⟩;clear hN N;have h9:tf.length/g.toNat<=9:=by lia
 have ok1:=ok.sameT s1 tb;have cA:A.length<=512:=Wm (Cn rp.nd lA) (FU h9);refine BC λN hN=>?_;walk_at "rd";refine⟨by decide,λe he=>?_⟩;have e1:=AF.new he (.lst [V.int 0]);refine⟨d,e,ls,A,AW g tf,[0],rfl,.inl (e1 _ _ w1),g1.same e1,rp.nd,rp.cl,cA,λa _=>by rw[Du];lia,AC,by decide,λo H2 d2 M f e2 hd2 w2 fi=>hN _ _ ?_⟩;clear hN N;have eD:H e=none:=s1.free tb1 he;have s2:BX t.p_14 H H2:=((s1.trans e1.t).into hd _).trans e2.t;have tb2:BL LP (HL "sets_reached") t.p_14 H2:=((tb1.same e1).into (e1 _ _ w1) (λ_ z=>by cases z) (λ_ z=>by cases z)).same e2;have ok2:=ok.sameT s2 tb;have dZ:H2 d=some (.frz o (.dK (Au A (ls.map V.ref)))):=e2 _ _ AC;have dn:d∉ls:=g1.out λxs z=>by rw[w1]at z;cases z
 have g2':=((g1.same e1).keep dn (.frz o (.dK (Au A (ls.map V.ref))))).same e2;have hh:(g^(mf-1)).toNat=tf.length/g.toNat:=by rw[<-hn,WS]
 refine BC λN hN=>?_;walk_at "rd";refine⟨r,g,lo,tab,m,lf,tf,mf,rfl,ok2,fw,λ_ H3 e3=>hN _ _ ?_,λz=>by lia⟩;clear hN N;rw[hh];have s3:=s2.trans e3.t;have tb3:=tb2.same e3;have w3:=e3 _ _ w2;have d3:=e3 _ _ dZ;have g3:=g2'.same e3;obtain⟨qn,qs⟩:=hsm s9 A M f rp fi;have rdd:∀{HX:Hp},AF H3 HX->Rd HX d (.dK (Au A (ls.map V.ref))):=λe=>.inr ⟨o,e _ _ d3⟩
 have nx:∀{HX:Hp} {x:Int},AF H3 HX->x∈A->∃l,Cz HX d (.int x) (some (.ref l))/\HX l=some (.lst ((AW g tf x).map V.int)):=λ{HX x} e hx=>by obtain⟨i,hi⟩:=EI hx;obtain⟨l,hl⟩:=KJ g3.n hi;exact⟨l,.inl ⟨_,Sum.inl x,rdd e,rfl,by rw[B4 rp.nd hi (by rw[WO,hl];rfl)]⟩,e _ _ (g3.e i x l hi hl)⟩
 refine B2 (λσ HX=>(∃x4 x5,σ=[some (.ref r),some (.ref d),some (.ref d2),some (.int (Ae g tf)),x4,x5])/\HX=H3/\Ae g tf∈M) (λN hN=>?_) ?_
 ·refine⟨_,rfl,_,rfl,d2,_,rfl,Cz.k (k:=Sum.inl (Ae g tf)) w3,_,rfl,?_⟩;rw[CY (by rw[WD]) fi.nd]
  by_cases z:Ae g tf∈M
  ·rw[decide_eq_true z];exact Hj (hN _ _ ⟨⟨_,_,rfl⟩,rfl,z⟩)
  ·rw[decide_eq_false z];exact Jc (qn z _ s3 tb3)
 rintro σ HX ⟨⟨x4,x5,rfl⟩,rfl,fm⟩;refine BC λN hN=>?_;walk_at "rd";refine⟨by decide,λD hD=>hN _ _ ?_⟩;clear hN N;have DH:H D=none:=s3.free tb3 hD;refine B2 (λσ HY=>(∃x3 x5,σ=[some (.ref r),some (.ref d),some (.ref d2),x3,some (.ref D),x5])/\AF HX HY/\HY D=some (.lst ((Em (AW g tf) (GX M f) (f (Ae g tf)) (Ae g tf)).map V.int))) (λN hN=>?_) ?_
 ·refine⟨λn σ HY=>∃(x:Int) (L:List Int),(∃x5,σ=[some (.ref r),some (.ref d),some (.ref d2),some (.int x),some (.ref D),x5])/\AF HX HY/\HY D=some (.lst (L.map V.int))/\x∈M/\f x=n/\L.length+n<=2000/\L++Em (AW g tf) (GX M f) n x=Em (AW g tf) (GX M f) (f (Ae g tf)) (Ae g tf),⟨_,Ae g tf,[],⟨_,rfl⟩,AF.new hD _,AC,fm,rfl,?_,rfl⟩,?_⟩
  ·have:=fi.low fm;rw[YG,Nat.zero_add];simp only[List.length_cons,List.length_nil]at this;lia
  rintro n σ HY ⟨x,L,⟨x5,rfl⟩,eY,hY,xM,rfl,lL,eL⟩;refine⟨_,rfl,rfl,_,rfl,?_⟩;dsimp only
  by_cases x0:x=0
  ·rw[if_neg (by rw[x0];decide)];have f0:f x=0:=by rw[x0];exact (fi.ends 0 (WE.mpr rfl)).2
   rw[f0,show Em (AW g tf) (GX M f) 0 x=[] from rfl,W6]at eL;exact hN _ _ ⟨⟨_,_,rfl⟩,eY,by rw[<-eL];exact hY⟩
  rw[if_pos (by rw[decide_eq_false (λz=>x0 (V.int.inj z))];rfl)]
  obtain⟨n,hn1⟩:∃n,f x=n+1:=⟨f x-1,by
   have:f x≠0:=λz=>x0 (WE.mp (fi.zero x xM z))
   lia⟩
  obtain⟨xA,q0,hq0,q0M,fq0⟩:=fi.down x xM n hn1;obtain⟨z,z1,z2,z3,z4,z5⟩:=Ri (F:=AW g tf) (fo:=GX M f) hq0 (n:=n) (by unfold GX;rw[if_pos q0M,fq0])
  have zM:z∈M/\f z=n:=by
   unfold GX at z2
   split at z2
   ·exact⟨‹_›,Option.some.inj z2⟩
   ·cases z2
  rw[hn1]at eL lL⊢;refine⟨λσ' H'=>∃m',m'<n+1/\∃(x:Int) (L:List Int),(∃x5,σ'=[some (.ref r),some (.ref d),some (.ref d2),some (.int x),some (.ref D),x5])/\AF HX H'/\H' D=some (.lst (L.map V.int))/\x∈M/\f x=m'/\L.length+m'<=2000/\L++Em (AW g tf) (GX M f) m' x=Em (AW g tf) (GX M f) (f (Ae g tf)) (Ae g tf),λ_ _ h=>h,?_⟩;refine B2 (λσ HZ=>σ=[some (.ref r),some (.ref d),some (.ref d2),some (.int x),some (.ref D),some (.int ((EK (AW g tf) (GX M f) n x:Nat):Int))]/\AF HX HZ/\HZ D=some (.lst (L.map V.int))) (λN2 hN2=>?_) ?_
  ·obtain⟨l,dg,hl'⟩:=nx eY xA;refine⟨_,rfl,_,rfl,d,.ref l,rfl,dg,l,rfl,⟨_,Ac.of hl'⟩,λD2 hD2=>?_⟩;refine ET (xs:=(AW g tf x).map V.int) (λi acc Hx=>acc=((AW g tf x).take i).map (λy=>(CG (De M f) (Sum.inl y)).getD .non)/\AF HY Hx/\Hx D2=some (.lst acc)) ⟨rfl,AF.new hD2 _,AC⟩ (λi acc Hx _ z=>Ac.of (z.2.1 _ _ hl')) ?_ ?_
   ·rintro i y acc Hx hy ⟨rfl,ex,h2⟩;obtain⟨y,hyi,rfl⟩:=Bj hy;dsimp only[Mb];rw[if_pos rfl];have w4:=ex _ _ (eY _ _ w3);refine⟨_,rfl,d2,rfl,.inl ⟨_,.inl w4⟩,_,rfl,_,Cz.k (k:=Sum.inl y) w4,h2,?_,?_,ex.into hD2,AC⟩
    ·rw[WD,Wp,Du];exact AQ (by lia)
    ·rw[Wz,hyi,WN];rfl
   ·rintro acc Hx ⟨rfl,ex,h2⟩;rw[WD,Wk]at h2
    have get:∀y,(CG (De M f) (Sum.inl y)).getD .non=match GX M f y with|some k=>V.int ((k:Nat):Int)|none=>.non:=λy=>by
     rw[KM fi.nd];unfold GX
     split<;>rfl
    have w4:=ex _ _ (eY _ _ w3);refine⟨.inl ⟨rfl,_,Ac.of h2⟩,_,rfl,_,rfl,d2,.int ((f x:Nat):Int),rfl,?_,_,_,rfl,rfl,D2,_,((n:Nat):Int),EK (AW g tf) (GX M f) n x,rfl,?_,h2,?_,?_,?_,?_⟩
    ·have:=Cz.k (k:=Sum.inl x) w4;rw[KM fi.nd,if_pos xM]at this;exact this
    ·rw[hn1];show[V.int (((n+1:Nat):Int)-1)]=_;rw[show ((n+1:Nat):Int)-1=(n:Int) by lia]
    ·intro y hy;obtain⟨k,_,rfl⟩:=Wd.mp hy;rw[get]
     split<;>trivial
    ·rw[WO,z1];show some ((CG (De M f) (Sum.inl z)).getD .non)=_;rw[get,z2]
    ·intro k hk y hy;rw[WO]at hy;obtain⟨y',h1,rfl⟩:=W5.mp hy;rw[get];have:=z5 k hk y' h1;split
     ·rename_i k' hk'
      show (((k':Nat):Int)==(n:Int))=false;rw[beq_eq_false_iff_ne];intro z;exact this (by rw[hk',show k'=n by lia])
     ·rfl
    ·exact hN2 _ _ ⟨rfl,eY.trans ex,ex _ _ hY⟩
  rintro σ HZ ⟨rfl,eZ,hZ⟩;refine BC λN2 hN2=>?_;walk_at "rd";refine⟨.inl ⟨_,Ac.of hZ⟩,_,hZ,by rw[WD];exact YF (Wm (Nat.le_add_right ..) lL) (by decide),hN2 _ _ ?_⟩;clear hN2 N2;have eW:AF HX (Ad HZ D (.lst (L.map V.int++[V.int ((EK (AW g tf) (GX M f) n x:Nat):Int)]))):=eZ.into hD;have hW:Ad HZ D (.lst (L.map V.int++[V.int ((EK (AW g tf) (GX M f) n x:Nat):Int)])) D=some (.lst ((L++[((EK (AW g tf) (GX M f) n x:Nat):Int)]).map V.int)):=by rw[AC,WN];rfl
  generalize Ad HZ D (.lst (L.map V.int++[V.int ((EK (AW g tf) (GX M f) n x:Nat):Int)]))=HW at eW hW⊢;obtain⟨l,dg,hl'⟩:=nx eW xA;refine⟨_,rfl,_,rfl,d,.ref l,rfl,dg,_,rfl,l,_,_,_,rfl,rfl,Ac.of hl',C8 (by rw[WO,z1];rfl),n,W8 n,z,L++[((EK (AW g tf) (GX M f) n x:Nat):Int)],⟨_,rfl⟩,eW,hW,zM.1,zM.2,?_,?_⟩
  ·rw[WI,WX];lia
  ·rw[<-eL,List.append_assoc];show L++([((EK (AW g tf) (GX M f) n x:Nat):Int)]++Em (AW g tf) (GX M f) n z)=L++(((EK (AW g tf) (GX M f) n x:Nat):Int)::Em (AW g tf) (GX M f) n ((AW g tf x).getD (EK (AW g tf) (GX M f) n x) 0));rw[z3];rfl
 rintro σ HY ⟨⟨x3,x5,rfl⟩,eY,hY⟩;walk_at "rd";exact qs fm D HY (s3.trans eY.t) (tb3.same eY) DH hY
theorem Ua:AK ["self"] ["self"] (AH SK):=B0 (by decide +kernel)
theorem Ub(T:Bz K mg t) :Ag P w K mg base 1 t.f_23 ["self"] (JK t.c_66):=by refine Aw T.d_23 Ua (λ_ _ _ _ _ _=>b1 λ_=>rfl) λvs H Q E h=>?_;obtain⟨x,rfl,q⟩:=h;refine⟨rfl,λcdv A outer s hr=>?_⟩;refine⟨_,(AE (AL (Dh AB))),?_⟩;walk_at "rd";exact⟨by decide,λtt ht=>q tt _ (AF.new ht _) AC⟩
theorem Uc:AK ["self","one"] ["self","one"] (AH SL):=B0 (by decide +kernel)
theorem Ud(T:Bz K mg t) :Ag P w K mg base 1 t.f_17 ["self","one"] (JL):=by refine Aw T.d_17 Uc (λ_ _ _ _ _ _=>b2 λ_ _=>rfl) λvs H Q E h=>?_;obtain⟨x,r,rfl,q⟩:=h;refine⟨rfl,λcdv A outer s hr=>?_⟩;refine⟨_,(AE (AL Bi)),?_⟩;walk_at "rd";exact q
theorem Vj:AK ["self","sets"] ["self","sets"] (AH VX):=B0 (by decide +kernel)
theorem Vk(T:Bz K mg t) :Ag P w K mg base 1 t.f_1 ["self","sets"] (HP t.c_37 "sets"):=by
 refine Aw T.d_1 Vj (λ_ _ _ _ _ _=>b2 λ_ _=>rfl) λvs H Q E h=>?_;obtain⟨x,dx,a,xs,rfl,hx,ha,q⟩:=h;refine⟨rfl,λcdv A outer s hr=>?_⟩;refine⟨_,(AE (NU (pv 0) (BS BV rfl T.z_list Wr (AA (pv 1) AB)) rfl)),?_⟩;walk_at "rd";refine⟨_,rfl,a,rfl,_,.inl (Ac.of ha),λl hl=>?_⟩;have f1:=AF.new hl (.lst (xs.map V.int));have lx:l≠x:=λe=>by rw[e,hx]at hl;cases hl
 refine⟨_,rfl,x,_,dx,[],rfl,f1 _ _ hx,T.th_37.cl,T.na_OntoPaper_sets,by decide,?_⟩;exact q l _ (λH2 e n=>(e.trans f1).into n) AC (by rw[AI lx];exact AC) hl
theorem Vl:AK ["self"] ["self"] (AH VY):=B0 (by decide +kernel)
theorem Vm(T:Bz K mg t) :Ag P w K mg base 1 t.f_6 ["self"] (E3 t.c_37 "sets"):=by refine Aw T.d_6 Vl (λ_ _ _ _ _ _=>b1 λ_=>rfl) λvs H Q E h=>?_;obtain⟨x,xs,rfl,pv',q⟩:=h;refine⟨rfl,λcdv A outer s hr=>?_⟩;refine⟨_,(AE (AL (Dh (AA (BS BV rfl T.z_list Wr (AA (Ge (pv 0) rfl) AB)) AB)))),?_⟩;obtain⟨dx,p,hx,hp⟩:=pv';walk_at "rd";refine⟨_,rfl,x,_,dx,_,.ref p,rfl,hx,T.th_37.cl,T.na_OntoPaper_sets,rfl,p,rfl,_,.inl (Ac.of hp),λl hl=>?_⟩;have f1:=AF.new hl (.lst (xs.map V.int));refine⟨by decide,λtt ht=>?_⟩;have f3:=AF.new ht (.tup [.ref l]);exact q tt l _ (f1.trans f3) AC (f3 _ _ AC) hl
theorem IR:AK ["framed","sets","singles","whole","among","some"] ["framed","sets"] (AH SM):=B0 (by decide +kernel)
theorem Ue(T:Bz K mg t)(G_15:Ag P w K mg base 3 t.f_15 ["framed"] (Ec))(G_34:Ag P w K mg base 10 t.f_34 ["one"] (FQ t.c_50))(G_55:Ag P w K mg base 1 t.f_55 ["singles","some","sign"] (FS)):Ag P w K mg base 11 t.f_31 ["framed","sets"] (HN):=by
 refine Aw T.d_31 IR (λ_ _ _ _ _ _=>b2 λ_ _=>rfl) λvs H Q E h=>?_;obtain⟨r,a,g,lf,tf,mf,sets,rfl,ok,fw,s9,ha,l9,q⟩:=h;refine⟨rfl,λcdv A outer s hr=>?_⟩
 refine⟨_,(AD (AR 2 IR (AT hr G_15 T.m_15 (AA (pv 0) AB)))
  (AD (AR 3 IR (AT hr G_34 T.m_34 (AA (pv 0) AB)))
  (AD (AR 4 IR Da)
  (AD (A9 PassesOwn.never rfl (BN (pv 1)) (BK 5 IR) (AE (FP (B3 hr) (pv 4) (pv 5) Bi rfl)))
  (AD (Av (En (CM (B3 hr) (pv 3) (pv 4))) (AE (AL Bi)) AX)
  (AD (A9 PassesOwn.never rfl (G6 (pv 4)) (BK 5 IR) (AD (Av (PW.pt (Cq (AN DU (pv 5) AG (AS _)) (Ca (AN Cs (pv 5) (pv 3) (AS _))))) (AE (AL Bi)) AX)
  (AE (Av (Bw (Bf (AU (F8 rfl) rfl T.z_all PyProof.Rows.boot_all (AA (Db [(5,"some"),(2,"singles"),(4,"among")] [("some",_),("singles",_),("among",_)] (Ax rfl T.z_range (AA (AV Af (pv 0) AG (λ_ _=>rfl)) AB)) (λ_ _ _ _=>Bx) (λ_ _ _ _=>(Qr (RN (B3 hr) (AT hr G_55 T.m_55 (AA (pv 2) (AA (pv 1) (AA (pv 0) AB)))) (pv 3))))) AB)))) (AE (AL Bi)) AX))))
  (AE (AL Bi)))))))),?_⟩
 have g2:=ok.g2;have g9:=ok.g9;obtain⟨hn,hl⟩:=Br g2 ok.len fw;have h9:tf.length/g.toNat<=9:=by lia
 have hh:(g^(mf-1)).toNat=tf.length/g.toNat:=by rw[<-hn,WS]
 refine BC λN hN=>?_;walk_at "rd";refine⟨r,g,lf,tf,mf,rfl,ok,h9,λp ps H1 e1 sl=>hN _ _ ?_⟩;clear hN N;refine BC λN hN=>?_;walk_at "rd";refine⟨r,g,lf,tf,mf,lf,tf,mf,rfl,ok.same e1,fw,λ_ H2 e2=>hN _ _ ?_,λz=>by lia⟩;clear hN N;rw[hh];have e12:=e1.trans e2;refine BC λN hN=>?_;intro d hd;refine hN _ _ ?_;clear hN N;have e3:=AF.new hd (.dK (Bl []));refine B2 (λσ HX=>(∃x5,σ=[some (.ref r),some (.ref a),some (.ref p),some (.int (Ae g tf)),some (.ref d),x5])/\AF H2 HX/\∃A,HX d=some (.dK (Bl A))/\Fu sets A) (λN hN=>?_) ?_
 ·refine⟨_,rfl,a,rfl,⟨_,Ac.of ((e12.trans e3) _ _ ha)⟩,?_⟩;refine BP (xs:=sets.map V.int) (λi σ HX=>(∃x5,σ=[some (.ref r),some (.ref a),some (.ref p),some (.int (Ae g tf)),some (.ref d),x5])/\AF H2 HX/\∃A,HX d=some (.dK (Bl A))/\Fu (sets.take i) A) ⟨⟨none,rfl⟩,e3,[],AC,Fu.nil⟩ (λi σ HX _ z=>Ac.of (z.2.1 _ _ (e12 _ _ ha))) ?_ ?_
  ·rintro i x σ HX hx ⟨⟨x5,rfl⟩,eX,A,hX,mX⟩;obtain⟨x,hxi,rfl⟩:=Bj hx;dsimp only[Cd];have:=mX.len;rw[Wp]at this;refine⟨_,rfl,_,rfl,d,_,rfl,JB.k (k:=Sum.inl x) hX (by rw[EL];exact AQ (by lia)),⟨_,rfl⟩,eX.into hd,if x∈A then A else A++[x],?_,?_⟩
   ·rw[HM];exact AC
   ·rw[Wz,hxi];exact mX.put x
  ·rintro σ HX ⟨⟨x5,rfl⟩,eX,A,hX,mX⟩;rw[WD,Wk]at mX;exact hN _ _ ⟨⟨_,rfl⟩,eX,A,hX,mX⟩
 rintro σ HX ⟨⟨x5,rfl⟩,eX,A,hX,mX⟩;have e1X:=e12.trans eX;have sv:∀{x:Int},(CG (Bl A) (Sum.inl x)).isSome=decide (x∈A):=λ{x}=>CY (by rw[WD]) mX.nd
 refine B2 (λσ HY=>(∃x5,σ=[some (.ref r),some (.ref a),some (.ref p),some (.int (Ae g tf)),some (.ref d),x5])/\HY=HX/\Ae g tf∈A) (λN hN=>?_) ?_
 ·refine⟨_,rfl,_,rfl,d,_,rfl,Cz.k (k:=Sum.inl (Ae g tf)) hX,_,rfl,?_⟩;rw[sv]
  by_cases z:Ae g tf∈A
  ·rw[decide_eq_true z];exact Hj (hN _ _ ⟨⟨_,rfl⟩,rfl,z⟩)
  ·rw[decide_eq_false z];refine Jc ?_;exact q false _ e1X ⟨λy=>(by cases y),λy=>absurd ((mX.on _).mpr y.1) z⟩
 rintro σ HY ⟨⟨x5,rfl⟩,rfl,fA⟩;refine B2 (λσ HZ=>(∃x5,σ=[some (.ref r),some (.ref a),some (.ref p),some (.int (Ae g tf)),some (.ref d),x5])/\AF H HZ/\∀x∈A,1<=x/\x<=Ae g tf/\∀y∈AW g tf x,y∈A) (λN hN=>?_) ?_
 ·refine⟨_,rfl,d,_,rfl,.inl hX,λo=>?_⟩;have eF:AF H2 (Ad HY d (.frz o (.dK (Bl A)))):=eX.into hd;have dF:Ad HY d (.frz o (.dK (Bl A))) d=some (.frz o (.dK (Bl A))):=AC;generalize Ad HY d (.frz o (.dK (Bl A)))=HF at eF dF⊢;refine Fq (d:=d) (o:=o) (kvs:=Bl A) (λi σ HZ=>(∃x5,σ=[some (.ref r),some (.ref a),some (.ref p),some (.int (Ae g tf)),some (.ref d),x5])/\AF HF HZ/\∀x∈A.take i,1<=x/\x<=Ae g tf/\∀y∈AW g tf x,y∈A) ⟨⟨_,rfl⟩,AF.refl _,λx hx=>absurd hx (by simp)⟩ (λi σ HZ _ z=>z.2.1 _ _ dF) ?_ ?_
  ·rintro i k v σ HZ hk ⟨⟨x5,rfl⟩,eZ,al⟩;obtain⟨x,hxi,_,rfl⟩:=GW hk;have xA:=WQ hxi;have eHZ:=(e12.trans eF).trans eZ;have no:¬(1<=x/\x<=Ae g tf/\∀y∈AW g tf x,y∈A)->∀HW,AF HZ HW->Q (.bl false) HW:=λh HW eW=>q false HW (eHZ.trans eW) ⟨λy=>(by cases y),λy=>absurd (by obtain⟨h1,h2,h3⟩:=y.2 x ((mX.on x).mp xA);exact⟨h1,h2,λy hy=>(mX.on y).mpr (h3 y hy)⟩) h⟩
   dsimp only[Cd];refine B2 (λσ HW=>σ=[some (.ref r),some (.ref a),some (.ref p),some (.int (Ae g tf)),some (.ref d),some (.int x)]/\HW=HZ/\1<=x/\x<=Ae g tf) (λN2 hN2=>?_) ?_
   ·walk_at "rd";refine⟨x,rfl,?_⟩
    by_cases c1:x<1
    ·rw[if_pos c1];exact no (λz=>by lia) _ (AF.refl _)
    rw[if_neg c1];refine⟨x,rfl,?_⟩
    by_cases c2:Ae g tf<x
    ·rw[if_pos c2];exact no (λz=>by have:=z.2.1;lia) _ (AF.refl _)
    rw[if_neg c2];exact hN2 _ _ ⟨rfl,rfl,by lia,by lia⟩
   rintro σ HW ⟨rfl,rfl,x1,x2⟩;obtain⟨tb',v1,v2⟩:=(ok.same eHZ).v;refine⟨_,rfl,r,_,0,_,rfl,rfl,Ba.of v1,rfl,_,rfl,by lia,by lia,λD hD=>?_⟩
   have st:∀{y:Int},y∈AW g tf x↔∃s:Nat,s<g.toNat/\y=DE g.toNat tf (tf.length/g.toNat) x (s:Int):=λ{y}=>by unfold AW;rw[Wd];exact⟨λ⟨s,h1,h2⟩=>⟨s,Wl.mp h1,h2.symm⟩,λ⟨s,h1,h2⟩=>⟨s,Wl.mpr h1,h2.symm⟩⟩
   refine BH (n:=g.toNat) (λi acc Hx=>acc=((List.range i).map λs:Nat=>decide (DE g.toNat tf (tf.length/g.toNat) x (s:Int)∈A)).map V.bl/\AF HW Hx/\Hx D=some (.lst acc)) ⟨rfl,AF.new hD _,AC⟩ ?_ ?_
   ·rintro j acc Hx hj ⟨rfl,ex,hDx⟩;dsimp only[Mb];rw[if_pos rfl];refine⟨_,rfl,_,rfl,_,rfl,p,ps,g.toNat,tf,tf.length/g.toNat,x,j,?_,sl.same (((e2.trans eF).trans eZ).trans ex),by lia,hj,λH8 e8=>?_⟩
    ·rw[Wv];rfl
    have d8:=e8 _ _ (ex _ _ (eZ _ _ dF));refine⟨_,rfl,d,_,rfl,.inl ⟨_,Sum.inl (DE g.toNat tf (tf.length/g.toNat) x (j:Int)),.inr ⟨o,d8⟩,rfl,rfl⟩,e8 _ _ hDx,?_,?_,(ex.trans e8).into hD,AC⟩
    ·rw[WD,WD,WV];exact AQ (by lia)
    ·rw[sv,Ak,WN];rfl
   ·rintro acc H8 ⟨rfl,e8,h8⟩;refine⟨D,_,rfl,Ac.of h8,_,rfl,?_⟩;dsimp only
    have ev:(((List.range g.toNat).map λs:Nat=>decide (DE g.toNat tf (tf.length/g.toNat) x (s:Int)∈A)).all id=true)↔∀y∈AW g tf x,y∈A:=by
     rw[X6];constructor
     ·intro h y hy;obtain⟨s,hs,rfl⟩:=st.mp hy;exact of_decide_eq_true (h _ (Wd.mpr ⟨s,Wl.mpr hs,rfl⟩))
     ·intro h b hb;obtain⟨s,hs,rfl⟩:=Wd.mp hb;exact decide_eq_true (h _ (st.mpr ⟨s,Wl.mp hs,rfl⟩))
    by_cases al2:∀y∈AW g tf x,y∈A
    ·rw[ev.mpr al2];refine Hj ⟨⟨_,rfl⟩,eZ.trans e8,λy hy=>?_⟩;rw[Wz,hxi]at hy;rcases WK.mp hy with z|z
     ·exact al y z
     ·rw[WE.mp z];exact⟨x1,x2,al2⟩
    ·rw[Bool.eq_false_iff.mpr λz=>al2 (ev.mp z)];refine Jc ?_;exact no (λz=>al2 z.2.2) _ e8
  ·rintro σ HZ ⟨⟨x5,rfl⟩,eZ,al⟩;rw[EL,Wk]at al;exact hN _ _ ⟨⟨_,rfl⟩,(e12.trans eF).trans eZ,al⟩
 rintro σ HZ ⟨⟨x5,rfl⟩,eZ,al⟩;walk_at "rd"
 exact q true HZ eZ ⟨λ_=>⟨(mX.on _).mp fA,λx hx=>by obtain⟨h1,h2,h3⟩:=al x ((mX.on x).mpr hx);exact⟨h1,h2,λy hy=>(mX.on y).mp (h3 y hy)⟩⟩,λ_=>rfl⟩
theorem Vn:AK ["self","one"] ["self","one"] (AH VZ):=B0 (by decide +kernel)
theorem Vo(T:Bz K mg t)(G_31:Ag P w K mg base 11 t.f_31 ["framed","sets"] (HN))(G_67:Ag P w K mg base 8 t.f_67 ["one"] (Ea t.c_50)):Ag P w K mg base 12 t.f_3 ["self","one"] (Dv t.c_50 t.c_37 "sets" Cj 900):=by refine C0 T.d_3 Vn (λ_ _ _ _ _ _=>b2 λ_ _=>rfl) λvs H Q E h=>?_;obtain⟨x,r,g,lo,tab,m,lf,tf,mf,xs,rfl,pv',ok,fw,hbig,hsm⟩:=h;refine⟨rfl,λcdv A outer s hr=>?_⟩;refine⟨_,(AE (AL (AT hr G_31 T.m_31 (AA (BG G_67 (hr.mono (by decide)) rfl T.m_67 An (AA (pv 1) AB)) (AA (Ge (pv 0) rfl) AB))))),?_⟩;walk_at "rd";refine⟨r,g,lo,tab,m,lf,tf,mf,rfl,ok,fw,λs9 r1 H1 e1 ok1=>?_,hbig⟩;obtain⟨l9,q⟩:=hsm s9;obtain⟨dx,p,hx,hp⟩:=pv'.same e1;refine⟨_,rfl,x,_,dx,_,.ref p,rfl,hx,T.th_37.cl,T.na_OntoPaper_sets,rfl,?_⟩;exact⟨r1,p,g,lf,tf,mf,xs,rfl,ok1,GB ok.g2 ok.len fw,s9,hp,l9,λc H' e2 hc=>q c H' (e1.trans e2) hc⟩
theorem Vp:AK ["self","row"] ["self","row"] (AH Va):=B0 (by decide +kernel)
theorem Vq(T:Bz K mg t) :Ag P w K mg base 1 t.f_0 ["self","row"] (HP t.c_36 "row"):=by
 refine Aw T.d_0 Vp (λ_ _ _ _ _ _=>b2 λ_ _=>rfl) λvs H Q E h=>?_;obtain⟨x,dx,a,xs,rfl,hx,ha,q⟩:=h;refine⟨rfl,λcdv A outer s hr=>?_⟩;refine⟨_,(AE (NU (pv 0) (BS BV rfl T.z_list Wr (AA (pv 1) AB)) rfl)),?_⟩;walk_at "rd";refine⟨_,rfl,a,rfl,_,.inl (Ac.of ha),λl hl=>?_⟩;have f1:=AF.new hl (.lst (xs.map V.int));have lx:l≠x:=λe=>by rw[e,hx]at hl;cases hl
 refine⟨_,rfl,x,_,dx,[],rfl,f1 _ _ hx,T.th_36.cl,T.na_LostPaper_row,by decide,?_⟩;exact q l _ (λH2 e n=>(e.trans f1).into n) AC (by rw[AI lx];exact AC) hl
theorem Vr:AK ["self"] ["self"] (AH Vb):=B0 (by decide +kernel)
theorem Vs(T:Bz K mg t) :Ag P w K mg base 1 t.f_5 ["self"] (E3 t.c_36 "row"):=by refine Aw T.d_5 Vr (λ_ _ _ _ _ _=>b1 λ_=>rfl) λvs H Q E h=>?_;obtain⟨x,xs,rfl,pv',q⟩:=h;refine⟨rfl,λcdv A outer s hr=>?_⟩;refine⟨_,(AE (AL (Dh (AA (BS BV rfl T.z_list Wr (AA (Ge (pv 0) rfl) AB)) AB)))),?_⟩;obtain⟨dx,p,hx,hp⟩:=pv';walk_at "rd";refine⟨_,rfl,x,_,dx,_,.ref p,rfl,hx,T.th_36.cl,T.na_LostPaper_row,rfl,p,rfl,_,.inl (Ac.of hp),λl hl=>?_⟩;have f1:=AF.new hl (.lst (xs.map V.int));refine⟨by decide,λtt ht=>?_⟩;have f3:=AF.new ht (.tup [.ref l]);exact q tt l _ (f1.trans f3) AC (f3 _ _ AC) hl
theorem Uf:AK ["self","one","framed"] ["self","one"] (AH Vc):=B0 (by decide +kernel)
theorem Vt(T:Bz K mg t)(G_67:Ag P w K mg base 8 t.f_67 ["one"] (Ea t.c_50))(G_53:Ag P w K mg base 3 t.f_53 ["word","signs"] (HS K))(G_21:Ag P w K mg base 4 t.f_21 ["one","row"] (LC K t.c_65)):Ag P w K mg base 9 t.f_2 ["self","one"] (Dv t.c_50 t.c_36 "row" GC 500):=by
 refine C0 T.d_2 Uf (λ_ _ _ _ _ _=>b2 λ_ _=>rfl) λvs H Q E h=>?_;obtain⟨x,r,g,lo,tab,m,lf,tf,mf,xs,rfl,pv',ok,fw,hbig,hsm⟩:=h;refine⟨rfl,λcdv A outer s hr=>?_⟩
 refine⟨_,(AD (AR 2 Uf (BG G_67 (hr.mono (by decide)) rfl T.m_67 An (AA (pv 1) AB)))
  (AE (AL (DG (AT hr G_53 T.m_53 (AA (Ge (pv 0) rfl) (AA (AV Af (pv 2) AG (λ_ _=>rfl)) AB))) (D3 (EQ B7 (BG G_21 (hr.mono (by decide)) rfl T.m_21 An (AA (pv 2) (AA (Ge (pv 0) rfl) AB))) AG (AS _))))))),?_⟩
 have g2:=ok.g2;refine BC λN hN=>?_;walk_at "rd";refine⟨r,g,lo,tab,m,lf,tf,mf,rfl,ok,fw,λs9 r1 H1 e1 ok1=>hN _ _ ?_,hbig⟩;clear hN N;obtain⟨l9,q⟩:=hsm s9;obtain⟨dx,p,hx,hp⟩:=pv'.same e1;obtain⟨tb',v1,v2⟩:=id ok1.v;walk_at "rd";refine⟨_,rfl,x,_,dx,_,.ref p,rfl,hx,T.th_36.cl,T.na_LostPaper_row,rfl,r1,_,0,_,rfl,rfl,Ba.of v1,rfl,p,xs,g,rfl,hp,by lia,λb H2 e2 hb=>⟨b,rfl,?_⟩⟩;cases b with
 |false =>
  refine Hj ?_;exact q false _ (e1.trans e2) ⟨λz=>(by cases z),λz=>absurd (hb.mpr z.1) (by decide)⟩
 |true =>
  have hs:=hb.mp rfl;rw[if_pos rfl];refine⟨_,rfl,x,_,dx,_,.ref p,rfl,e2 _ _ hx,T.th_36.cl,T.na_LostPaper_row,rfl,r1,p,g,lf,tf,mf,xs.map V.int,rfl,ok1.same e2,Ac.of (e2 _ _ hp),GO,by rw[WD];lia,?_⟩;rw[Ep hs];intro ns hns H3 e3;obtain rfl:xs=ns:=List.map_inj_right (λ_ _ h=>V.int.inj h) |>.mp hns
  refine⟨rfl,?_⟩;refine q _ _ ((e1.trans e2).trans e3) ?_;rw[decide_eq_true_eq];exact⟨λz=>⟨hs,(KN g2 xs).mpr (V.int.inj z)⟩,λz=>by rw[(KN g2 xs).mp z.2]⟩
theorem Ug:AK ["_law_found"] ["_law_found"] (AH SN):=B0 (by decide +kernel)
theorem Uh(T:Bz K mg t) :Ag P w K mg base 1 t.f_30 ["_law_found"] (ES):=by
 refine Aw T.d_30 Ug (λ_ _ _ _ _ _=>b1 λ_=>rfl) λvs H Q E h=>?_;obtain⟨x,rfl,kd,q⟩:=h;refine⟨rfl,λcdv A outer s hr=>?_⟩;refine⟨_,(AE (AL (DG (B8 rfl T.z_isinstance (pv 0) (Ek rfl T.z_int PyProof.Rows.boot_int)) (D3 (IU (B8 rfl T.z_isinstance (pv 0) (Ek rfl T.z_bool PyProof.Rows.boot_bool))))))),?_⟩;walk_at "rd";cases x with
 |int i =>
  refine⟨_,.of (.int i),_,QK,?_⟩;rw[if_pos rfl];exact⟨_,.of (.int i),_,QL,q⟩
 |bl b =>
  refine⟨_,.of (.bl b),_,QM,?_⟩;rw[if_pos rfl];exact⟨_,.of (.bl b),_,Np,q⟩
 |non =>
  refine⟨_,.of .non,_,QN,?_⟩;rw[if_neg (by decide)];exact q
 |str y =>
  refine⟨_,.of (.str y),_,QO,?_⟩;rw[if_neg (by decide)];exact q
 |ref a =>
  obtain⟨xs,z|z⟩:=kd
  ·refine⟨_,.of (.lst z),_,QP,?_⟩;rw[if_neg (by decide)];exact q
  ·refine⟨_,.of (.tup z),_,QS,?_⟩;rw[if_neg (by decide)];exact q
 |byt _=>exact kd.elim
 |flt _=>exact kd.elim
 |ty _=>exact kd.elim
theorem Vu:AK ["_law_script","_law_k"] ["_law_script","_law_k"] (AH Vd):=B0 (by decide +kernel)
theorem Vv(T:Bz K mg t) :Ag P w K mg base 1 t.f_9 ["_law_script","_law_k"] (Ik K):=by
 refine Aw T.d_9 Vu (λ_ _ _ _ _ _=>b2 λ_ _=>rfl) λvs H Q E h=>?_;obtain⟨a,ns,k,rfl,hS,h63,q⟩:=h;refine⟨rfl,λcdv A outer s hr=>?_⟩
 refine⟨_,(AD (Av (AN DU (pv 1) (AU AM rfl T.z_len Wa (AA (pv 0) AB)) (AS _)) (AE (AL (AV Ay (pv 0) (pv 1) (λ_ _=>rfl)))) AX)
  (AE (AL AG))),?_⟩
 walk_at "rd";refine⟨_,.inl hS,?_⟩;rw[WD]
 by_cases h:(k:Int)<(ns.length:Int)
 ·rw[if_pos h];have hk:k<ns.length:=by lia
  refine⟨a,_,k,.int (ns.getD k 0),rfl,rfl,hS,C8 ?_,q⟩;rw[WO,WJ hk,WH,WJ hk];rfl
 ·rw[if_neg h];have e:ns.getD k 0=0:=by rw[WH,Xd (by lia)];rfl
  rw[e]at q;exact q
theorem KZ:AK ["_law_cell","_law_many","_law_found","_law_number","_law_k"] ["_law_cell","_law_many"] (AH SO):=B0 (by decide +kernel)
theorem Ui(T:Bz K mg t) :Ag P w K mg base 1 t.f_19 ["_law_cell","_law_many"] (Gn):=by
 refine Aw T.d_19 KZ (λ_ _ _ _ _ _=>b2 λ_ _=>rfl) λvs H Q E h=>?_;obtain⟨c,m,rfl,m0,m3,q⟩:=h;refine⟨rfl,λcdv A outer s hr=>?_⟩
 refine⟨_,(AD (AR 2 KZ (BB AB))
  (AD (AR 3 KZ (AJ A8 (AJ Aj (pv 0) AG) AG))
  (AD (A9 PassesOwn.never rfl (Ax rfl T.z_range (AA (pv 1) AB)) (BK 4 KZ) (AD (AR 3 KZ (AJ Aj (AJ A8 (AJ A8 (AJ Cr (pv 3) AG) (AJ Cr (pv 4) (pv 4))) AG) AG))
  (AE (A5 (By WT We Wf BD (pv 2) (AA (AJ Ar (pv 3) AG) AB))))))
  (AE (AL (pv 2)))))),?_⟩
 walk_at "rd";refine⟨XX _,λp hp=>⟨by decide,?_⟩⟩;refine⟨_,rfl,m,rfl,by lia,by lia,?_⟩;refine CI (n:=m.toNat) (λi σ H1=>∃(l:List Int) (x3:Int) (x4:Option V),l.length=i/\σ=[some (.int c),some (.int m),some (.ref p),some (.int x3),x4]/\H1=Ad H p (.lst (l.map V.int))) ⟨[],_,none,rfl,rfl,rfl⟩ ?_ ?_
 ·rintro i σ H1 hi ⟨l,x3,x4,hl,rfl,rfl⟩;walk_at "rd";refine⟨.inr ⟨by decide,by decide⟩,.inl ⟨by lia,by lia⟩,by decide,.inl ⟨_,Ac.of AC⟩,by decide,by decide,_,AC,?_,l++[(x3*48271+(0+(i:Int))*(0+(i:Int))+11)%2147483647/7],?_,?_⟩
  ·rw[WD];exact AQ (by lia)
  ·rw[WI,hl];rfl
  ·rw[E4,WN];rfl
 ·rintro σ H1 ⟨l,x3,x4,hl,rfl,rfl⟩;walk_at "rd";exact q p _ l hl (AF.new hp _) hp AC
theorem MD:AK ["_law_signs","_law_many","_law_size","_law_k"] ["_law_signs","_law_many"] (AH SQ):=B0 (by decide +kernel)
theorem Uj(T:Bz K mg t) :Ag P w K mg base 1 t.f_28 ["_law_signs","_law_many"] (Do):=by
 refine Aw T.d_28 MD (λ_ _ _ _ _ _=>b2 λ_ _=>rfl) λvs H Q E h=>?_;obtain⟨g,m,rfl,g2,g9,m0,m3,q⟩:=h;refine⟨rfl,λcdv A outer s hr=>?_⟩
 refine⟨_,(AD (AR 2 MD AG)
  (AD (A9 PassesOwn.never rfl (Ax rfl T.z_range (AA (pv 1) AB)) (BK 3 MD) (AE (AR 2 MD (AJ Cr (pv 2) (pv 0)))))
  (AE (AL (pv 2))))),?_⟩
 walk_at "rd";refine⟨_,rfl,m,rfl,by lia,by lia,?_⟩;refine CI (n:=m.toNat) (λi σ H1=>∃x,σ=[some (.int g),some (.int m),some (.int (g^i)),x]/\H1=H) ⟨none,by rw[Wn],rfl⟩ ?_ ?_
 ·rintro i σ H1 hi ⟨x,rfl,rfl⟩;walk_at "rd";refine⟨.inr ⟨by lia,by lia⟩,?_⟩;rw[Wg];exact⟨rfl,_,rfl⟩
 ·rintro σ H1 ⟨x,rfl,rfl⟩;walk_at "rd";exact q
theorem Fa:AK ["_law_shape","_law_way","_law_cell","_law_signs","_law_size","_law_part","_law_xs","_law_table","_law_at"] ["_law_shape","_law_way","_law_cell"] (AH SR):=B0 (by decide +kernel)
theorem Uk(T:Bz K mg t)(G_28:Ag P w K mg base 1 t.f_28 ["_law_signs","_law_many"] (Do))(G_19:Ag P w K mg base 1 t.f_19 ["_law_cell","_law_many"] (Gn)):Ag P w K mg base 2 t.f_39 ["_law_shape","_law_way","_law_cell"] (HU):=by
 refine Aw T.d_39 Fa (λ_ _ _ _ _ _=>b3 λ_ _ _=>rfl) λvs H Q E h=>?_;obtain⟨b,g,w,c,m,rfl,hb,sh,q⟩:=h;refine⟨rfl,λcdv A outer s hr=>?_⟩
 refine⟨_,(Ey.out (Ab (A3 (i:=3) Fa.nd rfl (Or.inr rfl) (.of (AV Af (pv 0) AG (λ_ _=>rfl))) rfl (by first|exact .inl rfl|exact .inr rfl))
  (Ab (A3 (i:=4) Fa.nd rfl (Or.inl rfl) (.of (AT hr G_28 T.m_28 (AA (pv 3) (AA (AV Af (pv 0) AG (λ_ _=>rfl)) AB)))) rfl (by first|exact .inl rfl|exact .inr rfl))
  (Ab (A3 (i:=5) Fa.nd rfl (Or.inr rfl) (.of (AJ Ar (pv 4) (pv 3))) rfl (by first|exact .inl rfl|exact .inr rfl))
  (Ab (A3 (i:=6) Fa.nd rfl (Or.inr rfl) (.of (AT hr G_19 T.m_19 (AA (pv 2) (Ah AB)))) rfl (by first|exact .inl rfl|exact .inr rfl))
  (Ab (ED (AN B7 (pv 1) AG (AS _)) (Bs (.of (Ks (iy:=7) (ig:=3) rfl Fa.nd rfl rfl rfl rfl (BQ Bg (pv 6) Bm (Bb (pv 4))) (by with_unfolding_all rfl) (by with_unfolding_all rfl) (by with_unfolding_all rfl) (by decide +kernel) rfl (by decide +kernel) rfl (by with_unfolding_all rfl)))) (Bs (ED (AN B7 (AJ Aj (pv 1) AG) AG (AS _)) (Bs (.of (FG (iy:=7) (fv:=[(6,"_law_xs"),(3,"_law_signs")]) (cl:=[("_law_xs",_),("_law_signs",_)]) rfl Fa.nd rfl (Or.inl rfl) (Ax rfl T.z_range (AA (pv 4) AB)) (by with_unfolding_all rfl) (by with_unfolding_all rfl) (by decide +kernel) rfl (by decide +kernel) rfl ⟨(by with_unfolding_all rfl),⟨(by with_unfolding_all rfl),trivial⟩⟩ (by with_unfolding_all rfl) ⟨⟨rfl,rfl,(by with_unfolding_all rfl),rfl⟩,⟨⟨rfl,rfl,(by with_unfolding_all rfl),rfl⟩,trivial⟩⟩ (by decide) (λ_ _ _ _=>Bx) (λ_ _ _ _=>(AJ Aj (AJ A8 (AV (Cu (K:=K) rfl) (pv 1) (AJ Ar (pv 0) (pv 2)) (λ_ _=>rfl)) (AJ Aj (pv 0) (pv 2))) (pv 2)))))) (Bs (.of (FG (iy:=7) (fv:=[(6,"_law_xs"),(3,"_law_signs"),(5,"_law_part")]) (cl:=[("_law_xs",_),("_law_signs",_),("_law_part",_)]) rfl Fa.nd rfl (Or.inl rfl) (Ax rfl T.z_range (AA (pv 4) AB)) (by with_unfolding_all rfl) (by with_unfolding_all rfl) (by decide +kernel) rfl (by decide +kernel) rfl ⟨(by with_unfolding_all rfl),⟨(by with_unfolding_all rfl),⟨(by with_unfolding_all rfl),trivial⟩⟩⟩ (by with_unfolding_all rfl) ⟨⟨rfl,rfl,(by with_unfolding_all rfl),rfl⟩,⟨⟨rfl,rfl,(by with_unfolding_all rfl),rfl⟩,⟨⟨rfl,rfl,(by with_unfolding_all rfl),rfl⟩,trivial⟩⟩⟩ (by decide) (λ_ _ _ _=>Bx) (λ_ _ _ _=>(AJ Aj (AJ A8 (AV (Cu (K:=K) rfl) (pv 1) (AJ Aj (pv 0) (pv 3)) (λ_ _=>rfl)) (AJ Ar (pv 0) (pv 3))) (pv 2)))))))))
  (Ab (ED (AN Cs (pv 1) AG (AS _)) (Ab (A3 (i:=8) Fa.nd rfl (Or.inl rfl) (.of (AJ Aj (AV Ay (pv 6) (JU Gc AG) (λ_ _=>rfl)) (pv 4))) rfl (by first|exact .inl rfl|exact .inr rfl))
  (Bs (.of (NJ (AJ Aj (AJ A8 (AJ A8 (AV Ay (pv 7) (pv 8) (λ_ _=>rfl)) AG) (AJ Aj (AV Ay (pv 6) (JU Gc AG) (λ_ _=>rfl)) (AJ BZ (pv 3) AG))) (pv 3)) (NH (pv 7) (pv 8) Ja))))) EV)
  (Bs (.of (AL (Dh (AA (pv 3) (AA (AJ BZ (AJ Aj (AV Ay (pv 6) (JU Gc AG) (λ_ _=>rfl)) AG) AG) (AA (BS DJ rfl T.z_tuple YI (AA (pv 7) AB)) AB)))))))))))))),?_⟩
 obtain⟨g2,g6,m1,m4,s36,s9⟩:=sh;have gp:=RW.Ap g2 m;have gp1:=RW.Ap g2 (m-1);have gm:g^(m-1)*g=g^m:=by rw[<-Wg,show (m-1).succ=m by lia]
 refine BC λN hN=>?_;walk_at "rd";refine⟨b,_,0,_,rfl,rfl,Ba.of hb,rfl,hN _ _ ?_⟩;clear hN N;refine BC λN hN=>?_;walk_at "rd";refine⟨b,_,1,_,rfl,rfl,Ba.of hb,rfl,g,_,rfl,g2,by lia,by lia,by lia,hN _ _ ?_⟩;clear hN N;rw[WS];refine BC λN hN=>?_;walk_at "rd";refine⟨by lia,by lia,hN _ _ ?_⟩;clear hN N;rw[<-gm,Int.mul_ediv_cancel _ (show g≠0 by lia),gm];refine BC λN hN=>?_;walk_at "rd";refine⟨_,60,rfl,by decide,by decide,λpx H1 xs xl e1 n1 h1=>hN _ _ ?_⟩;clear hN N;have xl60:xs.length=60:=xl;have sz:((g^m).toNat:Int)=g^m:=by lia
 refine B2 (λσ HX=>∃(pt:Addr) (tab:List Int),σ=[some (.ref b),some (.int w),some (.int c),some (.int g),some (.int (g^m)),some (.int (g^(m-1))),some (.ref px),some (.ref pt),none]/\FI H1 HX pt tab/\tab.length=(g^m).toNat/\∀n∈tab,0<=n/\n<g) (λN hN=>?_) ?_
 ·walk_at "rd"
  by_cases w0:w=0
  ·rw[if_pos w0];refine⟨by lia,CJ (Ac.of h1) λp2 H2 e2 _ h2=>⟨p2,rfl,DM xs none (some (g^m)),?_,λp hp=>hN _ _ ⟨p,_,rfl,⟨e2.trans (AF.new hp _),e2.free hp,AC⟩,?_,Pa g2 _⟩⟩⟩
   ·rw[B9]at h2;exact Ac.of h2
   ·rw[WD];exact JP (by lia) (by lia)
  rw[if_neg w0];refine⟨by decide,?_⟩
  by_cases w1:w%2=1
  ·rw[if_pos w1];refine⟨_,rfl,_,rfl,by lia,by lia,λD hD=>?_⟩;refine BH (n:=(g^m).toNat) (λi acc Hx=>Om g i acc/\AF H1 Hx/\Hx D=some (.lst acc)) ⟨Om.nil,AF.new hD _,AC⟩ ?_ ?_
   ·rintro i acc Hx hi ⟨sg,ex,hDx⟩;have d0:0<=(i:Int)/g:=Xw (by lia) (by lia);have d1:(i:Int)/g<=i:=Int.ediv_le_self g (by lia);walk_at "rd";rw[Wv];exact⟨by lia,by lia,px,_,_,_,rfl,rfl,Ac.of (ex _ _ h1),DP d0 (by lia),by lia,_,rfl,by lia,hDx,sg.len (by lia),sg.snoc g2 _,ex.into hD,AC⟩
   ·rintro acc H2 ⟨⟨us,rfl,ul,ub⟩,e2,h2⟩;exact hN _ _ ⟨D,us,rfl,⟨e2,hD,h2⟩,ul,ub⟩
  rw[if_neg w1];refine⟨_,rfl,_,rfl,by lia,by lia,λD hD=>?_⟩;refine BH (n:=(g^m).toNat) (λi acc Hx=>Om g i acc/\AF H1 Hx/\Hx D=some (.lst acc)) ⟨Om.nil,AF.new hD _,AC⟩ ?_ ?_
  ·rintro i acc Hx hi ⟨sg,ex,hDx⟩;have d0:=W2 (i:Int) (show g^(m-1)≠0 by lia);have d1:=Wu (i:Int) gp1;walk_at "rd";rw[Wv];exact⟨by lia,px,_,_,_,rfl,rfl,Ac.of (ex _ _ h1),DP d0 (by lia),by lia,by lia,_,rfl,by lia,hDx,sg.len (by lia),sg.snoc g2 _,ex.into hD,AC⟩
  ·rintro acc H2 ⟨⟨us,rfl,ul,ub⟩,e2,h2⟩;exact hN _ _ ⟨D,us,rfl,⟨e2,hD,h2⟩,ul,ub⟩
 rintro σ H2 ⟨pt,tab,rfl,n2,tl,tb⟩;have hx2:=n2.1 _ _ h1;refine B2 (λσ HX=>∃x8 tab,σ=[some (.ref b),some (.int w),some (.int c),some (.int g),some (.int (g^m)),some (.int (g^(m-1))),some (.ref px),some (.ref pt),x8]/\FI H1 HX pt tab/\tab.length=(g^m).toNat/\∀n∈tab,0<=n/\n<g) (λN hN=>?_) ?_
 ·walk_at "rd"
  by_cases w2:2<w
  ·rw[if_pos w2];refine⟨px,_,-1,_,rfl,rfl,Ac.of hx2,JO 1 (by decide) (by lia),?_⟩;have d0:=W2 (xs.getD (xs.length-1) 0) (show g^m≠0 by lia);have d1:=Wu (xs.getD (xs.length-1) 0) gp;refine⟨_,rfl,gp,?_⟩;generalize xs.getD (xs.length-1) 0%g^m=j at d0 d1⊢;obtain⟨k,rfl⟩:∃k:Nat,j=(k:Int):=⟨j.toNat,by lia⟩;have kl:k<tab.length:=by lia
   refine⟨pt,_,_,_,rfl,rfl,Ac.of n2.2.2,DX kl,_,rfl,px,_,-2,_,rfl,rfl,Ac.of hx2,JO 2 (by decide) (by lia),_,rfl,by lia,by lia,?_⟩;refine⟨_,rfl,_,rfl,pt,_,_,k,rfl,rfl,n2.2.2,(by rw[WD];exact GQ kl),hN _ _ ⟨_,tab.set k ((tab.getD k 0+1+xs.getD (xs.length-2) 0%(g-1))%g),rfl,⟨n2.1.into n2.2.1,n2.2.1,by rw[AC,List.map_set]⟩,by rw[Xv];exact tl,λn hn=>?_⟩⟩;rcases List.mem_or_eq_of_mem_set hn with z|rfl
   ·exact tb n z
   ·exact⟨W2 _ (by lia),Wu _ (by lia)⟩
  rw[if_neg w2];exact hN _ _ ⟨_,tab,rfl,n2,tl,tb⟩
 clear tl tb n2 hx2;rintro σ H3 ⟨x8,tab',rfl,n3,tl,tb⟩;walk_at "rd";refine⟨px,_,-3,_,rfl,rfl,Ac.of (n3.1 _ _ h1),JO 3 (by decide) (by lia),_,rfl,by decide,_,.inl ⟨Ac.of n3.2.2,λl hl=>⟨by decide,λp9 hp9=>?_⟩⟩⟩;have f8:=AF.new hl (.tup (tab'.map V.int));have f9:=AF.new hp9 (.tup [.int g,.int (xs.getD (xs.length-3) 0%7-3),.ref l]);exact q p9 _ tab' _ (((e1.trans n3.1).trans f8).trans f9) ⟨⟨l,AC,f9 _ _ AC⟩,g2,by lia,m1,by lia,by lia,by lia,tb⟩
theorem GD:AK ["_law_one","_law_signs","_law_table","_law_heads"] ["_law_one"] (AH SS):=B0 (by decide +kernel)
theorem Ul(T:Bz K mg t) :Ag P w K mg base 1 t.f_25 ["_law_one"] (Df):=by
 refine Aw T.d_25 GD (λ_ _ _ _ _ _=>b1 λ_=>rfl) λvs H Q E h=>?_;obtain⟨r,g,lo,tab,m,rfl,ok,q⟩:=h;refine⟨rfl,λcdv A outer s hr=>?_⟩
 refine⟨_,(AD (AR 1 GD (AV Af (pv 0) AG (λ_ _=>rfl)))
  (AD (AR 2 GD (BS BV rfl T.z_list Wr (AA (AV Af (pv 0) AG (λ_ _=>rfl)) AB)))
  (AD (B6 PassesOwn.never (PW.pt (Ga (AN Cs (AU AM rfl T.z_len Wa (AA (pv 2) AB)) (pv 1) (AS _)) (GM (AN (Nj hr.units) (pv 2) (AJ Kp (BQ Bg (pv 2) Bm (Bb (AJ Ar (AU AM rfl T.z_len Wa (AA (pv 2) AB)) (pv 1)))) (pv 1)) (AS _))))) (AE (AR 2 GD (BQ Bg (pv 2) Bm (Bb (AJ Ar (AU AM rfl T.z_len Wa (AA (pv 2) AB)) (pv 1)))))))
  (AD (FG (iy:=3) (fv:=[(2,"_law_table"),(1,"_law_signs")]) (cl:=[("_law_table",_),("_law_signs",_)]) rfl GD.nd rfl (Or.inl rfl) (Ax rfl T.z_range (AA (AU AM rfl T.z_len Wa (AA (pv 2) AB)) AB)) (by with_unfolding_all rfl) (by with_unfolding_all rfl) (by decide +kernel) rfl (by decide +kernel) rfl ⟨(by with_unfolding_all rfl),⟨(by with_unfolding_all rfl),trivial⟩⟩ (by with_unfolding_all rfl) ⟨⟨rfl,rfl,(by with_unfolding_all rfl),rfl⟩,⟨⟨rfl,rfl,(by with_unfolding_all rfl),rfl⟩,trivial⟩⟩ (by decide) (λ_ _ _ _=>Bx) (λ_ _ _ _=>(AV (Cu (K:=K) rfl) (pv 1) (AJ BZ (pv 0) (AJ Aj (pv 0) (pv 2))) (λ_ _=>rfl))))
  (AD (B6 PassesOwn.never (PW.pt (Ga (AN Cs (AU AM rfl T.z_len Wa (AA (pv 2) AB)) (pv 1) (AS _)) (GM (AN (Nj hr.units) (pv 2) (pv 3) (AS _))))) (AD (IW (i:=2) GD.nd rfl (Or.inr rfl) (Db [(2,"_law_table")] [("_law_table",_)] (Mc rfl T.z_range (Ah (AA (AU AM rfl T.z_len Wa (AA (pv 2) AB)) (AA (pv 1) AB)))) (λ_ _ _ _=>Bx) (λ_ _ _ _=>(AV (Cu (K:=K) rfl) (pv 1) (pv 0) (λ_ _=>rfl)))) (hs:=by with_unfolding_all rfl))
  (AE (FG (iy:=3) (fv:=[(2,"_law_table"),(1,"_law_signs")]) (cl:=[("_law_table",_),("_law_signs",_)]) rfl GD.nd rfl (Or.inl rfl) (Ax rfl T.z_range (AA (AU AM rfl T.z_len Wa (AA (pv 2) AB)) AB)) (by with_unfolding_all rfl) (by with_unfolding_all rfl) (by decide +kernel) rfl (by decide +kernel) rfl ⟨(by with_unfolding_all rfl),⟨(by with_unfolding_all rfl),trivial⟩⟩ (by with_unfolding_all rfl) ⟨⟨rfl,rfl,(by with_unfolding_all rfl),rfl⟩,⟨⟨rfl,rfl,(by with_unfolding_all rfl),rfl⟩,trivial⟩⟩ (by decide) (λ_ _ _ _=>Bx) (λ_ _ _ _=>(AV (Cu (K:=K) rfl) (pv 1) (AJ BZ (pv 0) (AJ Aj (pv 0) (pv 2))) (λ_ _=>rfl)))))))
  (AD (Av (AN B7 (AU AM rfl T.z_len Wa (AA (pv 2) AB)) (pv 1) (AS _)) (AE (IW (i:=2) GD.nd rfl (Or.inr rfl) (Db [(2,"_law_table"),(1,"_law_signs")] [("_law_table",_),("_law_signs",_)] (Ax rfl T.z_range (AA (AJ Cr (pv 1) (pv 1)) AB)) (λ_ _ _ _=>Bx) (λ_ _ _ _=>(AV (Cu (K:=K) rfl) (pv 1) (AJ Ar (pv 0) (pv 2)) (λ_ _=>rfl)))) (hs:=by with_unfolding_all rfl))) AX)
  (AE (AL (pv 2))))))))),?_⟩
 obtain⟨tb,h1,h2⟩:=id ok.v;have g2:=ok.g2;have g9:=ok.g9;have hl:=ok.len;have m1:=ok.m1;have m8:=ok.m8;refine BC λN hN=>?_;walk_at "rd";refine⟨r,_,0,_,rfl,rfl,Ba.of h1,rfl,hN _ _ ?_⟩;clear hN N;refine BC λN hN=>?_;walk_at "rd";refine⟨r,_,2,_,rfl,rfl,Ba.of h1,rfl,tb,rfl,_,.inr (Ba.of h2),λp hp=>hN _ _ ?_⟩;clear hN N;have gn:((g.toNat:Nat):Int)=g:=by lia
 have c0:Ei g lo tab m lo tab m:=⟨m1,WM _,hl,ok.tb,λ_ _=>rfl⟩;refine B2 (λσ HX=>∃(p:Addr) (lo':Int) (tab':List Int) (m':Nat),σ=[some (.ref r),some (.int g),some (.ref p),none]/\AF H HX/\HX p=some (.lst (tab'.map V.int))/\Ei g lo tab m lo' tab' m'/\(2<=m'->A4 g tab' (g^(m'-1))=true)) (λN hN=>?_) ?_
 ·refine D4 (λσ HX=>∃(p:Addr) (lo':Int) (tab':List Int) (m':Nat),σ=[some (.ref r),some (.int g),some (.ref p),none]/\AF H HX/\HX p=some (.lst (tab'.map V.int))/\Ei g lo tab m lo' tab' m')
   (λ(σ:St) (HX:Hp)=>match σ[2]? with|some (some (V.ref d))=>(match HX d with|some (.lst xs)=>xs.length|_=>0)|_=>0) ⟨p,lo,tab,m,rfl,AF.new hp _,AC,c0⟩ ?_ ?_
  ·rintro σ HX ⟨p,lo',tab',m',rfl,eX,hpX,c⟩;have hh:=c.half g2;have cl:=c.len;have g1:g^1=g:=by rw[Wg,Wn,XT]
   have hlm:(tab'.map V.int).length=tab'.length:=WD ..;have hsz:tab'.length<=256:=by have:=Bc g2 c.le;have:=ok.sz;lia
   have e:(((tab'.map V.int).length:Nat):Int)/g=((tab'.length/g.toNat:Nat):Int):=by rw[hlm,XC,gn]
   walk_at "rd";refine⟨_,.inl (Ac.of hpX),?_⟩
   by_cases z:g<(((tab'.map V.int).length:Nat):Int)
   ·rw[if_pos z]
    have m2:2<=m':=by
     have m1:=c.m1
     by_cases y:m'=1
     ·subst y;lia
     ·lia
    refine⟨_,.inl (Ac.of hpX),by lia,by lia,?_⟩;rw[e];refine CJ (Ac.of hpX) λp2 H2 e2 _ h2'=>?_;rw[Iq,<-List.map_take]at h2';refine Nz h2' (by lia) (by lia) ?_ λp3 H3 e3 _ h3=>?_
    ·rw[WD,Wp];have:=hh.2;have:tab'.length/g.toNat<=tab'.length:=YZ ..;have:min (tab'.length/g.toNat) tab'.length*g.toNat<=tab'.length:=by rw[Nat.min_eq_left this];lia
     lia
    rw[<-List.map_replicate,<-List.map_flatten]at h3;have e23:=e2.trans e3;refine⟨p3,rfl,tab',Ac.of (e23 _ _ hpX),_,Ac.of h3,?_⟩
    by_cases y:tab'=(List.replicate g.toNat (tab'.take (tab'.length/g.toNat))).flatten
    ·rw[if_pos y];refine⟨_,.inl (Ac.of (e23 _ _ hpX)),by lia,by lia,?_⟩;rw[e];refine CJ (Ac.of (e23 _ _ hpX)) λp4 H4 e4 _ h4=>?_;rw[Iq,<-List.map_take]at h4;have c2:=c.first g2 m2 y;refine⟨⟨p4,rfl,(eX.trans e23).trans e4,lo'+1,_,h4,_,c2⟩,?_⟩;dsimp only;rw[h4,hpX];show ((tab'.take _).map V.int).length<(tab'.map V.int).length;rw[WD,Wp,hlm];have:tab'.length/g.toNat<tab'.length:=Nat.div_lt_self (by lia) (by lia);lia
    ·rw[if_neg y];exact hN _ _ ⟨p,lo',tab',m',rfl,eX.trans e23,e23 _ _ hpX,c,λ_=>c.first_counts g2 y⟩
   ·rw[if_neg z];refine hN _ _ ⟨p,lo',tab',m',rfl,eX,hpX,c,λm2=>?_⟩;have:=Ip g2 (show 1<m' by lia);lia
  ·intro σ H1 Q1 Q2 hq;walk_at "rd";rintro⟨v,h1,p,e1,x,h2,v2,h3,x1,e3,hh⟩;refine⟨v,h1,p,e1,x,h2,v2,h3,x1,e3,?_⟩
   by_cases z:x1<(x.length:Int)
   ·rw[if_pos z]at hh⊢;obtain⟨a1,b1,a2,b2,a3,b3,p4,b4,x4,b5,a6,b6,x7,b7,y1,y2,s1,s2,s3,s4,hh⟩:=hh;refine⟨a1,b1,a2,b2,a3,b3,p4,b4,x4,b5,a6,b6,x7,b7,y1,y2,s1,s2,s3,s4,λq hq2=>?_⟩;obtain⟨a8,b8,l,k,xs,c1,c2,c3,c4,c5,c6,hh⟩:=hh q hq2;refine⟨a8,b8,l,k,xs,c1,c2,c3,c4,c5,c6,λq2 hq3=>?_⟩;obtain⟨d1,d2,d3,d4,d5,d6,d7,d8,hh⟩:=hh q2 hq3;exact⟨d1,d2,d3,d4,d5,d6,d7,d8,hq _ _ hh⟩
   ·rw[if_neg z]at hh⊢;exact hq _ _ hh
 clear c0 hp;rintro σ HX ⟨p,lo',tab',m',rfl,eX,hpX,c,k0⟩;have hsz:tab'.length<=256:=by have:=Bc g2 c.le;have:=ok.sz;have:=c.len;lia
 refine BC λN hN=>?_;refine⟨_,rfl,p,_,rfl,.inl (Ac.of hpX),_,rfl,by rw[WD];lia,by rw[WD];lia,λD hD=>?_⟩;rw[WD];refine BH (n:=tab'.length) (λi acc Hx=>acc=((List.range i).map λk=>tab'.getD (k-k%g.toNat) 0).map V.int/\AF HX Hx/\Hx D=some (.lst acc)) ⟨rfl,AF.new hD _,AC⟩ ?_ ?_
 ·rintro i acc Hx hi ⟨rfl,ex,hDx⟩;have ei:(0+(i:Int))-(0+(i:Int))%g=((i-i%g.toNat:Nat):Int):=by have:=Nat.mod_le i g.toNat;rw[Wv,Int.natCast_sub this,Xa,gn]
  walk_at "rd";rw[ei];refine⟨by lia,p,_,_,_,rfl,rfl,Ac.of (ex _ _ hpX),DX (by lia),hDx,?_,?_,ex.into hD,AC⟩
  ·rw[WD,WD,WV];exact AQ (by lia)
  ·rw[Ak,WN];rfl
 rintro acc H5 ⟨rfl,e5,h5⟩;refine hN _ _ ?_;clear hN N hsz;refine B2 (λσ HX=>∃(p:Addr) (x4:Option V) (lo':Int) (tab':List Int) (m':Nat),σ=[some (.ref r),some (.int g),some (.ref p),x4]/\AF H HX/\HX p=some (.lst (tab'.map V.int))/\Ei g lo tab m lo' tab' m'/\(2<=m'->A4 g tab' (g^(m'-1))=true/\A4 g tab' 1=true)) (λN hN=>?_) ?_
 ·refine D4 (λσ HX=>∃(p q:Addr) (lo':Int) (tab':List Int) (m':Nat),σ=[some (.ref r),some (.int g),some (.ref p),some (.ref q)]/\AF H HX/\HX p=some (.lst (tab'.map V.int))/\HX q=some (.lst (((List.range tab'.length).map λk=>tab'.getD (k-k%g.toNat) 0).map V.int))/\Ei g lo tab m lo' tab' m'/\(2<=m'->A4 g tab' (g^(m'-1))=true))
   (λ(σ:St) (HX:Hp)=>match σ[2]? with|some (some (V.ref d))=>(match HX d with|some (.lst xs)=>xs.length|_=>0)|_=>0) ⟨p,_,lo',tab',m',rfl,eX.trans e5,e5 _ _ hpX,h5,c,k0⟩ ?_ ?_
  ·clear k0 c h5 e5 hpX eX;rintro σ HX ⟨p,q',lo',tab',m',rfl,eX,hpX,hqX,c,k0⟩;have hh:=c.half g2;have cl:=c.len;have g1:g^1=g:=by rw[Wg,Wn,XT]
   have hlm:(tab'.map V.int).length=tab'.length:=WD ..;have hsz:tab'.length<=256:=by have:=Bc g2 c.le;have:=ok.sz;lia
   walk_at "rd";refine⟨_,.inl (Ac.of hpX),?_⟩
   by_cases z:g<(((tab'.map V.int).length:Nat):Int)
   ·rw[if_pos z]
    have m2:2<=m':=by
     have m1:=c.m1
     by_cases y:m'=1
     ·subst y;lia
     ·lia
    refine⟨tab',Ac.of hpX,_,Ac.of hqX,?_⟩
    by_cases y:tab'=(List.range tab'.length).map λk=>tab'.getD (k-k%g.toNat) 0
    ·rw[if_pos y];have c2:=c.last g2 m2 y;have s2:2<=m'-1->_:=λm3=>c.stays g2 (by lia) y (k0 m2)
     have hpos:1<=tab'.length/g.toNat:=by have:=RW.Ap g2 (m'-1);lia
     refine⟨_,rfl,p,rfl,_,.inl (Ac.of hpX),_,rfl,0,_,g,rfl,⟨by decide,by decide,by lia,by lia,by lia,by lia⟩,λD hD=>?_⟩;rw[hlm,Pr g2 hh.2 hpos];have hle:tab'.length/g.toNat<=tab'.length:=YZ ..;refine Js (lo:=0) (c:=g) (n:=tab'.length/g.toNat) (λi acc Hx=>acc=((List.range i).map λk=>tab'.getD (k*g.toNat) 0).map V.int/\AF HX Hx/\Hx D=some (.lst acc)) ⟨rfl,AF.new hD _,AC⟩ ?_ ?_
     ·rintro i acc Hx hi ⟨rfl,ex,hDx⟩;have ei:0+(i:Int)*g=((i*g.toNat:Nat):Int):=by rw[Wv,Xx,gn]
      have il:i*g.toNat<tab'.length:=by have:=Nat.mul_lt_mul_of_pos_right hi (show 0<g.toNat by lia);lia
      walk_at "rd";rw[ei];refine⟨p,_,_,_,rfl,rfl,Ac.of (ex _ _ hpX),DX il,hDx,?_,?_,ex.into hD,AC⟩
      ·rw[WD,WD,WV];exact AQ (by lia)
      ·rw[Ak,WN];rfl
     rintro acc H6 ⟨rfl,e6,h6⟩
     have ll:((List.range (tab'.length/g.toNat)).map λk=>tab'.getD (k*g.toNat) 0).length<tab'.length:=by rw[WD,WV];exact Nat.div_lt_self (by lia) (by lia)
     obtain⟨T2,hT2⟩:∃T2,T2=(List.range (tab'.length/g.toNat)).map λk=>tab'.getD (k*g.toNat) 0:=⟨_,rfl⟩
     rw[<-hT2]at h6 c2 s2 ll;refine⟨_,rfl,D,rfl,_,.inl (Ac.of h6),_,rfl,by rw[WD];lia,by rw[WD];lia,λD2 hD2=>?_⟩;rw[WD];refine BH (n:=T2.length) (λi acc Hx=>acc=((List.range i).map λk=>T2.getD (k-k%g.toNat) 0).map V.int/\AF H6 Hx/\Hx D2=some (.lst acc)) ⟨rfl,AF.new hD2 _,AC⟩ ?_ ?_
     ·rintro i acc Hx hi ⟨rfl,ex,hDx⟩;have ei:(0+(i:Int))-(0+(i:Int))%g=((i-i%g.toNat:Nat):Int):=by have:=Nat.mod_le i g.toNat;rw[Wv,Int.natCast_sub this,Xa,gn]
      walk_at "rd";rw[ei];refine⟨by lia,D,_,_,_,rfl,rfl,Ac.of (ex _ _ h6),DX (by lia),hDx,?_,?_,ex.into hD2,AC⟩
      ·rw[WD,WD,WV];exact AQ (by lia)
      ·rw[Ak,WN];rfl
     rintro acc H7 ⟨rfl,e7,h7⟩;refine⟨⟨D,rfl,D2,rfl,(eX.trans e6).trans e7,lo',T2,e7 _ _ h6,h7,_,c2,s2⟩,?_⟩;dsimp only;rw[e7 _ _ h6,hpX];show (T2.map V.int).length<(tab'.map V.int).length;rw[WD,hlm];exact ll
    ·rw[if_neg y];exact hN _ _ ⟨p,_,lo',tab',m',rfl,eX,hpX,c,λ_=>⟨k0 m2,c.last_counts g2 y⟩⟩
   ·rw[if_neg z];refine hN _ _ ⟨p,_,lo',tab',m',rfl,eX,hpX,c,λm2=>?_⟩;have:=Ip g2 (show 1<m' by lia);lia
  ·intro σ H1 Q1 Q2 hq;walk_at "rd";rintro⟨v,h1,p,e1,x,h2,v2,h3,x1,e3,hh⟩;refine⟨v,h1,p,e1,x,h2,v2,h3,x1,e3,?_⟩
   by_cases z:x1<(x.length:Int)
   ·rw[if_pos z]at hh⊢;obtain⟨a1,b1,a2,b2,a3,b3,a4,b4,a5,b5,a6,b6,hh⟩:=hh;exact⟨a1,b1,a2,b2,a3,b3,a4,b4,a5,b5,a6,b6,hq _ _ hh⟩
   ·rw[if_neg z]at hh⊢;exact hq _ _ hh
 clear k0 c h5 e5 hpX eX;rintro σ HX ⟨p,x4,lo',tab',m',rfl,eX,hpX,c,k0⟩;refine B2 (λσ HX=>∃(p:Addr) (x4:Option V) (lf:Int) (tf:List Int) (mf:Nat),σ=[some (.ref r),some (.int g),some (.ref p),x4]/\AF H HX/\HX p=some (.lst (tf.map V.int))/\Aq g lo tab m lf tf mf/\(tf.length:Int)=g^mf/\mf<=8) (λN hN=>?_) ?_
 ·have cl:=c.len;have g1:g^1=g:=by rw[Wg,Wn,XT]
  have hlm:(tab'.map V.int).length=tab'.length:=WD ..;walk_at "rd";refine⟨_,.inl (Ac.of hpX),?_⟩;rw[hlm]
  by_cases z:(tab'.length:Int)=g
  ·rw[if_pos z];have mf1:m'=1:=Ch g2 (by rw[g1,<-cl];exact z);have ggn:g*g=((g.toNat*g.toNat:Nat):Int):=by rw[Xx,gn]
   have gg0:0<=g*g:=Int.mul_nonneg (by lia) (by lia);have gg1:g*g<=9*9:=X5 g9 g9 (by lia) (by lia);refine⟨_,rfl,_,rfl,_,_,rfl,rfl,.inr ⟨by lia,by lia⟩,_,rfl,by lia,by lia,λD hD=>?_⟩;rw[show (g*g).toNat=g.toNat*g.toNat by rw[ggn,WS]];refine BH (n:=g.toNat*g.toNat) (λi acc Hx=>acc=((List.range i).map λk=>tab'.getD (k/g.toNat) 0).map V.int/\AF HX Hx/\Hx D=some (.lst acc)) ⟨rfl,AF.new hD _,AC⟩ ?_ ?_
   ·rintro i acc Hx hi ⟨rfl,ex,hDx⟩;have ei:(0+(i:Int))/g=((i/g.toNat:Nat):Int):=by rw[Wv,XC,gn]
    have il:i/g.toNat<tab'.length:=by have:=Xf hi;lia
    walk_at "rd";rw[ei];refine⟨by lia,by lia,p,_,_,_,rfl,rfl,Ac.of (ex _ _ hpX),DX il,hDx,?_,?_,ex.into hD,AC⟩
    ·rw[WD,WD,WV];exact AQ (by lia)
    ·rw[Ak,WN];rfl
   rintro acc H7 ⟨rfl,e7,h7⟩
   obtain⟨x,hx0,hx1⟩:∃x:Int,(tab'=List.replicate g.toNat (tab'.getD 0 0)->x=0)/\(¬tab'=List.replicate g.toNat (tab'.getD 0 0)->x=lo'):=by
    by_cases y:tab'=List.replicate g.toNat (tab'.getD 0 0)
    ·exact⟨0,λ_=>rfl,λne=>absurd y ne⟩
    ·exact⟨lo',λe=>absurd e y,λ_=>rfl⟩
   exact hN _ _ ⟨D,x4,x,_,2,rfl,eX.trans e7,h7,c.frame1 g2 hl mf1 x hx0 hx1,by rw[WD,WV,<-ggn,show (2:Nat)=1+1 from rfl,Wg,g1],by decide⟩
  ·rw[if_neg z]
   have m2:2<=m':=by
    have m1:=c.m1
    by_cases y:m'=1
    ·subst y;lia
    ·lia
   exact hN _ _ ⟨p,x4,lo',tab',m',rfl,eX,hpX,c.frame g2 hl m2 (k0 m2).1 (k0 m2).2,cl,Wm c.le m8⟩
 rintro σ H8 ⟨p',x4',lf,tf,mf,rfl,e8,h8,fw,tl,mf8⟩;walk_at "rd";exact q p' lf tf mf _ e8 fw h8 tl mf8
theorem Dz:AK ["_law_table","_law_signs","_law_some","_law_many","_law_begins","_law_k","_law_ends_here","_law_at","_law_found","_law_row","_law_number","_law_bit"] ["_law_table","_law_signs","_law_some"] (AH SU):=B0 (by decide +kernel)
theorem Um(T:Bz K mg t) :Ag P w K mg base 1 t.f_38 ["_law_table","_law_signs","_law_some"] (FW):=by
 refine Aw T.d_38 Dz (λ_ _ _ _ _ _=>b3 λ_ _ _=>rfl) λvs H Q E h=>?_;obtain⟨p,g,tab,x,rfl,hp,g2,g9,tl,h1,h9,tb,q⟩:=h;refine⟨rfl,λcdv A outer s hr=>?_⟩
 refine⟨_,(AD (AR 3 Dz (AJ Ar (AU AM rfl T.z_len Wa (AA (pv 0) AB)) (pv 1)))
  (AD (AR 4 Dz (BB AB))
  (AD (A9 PassesOwn.never rfl (Ax rfl T.z_range (AA (pv 3) AB)) (BK 5 Dz) (AD (A5 (By WT We Wf BD (pv 4) (AA (AJ Aj (pv 2) AG) AB)))
  (AE (AR 2 Dz (AJ Ar (pv 2) AG)))))
  (AD (FG (iy:=6) (fv:=[(3,"_law_many")]) (cl:=[("_law_many",_)]) rfl Dz.nd rfl (Or.inl rfl) (Ax rfl T.z_range (AA (pv 1) AB)) (by with_unfolding_all rfl) (by with_unfolding_all rfl) (by decide +kernel) rfl (by decide +kernel) rfl ⟨(by with_unfolding_all rfl),trivial⟩ (by with_unfolding_all rfl) ⟨⟨rfl,rfl,(by with_unfolding_all rfl),rfl⟩,trivial⟩ (by decide) (λ_ _ _ _=>Bx) (λ_ _ _ _=>(AJ Kp (BB (Ah AB)) (pv 1))))
  (AD (A9 PassesOwn.never rfl (Ax rfl T.z_range (AA (AU AM rfl T.z_len Wa (AA (pv 0) AB)) AB)) (BK 7 Dz) (AE (Av (AN B7 (AV Ay (pv 4) (AJ Ar (pv 7) (pv 1)) (λ_ _=>rfl)) AG (AS _)) (AE (NJ AG (NH (AV Ay (pv 6) (AV Ay (pv 0) (pv 7) (λ_ _=>rfl)) (λ_ _=>rfl)) (AJ Aj (pv 7) (pv 3)) Ja))) AX)))
  (AD (AR 8 Dz (BB AB))
  (AD (A9 PassesOwn.never rfl (BN (pv 6)) (BK 9 Dz) (AD (AR 10 Dz AG)
  (AD (A9 PassesOwn.never rfl (Ni rfl T.z_reversed (AA (pv 9) AB)) (BK 11 Dz) (AE (AR 10 Dz (AJ A8 (AJ Cr (pv 10) AG) (pv 11)))))
  (AE (A5 (By WT We Wf BD (pv 8) (AA (pv 10) AB)))))))
  (AE (AL (pv 8)))))))))),?_⟩
 have hlm:(tab.map V.int).length=tab.length:=WD ..;have gn:((g.toNat:Nat):Int)=g:=by lia
 have e:(((tab.map V.int).length:Nat):Int)/g=((tab.length/g.toNat:Nat):Int):=by rw[hlm,XC,gn]
 refine BC λN hN=>?_;walk_at "rd";refine⟨_,.inl (Ac.of hp),by lia,by lia,?_⟩;rw[e];refine hN _ _ ?_;clear hN N e;obtain⟨h,hh⟩:∃h,h=tab.length/g.toNat:=⟨_,rfl⟩;rw[<-hh]at tl h1 h9⊢;refine BC λN hN=>?_;walk_at "rd";refine⟨by decide,λb hb=>hN _ _ ?_⟩;clear hN N;refine B2 (λσ HX=>(∃x2 x5,σ=[some (.ref p),some (.int g),x2,some (.int ((h:Nat):Int)),some (.ref b),x5,none,none,none,none,none,none])/\AF H HX/\HX b=some (.lst (((List.range h).map λi:Nat=>x/2^i%2).map V.int))) (λN hN=>?_) ?_
 ·refine⟨_,rfl,_,rfl,by lia,by lia,?_⟩;rw[WS];refine CI (n:=h) (λi σ HX=>(∃x5,σ=[some (.ref p),some (.int g),some (.int (x/2^i)),some (.int ((h:Nat):Int)),some (.ref b),x5,none,none,none,none,none,none])/\AF H HX/\HX b=some (.lst (((List.range i).map λi:Nat=>x/2^i%2).map V.int))) ⟨⟨none,by rw[Wn,Int.ediv_one]⟩,AF.new hb _,AC⟩ ?_ ?_
  ·rintro i σ HX hi ⟨⟨x5,rfl⟩,eX,hX⟩;walk_at "rd";refine⟨.inl ⟨_,Ac.of hX⟩,by decide,_,hX,?_,by decide,by decide,M5 x i,⟨_,rfl⟩,eX.into hb,?_⟩
   ·rw[WD,WD,WV];exact AQ (by lia)
   ·rw[AC,Ak,WN];rfl
  ·rintro σ HX ⟨⟨x5,rfl⟩,eX,hX⟩;exact hN _ _ ⟨⟨_,_,rfl⟩,eX,hX⟩
 rintro σ H1 ⟨⟨x2,x5,rfl⟩,e1,b1⟩;refine B2 (λσ HX=>∃(pe:Addr) (ps:List Addr),σ=[some (.ref p),some (.int g),x2,some (.int ((h:Nat):Int)),some (.ref b),x5,some (.ref pe),none,none,none,none,none]/\AF H1 HX/\(∀y∈ps,H1 y=none)/\Cf HX pe ps g.toNat (λs=>C5 g.toNat tab h x (s:Int) 0)) (λN hN=>?_) ?_
 ·refine⟨_,rfl,_,rfl,by lia,by lia,λD hD=>?_⟩;refine BH (n:=g.toNat) (λi acc Hx=>∃ps:List Addr,acc=ps.map V.ref/\AF H1 Hx/\(∀y∈ps,H1 y=none)/\Cf Hx D ps i (λs=>C5 g.toNat tab h x (s:Int) 0)) ⟨[],rfl,AF.new hD _,λy hy=>absurd hy List.not_mem_nil,AC,rfl,List.nodup_nil,List.not_mem_nil,λs q hq=>by simp at hq⟩ ?_ ?_
  ·rintro i acc Hx hi ⟨ps,rfl,ex,pn,rv⟩;dsimp only[Mb];rw[if_pos rfl];refine⟨by decide,λp2 hp2=>⟨_,rfl,Lm AC (by lia) (by lia) λp3 H3 e3 n3 h3=>?_⟩⟩;have f2:=(AF.new hp2 (.lst [V.int 0])).trans e3;have n3':Hx p3=none:=(AF.new hp2 (.lst [V.int 0])).free n3;have rv3:=rv.same f2;refine⟨rv3.l,by rw[WD,rv.n];exact AQ (by lia),ps++[p3],by rw[WN];rfl,(ex.trans f2).into hD,λy hy=>?_,rv3.snoc ?_ ?_ ?_⟩
   ·rcases WK.mp hy with z|z
    ·exact pn y z
    ·rw[WE.mp z];exact ex.free n3'
   ·rw[h3,M4,List.map_replicate,WS]
   ·intro z;obtain⟨s,hs⟩:=EI z;rw[rv.e s _ hs]at n3';cases n3'
   ·intro z;rw[z,rv.l]at n3';cases n3'
  ·rintro acc H5 ⟨ps,rfl,e5,pn,rv⟩;exact hN _ _ ⟨D,ps,rfl,e5,pn,rv⟩
 rintro σ H2 ⟨pe,ps,rfl,e2,pn,rv⟩;have e12:=e1.trans e2;have hnp:∀y∈ps,H y=none:=λy hy=>e1.free (pn y hy)
 have pps:p∉ps:=λz=>by rw[hnp p z]at hp;cases hp
 have bps:b∉ps:=λz=>by rw[pn b z]at b1;cases b1
 refine B2 (λσ HX=>(∃x7,σ=[some (.ref p),some (.int g),x2,some (.int ((h:Nat):Int)),some (.ref b),x5,some (.ref pe),x7,none,none,none,none])/\AF H HX/\Cf HX pe ps g.toNat (λs=>C5 g.toNat tab h x (s:Int) (h*g.toNat))) (λN hN=>?_) ?_
 ·have tle:tab.length<=9*9:=by rw[tl];exact Nat.mul_le_mul h9 (by lia)
  refine⟨_,rfl,p,_,rfl,.inl (Ac.of (e12 _ _ hp)),_,rfl,by lia,by lia,?_⟩;rw[hlm];refine CI (n:=tab.length) (λi σ HX=>(∃x7,σ=[some (.ref p),some (.int g),x2,some (.int ((h:Nat):Int)),some (.ref b),x5,some (.ref pe),x7,none,none,none,none])/\AF H HX/\HX p=some (.lst (tab.map V.int))/\HX b=some (.lst (((List.range h).map λi:Nat=>x/2^i%2).map V.int))/\Cf HX pe ps g.toNat (λs=>C5 g.toNat tab h x (s:Int) i)) ⟨⟨none,rfl⟩,e12,e12 _ _ hp,e2 _ _ b1,rv⟩ ?_ ?_
  ·rintro i σ HX hi ⟨⟨x7,rfl⟩,eX,hpX,hbX,rX⟩;have ei:(0+(i:Int))/g=((i/g.toNat:Nat):Int):=by rw[Wv,XC,gn]
   have em:(0+(i:Int))%((h:Nat):Int)=((i%h:Nat):Int):=by rw[Wv,Xa]
   have il:i/g.toNat<h:=Xf (by rw[XI];lia);have ml:=YA i h1;have bg:((List.range h).map λi:Nat=>x/2^i%2).getD (i/g.toNat) 0=x/2^(i/g.toNat)%2:=AY il;obtain⟨t0,t1⟩:=Dq g2 tb i;obtain⟨s,hs⟩:∃s:Nat,tab.getD i 0=(s:Int):=⟨(tab.getD i 0).toNat,by lia⟩;have sg:s<g.toNat:=by lia
   obtain⟨q',hq'⟩:∃q',ps[s]?=some q':=⟨ps[s]'(by rw[rX.n];exact sg),WJ _⟩;walk_at "rd";rw[ei];refine⟨by lia,by lia,b,_,_,_,rfl,rfl,Ac.of hbX,DX (by rw[WD,WV];exact il),rfl,?_⟩;rw[bg]
   by_cases z2:x/2^(i/g.toNat)%2=1
   ·rw[if_pos (by rw[z2])];have qn:=hnp q' (WQ hq');have qm:=WQ hq';refine⟨_,rfl,_,rfl,_,rfl,p,_,_,_,rfl,rfl,Ac.of hpX,DP (by lia) (by lia),pe,_,_,V.ref q',rfl,rfl,Ac.of rX.l,?_,?_⟩
    ·rw[show (0+(i:Int)).toNat=i by lia,hs];exact C8 (by rw[WO,hq'];rfl)
    refine⟨_,rfl,_,rfl,_,_,rfl,rfl,by lia,q',_,_,i%h,rfl,rfl,rX.e s q' hq',?_,⟨_,rfl⟩,eX.into qn,by rw[AI λz=>pps (by rw[z];exact qm)];exact hpX,by rw[AI λz=>bps (by rw[z];exact qm)];exact hbX,?_⟩
    ·rw[em,WD];exact GQ (by rw[Dc];exact ml)
    ·have r2:=rX.set hq' ((C5 g.toNat tab h x (s:Int) i).set (i%h) 1);rw[List.map_set]at r2;refine r2.congr λk _=>?_
     by_cases ks:k=s
     ·rw[ks,if_pos rfl,Pw h1 hs z2]
     ·rw[if_neg ks];exact (KG λz=>ks (by have y:=hs.symm.trans z.1;lia)).symm
   ·rw[if_neg (λz=>z2 (V.int.inj z))];exact⟨⟨_,rfl⟩,eX,hpX,hbX,rX.congr λs _=>(KG λz=>z2 z.2).symm⟩
  ·rintro σ HX ⟨⟨x7,rfl⟩,eX,_,_,rX⟩;rw[tl]at rX;exact hN _ _ ⟨⟨_,rfl⟩,eX,rX⟩
 rintro σ H3 ⟨⟨x7,rfl⟩,e3,rv3⟩;refine BC λN hN=>?_;walk_at "rd";refine⟨by decide,λf hf=>hN _ _ ?_⟩;clear hN N;have e4:=AF.new hf (.lst []);refine B2 (λσ HX=>(∃x9 x10 x11,σ=[some (.ref p),some (.int g),x2,some (.int ((h:Nat):Int)),some (.ref b),x5,some (.ref pe),x7,some (.ref f),x9,x10,x11])/\AF H3 HX/\HX f=some (.lst ((AW g tab x).map V.int))) (λN hN=>?_) ?_
 ·refine⟨_,rfl,pe,rfl,⟨_,Ac.of (e4 _ _ rv3.l)⟩,?_⟩;refine BP (xs:=ps.map V.ref) (λi σ HX=>(∃x9 x10 x11,σ=[some (.ref p),some (.int g),x2,some (.int ((h:Nat):Int)),some (.ref b),x5,some (.ref pe),x7,some (.ref f),x9,x10,x11])/\AF H3 HX/\HX f=some (.lst (((List.range i).map λs:Nat=>DE g.toNat tab h x (s:Int)).map V.int))) ⟨⟨none,none,none,rfl⟩,e4,AC⟩ (λi σ HX _ z=>Ac.of (z.2.1 _ _ rv3.l)) ?_ ?_
  ·rintro i y σ HX hy ⟨⟨x9,x10,x11,rfl⟩,eX,hX⟩;rw[WO]at hy;obtain⟨q',hq',rfl⟩:=W5.mp hy;have hr:=eX _ _ (rv3.e i q' hq');have ig:i<g.toNat:=by rw[<-rv3.n];exact (WF.mp hq').1
   dsimp only[Cd];refine BC λN2 hN2=>?_;walk_at "rd";refine hN2 _ _ ?_;clear hN2 N2;refine B2 (λσ HY=>(∃x11,σ=[some (.ref p),some (.int g),x2,some (.int ((h:Nat):Int)),some (.ref b),x5,some (.ref pe),x7,some (.ref f),some (.ref q'),some (.int (DE g.toNat tab h x (i:Int))),x11])/\HY=HX) (λN2 hN2=>?_) ?_
   ·refine⟨_,rfl,q',_,rfl,Ac.of hr,?_⟩;refine Le (xs:=(C5 g.toNat tab h x (i:Int) (h*g.toNat)).map V.int) (λj σ HY=>(∃x11,σ=[some (.ref p),some (.int g),x2,some (.int ((h:Nat):Int)),some (.ref b),x5,some (.ref pe),x7,some (.ref f),some (.ref q'),some (.int (Bn 2 ((C5 g.toNat tab h x (i:Int) (h*g.toNat)).reverse.take j))),x11])/\HY=HX) ⟨⟨_,rfl⟩,rfl⟩ (λj σ HY _ z=>by rw[z.2];exact Ac.of hr) ?_ ?_
    ·rintro j y σ HY hy ⟨⟨x11,rfl⟩,rfl⟩;rw[<-X7]at hy;obtain⟨v,hv,rfl⟩:=Bj hy;walk_at "rd";refine⟨.inr ⟨by decide,by decide⟩,?_,⟨_,rfl⟩⟩;rw[Jm hv]
    ·rintro σ HY ⟨⟨x11,rfl⟩,rfl⟩;refine hN2 _ _ ⟨⟨x11,?_⟩,rfl⟩;rw[WD,<-XE,Wk,Px (by lia)]
   rintro σ HY ⟨⟨x11',rfl⟩,rfl⟩;walk_at "rd";refine⟨.inl ⟨_,Ac.of hX⟩,_,hX,?_,⟨_,rfl⟩,eX.into hf,?_⟩
   ·rw[WD,WD,WV];exact AQ (by lia)
   ·rw[AC,Ak,WN];rfl
  ·rintro σ HX ⟨⟨x9,x10,x11,rfl⟩,eX,hX⟩;rw[WD,rv3.n]at hX;exact hN _ _ ⟨⟨_,_,_,rfl⟩,eX,by rw[hX];unfold AW;rw[hh]⟩
 rintro σ H4 ⟨⟨x9,x10,x11,rfl⟩,eX,hX⟩;walk_at "rd";exact q f _ ⟨e3.trans eX,e3.free hf,hX⟩
theorem Ka:AK ["_law_one","_law_table","_law_layer","_law_met","_law_some"] ["_law_one"] (AH SW):=B0 (by decide +kernel)
theorem Uo(T:Bz K mg t)(G_25:Ag P w K mg base 1 t.f_25 ["_law_one"] (Df))(G_28:Ag P w K mg base 1 t.f_28 ["_law_signs","_law_many"] (Do))(G_38:Ag P w K mg base 1 t.f_38 ["_law_table","_law_signs","_law_some"] (FW)):Ag P w K mg base 2 t.f_40 ["_law_one"] (JM):=by
 refine Aw T.d_40 Ka (λ_ _ _ _ _ _=>b1 λ_=>rfl) λvs H Q E h=>?_;obtain⟨r,g,lo,tab,m,lf,tf,mf,rfl,ok,fw,s9,q⟩:=h;refine⟨rfl,λcdv A outer s hr=>?_⟩
 refine⟨_,(AD (AR 1 Ka (AT hr G_25 T.m_25 (AA (pv 0) AB)))
  (AD (AR 2 Ka (BB (AA (AJ BZ (AT hr G_28 T.m_28 (Ah (AA (AJ Ar (AU AM rfl T.z_len Wa (AA (pv 1) AB)) (AV Af (pv 0) AG (λ_ _=>rfl))) AB))) AG) AB)))
  (AD (AR 3 Ka Da)
  (AD (B6 PassesOwn.never (AN (Nk hr.units) (pv 2) (BB AB) (AS _)) (AD (AR 4 Ka (NX WT PySem.F.slot_list_pop PySem.F.type_list_pop NY (pv 2)))
  (AE (Av (En (CM (B3 hr) (pv 4) (pv 3))) (AD (FP (B3 hr) (pv 3) (pv 4) Bi rfl)
  (AE (A5 (By WT YB YC Fg (pv 2) (AA (AT hr G_38 T.m_38 (AA (pv 1) (AA (AV Af (pv 0) AG (λ_ _=>rfl)) (AA (pv 4) AB)))) AB))))) AX))))
  (AE (AL (BS (GL rfl) rfl T.z_list Wr (AA (pv 3) AB)))))))),?_⟩
 have g2:=ok.g2;have g9:=ok.g9;obtain⟨hn,hl⟩:=Br g2 ok.len fw;have h9:tf.length/g.toNat<=9:=by lia
 have gp:=RW.Ap g2 (mf-1);have gn:((g.toNat:Nat):Int)=g:=by lia
 have tfl:=HR g2 ok.tb fw;refine BC λN hN=>?_;walk_at "rd";refine⟨r,g,lo,tab,m,rfl,ok,λp1 lf' tf' mf' H1 e1 fw' h1 _ _=>hN _ _ ?_⟩;clear hN N;obtain⟨rfl,rfl⟩:=E1 g2 ok.len fw' fw;obtain⟨tb,v1,v2⟩:=(ok.same e1).v;obtain⟨h,hh⟩:∃h,h=tf'.length/g.toNat:=⟨_,rfl⟩;have hlm:(tf'.map V.int).length=tf'.length:=WD ..;refine B2 (λσ HX=>∃p2,σ=[some (.ref r),some (.ref p1),some (.ref p2),none,none]/\FI H1 HX p2 [Ae g tf']) (λN hN=>?_) ?_
 ·walk_at "rd";refine⟨_,.inl (Ac.of h1),r,_,0,_,rfl,rfl,Ba.of v1,rfl,?_⟩;refine⟨g,rfl,by lia,by lia,?_⟩;rw[hlm,<-gn,<-XC];refine⟨2,_,rfl,by decide,by decide,by lia,by lia,_,rfl,by decide,λp2 hp2=>hN _ _ ⟨p2,rfl,AF.new hp2 _,hp2,?_⟩⟩;rw[AC,WS];rfl
 rintro σ H2 ⟨p2,rfl,e2,n2,h2⟩;refine BC λN hN=>?_;intro d hd;refine hN _ _ ?_;clear hN N;have e3:=AF.new hd (.dK (Bl []));have lF:=HJ g9 tf';have low:∀{A W:List Int},D1 [Ae g tf'] (AW g tf') A W->(∀a∈A,0<=a/\a<((2^(tf'.length/g.toNat):Nat):Int))/\(∀a∈W,0<=a/\a<((2^(tf'.length/g.toNat):Nat):Int)):=λrc=>⟨λa ha=>(rc.co a (.inl ha)).low (λs hs=>by rw[WE.mp hs];exact HK g tf') λx h0 h1=>(lF x h0 h1).2,λa ha=>(rc.co a (.inr ha)).low (λs hs=>by rw[WE.mp hs];exact HK g tf') λx h0 h1=>(lF x h0 h1).2⟩
 have p5:=FU h9;have dp:d≠p2:=λz=>by rw[z,h2]at hd;cases hd
 refine B2 (λσ HX=>∃x4 A,σ=[some (.ref r),some (.ref p1),some (.ref p2),some (.ref d),x4]/\AF H1 HX/\HX d=some (.dK (Bl A))/\D1 [Ae g tf'] (AW g tf') A []) (λN hN=>?_) ?_
 ·refine⟨λm σ HX=>∃A W,(∃x4,σ=[some (.ref r),some (.ref p1),some (.ref p2),some (.ref d),x4])/\AF H1 HX/\HX d=some (.dK (Bl A))/\HX p2=some (.lst (W.map V.int))/\D1 [Ae g tf'] (AW g tf') A W/\m=(512-A.length)*10+W.length/\m<=5220,⟨_,[],[Ae g tf'],⟨none,rfl⟩,e2.trans e3,AC,e3 _ _ h2,D1.start,rfl,(show 5121<=5220 by decide)⟩,?_⟩;rintro m' σ HX ⟨A,W,⟨x4,rfl⟩,eX,hX,hpX,rc,rfl,m5⟩;obtain⟨lA,lW⟩:=low rc;have cA:=Cn rc.nd lA;refine⟨_,rfl,by decide,λz1 hz1=>?_⟩;have f1:=AF.new hz1 (.lst []);have eY:=eX.trans f1;have dY:=f1 _ _ hX;have pY:=f1 _ _ hpX;have zY:Ad HX z1 (.lst []) z1=some (.lst (([]:List Int).map V.int)):=AC;generalize Ad HX z1 (.lst [])=HY at eY dY pY zY⊢;refine⟨p2,z1,W,[],rfl,rfl,Ac.of pY,Ac.of zY,_,rfl,?_⟩;dsimp only
  by_cases z:W=[]
  ·subst z;rw[if_neg (by decide)];exact hN _ _ ⟨_,A,rfl,eY,dY,rc⟩
  obtain⟨W',x,rfl⟩:=HI z;rw[if_pos (by rw[decide_eq_false z];rfl)];refine⟨λσ' H'=>∃m',m'<(512-A.length)*10+(W'++[x]).length/\∃A W,(∃x4,σ'=[some (.ref r),some (.ref p1),some (.ref p2),some (.ref d),x4])/\AF H1 H'/\H' d=some (.dK (Bl A))/\H' p2=some (.lst (W.map V.int))/\D1 [Ae g tf'] (AW g tf') A W/\m'=(512-A.length)*10+W.length/\m'<=5220,λ_ _ h=>h,?_⟩;obtain⟨x0,x1⟩:=lW x (WK.mpr (.inr (WE.mpr rfl)));obtain⟨fx9,fxl⟩:=lF x x0 x1;rw[WI,WX]at m5⊢;refine BC λN2 hN2=>?_;refine⟨_,rfl,.inl ⟨rfl,_,Ac.of pY⟩,p2,_,.int x,rfl,rfl,pY,?_,?_⟩
  ·rw[WD,WI,WX,Xr,WO,Wc (WM _),W4];rfl
  rw[show ((W'++[x]).map V.int).dropLast=W'.map V.int by rw[WN,W0,X9,List.dropLast_concat]];refine hN2 _ _ ?_;clear hN2 N2;have dX2:Ad HY p2 (.lst (W'.map V.int)) d=some (.dK (Bl A)):=by rw[AI dp];exact dY
  have eX2:AF H1 (Ad HY p2 (.lst (W'.map V.int))):=eY.into n2;have pX2:Ad HY p2 (.lst (W'.map V.int)) p2=some (.lst (W'.map V.int)):=AC;generalize Ad HY p2 (.lst (W'.map V.int))=HZ at dX2 eX2 pX2⊢;refine⟨_,rfl,_,rfl,d,_,rfl,Cz.k (k:=Sum.inl x) dX2,_,rfl,?_⟩;rw[CY (by rw[WD]) rc.nd]
  by_cases m:x∈A
  ·rw[decide_eq_true m];exact Hj ⟨_,by lia,A,W',⟨_,rfl⟩,eX2,dX2,pX2,rc.old m,rfl,by lia⟩
  rw[decide_eq_false m];refine Jc ?_;have rc2:=rc.next m
  have cA2:A.length<512:=by have:=Cn rc2.nd (low rc2).1;rw[WI,WX]at this;lia
  refine BC λN2 hN2=>?_;refine⟨_,rfl,_,rfl,d,_,rfl,JB.k (k:=Sum.inl x) dX2 (by rw[EL];exact AQ (by lia)),hN2 _ _ ?_⟩;clear hN2 N2;rw[HM,if_neg m];have dH:H1 d=none:=e2.free hd;have eQ:AF H1 (Ad HZ d (.dK (Bl (A++[x])))):=eX2.into dH;have dQ:Ad HZ d (.dK (Bl (A++[x]))) d=some (.dK (Bl (A++[x]))):=AC;have pQ:Ad HZ d (.dK (Bl (A++[x]))) p2=some (.lst (W'.map V.int)):=by rw[AI (Ne.symm dp)];exact pX2
  generalize Ad HZ d (.dK (Bl (A++[x])))=HQ at eQ dQ pQ⊢;refine⟨_,rfl,.inl ⟨rfl,_,Ac.of pQ⟩,_,rfl,_,rfl,r,_,0,_,rfl,rfl,Ba.of (eQ _ _ v1),rfl,_,rfl,p1,g,tf',x,rfl,eQ _ _ h1,g2,g9,hl,by lia,h9,tfl,λq' H8 n8=>?_⟩;refine⟨p2,q',_,_,rfl,rfl,n8.1 _ _ pQ,n8.2.2,by rw[WD,WD,sizeLine_eq];lia,?_⟩;rw[<-WN];have np:p2≠d:=Ne.symm dp;refine⟨_,?_,A++[x],W'++AW g tf' x,⟨_,rfl⟩,(eQ.trans n8.1).into n2,by rw[AI dp];exact n8.1 _ _ dQ,AC,rc2,rfl,?_⟩
  ·rw[WI,WI,WX];lia
  ·rw[WI,WI,WX];lia
 rintro σ HX ⟨x4,A,rfl,eX,hX,rc⟩;walk_at "rd";refine⟨_,.inl hX,λl hl'=>?_⟩;refine q l _ A ⟨(e1.trans eX).trans (AF.new hl' _),(e1.trans eX).free hl',?_⟩ rc.done (low rc).1;rw[AC,IP (by rw[WD])]
theorem Qi:AK ["_law_sets_here","_law_way","_law_cell","_law_full","_law_at"] ["_law_sets_here","_law_way","_law_cell","_law_full"] (AH SX):=B0 (by decide +kernel)
theorem Up(T:Bz K mg t) :Ag P w K mg base 1 t.f_11 ["_law_sets_here","_law_way","_law_cell","_law_full"] (EN):=by
 refine Aw T.d_11 Qi (λ_ _ _ _ _ _=>b4 λ_ _ _ _=>rfl) λvs H Q E h=>?_;obtain⟨a,sets,w,c,f,rfl,ha,w0,s1,s6,f1,q⟩:=h;refine⟨rfl,λcdv A outer s hr=>?_⟩
 refine⟨_,(AD (AR 4 Qi (AJ Aj (pv 2) (AU AM rfl T.z_len Wa (AA (pv 0) AB))))
  (AD (Av (AN B7 (pv 1) AG (AS _)) (AE (AL (AJ Dk (BQ Bg (pv 0) Bm (Bb (pv 4))) (BQ Bg (pv 0) (Bb (AJ A8 (pv 4) AG)) Bm)))) AX)
  (AD (Av (AN B7 (pv 1) AG (AS _)) (AE (AL (AJ Dk (AJ Dk (BQ Bg (pv 0) Bm (Bb (pv 4))) (BB (Ah AB))) (BQ Bg (pv 0) (Bb (pv 4)) Bm)))) AX)
  (AD (Av (AN DU (pv 1) AG (AS _)) (AE (AL (AJ Dk (AJ Dk (BQ Bg (pv 0) Bm (Bb (pv 4))) (BB (AA (AV Ay (BB (AA (AJ A8 (AJ A8 (pv 3) AG) (AJ Aj (pv 2) (pv 3))) (AA (AJ BZ (AJ BZ AG AG) (AJ Aj (pv 2) (pv 3))) (AA (AJ A8 AG (AJ Aj (pv 2) (pv 3))) AB)))) (AJ BZ (pv 1) AG) (λ_ _=>rfl)) AB))) (BQ Bg (pv 0) (Bb (pv 4)) Bm)))) AX)
  (AD (Av (AN B7 (pv 1) AG (AS _)) (AE (AL (Db [(3,"_law_full")] [("_law_full",_)] (BN (pv 0)) (λ_ _ _ _=>(Nr (AN JV (pv 0) (pv 1) (AS _)))) (λ_ _ _ _=>(pv 0))))) AX)
  (AE (AL (AJ Dk (AJ Dk (BQ Bg (pv 0) Bm (Bb (pv 4))) (BB (AA (AV Ay (pv 0) (AJ Aj (AJ Ar (pv 2) AG) (AU AM rfl T.z_len Wa (AA (pv 0) AB))) (λ_ _=>rfl)) AB))) (BQ Bg (pv 0) (Bb (pv 4)) Bm))))))))),?_⟩
 refine BC λN hN=>?_;walk_at "rd";refine⟨_,.inl (Ac.of ha),by rw[WD];lia,hN _ _ ?_⟩;clear hN N;rw[WD];have d0:=W2 c (show (sets.length:Int)≠0 by lia);have d1:=Wu c (show 0<(sets.length:Int) by lia);generalize c%(sets.length:Int)=j at d0 d1⊢;refine B2 (λσ HX=>σ=[some (.ref a),some (.int w),some (.int c),some (.int f),some (.int j)]/\HX=H/\w≠0) (λN hN=>?_) ?_
 ·walk_at "rd"
  by_cases y:w=0
  ·rw[if_pos y];refine CJ (Ac.of ha) λp1 H1 e1 n1 h1=>CJ (Ac.of (e1 _ _ ha)) λp2 H2 e2 n2 h2=>?_
   rw[B9]at h1 h2;have l1:=JP d0 (show j<=(sets.length:Int) by lia);have l2:=Ha (z:=j+1) (by lia) (show j+1<=(sets.length:Int) by lia);refine FH (e2 _ _ h1) h2 (by rw[WD,WD,l1,l2];lia) λp3 H3 e3 n3 h3=>q p3 (DM sets none (some j)++DM sets (some (j+1)) none) H3 ((e1.trans e2).trans e3) (by rw[h3,WN]) ?_
   rw[WI,l1,l2];lia
  ·rw[if_neg y];exact hN _ _ ⟨rfl,rfl,y⟩
 rintro σ HX ⟨rfl,rfl,y0⟩;refine B2 (λσ HY=>σ=[some (.ref a),some (.int w),some (.int c),some (.int f),some (.int j)]/\HY=HX/\w≠1) (λN hN=>?_) ?_
 ·walk_at "rd"
  by_cases y:w=1
  ·rw[if_pos y];refine CJ (Ac.of ha) λp1 H1 e1 n1 h1=>⟨by decide,λp hp=>?_⟩
   rw[B9]at h1;exact On e1 (e1 _ _ ha) h1 hp d0 d1 s6 q
  ·rw[if_neg y];exact hN _ _ ⟨rfl,rfl,y⟩
 rintro σ HY ⟨rfl,rfl,y1⟩;refine B2 (λσ HX=>σ=[some (.ref a),some (.int w),some (.int c),some (.int f),some (.int j)]/\HX=HY/\5<=w) (λN hN=>?_) ?_
 ·walk_at "rd"
  by_cases y:w<5
  ·rw[if_pos y];refine CJ (Ac.of ha) λp1 H1 e1 n1 h1=>⟨by lia,by lia,by lia,by decide,λp hp=>?_⟩
   rw[B9]at h1;have f1:=AF.new hp (.lst (([f+1+c%f,0-1-c%f,1+c%f]:List Int).map V.int));refine⟨p,_,_,_,rfl,rfl,Ac.of AC,DP (ns:=[f+1+c%f,0-1-c%f,1+c%f]) (by lia) (by show _<3;lia),by decide,λp' hp'=>?_⟩;exact On (e1.trans f1) ((e1.trans f1) _ _ ha) (f1 _ _ h1) hp' d0 d1 s6 q
  ·rw[if_neg y];exact hN _ _ ⟨rfl,rfl,by lia⟩
 rintro σ HX ⟨rfl,rfl,y2⟩;refine B2 (λσ HY=>σ=[some (.ref a),some (.int w),some (.int c),some (.int f),some (.int j)]/\HY=HX) (λN hN=>?_) ?_
 ·walk_at "rd"
  by_cases y:w=5
  ·rw[if_pos y];refine⟨_,rfl,a,rfl,⟨_,Ac.of ha⟩,λD hD=>?_⟩;refine ET (xs:=sets.map V.int) (λi acc Hx=>(∃us:List Int,acc=us.map V.int/\us.length<=i)/\AF HX Hx/\Hx D=some (.lst acc)) ⟨⟨[],rfl,WM _⟩,AF.new hD _,AC⟩ (λi acc Hx _ z=>Ac.of (z.2.1 _ _ ha)) ?_ ?_
   ·rintro i x acc Hx hx ⟨⟨us,rfl,ul⟩,ex,hDx⟩;obtain⟨v,hv,rfl⟩:=Bj hx;have hi:=(WF.mp hv).1;walk_at "rd"
    by_cases y:v=f
    ·rw[if_neg (λz=>z y)];exact⟨⟨us,rfl,by lia⟩,ex,hDx⟩
    ·rw[if_pos y];exact⟨hDx,by rw[WD];exact AQ (by lia),⟨us++[v],by rw[WN];rfl,by rw[WI];show _+1<=_;lia⟩,ex.into hD,AC⟩
   ·rintro acc H2 ⟨⟨us,rfl,ul⟩,e2,h2⟩;rw[WD]at ul;exact q D us H2 e2 h2 (by lia)
  ·rw[if_neg y];exact hN _ _ ⟨rfl,rfl⟩
 rintro σ HY ⟨rfl,rfl⟩;walk_at "rd";refine CJ (Ac.of ha) λp1 H1 e1 n1 h1=>⟨by decide,by decide,_,.inl (Ac.of (e1 _ _ ha)),by rw[WD];lia,?_⟩
 rw[B9]at h1;rw[WD];have k0:=W2 (c/7) (show (sets.length:Int)≠0 by lia);have k1:=Wu (c/7) (show 0<(sets.length:Int) by lia);refine⟨a,_,_,_,rfl,rfl,Ac.of (e1 _ _ ha),DP k0 (by lia),by decide,λp hp=>?_⟩;exact On e1 (e1 _ _ ha) h1 hp d0 d1 s6 q
theorem Hd:AK ["_law_one","_law_sets_here","_law_table","_law_full","_law_known","_law_some","_law_other"] ["_law_one","_law_sets_here"] (AH SY):=B0 (by decide +kernel)
theorem Uq(T:Bz K mg t)(G_25:Ag P w K mg base 1 t.f_25 ["_law_one"] (Df))(G_28:Ag P w K mg base 1 t.f_28 ["_law_signs","_law_many"] (Do))(G_38:Ag P w K mg base 1 t.f_38 ["_law_table","_law_signs","_law_some"] (FW)):Ag P w K mg base 2 t.f_18 ["_law_one","_law_sets_here"] (Fv):=by
 refine Aw T.d_18 Hd (λ_ _ _ _ _ _=>b2 λ_ _=>rfl) λvs H Q E h=>?_;obtain⟨r,a,g,lo,tab,m,lf,tf,mf,sets,rfl,ok,fw,s9,ha,l9,q⟩:=h;refine⟨rfl,λcdv A outer s hr=>?_⟩
 refine⟨_,(AD (AR 2 Hd (AT hr G_25 T.m_25 (AA (pv 0) AB)))
  (AD (AR 3 Hd (AJ BZ (AT hr G_28 T.m_28 (Ah (AA (AJ Ar (AU AM rfl T.z_len Wa (AA (pv 2) AB)) (AV Af (pv 0) AG (λ_ _=>rfl))) AB))) AG))
  (AD (AR 4 Hd Da)
  (AD (A9 PassesOwn.never rfl (BN (pv 1)) (BK 5 Hd) (AE (FP (B3 hr) (pv 4) (pv 5) Bi rfl)))
  (AD (Av (En (CM (B3 hr) (pv 3) (pv 4))) (AE (AL Bi)) AX)
  (AD (A9 PassesOwn.never rfl (G6 (pv 4)) (BK 5 Hd) (AD (Av (PW.pt (Cq (AN DU (pv 5) AG (AS _)) (Ca (AN Cs (pv 5) (pv 3) (AS _))))) (AE (AL Bi)) AX)
  (AE (A9 PassesOwn.never rfl (BN (AT hr G_38 T.m_38 (AA (pv 2) (AA (AV Af (pv 0) AG (λ_ _=>rfl)) (AA (pv 5) AB))))) (BK 6 Hd) (AE (Av (En (CM (B3 hr) (pv 6) (pv 4))) (AE (AL Bi)) AX))))))
  (AE (AL Bi)))))))),?_⟩
 have g2:=ok.g2;have g9:=ok.g9;obtain⟨hn,hl⟩:=Br g2 ok.len fw;have h9:tf.length/g.toNat<=9:=by lia
 have gp:=RW.Ap g2 (mf-1);have gn:((g.toNat:Nat):Int)=g:=by lia
 have tfl:=HR g2 ok.tb fw;refine BC λN hN=>?_;walk_at "rd";refine⟨r,g,lo,tab,m,rfl,ok,λp1 lf' tf' mf' H1 e1 fw' h1 _ _=>hN _ _ ?_⟩;clear hN N;obtain⟨rfl,rfl⟩:=E1 g2 ok.len fw' fw;obtain⟨tb,v1,v2⟩:=(ok.same e1).v;have hlm:(tf'.map V.int).length=tf'.length:=WD ..;refine BC λN hN=>?_;walk_at "rd";refine⟨_,.inl (Ac.of h1),r,_,0,_,rfl,rfl,Ba.of v1,rfl,?_⟩;refine⟨g,rfl,by lia,by lia,?_⟩;rw[hlm,<-gn,<-XC];refine⟨2,_,rfl,by decide,by decide,by lia,by lia,_,rfl,?_⟩;rw[WS];refine hN _ _ ?_;clear hN N;refine BC λN hN=>?_;intro d hd;refine hN _ _ ?_;clear hN N;have e3:=AF.new hd (.dK (Bl []));refine B2 (λσ HX=>(∃x5 x6,σ=[some (.ref r),some (.ref a),some (.ref p1),some (.int (Ae g tf')),some (.ref d),x5,x6])/\AF H1 HX/\∃A,HX d=some (.dK (Bl A))/\Fu sets A) (λN hN=>?_) ?_
 ·refine⟨_,rfl,a,rfl,⟨_,Ac.of ((e1.trans e3) _ _ ha)⟩,?_⟩;refine BP (xs:=sets.map V.int) (λi σ HX=>(∃x5 x6,σ=[some (.ref r),some (.ref a),some (.ref p1),some (.int (Ae g tf')),some (.ref d),x5,x6])/\AF H1 HX/\∃A,HX d=some (.dK (Bl A))/\Fu (sets.take i) A) ⟨⟨none,none,rfl⟩,e3,[],AC,Fu.nil⟩ (λi σ HX _ z=>Ac.of (z.2.1 _ _ (e1 _ _ ha))) ?_ ?_
  ·rintro i x σ HX hx ⟨⟨x5,x6,rfl⟩,eX,A,hX,mX⟩;obtain⟨x,hxi,rfl⟩:=Bj hx;dsimp only[Cd];have:=mX.len;rw[Wp]at this;refine⟨_,rfl,_,rfl,d,_,rfl,JB.k (k:=Sum.inl x) hX (by rw[EL];exact AQ (by lia)),⟨_,_,rfl⟩,eX.into hd,if x∈A then A else A++[x],?_,?_⟩
   ·rw[HM];exact AC
   ·rw[Wz,hxi];exact mX.put x
  ·rintro σ HX ⟨⟨x5,x6,rfl⟩,eX,A,hX,mX⟩;rw[WD,Wk]at mX;exact hN _ _ ⟨⟨_,_,rfl⟩,eX,A,hX,mX⟩
 rintro σ HX ⟨⟨x5,x6,rfl⟩,eX,A,hX,mX⟩;have e1X:=e1.trans eX;have sv:∀{x:Int},(CG (Bl A) (Sum.inl x)).isSome=decide (x∈A):=λ{x}=>CY (by rw[WD]) mX.nd
 refine B2 (λσ HY=>(∃x5 x6,σ=[some (.ref r),some (.ref a),some (.ref p1),some (.int (Ae g tf')),some (.ref d),x5,x6])/\HY=HX/\Ae g tf'∈A) (λN hN=>?_) ?_
 ·refine⟨_,rfl,_,rfl,d,_,rfl,Cz.k (k:=Sum.inl (Ae g tf')) hX,_,rfl,?_⟩;rw[sv]
  by_cases z:Ae g tf'∈A
  ·rw[decide_eq_true z];exact Hj (hN _ _ ⟨⟨_,_,rfl⟩,rfl,z⟩)
  ·rw[decide_eq_false z];refine Jc ?_;exact q false _ e1X ⟨λy=>(by cases y),λy=>absurd ((mX.on _).mpr y.1) z⟩
 rintro σ HY ⟨⟨x5,x6,rfl⟩,rfl,fA⟩;refine B2 (λσ HZ=>(∃x5 x6,σ=[some (.ref r),some (.ref a),some (.ref p1),some (.int (Ae g tf')),some (.ref d),x5,x6])/\AF H HZ/\∀x∈A,1<=x/\x<=Ae g tf'/\∀y∈AW g tf' x,y∈A) (λN hN=>?_) ?_
 ·refine⟨_,rfl,d,_,rfl,.inl hX,λo=>?_⟩;have eF:AF H1 (Ad HY d (.frz o (.dK (Bl A)))):=eX.into hd;have dF:Ad HY d (.frz o (.dK (Bl A))) d=some (.frz o (.dK (Bl A))):=AC;generalize Ad HY d (.frz o (.dK (Bl A)))=HF at eF dF⊢;refine Fq (d:=d) (o:=o) (kvs:=Bl A) (λi σ HZ=>(∃x5 x6,σ=[some (.ref r),some (.ref a),some (.ref p1),some (.int (Ae g tf')),some (.ref d),x5,x6])/\AF HF HZ/\∀x∈A.take i,1<=x/\x<=Ae g tf'/\∀y∈AW g tf' x,y∈A) ⟨⟨_,_,rfl⟩,AF.refl _,λx hx=>absurd hx (by simp)⟩ (λi σ HZ _ z=>z.2.1 _ _ dF) ?_ ?_
  ·rintro i k v σ HZ hk ⟨⟨x5,x6,rfl⟩,eZ,al⟩;obtain⟨x,hxi,_,rfl⟩:=GW hk;have xA:=WQ hxi;have eHZ:=(e1.trans eF).trans eZ;have no:¬(1<=x/\x<=Ae g tf'/\∀y∈AW g tf' x,y∈A)->∀HW,AF HZ HW->Q (.bl false) HW:=λh HW eW=>q false HW (eHZ.trans eW) ⟨λy=>(by cases y),λy=>absurd (by obtain⟨h1,h2,h3⟩:=y.2 x ((mX.on x).mp xA);exact⟨h1,h2,λy hy=>(mX.on y).mpr (h3 y hy)⟩) h⟩
   dsimp only[Cd];refine B2 (λσ HW=>σ=[some (.ref r),some (.ref a),some (.ref p1),some (.int (Ae g tf')),some (.ref d),some (.int x),x6]/\HW=HZ/\1<=x/\x<=Ae g tf') (λN2 hN2=>?_) ?_
   ·walk_at "rd";refine⟨x,rfl,?_⟩
    by_cases c1:x<1
    ·rw[if_pos c1];exact no (λz=>by lia) _ (AF.refl _)
    rw[if_neg c1];refine⟨x,rfl,?_⟩
    by_cases c2:Ae g tf'<x
    ·rw[if_pos c2];exact no (λz=>by have:=z.2.1;lia) _ (AF.refl _)
    rw[if_neg c2];exact hN2 _ _ ⟨rfl,rfl,by lia,by lia⟩
   rintro σ HW ⟨rfl,rfl,x1,x2⟩;have e1W:=eF.trans eZ;refine⟨_,rfl,_,rfl,r,_,0,_,rfl,rfl,Ba.of (e1W _ _ v1),rfl,_,rfl,p1,g,tf',x,rfl,e1W _ _ h1,g2,g9,hl,by lia,h9,tfl,λq' H8 n8=>?_⟩;refine⟨q',rfl,⟨_,Ac.of n8.2.2⟩,?_⟩;refine BP (xs:=(AW g tf' x).map V.int) (λj σ HV=>(∃x6,σ=[some (.ref r),some (.ref a),some (.ref p1),some (.int (Ae g tf')),some (.ref d),some (.int x),x6])/\HV=H8/\∀y∈(AW g tf' x).take j,y∈A) ⟨⟨_,rfl⟩,rfl,λy hy=>absurd hy (by simp)⟩ (λj σ HV _ z=>by rw[z.2.1];exact Ac.of n8.2.2) ?_ ?_
   ·rintro j y σ HV hy ⟨⟨x6,rfl⟩,rfl,al2⟩;obtain⟨y,hyj,rfl⟩:=Bj hy;dsimp only[Cd];have d8:=n8.1 _ _ (eZ _ _ dF);refine⟨_,rfl,_,rfl,d,_,rfl,.inl ⟨_,Sum.inl y,.inr ⟨o,d8⟩,rfl,rfl⟩,_,rfl,?_⟩;rw[sv]
    by_cases z:y∈A
    ·rw[decide_eq_true z];refine Hj ⟨⟨_,rfl⟩,rfl,λw hw=>?_⟩;rw[Wz,hyj]at hw;rcases WK.mp hw with v|v
     ·exact al2 w v
     ·rw[WE.mp v];exact z
    ·rw[decide_eq_false z];refine Jc ?_;exact no (λw=>z (w.2.2 y (WQ hyj))) _ n8.1
   ·rintro σ HV ⟨⟨x6,rfl⟩,rfl,al2⟩;rw[WD,Wk]at al2;refine⟨⟨_,_,rfl⟩,eZ.trans n8.1,λy hy=>?_⟩;rw[Wz,hxi]at hy;rcases WK.mp hy with z|z
    ·exact al y z
    ·rw[WE.mp z];exact⟨x1,x2,al2⟩
  ·rintro σ HZ ⟨⟨x5,x6,rfl⟩,eZ,al⟩;rw[EL,Wk]at al;exact hN _ _ ⟨⟨_,_,rfl⟩,(e1.trans eF).trans eZ,al⟩
 rintro σ HZ ⟨⟨x5,x6,rfl⟩,eZ,al⟩;walk_at "rd"
 exact q true HZ eZ ⟨λ_=>⟨(mX.on _).mp fA,λx hx=>by obtain⟨h1,h2,h3⟩:=al x ((mX.on x).mpr hx);exact⟨h1,h2,λy hy=>(mX.on y).mp (h3 y hy)⟩⟩,λ_=>rfl⟩
theorem Os:AK ["_law_one","_law_word_here","_law_table","_law_some","_law_sign"] ["_law_one","_law_word_here"] (AH Ve):=B0 (by decide +kernel)
theorem Vw(T:Bz K mg t)(G_25:Ag P w K mg base 1 t.f_25 ["_law_one"] (Df))(G_28:Ag P w K mg base 1 t.f_28 ["_law_signs","_law_many"] (Do))(G_38:Ag P w K mg base 1 t.f_38 ["_law_table","_law_signs","_law_some"] (FW)):Ag P w K mg base 2 t.f_4 ["_law_one","_law_word_here"] (JN):=by
 refine Aw T.d_4 Os (λ_ _ _ _ _ _=>b2 λ_ _=>rfl) λvs H Q E h=>?_;obtain⟨r,a,g,lo,tab,m,lf,tf,mf,row,rfl,ok,fw,s9,ha,q⟩:=h;refine⟨rfl,λcdv A outer s hr=>?_⟩
 refine⟨_,(AD (AR 2 Os (AT hr G_25 T.m_25 (AA (pv 0) AB)))
  (AD (AR 3 Os (AJ BZ (AT hr G_28 T.m_28 (Ah (AA (AJ Ar (AU AM rfl T.z_len Wa (AA (pv 2) AB)) (AV Af (pv 0) AG (λ_ _=>rfl))) AB))) AG))
  (AD (A9 PassesOwn.never rfl (BN (pv 1)) (BK 4 Os) (AD (Av (PW.pt (Cq (AN DU (pv 4) AG (AS _)) (Ca (AN QC (pv 4) (AV Af (pv 0) AG (λ_ _=>rfl)) (AS _))))) (AE (AL Bi)) AX)
  (AE (AR 3 Os (AV Ay (AT hr G_38 T.m_38 (AA (pv 2) (AA (AV Af (pv 0) AG (λ_ _=>rfl)) (AA (pv 3) AB)))) (pv 4) (λ_ _=>rfl))))))
  (AE (AL (EQ B7 (pv 3) AG (AS _))))))),?_⟩
 have g2:=ok.g2;have g9:=ok.g9;obtain⟨hn,hl⟩:=Br g2 ok.len fw;have h9:tf.length/g.toNat<=9:=by lia
 have gp:=RW.Ap g2 (mf-1);have gn:((g.toNat:Nat):Int)=g:=by lia
 have tfl:=HR g2 ok.tb fw;refine BC λN hN=>?_;walk_at "rd";refine⟨r,g,lo,tab,m,rfl,ok,λp1 lf' tf' mf' H1 e1 fw' h1 _ _=>hN _ _ ?_⟩;clear hN N;obtain⟨rfl,rfl⟩:=E1 g2 ok.len fw' fw;obtain⟨tb,v1,v2⟩:=(ok.same e1).v;have hlm:(tf'.map V.int).length=tf'.length:=WD ..;refine BC λN hN=>?_;walk_at "rd";refine⟨_,.inl (Ac.of h1),r,_,0,_,rfl,rfl,Ba.of v1,rfl,?_⟩;refine⟨g,rfl,by lia,by lia,?_⟩;rw[hlm,<-gn,<-XC];refine⟨2,_,rfl,by decide,by decide,by lia,by lia,_,rfl,?_⟩;rw[WS];refine hN _ _ ?_;clear hN N;refine B2 (λσ HX=>(∃x4,σ=[some (.ref r),some (.ref a),some (.ref p1),some (.int (EM g tf' (Ae g tf') row)),x4])/\AF H1 HX/\∀n∈row,0<=n/\n<g) (λN hN=>?_) ?_
 ·refine⟨_,rfl,a,rfl,⟨_,Ac.of (e1 _ _ ha)⟩,?_⟩;refine BP (xs:=row.map V.int) (λi σ HX=>(∃x4,σ=[some (.ref r),some (.ref a),some (.ref p1),some (.int (EM g tf' (Ae g tf') (row.take i))),x4])/\AF H1 HX/\∀n∈row.take i,0<=n/\n<g) ⟨⟨none,rfl⟩,AF.refl _,λn hn=>absurd hn (by simp)⟩ (λi σ HX _ z=>Ac.of (z.2.1 _ _ (e1 _ _ ha))) ?_ ?_
  ·rintro i x σ HX hx ⟨⟨x4,rfl⟩,eX,al⟩;obtain⟨n,hni,rfl⟩:=Bj hx;dsimp only[Cd];have no:¬(0<=n/\n<g)->∀HW,AF HX HW->Q (.bl false) HW:=λh HW eW=>q false HW ((e1.trans eX).trans eW) ⟨λy=>(by cases y),λy=>absurd (y.1 n (WQ hni)) h⟩
   refine B2 (λσ HW=>σ=[some (.ref r),some (.ref a),some (.ref p1),some (.int (EM g tf' (Ae g tf') (row.take i))),some (.int n)]/\HW=HX/\0<=n/\n<g) (λN2 hN2=>?_) ?_
   ·walk_at "rd"
    by_cases c1:n<0
    ·rw[if_pos c1];exact no (λz=>by lia) _ (AF.refl _)
    rw[if_neg c1];refine⟨r,_,0,_,rfl,rfl,Ba.of (eX _ _ v1),rfl,?_⟩;refine⟨g,rfl,?_⟩
    by_cases c2:g<=n
    ·rw[if_pos c2];exact no (λz=>by lia) _ (AF.refl _)
    rw[if_neg c2];exact hN2 _ _ ⟨rfl,rfl,by lia,by lia⟩
   rintro σ HW ⟨rfl,rfl,n0,n1⟩;refine⟨_,rfl,_,rfl,r,_,0,_,rfl,rfl,Ba.of (eX _ _ v1),rfl,_,rfl,p1,g,tf',EM g tf' (Ae g tf') (row.take i),rfl,eX _ _ h1,g2,g9,hl,by lia,h9,tfl,λq' H8 n8=>?_⟩;refine⟨_,rfl,q',_,_,_,rfl,rfl,Ac.of n8.2.2,DP n0 (by rw[Du];lia),⟨some (.int n),?_⟩,eX.trans n8.1,λk hk=>?_⟩
   ·rw[NB _ hni n0 n1];rfl
   ·rw[Wz,hni]at hk;rcases WK.mp hk with z|z
    ·exact al k z
    ·rw[WE.mp z];exact⟨n0,n1⟩
  ·rintro σ HX ⟨⟨x4,rfl⟩,eX,al⟩;rw[WD,Wk]at al;rw[WD,Wk];exact hN _ _ ⟨⟨_,rfl⟩,eX,al⟩
 rintro σ HX ⟨⟨x4,rfl⟩,eX,al⟩;walk_at "rd";exact q _ _ (e1.trans eX) (by rw[decide_eq_true_eq];exact⟨λz=>⟨al,z⟩,λz=>z.2⟩)
theorem Ot:AK ["_law_paper","_law_row","_law_found","_law_number"] ["_law_paper","_law_row"] (AH SZ):=B0 (by decide +kernel)
theorem Ur(T:Bz K mg t)(G_30:Ag P w K mg base 1 t.f_30 ["_law_found"] (ES))(G_23:Ag P w K mg base 1 t.f_23 ["self"] (JK t.c_66))(G_6:Ag P w K mg base 1 t.f_6 ["self"] (E3 t.c_37 "sets"))(G_5:Ag P w K mg base 1 t.f_5 ["self"] (E3 t.c_36 "row")):Ag P w K mg base 2 t.f_29 ["_law_paper","_law_row"] (Ed t.c_37 t.c_36):=by
 refine Aw T.d_29 Ot (λ_ _ _ _ _ _=>b2 λ_ _=>rfl) λvs H Q E h=>?_;obtain⟨x,a,xs,rfl,ap,ha,xl,q⟩:=h;refine⟨rfl,λcdv A outer s hr=>?_⟩
 refine⟨_,(AD (AR 2 Ot (EH (Ck (pv 0) T.th_66.cl T.me_23 G_23 (hr.mono (by decide)) Dx) (EH (Ck (pv 0) T.th_37.cl T.me_6 G_6 (hr.mono (by decide)) Dx) (Ck (pv 0) T.th_36.cl T.me_5 G_5 (hr.mono (by decide)) Dx))))
  (AD (Av (PW.pt (Cq (Bw (Bf (B8 rfl T.z_isinstance (pv 2) (Ek rfl T.z_tuple PyProof.Rows.boot_tuple)))) (Cq (AN JV (AU AM rfl T.z_len PySem.boot_len (AA (pv 2) AB)) AG (AS _)) (Ca (Bw (Bf (B8 rfl T.z_isinstance (AV Af (pv 2) AG (λ_ _=>rfl)) (Ek rfl T.z_list PyProof.Rows.boot_list)))))))) (AE (AL Bi)) AX)
  (AD (A9 PassesOwn.never rfl (BN (AV Af (pv 2) AG (λ_ _=>rfl))) (BK 3 Ot) (AE (Av (Bw (Bf (AT hr G_30 T.m_30 (AA (pv 3) AB)))) (AE (AL Bi)) AX)))
  (AD (Av (AN (Nk hr.units) (AV Af (pv 2) AG (λ_ _=>rfl)) (pv 1) (AS _)) (AE (AL Bi)) AX)
  (AD (A5 (By WT We Wf BD (AV Af (pv 2) AG (λ_ _=>rfl)) (Ah AB)))
  (AE (AL Bi))))))),?_⟩
 refine B2 (λσ HX=>(∃tt p9,σ=[some (.ref x),some (.ref a),some (.ref tt),none]/\HX tt=some (.tup [.ref p9])/\HX p9=some (.lst (xs.map V.int))/\H p9=none)/\AF H HX) (λN hN=>?_) ?_
 ·rcases ap with pv|pv
  ·obtain⟨dx,p,k1,k2⟩:=id pv;exact .inr (.inl ⟨_,rfl,x,dx,_,rfl,k1,rfl,x,xs,rfl,pv,λtt p9 H' e h1 h2 n2=>hN _ _ ⟨⟨tt,p9,rfl,h1,h2,n2⟩,e⟩⟩)
  ·obtain⟨dx,p,k1,k2⟩:=id pv;exact .inr (.inr ⟨_,rfl,x,dx,_,rfl,k1,rfl,x,xs,rfl,pv,λtt p9 H' e h1 h2 n2=>hN _ _ ⟨⟨tt,p9,rfl,h1,h2,n2⟩,e⟩⟩)
 rintro σ HX ⟨⟨tt,p9,rfl,h1,h2,n2⟩,eX⟩;refine BC λN hN=>?_;walk_at "rd";refine⟨_,.of (.tup h1),_,QR,?_⟩;rw[if_neg (by intro z;cases z)];refine⟨_,.inr (Ba.of h1),?_⟩;rw[if_neg (λz=>z rfl)];refine⟨tt,_,0,_,rfl,rfl,Ba.of h1,rfl,?_⟩;refine⟨_,.of (.lst h2),_,QQ,?_⟩;rw[if_neg (by intro z;cases z)];refine hN _ _ ?_;clear hN N;refine B2 (λσ HY=>(∃x3,σ=[some (.ref x),some (.ref a),some (.ref tt),x3])/\AF HX HY) (λN hN=>?_) ?_
 ·refine⟨_,rfl,tt,_,0,_,rfl,rfl,Ba.of h1,rfl,?_⟩;refine⟨p9,rfl,⟨_,Ac.of h2⟩,?_⟩;refine BP (xs:=xs.map V.int) (λi σ HY=>(∃x3,σ=[some (.ref x),some (.ref a),some (.ref tt),x3])/\AF HX HY) ⟨⟨none,rfl⟩,AF.refl _⟩ (λi σ HY _ z=>Ac.of (z.2 _ _ h2)) ?_ λσ HY z=>hN _ _ z
  rintro i v σ HY hv ⟨⟨x3,rfl⟩,eY⟩;obtain⟨n,hn,rfl⟩:=Bj hv;walk_at "rd";refine⟨.int n,rfl,trivial,true,rfl,?_⟩;rw[if_neg (by decide)];exact⟨⟨_,rfl⟩,eY⟩
 rintro σ HY ⟨⟨x3,rfl⟩,eY⟩;refine BC λN hN=>?_;walk_at "rd";refine⟨tt,_,0,_,rfl,rfl,Ba.of (eY _ _ h1),rfl,p9,rfl,xs,Ac.of (eY _ _ h2),xs,Ac.of ((eX.trans eY) _ _ ha),?_⟩;rw[if_neg (λz=>z rfl)];refine hN _ _ ?_;clear hN N;walk_at "rd";refine⟨tt,_,0,_,rfl,rfl,Ba.of (eY _ _ h1),rfl,?_⟩;refine⟨.inl ⟨_,Ac.of (eY _ _ h2)⟩,p9,rfl,_,eY _ _ h2,by rw[WD];exact AQ (by lia),q _ ((eX.trans eY).into n2)⟩
theorem Qj:AK ["_law_paper","_law_one","_law_due","_law_found"] ["_law_paper","_law_one","_law_due"] (AH Sa):=B0 (by decide +kernel)
theorem Us(T:Bz K mg t)(G_17:Ag P w K mg base 1 t.f_17 ["self","one"] (JL))(G_3:Ag P w K mg base 12 t.f_3 ["self","one"] (Dv t.c_50 t.c_37 "sets" Cj 900))(G_2:Ag P w K mg base 9 t.f_2 ["self","one"] (Dv t.c_50 t.c_36 "row" GC 500)):Ag P w K mg base 13 t.f_27 ["_law_paper","_law_one","_law_due"] (Ee t.c_50 t.c_37 t.c_36 t.c_66):=by
 refine Aw T.d_27 Qj (λ_ _ _ _ _ _=>b3 λ_ _ _=>rfl) λvs H Q E h=>?_;obtain⟨x,r,b,rfl,an,q⟩:=h;refine⟨rfl,λcdv A outer s hr=>?_⟩
 refine⟨_,(AD (AR 3 Qj (EH (Dd (pv 0) T.th_66.cl T.me_17 G_17 (hr.mono (by decide)) Dx (AA (pv 1) AB)) (EH (Dd (pv 0) T.th_37.cl T.me_3 G_3 (hr.mono (by decide)) Dx (AA (pv 1) AB)) (Dd (pv 0) T.th_36.cl T.me_2 G_2 (hr.mono (by decide)) Dx (AA (pv 1) AB)))))
  (AE (AL (DG (B8 rfl T.z_isinstance (pv 3) (Ek rfl T.z_bool PyProof.Rows.boot_bool)) (D3 (EQ B7 (pv 3) (pv 2) (AS _))))))),?_⟩
 refine B2 (λσ HX=>σ=[some (.ref x),some (.ref r),some (.bl b),some (.bl b)]/\AF H HX) (λN hN=>?_) ?_
 ·rcases an with⟨an,dx,p,k1⟩|⟨an,dx,p,k1⟩|⟨rfl,dx,k1⟩
  ·refine .inr (.inl ⟨_,rfl,x,dx,_,rfl,k1,rfl,_,rfl,?_⟩);dsimp only[Ct];refine an H _ _ (AF.refl _) ?_;exact λH' e=>hN _ _ ⟨rfl,e⟩
  ·refine .inr (.inr ⟨_,rfl,x,dx,_,rfl,k1,rfl,_,rfl,?_⟩);dsimp only[Ct];refine an H _ _ (AF.refl _) ?_;exact λH' e=>hN _ _ ⟨rfl,e⟩
  ·exact .inl ⟨_,rfl,x,dx,_,rfl,k1,rfl,_,rfl,_,_,rfl,hN _ _ ⟨rfl,AF.refl _⟩⟩
 rintro σ HX ⟨rfl,eX⟩;walk_at "rd";refine⟨_,.of (.bl b),_,Np,?_⟩;rw[if_pos rfl];rw[decide_eq_true trivial];exact q _ eX
theorem ME:AK ["_law_paper","_law_one","_law_came","error"] ["_law_paper","_law_one"] (AH Sb):=B0 (by decide +kernel)
theorem Ut(T:Bz K mg t)(G_17:Ag P w K mg base 1 t.f_17 ["self","one"] (JL))(G_3:Ag P w K mg base 12 t.f_3 ["self","one"] (Dv t.c_50 t.c_37 "sets" Cj 900))(G_2:Ag P w K mg base 9 t.f_2 ["self","one"] (Dv t.c_50 t.c_36 "row" GC 500)):Ag P w K mg base 13 t.f_10 ["_law_paper","_law_one"] (EO t.c_37 t.c_36):=by
 refine Aw T.d_10 ME (λ_ _ _ _ _ _=>b2 λ_ _=>rfl) λvs H Q E h=>?_;obtain⟨x,r,xs,g,lo,tab,m,lf,tf,mf,rfl,ap,ok,fw,b9,q⟩:=h;refine⟨rfl,λcdv A outer s hr=>?_⟩
 refine⟨_,(AD (AR 2 ME IT)
  (AD (Q5 (i:=3) (W:=λσ cls D H'=>σ=[some (.ref x),some (.ref r),some .non,none]/\AF H H'/\D=none/\cls=.ref t.c_50) ME.nd rfl rfl rfl T.m_47 rfl rfl (λ_=>(AE (A5 (EH (Dd (pv 0) T.th_66.cl T.me_17 G_17 (hr.mono (by decide)) Dx (AA (pv 1) AB)) (EH (Dd (pv 0) T.th_37.cl T.me_3 G_3 (hr.mono (by decide)) Gh (AA (pv 1) AB)) (Dd (pv 0) T.th_36.cl T.me_2 G_2 (hr.mono (by decide)) Gh (AA (pv 1) AB))))))) (λ_=>(AE (AR 2 ME (pv 3)))))
  (AD (Av (PW.pt (Cq (AN Q0 (pv 2) IT (AS _)) (Cq (Bw (Bf (B8 rfl T.z_isinstance (pv 2) (Fi rfl T.m_50)))) (Ca (Bw (Bf (B8 rfl T.z_isinstance (pv 2) (Ek rfl T.z_ValueError PyProof.Rows.Boot.«ValueError»)))))))) (AE (AL Bi)) AX)
  (AE (AL (DG (IU (B8 rfl T.z_isinstance (pv 2) (Fi rfl T.m_65))) (D3 (IU (B8 rfl T.z_isinstance (pv 2) (Fi rfl T.m_60)))))))))),?_⟩
 refine BC λN hN=>?_;walk_at "rd";refine hN _ _ ?_;clear hN N;walk_at "rd";refine⟨?_,?_⟩
 ·rcases ap with pv'|pv'
  ·obtain⟨dx,p,k1,k2⟩:=id pv';refine .inr (.inl ⟨_,rfl,x,dx,_,rfl,k1,rfl,_,rfl,?_⟩);dsimp only[Ct];exact⟨x,r,g,lo,tab,m,lf,tf,mf,xs,rfl,pv',ok,fw,λ_ H' e=>⟨rfl,e,rfl,rfl⟩,λz=>absurd z (by lia)⟩
  ·obtain⟨dx,p,k1,k2⟩:=id pv';refine .inr (.inr ⟨_,rfl,x,dx,_,rfl,k1,rfl,_,rfl,?_⟩);dsimp only[Ct];exact⟨x,r,g,lo,tab,m,lf,tf,mf,xs,rfl,pv',ok,fw,λ_ H' e=>⟨rfl,e,rfl,rfl⟩,λz=>absurd z (by lia)⟩
 rintro σ' cls D' H' ⟨rfl,e',rfl,rfl⟩;refine⟨T.em_50_47,λea hea=>?_⟩;have he:Ad H' ea (Hz ea (.ref t.c_50) none false) ea=some (Hz ea (.ref t.c_50) none false):=AC;refine⟨_,rfl,_,rfl,?_⟩;rw[if_neg (by intro z;cases z)];refine⟨_,rfl,_,.exc he T.ek_50,_,T.kt_50_50,?_⟩;rw[if_neg (by decide)];refine⟨_,rfl,_,.exc he T.ek_50,_,T.kt_TooWide_ValueError,?_⟩;rw[if_neg (by decide)];have fe:=AF.new hea (Hz ea (.ref t.c_50) none false);refine⟨_,rfl,_,.exc he T.ek_50,_,T.kt_50_65,?_⟩;rw[if_pos rfl];exact⟨_,rfl,_,.exc he T.ek_50,_,T.kt_50_60,q _ (e'.trans fe)⟩
theorem MF:AK ["_law_cell","_law_signs","_law_many","_law_part"] ["_law_cell"] (AH Sc):=B0 (by decide +kernel)
theorem Uu(T:Bz K mg t)(G_28:Ag P w K mg base 1 t.f_28 ["_law_signs","_law_many"] (Do)):Ag P w K mg base 2 t.f_26 ["_law_cell"] (Fw):=by
 refine Aw T.d_26 MF (λ_ _ _ _ _ _=>b1 λ_=>rfl) λvs H Q E h=>?_;obtain⟨c,rfl,q⟩:=h;refine⟨rfl,λcdv A outer s hr=>?_⟩
 refine⟨_,(AD (AR 1 MF (AJ A8 AG (AJ Aj (pv 0) AG)))
  (AD (AR 2 MF (AV Ay (BB (AA (AJ A8 AG (AJ Aj (AJ Ar (pv 0) AG) AG)) (AA (AJ A8 AG (AJ Aj (AJ Ar (pv 0) AG) AG)) (AA (AJ A8 AG (AJ Aj (AJ Ar (pv 0) AG) AG)) (Ah (Ah AB)))))) (AJ BZ (pv 1) AG) (λ_ _=>rfl)))
  (AD (AR 3 MF (AT hr G_28 T.m_28 (AA (pv 1) (AA (AJ BZ (pv 2) AG) AB))))
  (AE (AL (Dh (AA (pv 1) (AA (AJ BZ (AJ Aj (AJ Ar (pv 0) AG) AG) AG) (AA (BS DJ rfl T.z_tuple YI (AA (Db [(1,"_law_signs"),(3,"_law_part")] [("_law_signs",_),("_law_part",_)] (Ax rfl T.z_range (AA (AJ Cr (pv 3) (pv 1)) AB)) (λ_ _ _ _=>Bx) (λ_ _ _ _=>(AJ Aj (AJ A8 (AJ Ar (pv 0) (pv 2)) (pv 0)) (pv 1)))) AB)) AB))))))))),?_⟩
 obtain⟨g,hg⟩:∃g:Int,g=2+c%5:=⟨_,rfl⟩;have g2:2<=g:=by lia
 have g6:g<=6:=by lia
 refine BC λN hN=>?_;walk_at "rd";refine⟨by decide,hN _ _ ?_⟩;clear hN N;rw[<-hg];clear hg;refine BC λN hN=>?_;walk_at "rd";obtain⟨m,hx,m3,m8,sz,wd⟩:=OQ g2 g6 (c/5);refine⟨by decide,by decide,by decide,by decide,by decide,by decide,by decide,by decide,by decide,by decide,λp hp=>⟨p,_,_,_,rfl,rfl,Ac.of AC,hx,hN _ _ ?_⟩⟩;clear hN N hx;have e1:=AF.new hp (.lst [V.int (5+c/5%4),V.int (4+c/5%2),V.int (3+c/5%2),V.int 3,V.int 3]);refine RB (λHX=>AF H HX) e1 ?_;clear e1 hp;intro H1 e1;refine BC λN hN=>?_;walk_at "rd";refine⟨g,_,rfl,g2,by lia,by lia,by lia,hN _ _ ?_⟩;clear hN N;rw[show ((m:Int)-1).toNat=m-1 by lia];have gp:=RW.Ap g2 (m-1);have gm:g^(m-1)*g=g^m:=by rw[<-Wg,show (m-1).succ=m by lia]
 walk_at "rd";have gmp:=RW.Ap g2 m;have gmm:=Bc g2 (show m-1<=m by lia);have hP:((g^(m-1)).toNat:Int)=g^(m-1):=by lia
 refine⟨by decide,by decide,by decide,_,rfl,_,rfl,_,_,rfl,rfl,.inr ⟨by lia,by lia⟩,_,rfl,by lia,by lia,λD hD=>?_⟩;rw[gm];refine BH (n:=(g^m).toNat) (λi acc Hx=>acc=((List.range i).map λk:Nat=>((k/(g^(m-1)).toNat+k:Nat):Int)%g).map V.int/\AF H1 Hx/\Hx D=some (.lst acc)) ⟨rfl,AF.new hD _,AC⟩ ?_ ?_
 ·rintro i acc Hx hi ⟨rfl,ex,hDx⟩;have ei:(0+(i:Int))/g^(m-1)+(0+(i:Int))=((i/(g^(m-1)).toNat+i:Nat):Int):=by rw[Wv,Int.natCast_add,XC,hP]
  walk_at "rd";rw[ei];refine⟨gp,by lia,by lia,hDx,?_,?_,ex.into hD,AC⟩
  ·rw[WD,WD,WV];exact AQ (by lia)
  ·rw[Ak,WN];rfl
 rintro acc H2 ⟨rfl,e2,h2⟩;obtain⟨gl,gf⟩:=KC g2 (c/20%9-4) (m:=m) (by lia);refine⟨D,rfl,_,.inl ⟨Ac.of h2,λl9 hl9=>⟨by decide,λp9 hp9=>?_⟩⟩⟩;have f8:=AF.new hl9 (.tup ((Bk g m).map V.int));have f9:=AF.new hp9 (.tup [.int g,.int (c/20%9-4),.ref l9]);exact q p9 g (c/20%9-4) (Bk g m) m _ _ m _ (((e1.trans e2).trans f8).trans f9) ⟨⟨l9,AC,f9 _ _ AC⟩,g2,by lia,by lia,m8,gl,sz,My g2 m⟩ gf wd
theorem Qk:AK ["_law_paper","_law_rules","_law_dues","_law_row","_law_k"] ["_law_paper","_law_rules","_law_dues","_law_row"] (AH Sd):=B0 (by decide +kernel)
theorem Uv(T:Bz K mg t)(G_10:Ag P w K mg base 13 t.f_10 ["_law_paper","_law_one"] (EO t.c_37 t.c_36))(G_27:Ag P w K mg base 13 t.f_27 ["_law_paper","_law_one","_law_due"] (Ee t.c_50 t.c_37 t.c_36 t.c_66))(G_29:Ag P w K mg base 2 t.f_29 ["_law_paper","_law_row"] (Ed t.c_37 t.c_36)):Ag P w K mg base 14 t.f_24 ["_law_paper","_law_rules","_law_dues","_law_row"] (Fx t.c_50 t.c_37 t.c_36 t.c_66):=by
 refine Aw T.d_24 Qk (λ_ _ _ _ _ _=>b4 λ_ _ _ _=>rfl) λvs H Q E h=>?_;obtain⟨x,pr,pd,a,r0,r1,r2,b0,b1,xs,rfl,hpr,hpd,ha,xl,ap,an0,an1,gr,q⟩:=h;refine⟨rfl,λcdv A outer s hr=>?_⟩
 refine⟨_,(AD (A9 PassesOwn.never rfl (BN (BB (Ah (Ah (Ah AB))))) (BK 4 Qk) (AE (Av (PW.pt (Cq (Bw (Bf (AT hr G_29 T.m_29 (AA (pv 0) (AA (pv 3) AB))))) (Ca (Bw (Bf (AT hr G_27 T.m_27 (AA (pv 0) (AA (AV Ay (pv 1) (pv 4) (λ_ _=>rfl)) (AA (AV Ay (pv 2) (pv 4) (λ_ _=>rfl)) AB))))))))) (AE (AL Bi)) AX)))
  (AE (AL (DG (AT hr G_10 T.m_10 (AA (pv 0) (AA (AV Ay (pv 1) AG (λ_ _=>rfl)) AB))) (DG (AT hr G_27 T.m_27 (AA (pv 0) (AA (AV Ay (pv 1) AG (λ_ _=>rfl)) (AA (AV Ay (pv 2) AG (λ_ _=>rfl)) AB)))) (D3 (B8 rfl T.z_isinstance (pv 0) (Fi rfl T.m_66)))))))),?_⟩
 refine B2 (λσ HX=>(∃x4,σ=[some (.ref x),some (.ref pr),some (.ref pd),some (.ref a),x4])/\AF H HX) (λN hN=>?_) ?_
 ·refine⟨by decide,λL hL=>⟨L,rfl,⟨_,Ac.of AC⟩,?_⟩⟩;have eL:=AF.new hL (.lst [V.int 0,V.int 1,V.int 0]);refine BP (xs:=[V.int 0,V.int 1,V.int 0]) (λi σ HX=>(∃x4,σ=[some (.ref x),some (.ref pr),some (.ref pd),some (.ref a),x4])/\AF (Ad H L (.lst [V.int 0,V.int 1,V.int 0])) HX) ⟨⟨none,rfl⟩,AF.refl _⟩ (λi σ HX _ z=>Ac.of (z.2 _ _ AC)) ?_ λσ HX z=>hN _ _ ⟨z.1,eL.trans z.2⟩
  rintro i v σ HA hv ⟨⟨x4,rfl⟩,eA⟩
  obtain⟨k,rk,bk,rfl,hrk,hbk,an⟩:∃(k:Nat) (rk:Addr) (bk:Bool),v=.int (k:Int)/\JZ [V.ref r0,V.ref r1,V.ref r2] (k:Int)=some (.ref rk)/\JZ [V.bl b0,V.bl b1] (k:Int)=some (.bl bk)/\FX t.c_50 t.c_37 t.c_36 t.c_66 H x rk bk:=by
   rcases i with _|_|_|i
   ·exact⟨0,r0,b0,(Option.some.inj hv).symm,rfl,rfl,an0⟩
   ·exact⟨1,r1,b1,(Option.some.inj hv).symm,rfl,rfl,an1⟩
   ·exact⟨0,r0,b0,(Option.some.inj hv).symm,rfl,rfl,an0⟩
   ·cases hv
  have eH:=eL.trans eA;walk_at "rd";refine⟨x,a,xs,rfl,ap.same eH,eH _ _ ha,xl,λH2 e2=>⟨true,rfl,?_⟩⟩;rw[if_neg (by decide)];have eH2:=eH.trans e2;refine⟨pr,_,_,_,rfl,rfl,Ac.of (eH2 _ _ hpr),hrk,pd,_,_,_,rfl,rfl,Ac.of (eH2 _ _ hpd),hbk,x,rk,bk,rfl,an.same eH2,λH3 e3=>⟨true,rfl,?_⟩⟩;rw[if_neg (by decide)];exact⟨⟨_,rfl⟩,(eA.trans e2).trans e3⟩
 rintro σ HX ⟨⟨x4,rfl⟩,eX⟩;walk_at "rd";obtain⟨g,lo,tab,m,lf,tf,mf,ok,fw,b9⟩:=gr;refine⟨pr,_,2,_,rfl,rfl,Ac.of (eX _ _ hpr),rfl,x,r2,xs,g,lo,tab,m,lf,tf,mf,rfl,ap.same eX,ok.same eX,fw,b9,λH2 e2=>⟨true,rfl,?_⟩⟩;rw[if_pos rfl];have e2':=eX.trans e2;refine⟨pr,_,0,_,rfl,rfl,Ac.of (e2' _ _ hpr),rfl,pd,_,0,_,rfl,rfl,Ac.of (e2' _ _ hpd),rfl,x,r0,b0,rfl,an0.same e2',λH3 e3=>⟨true,rfl,?_⟩⟩;rw[if_pos rfl];have e3':=e2'.trans e3;rcases ap with pv'|pv'
 ·obtain⟨dx,p,k1,k2⟩:=pv'.same e3';exact⟨_,T.th_37.ty k1,_,T.kt_37_66,q _ e3'⟩
 ·obtain⟨dx,p,k1,k2⟩:=pv'.same e3';exact⟨_,T.th_36.ty k1,_,T.kt_36_66,q _ e3'⟩
theorem IS:AK ["_law_script","_law_signs","_law_one","_law_word_here","_law_cell","_law_row","_law_at"] ["_law_script","_law_signs","_law_one"] (AH Se):=B0 (by decide +kernel)
theorem Uw(T:Bz K mg t)(G_70:Ag P w K mg base 12 t.f_70 ["one"] (LQ t.c_50 LP t.p_14))(G_9:Ag P w K mg base 1 t.f_9 ["_law_script","_law_k"] (Ik K)):Ag P w K mg base 13 t.f_41 ["_law_script","_law_signs","_law_one"] (Hb K t.p_14):=by
 refine Aw T.d_41 IS (λ_ _ _ _ _ _=>b3 λ_ _ _=>rfl) λvs H Q E h=>?_;obtain⟨a,r,ns,g,lo,tab,m,lf,tf,mf,rfl,hS,h63,ok,fw,s9,tbl,q⟩:=h;refine⟨rfl,λcdv A outer s hr=>?_⟩
 refine⟨_,(Ey.out (Ab (A3 (i:=3) IS.nd rfl (Or.inl rfl) (Ls CB) rfl (by first|exact .inl rfl|exact .inr rfl))
  (Ab (.of (A9 PassesOwn.never rfl (BN (BQ Bg (pv 0) (Bb AG) (Bb AG))) (BK 4 IS) (AE (Av (AN B7 (AJ Aj (pv 4) AG) AG (AS _)) (AE (A5 (By WT We Wf BD (pv 3) (AA (AJ BZ (AJ Aj (AJ Ar (pv 4) AG) (AJ A8 (pv 1) AG)) AG) AB)))) (AE (A5 (By WT We Wf BD (pv 3) (AA (AJ Aj (AJ Ar (pv 4) AG) (pv 1)) AB))))))))
  (Ab (A3 (i:=5) IS.nd rfl (Or.inl rfl) (.of (AT hr G_70 T.m_70 (AA (pv 2) AB))) rfl (by first|exact .inl rfl|exact .inr rfl))
  (Ab (ED (PW.pt (Ga (AN O3 (pv 5) IT (AS _)) (Ga (AN NP (AJ A8 (AU AM rfl T.z_len Wa (AA (pv 5) AB)) (AU AM rfl T.z_len Wa (AA (pv 3) AB))) AG (AS _)) (GM (AN B7 (AJ Aj (AJ Ar (AT hr G_9 T.m_9 (AA (pv 0) (Ah AB))) AG) AG) AG (AS _)))))) (Ab (A3 (i:=6) IS.nd rfl (Or.inl rfl) (.of (AJ Aj (AT hr G_9 T.m_9 (AA (pv 0) (Ah AB))) (AJ A8 (AU AM rfl T.z_len Wa (AA (pv 3) AB)) AG))) rfl (by first|exact .inl rfl|exact .inr rfl))
  (Bs (A3 (i:=3) IS.nd rfl (Or.inl rfl) (.of (AJ Dk (AJ Dk (BQ Bg (pv 3) Bm (Bb (pv 6))) (pv 5)) (BQ Bg (pv 3) (Bb (pv 6)) Bm))) rfl (by first|exact .inl rfl|exact .inr rfl)))) EV)
  (Bs (.of (AL (pv 3))))))))),?_⟩
 have g2:=ok.g2;have g9:=ok.g9;refine BC λN hN=>?_;walk_at "rd";refine⟨by decide,λp hp=>hN _ _ ?_⟩;clear hN N;have e1:=AF.new hp (.lst []);refine B2 (λσ HX=>∃x4 ws,σ=[some (.ref a),some (.int g),some (.ref r),some (.ref p),x4,none,none]/\FI H HX p ws/\ws.length<=60) (λN hN=>?_) ?_
 ·refine⟨_,rfl,3,rfl,63,rfl,?_⟩;refine CJ (e1.seq hS) λp2 H2 e2 n2 h2=>⟨p2,rfl,⟨_,Ac.of h2⟩,?_⟩
  rw[B9]at h2
  have cl:(DM ns (some 3) (some 63)).length<=60:=by have:=PZ ns (some 3) (some 63);unfold DM;rw[Wp];have ea:HT.GG ns.length 0 (some 3)=min 3 ns.length:=rfl;have eb:HT.GG ns.length ns.length (some 63)=min 63 ns.length:=rfl;rw[ea,eb];lia
  have hp2:H2 p=some (.lst (([]:List Int).map V.int)):=e2 _ _ AC;have e12:=e1.trans e2;have np2:p2≠p:=λz=>by rw[z,AC]at n2;cases n2
  refine BP (xs:=(DM ns (some 3) (some 63)).map V.int) (λi σ HX=>∃x4 ws,σ=[some (.ref a),some (.int g),some (.ref r),some (.ref p),x4,none,none]/\FI H HX p ws/\ws.length=i/\HX p2=some (.lst ((DM ns (some 3) (some 63)).map V.int))) ⟨none,[],rfl,⟨e12,hp,hp2⟩,rfl,h2⟩ (λi σ HX _ z=>by obtain⟨_,_,_,_,_,z⟩:=z;exact Ac.of z) ?_ ?_
  ·rintro i v σ HX hv ⟨x4,wsX,rfl,nX,wl,hX2⟩;obtain⟨n,hn,rfl⟩:=Bj hv;have hi:=(WF.mp hn).1;have add:∀v:Int,∃x_1,FI H (Ad HX p (.lst (wsX.map V.int++[V.int v]))) p x_1/\x_1.length=i+1/\Ad HX p (.lst (wsX.map V.int++[V.int v])) p2=some (.lst ((DM ns (some 3) (some 63)).map V.int)):=λv=>⟨wsX++[v],⟨nX.1.into nX.2.1,nX.2.1,by rw[AC,WN];rfl⟩,by rw[WI,wl];rfl,by rw[AI np2];exact hX2⟩
   have sml:(wsX.map V.int).length<sizeLine:=by rw[WD];exact AQ (by lia)
   walk_at "rd";refine⟨by decide,?_⟩;split
   ·exact⟨.inl ⟨_,Ac.of nX.2.2⟩,by decide,by decide,by lia,_,nX.2.2,sml,add _⟩
   ·exact⟨.inl ⟨_,Ac.of nX.2.2⟩,by decide,by decide,by lia,_,nX.2.2,sml,add _⟩
  ·rintro σ HX ⟨x4,ws,rfl,nX,wl,hX2⟩;rw[WD]at wl;exact hN _ _ ⟨x4,ws,rfl,nX,by lia⟩
 rintro σ H3 ⟨x4,ws,rfl,n3,w6⟩;have ok3:=ok.same n3.1;have tb3:=tbl.same n3.1;refine B2 (λσ HX=>∃x5,σ=[some (.ref a),some (.int g),some (.ref r),some (.ref p),x4,some x5,none]/\BX t.p_14 H3 HX/\BL LP (HL "sets_reached") t.p_14 HX/\(x5=.non\/∃D ys,x5=.ref D/\HX D=some (.lst (List.map V.int ys)))) (λN hN=>?_) ?_
 ·walk_at "rd";refine⟨r,g,lo,tab,m,lf,tf,mf,rfl,ok3,fw,tb3,λ_ A M f rA fM=>⟨λ_ H4 e4 t4=>hN _ _ ⟨.non,rfl,e4,t4,.inl rfl⟩,λ_ D H4 e4 t4 nD hD=>hN _ _ ⟨_,rfl,e4,t4,.inr ⟨D,_,rfl,hD⟩⟩⟩,λz=>absurd z (by lia)⟩
 rintro σ H4 ⟨x5,rfl,e4,t4,h5⟩;have e34:=(AF.toT n3.1).trans e4;have p4:=e4.get tb3 n3.2.2 λ_ z=>by cases z
 rcases h5 with rfl|⟨D,ys,rfl,hD⟩
 ·walk_at "rd";exact q p ws H4 e34 t4 p4 (by lia)
 refine B2 (λσ HX=>∃p' ws' x6,σ=[some (.ref a),some (.int g),some (.ref r),some (.ref p'),x4,some (.ref D),x6]/\AF H4 HX/\HX p'=some (.lst (List.map V.int ws'))/\ws'.length<=300) (λN hN=>?_) ?_
 ·have stay:∀HX,AF H4 HX->N [some (.ref a),some (.int g),some (.ref r),some (.ref p),x4,some (.ref D),none] HX:=λHX eX=>hN _ _ ⟨p,ws,none,rfl,eX,eX _ _ p4,by lia⟩
  walk_at "rd";refine⟨_,.inl (Ac.of hD),_,.inl (Ac.of p4),?_⟩;rw[WD,WD]
  by_cases y:(ys.length:Int)+(ws.length:Int)<=300
  ·rw[if_pos y];refine⟨a,ns,0,rfl,e34.seq tbl hS,h63,?_⟩;refine⟨_,rfl,by decide,by decide,by decide,?_⟩
   by_cases y2:ns.getD 0 0/2%2=0
   ·rw[if_pos y2];refine⟨a,ns,1,rfl,e34.seq tbl hS,h63,_,.inl (Ac.of p4),_,rfl,by lia,?_⟩;rw[WD];have d0:=W2 (ns.getD 1 0) (show (ws.length:Int)+1≠0 by lia);have d1:=Wu (ns.getD 1 0) (show 0<(ws.length:Int)+1 by lia);generalize ns.getD 1 0%((ws.length:Int)+1)=j at d0 d1⊢;have l1:=JP d0 (show j<=(ws.length:Int) by lia);have l2:=Ha d0 (show j<=(ws.length:Int) by lia);refine CJ (Ac.of p4) λp5 H5 e5 n5 h5=>?_;rw[B9]at h5;refine FH h5 (e5 _ _ hD) (by rw[WD,WD,l1];lia) λp6 H6 e6 n6 h6=>?_;refine CJ (Ac.of ((e5.trans e6) _ _ p4)) λp7 H7 e7 n7 h7=>?_;rw[B9]at h7;refine FH (e7 _ _ h6) h7 (by rw[WI,WD,WD,WD,l1,l2];lia) λp8 H8 e8 n8 h8=>?_;refine hN _ _ ⟨p8,DM ws none (some j)++ys++DM ws (some j) none,_,rfl,((e5.trans e6).trans e7).trans e8,by rw[h8,WN,WN],?_⟩;rw[WI,WI,l1,l2];lia
   ·rw[if_neg y2];exact stay _ (AF.refl _)
  ·rw[if_neg y];exact stay _ (AF.refl _)
 rintro σ H5 ⟨p',ws',x6,rfl,e5,h5,l5⟩;walk_at "rd";exact q p' ws' H5 (e34.trans (AF.toT e5)) (t4.same e5) h5 l5
theorem B5:AK ["_law_script","_law_first","_law_some","_law_shape","_law_one","_law_two","_law_rules","_law_sets_here","_law_cell","_law_row","_law_paper","_law_dues","_law_word_here","_law_other","_law_bare","_law_rule_asked"] ["_law_script"] (AH P3):=B0 (by decide +kernel)
theorem Ux{f:Addr}{fd:FuncData}(T:Bz K mg t)(F:BY K "law" "law" P3 f fd)(G_9:Ag P w K mg base 1 t.f_9 ["_law_script","_law_k"] (Ik K))(G_39:Ag P w K mg base 2 t.f_39 ["_law_shape","_law_way","_law_cell"] (HU))(G_40:Ag P w K mg base 2 t.f_40 ["_law_one"] (JM))(G_1:Ag P w K mg base 1 t.f_1 ["self","sets"] (HP t.c_37 "sets"))(G_41:Ag P w K mg base 13 t.f_41 ["_law_script","_law_signs","_law_one"] (Hb K t.p_14))(G_0:Ag P w K mg base 1 t.f_0 ["self","row"] (HP t.c_36 "row"))(G_26:Ag P w K mg base 2 t.f_26 ["_law_cell"] (Fw))(G_11:Ag P w K mg base 1 t.f_11 ["_law_sets_here","_law_way","_law_cell","_law_full"] (EN))(G_18:Ag P w K mg base 2 t.f_18 ["_law_one","_law_sets_here"] (Fv))(G_4:Ag P w K mg base 2 t.f_4 ["_law_one","_law_word_here"] (JN))(G_29:Ag P w K mg base 2 t.f_29 ["_law_paper","_law_row"] (Ed t.c_37 t.c_36))(G_24:Ag P w K mg base 14 t.f_24 ["_law_paper","_law_rules","_law_dues","_law_row"] (Fx t.c_50 t.c_37 t.c_36 t.c_66))(G_27:Ag P w K mg base 13 t.f_27 ["_law_paper","_law_one","_law_due"] (Ee t.c_50 t.c_37 t.c_36 t.c_66))(G_23:Ag P w K mg base 1 t.f_23 ["self"] (JK t.c_66))(G_6:Ag P w K mg base 1 t.f_6 ["self"] (E3 t.c_37 "sets"))(G_5:Ag P w K mg base 1 t.f_5 ["self"] (E3 t.c_36 "row")):Di P w K mg base (GH P w) 15 f fd ["_law_script"] (JE K [t.p_14]):=by
 refine F.okY B5 λvs H Q E h=>?_;obtain⟨a,ns,rfl,hS,h63,hT,q⟩:=h;refine⟨rfl,λcdv A outer s hr=>?_⟩
 refine⟨_,(Ey.out (Ab (A3 (i:=1) B5.nd rfl (Or.inl rfl) (.of (AT hr G_9 T.m_9 (AA (pv 0) (Ah AB)))) rfl (by first|exact .inl rfl|exact .inr rfl))
  (Ab (A3 (i:=2) B5.nd rfl (Or.inl rfl) (Ls (Bu (A6 (A6 CB)) (Bu (A6 (A6 CB)) (Bu (A6 (A6 CB)) (Bu (A6 (A6 CB)) (Bu (A6 (A6 CB)) (Bu (A6 (A6 CB)) (Bu (A6 (A6 CB)) (Bu (A6 (A6 CB)) (Bu (A6 (A6 CB)) CB)))))))))) rfl (by first|exact .inl rfl|exact .inr rfl))
  (Ab (A3 (i:=3) B5.nd rfl (Or.inl rfl) (.of (AV Ay (pv 2) (AJ Aj (pv 1) AG) (λ_ _=>rfl))) rfl (by first|exact .inl rfl|exact .inr rfl))
  (Ab (A3 (i:=4) B5.nd rfl (Or.inl rfl) (.of (AT hr G_39 T.m_39 (AA (pv 3) (AA (AJ Aj (AJ Ar (pv 1) AG) AG) (AA (AT hr G_9 T.m_9 (AA (pv 0) (Ah AB))) AB))))) rfl (by first|exact .inl rfl|exact .inr rfl))
  (Ab (A3 (i:=5) B5.nd rfl (Or.inl rfl) (.of (AT hr G_39 T.m_39 (AA (pv 3) (AA (AJ Aj (AJ Ar (pv 1) AG) AG) (AA (AT hr G_9 T.m_9 (AA (pv 0) (Ah AB))) AB))))) rfl (by first|exact .inl rfl|exact .inr rfl))
  (Ab (A3 (i:=6) B5.nd rfl (Or.inl rfl) (.of (BB (AA (pv 4) (AA (pv 5) (AA (AT hr G_26 T.m_26 (AA (AT hr G_9 T.m_9 (AA (pv 0) (Ah AB))) AB)) AB))))) rfl (by first|exact .inl rfl|exact .inr rfl))
  (Ab (A3 (i:=7) B5.nd rfl (Or.inl rfl) (.of (AT hr G_40 T.m_40 (AA (pv 4) AB))) rfl (by first|exact .inl rfl|exact .inr rfl))
  (Ab (A3 (i:=8) B5.nd rfl (Or.inl rfl) (.of (AJ Ar (AT hr G_9 T.m_9 (AA (pv 0) (Ah AB))) AG)) rfl (by first|exact .inl rfl|exact .inr rfl))
  (Ab (ED (AN Cs (AJ Aj (AT hr G_9 T.m_9 (AA (pv 0) (Ah AB))) AG) AG (AS _)) (Bs (A3 (i:=7) B5.nd rfl (Or.inl rfl) (.of (AT hr G_11 T.m_11 (AA (pv 7) (AA (AJ Aj (pv 8) AG) (AA (AJ Ar (pv 8) AG) (AA (AU (Jq rfl) rfl T.z_max PyProof.Rows.boot_max (AA (pv 7) AB)) AB)))))) rfl (by first|exact .inl rfl|exact .inr rfl))) EV)
  (Ab (ED (AN B7 (AJ Aj (pv 8) AG) AG (AS _)) (Bs (A3 (i:=7) B5.nd rfl (Or.inl rfl) (.of (Ih rfl rfl T.z_reversed rfl T.z_list (AA (pv 7) AB))) rfl (by first|exact .inl rfl|exact .inr rfl))) EV)
  (Ab (A3 (i:=9) B5.nd rfl (Or.inl rfl) (.of (BS BV rfl T.z_list Wr (AA (pv 7) AB))) rfl (by first|exact .inl rfl|exact .inr rfl))
  (Ab (A3 (i:=10) B5.nd rfl (Or.inl rfl) (.of (KI T.mk_37 G_1 (hr.mono (by decide)) rfl T.m_37 (AA (pv 9) AB))) rfl (by first|exact .inl rfl|exact .inr rfl))
  (Ab (.of (A5 (By WT We Wf BD (pv 9) (Ah AB))))
  (Ab (A3 (i:=11) B5.nd rfl (Or.inl rfl) (.of (BB (AA (AT hr G_18 T.m_18 (AA (pv 4) (AA (pv 7) AB))) (AA (AT hr G_18 T.m_18 (AA (pv 5) (AA (pv 7) AB))) AB)))) rfl (by first|exact .inl rfl|exact .inr rfl))
  (Ab (ED (PW.pt (Cq (Bw (Bf (AT hr G_24 T.m_24 (AA (pv 10) (AA (pv 6) (AA (pv 11) (AA (pv 7) AB))))))) (Ca (Bf (B8 rfl T.z_isinstance (pv 10) (Fi rfl T.m_36)))))) (Bs (.of (AL Bi))) EV)
  (Ab (A3 (i:=12) B5.nd rfl (Or.inl rfl) (.of (AT hr G_41 T.m_41 (AA (pv 0) (AA (AV Af (pv 3) AG (λ_ _=>rfl)) (AA (pv 4) AB))))) rfl (by first|exact .inl rfl|exact .inr rfl))
  (Ab (A3 (i:=9) B5.nd rfl (Or.inl rfl) (.of (BS BV rfl T.z_list Wr (AA (pv 12) AB))) rfl (by first|exact .inl rfl|exact .inr rfl))
  (Ab (A3 (i:=13) B5.nd rfl (Or.inl rfl) (.of (KI T.mk_36 G_0 (hr.mono (by decide)) rfl T.m_36 (AA (pv 9) AB))) rfl (by first|exact .inl rfl|exact .inr rfl))
  (Ab (.of (A5 (By WT We Wf BD (pv 9) (Ah AB))))
  (Ab (A3 (i:=11) B5.nd rfl (Or.inl rfl) (.of (BB (AA (AT hr G_4 T.m_4 (AA (pv 4) (AA (pv 12) AB))) (AA (AT hr G_4 T.m_4 (AA (pv 5) (AA (pv 12) AB))) AB)))) rfl (by first|exact .inl rfl|exact .inr rfl))
  (Ab (ED (PW.pt (Cq (Bw (Bf (AT hr G_24 T.m_24 (AA (pv 13) (AA (pv 6) (AA (pv 11) (AA (pv 12) AB))))))) (Ca (Bf (B8 rfl T.z_isinstance (pv 13) (Fi rfl T.m_37)))))) (Bs (.of (AL Bi))) EV)
  (Ab (A3 (i:=14) B5.nd rfl (Or.inl rfl) (.of (Og T.mz_66 rfl T.m_66)) rfl (by first|exact .inl rfl|exact .inr rfl))
  (Ab (.of (A9 PassesOwn.never rfl (BN (pv 6)) (BK 15 B5) (AE (Av (Bw (Bf (AT hr G_27 T.m_27 (AA (pv 14) (AA (pv 15) (AA Bi AB)))))) (AE (AL Bi)) AX))))
  (Bs (.of (AL (DG (EQ (RC hr.units) (EH (Ck (pv 14) T.th_66.cl T.me_23 G_23 (hr.mono (by decide)) Dx) (EH (Ck (pv 14) T.th_37.cl T.me_6 G_6 (hr.mono (by decide)) Dx) (Ck (pv 14) T.th_36.cl T.me_5 G_5 (hr.mono (by decide)) Dx))) (Dh AB) (AS _)) (D3 (AT hr G_29 T.m_29 (AA (pv 10) (AA (pv 7) AB)))))))))))))))))))))))))))))))),?_⟩
 have tb0:BL LP (HL "sets_reached") t.p_14 H:=BL.start (hT _ (WE.mpr rfl));refine BC λN hN=>?_;walk_at "rd";refine⟨a,ns,0,rfl,hS,h63,hN _ _ ?_⟩;clear hN N;obtain⟨c0,hc0⟩:∃c:Int,c=ns.getD 0 0:=⟨_,rfl⟩;rw[<-hc0];have z0:=W2 c0 (show (9:Int)≠0 by decide);have z1:=Wu c0 (show (0:Int)<9 by decide);refine BC λN hN=>?_;have eT:(BE (E7 (BE (tC (V.int 2)) (BE (tC (V.int 3)) Ct))) (BE (E7 (BE (tC (V.int 2)) (BE (tC (V.int 4)) Ct))) (BE (E7 (BE (tC (V.int 3)) (BE (tC (V.int 2)) Ct))) (BE (E7 (BE (tC (V.int 4)) (BE (tC (V.int 2)) Ct))) (BE (E7 (BE (tC (V.int 2)) (BE (tC (V.int 2)) Ct))) (BE (E7 (BE (tC (V.int 3)) (BE (tC (V.int 3)) Ct))) (BE (E7 (BE (tC (V.int 5)) (BE (tC (V.int 2)) Ct))) (BE (E7 (BE (tC (V.int 6)) (BE (tC (V.int 2)) Ct))) (BE (E7 (BE (tC (V.int 2)) (BE (tC (V.int 1)) Ct))) Ct)))))))))=Lx KO:=rfl;rw[eT];refine RX (OW (by decide) (by decide) λqs H0 e0 hv ps hps=>hN _ _ ?_);clear hN N eT;obtain⟨k,hk⟩:∃k:Nat,(k:Int)=c0%9:=⟨(c0%9).toNat,by lia⟩;have kl:k<9:=by lia
 have e01:=AF.new hps (.lst (qs.map V.ref));obtain⟨sh,hqs⟩:∃b,qs[k]?=some b:=⟨_,WJ (by rw[hv.n];exact kl)⟩;obtain⟨g,m,hw,shp⟩:=KP k kl;refine BC λN hN=>?_;walk_at "rd";refine⟨by decide,ps,_,_,.ref sh,rfl,rfl,Ac.of AC,(by rw[<-hk];exact C8 (by rw[WO,hqs];rfl)),hN _ _ ?_⟩;clear hN N;have e1:=e0.trans e01;have hsh:Ad H0 ps (.lst (qs.map V.ref)) sh=some (.tup [.int g,.int ((m:Nat):Int)]):=e01 _ _ (hv.e k sh _ hqs hw);generalize Ad H0 ps (.lst (qs.map V.ref))=H1 at e1 hsh⊢;clear e0 e01 hv hps H0 hqs hw hk kl k z0 z1;have g2:=shp.1;have g6:=shp.2.1;refine B2 (λσ HX=>∃(one two:Addr) (t1 t2:List Int),σ=[some (.ref a),some (.int c0),some (.ref ps),some (.ref sh),some (.ref one),none,none,none,none,none,none,none,none,none,none,none]/\AF H1 HX/\FY HX one g t1) (λN hN=>?_) ?_
 ·walk_at "rd";exact⟨by decide,by decide,by decide,a,ns,1,rfl,e1.seq hS,h63,sh,g,_,_,m,rfl,hsh,shp,λone lo tab H2 e2 ok=>by obtain⟨tf,sm⟩:=FY.of ok shp;exact hN _ _ ⟨one,one,tf,tf,rfl,e2,sm⟩⟩
 rintro σ H2 ⟨one,_,t1,_,rfl,e2,sm1⟩;refine B2 (λσ HX=>∃(two:Addr) (t2:List Int),σ=[some (.ref a),some (.int c0),some (.ref ps),some (.ref sh),some (.ref one),some (.ref two),none,none,none,none,none,none,none,none,none,none]/\AF H2 HX/\FY HX two g t2) (λN hN=>?_) ?_
 ·walk_at "rd";exact⟨by decide,by decide,by decide,a,ns,2,rfl,(e1.trans e2).seq hS,h63,sh,g,_,_,m,rfl,e2 _ _ hsh,shp,λtwo lo tab H3 e3 ok=>by obtain⟨tf,sm⟩:=FY.of ok shp;exact hN _ _ ⟨two,tf,rfl,e3,sm⟩⟩
 rintro σ H3 ⟨two,t2,rfl,e3,sm2⟩;have e13:=(e1.trans e2).trans e3;refine B2 (λσ HX=>∃(pr gt:Addr),σ=[some (.ref a),some (.int c0),some (.ref ps),some (.ref sh),some (.ref one),some (.ref two),some (.ref pr),none,none,none,none,none,none,none,none,none]/\AF H3 HX/\HX pr=some (.lst [.ref one,.ref two,.ref gt])/\DF HX gt) (λN hN=>?_) ?_
 ·walk_at "rd";refine⟨a,ns,2,rfl,e13.seq hS,h63,_,rfl,λgt g' lo' tab' m' lf' tf' mf' H4 e4 ok4 fw4 b4=>⟨by decide,λpr hpr=>?_⟩⟩;have f:=AF.new hpr (.lst [V.ref one,V.ref two,V.ref gt]);exact hN _ _ ⟨pr,gt,rfl,e4.trans f,AC,g',lo',tab',m',lf',tf',mf',ok4.same f,fw4,b4⟩
 rintro σ H4 ⟨pr,gt,rfl,e4,hpr,gr⟩;have e14:=e13.trans e4;have s14:=(e2.trans e3).trans e4;have hsh4:=s14 _ _ hsh;replace sm1:=sm1.same (e3.trans e4);replace sm2:=sm2.same e4;clear hsh e2 e3 s14 e13;obtain⟨lo1,tab1,m1,lf1,mf1,ok1,fw1,s91⟩:=id sm1;obtain⟨hn1,hl1⟩:=Br g2 ok1.len fw1;have gp1:=RW.Ap g2 (mf1-1);refine B2 (λσ HX=>∃(st:Addr) (A:List Int),σ=[some (.ref a),some (.int c0),some (.ref ps),some (.ref sh),some (.ref one),some (.ref two),some (.ref pr),some (.ref st),none,none,none,none,none,none,none,none]/\AF H4 HX/\HX st=some (.lst (A.map V.int))/\A.length<=512/\∃n∈A,1<=n) (λN hN=>?_) ?_
 ·walk_at "rd";refine⟨one,g,lo1,tab1,m1,lf1,t1,mf1,rfl,ok1,fw1,s91,λst H5 A n5 rA lA=>hN _ _ ⟨st,A,rfl,n5.1,n5.2.2,?_,Ae g t1,?_,?_⟩⟩
  ·have:=Cn rA.nd lA;have:=FU (show t1.length/g.toNat<=9 by lia);lia
  ·exact rA.st _ (WE.mpr rfl)
  ·have p1:=Nat.pow_le_pow_right (show 0<2 by decide) (show 1<=t1.length/g.toNat by lia);unfold Ae;have:((2^(t1.length/g.toNat):Nat):Int)=2^(t1.length/g.toNat):=by rw[Int.natCast_pow];rfl
   lia
 rintro σ H5 ⟨st,A,rfl,e5,hst,lA,n1,hn1A,n1p⟩;refine BC λN hN=>?_;walk_at "rd";refine⟨a,ns,2,rfl,(e14.trans e5).seq hS,h63,_,rfl,by decide,by decide,hN _ _ ?_⟩;clear hN N;generalize ns.getD 2 0/16=cl;refine B2 (λσ HX=>∃(st:Addr) (A:List Int),σ=[some (.ref a),some (.int c0),some (.ref ps),some (.ref sh),some (.ref one),some (.ref two),some (.ref pr),some (.ref st),some (.int cl),none,none,none,none,none,none,none]/\AF H4 HX/\HX st=some (.lst (A.map V.int))/\A.length<=513) (λN hN=>?_) ?_
 ·walk_at "rd";refine⟨a,ns,2,rfl,(e14.trans e5).seq hS,h63,_,rfl,by decide,?_⟩;split
  ·refine⟨by decide,by decide,by decide,A,Ac.of hst,List.length_pos_of_mem hn1A,λmx _ hmx=>?_⟩;have:=hmx n1 hn1A;exact⟨st,A,_,_,mx,rfl,hst,by lia,List.length_pos_of_mem hn1A,by lia,by lia,λp A' H6 e6 h6 l6=>hN _ _ ⟨p,A',rfl,e5.trans e6,h6,by lia⟩⟩
  ·exact hN _ _ ⟨st,A,rfl,e5,hst,by lia⟩
 clear hst lA hn1A n1p;rintro σ H6 ⟨st,A,rfl,e6,hst,lA⟩;refine B2 (λσ HX=>∃(st:Addr) (A:List Int),σ=[some (.ref a),some (.int c0),some (.ref ps),some (.ref sh),some (.ref one),some (.ref two),some (.ref pr),some (.ref st),some (.int cl),none,none,none,none,none,none,none]/\AF H4 HX/\HX st=some (.lst (A.map V.int))/\A.length<=513) (λN hN=>?_) ?_
 ·walk_at "rd";refine⟨by decide,?_⟩;split
  ·exact⟨_,Ac.of hst,λp hp=>hN _ _ ⟨p,A.reverse,rfl,e6.trans (AF.new hp _),by rw[AC,X7],by rw[XE];exact lA⟩⟩
  ·exact hN _ _ ⟨st,A,rfl,e6,hst,lA⟩
 clear hst lA e6 A st;rintro σ H7 ⟨st,A,rfl,e7,hst,lA⟩;refine B2 (λσ HX=>∃(row:Addr),σ=[some (.ref a),some (.int c0),some (.ref ps),some (.ref sh),some (.ref one),some (.ref two),some (.ref pr),some (.ref st),some (.int cl),some (.ref row),none,none,none,none,none,none]/\FI H7 HX row A) (λN hN=>?_) ?_
 ·walk_at "rd";exact⟨_,.inl (Ac.of hst),λrow hrow=>hN _ _ ⟨row,rfl,AF.new hrow _,hrow,AC⟩⟩
 rintro σ H8 ⟨row,rfl,n8⟩;refine B2 (λσ HX=>∃(x:Addr),σ=[some (.ref a),some (.int c0),some (.ref ps),some (.ref sh),some (.ref one),some (.ref two),some (.ref pr),some (.ref st),some (.int cl),some (.ref row),some (.ref x),none,none,none,none,none]/\AF H8 HX/\∃dx p,HX x=some (.ins t.c_37 dx [("sets",.ref p)])/\HX p=some (.lst (A.map V.int))/\H8 p=none/\H8 x=none) (λN hN=>?_) ?_
 ·refine⟨_,rfl,λx dx hx' hdx ne'=>?_⟩;have m1:=AF.new hdx (.own x);have hx2:Ad H8 dx (.own x) x=none:=by rw[AI (λe=>ne' e.symm)];exact hx'
  have mm:=m1.trans (AF.new hx2 (.ins t.c_37 dx []));exact⟨x,dx,row,A,rfl,AC,mm _ _ n8.2.2,λp H' sm h1 h2 n=>⟨rfl,hN _ _ ⟨x,rfl,sm H8 mm hx',dx,p,h1,h2,mm.free n,hx'⟩⟩⟩
 rintro σ H9 ⟨x,rfl,e9,dx,p,hx,hp,np,nx⟩;refine B2 (λσ HX=>σ=[some (.ref a),some (.int c0),some (.ref ps),some (.ref sh),some (.ref one),some (.ref two),some (.ref pr),some (.ref st),some (.int cl),some (.ref row),some (.ref x),none,none,none,none,none]/\AF H7 HX/\FV HX x t.c_37 "sets" A) (λN hN=>?_) ?_
 ·have h9:=e9 _ _ n8.2.2;walk_at "rd";refine⟨.inl ⟨_,Ac.of h9⟩,_,h9,by rw[WD];exact AQ (by lia),hN _ _ ⟨rfl,(n8.1.trans e9).into n8.2.1,dx,p,?_,?_⟩⟩
  ·rw[AI (λe=>by rw[e,n8.2.2]at nx;cases nx)];exact hx
  ·rw[AI (λe=>by rw[e,n8.2.2]at np;cases np)];exact hp
 rintro σ H10 ⟨rfl,e10,pv10⟩;have e410:=e7.trans e10;have hst10:=e10 _ _ hst;replace sm1:=sm1.same e410;replace sm2:=sm2.same e410;replace gr:=gr.same e410;replace hpr:=e410 _ _ hpr;have hsh10:=e410 _ _ hsh4;have e110:=e14.trans e410;clear e410 hsh4 e10 hx hp np nx e9 n8 H8 H9 e7 hst H7;obtain⟨lo2,tab2,m2,lf2,mf2,ok2,fw2,s92⟩:=id sm2;clear ok1 fw1 s91 hn1 hl1 gp1;obtain⟨lo1,tab1,m1,lf1,mf1,ok1,fw1,s91⟩:=id sm1;refine B2 (λσ HX=>∃(pd:Addr) (b0 b1:Bool),σ=[some (.ref a),some (.int c0),some (.ref ps),some (.ref sh),some (.ref one),some (.ref two),some (.ref pr),some (.ref st),some (.int cl),some (.ref row),some (.ref x),some (.ref pd),none,none,none,none]/\AF H10 HX/\HX pd=some (.lst [.bl b0,.bl b1])/\(b0=true↔Cj g t1 A)/\(b1=true↔Cj g t2 A)) (λN hN=>?_) ?_
 ·walk_at "rd";refine⟨one,st,g,lo1,tab1,m1,lf1,t1,mf1,A,rfl,ok1,fw1,s91,hst10,by lia,λb0 H11 e11 hb0=>⟨two,st,g,lo2,tab2,m2,lf2,t2,mf2,A,rfl,ok2.same e11,fw2,s92,e11 _ _ hst10,by lia,λb1 H12 e12 hb1=>⟨by decide,λpd hpd=>?_⟩⟩⟩;exact hN _ _ ⟨pd,b0,b1,rfl,(e11.trans e12).trans (AF.new hpd _),AC,hb0,hb1⟩
 rintro σ H11 ⟨pd,b0,b1,rfl,e11,hpd,hb0,hb1⟩;refine B2 (λσ HX=>σ=[some (.ref a),some (.int c0),some (.ref ps),some (.ref sh),some (.ref one),some (.ref two),some (.ref pr),some (.ref st),some (.int cl),some (.ref row),some (.ref x),some (.ref pd),none,none,none,none]/\AF H10 HX) (λN hN=>?_) ?_
 ·have pv11:=pv10.same e11;walk_at "rd";refine⟨x,pr,pd,st,one,two,gt,b0,b1,A,rfl,e11 _ _ hpr,hpd,e11 _ _ hst10,by lia,.inl pv11,Tj pv11 (sm1.same e11) (by lia) hb0,Tj pv11 (sm2.same e11) (by lia) hb1,gr.same e11,λH12 e12=>⟨true,rfl,?_⟩⟩;rw[if_neg (by decide)];obtain⟨dx,p,k1,k2⟩:=pv11.same e12;refine⟨_,T.th_37.ty k1,_,T.kt_37_36,?_⟩;rw[if_neg (by decide)];exact hN _ _ ⟨rfl,e11.trans e12⟩
 rintro σ H12 ⟨rfl,e12⟩;clear hpd hb0 hb1 e11 H11;have tb12:BL LP (HL "sets_reached") t.p_14 H12:=tb0.same (e110.trans e12);refine B2 (λσ HX=>∃(wd:Addr) (ws:List Int),σ=[some (.ref a),some (.int c0),some (.ref ps),some (.ref sh),some (.ref one),some (.ref two),some (.ref pr),some (.ref st),some (.int cl),some (.ref row),some (.ref x),some (.ref pd),some (.ref wd),none,none,none]/\BX t.p_14 H12 HX/\HX wd=some (.lst (ws.map V.int))/\ws.length<=300) (λN hN=>?_) ?_
 ·walk_at "rd";refine⟨sh,_,0,_,rfl,rfl,Ba.of (e12 _ _ hsh10),rfl,a,one,ns,g,lo1,tab1,m1,lf1,t1,mf1,rfl,(e110.trans e12).seq hS,h63,ok1.same e12,fw1,s91,tb12,λwd ws H13 e13 _ h13 l13=>hN _ _ ⟨wd,ws,rfl,e13,h13,l13⟩⟩
 rintro σ H13 ⟨wd,ws,rfl,e13,hwd,wl⟩;replace sm1:=(sm1.same e12).sameT e13 tb12;replace sm2:=(sm2.same e12).sameT e13 tb12;replace gr:=(gr.same e12).sameT e13 tb12;replace hpr:=e13.get tb12 (e12 _ _ hpr) λ_ z=>by cases z
 replace pv10:=(pv10.same e12).sameT e13 tb12;replace hst10:=e13.get tb12 (e12 _ _ hst10) λ_ z=>by cases z
 clear tb12 e13 e12 H12 e110 hsh10 ok1 ok2 fw1 fw2 s91 s92 lo1 lo2 lf1 lf2 mf1 mf2 tab1 tab2 m1 m2 hS tb0 hT e14 e1;refine B2 (λσ HX=>∃(r9:Addr),σ=[some (.ref a),some (.int c0),some (.ref ps),some (.ref sh),some (.ref one),some (.ref two),some (.ref pr),some (.ref st),some (.int cl),some (.ref r9),some (.ref x),some (.ref pd),some (.ref wd),none,none,none]/\FI H13 HX r9 ws) (λN hN=>?_) ?_
 ·walk_at "rd";exact⟨_,.inl (Ac.of hwd),λrow hrow=>hN _ _ ⟨row,rfl,AF.new hrow _,hrow,AC⟩⟩
 rintro σ H14 ⟨r9,rfl,n8⟩;refine B2 (λσ HX=>∃(y:Addr),σ=[some (.ref a),some (.int c0),some (.ref ps),some (.ref sh),some (.ref one),some (.ref two),some (.ref pr),some (.ref st),some (.int cl),some (.ref r9),some (.ref x),some (.ref pd),some (.ref wd),some (.ref y),none,none]/\AF H14 HX/\∃dx p,HX y=some (.ins t.c_36 dx [("row",.ref p)])/\HX p=some (.lst (ws.map V.int))/\H14 p=none/\H14 y=none) (λN hN=>?_) ?_
 ·refine⟨_,rfl,λx dx hx' hdx ne'=>?_⟩;have m1:=AF.new hdx (.own x);have hx2:Ad H14 dx (.own x) x=none:=by rw[AI (λe=>ne' e.symm)];exact hx'
  have mm:=m1.trans (AF.new hx2 (.ins t.c_36 dx []));exact⟨x,dx,r9,ws,rfl,AC,mm _ _ n8.2.2,λp H' sm h1 h2 n=>⟨rfl,hN _ _ ⟨x,rfl,sm H14 mm hx',dx,p,h1,h2,mm.free n,hx'⟩⟩⟩
 rintro σ H15 ⟨y,rfl,e9,dx,p,hx,hp,np,nx⟩;refine B2 (λσ HX=>σ=[some (.ref a),some (.int c0),some (.ref ps),some (.ref sh),some (.ref one),some (.ref two),some (.ref pr),some (.ref st),some (.int cl),some (.ref r9),some (.ref x),some (.ref pd),some (.ref wd),some (.ref y),none,none]/\AF H13 HX/\FV HX y t.c_36 "row" ws) (λN hN=>?_) ?_
 ·have h9:=e9 _ _ n8.2.2;walk_at "rd";refine⟨.inl ⟨_,Ac.of h9⟩,_,h9,by rw[WD];exact AQ (by lia),hN _ _ ⟨rfl,(n8.1.trans e9).into n8.2.1,dx,p,?_,?_⟩⟩
  ·rw[AI (λe=>by rw[e,n8.2.2]at nx;cases nx)];exact hx
  ·rw[AI (λe=>by rw[e,n8.2.2]at np;cases np)];exact hp
 rintro σ H16 ⟨rfl,e16,pv16⟩;clear hx hp np nx e9 n8 H14 H15;replace sm1:=sm1.same e16;replace sm2:=sm2.same e16;replace gr:=gr.same e16;replace hpr:=e16 _ _ hpr;replace pv10:=pv10.same e16;replace hst10:=e16 _ _ hst10;replace hwd:=e16 _ _ hwd;clear e16 H13;obtain⟨lo1,tab1,m1,lf1,mf1,ok1,fw1,s91⟩:=id sm1;obtain⟨lo2,tab2,m2,lf2,mf2,ok2,fw2,s92⟩:=id sm2;refine B2 (λσ HX=>∃(p9:Addr) (b0 b1:Bool),σ=[some (.ref a),some (.int c0),some (.ref ps),some (.ref sh),some (.ref one),some (.ref two),some (.ref pr),some (.ref st),some (.int cl),some (.ref r9),some (.ref x),some (.ref p9),some (.ref wd),some (.ref y),none,none]/\AF H16 HX/\HX p9=some (.lst [.bl b0,.bl b1])/\(b0=true↔GC g t1 ws)/\(b1=true↔GC g t2 ws)) (λN hN=>?_) ?_
 ·walk_at "rd";refine⟨one,wd,g,lo1,tab1,m1,lf1,t1,mf1,ws,rfl,ok1,fw1,s91,hwd,λb0 H11 e11 hb0=>⟨two,wd,g,lo2,tab2,m2,lf2,t2,mf2,ws,rfl,ok2.same e11,fw2,s92,e11 _ _ hwd,λb1 H12 e12 hb1=>⟨by decide,λpd hpd=>?_⟩⟩⟩;exact hN _ _ ⟨pd,b0,b1,rfl,(e11.trans e12).trans (AF.new hpd _),AC,hb0,hb1⟩
 rintro σ H17 ⟨p9,b0,b1,rfl,e17,hpd,hb0,hb1⟩;refine B2 (λσ HX=>σ=[some (.ref a),some (.int c0),some (.ref ps),some (.ref sh),some (.ref one),some (.ref two),some (.ref pr),some (.ref st),some (.int cl),some (.ref r9),some (.ref x),some (.ref p9),some (.ref wd),some (.ref y),none,none]/\AF H16 HX) (λN hN=>?_) ?_
 ·have pv11:=pv16.same e17;walk_at "rd";refine⟨y,pr,p9,wd,one,two,gt,b0,b1,ws,rfl,e17 _ _ hpr,hpd,e17 _ _ hwd,by lia,.inr pv11,Tk pv11 (sm1.same e17) (by lia) hb0,Tk pv11 (sm2.same e17) (by lia) hb1,gr.same e17,λH12 e12=>⟨true,rfl,?_⟩⟩;rw[if_neg (by decide)];obtain⟨dx,p,k1,k2⟩:=pv11.same e12;refine⟨_,T.th_36.ty k1,_,T.kt_36_37,?_⟩;rw[if_neg (by decide)];exact hN _ _ ⟨rfl,e17.trans e12⟩
 clear hpd hb0 hb1 e17 H17 b0 b1;rintro σ H18 ⟨rfl,e18⟩;refine B2 (λσ HX=>∃(z dz:Addr),σ=[some (.ref a),some (.int c0),some (.ref ps),some (.ref sh),some (.ref one),some (.ref two),some (.ref pr),some (.ref st),some (.int cl),some (.ref r9),some (.ref x),some (.ref p9),some (.ref wd),some (.ref y),some (.ref z),none]/\AF H18 HX/\HX z=some (.ins t.c_66 dz [])) (λN hN=>?_) ?_
 ·intro z dz hz hdz ne;have m1:=AF.new hdz (.own z);have hz2:Ad H18 dz (.own z) z=none:=by rw[AI (λe=>ne e.symm)];exact hz
  exact hN _ _ ⟨z,dz,rfl,m1.trans (AF.new hz2 _),AC⟩
 rintro σ H19 ⟨z,dz,rfl,e19,hz⟩;have e1619:=e18.trans e19;refine B2 (λσ HX=>∃x15,σ=[some (.ref a),some (.int c0),some (.ref ps),some (.ref sh),some (.ref one),some (.ref two),some (.ref pr),some (.ref st),some (.int cl),some (.ref r9),some (.ref x),some (.ref p9),some (.ref wd),some (.ref y),some (.ref z),x15]/\AF H19 HX) (λN hN=>?_) ?_
 ·refine⟨_,rfl,pr,rfl,⟨_,Ac.of (e1619 _ _ hpr)⟩,?_⟩;refine BP (xs:=[V.ref one,V.ref two,V.ref gt]) (λi σ HX=>∃x15,σ=[some (.ref a),some (.int c0),some (.ref ps),some (.ref sh),some (.ref one),some (.ref two),some (.ref pr),some (.ref st),some (.int cl),some (.ref r9),some (.ref x),some (.ref p9),some (.ref wd),some (.ref y),some (.ref z),x15]/\AF H19 HX) ⟨none,rfl,AF.refl _⟩ (λi σ HX _ w=>by obtain⟨_,_,w⟩:=w;exact Ac.of ((e1619.trans w) _ _ hpr)) ?_ λσ HX w=>hN _ _ w
  rintro i v σ HX hv ⟨x15,rfl,eX⟩
  obtain⟨r,rfl⟩:∃r:Addr,v=.ref r:=by
   rcases i with _|_|_|i
   ·exact⟨one,(Option.some.inj hv).symm⟩
   ·exact⟨two,(Option.some.inj hv).symm⟩
   ·exact⟨gt,(Option.some.inj hv).symm⟩
   ·cases hv
  walk_at "rd";refine⟨z,r,false,rfl,.p rfl ⟨dz,eX _ _ hz⟩,λH' e'=>⟨true,rfl,?_⟩⟩;rw[if_neg (by decide)];exact eX.trans e'
 rintro σ H20 ⟨x15,rfl,e20⟩;have e1620:=e1619.trans e20;have hz20:=e20 _ _ hz;refine .inl ⟨_,rfl,z,dz,_,rfl,hz20,rfl,?_⟩;refine⟨z,rfl,λtt H21 e21 h21=>?_⟩;refine⟨by decide,λp1 hp1=>?_⟩;have f1:=AF.new hp1 (.tup []);refine⟨_,_,.tup (Ba.of (f1 _ _ h21)) .nil,.tup (Ba.of AC) .nil,rfl,rfl,by decide,?_⟩;refine⟨true,by rfl,?_⟩;rw[if_pos rfl];have eE:=(e1620.trans e21).trans f1;exact⟨_,rfl,_,rfl,x,st,A,rfl,.inl (pv10.same eE),eE _ _ hst10,by lia,λH' _=>q H'⟩
end
theorem Sf{l:PySem.W.OpenLaw}{w:World}{K:PySem.W.Frag}{h:Heap}{mg:Str->Option Value}{fa c_47 c_59 c_65 c_60 c_46 c_50 c_66 c_37 c_36 f_8 f_49 f_52 f_53 f_33 f_12 f_44 f_58 f_32 f_35 f_16 f_20 f_71 f_63 f_43 f_45 f_68 f_64 f_56 f_21 f_61 f_48 f_7 f_42 f_62 f_57 f_67 f_69 f_34 f_51 f_15 f_55 f_54 f_22 f_13 f_14 f_70 f_23 f_17 f_1 f_6 f_31 f_3 f_0 f_5 f_2 f_30 f_9 f_19 f_28 f_39 f_25 f_38 f_40 f_11 f_18 f_4 f_29 f_27 f_10 f_26 f_24 f_41 f_72 cc_14 p_14:Addr}{g_LONGEST_TABLE g_MOST_NODES:Tok}(X:K.In h)(G:h.Ns mainGlobals mg)(hfa:mg "law"=some (.ref fa))
  (n_47:PySem.W.nsIn K mainGlobals "RowError"=some (some (.ref c_47)))
  (n_59:PySem.W.nsIn K mainGlobals "NoRule"=some (some (.ref c_59)))
  (n_65:PySem.W.nsIn K mainGlobals "NoRow"=some (some (.ref c_65)))
  (n_60:PySem.W.nsIn K mainGlobals "NoSuch"=some (some (.ref c_60)))
  (n_46:PySem.W.nsIn K mainGlobals "NoWindow"=some (some (.ref c_46)))
  (n_50:PySem.W.nsIn K mainGlobals "TooWide"=some (some (.ref c_50)))
  (n_66:PySem.W.nsIn K mainGlobals "Paper"=some (some (.ref c_66)))
  (n_37:PySem.W.nsIn K mainGlobals "OntoPaper"=some (some (.ref c_37)))
  (n_36:PySem.W.nsIn K mainGlobals "LostPaper"=some (some (.ref c_36)))
  (a_8:PySem.W.findIn K (.ref c_65) "__init__"=some (some (.ref f_8)))
  (h_8:∃fd,BY K "__init__" "NoRow.__init__" VV f_8 fd)
  (h_49:AZ K "is_whole" Rj f_49)
  (h_52:AZ K "is_sign" Rk f_52)
  (h_53:AZ K "is_word" Rl f_53)
  (h_33:AZ K "check_word" Rm f_33)
  (h_12:AZ K "check_length" Rn f_12)
  (h_44:AZ K "number_of" Ro f_44)
  (h_58:AZ K "word_of" Rp f_58)
  (h_32:AZ K "check_head" Rq f_32)
  (h_35:AZ K "places_for" Rr f_35)
  (h_16:AZ K "table_length" Rs f_16)
  (h_20:AZ K "check_table" Rt f_20)
  (h_71:AZ K "rule" Ru f_71)
  (h_63:AZ K "places" Rv f_63)
  (h_43:AZ K "next_sign" Rw f_43)
  (h_45:AZ K "told_from" Rx f_45)
  (h_68:AZ K "heads" Ry f_68)
  (h_64:AZ K "shares" Rz f_64)
  (h_56:AZ K "ways_on" R0 f_56)
  (h_21:AZ K "many_before" R1 f_21)
  (h_61:AZ K "counts" R3 f_61)
  (h_48:AZ K "counting" R4 f_48)
  (h_7:AZ K "sign_or_nought" VW f_7)
  (h_42:AZ K "by_window" R5 f_42)
  (h_62:AZ K "narrow" R6 f_62)
  (h_57:AZ K "widened" R7 f_57)
  (h_67:AZ K "frame" R8 f_67)
  (h_69:AZ K "nodes" R9 f_69)
  (h_34:AZ K "everything" SA f_34)
  (h_51:AZ K "ends_of" SB f_51)
  (h_15:AZ K "single_steps" SC f_15)
  (h_55:AZ K "step_by" SD f_55)
  (h_54:AZ K "reached" SE f_54)
  (h_22:AZ K "turned_back" SG f_22)
  (h_13:AZ K "fewest_steps" SH f_13)
  (h_14:L0 K "sets_reached" SI f_14 cc_14 p_14)
  (h_70:AZ K "lost" SJ f_70)
  (a_23:PySem.W.findIn K (.ref c_66) "told"=some (some (.ref f_23)))
  (h_23:∃fd,BY K "told" "Paper.told" SK f_23 fd)
  (a_17:PySem.W.findIn K (.ref c_66) "holds"=some (some (.ref f_17)))
  (h_17:∃fd,BY K "holds" "Paper.holds" SL f_17 fd)
  (a_1:PySem.W.findIn K (.ref c_37) "__init__"=some (some (.ref f_1)))
  (h_1:∃fd,BY K "__init__" "OntoPaper.__init__" VX f_1 fd)
  (a_6:PySem.W.findIn K (.ref c_37) "told"=some (some (.ref f_6)))
  (h_6:∃fd,BY K "told" "OntoPaper.told" VY f_6 fd)
  (h_31:AZ K "are_closed" SM f_31)
  (a_3:PySem.W.findIn K (.ref c_37) "holds"=some (some (.ref f_3)))
  (h_3:∃fd,BY K "holds" "OntoPaper.holds" VZ f_3 fd)
  (a_0:PySem.W.findIn K (.ref c_36) "__init__"=some (some (.ref f_0)))
  (h_0:∃fd,BY K "__init__" "LostPaper.__init__" Va f_0 fd)
  (a_5:PySem.W.findIn K (.ref c_36) "told"=some (some (.ref f_5)))
  (h_5:∃fd,BY K "told" "LostPaper.told" Vb f_5 fd)
  (a_2:PySem.W.findIn K (.ref c_36) "holds"=some (some (.ref f_2)))
  (h_2:∃fd,BY K "holds" "LostPaper.holds" Vc f_2 fd)
  (h_30:AZ K "_law_whole" SN f_30)
  (h_9:AZ K "_law_cell_at" Vd f_9)
  (h_19:AZ K "_law_stream" SO f_19)
  (h_28:AZ K "_law_power" SQ f_28)
  (h_39:AZ K "_law_rule" SR f_39)
  (h_25:AZ K "_law_frame" SS f_25)
  (h_38:AZ K "_law_ends" SU f_38)
  (h_40:AZ K "_law_sets" SW f_40)
  (h_11:AZ K "_law_spoiled" SX f_11)
  (h_18:AZ K "_law_closed" SY f_18)
  (h_4:AZ K "_law_none_leads" Ve f_4)
  (h_29:AZ K "_law_tells" SZ f_29)
  (h_27:AZ K "_law_holds" Sa f_27)
  (h_10:AZ K "_law_refused" Sb f_10)
  (h_26:AZ K "_law_great" Sc f_26)
  (h_24:AZ K "_law_asked" Sd f_24)
  (h_41:AZ K "_law_word" Se f_41)
  (h_72:AZ K "law" P3 f_72)
  (z_len:PySem.W.nsIn K mainGlobals "len"=some none)
  (z_list:PySem.W.nsIn K mainGlobals "list"=some none)
  (z_reversed:PySem.W.nsIn K mainGlobals "reversed"=some none)
  (z_isinstance:PySem.W.nsIn K mainGlobals "isinstance"=some none)
  (z_range:PySem.W.nsIn K mainGlobals "range"=some none)
  (z_int:PySem.W.nsIn K mainGlobals "int"=some none)
  (z_bool:PySem.W.nsIn K mainGlobals "bool"=some none)
  (z_ValueError:PySem.W.nsIn K mainGlobals "ValueError"=some none)
  (z_tuple:PySem.W.nsIn K mainGlobals "tuple"=some none)
  (z_enumerate:PySem.W.nsIn K mainGlobals "enumerate"=some none)
  (z_min:PySem.W.nsIn K mainGlobals "min"=some none)
  (z_max:PySem.W.nsIn K mainGlobals "max"=some none)
  (z_sum:PySem.W.nsIn K mainGlobals "sum"=some none)
  (z_all:PySem.W.nsIn K mainGlobals "all"=some none)
  (w_LONGEST_TABLE:PySem.W.nsIn K mainGlobals "LONGEST_TABLE"=some (some (.int 256 g_LONGEST_TABLE)))
  (w_MOST_NODES:PySem.W.nsIn K mainGlobals "MOST_NODES"=some (some (.int 9 g_MOST_NODES)))
  (pg_66:PySem.W.plainGet K c_66 Str.empty=true)
  (hd_66:PySem.W.hasDictIn K c_66=true)
  (po_66:PySem.W.plainOver K c_66=true)
  (sa_66:PySem.W.findIn K (.ref c_66) "__setattr__"=some (some (.builtin "object.__setattr__")))
  (ca_66:PySem.W.findIn K (.ref c_66) "__class__"=some (some (.builtin "object.__class__")))
  (sg_66:PySem.W.specialIn K (.builtin "object.__class__") "__get__"=some (some (.builtin "getset_descriptor.__get__")))
  (tk_66:PySem.W.takesIn K (.builtin "object.__class__")=some true)
  (mo_66:PySem.W.mroIn K c_66 (.type "object")=some true)
  (ms_66:PySem.W.makesIn K c_66=true)
  (io_66:PySem.W.findIn K (.ref c_66) "__init__"=some (some (.builtin "object.__init__")))
  (kc_66:PySem.W.keepIn K (.ref c_66)=true)
  (mf_23:PySem.W.isFn K (.ref f_23)=true)
  (mp_23:PySem.W.keepIn K (.ref f_23)=true)
  (mf_17:PySem.W.isFn K (.ref f_17)=true)
  (mp_17:PySem.W.keepIn K (.ref f_17)=true)
  (pg_37:PySem.W.plainGet K c_37 Str.empty=true)
  (hd_37:PySem.W.hasDictIn K c_37=true)
  (po_37:PySem.W.plainOver K c_37=true)
  (sa_37:PySem.W.findIn K (.ref c_37) "__setattr__"=some (some (.builtin "object.__setattr__")))
  (ca_37:PySem.W.findIn K (.ref c_37) "__class__"=some (some (.builtin "object.__class__")))
  (sg_37:PySem.W.specialIn K (.builtin "object.__class__") "__get__"=some (some (.builtin "getset_descriptor.__get__")))
  (tk_37:PySem.W.takesIn K (.builtin "object.__class__")=some true)
  (mo_37:PySem.W.mroIn K c_37 (.type "object")=some true)
  (na_OntoPaper_sets:PySem.W.findIn K (.ref c_37) "sets"=some none)
  (ms_37:PySem.W.makesIn K c_37=true)
  (if_37:PySem.W.isFn K (.ref f_1)=true)
  (kc_37:PySem.W.keepIn K (.ref c_37)=true)
  (mf_6:PySem.W.isFn K (.ref f_6)=true)
  (mp_6:PySem.W.keepIn K (.ref f_6)=true)
  (mf_3:PySem.W.isFn K (.ref f_3)=true)
  (mp_3:PySem.W.keepIn K (.ref f_3)=true)
  (pg_36:PySem.W.plainGet K c_36 Str.empty=true)
  (hd_36:PySem.W.hasDictIn K c_36=true)
  (po_36:PySem.W.plainOver K c_36=true)
  (sa_36:PySem.W.findIn K (.ref c_36) "__setattr__"=some (some (.builtin "object.__setattr__")))
  (ca_36:PySem.W.findIn K (.ref c_36) "__class__"=some (some (.builtin "object.__class__")))
  (sg_36:PySem.W.specialIn K (.builtin "object.__class__") "__get__"=some (some (.builtin "getset_descriptor.__get__")))
  (tk_36:PySem.W.takesIn K (.builtin "object.__class__")=some true)
  (mo_36:PySem.W.mroIn K c_36 (.type "object")=some true)
  (na_LostPaper_row:PySem.W.findIn K (.ref c_36) "row"=some none)
  (ms_36:PySem.W.makesIn K c_36=true)
  (if_36:PySem.W.isFn K (.ref f_0)=true)
  (kc_36:PySem.W.keepIn K (.ref c_36)=true)
  (mf_5:PySem.W.isFn K (.ref f_5)=true)
  (mp_5:PySem.W.keepIn K (.ref f_5)=true)
  (mf_2:PySem.W.isFn K (.ref f_2)=true)
  (mp_2:PySem.W.keepIn K (.ref f_2)=true)
  (x_59:PySem.W.excIn K c_59 Fh "ValueError.__new__"=true)
  (x_60:PySem.W.excIn K c_60 Fh "ValueError.__new__"=true)
  (x_46:PySem.W.excIn K c_46 Fh "ValueError.__new__"=true)
  (x_50:PySem.W.excIn K c_50 Fh "ValueError.__new__"=true)
  (xi_65:U2 K c_65 f_8=true)
  (xt_65:PySem.W.typeIn K (.ref f_8)=some (.type "function"))
  (xk_65:PySem.W.keepIn K (.ref c_65)=true)
  (ci_65:(PySem.W.clsIn K c_65).isSome=true)
  (ga_65:PySem.W.findIn K (.ref c_65) "__getattribute__"=some (some (.builtin "BaseException.__getattribute__")))
  (gn_65:PySem.W.findIn K (.ref c_65) "__getattr__"=some none)
  (ca_65:PySem.W.findIn K (.ref c_65) "__class__"=some (some (.builtin "object.__class__")))
  (sg_65:PySem.W.specialIn K (.builtin "object.__class__") "__get__"=some (some (.builtin "getset_descriptor.__get__")))
  (tk_65:PySem.W.takesIn K (.builtin "object.__class__")=some true)
  (mo_65:PySem.W.mroIn K c_65 (.type "object")=some true)
  (mb_65:PySem.W.mroIn K c_65 (.type "BaseException")=some true)
  (ci_50:(PySem.W.clsIn K c_50).isSome=true)
  (ga_50:PySem.W.findIn K (.ref c_50) "__getattribute__"=some (some (.builtin "BaseException.__getattribute__")))
  (gn_50:PySem.W.findIn K (.ref c_50) "__getattr__"=some none)
  (ca_50:PySem.W.findIn K (.ref c_50) "__class__"=some (some (.builtin "object.__class__")))
  (sg_50:PySem.W.specialIn K (.builtin "object.__class__") "__get__"=some (some (.builtin "getset_descriptor.__get__")))
  (tk_50:PySem.W.takesIn K (.builtin "object.__class__")=some true)
  (mo_50:PySem.W.mroIn K c_50 (.type "object")=some true)
  (mb_50:PySem.W.mroIn K c_50 (.type "BaseException")=some true)
  (sa_65:PySem.W.findIn K (.ref c_65) "__setattr__"=some (some (.builtin "object.__setattr__")))
  (hd_65:PySem.W.hasDictIn K c_65=true)
  (mr_65:S9 K c_65 c_47=true)
  (no_65:PySem.W.findIn K (.ref c_65) "at"=some none)
  (kt_50_50:PySem.W.kitOne K (.ref c_50) (.ref c_50)=some true)
  (kt_TooWide_ValueError:PySem.W.kitOne K (.ref c_50) (.type "ValueError")=some true)
  (kt_50_65:PySem.W.kitOne K (.ref c_50) (.ref c_65)=some false)
  (kt_50_60:PySem.W.kitOne K (.ref c_50) (.ref c_60)=some false)
  (kt_37_36:PySem.W.kitOne K (.ref c_37) (.ref c_36)=some false)
  (kt_37_66:PySem.W.kitOne K (.ref c_37) (.ref c_66)=some true)
  (kt_36_37:PySem.W.kitOne K (.ref c_36) (.ref c_37)=some false)
  (kt_36_66:PySem.W.kitOne K (.ref c_36) (.ref c_66)=some true)
  (em_50_47:PySem.W.exmOne K (.ref c_50) (.ref c_47)=some true)
  : (∀P∈[p_14],∃c,PySem.W.codeHdIn K c P=true)/\∃fd:FuncData,(∀(s:Shared) (v:Value),BindsTo s fd ⟨[v],[]⟩ [("_law_script",v)])/\∀base:Heap,K.In base->base.Ns mainGlobals mg->G8 mg base->Di l.prog w K mg base (GH l.prog w) 15 fa fd ["_law_script"] (JE K [p_14]):=by
 have T:Bz K mg ⟨c_47,c_59,c_65,c_60,c_46,c_50,c_66,c_37,c_36,f_8,f_49,f_52,f_53,f_33,f_12,f_44,f_58,f_32,f_35,f_16,f_20,f_71,f_63,f_43,f_45,f_68,f_64,f_56,f_21,f_61,f_48,f_7,f_42,f_62,f_57,f_67,f_69,f_34,f_51,f_15,f_55,f_54,f_22,f_13,f_14,f_70,f_23,f_17,f_1,f_6,f_31,f_3,f_0,f_5,f_2,f_30,f_9,f_19,f_28,f_39,f_25,f_38,f_40,f_11,f_18,f_4,f_29,f_27,f_10,f_26,f_24,f_41,f_72,cc_14,p_14⟩:=⟨PySem.W.mg_of X G n_47,PySem.W.mg_of X G n_59,PySem.W.mg_of X G n_65,PySem.W.mg_of X G n_60,PySem.W.mg_of X G n_46,PySem.W.mg_of X G n_50,PySem.W.mg_of X G n_66,PySem.W.mg_of X G n_37,PySem.W.mg_of X G n_36,h_8,PySem.W.mg_of X G h_49.2,h_49.1,PySem.W.mg_of X G h_52.2,h_52.1,PySem.W.mg_of X G h_53.2,h_53.1,PySem.W.mg_of X G h_33.2,h_33.1,PySem.W.mg_of X G h_12.2,h_12.1,PySem.W.mg_of X G h_44.2,h_44.1,PySem.W.mg_of X G h_58.2,h_58.1,PySem.W.mg_of X G h_32.2,h_32.1,PySem.W.mg_of X G h_35.2,h_35.1,PySem.W.mg_of X G h_16.2,h_16.1,PySem.W.mg_of X G h_20.2,h_20.1,PySem.W.mg_of X G h_71.2,h_71.1,PySem.W.mg_of X G h_63.2,h_63.1,PySem.W.mg_of X G h_43.2,h_43.1,PySem.W.mg_of X G h_45.2,h_45.1,PySem.W.mg_of X G h_68.2,h_68.1,PySem.W.mg_of X G h_64.2,h_64.1,PySem.W.mg_of X G h_56.2,h_56.1,PySem.W.mg_of X G h_21.2,h_21.1,PySem.W.mg_of X G h_61.2,h_61.1,PySem.W.mg_of X G h_48.2,h_48.1,PySem.W.mg_of X G h_7.2,h_7.1,PySem.W.mg_of X G h_42.2,h_42.1,PySem.W.mg_of X G h_62.2,h_62.1,PySem.W.mg_of X G h_57.2,h_57.1,PySem.W.mg_of X G h_67.2,h_67.1,PySem.W.mg_of X G h_69.2,h_69.1,PySem.W.mg_of X G h_34.2,h_34.1,PySem.W.mg_of X G h_51.2,h_51.1,PySem.W.mg_of X G h_15.2,h_15.1,PySem.W.mg_of X G h_55.2,h_55.1,PySem.W.mg_of X G h_54.2,h_54.1,PySem.W.mg_of X G h_22.2,h_22.1,PySem.W.mg_of X G h_13.2,h_13.1,PySem.W.mg_of X G h_14.2,h_14.1,(let ⟨_,z⟩:=h_14.1;z.hd),PySem.W.mg_of X G h_70.2,h_70.1,h_23,h_17,h_1,h_6,PySem.W.mg_of X G h_31.2,h_31.1,h_3,h_0,h_5,h_2,PySem.W.mg_of X G h_30.2,h_30.1,PySem.W.mg_of X G h_9.2,h_9.1,PySem.W.mg_of X G h_19.2,h_19.1,PySem.W.mg_of X G h_28.2,h_28.1,PySem.W.mg_of X G h_39.2,h_39.1,PySem.W.mg_of X G h_25.2,h_25.1,PySem.W.mg_of X G h_38.2,h_38.1,PySem.W.mg_of X G h_40.2,h_40.1,PySem.W.mg_of X G h_11.2,h_11.1,PySem.W.mg_of X G h_18.2,h_18.1,PySem.W.mg_of X G h_4.2,h_4.1,PySem.W.mg_of X G h_29.2,h_29.1,PySem.W.mg_of X G h_27.2,h_27.1,PySem.W.mg_of X G h_10.2,h_10.1,PySem.W.mg_of X G h_26.2,h_26.1,PySem.W.mg_of X G h_24.2,h_24.1,PySem.W.mg_of X G h_41.2,h_41.1,PySem.W.mg_of X G h_72.2,h_72.1,PySem.W.mg_none_of X G z_len,PySem.W.mg_none_of X G z_list,PySem.W.mg_none_of X G z_reversed,PySem.W.mg_none_of X G z_isinstance,PySem.W.mg_none_of X G z_range,PySem.W.mg_none_of X G z_int,PySem.W.mg_none_of X G z_bool,PySem.W.mg_none_of X G z_ValueError,PySem.W.mg_none_of X G z_tuple,PySem.W.mg_none_of X G z_enumerate,PySem.W.mg_none_of X G z_min,PySem.W.mg_none_of X G z_max,PySem.W.mg_none_of X G z_sum,PySem.W.mg_none_of X G z_all,⟨_,PySem.W.mg_of X G w_LONGEST_TABLE⟩,⟨_,PySem.W.mg_of X G w_MOST_NODES⟩,⟨⟨pg_66,hd_66,po_66,sa_66⟩,ca_66,sg_66,tk_66,mo_66⟩,⟨ms_66,io_66,kc_66⟩,⟨a_23,mf_23,mp_23⟩,⟨a_17,mf_17,mp_17⟩,⟨⟨pg_37,hd_37,po_37,sa_37⟩,ca_37,sg_37,tk_37,mo_37⟩,na_OntoPaper_sets,⟨ms_37,a_1,if_37,kc_37⟩,⟨a_6,mf_6,mp_6⟩,⟨a_3,mf_3,mp_3⟩,⟨⟨pg_36,hd_36,po_36,sa_36⟩,ca_36,sg_36,tk_36,mo_36⟩,na_LostPaper_row,⟨ms_36,a_0,if_36,kc_36⟩,⟨a_5,mf_5,mp_5⟩,⟨a_2,mf_2,mp_2⟩,x_59,x_60,x_46,x_50,⟨xi_65,xt_65,xk_65⟩,⟨ci_65,ga_65,gn_65,ca_65,sg_65,tk_65,mo_65,mb_65⟩,⟨ci_50,ga_50,gn_50,ca_50,sg_50,tk_50,mo_50,mb_50⟩,⟨sa_65,hd_65,mr_65,no_65,⟨ci_65,ga_65,gn_65,ca_65,sg_65,tk_65,mo_65,mb_65⟩⟩,kt_50_50,kt_TooWide_ValueError,kt_50_65,kt_50_60,kt_37_36,kt_37_66,kt_36_37,kt_36_66,em_50_47⟩;have e:=hfa.symm.trans T.m_72;cases e;obtain⟨fd,F⟩:=T.d_72;obtain⟨oc,od,kV,doc,pm,an,cdv,ct,osl,ef,lk,hcd⟩:=F.ex;refine⟨(List.forall_mem_cons.mpr ⟨⟨_,T.hd_14⟩,(λ_ h=>absurd h WU)⟩),fd,λs v=>by rw[ef];exact .of_eq rfl,λbase _ _ hB=>?_⟩;have G_8:=Vg (P:=l.prog) (w:=w) (base:=base) T;have G_49:=Tn (P:=l.prog) (w:=w) (base:=base) T;have G_52:=Tp (P:=l.prog) (w:=w) (base:=base) T G_49;have G_53:=Tr (P:=l.prog) (w:=w) (base:=base) T G_52;have G_33:=Ts (P:=l.prog) (w:=w) (base:=base) T G_52 G_8;have G_12:=Tu (P:=l.prog) (w:=w) (base:=base) T G_33 G_8;have G_44:=Tv (P:=l.prog) (w:=w) (base:=base) T G_33;have G_58:=Tw (P:=l.prog) (w:=w) (base:=base) T;have G_32:=Tz (P:=l.prog) (w:=w) (base:=base) T G_49;have G_35:=T0 (P:=l.prog) (w:=w) (base:=base) T;have G_16:=T1 (P:=l.prog) (w:=w) (base:=base) T;have G_20:=T3 (P:=l.prog) (w:=w) (base:=base) T G_35 G_52;have G_71:=T5 (P:=l.prog) (w:=w) (base:=base) T G_32 G_20;have G_63:=T7 (P:=l.prog) (w:=w) (base:=base) T G_35;have G_43:=T9 (P:=l.prog) (w:=w) (base:=base) T G_12 G_63 G_44;have G_45:=UA (P:=l.prog) (w:=w) (base:=base) T;have G_68:=UC (P:=l.prog) (w:=w) (base:=base) T;have G_64:=UE (P:=l.prog) (w:=w) (base:=base) T G_68;have G_56:=UF (P:=l.prog) (w:=w) (base:=base) T G_68 G_64 G_45;have G_21:=UH (P:=l.prog) (w:=w) (base:=base) T G_33 G_56;have G_61:=UI (P:=l.prog) (w:=w) (base:=base) T;have G_48:=UJ (P:=l.prog) (w:=w) (base:=base) T G_63 G_61;have G_7:=Vi (P:=l.prog) (w:=w) (base:=base) T;have G_42:=UK (P:=l.prog) (w:=w) (base:=base) T G_71 G_16 G_58 G_43 G_7 G_63;have G_62:=UL (P:=l.prog) (w:=w) (base:=base) T G_48 G_42;have G_57:=UM (P:=l.prog) (w:=w) (base:=base) T G_48 G_42 G_16;have G_67:=UN (P:=l.prog) (w:=w) (base:=base) T G_62 G_63 G_57 G_68;have G_69:=UP (P:=l.prog) (w:=w) (base:=base) T G_68 G_67;have G_34:=UR (P:=l.prog) (w:=w) (base:=base) T G_69;have G_51:=US (P:=l.prog) (w:=w) (base:=base) T G_68;have G_15:=UT (P:=l.prog) (w:=w) (base:=base) T G_68 G_51 G_45;have G_55:=UU (P:=l.prog) (w:=w) (base:=base) T;have G_54:=UV (P:=l.prog) (w:=w) (base:=base) T;have G_22:=UW (P:=l.prog) (w:=w) (base:=base) T;have G_13:=UX (P:=l.prog) (w:=w) (base:=base) T G_22;have G_14:=UY (P:=l.prog) (w:=w) (base:=base) T hB G_67 G_15 G_54 G_34 G_55;have G_70:=UZ (P:=l.prog) (w:=w) (base:=base) T G_14 G_13 G_34;have G_23:=Ub (P:=l.prog) (w:=w) (base:=base) T;have G_17:=Ud (P:=l.prog) (w:=w) (base:=base) T;have G_1:=Vk (P:=l.prog) (w:=w) (base:=base) T;have G_6:=Vm (P:=l.prog) (w:=w) (base:=base) T;have G_31:=Ue (P:=l.prog) (w:=w) (base:=base) T G_15 G_34 G_55;have G_3:=Vo (P:=l.prog) (w:=w) (base:=base) T G_31 G_67;have G_0:=Vq (P:=l.prog) (w:=w) (base:=base) T;have G_5:=Vs (P:=l.prog) (w:=w) (base:=base) T;have G_2:=Vt (P:=l.prog) (w:=w) (base:=base) T G_67 G_53 G_21;have G_30:=Uh (P:=l.prog) (w:=w) (base:=base) T;have G_9:=Vv (P:=l.prog) (w:=w) (base:=base) T;have G_19:=Ui (P:=l.prog) (w:=w) (base:=base) T;have G_28:=Uj (P:=l.prog) (w:=w) (base:=base) T;have G_39:=Uk (P:=l.prog) (w:=w) (base:=base) T G_28 G_19;have G_25:=Ul (P:=l.prog) (w:=w) (base:=base) T;have G_38:=Um (P:=l.prog) (w:=w) (base:=base) T;have G_40:=Uo (P:=l.prog) (w:=w) (base:=base) T G_25 G_28 G_38;have G_11:=Up (P:=l.prog) (w:=w) (base:=base) T;have G_18:=Uq (P:=l.prog) (w:=w) (base:=base) T G_25 G_28 G_38;have G_4:=Vw (P:=l.prog) (w:=w) (base:=base) T G_25 G_28 G_38;have G_29:=Ur (P:=l.prog) (w:=w) (base:=base) T G_30 G_23 G_6 G_5;have G_27:=Us (P:=l.prog) (w:=w) (base:=base) T G_17 G_3 G_2;have G_10:=Ut (P:=l.prog) (w:=w) (base:=base) T G_17 G_3 G_2;have G_26:=Uu (P:=l.prog) (w:=w) (base:=base) T G_28;have G_24:=Uv (P:=l.prog) (w:=w) (base:=base) T G_10 G_27 G_29;have G_41:=Uw (P:=l.prog) (w:=w) (base:=base) T G_70 G_9;exact Ux T F G_9 G_39 G_40 G_1 G_41 G_0 G_26 G_11 G_18 G_4 G_29 G_24 G_27 G_23 G_6 G_5
end K71
def PySem.W.Fast.tw15723366391314979081:=PySem.Challenge.pw_rowrules_k71_papers_of_reach_and_loss
theorem PySem.W.Fast.te15723366391314979081:PySem.Challenge.pw_rowrules_k71_papers_of_reach_and_loss=PySem.W.Fast.tw15723366391314979081:=rfl
namespace PySem.W.Fast
def tw17418181128735294173:Unit:=()
def tw11467038520914289760:Unit:=()
def tw11982609598728892165:Unit:=()
def tw11751218719685272163:Unit:=()
def tw11903225042199802067:Unit:=()
def tw3588959258030838693:Unit:=()
def tw7152583811000004447:Unit:=()
def tw1425746987474125757:Unit:=()
def tw11045636341226790854:Unit:=()
def tw11859222088346700593:Unit:=()
def tw4654969299747032235:Unit:=()
def tw9229337328254241522:Unit:=()
def tw3846495197034950206:Unit:=()
def tw6444963167281733582:Unit:=()
def tw4821567513973477739:Unit:=()
def tw17398883500767709028:Unit:=()
def tw717636362976325902:Unit:=()
def tw8961327711314758595:Unit:=()
def tw18075203574572416373:Unit:=()
def tw18334122584897220435:Unit:=()
def tw2165638336831979456:Unit:=()
def tw5528484432655125956:Unit:=()
def tw2727508356095326024:Unit:=()
def tw3459698413523657987:Unit:=()
def tw8992656852967036142:Unit:=()
def tw16521247280968861909:Unit:=()
def tw7204079794508595930:Unit:=()
def tw17762489391858688880:Unit:=()
def tw4780195406734884593:Unit:=()
def tw13809532318935623923:Unit:=()
def tw5807849161416629218:Unit:=()
def tw5831350618575581313:Unit:=()
def tw15922580930012710064:Unit:=()
def tw16867628413287731881:Unit:=()
def tw4288710829533510419:Unit:=()
def tw5295215711026812794:Unit:=()
def tw11978715183507311245:Unit:=()
def tw17179108115816309834:Unit:=()
def tw11111127642617342136:Unit:=()
def tw16766723947066152918:Unit:=()
def tw17894273841807347511:Unit:=()
def tw677588866882692918:Unit:=()
def tw12394524363344541082:Unit:=()
def tw6938600240917953863:Unit:=()
def tw618381097408443486:Unit:=()
def tw14425350479412718453:Unit:=()
def tw8502591086291119152:Unit:=()
def tw7039966746594064788:Unit:=()
def tw9442542636678223905:Unit:=()
def tw4301603053519692605:Unit:=()
def tw15261484595156395029:Unit:=()
def tw17617740164215656193:Unit:=()
def tw16908442393905621508:Unit:=()
def tw13193962380080300477:Unit:=()
def tw8261430722705279703:Unit:=()
def tw10655174147680282922:Unit:=()
def tw1058007539515002411:Unit:=()
def tw12852006160704045495:Unit:=()
def tw6923245674529140344:Unit:=()
end PySem.W.Fast
open PySem PySem.W PyProof.Rows
set_option maxRecDepth 100000 in
set_option maxHeartbeats 0 in
theorem PySem.Challenge.cw_rowrules_k71_papers_of_reach_and_loss_holds : PySem.Challenge.rw_rowrules_k71_papers_of_reach_and_loss.Holds := by
 w_on;o_law;k_head;(case hw=>w_witness2)
 k_fill
 refine L2.M9 (l:=PySem.Challenge.rw_rowrules_k71_papers_of_reach_and_loss) (k:=15) (n:=0) (x:="_law_script") (ts:=[_]) rfl rfl ⟨rfl,by decide,by decide⟩ (λw h Y=>⟨PySem.W.km_in_of Y,PySem.W.km_tabs_of Y⟩) ?hTab ?F
 case hTab=>exact λw=>(List.forall_mem_cons.mpr ⟨by kernel_rfl,λ_ h=>absurd h WU⟩)
 case F =>
  intro w mg fa h KX G hmg;refine' K71.Sf KX G hmg ?n_47 ?n_59 ?n_65 ?n_60 ?n_46 ?n_50 ?n_66 ?n_37 ?n_36 ?a_8 ⟨_,L2.DL ?l_8 ?e_8 ?k_8⟩ (L2.Aa ?a_49 ?l_49 ?e_49 ?k_49) (L2.Aa ?a_52 ?l_52 ?e_52 ?k_52) (L2.Aa ?a_53 ?l_53 ?e_53 ?k_53) (L2.Aa ?a_33 ?l_33 ?e_33 ?k_33) (L2.Aa ?a_12 ?l_12 ?e_12 ?k_12) (L2.Aa ?a_44 ?l_44 ?e_44 ?k_44) (L2.Aa ?a_58 ?l_58 ?e_58 ?k_58) (L2.Aa ?a_32 ?l_32 ?e_32 ?k_32) (L2.Aa ?a_35 ?l_35 ?e_35 ?k_35) (L2.Aa ?a_16 ?l_16 ?e_16 ?k_16) (L2.Aa ?a_20 ?l_20 ?e_20 ?k_20) (L2.Aa ?a_71 ?l_71 ?e_71 ?k_71) (L2.Aa ?a_63 ?l_63 ?e_63 ?k_63) (L2.Aa ?a_43 ?l_43 ?e_43 ?k_43) (L2.Aa ?a_45 ?l_45 ?e_45 ?k_45) (L2.Aa ?a_68 ?l_68 ?e_68 ?k_68) (L2.Aa ?a_64 ?l_64 ?e_64 ?k_64) (L2.Aa ?a_56 ?l_56 ?e_56 ?k_56) (L2.Aa ?a_21 ?l_21 ?e_21 ?k_21) (L2.Aa ?a_61 ?l_61 ?e_61 ?k_61) (L2.Aa ?a_48 ?l_48 ?e_48 ?k_48) (L2.Aa ?a_7 ?l_7 ?e_7 ?k_7) (L2.Aa ?a_42 ?l_42 ?e_42 ?k_42) (L2.Aa ?a_62 ?l_62 ?e_62 ?k_62) (L2.Aa ?a_57 ?l_57 ?e_57 ?k_57) (L2.Aa ?a_67 ?l_67 ?e_67 ?k_67) (L2.Aa ?a_69 ?l_69 ?e_69 ?k_69) (L2.Aa ?a_34 ?l_34 ?e_34 ?k_34) (L2.Aa ?a_51 ?l_51 ?e_51 ?k_51) (L2.Aa ?a_15 ?l_15 ?e_15 ?k_15) (L2.Aa ?a_55 ?l_55 ?e_55 ?k_55) (L2.Aa ?a_54 ?l_54 ?e_54 ?k_54) (L2.Aa ?a_22 ?l_22 ?e_22 ?k_22) (L2.Aa ?a_13 ?l_13 ?e_13 ?k_13) (L2.Pz ?a_14 ?l_14 ?e_14 ?k_14 ?ht_14) (L2.Aa ?a_70 ?l_70 ?e_70 ?k_70) ?a_23 ⟨_,L2.DL ?l_23 ?e_23 ?k_23⟩ ?a_17 ⟨_,L2.DL ?l_17 ?e_17 ?k_17⟩ ?a_1 ⟨_,L2.DL ?l_1 ?e_1 ?k_1⟩ ?a_6 ⟨_,L2.DL ?l_6 ?e_6 ?k_6⟩ (L2.Aa ?a_31 ?l_31 ?e_31 ?k_31) ?a_3 ⟨_,L2.DL ?l_3 ?e_3 ?k_3⟩ ?a_0 ⟨_,L2.DL ?l_0 ?e_0 ?k_0⟩ ?a_5 ⟨_,L2.DL ?l_5 ?e_5 ?k_5⟩ ?a_2 ⟨_,L2.DL ?l_2 ?e_2 ?k_2⟩ (L2.Aa ?a_30 ?l_30 ?e_30 ?k_30) (L2.Aa ?a_9 ?l_9 ?e_9 ?k_9) (L2.Aa ?a_19 ?l_19 ?e_19 ?k_19) (L2.Aa ?a_28 ?l_28 ?e_28 ?k_28) (L2.Aa ?a_39 ?l_39 ?e_39 ?k_39) (L2.Aa ?a_25 ?l_25 ?e_25 ?k_25) (L2.Aa ?a_38 ?l_38 ?e_38 ?k_38) (L2.Aa ?a_40 ?l_40 ?e_40 ?k_40) (L2.Aa ?a_11 ?l_11 ?e_11 ?k_11) (L2.Aa ?a_18 ?l_18 ?e_18 ?k_18) (L2.Aa ?a_4 ?l_4 ?e_4 ?k_4) (L2.Aa ?a_29 ?l_29 ?e_29 ?k_29) (L2.Aa ?a_27 ?l_27 ?e_27 ?k_27) (L2.Aa ?a_10 ?l_10 ?e_10 ?k_10) (L2.Aa ?a_26 ?l_26 ?e_26 ?k_26) (L2.Aa ?a_24 ?l_24 ?e_24 ?k_24) (L2.Aa ?a_41 ?l_41 ?e_41 ?k_41) (L2.Aa ?a_72 ?l_72 ?e_72 ?k_72) ?z_len ?z_list ?z_reversed ?z_isinstance ?z_range ?z_int ?z_bool ?z_ValueError ?z_tuple ?z_enumerate ?z_min ?z_max ?z_sum ?z_all ?w_LONGEST_TABLE ?w_MOST_NODES ?pg_66 ?hd_66 ?po_66 ?sa_66 ?ca_66 ?sg_66 ?tk_66 ?mo_66 ?ms_66 ?io_66 ?kc_66 ?mf_23 ?mp_23 ?mf_17 ?mp_17 ?pg_37 ?hd_37 ?po_37 ?sa_37 ?ca_37 ?sg_37 ?tk_37 ?mo_37 ?na_OntoPaper_sets ?ms_37 ?if_37 ?kc_37 ?mf_6 ?mp_6 ?mf_3 ?mp_3 ?pg_36 ?hd_36 ?po_36 ?sa_36 ?ca_36 ?sg_36 ?tk_36 ?mo_36 ?na_LostPaper_row ?ms_36 ?if_36 ?kc_36 ?mf_5 ?mp_5 ?mf_2 ?mp_2 ?x_59 ?x_60 ?x_46 ?x_50 ?xi_65 ?xt_65 ?xk_65 ?ci_65 ?ga_65 ?gn_65 ?ca_65 ?sg_65 ?tk_65 ?mo_65 ?mb_65 ?ci_50 ?ga_50 ?gn_50 ?ca_50 ?sg_50 ?tk_50 ?mo_50 ?mb_50 ?sa_65 ?hd_65 ?mr_65 ?no_65 ?kt_50_50 ?kt_TooWide_ValueError ?kt_50_65 ?kt_50_60 ?kt_37_36 ?kt_37_66 ?kt_36_37 ?kt_36_66 ?em_50_47
  case n_47|n_59|n_65|n_60|n_46|n_50|n_66|n_37|n_36|a_8|l_8|e_8|k_8|a_49|l_49|e_49|k_49|a_52|l_52|e_52|k_52|a_53|l_53|e_53|k_53|a_33|l_33|e_33|k_33|a_12|l_12|e_12|k_12|a_44|l_44|e_44|k_44|a_58|l_58|e_58|k_58|a_32|l_32|e_32|k_32|a_35|l_35|e_35|k_35|a_16|l_16|e_16|k_16|a_20|l_20|e_20|k_20|a_71|l_71|e_71|k_71|a_63|l_63|e_63|k_63|a_43|l_43|e_43|k_43|a_45|l_45|e_45|k_45|a_68|l_68|e_68|k_68|a_64|l_64|e_64|k_64|a_56|l_56|e_56|k_56|a_21|l_21|e_21|k_21|a_61|l_61|e_61|k_61|a_48|l_48|e_48|k_48|a_7|l_7|e_7|k_7|a_42|l_42|e_42|k_42|a_62|l_62|e_62|k_62|a_57|l_57|e_57|k_57|a_67|l_67|e_67|k_67|a_69|l_69|e_69|k_69|a_34|l_34|e_34|k_34|a_51|l_51|e_51|k_51|a_15|l_15|e_15|k_15|a_55|l_55|e_55|k_55|a_54|l_54|e_54|k_54|a_22|l_22|e_22|k_22|a_13|l_13|e_13|k_13|a_14|l_14|e_14|k_14=>k_is
  (case ht_14=>kernel_rfl)
  case a_70|l_70|e_70|k_70|a_23|l_23|e_23|k_23|a_17|l_17|e_17|k_17|a_1|l_1|e_1|k_1|a_6|l_6|e_6|k_6|a_31|l_31|e_31|k_31|a_3|l_3|e_3|k_3|a_0|l_0|e_0|k_0|a_5|l_5|e_5|k_5|a_2|l_2|e_2|k_2|a_30|l_30|e_30|k_30|a_9|l_9|e_9|k_9|a_19|l_19|e_19|k_19|a_28|l_28|e_28|k_28|a_39|l_39|e_39|k_39|a_25|l_25|e_25|k_25|a_38|l_38|e_38|k_38|a_40|l_40|e_40|k_40|a_11|l_11|e_11|k_11|a_18|l_18|e_18|k_18|a_4|l_4|e_4|k_4|a_29|l_29|e_29|k_29|a_27|l_27|e_27|k_27|a_10|l_10|e_10|k_10|a_26|l_26|e_26|k_26|a_24|l_24|e_24|k_24|a_41|l_41|e_41|k_41|a_72|l_72|e_72|k_72|z_len|z_list|z_reversed|z_isinstance|z_range|z_int|z_bool|z_ValueError|z_tuple|z_enumerate|z_min|z_max|z_sum|z_all|w_LONGEST_TABLE|w_MOST_NODES|pg_66|hd_66|po_66|sa_66|ca_66|sg_66|tk_66|mo_66|ms_66|io_66|kc_66|mf_23|mp_23|mf_17|mp_17|pg_37|hd_37|po_37|sa_37|ca_37|sg_37|tk_37|mo_37|na_OntoPaper_sets|ms_37|if_37|kc_37|mf_6|mp_6|mf_3|mp_3|pg_36|hd_36|po_36|sa_36|ca_36|sg_36|tk_36|mo_36|na_LostPaper_row|ms_36|if_36|kc_36|mf_5|mp_5|mf_2|mp_2=>k_is
  (case x_59=>k_exc)
  (case x_60=>k_exc)
  (case x_46=>k_exc)
  (case x_50=>k_exc)
  (case xi_65=>kernel_rfl)
  case xt_65|xk_65=>k_is
  (case ci_65=>show PySem.W.isClsIn _ _=true;k_is)
  case ga_65|gn_65|ca_65|sg_65|tk_65|mo_65|mb_65=>k_is
  (case ci_50=>show PySem.W.isClsIn _ _=true;k_is)
  case ga_50|gn_50|ca_50|sg_50|tk_50|mo_50|mb_50|sa_65|hd_65=>k_is
  (case mr_65=>kernel_rfl)
  case no_65=>k_is
  (case kt_50_50=>kit_is)
  (case kt_TooWide_ValueError=>kit_is)
  (case kt_50_65=>kit_is)
  (case kt_50_60=>kit_is)
  (case kt_37_36=>kit_is)
  (case kt_37_66=>kit_is)
  (case kt_36_37=>kit_is)
  (case kt_36_66=>kit_is)
  (case em_50_47=>kts_exm)
