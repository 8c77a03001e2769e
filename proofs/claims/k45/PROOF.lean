import PyProof.Rows.All
import Wide.All
import OpenK.AllK
import Wide.FinOn
import Lean
import PyProof.EqAt
import PyProof.EqKinds
import PyProof.TupleCall
import PySem.Challenge.RW_rowrules_k45_whole_reached_and_balanced
set_option Elab.async false
set_option linter.all false
set_option maxRecDepth 100000
abbrev qC:=@PySem.wpAny_bind
abbrev qD:=@PySem.wpAny_pure
abbrev qE:=@if_neg
abbrev qF:=@if_pos
abbrev qG:=@absurd
abbrev qH:=@decide_eq_true
abbrev qI:=@decide_eq_false
abbrev qJ:=PySem.W.Frag
abbrev Xk:=@List.length_map
abbrev Xl:=@List.mem_singleton
abbrev Xm:=@List.getD_eq_getElem?_getD
abbrev Xn:=@PySem.Heap.get?_push_of_some
abbrev Xo:=@List.getElem?_eq_some_iff
abbrev Xp:=@List.length_append
abbrev Xq:=@List.mem_append
abbrev Xr:=@Nat.le_refl
abbrev Xs:=@List.getElem?_eq_getElem
abbrev Xt:=@PySem.Heap.lt_size
abbrev Xu:=@List.getElem?_map
abbrev Xv:=@List.map_append
abbrev Xw:=@Nat.lt_of_lt_of_le
abbrev Xx:=@List.length_range
abbrev Xy:=@Int.toNat_natCast
abbrev Xz:=@PySem.Heap.get?_push_size
abbrev X0:=@List.mem_cons_of_mem
abbrev X1:=@Bool.false_ne_true
abbrev X3:=@List.mem_of_getElem?
abbrev X4:=@List.getElem?_append_right
abbrev X5:=@PySem.boot_len
abbrev X6:=@List.mem_cons_self
abbrev X7:=@List.not_mem_nil
abbrev X8:=@Int.toNat_of_nonneg
abbrev X9:=@Int.pow_succ
abbrev YA:=@List.mem_cons
abbrev YB:=@PySem.F.plainAttrs_list
abbrev YC:=@List.length_take
abbrev YD:=@List.mem_range
abbrev YE:=@Nat.lt_irrefl
abbrev YF:=@Array.length_toList
abbrev YG:=@List.append_assoc
abbrev YH:=@List.mem_map
abbrev YI:=@Int.le_of_lt
abbrev YJ:=@Int.pow_zero
abbrev YK:=@Nat.le_trans
abbrev YL:=@List.getElem?_append_left
abbrev YM:=@PySem.F.slot_list_append
abbrev YN:=@PySem.F.type_list_append
abbrev YO:=@List.length_singleton
abbrev YQ:=@Int.emod_lt_of_pos
abbrev YR:=@PyProof.Rows.callWith_type1
abbrev YS:=@Nat.zero_le
abbrev YT:=@List.take_length
abbrev YU:=@Array.toList_append
abbrev YV:=@List.size_toArray
abbrev YW:=@Nat.ne_of_lt
abbrev YX:=@Int.zero_add
abbrev YY:=@Int.emod_nonneg
abbrev YZ:=@List.length_cons
abbrev Ya:=@List.mem_filter
abbrev Yb:=@PySem.mem_of_lookup
abbrev Yc:=@List.mem_append_right
abbrev Yd:=@List.append_nil
abbrev Ye:=@List.take_append_drop
abbrev Yf:=@Int.mul_comm
abbrev Yg:=@Int.one_mul
abbrev Yh:=@Nat.mul_comm
abbrev Yi:=@Int.le_trans
abbrev Yj:=@List.map_cons
abbrev Yk:=@List.replicate_succ
abbrev Yl:=@List.nodup_cons
abbrev Ym:=@List.range_succ
abbrev Yn:=@Int.natCast_mul
abbrev Yo:=@Int.natCast_ediv
abbrev Yp:=@List.mem_of_mem_take
abbrev Yq:=@Nat.sub_self
abbrev Yr:=@Array.getElem_toList
abbrev Ys:=@Option.map_eq_some_iff
abbrev Yt:=@PySem.W.kia_one
abbrev Yu:=@Int.le_refl
abbrev Yv:=@List.map_congr_left
abbrev Yw:=@List.length_drop
abbrev Yx:=@Int.natCast_emod
abbrev Yy:=@List.filter_append
abbrev Yz:=@PySem.Heap.size_push
abbrev Y0:=@List.drop_eq_getElem_cons
abbrev Y1:=@Int.mul_le_mul_of_nonneg_left
abbrev Y2:=@List.any_eq_true
abbrev Y3:=@Array.getElem?_toList
abbrev Y4:=@Nat.lt_of_le_of_lt
abbrev Y5:=@Nat.lt_of_le_of_ne
abbrev Y6:=@Int.zero_mul
abbrev Y7:=@Nat.mod_eq_of_lt
abbrev Y8:=@Int.add_mul_emod_self_left
abbrev Y9:=@PySem.W.hideAll_get
abbrev ZA:=@List.flatten_cons
abbrev ZB:=@List.length_reverse
abbrev ZC:=@Nat.lt_succ_of_lt
abbrev ZD:=@Int.emod_eq_of_lt
abbrev ZE:=@List.extract_eq_take_drop
abbrev ZF:=@Nat.le_of_lt
abbrev ZG:=@PySem.F.slot_dict_get
abbrev ZH:=@List.length_filter_le
abbrev ZI:=@List.take_succ
abbrev ZJ:=@List.nodup_append
abbrev ZK:=@Int.ediv_nonneg
abbrev ZL:=@PySem.Heap.get?_update_other
abbrev ZM:=@List.lookup_cons
abbrev ZN:=@List.filter_cons
abbrev ZO:=@PySem.Heap.get?_update_self
abbrev ZP:=@List.getElem?_eq_none
abbrev ZQ:=@Nat.sub_zero
abbrev ZR:=@Nat.add_sub_cancel
abbrev ZS:=@Nat.eq_zero_or_pos
abbrev ZT:=@List.nodup_nil
abbrev ZU:=@List.mem_of_mem_drop
abbrev ZV:=@Array.toList_extract
abbrev ZW:=@Nat.mod_lt
abbrev ZX:=@List.flatMap_cons
abbrev ZY:=@Int.natCast_pow
abbrev ZZ:=@Int.mul_le_mul_of_nonneg_right
abbrev Za:=@List.map_map
abbrev Zb:=@List.getElem?_replicate
abbrev Zc:=@List.any_cons
abbrev Zd:=@Nat.le_succ
abbrev Ze:=@PySem.F.plainAttrs_dict
abbrev Zf:=@Bool.and_eq_true
abbrev Zg:=@Nat.lt_succ_self
abbrev Zh:=@Int.mul_nonneg
abbrev Zi:=@PyProof.Rows.boot_list
abbrev Zj:=@Int.ediv_eq_zero_of_lt
abbrev Zk:=@PySem.F.entry_dict_get
abbrev Zl:=@PySem.F.slot_dict_setdefault
abbrev Zm:=@Nat.ne_of_gt
abbrev Zn:=@Int.mul_one
abbrev Zo:=@List.length_set
abbrev Zp:=@List.eq_replicate_iff
abbrev Zq:=@List.Perm.append_left
abbrev Zr:=@List.perm_append_comm
abbrev Zs:=@Nat.div_lt_iff_lt_mul
abbrev Zt:=@List.ext_getElem?
abbrev Zu:=@List.foldl_append
abbrev Zv:=@List.take_add_one
abbrev Zw:=@PySem.F.excBase_ValueError
abbrev Zx:=@Array.perm_iff_toList_perm
abbrev Zy:=@PySem.Heap.get?_none_of_le
abbrev Zz:=@List.mem_append_left
abbrev Z0:=@PySem.W.looks_findIn
abbrev Z1:=@Nat.div_lt_of_lt_mul
abbrev Z2:=@List.mem_iff_getElem
abbrev Z3:=@Array.getElem?_eq_getElem
abbrev Z4:=@List.findIdx?_eq_none_iff
abbrev Z5:=@Int.mul_le_mul
abbrev Z6:=@List.cons_append
abbrev Z7:=@Option.isSome_iff_exists
abbrev Z8:=@List.mem_filterMap
abbrev Z9:=@Bool.eq_iff_iff
abbrev aB:=@List.of_mem_zip
abbrev aC:=@List.length_nil
abbrev aD:=@Int.ediv_ediv_of_nonneg
abbrev aE:=@List.pairwise_cons
abbrev aG:=@Nat.not_lt_zero
abbrev aH:=@Int.natCast_add
abbrev aI:=@List.map_replicate
abbrev aJ:=@Nat.div_le_self
abbrev aK:=@List.getElem?_set_self
abbrev aL:=@PySem.W.cellsFrom_some
abbrev aM:=@List.take_of_length_le
abbrev aN:=@List.Perm.append_right
abbrev aO:=@PySem.W.kitx_list
abbrev aP:=@PySem.W.kitx_dict
abbrev aQ:=@List.getElem_take
abbrev aR:=@Bool.false_and
abbrev aS:=@List.drop_zero
abbrev aU:=@List.map_nil
abbrev aV:=@List.getElem?_reverse
abbrev aW:=@Int.add_mul_ediv_left
abbrev aY:=@Int.add_zero
abbrev aZ:=@PyProof.Rows.boot_sum
abbrev aa:=@List.getElem_inj
abbrev ae:=@List.flatMap_map
abbrev af:=@Nat.le_add_right
abbrev ag:=@List.map_reverse
abbrev ah:=@List.drop_length
abbrev ai:=@List.getElem?_set_ne
abbrev aj:=@Nat.pow_le_pow_right
abbrev am:=@Array.toList_reverse
abbrev ao:=@Nat.add_assoc
abbrev ap:=@List.nil_append
abbrev aq:=@Nat.min_eq_left
abbrev au:=@Nat.div_add_mod
abbrev av:=@Nat.succ_mul
abbrev aw:=@Int.mul_zero
abbrev ax:=@Nat.add_zero
abbrev ay:=@Nat.mod_le
namespace L2
open PySem PySem.Spec PyProof.Rows
abbrev CN:=Sum Int Str
noncomputable def IN:CN->Value->Bool
 |.inl k,v=>Value.isInt k v
 |.inr x,v=>Value.isStrOf x v
noncomputable def Wj(w:World):CN->Int
 |.inl k=>hashInt k
 |.inr x=>hashStr w x
theorem BW:∀{k:CN} {v:Value},IN k v=true->(∃i t,k=Sum.inl i/\v=Value.int i t)\/(∃x t,k=Sum.inr x/\v=Value.str x t)
 |.inl i,v,h=>by obtain⟨t,e⟩:=Value.isInt_shape (k:=i) (v:=v) h;exact .inl ⟨i,t,rfl,e⟩
 |.inr x,v,h=>by obtain⟨t,e⟩:=Value.isStrOf_shape (x:=x) (v:=v) h;exact .inr ⟨x,t,rfl,e⟩
theorem NM(i:Int)(t:Tok):IN (.inl i) (.int i t)=true:=by simp[IN,Value.isInt]
theorem NO(x:Str)(t:Tok):IN (.inr x) (.str x t)=true:=by simp[IN,Value.isStrOf]
theorem SJ(a b:Int):decide ((Sum.inl a:CN)=Sum.inl b)=(a==b):=by
 by_cases e:a=b
 ·subst e;simp
 ·have h:¬(Sum.inl a:CN)=Sum.inl b:=λq=>e (Sum.inl.inj q)
  rw[qI h];exact (beq_eq_false_iff_ne.mpr e).symm
theorem SK(a b:Str):decide ((Sum.inr a:CN)=Sum.inr b)=decide (a=b):=by
 by_cases e:a=b
 ·subst e;simp
 ·have h:¬(Sum.inr a:CN)=Sum.inr b:=λq=>e (Sum.inr.inj q)
  rw[qI h,qI e]
theorem SL(a:Int)(b:Str):decide ((Sum.inl a:CN)=Sum.inr b)=false:=qI (λq=>nomatch q)
theorem SM(a:Str)(b:Int):decide ((Sum.inr a:CN)=Sum.inl b)=false:=qI (λq=>nomatch q)
noncomputable def BK(prog:Program)(w:World):PySem.KeyKind prog w CN where
 is:=IN
 hash:=Wj w
 inj:=λv a b ha hb=>by
  rcases BW ha with⟨i,t,rfl,rfl⟩|⟨x,t,rfl,rfl⟩
  ·rcases BW hb with⟨j,u,rfl,e⟩|⟨y,u,rfl,e⟩
   ·injection e with e1 _;rw[e1]
   ·exact nomatch e
  ·rcases BW hb with⟨j,u,rfl,e⟩|⟨y,u,rfl,e⟩
   ·exact nomatch e
   ·injection e with e1 _;rw[e1]
 byValue:=λk v h=>by rcases BW h with⟨i,t,rfl,rfl⟩|⟨x,t,rfl,rfl⟩<;>rfl
 pyHash:=λhv h=>by
  rcases BW hv with⟨i,t,rfl,rfl⟩|⟨x,t,rfl,rfl⟩
  ·exact wpAny_pyHash_int h
  ·exact wpAny_pyHash_str h
 eqBool:=λhu hv h=>by
  rcases BW hu with⟨i,t,rfl,rfl⟩|⟨x,t,rfl,rfl⟩
  ·rcases BW hv with⟨j,u,rfl,rfl⟩|⟨y,u,rfl,rfl⟩
   ·rw[SJ]at h;exact wpAny_eqBool_int h
   ·rw[SL]at h;exact SeqAt.EqAt.int_str i t y u _ _ _ _ h
  ·rcases BW hv with⟨j,u,rfl,rfl⟩|⟨y,u,rfl,rfl⟩
   ·rw[SM]at h;exact SeqAt.EqAt.str_int x t j u _ _ _ _ h
   ·rw[SK]at h;exact wpAny_eqBool_str h
 «strs»:=λk x t v h=>by
  rcases BW h with⟨i,u,rfl,e⟩|⟨y,u,rfl,e⟩
  ·exact nomatch e
  ·injection e with e1 _
   subst e1;cases v<;>rfl
theorem Jz(prog:Program)(w:World)(i:Int)(t:Tok):(BK prog w).is (.inl i) (.int i t)=true:=NM i t
theorem J0(prog:Program)(w:World)(x:Str)(t:Tok):(BK prog w).is (.inr x) (.str x t)=true:=NO x t
inductive V where
 |non|bl (b:Bool)|int (i:Int)|str (x:Str)|byt (b:Array UInt8)|flt (b:UInt64)|ref (a:Addr)|ty (n:String)
 deriving DecidableEq
def Aq:V->Value->Prop
 |.non,u=>u=Value.none
 |.bl b,u=>u=Value.bool b
 |.int i,u=>∃t,u=Value.int i t
 |.str x,u=>∃t,u=Value.str x t
 |.byt b,u=>∃t,u=Value.bytes b t
 |.flt b,u=>∃t,u=Value.float b t
 |.ref a,u=>u=Value.ref a
 |.ty n,u=>u=Value.type n
abbrev Ao:List V->List Value->Prop:=Paired Aq
variable{xs:List V}{us:List Value}
theorem Ao.length(r:Ao xs us):xs.length=us.length:=Paired.length r
theorem Ao.get:∀{xs:List V} {us:List Value} {i:Nat} {x:V},Ao xs us->xs[i]?=some x->∃u,us[i]?=some u/\Aq x u
 |_,_,_,_,.nil,e=>by simp at e
 |_,_,0,_,.cons r _,e=>by simp at e;subst e;exact⟨_,rfl,r⟩
 |_,_,i+1,x,.cons _ t,e=>by obtain⟨u,h1,h2⟩:=Ao.get (i:=i) (x:=x) t (by simpa using e);exact⟨u,by simpa using h1,h2⟩
variable{u:Value}
theorem Ao.set{x:V}(r:Aq x u):∀{xs:List V} {us:List Value} (i:Nat),Ao xs us->Ao (xs.set i x) (us.set i u)
 |_,_,_,.nil=>.nil
 |_,_,0,.cons _ t=>.cons r t
 |_,_,i+1,.cons q t=>.cons q (Ao.set r i t)
theorem Ao.append:∀{xs ys:List V} {us ws:List Value},Ao xs us->Ao ys ws->Ao (xs++ys) (us++ws)
 |_,_,_,_,.nil,s=>s
 |_,_,_,_,.cons r t,s=>.cons r (Ao.append t s)
theorem Ao.take:∀{xs:List V} {us:List Value} (n:Nat),Ao xs us->Ao (xs.take n) (us.take n)
 |_,_,0,_=>.nil
 |_,_,_+1,.nil=>.nil
 |_,_,n+1,.cons r t=>.cons r (Ao.take n t)
theorem Ao.drop:∀{xs:List V} {us:List Value} (n:Nat),Ao xs us->Ao (xs.drop n) (us.drop n)
 |_,_,0,r=>r
 |_,_,_+1,.nil=>.nil
 |_,_,n+1,.cons _ t=>Ao.drop n t
noncomputable def Fm:Option V->Option Value->Prop
 |some v,some u=>Aq v u
 |none,none=>True
 |_,_=>False
def KV{κ:Type}:List (κ×V)->List (κ×Value)->Prop:=Paired λ(p:κ×V) (q:κ×Value)=>p.1=q.1/\Aq p.2 q.2
def kV:CN->V
 |.inl i=>.int i
 |.inr x=>.str x
inductive HO where
 |lst (xs:List V)
 |tup (xs:List V)
 |dK (kvs:List (CN×V))|dT (kvs:List (List CN×V))
 |set (S:Int->Bool) (n:Nat)
 |ins (C dx:Addr) (fs:List (Str×V))
 |own (x:Addr)
 |xd (fs:List (Str×V))
 |met (f x:Addr)
 |rng (lo hi:Int)
 |frz (o:Obj) (u:HO)
 |tbl (ps:Array Value)
 |ext (φ:Heap->Prop)
abbrev Hp:=Addr->Option HO
noncomputable def Aj(H:Hp)(a:Addr)(o:HO):Hp:=λb=>if b=a then some o else H b
variable{H:Hp}{a:Addr}{o:HO}
theorem AC:Aj H a o a=some o:=by unfold Aj;rw[qF rfl]
variable{b:Addr}
theorem AK(h:b≠a):Aj H a o b=H b:=by unfold Aj;rw[qE h]
theorem FP{u:HO}:Aj (Aj H a o) a u=Aj H a u:=by
 funext b;unfold Aj;split<;>rfl
theorem MW{u:HO}(h:H a=some o)(h':H b=some u)(d:o≠u):a≠b:=by intro e;subst e;rw[h]at h';exact d (Option.some.inj h')
theorem Al(h:H a=some o)(h':H b=none):a≠b:=by intro e;subst e;rw[h]at h';cases h'
section
variable(P:Program)(w:World)
noncomputable def Aw(H:Hp)(h:Heap)(a:Addr):HO->Prop
 |.lst xs=>xs.length<=sizeLine/\∃(its:List Value) (n:Nat),Ao xs its/\h.get? a=some {cls:=.type "list",data:=.seq its.toArray n}
 |.tup xs=>xs.length<=sizeLine/\∃its:List Value,Ao xs its/\IsTup h a its.toArray
 |.dK kvs=>kvs.length<=sizeLine/\(a==sysModules)=false/\∃vs,KV kvs vs/\h.DictOf (BK P w) a vs
 |.dT kvs=>kvs.length<=sizeLine/\(a==sysModules)=false/\∃xs:List (List CN×Addr×Value),
   Paired (λ(p:List CN×V) (q:List CN×Addr×Value)=>p.1=q.1/\H q.2.1=some (.tup (p.1.map kV))/\Aq p.2 q.2.2) kvs xs /\
   ∃o es ep,h.get? a=some o/\o.ExactDict/\o.data=.dict es ep/\es.toList=xs.map (entryOfKey (tupleKind (BK P w)))/\(xs.map (·.1)).Nodup
 |.set S n=>h.SetOf (intKind P w) a S n
 |.ins C dx fs=>H dx=some (.own a)/\fs.length<=1000/\dx≠a/\h.get? a=some (PySem.W.instObj C dx) /\
   ∃mA,h.Ns1 dx mA/\(∀f,Fm (fs.lookup f) (mA f))/\PySem.Within mA (fs.map (·.1))
 |.own _=>∃o,h.get? a=some o
 |.xd fs=>∃mA,h.Ns1 a mA/\∀f,Fm (fs.lookup f) (mA f)
 |.rng lo hi=>∃t u v,h.get? a=some {cls:=.type "range",data:=.fields #[.int lo t,.int hi u,.int 1 v]}
 |.frz o u=>h.get? a=some o/\Aw H h a u
 |.tbl ps=>h.get? a=some {cls:=.none,data:=.fields ps}
 |.met f x=>h.get? a=some (PySem.W.methodObj (.ref f) (.ref x))
 |.ext φ=>φ h/\(∃o,h.get? a=some o)/\∀h1 h2:Heap,φ h1->(∀o,h1.get? a=some o->h2.get? a=some o)->φ h2
def Dd(H:Hp)(h:Heap):Prop:=∀a o,H a=some o->Aw P w H h a o
end
variable{α β:Type}
section
variable{P:Program}{w:World}{H':Hp}{h h':Heap}
theorem Aw.lt(x:Aw P w H h a o):a<h.objs.size:=by
 cases o with
 |lst xs=>obtain⟨_,_,_,_,e⟩:=x;exact Xt e
 |tup xs=>obtain⟨_,_,_,p⟩:=x;exact p.lt
 |dK kvs=>obtain⟨_,_,_,_,o,_,_,e,_⟩:=x;exact Xt e
 |dT kvs=>obtain⟨_,_,_,_,o,_,_,e,_⟩:=x;exact Xt e
 |set S n=>obtain⟨o,_,_,_,e,_⟩:=x;exact Xt e
 |ins C dx fs=>obtain⟨_,_,_,e,_⟩:=x;exact Xt e
 |own y=>obtain⟨_,e⟩:=x;exact Xt e
 |xd fs=>obtain⟨_,⟨_,_,_,e,_⟩,_⟩:=x;exact Xt e
 |rng lo hi=>obtain⟨_,_,_,e⟩:=x;exact Xt e
 |frz ob u=>obtain⟨e,_⟩:=x;exact Xt e
 |tbl ps=>exact Xt (show h.get? a=some _ from x)
 |met f y=>exact Xt (show h.get? a=some _ from x)
 |ext φ=>obtain⟨_,⟨_,e⟩,_⟩:=x;exact Xt e
theorem Paired.mapP{F G:α->β->Prop}:∀{l₁:List α} {l₂:List β},Paired F l₁ l₂->(∀a b,F a b->G a b)->Paired G l₁ l₂
 |_,_,.nil,_=>.nil
 |_,_,.cons r t,f=>.cons (f _ _ r) (Paired.mapP t f)
theorem Aw.stay(x:Aw P w H h a o)(k:∀b u,(b=a\/H b=some (.own a))->h.get? b=some u->h'.get? b=some u)
  (ho:∀b,H b=some (.own a)->H' b=some (.own a)) (ht:∀b xs,H b=some (.tup xs)->H' b=some (.tup xs)):Aw P w H' h' a o:=by
 induction o with
 |lst xs=>obtain⟨z,its,n,r,e⟩:=x;exact⟨z,its,n,r,k _ _ (.inl rfl) e⟩
 |tup xs=>obtain⟨z,its,r,ob,e,c⟩:=x;exact⟨z,its,r,ob,k _ _ (.inl rfl) e,c⟩
 |dK kvs=>obtain⟨z,y,vs,r,ob,es,ep,e,c⟩:=x;exact⟨z,y,vs,r,ob,es,ep,k _ _ (.inl rfl) e,c⟩
 |dT kvs =>
  obtain⟨z,y,xs,r,ob,es,ep,e,c⟩:=x;exact⟨z,y,xs,Paired.mapP r λp q z=>⟨z.1,ht _ _ z.2.1,z.2.2⟩,ob,es,ep,k _ _ (.inl rfl) e,c⟩
 |set S n=>obtain⟨ob,es,ep,t,e,c⟩:=x;exact⟨ob,es,ep,t,k _ _ (.inl rfl) e,c⟩
 |ins C dx fs =>
  obtain⟨d,z,ne,e,mA,⟨od,es,ep,e2,c⟩,r⟩:=x;exact⟨ho _ d,z,ne,k _ _ (.inl rfl) e,mA,⟨od,es,ep,k _ _ (.inr d) e2,c⟩,r⟩
 |own y=>obtain⟨ob,e⟩:=x;exact⟨ob,k _ _ (.inl rfl) e⟩
 |xd fs=>obtain⟨mA,⟨od,es,ep,e,c⟩,r⟩:=x;exact⟨mA,⟨od,es,ep,k _ _ (.inl rfl) e,c⟩,r⟩
 |rng lo hi=>obtain⟨t,u,v,e⟩:=x;exact⟨t,u,v,k _ _ (.inl rfl) e⟩
 |frz ob u ih=>obtain⟨e,q⟩:=x;exact⟨k _ _ (.inl rfl) e,ih q⟩
 |tbl ps =>
  have e:h.get? a=some {cls:=.none,data:=.fields ps}:=x;show h'.get? a=some {cls:=.none,data:=.fields ps};exact k a _ (.inl rfl) e
 |met f y =>
  have e:h.get? a=some (PySem.W.methodObj (.ref f) (.ref y)):=x;show h'.get? a=some (PySem.W.methodObj (.ref f) (.ref y));exact k a _ (.inl rfl) e
 |ext φ=>obtain⟨p,⟨o,e⟩,st⟩:=x;exact⟨st _ _ p λo q=>k _ _ (.inl rfl) q,⟨o,k _ _ (.inl rfl) e⟩,st⟩
theorem Dd.lt(x:Dd P w H h)(e:H a=some o):a<h.objs.size:=(x a o e).lt
theorem Dd.fresh(x:Dd P w H h)(e:h.objs.size<=a):H a=none:=by
 cases q:H a with
 |none=>rfl
 |some u=>exact qG (Xw (x.lt q) e) (YE _)
theorem Dd.kept(x:Dd P w H h)(k:∀b u,h.get? b=some u->h'.get? b=some u):Dd P w H h':=λa o e =>
 (x a o e).stay (λb u _ q=>k b u q) (λ_ q=>q) λ_ _ q=>q
theorem Dd.laid(x:Dd P w H h)(k:∀b u,h.get? b=some u->h'.get? b=some u)(hp:h.objs.size<=a)(new:Aw P w (Aj H a o) h' a o):Dd P w (Aj H a o) h':=λb u e=>by
 have hn:=x.fresh hp
 by_cases hb:b=a
 ·subst hb;rw[AC]at e;cases e;exact new
 ·rw[AK hb]at e;exact (x b u e).stay (λc v _ q=>k c v q) (λc q=>by rw[AK (Al q hn)];exact q) λc xs q=>by rw[AK (Al q hn)];exact q
end
def Rd(H:Hp)(a:Addr)(u:HO):Prop:=H a=some u\/∃o,H a=some (.frz o u)
variable{h:Heap}
theorem Rd.ok{P:Program}{w:World}{u:HO}(r:Rd H a u)(x:Dd P w H h):Aw P w H h a u:=by
 rcases r with r|⟨o,r⟩
 ·exact x a u r
 ·obtain⟨_,q⟩:=x a _ r;exact q
noncomputable def Ue:Option HO->Prop
 |some (.lst _)=>True
 |some (.dK _)=>True
 |some (.dT _)=>True
 |some (.set _ _)=>True
 |some (.ins _ _ _)=>True
 |some (.ext _)=>True
 |_=>False
section
variable{P:Program}{w:World}{h':Heap}{x e:Addr}{o':HO}
theorem Dd.write(ok:Dd P w H h)(mu:Ue (H x))(he:e=x\/H e=some (.own x))(k:∀b u,b≠e->h.get? b=some u->h'.get? b=some u)(heo:∃u,h'.get? e=some u)
  (new:Aw P w (Aj H x o') h' x o'):Dd P w (Aj H x o') h':=λb u q=>by
 have nown:∀c y,H c=some (.own y)->c≠x:=λc y r z=>by subst z;rw[r]at mu;exact mu
 have ntup:∀c xs,H c=some (.tup xs)->c≠x:=λc xs r z=>by subst z;rw[r]at mu;exact mu
 by_cases hb:b=x
 ·subst hb;rw[AC]at q;cases q;exact new
 ·rw[AK hb]at q
  by_cases hbe:b=e
  ·have q':H b=some (.own x):=by
    rcases he with z|z
    ·exact qG (hbe.trans z) hb
    ·rw[hbe];exact z
   rw[q]at q';cases q';obtain⟨v,hv⟩:=heo;exact⟨v,by rw[hbe];exact hv⟩
  ·refine (ok b u q).stay (λc v hc r=>k c v ?_ r) (λc r=>by rw[AK (nown c b r)];exact r) λc xs r=>by rw[AK (ntup c xs r)];exact r
   rcases hc with rfl|hc
   ·exact hbe
   ·rintro rfl;rcases he with z|z
    ·exact nown c b hc z
    ·rw[hc]at z;cases z;exact hb rfl
end
structure Un(fs ex:List Addr)(H H':Hp)(h h':Heap):Prop where
 keep:∀b o,h.get? b=some o->H b=none->b∉fs->b∉ex->h'.get? b=some o
 slot:∀b o,h.get? b=some o->H b=none->b∈fs->b∉ex->∃sl,h'.get? b=some {o with slots:=sl}
 free:∀b o,h.get? b=some o->H b=none->b∉ex->H' b=none
 there:∀b o,h.get? b=some o->b∉ex->∃o',h'.get? b=some o'
 tups:∀b xs,H b=some (.tup xs)->H' b=some (.tup xs)
 frzs:∀b o u,H b=some (.frz o u)->H' b=some (.frz o u)
 tbls:∀b ps,H b=some (.tbl ps)->∃more,H' b=some (.tbl (ps++more))
section
variable{fs fs' ex ex':List Addr}{H1 H2:Hp}{h1 h2 h':Heap}{x e:Addr}
theorem Un.any(u:Un fs ex H H1 h h1){ob:Obj}(q:h.get? b=some ob)(n:H b=none)(hx:b∉ex):∃sl,h1.get? b=some {ob with slots:=sl}:=by
 by_cases hb:b∈fs
 ·exact u.slot b ob q n hb hx
 ·exact⟨ob.slots,u.keep b ob q n hb hx⟩
theorem Un.kept(k:∀b u,h.get? b=some u->h'.get? b=some u):Un fs ex H H h h':=
 ⟨λb ob q _ _ _=>k b ob q,λb ob q _ _ _=>⟨ob.slots,k b ob q⟩,λ_ _ _ n _=>n,λb ob q _=>⟨ob,k b ob q⟩,λ_ _ q=>q,λ_ _ _ q=>q,λ_ ps q=>⟨#[],by rw[q];simp⟩⟩
theorem Un.refl:Un fs ex H H h h:=Un.kept λ_ _ q=>q
theorem Un.laid(k:∀b u,h.get? b=some u->h'.get? b=some u)(hp:h.objs.size<=a)(hn:H a=none):Un fs ex H (Aj H a o) h h' where
 keep:=λb u q _ _ _=>k b u q
 slot:=λb u q _ _ _=>⟨u.slots,k b u q⟩
 free:=λb u q n _=>by rw[AK (YW (Xw (Xt q) hp))];exact n
 there:=λb u q _=>⟨u,k b u q⟩
 tups:=λb xs q=>by rw[AK (Al q hn)];exact q
 frzs:=λb u xs q=>by rw[AK (Al q hn)];exact q
 tbls:=λb ps q=>⟨#[],by rw[AK (Al q hn),q];simp⟩
theorem Un.write(mu:Ue (H x))(he:e=x\/H e=some (.own x))(k:∀b u,b≠e->h.get? b=some u->h'.get? b=some u)(heo:∃u,h'.get? e=some u):Un fs ex H (Aj H x o) h h':=by
 have hx:∀b,H b=none->b≠x:=λb n z=>by subst z;rw[n]at mu;exact mu
 have hb:∀b,H b=none->b≠e:=λb n z=>by
  subst z;rcases he with r|r
  ·exact hx b n r
  ·rw[n]at r;cases r
 have hm:∀b u,H b=some u->¬Ue (some u)->b≠x:=λb u q nm z=>by subst z;rw[q]at mu;exact nm mu
 refine⟨λb u q n _ _=>k b u (hb b n) q,λb u q n _ _=>⟨u.slots,k b u (hb b n) q⟩,λb u q n _=>by rw[AK (hx b n)];exact n,λb u q _=>?_,
  λb xs q=>by rw[AK (hm b _ q λz=>z)];exact q,λb u xs q=>by rw[AK (hm b _ q λz=>z)];exact q,λb ps q=>⟨#[],by rw[AK (hm b _ q λz=>z),q];simp⟩⟩
 by_cases hbe:b=e
 ·subst hbe;exact heo
 ·exact⟨u,k b u hbe q⟩
end
noncomputable def trk(h:Heap)(H:Hp):List Addr:=(List.range h.objs.size).filter λa=>(H a).isSome
noncomputable def IG(h:Heap)(H:Hp):Heap:=PySem.W.hideAll h (trk h H)
theorem NP(h:Heap)(H:Hp):(IG h H).objs.size=h.objs.size:=PySem.W.hideAll_size _ _
theorem OK{o:Obj}(e:h.get? b=some o)(n:H b=none):(IG h H).get? b=some o:=
 Y9 _ e λhm=>by have q:(H b).isSome=true:=(Ya.mp hm).2;rw[n]at q;simp at q
theorem QO{o:Obj}(e:(IG h H).get? b=some o):h.get? b=some o/\H b=none:=by
 have e':h.get? b=some o:=PySem.W.of_hideAll (trk h H) e;refine⟨e',?_⟩;cases q:H b with
 |none=>rfl
 |some x =>
  have hm:b∈trk h H:=List.mem_filter.mpr ⟨List.mem_range.mpr (Heap.lt_size e'),by simp[q]⟩;have z:(IG h H).get? b=none:=PySem.W.hideAll_none (trk h H) hm;rw[z]at e;cases e
structure WZ(K:qJ)(mg:Str->Option Value)(base:Heap):Prop where
 kin:K.In base
 glob:base.Ns mainGlobals mg
 blt:∃mb,base.Ns builtinsNs mb/\∀x:Str,x≠"__name__"->mb x=bootBuiltins x
 nolimit:base.NoLimit
structure Cx where
 prog:Program
 w:World
 K:qJ
 mg:Str->Option Value
 base:Heap
 A:Around
 N:List Str
 s₀:Shared
 H₀:Hp
 env:Env
 outer:List Env
 stack:List Env
 ex:List Addr
 fn:Str->Bool
 calm:Bool
 pn:List (Addr×Obj)
 xe:Value->Shared->Prop
def Cq(l:List Env):List Addr:=l.filterMap (·.frame)
abbrev Cx.fs(X:Cx):List Addr:=Cq X.outer
def Uf(sc:Scope)(x:Str):Prop:=sc.names.lookup x=some .local\/sc.names.lookup x=some .cell\/sc.names.lookup x=some .free
def RX(sc:Scope)(x:Str):Prop:=sc.names.lookup x=some .local\/sc.names.lookup x=some .cell
def Ug(env:Env)(h:Heap)(m:Str->Option Value)(x:Str)(u:Value):Prop:=
 (env.kindOf x=some .local/\m x=some u)\/((env.kindOf x=some .cell\/env.kindOf x=some .free)/\∃c,env.cells.lookup x=some c/\h.IsCell c (some u))
structure Cx.Ok(X:Cx):Prop where
 mod:WZ X.K X.mg X.base
 kind:X.env.scope.kind=.function
 glob:X.env.globals=mainGlobals
 blt:X.env.builtins=builtinsNs
 above:X.s₀.heap.objs.size<=X.env.locals
 inj:∀x y c,X.env.cells.lookup x=some c->X.env.cells.lookup y=some c->x=y
 has:∀x,(X.env.kindOf x=some .cell\/X.env.kindOf x=some .free)->∃c,X.env.cells.lookup x=some c
 cab:∀x c,X.fn x=true->X.env.cells.lookup x=some c->X.s₀.heap.objs.size<=c
 hd:X.calm=true->X.A.handled=none
 frames:X.A.frames=some X.stack
 stk:X.stack=X.outer\/(X.stack=X.env::X.outer/\X.env.frame=some X.env.locals)
 exf:∀b∈X.ex,b≠X.env.locals/\∀x c,X.env.cells.lookup x=some c->c≠b
 bs:∀b o,X.base.get? b=some o->X.s₀.heap.get? b=some o/\X.H₀ b=none
 bsz:X.base.objs.size<=X.s₀.heap.objs.size
 noex:∀b o,X.base.get? b=some o->b∉X.ex
 exfs:∀b∈X.ex,b∉X.fs
 funs:X.s₀.heap.FunFrames X.base X.outer
 frf:∀b∈X.fs,X.H₀ b=none
structure AY(X:Cx)(pins:List (Addr×Obj))(σ:List (Option V))(H:Hp)(s:Shared):Prop where
 ok:X.Ok
 os:s.os=X.s₀.os
 bare:AllBare s.gens
 base:Un X.fs X.ex X.H₀ H X.s₀.heap s.heap
 loc:∃m,s.heap.Ns X.env.locals m/\∀(i:Nat) (x:Str) (v:V),X.N[i]?=some x->σ[i]?=some (some v)->Uf X.env.scope x->∃u,Aq v u/\Ug X.env s.heap m x u
 cell:∀x c,X.env.cells.lookup x=some c->∃v,s.heap.IsCell c v
 free:H X.env.locals=none
 freeC:∀x c,X.env.cells.lookup x=some c->H c=none
 pin:∀p∈X.pn++pins,s.heap.get? p.1=some p.2/\H p.1=none/\p.1≠X.env.locals/\p.1∉X.fs/\∀v,p.2.data≠.cell v
 hok:Dd X.prog X.w H s.heap
 len:σ.length=X.N.length
variable{x:Str}{ch:List Addr}{t' i j:Nat}{it:Addr}{s':Shared}
section
variable{X:Cx}{pins:List (Addr×Obj)}{σ:List (Option V)}{H':Hp}{s:Shared}{h':Heap}
theorem Cx.Ok.nofr(ok:X.Ok){o:Obj}(e:X.base.get? b=some o):b∉X.fs:=λhb=>by have:=(ok.funs.mem hb).1;rw[e]at this;cases this
theorem AY.bs(I:AY X pins σ H s):∀b o,X.base.get? b=some o->s.heap.get? b=some o/\H b=none:=λb o e =>
 ⟨I.base.keep b o (I.ok.bs b o e).1 (I.ok.bs b o e).2 (I.ok.nofr e) (I.ok.noex b o e),I.base.free b o (I.ok.bs b o e).1 (I.ok.bs b o e).2 (I.ok.noex b o e)⟩
theorem AY.bk(I:AY X pins σ H s):∀b o,X.base.get? b=some o->s.heap.get? b=some o:=λb o e=>(I.bs b o e).1
theorem AY.mod(I:AY X pins σ H s):WZ X.K X.mg X.base:=I.ok.mod
theorem AY.kIn(I:AY X pins σ H s):X.K.In s.heap:=I.ok.mod.kin.keeps I.bk
theorem AY.lt(I:AY X pins σ H s):X.env.locals<s.heap.objs.size:=let ⟨_,hn,_⟩:=I.loc;hn.lt
theorem AY.sz(I:AY X pins σ H s):X.s₀.heap.objs.size<=s.heap.objs.size:=YK I.ok.above (ZF I.lt)
theorem AY.nofs(I:AY X pins σ H s)(h:s.heap.objs.size<=a):a∉X.fs:=λhb=>by obtain⟨_,o,ho,_⟩:=I.ok.funs.mem hb;exact qG (Xw (Xt ho) (YK I.sz h)) (YE _)
theorem AY.cne(I:AY X pins σ H s):∀x c,X.env.cells.lookup x=some c->c≠X.env.locals:=λx c e z=>by obtain⟨v,o,ho,hd⟩:=I.cell x c e;obtain⟨m,⟨o',es,ep,ho',hd',_⟩,_⟩:=I.loc;rw[z,ho']at ho;cases ho;rw[hd']at hd;cases hd
theorem AY.funs(I:AY X pins σ H s):s.heap.FunFrames X.base X.outer:=by
 have all:∀(l:List Env),(∀b∈Cq l,b∈X.fs)->X.s₀.heap.FunFrames X.base l->s.heap.FunFrames X.base l:=by
  intro l
  induction l with
  |nil=>intro _ _;trivial
  |cons env r ih =>
   intro hs hl;obtain⟨hk,⟨L,o,hf,hn,ho,hd⟩,hr⟩:=hl;have hL:L∈X.fs:=hs L (by unfold Cq;rw[List.filterMap_cons,hf];exact List.mem_cons_self);obtain⟨sl,e⟩:=I.base.slot L o ho (I.ok.frf L hL) hL λz=>I.ok.exfs L z hL
   exact⟨hk,⟨L,_,hf,hn,e,hd⟩,ih (λb hb=>hs b (by unfold Cq;rw[List.filterMap_cons,hf];exact List.mem_cons_of_mem _ hb)) hr⟩
 exact all X.outer (λ_ hb=>hb) I.ok.funs
theorem AY.stack(I:AY X pins σ H s):s.heap.FunFrames X.base X.stack:=by
 rcases I.ok.stk with e|⟨e,hf⟩
 ·rw[e];exact I.funs
 ·rw[e];obtain⟨m,hn,_⟩:=I.loc;refine .cons (by rw[I.ok.kind];decide) hf hn ?_ I.funs;exact Zy (YK I.ok.bsz I.ok.above)
theorem AY.stkSub(I:AY X pins σ H s):∀b∈Cq X.stack,b∈X.env.locals::X.fs:=λb hb=>by
 rcases I.ok.stk with e|⟨e,hf⟩
 ·rw[e]at hb;exact X0 _ hb
 ·rw[e]at hb;unfold Cq at hb;rw[List.filterMap_cons,hf]at hb;exact hb
theorem AY.stkFree(I:AY X pins σ H s):∀b∈Cq X.stack,H b=none:=λb hb=>by
 rcases YA.mp (I.stkSub b hb) with e|hb
 ·rw[e];exact I.free
 ·obtain⟨_,o,ho,_⟩:=I.ok.funs.mem hb;exact I.base.free b o ho (I.ok.frf b hb) λz=>I.ok.exfs b z hb
theorem AY.step{g':Array GenState}{t':Nat}{d':Drawn}(I:AY X pins σ H s)
  (hch:∀b∈ch,(b∈X.ex\/X.s₀.heap.objs.size<=b)/\b≠X.env.locals/\(∀x c,X.env.cells.lookup x=some c->c≠b)/\∀p∈X.pn++pins,p.1≠b)
  (keep:∀b o,b≠X.env.locals->b∉X.fs->b∉ch->s.heap.get? b=some o->H b=none->h'.get? b=some o)
  (slot:∀b o,b≠X.env.locals->b∈X.fs->b∉ch->s.heap.get? b=some o->H b=none->∃sl,h'.get? b=some {o with slots:=sl}) (free:∀b o,b∉ch->s.heap.get? b=some o->H b=none->H' b=none)
  (there:∀b o,b∉ch->s.heap.get? b=some o->∃o',h'.get? b=some o')
  (tups:∀b xs,H b=some (.tup xs)->H' b=some (.tup xs)) (frzs:∀b o u,H b=some (.frz o u)->H' b=some (.frz o u)) (tbls:∀b ps,H b=some (.tbl ps)->∃more,H' b=some (.tbl (ps++more)))
  (ns:∀m,s.heap.Ns X.env.locals m->h'.Ns X.env.locals m) (hok:Dd X.prog X.w H' h') (hg:AllBare g'):
  AY X pins σ H' {s with heap:=h',gens:=g',drawn:=d',toks:=t'}:=by
 have neL:∀b o,X.s₀.heap.get? b=some o->b≠X.env.locals:=λb o e=>YW (Xw (Xt e) I.ok.above)
 have neC:∀b o,X.s₀.heap.get? b=some o->b∉X.ex->b∉ch:=λb o e hx hb=>by
  rcases (hch b hb).1 with z|z
  ·exact hx z
  ·exact qG (Xw (Xt e) z) (YE _)
 have cellK:∀x c,X.env.cells.lookup x=some c->∀v,s.heap.IsCell c v->h'.IsCell c v:=λx c e v ⟨o,ho,hd⟩=>by
  have nch:c∉ch:=λz=>(hch c z).2.2.1 x c e rfl
  by_cases hc:c∈X.fs
  ·obtain⟨sl,q⟩:=slot c o (I.cne x c e) hc nch ho (I.freeC x c e);exact⟨_,q,hd⟩
  ·exact⟨o,keep c o (I.cne x c e) hc nch ho (I.freeC x c e),hd⟩
 refine⟨I.ok,I.os,hg,⟨λb o e n hb hx=>?_,λb o e n hb hx=>?_,λb o e n hx=>?_,λb o e hx=>?_,λb xs e=>tups b xs (I.base.tups b xs e),λb o xs e=>frzs b o xs (I.base.frzs b o xs e),λb ps e=>?_⟩,?_,λx c e=>?_,?_,λx c e=>?_,λp hp=>?_,hok,I.len⟩
 ·exact keep b o (neL b o e) hb (neC b o e hx) (I.base.keep b o e n hb hx) (I.base.free b o e n hx)
 ·obtain⟨sl,e1⟩:=I.base.slot b o e n hb hx;obtain⟨sl',e2⟩:=slot b _ (neL b o e) hb (neC b o e hx) e1 (I.base.free b o e n hx);exact⟨sl',e2⟩
 ·obtain⟨o',e1⟩:=I.base.there b o e hx;exact free b o' (neC b o e hx) e1 (I.base.free b o e n hx)
 ·obtain⟨o',e1⟩:=I.base.there b o e hx;exact there b o' (neC b o e hx) e1
 ·obtain⟨m1,e1⟩:=I.base.tbls b ps e;obtain⟨m2,e2⟩:=tbls b _ e1;exact⟨m1++m2,by rw[e2,Array.append_assoc]⟩
 ·obtain⟨m,hn,hl⟩:=I.loc;refine⟨m,ns m hn,λi x v e1 e2 e3=>?_⟩;obtain⟨u,r,l⟩:=hl i x v e1 e2 e3;refine⟨u,r,?_⟩;rcases l with l|⟨k,c,e,z⟩
  ·exact .inl l
  ·exact .inr ⟨k,c,e,cellK x c e _ z⟩
 ·obtain⟨v,z⟩:=I.cell x c e;exact⟨v,cellK x c e v z⟩
 ·obtain⟨m,⟨o,_,_,ho,_⟩,_⟩:=I.loc;exact free _ o (λz=>(hch _ z).2.1 rfl) ho I.free
 ·obtain⟨v,o,ho,hd⟩:=I.cell x c e;exact free c o (λz=>(hch c z).2.2.1 x c e rfl) ho (I.freeC x c e)
 ·obtain⟨e,n,ne,nf,d⟩:=I.pin p hp;have nch:p.1∉ch:=λz=>(hch p.1 z).2.2.2 p hp rfl
  exact⟨keep p.1 p.2 ne nf nch e n,free p.1 p.2 nch e n,ne,nf,d⟩
theorem AY.un(I:AY X pins σ H s)(u:Un X.fs [] H H' s.heap h')(hok:Dd X.prog X.w H' h'):AY X pins σ H' {s with heap:=h',toks:=t'}:=by
 obtain⟨m,⟨o,es,ep,ho,r⟩,_⟩:=id I.loc;obtain⟨sl,hL⟩:=u.any ho I.free (by simp)
 exact I.step (g':=s.gens) (d':=s.drawn) (ch:=[]) (λ_ z=>nomatch z) (λb o _ hb _ e n=>u.keep b o e n hb (by simp)) (λb o _ hb _ e n=>u.slot b o e n hb (by simp)) (λb o _ e n=>u.free b o e n (by simp)) (λb o _ e=>u.there b o e (by simp)) u.tups u.frzs u.tbls (λm' hm=>by obtain⟨o',es',ep',ho',r'⟩:=hm;rw[ho]at ho';cases ho';exact⟨_,es',ep',hL,r'⟩) hok I.bare
theorem AY.call{g':Array GenState}{d':Drawn}(I:AY X pins σ H s)(u:Un (Cq X.stack) ch H H' s.heap h')(hok:Dd X.prog X.w H' h')(hg:AllBare g')
  (hch:∀b∈ch,(b∈X.ex\/X.s₀.heap.objs.size<=b)/\b≠X.env.locals/\(∀x c,X.env.cells.lookup x=some c->c≠b)/\∀p∈X.pn++pins,p.1≠b):
  AY X pins σ H' {s with heap:=h',gens:=g',drawn:=d',toks:=t'}:=by
 obtain⟨m,⟨o,es,ep,ho,r⟩,_⟩:=id I.loc;obtain⟨sl,hL⟩:=u.any ho I.free λz=>(hch _ z).2.1 rfl
 exact I.step (ch:=ch) hch (λb o hL hb hc e n=>u.keep b o e n (λz=>(YA.mp (I.stkSub b z)).elim hL hb) hc) (λb o _ _ hc e n=>u.any e n hc) (λb o hc e n=>u.free b o e n hc) (λb o hc e=>u.there b o e hc) u.tups u.frzs u.tbls (λm' hm=>by obtain⟨o',es',ep',ho',r'⟩:=hm;rw[ho]at ho';cases ho';exact⟨_,es',ep',hL,r'⟩) hok hg
theorem AY.turned(I:AY X pins σ H s)(k:∀b o,b≠it->s.heap.get? b=some o->h'.get? b=some o)(hn:H it=none)(hL:it≠X.env.locals)
  (h1:it∈X.ex\/X.s₀.heap.objs.size<=it) (h2:∀x c,X.env.cells.lookup x=some c->c≠it) (h3:∀p∈X.pn++pins,p.1≠it):AY X pins σ H {s with heap:=h',toks:=t'}:=by
 have nit:∀b u,H b=some u->b≠it:=λb u e z=>by rw[z,hn]at e;cases e
 refine I.step (g':=s.gens) (d':=s.drawn) (ch:=[it]) (λb hb=>?_) (λb o _ _ hc e _=>k b o (λz=>hc (by simp[z])) e) (λb o _ _ hc e _=>⟨o.slots,k b o (λz=>hc (by simp[z])) e⟩) (λ_ _ _ _ n=>n)
  (λb o hc e=>⟨o,k b o (λz=>hc (by simp[z])) e⟩) (λ_ _ e=>e) (λ_ _ _ e=>e) (λb ps e=>⟨#[],by rw[e];simp⟩) (λm hm=>?_) (λb u e=>?_) I.bare
 ·have e:b=it:=by simpa using hb
  subst e;exact⟨h1,hL,h2,h3⟩
 ·obtain⟨o,es,ep,ho,r⟩:=hm;exact⟨o,es,ep,k _ o (Ne.symm hL) ho,r⟩
 ·refine (I.hok b u e).stay (λc v hc q=>k c v ?_ q) (λ_ q=>q) λ_ _ q=>q
  rcases hc with z|z
  ·rw[z];exact nit b u e
  ·exact nit c _ z
theorem AY.tok(I:AY X pins σ H s)(t:Nat):AY X pins σ H {s with toks:=t}:=I.un (h':=s.heap) (t':=t) Un.refl I.hok
theorem AY.kept(I:AY X pins σ H s)(k:∀b u,s.heap.get? b=some u->h'.get? b=some u):AY X pins σ H {s with heap:=h',toks:=t'}:=I.un (Un.kept k) (I.hok.kept k)
theorem AY.laid(I:AY X pins σ H s)(k:∀b u,s.heap.get? b=some u->h'.get? b=some u)(hp:s.heap.objs.size<=a)(new:Aw X.prog X.w (Aj H a o) h' a o):
  AY X pins σ (Aj H a o) {s with heap:=h',toks:=t'}:=I.un (Un.laid k hp (I.hok.fresh hp)) (I.hok.laid k hp new)
theorem AY.write{x e:Addr}(I:AY X pins σ H s)(mu:Ue (H x))(he:e=x\/H e=some (.own x))(k:∀b u,b≠e->s.heap.get? b=some u->h'.get? b=some u)(heo:∃u,h'.get? e=some u)
  (new:Aw X.prog X.w (Aj H x o) h' x o):AY X pins σ (Aj H x o) {s with heap:=h',toks:=t'}:=I.un (Un.write mu he k heo) (I.hok.write mu he k heo new)
theorem AY.pins_of{pins':List (Addr×Obj)}(I:AY X pins σ H s)(h:∀p∈pins',s.heap.get? p.1=some p.2/\H p.1=none/\p.1≠X.env.locals/\p.1∉X.fs/\∀v,p.2.data≠.cell v):AY X pins' σ H s:=
 ⟨I.ok,I.os,I.bare,I.base,I.loc,I.cell,I.free,I.freeC,λp hp=>(Xq.mp hp).elim (λz=>I.pin p (Zz _ z)) (h p),I.hok,I.len⟩
theorem Gs{N:List Str}(hN:N.Nodup)(a:N[i]?=some x)(b:N[j]?=some x):i=j:=by obtain⟨h1,e1⟩:=Xo.mp a;obtain⟨h2,e2⟩:=Xo.mp b;exact (aa hN).mp (e1.trans e2.symm)
theorem IP{M:Model}{A:Around}{E:Value->Shared->Prop}{v:V}{Q:Unit->Shared->Prop}(I:AY X pins σ H s)(hN:X.N.Nodup)(hi:X.N[i]?=some x)(hx:RX X.env.scope x)(r:Aq v u)
  (h:∀s',AY X pins (σ.set i (some v)) H s'->(∃a,Heap.SameBut a s.heap s'.heap/\(a=X.env.locals\/X.env.cells.lookup x=some a))->Q () s') (hf:X.fn x=true\/X.env.scope.names.lookup x=some .local:=by first|exact .inl rfl|exact .inr rfl|assumption):wpAny M A (storeName X.env x u) Q E s:=by
 obtain⟨m,hn,hl⟩:=id I.loc;have hcls:(X.env.scope.kind==.class||(X.env.scope.kind==.module&&X.env.locals != X.env.globals))=false:=by rw[I.ok.kind];rfl
 have hiσ:i<σ.length:=by rw[I.len];exact (Xo.mp hi).1
 have cne:=I.cne
 have tracked:∀{a:Addr} {h':Heap},(∃o,s.heap.get? a=some o/\H a=none)->Heap.SameBut a s.heap h'->Dd X.prog X.w H h':=λ{a h'} ha hs b ob e=>by
  obtain⟨_,_,hfree⟩:=ha;refine (I.hok b ob e).stay (λc w' hc q=>(hs.2 c ?_).trans q) (λ_ q=>q) λ_ _ q=>q
  rintro rfl;rcases hc with rfl|hc
  ·rw[hfree]at e;cases e
  ·rw[hfree]at hc;cases hc
 rcases hx with hk|hk
 ·refine wpAny_storeName_local hk hn (λh' hn' hs=>?_) hcls;obtain⟨oL,_,_,hoL,_⟩:=id hn;refine h _ ⟨I.ok,I.os,I.bare,⟨λb o e n hb hx=>?_,λb o e n hb hx=>?_,I.base.free,λb o e hx=>?_,I.base.tups,I.base.frzs,I.base.tbls⟩,⟨_,hn',λj y v' e1 e2 e3=>?_⟩,λy c e=>?_,I.free,I.freeC,λp hp=>?_,tracked ⟨oL,hoL,I.free⟩ hs,by simpa using I.len⟩ ⟨_,hs,.inl rfl⟩
  ·exact (hs.2 b (YW (Xw (Xt e) I.ok.above))).trans (I.base.keep b o e n hb hx)
  ·obtain⟨sl,e1⟩:=I.base.slot b o e n hb hx;exact⟨sl,(hs.2 b (YW (Xw (Xt e) I.ok.above))).trans e1⟩
  ·obtain⟨o',e1⟩:=I.base.there b o e hx;exact⟨o',(hs.2 b (YW (Xw (Xt e) I.ok.above))).trans e1⟩
  ·by_cases hj:j=i
   ·subst hj;rw[hi]at e1;cases e1;rw[aK hiσ]at e2;cases e2;exact⟨u,r,.inl ⟨hk,by simp⟩⟩
   ·rw[ai (Ne.symm hj)]at e2;obtain⟨u',r',q⟩:=hl j y v' e1 e2 e3;refine⟨u',r',?_⟩;rcases q with⟨k,e⟩|⟨k,c,e,z⟩
    ·refine .inl ⟨k,?_⟩;have:y≠x:=λe=>hj (Gs hN e1 (e▸hi))
     simp[this,e]
    ·exact .inr ⟨k,c,e,z.sameBut hs (cne y c e)⟩
  ·obtain⟨w',z⟩:=I.cell y c e;exact⟨w',z.sameBut hs (cne y c e)⟩
  ·obtain⟨e,n,ne,nf,d⟩:=I.pin p hp;exact⟨(hs.2 p.1 ne).trans e,n,ne,nf,d⟩
 ·have hfn:X.fn x=true:=by
   rcases hf with z|z
   ·exact z
   ·rw[z]at hk;cases hk
  obtain⟨c,hc⟩:=I.ok.has x (.inl hk);obtain⟨w',z⟩:=I.cell x c hc;refine wpAny_storeName_cell I.ok.kind hk hc z (λh' hc' hs=>?_);obtain⟨oc,hoc,hocd⟩:=id z;refine h {s with heap:=h'} ⟨I.ok,I.os,I.bare,⟨λb o e n hb hx=>?_,λb o e n hb hx=>?_,I.base.free,λb o e hx=>?_,I.base.tups,I.base.frzs,I.base.tbls⟩,⟨m,hn.sameBut hs (Ne.symm (cne x c hc)),λj y v' e1 e2 e3=>?_⟩,λy c' e=>?_,I.free,I.freeC,λp hp=>?_,tracked ⟨oc,hoc,I.freeC x c hc⟩ hs,by simpa using I.len⟩ ⟨c,hs,.inr hc⟩
  ·exact (hs.2 b (YW (Xw (Xt e) (I.ok.cab x c hfn hc)))).trans (I.base.keep b o e n hb hx)
  ·obtain⟨sl,e1⟩:=I.base.slot b o e n hb hx;exact⟨sl,(hs.2 b (YW (Xw (Xt e) (I.ok.cab x c hfn hc)))).trans e1⟩
  ·obtain⟨o',e1⟩:=I.base.there b o e hx;exact⟨o',(hs.2 b (YW (Xw (Xt e) (I.ok.cab x c hfn hc)))).trans e1⟩
  ·by_cases hj:j=i
   ·subst hj;rw[hi]at e1;cases e1;rw[aK hiσ]at e2;cases e2;exact⟨u,r,.inr ⟨.inl hk,c,hc,hc'⟩⟩
   ·rw[ai (Ne.symm hj)]at e2;obtain⟨u',r',q⟩:=hl j y v' e1 e2 e3;refine⟨u',r',?_⟩;rcases q with q|⟨k,c',e,z'⟩
    ·exact .inl q
    ·refine .inr ⟨k,c',e,z'.sameBut hs ?_⟩;rintro rfl;exact hj (Gs hN e1 (I.ok.inj _ _ _ e hc▸hi))
  ·by_cases hcc:c'=c
   ·subst hcc;exact⟨_,hc'⟩
   ·obtain⟨w2,z2⟩:=I.cell y c' e;exact⟨w2,z2.sameBut hs hcc⟩
  ·obtain⟨e,n,ne,nf,d⟩:=I.pin p hp;refine⟨(hs.2 p.1 ?_).trans e,n,ne,nf,d⟩;intro q;rw[q,hoc]at e;have q':oc=p.2:=Option.some.inj e;exact d w' (by rw[<-q'];exact hocd)
theorem J1{M:Model}{A:Around}{E:Value->Shared->Prop}{v:V}{Q:Unit->Shared->Prop}(I:AY X pins σ H s)(hN:X.N.Nodup)(hi:X.N[i]?=some x)(hx:RX X.env.scope x)(r:Aq v u)
  (h:∀s',AY X pins (σ.set i (some v)) H s'->Q () s') (hf:X.fn x=true\/X.env.scope.names.lookup x=some .local:=by first|exact .inl rfl|exact .inr rfl|assumption):wpAny M A (storeName X.env x u) Q E s:=
 IP I hN hi hx r (λs' I' _=>h s' I') hf
theorem AY.call'(I:AY X pins σ H s)(ho:s'.os=s.os)(u:Un (Cq X.stack) ch H H' s.heap s'.heap)(hok:Dd X.prog X.w H' s'.heap)(hg:AllBare s'.gens)
  (hch:∀b∈ch,(b∈X.ex\/X.s₀.heap.objs.size<=b)/\b≠X.env.locals/\(∀x c,X.env.cells.lookup x=some c->c≠b)/\∀p∈X.pn++pins,p.1≠b):AY X pins σ H' s':=by
 obtain⟨h',g',d',t',o'⟩:=s';have e:o'=s.os:=ho;subst e;exact I.call (g':=g') (t':=t') (d':=d') u hok hg hch
end
abbrev XK:=Value->Option Addr->Hp->Prop
abbrev St:=List (Option V)
abbrev VK:=V->Hp->Prop
abbrev TE:=St->Hp->VK->Prop
abbrev TT:=St->Hp->(Bool->Hp->Prop)->Prop
abbrev TA:=St->Hp->(List V->Hp->Prop)->Prop
structure Gu where
 nx:St->Hp->Prop
 rt:VK
 bk:St->Hp->Prop:=λ_ _=>False
 ct:St->Hp->Prop:=λ_ _=>False
abbrev TS:=Gu->St->Hp->Prop
def EP(X:Cx)(pins:List (Addr×Obj))(σ:St)(Q:VK)(u:Value)(s':Shared):Prop:=∃v H',AY X pins σ H' s'/\Aq v u/\Q v H'
def TP(X:Cx)(pins:List (Addr×Obj))(σ:St)(Q:Bool->Hp->Prop)(b:Bool)(s':Shared):Prop:=∃H',AY X pins σ H' s'/\Q b H'
def AP(X:Cx)(pins:List (Addr×Obj))(σ:St)(Q:List V->Hp->Prop)(us:List Value)(s':Shared):Prop:=∃vs H',AY X pins σ H' s'/\Ao vs us/\Q vs H'
def SP(X:Cx)(pins:List (Addr×Obj))(D:Gu)(f:Flow)(s':Shared):Prop:=
 match f with
 |.next=>∃σ' H',AY X pins σ' H' s'/\D.nx σ' H'
 |.brk=>∃σ' H',AY X pins σ' H' s'/\D.bk σ' H'
 |.cont=>∃σ' H',AY X pins σ' H' s'/\D.ct σ' H'
 |.ret u=>∃v σ' H',AY X pins σ' H' s'/\Aq v u/\D.rt v H'
def PE(X:Cx)(e:Expr)(t:TE):Prop:=
 ∀(pins:List (Addr×Obj)) (s:Shared) (σ:St) (H:Hp) (Q:VK),AY X pins σ H s->t σ H Q->wpAny (model X.prog X.w) X.A (eval e X.env) (EP X pins σ Q) X.xe s
def PT(X:Cx)(e:Expr)(t:TT):Prop:=
 ∀(pins:List (Addr×Obj)) (s:Shared) (σ:St) (H:Hp) (Q:Bool->Hp->Prop),AY X pins σ H s->t σ H Q->wpAny (model X.prog X.w) X.A (isTrue e X.env (eval e X.env)) (TP X pins σ Q) X.xe s
def PW(X:Cx)(e:Expr)(t:TT):Prop:=
 ∀(whole:Sem Value) (pins:List (Addr×Obj)) (s:Shared) (σ:St) (H:Hp) (Q:Bool->Hp->Prop),AY X pins σ H s->t σ H Q->wpAny (model X.prog X.w) X.A (isTrue e X.env whole) (TP X pins σ Q) X.xe s
variable{X:Cx}
theorem PW.pt{e:Expr}{t:TT}(h:PW X e t):PT X e t:=h _
def PA(X:Cx)(es:List Expr)(t:TA):Prop:=
 ∀(pos:Pos) (pins:List (Addr×Obj)) (s:Shared) (σ:St) (H:Hp) (Q:List V->Hp->Prop),AY X pins σ H s->t σ H Q->wpAny (model X.prog X.w) X.A (spliced (backTo pos (starEach es X.env))) (AP X pins σ Q) X.xe s
def PS(X:Cx)(st:Stmt)(t:TS):Prop:=
 ∀(pins:List (Addr×Obj)) (s:Shared) (σ:St) (H:Hp) (D:Gu),AY X pins σ H s->t D σ H->wpAny (model X.prog X.w) X.A (exec st X.env) (SP X pins D) X.xe s
def Gd(X:Cx)(st:List Stmt)(t:TS):Prop:=
 ∀(pins:List (Addr×Obj)) (s:Shared) (σ:St) (H:Hp) (D:Gu),AY X pins σ H s->t D σ H->wpAny (model X.prog X.w) X.A (execs st X.env) (SP X pins D) X.xe s
variable{E:Value->Shared->Prop}{s:Shared}
theorem BX{t:Sem α}{Q Q':α->Shared->Prop}{M:Model}{A:Around}(h:wpAny M A t Q E s)(hQ:∀a s,Q a s->Q' a s):wpAny M A t Q' E s:=wpAny_mono h hQ λ_ _ x=>x
variable{Q:Value->Shared->Prop}{pins:List (Addr×Obj)}{σ:St}{op:CmpOp}
section
def SN(i:Nat):TE:=λσ H Q=>∃v,σ[i]?=some (some v)/\Q v H
def tC(v:V):TE:=λ_ H Q=>Q v H
theorem SO{pos:Pos}(hN:X.N[i]?=some x)(hv:Uf X.env.scope x)(hd:(x==("__debug__":Str))=false:=by decide)(hcd:(x==("__classdict__":Str))=false:=by decide):PE X (.Name x pos) (SN i):=by
 intro pins s σ H Q I h;obtain⟨v,e,h⟩:=h;obtain⟨m,hn,hl⟩:=I.loc;obtain⟨u,r,l⟩:=hl i x v hN e hv;have fin:EP X pins σ Q u s:=⟨v,H,I,r,h⟩;rcases l with⟨hk,hm⟩|⟨hk,c,hc,hcell⟩
 ·exact wpAny_Name (wpAny_loadName_local I.ok.kind hk hn hm fin) hd
 ·rcases hk with hk|hk
  ·exact wpAny_Name (wpAny_loadName_cell I.ok.kind hk hc hcell fin) hd
  ·exact wpAny_Name (wpAny_loadName_free I.ok.kind hk hc hcell fin hcd) hd
theorem AF{i j pos}:PE X (.Constant (.int i) j pos) (tC (.int i)):=λ_ _ _ H _ I h=>wpAny_Constant_int ⟨.int i,H,I.tok _,⟨_,rfl⟩,h⟩
theorem EG{b j pos}:PE X (.Constant (.bool b) j pos) (tC (.bl b)):=λ_ _ _ H _ I h=>Constant_bool ⟨.bl b,H,I,rfl,h⟩
theorem EH{j pos}:PE X (.Constant .none j pos) (tC .non):=λ_ _ _ H _ I h=>Constant_none ⟨.non,H,I,rfl,h⟩
theorem DA{x j pos}:PE X (.Constant (.str x) j pos) (tC (.str x)):=λ_ _ _ H _ I h=>Calls.Constant_str ⟨.str x,H,I.tok _,⟨_,rfl⟩,h⟩
def Gl(X:Cx)(x:Str):Prop:=X.env.kindOf x=some .globalImplicit
theorem FQ{E:Value->Shared->Prop}{pos:Pos}(I:AY X pins σ H s)(hg:Gl X x)(hm:X.mg x=some u)(h:Q u s)
  (hd:(x==("__debug__":Str))=false:=by decide):wpAny (model X.prog X.w) X.A (eval (.Name x pos) X.env) Q E s:=
 Calls.Name_function_global I.ok.kind hg (Calls.loadGlobal_global (by rw[I.ok.glob];exact I.mod.glob.keeps I.bk) hm h) hd
theorem CD{E:Value->Shared->Prop}{pos:Pos}(I:AY X pins σ H s)(hg:Gl X x)(hm:X.mg x=none)(hv:bootBuiltins x=some u)(h:Q u s)
  (hn:x≠"__name__":=by decide) (hd:(x==("__debug__":Str))=false:=by decide):wpAny (model X.prog X.w) X.A (eval (.Name x pos) X.env) Q E s:=by
 obtain⟨mb,h1,h2⟩:=I.mod.blt;exact Calls.Name_function_global I.ok.kind hg (Calls.loadGlobal_builtin (by rw[I.ok.glob];exact I.mod.glob.keeps I.bk) hm (by rw[I.ok.blt];exact h1.keeps I.bk) ((h2 x hn).trans hv) h) hd
theorem QP{v:V}{pos:Pos}(hg:Gl X x)(hm:X.mg x=some u)(r:Aq v u)(hd:(x==("__debug__":Str))=false:=by decide):PE X (.Name x pos) (tC v):=
 λ_ _ _ H _ I h=>FQ I hg hm ⟨v,H,I,r,h⟩ hd
theorem QQ{v:V}{pos:Pos}(hg:Gl X x)(hm:X.mg x=none)(hv:bootBuiltins x=some u)(r:Aq v u)(hn:x≠"__name__":=by decide)(hd:(x==("__debug__":Str))=false:=by decide):PE X (.Name x pos) (tC v):=
 λ_ _ _ H _ I h=>CD I hg hm hv ⟨v,H,I,r,h⟩ hn hd
variable{a b:Expr}{ta tb:TE}{pos:Pos}
def PC(X:Cx)(op:CmpOp)(a b:Expr)(t:TE):Prop:=
 ∀(pins:List (Addr×Obj)) (s:Shared) (σ:St) (H:Hp) (Q:VK),AY X pins σ H s->t σ H Q ->
  wpAny (model X.prog X.w) X.A (eval a X.env) (λv s₁=>wpAny (model X.prog X.w) X.A (eval b X.env) (λu s₂=>wpAny (model X.prog X.w) X.A (compareOp op v u) (EP X pins σ Q) X.xe s₂) X.xe s₁) X.xe s
def tB(t:TE):TT:=λσ H Q=>t σ H λx H1=>∃c,x=.bl c/\Q c H1
theorem JD{t:TE}(h:PC X op a b t)(h1:behindInMarks op b=false:=by first|exact nobehind _ (by decide) (by decide)|rfl):PT X (.Compare a [op] [b] pos) (tB t):=by intro pins s σ H Q I hw;refine wpAny_isTrue_Compare1 (BX (h pins s σ H _ I hw) λv s1 h1=>BX h1 λu s2 h2=>BX h2 λc s3 z9=>?_) h1;obtain⟨x,H1,I1,r1,q1⟩:=z9;obtain⟨d,rfl,q⟩:=q1;cases r1;exact wpAny_truthy_bool ⟨H1,I1,q⟩
theorem CF{e:Expr}{t:TE}(h:PE X e t)(he:∀whole,isTrue e X.env whole=(do let v <-whole;standAt e.pos;holding [v] (truthy v)):=by intro _;rfl):PT X e (tB t):=by intro pins s σ H Q I hw;refine isTrue_plain (BX (h pins s σ H _ I hw) λv s1 z9=>?_) (he _);obtain⟨x,H1,I1,r1,q1⟩:=z9;obtain⟨d,rfl,q⟩:=q1;cases r1;exact wpAny_truthy_bool ⟨H1,I1,q⟩
variable{tA tB':TT}{rest:List Expr}
def Uh(t u:TT):TT:=λσ H Q=>t σ H λc H1=>if c=true then u σ H1 Q else Q false H1
def XU(t u:TT):TT:=λσ H Q=>t σ H λc H1=>if c=true then Q true H1 else u σ H1 Q
def Ui(t:TT):TT:=λσ H Q=>t σ H λc H1=>Q (!c) H1
theorem DP(ha:PT X a tA):PW X (.BoolOp .And [a] pos) tA:=by
 intro wh pins s σ H Q I h;refine isTrue_and (BX (ha pins s σ H Q I h) λc s1 e=>?_);cases c with
 |true=>exact isTrue_and_nil e
 |false=>exact e
theorem E8(ha:PT X a tA):PW X (.BoolOp .Or [a] pos) tA:=by
 intro wh pins s σ H Q I h;refine isTrue_or (BX (ha pins s σ H Q I h) λc s1 e=>?_);cases c with
 |false=>exact isTrue_or_nil e
 |true=>exact e
theorem Do(ha:PT X a tA)(hb:PW X (.BoolOp .And (b::rest) pos) tB'):PW X (.BoolOp .And (a::b::rest) pos) (Uh tA tB'):=by
 intro wh pins s σ H Q I h;refine isTrue_and (BX (ha pins s σ H _ I h) λc s1 z9=>?_);obtain⟨H1,I1,q1⟩:=z9;cases c with
 |true=>exact hb wh pins s1 σ H1 Q I1 q1
 |false=>exact⟨H1,I1,q1⟩
theorem E2(ha:PT X a tA)(hb:PW X (.BoolOp .Or (b::rest) pos) tB'):PW X (.BoolOp .Or (a::b::rest) pos) (XU tA tB'):=by
 intro wh pins s σ H Q I h;refine isTrue_or (BX (ha pins s σ H _ I h) λc s1 z9=>?_);obtain⟨H1,I1,q1⟩:=z9;cases c with
 |true=>exact⟨H1,I1,q1⟩
 |false=>exact hb wh pins s1 σ H1 Q I1 q1
theorem DW(ha:PT X a tA):PT X (.UnaryOp .Not a pos) (Ui tA):=by intro pins s σ H Q I h;exact isTrue_not (ha pins s σ H (λc H1=>Q (!c) H1) I h)
def RY(ta tb:TE):TE:=λσ H Q=>ta σ H λx H1=>∃c,x=.bl c/\if c=true then tb σ H1 Q else Q (.bl false) H1
def RZ(ta:TE):TE:=λσ H Q=>ta σ H λx H1=>∃c,x=.bl c/\Q (.bl (!c)) H1
theorem Gv{op}{t:TE}(h:PE X a t):PE X (.BoolOp op [a] pos) t:=λpins s σ H Q I hw=>BoolOp_one (h pins s σ H Q I hw)
theorem Fn(ha:PE X a ta)(hb:PE X (.BoolOp .And (b::rest) pos) tb):PE X (.BoolOp .And (a::b::rest) pos) (RY ta tb):=by
 intro pins s σ H Q I h;refine BoolOp_and (BX (ha pins s σ H _ I h) λv s1 z9=>?_);obtain⟨x,H1,I1,r1,q1⟩:=z9;obtain⟨c,rfl,q1⟩:=q1;cases r1;refine wpAny_truthy_bool ?_;cases c with
 |true=>exact hb pins s1 σ H1 Q I1 q1
 |false=>exact⟨.bl false,H1,I1,rfl,q1⟩
theorem OL(ha:PE X a ta):PE X (.UnaryOp .Not a pos) (RZ ta):=by intro pins s σ H Q I h;refine UnaryOp_ (BX (ha pins s σ H _ I h) λv s1 z9=>?_);obtain⟨x,H1,I1,r1,q1⟩:=z9;obtain⟨c,rfl,q1⟩:=q1;cases r1;exact not_of (wpAny_truthy_bool ⟨.bl (!c),H1,I1,rfl,q1⟩)
end
def Ad(K:qJ)(H:Hp)(a:Addr)(xs:List V):Prop:=
 Rd H a (.lst xs) \/
  ∃(o:Obj) (its:Array Value) (n:Nat),K.lookup a=some o/\o.cls=.type "list"/\o.dict=none/\o.data=.seq its n/\its.size<=sizeLine/\Ao xs its.toList
def Bi(K:qJ)(H:Hp)(a:Addr)(xs:List V):Prop:=
 Rd H a (.tup xs) \/
  ∃(o:Obj) (its:Array Value) (n:Nat),K.lookup a=some o/\o.cls=.type "tuple"/\o.data=.seq its n/\its.size<=sizeLine/\Ao xs its.toList
noncomputable def Wk:Value->Option V
 |.none=>some .non
 |.bool b=>some (.bl b)
 |.int i _=>some (.int i)
 |.str x _=>some (.str x)
 |.bytes b _=>some (.byt b)
 |.float b _=>some (.flt b)
 |.ref a=>some (.ref a)
 |.type n=>some (.ty n)
 |_=>none
theorem Aq.abs{x:V}(r:Aq x u):Wk u=some x:=by
 cases x with
 |non=>cases r;rfl
 |bl _=>cases r;rfl
 |int _=>obtain⟨t,rfl⟩:=r;rfl
 |str _=>obtain⟨t,rfl⟩:=r;rfl
 |byt _=>obtain⟨t,rfl⟩:=r;rfl
 |flt _=>obtain⟨t,rfl⟩:=r;rfl
 |ref _=>cases r;rfl
 |ty _=>cases r;rfl
theorem Aq.inj{x y:V}(r:Aq x u)(q:Aq y u):x=y:=Option.some.inj (r.abs.symm.trans q.abs)
theorem Ao.inj:∀{xs ys:List V} {us:List Value},Ao xs us->Ao ys us->xs=ys
 |_,_,_,.nil,.nil=>rfl
 |_,_,_,.cons r t,.cons r' t'=>by rw[r.inj r',Ao.inj t t']
section
variable{ys:List V}
theorem Ad.of{K:qJ}(h:H a=some (.lst xs)):Ad K H a xs:=.inl (.inl h)
theorem Bi.of{K:qJ}(h:H a=some (.tup xs)):Bi K H a xs:=.inl (.inl h)
theorem AY.list(I:AY X pins σ H s)(h:Ad X.K H a xs):∃its:List Value,Ao xs its/\PlainL s.heap a its.toArray/\xs.length<=sizeLine:=by
 rcases h with h|⟨o,its,n,hk,hc,hd,hs,hz,r⟩
 ·obtain⟨z,its,n,r,e⟩:=h.ok I.hok;exact⟨its,r,⟨_,n,e,rfl,rfl,rfl⟩,z⟩
 ·refine⟨its.toList,r,⟨o,n,I.kIn a o hk,hc,hd,by simpa using hs⟩,?_⟩;have e:=r.length;simp only[Array.length_toList]at e;lia
theorem AY.tuple(I:AY X pins σ H s)(h:Bi X.K H a xs):∃its:List Value,Ao xs its/\IsTup s.heap a its.toArray/\xs.length<=sizeLine:=by
 rcases h with h|⟨o,its,n,hk,hc,hs,hz,r⟩
 ·obtain⟨z,its,r,p⟩:=h.ok I.hok;exact⟨its,r,p,z⟩
 ·refine⟨its.toList,r,⟨o,I.kIn a o hk,hc,n,by simpa using hs⟩,?_⟩;have e:=r.length;simp only[Array.length_toList]at e;lia
theorem AY.list_inj(I:AY X pins σ H s)(h:Ad X.K H a xs)(h':Ad X.K H a ys):xs=ys:=by
 obtain⟨its,r,⟨o,n,e,_,_,d⟩,_⟩:=I.list h;obtain⟨its',r',⟨o',n',e',_,_,d'⟩,_⟩:=I.list h';rw[e]at e';cases e';rw[d]at d'
 injection d' with d1 _
 have:its=its':=by simpa using congrArg Array.toList d1
 subst this;exact r.inj r'
theorem AY.tuple_inj(I:AY X pins σ H s)(h:Bi X.K H a xs)(h':Bi X.K H a ys):xs=ys:=by
 obtain⟨its,r,⟨o,e,_,n,d⟩,_⟩:=I.tuple h;obtain⟨its',r',⟨o',e',_,n',d'⟩,_⟩:=I.tuple h';rw[e]at e';cases e';rw[d]at d'
 injection d' with d1 _
 have:its=its':=by simpa using congrArg Array.toList d1
 subst this;exact r.inj r'
end
abbrev Cx.wish(X:Cx)(E:Value->Shared->Prop):Cx:={X with xe:=E}
abbrev Cx.nox(X:Cx):Cx:=X.wish λ_ _=>False
theorem Cx.Ok.wish(ok:X.Ok)(E:Value->Shared->Prop):(X.wish E).Ok:=
 ⟨ok.mod,ok.kind,ok.glob,ok.blt,ok.above,ok.inj,ok.has,ok.cab,ok.hd,ok.frames,ok.stk,ok.exf,ok.bs,ok.bsz,ok.noex,ok.exfs,ok.funs,ok.frf⟩
theorem Cx.Ok.unwish(ok:(X.wish E).Ok):X.Ok:=
 ⟨ok.mod,ok.kind,ok.glob,ok.blt,ok.above,ok.inj,ok.has,ok.cab,ok.hd,ok.frames,ok.stk,ok.exf,ok.bs,ok.bsz,ok.noex,ok.exfs,ok.funs,ok.frf⟩
variable{D:Gu}
theorem AY.wish(I:AY X pins σ H s)(E:Value->Shared->Prop):AY (X.wish E) pins σ H s:=⟨I.ok.wish E,I.os,I.bare,I.base,I.loc,I.cell,I.free,I.freeC,I.pin,I.hok,I.len⟩
theorem AY.unwish(I:AY (X.wish E) pins σ H s):AY X pins σ H s:=⟨I.ok.unwish,I.os,I.bare,I.base,I.loc,I.cell,I.free,I.freeC,I.pin,I.hok,I.len⟩
theorem SP.unwish{f:Flow}(h:SP (X.wish E) pins D f s'):SP X pins D f s':=by
 cases f with
 |next=>obtain⟨σ',H',I,q⟩:=h;exact⟨σ',H',I.unwish,q⟩
 |brk=>obtain⟨σ',H',I,q⟩:=h;exact⟨σ',H',I.unwish,q⟩
 |cont=>obtain⟨σ',H',I,q⟩:=h;exact⟨σ',H',I.unwish,q⟩
 |ret u=>obtain⟨v,σ',H',I,r,q⟩:=h;exact⟨v,σ',H',I.unwish,r,q⟩
theorem Gd.nox{st:List Stmt}{t:TS}(h:Gd X.nox st t):Gd X st t:=λpins s σ H D I hw =>
 wpAny_mono (h pins s σ H D (I.wish _) hw) (λ_ _ q=>q.unwish) λ_ _ z=>False.elim z
variable{tc:TT}
section
variable{st:Stmt}{rest:List Stmt}{t u:TS}{e:Expr}{te:TE}{pos:Pos}
def OM:TS:=λD σ H=>D.nx σ H
def ON(t u:TS):TS:=λD σ H=>t {D with nx:=u D} σ H
theorem Af:Gd X [] OM:=λ_ _ σ H _ I h=>wpAny_execs_nil ⟨σ,H,I,h⟩
theorem AD(h1:PS X st t)(h2:Gd X rest u):Gd X (st::rest) (ON t u):=by
 intro pins s σ H D I h;refine wpAny_execs_cons (BX (h1 pins s σ H {D with nx:=u D} I h) λf s1 q=>?_);cases f with
 |next =>
  obtain⟨σ',H',I',q⟩:=q;exact h2 pins s1 σ' H' D I' q
 |ret v=>exact q
 |brk=>exact q
 |cont=>exact q
theorem AE(h1:PS X st t):Gd X [st] t:=by
 intro pins s σ H D I h;refine wpAny_execs_cons (BX (h1 pins s σ H D I h) λf s1 q=>?_);cases f with
 |next=>exact wpAny_execs_nil q
 |ret v=>exact q
 |brk=>exact q
 |cont=>exact q
theorem AY.quiet(I:AY X pins σ H s):interactive X.env=false:=by simp[interactive,I.ok.kind]
def Ra(te:TE):TS:=λD σ H=>te σ H λ_ H1=>D.nx σ H1
theorem BF(he:PE X e te)(hs:swapsWith e none pos.line X.env=pure false:=by rfl):PS X (.Expr e pos) (Ra te):=by intro pins s σ H D I h;exact wpAny_Expr_any (BX (he pins s σ H _ I h) λv s1 ⟨x,H1,I1,r1,q1⟩=>⟨σ,H1,I1,q1⟩) I.quiet hs
def Uj(te:TE):TS:=λD σ H=>te σ H D.rt
theorem AO(he:PE X e te):PS X (.Return (some e) pos) (Uj te):=by intro pins s σ H D I h;exact wpAny_Return_some (BX (he pins s σ H _ I h) λv s1 ⟨x,H1,I1,r1,q1⟩=>⟨x,σ,H1,I1,r1,q1⟩)
def SQ(c:TT)(t u:TS):TS:=λD σ H=>c σ H λb H1=>if b=true then t D σ H1 else u D σ H1
theorem BE{c:Expr}{a b:List Stmt}(hc:PT X c tc)(ha:Gd X a t)(hb:Gd X b u):PS X (.If c a b pos) (SQ tc t u):=by
 intro pins s σ H D I h;refine wpAny_If (BX (hc pins s σ H _ I h) λd s1 z9=>?_);obtain⟨H1,I1,q1⟩:=z9;cases d with
 |true=>exact ha pins s1 σ H1 D I1 q1
 |false=>exact hb pins s1 σ H1 D I1 q1
end
abbrev TG:=V->St->Hp->(St->Hp->Prop)->Prop
abbrev SR:=List V->St->Hp->(St->Hp->Prop)->Prop
def PG(X:Cx)(target:Expr)(t:TG):Prop:=
 ∀(pins:List (Addr×Obj)) (s:Shared) (σ:St) (H:Hp) (v:V) (u:Value) (Q:St->Hp->Prop),AY X pins σ H s->Aq v u->t v σ H Q ->
  wpAny (model X.prog X.w) X.A (assign target X.env u) (λ_ s'=>∃σ' H',AY X pins σ' H' s'/\Q σ' H') X.xe s
def Wa(X:Cx)(ts:List Expr)(t:SR):Prop:=
 ∀(pins:List (Addr×Obj)) (s:Shared) (σ:St) (H:Hp) (vs:List V) (us:List Value) (Q:St->Hp->Prop),AY X pins σ H s->Ao vs us->t vs σ H Q ->
  wpAny (model X.prog X.w) X.A (assignInOrder ((assignEach ts X.env).map (·.2)) us) (λ_ s'=>∃σ' H',AY X pins σ' H' s'/\Q σ' H') X.xe s
abbrev SS:=V->V->V->Hp->(Hp->Prop)->Prop
def Uk(X:Cx)(t:SS):Prop:=
 ∀(pins:List (Addr×Obj)) (s:Shared) (σ:St) (H:Hp) (o i v:V) (ov iv u:Value) (Q:Hp->Prop),AY X pins σ H s->Aq o ov->Aq i iv->Aq v u->t o i v H Q ->
  wpAny (model X.prog X.w) X.A (setItem ov iv u) (λ_ s'=>∃H',AY X pins σ H' s'/\Q H') X.xe s
variable{es:List Expr}{tg:Expr}{te:TE}
section
variable{pos:Pos}
def FR(i:Nat):TG:=λv σ H Q=>Q (σ.set i (some v)) H
theorem MX(hN:X.N.Nodup)(hi:X.N[i]?=some x)(hx:RX X.env.scope x)(hf:X.fn x=true\/X.env.scope.names.lookup x=some .local:=by first|exact .inl rfl|exact .inr rfl|assumption):PG X (.Name x pos) (FR i):=by intro pins s σ H v u Q I r h;exact wpAny_assign_Name (J1 I hN hi hx r (λs' I'=>⟨_,H,I',h⟩) hf)
def Wl:SR:=λvs σ H Q=>vs=[]/\Q σ H
def Ul(t:TG)(u:SR):SR:=λvs σ H Q=>∃v r,vs=v::r/\t v σ H λσ' H'=>u r σ' H' Q
theorem JE:Wa X [] Wl:=by intro pins s σ H vs us Q I r h;obtain⟨e,h⟩:=h;subst e;cases r;exact assignInOrder_nil ⟨σ,H,I,h⟩
theorem De{e:Expr}{t:TG}{u:SR}(h1:PG X e t)(h2:Wa X es u)
  (hs:(assignEach (e::es) X.env).map (·.2)=assign e X.env::(assignEach es X.env).map (·.2):=by rfl):Wa X (e::es) (Ul t u):=by
 intro pins s σ H vs us Q I r h;obtain⟨v,vr,e1,h⟩:=h;subst e1;cases r with
 |cons r rr =>
  rw[hs];refine assignInOrder_cons (BX (h1 pins s σ H _ _ _ I r h) λ_ s1 z9=>?_);obtain⟨σ1,H1,I1,q1⟩:=z9;exact h2 pins s1 σ1 H1 _ _ Q I1 rr q1
def Wm(K:qJ)(n:Nat)(t:SR):TG:=λv σ H Q=>∃a xs,v=.ref a/\Bi K H a xs/\xs.length=n/\t xs σ H Q
theorem LM{k:Nat}{t:SR}{n:Nat}(hc:X.calm=true)(h:Wa X es t)
  (hn:(assignEach es X.env).length=n:=by rfl) (hst:(assignEach es X.env).findIdx? (·.1)=none:=by rfl):PG X (.Tuple es k pos) (Wm X.K n t):=by
 intro pins s σ H v u Q I r hw;obtain⟨a,xs,e1,hq,hl,hw⟩:=hw;subst e1;cases r;obtain⟨its,rv,ht,hz⟩:=I.tuple hq;refine assign_Tuple_tuple (I.ok.hd hc) ht (by simp[hn,<-hl,rv.length]) hst λh' hx=>?_;have I1:AY X pins σ H {s with heap:=h'}:=I.kept (t':=s.toks) λb o e=>hx b o (YW (Xt e)) e
 exact h pins _ σ H xs _ Q I1 (by simpa using rv) hw
def Wn(to ti:TE)(t:SS):TG:=λv σ H Q=>to σ H λo H1=>ti σ H1 λi H2=>t o i v H2 λH3=>Q σ H3
theorem OO{o i:Expr}{to ti:TE}{t:SS}(ho:PE X o to)(hi:PE X i ti)(hs:Uk X t)
  (ha:∀v,assign (.Subscript o i pos) X.env v=(do
   let ov <-holding [v] (eval o X.env)
   let iv <-holding [v,ov] (eval i X.env)
   standAt pos
   holding [v,ov,iv] (setItem ov iv v)
   release [v,ov,iv] []):=by intro _;rfl):PG X (.Subscript o i pos) (Wn to ti t):=by
 intro pins s σ H v u Q I r h;rw[ha];refine qC (wpAny_holding (BX (ho pins s σ H _ I h) λov s1 z9=>?_));obtain⟨x,H1,I1,r1,q1⟩:=z9;refine qC (wpAny_holding (BX (hi pins s1 σ H1 _ I1 q1) λiv s2 z9=>?_));obtain⟨y,H2,I2,r2,q2⟩:=z9;refine qC (wpAny_standAt (qC (wpAny_holding (BX (hs pins s2 σ H2 x y v ov iv u _ I2 r1 r2 r q2) λ_ s3 z9=>?_))));obtain⟨H3,I3,q3⟩:=z9;exact wpAny_release ⟨σ,H3,I3,q3⟩
def LN(te:TE)(g:TG):TS:=λD σ H=>te σ H λx H1=>g x σ H1 D.nx
theorem OP{e:Expr}{g:TG}(he:PE X e te)(hg:PG X tg g)(hs:swapsWithSole [tg] e pos.line X.env=pure false:=by rfl)(hw:swappedStores [tg] e X.env=pure none:=by rfl)
  (h1:(assignEach [tg] X.env).map (·.2)=[assign tg X.env]:=by rfl):PS X (.Assign [tg] e pos) (LN te g):=by
 intro pins s σ H D I h;refine wpAny_Assign_stores (BX (he pins s σ H _ I h) λv s1 z9=>?_) hs hw;obtain⟨x,H1,I1,r1,q1⟩:=z9;rw[h1];exact BX (hg pins s1 σ H1 x v _ I1 r1 q1) λ_ s2 q=>q
theorem E9{e:Expr}{pos':Pos}(hN:X.N.Nodup)(hi:X.N[i]?=some x)(hx:RX X.env.scope x)(he:PE X e te)(hs:swapsWith e (some (.Name x pos')) pos.line X.env=pure false:=by rfl)(hf:X.fn x=true\/X.env.scope.names.lookup x=some .local:=by first|exact .inl rfl|exact .inr rfl|assumption):
  PS X (.Assign [.Name x pos'] e pos) (LN te (FR i)):=by
 intro pins s σ H D I h;refine wpAny_Assign_Name (BX (he pins s σ H _ I h) λv s1 z9=>?_) hs;obtain⟨y,H1,I1,r1,q1⟩:=z9;exact J1 I1 hN hi hx r1 (λs2 I2=>⟨_,H1,I2,q1⟩) hf
end
variable{body:List Stmt}
section
variable{pos:Pos}
def OQ(c:TT)(tb:TS):TS:=λD σ H=>∃W:Nat->St->Hp->Prop,(∃m,W m σ H)/\∀m σ H,W m σ H ->
 c σ H λb H1=>if b=true then ∃N:St->Hp->Prop,(∀σ' H',N σ' H'->∃m',m'<m/\W m' σ' H')/\tb {D with nx:=N,ct:=N,bk:=D.nx} σ H1 else D.nx σ H1
theorem CG{c:Expr}{tb:TS}(hp:PassesOwn (model X.prog X.w) X.A X.env X.xe)(hc:PT X c tc)(hb:Gd X body tb):PS X (.While c body [] pos) (OQ tc tb):=by
 intro pins s σ H D I h;obtain⟨W,⟨m0,w0⟩,turn⟩:=h;refine wpAny_While (codeAny_whileLoop (λn s'=>∃σ' H',AY X pins σ' H' s'/\W n σ' H') ?_ m0 ⟨σ,H,I,w0⟩);rintro n s1 ⟨σ1,H1,I1,w1⟩;refine wpAny_passesOwn hp (BX (hc pins s1 σ1 H1 _ I1 (turn n σ1 H1 w1)) λb s2 z9=>?_);obtain⟨H2,I2,q2⟩:=z9;cases b with
 |true =>
  obtain⟨N,hN,q2⟩:=q2;rw[qF rfl];refine wpAny_passesOwn hp (BX (hb pins s2 σ1 H2 _ I2 q2) λf s3 q3=>?_);cases f with
  |next =>
   obtain⟨σ3,H3,I3,n3⟩:=q3;obtain⟨m',hm,w3⟩:=hN σ3 H3 n3;exact⟨m',hm,σ3,H3,I3,w3⟩
  |cont =>
   obtain⟨σ3,H3,I3,n3⟩:=q3;obtain⟨m',hm,w3⟩:=hN σ3 H3 n3;exact⟨m',hm,σ3,H3,I3,w3⟩
  |brk=>exact q3
  |ret v=>exact q3
 |false =>
  rw[qE X1];exact wpAny_execs_nil ⟨σ1,H2,I2,q2⟩
end
structure It where
 go:Nat->Hp->Prop
 yld:Nat->Hp->V->Hp->Prop
 stop:Nat->Hp->Prop
def GY(X:Cx)(pins:List (Addr×Obj))(H:Hp)(b:Addr):Prop:=
 H b=none/\b≠X.env.locals/\b∉X.fs/\(b∈X.ex\/X.s₀.heap.objs.size<=b)/\(∀x c,X.env.cells.lookup x=some c->c≠b)/\∀p∈X.pn++pins,p.1≠b
variable{H':Hp}
theorem AY.fpOk(I:AY X pins σ H s)(hb:s.heap.objs.size<=b)(hn:H' b=none):GY X pins H' b:=by
 refine⟨hn,Zm (Xw I.lt hb),I.nofs hb,.inr (YK I.sz hb),λx c e z=>?_,λp hp z=>?_⟩
 ·obtain⟨v,q⟩:=I.cell x c e;exact qG (Xw q.lt (by rw[z];exact hb)) (YE _)
 ·exact qG (Xw (Xt (I.pin p hp).1) (by rw[z];exact hb)) (YE _)
structure IH(P:Program)(w:World)(K:qJ)(tg:Expr)(J:It)(fp:List Addr)(it:Addr)(tn:Nat->Heap->Prop):Prop where
 mem:it∈fp
 obj:∀i h,tn i h->∀b∈fp,∃o,h.get? b=some o/\∀v,o.data≠.cell v
 keep:∀i h h',tn i h->(∀b∈fp,∀o,h.get? b=some o->h'.get? b=some o)->tn i h'
 item:∀(X:Cx),X.prog=P->X.w=w->X.K=K->X.calm=true->∀(i:Nat) (pins:List (Addr×Obj)) (s:Shared) (σ:St) (H:Hp) (E:Value->Shared->Prop),AY X pins σ H s->(∀b∈fp,GY X pins H b)->tn i s.heap->J.go i H ->
  wpAny (model P w) X.A (pyNext (.ref it)) (λr s1=>∃u,r=some u /\
   wpAny (model P w) X.A (letOwnedTupleGo tg (.ref it) u) (λ_ s2=>∃x H',AY X pins σ H' s2/\Aq x u/\J.yld i H x H'/\tn (i+1) s2.heap/\∀b∈fp,H' b=none) E s1) E s
 done:∀(X:Cx),X.prog=P->X.w=w->X.K=K->X.calm=true->∀(i:Nat) (pins:List (Addr×Obj)) (s:Shared) (σ:St) (H:Hp) (E:Value->Shared->Prop),AY X pins σ H s->(∀b∈fp,GY X pins H b)->tn i s.heap->J.stop i H ->
  wpAny (model P w) X.A (pyNext (.ref it)) (λr s1=>r=none/\AY X pins σ H s1) E s
 self:∀(A:Around) (i:Nat) (s:Shared) (Q:Value->Shared->Prop) (E:Value->Shared->Prop),tn i s.heap->Q (.ref it) s->wpAny (model P w) A (pyIter (.ref it)) Q E s
abbrev TI:=St->Hp->(It->Hp->Prop)->Prop
def XV(X:Cx)(pins:List (Addr×Obj))(σ:St)(tg:Expr)(R:It->Hp->Prop)(itv:Value)(s2:Shared):Prop:=
 ∃(it:Addr) (fp:List Addr) (tn:Nat->Heap->Prop) (J:It) (H':Hp),itv=.ref it/\AY X pins σ H' s2/\IH X.prog X.w X.K tg J fp it tn/\tn 0 s2.heap/\(∀b∈fp,GY X pins H' b)/\R J H'
def PI(X:Cx)(tg iter:Expr)(wi:TI):Prop:=
 ∀(pins:List (Addr×Obj)) (s:Shared) (σ:St) (H:Hp) (R:It->Hp->Prop),AY X pins σ H s->wi σ H R ->
  wpAny (model X.prog X.w) X.A (eval iter X.env) (λv s1=>wpAny (model X.prog X.w) X.A (pyIter v) (XV X pins σ tg R) X.xe s1) X.xe s
theorem IQ{M:Model}{A:Around}{o:Obj}{n:String}{vs:Array Value}{Q:Unit->Shared->Prop}(ho:s.heap.get? it=some o)(hc:o.cls=.type n)(hd:o.data=.fields vs)
  (hn:["enumerate","zip","dict_itemiterator","dict_reverseitemiterator","odict_iterator","itertools.zip_longest","itertools.pairwise"].contains n=false) (hQ:Q () s):wpAny M A (letOwnedTupleGo tg (.ref it) u) Q E s:=by
 unfold letOwnedTupleGo
 cases tg<;>first
  |exact qD hQ
  | (cases u<;>first
    |exact qD hQ
    | (refine qC (wpAny_load ho ?_)
       rw[hc,hd];show wpAny M A (if (["enumerate","zip","dict_itemiterator","dict_reverseitemiterator","odict_iterator","itertools.zip_longest","itertools.pairwise"].contains n&&vs[0]?==some (rawInt _))=true then _ else _) Q E s;rw[qE (by intro h;rw[hn,aR]at h;cases h)];exact qD hQ))
noncomputable def UW(K:qJ)(a:Addr):It:=
 ⟨λi H=>∃xs x,Ad K H a xs/\xs[i]?=some x,λi H x H'=>H'=H/\∀xs,Ad K H a xs->xs[i]?=some x,λi H=>∃xs,Ad K H a xs/\xs.length<=i⟩
noncomputable def Um(K:qJ)(a:Addr):It:=
 ⟨λi H=>∃xs x,Bi K H a xs/\xs[i]?=some x,λi H x H'=>H'=H/\∀xs,Bi K H a xs->xs[i]?=some x,λi H=>∃xs,Bi K H a xs/\xs.length<=i⟩
noncomputable def Rb(lo:Int)(n:Nat):It:=⟨λi _=>i<n,λi H x H'=>H'=H/\x=.int (lo+i),λi _=>n<=i⟩
theorem NQ{P:Program}{w:World}{K:qJ}(a it:Addr):IH P w K tg (UW K a) [it] it (λi h=>h.IsListIter it a i) where
 mem:=by simp
 obj:=λi h st b hb=>by
  have e:b=it:=by simpa using hb
  subst e;obtain⟨o,e,c,d⟩:=st;exact⟨o,e,λv z=>by rw[d]at z;cases z⟩
 keep:=λi h h' st k=>st.at λo e=>k it (by simp) o e
 item:=by intro X hP hw hK hc i pins s σ H E I hf st hg;subst hP hw hK;obtain⟨xs,x,hq,hx⟩:=hg;obtain⟨its,rv,p,hz⟩:=I.list hq;obtain⟨u,hu,ru⟩:=rv.get hx;obtain⟨f0,f1,f2,f3,f4,f5⟩:=hf it (by simp);refine wpAny_pyNext_list_item st p.isList (x:=u) (by simpa using hu) λh' st' sb=>?_;have I1:AY X pins σ H {s with heap:=h'}:=I.turned (t':=s.toks) (λb o hb e=>(sb.2 b hb).trans e) f0 f1 f3 f4 f5;obtain⟨o,e,c,d⟩:=id st';exact⟨u,rfl,IQ (s:={s with heap:=h'}) e c d (by decide) ⟨x,H,I1,ru,⟨rfl,λys hy=>by rw[I.list_inj hy hq];exact hx⟩,st',λb hb=>(hf b hb).1⟩⟩
 done:=by intro X hP hw hK hc i pins s σ H E I hf st hg;subst hP hw hK;obtain⟨xs,hq,hx⟩:=hg;obtain⟨its,rv,p,hz⟩:=I.list hq;obtain⟨f0,f1,f2,f3,f4,f5⟩:=hf it (by simp);have hl:=rv.length;exact wpAny_pyNext_list_end (I.ok.hd hc) st p.isList (by simp;lia) λh' eb=>⟨rfl,I.turned (t':=s.toks) (λb o hb e=>eb b o hb e) f0 f1 f3 f4 f5⟩
 self:=λ_ _ _ _ _ st h=>wpAny_pyIter_listiter st h
theorem LO{P:Program}{w:World}{K:qJ}(a it:Addr):IH P w K tg (Um K a) [it] it (λi h=>h.IsTupleIter it a i) where
 mem:=by simp
 obj:=λi h st b hb=>by
  have e:b=it:=by simpa using hb
  subst e;obtain⟨o,e,c,d⟩:=st;exact⟨o,e,λv z=>by rw[d]at z;cases z⟩
 keep:=λi h h' st k=>st.at λo e=>k it (by simp) o e
 item:=by intro X hP hw hK hc i pins s σ H E I hf st hg;subst hP hw hK;obtain⟨xs,x,hq,hx⟩:=hg;obtain⟨its,rv,p,hz⟩:=I.tuple hq;obtain⟨u,hu,ru⟩:=rv.get hx;obtain⟨f0,f1,f2,f3,f4,f5⟩:=hf it (by simp);refine wpAny_pyNext_tuple_item st (show s.heap.IsTuple a its.toArray from p) (x:=u) (by simpa using hu) λh' st' sb=>?_;have I1:AY X pins σ H {s with heap:=h'}:=I.turned (t':=s.toks) (λb o hb e=>(sb.2 b hb).trans e) f0 f1 f3 f4 f5;obtain⟨o,e,c,d⟩:=id st';exact⟨u,rfl,IQ (s:={s with heap:=h'}) e c d (by decide) ⟨x,H,I1,ru,⟨rfl,λys hy=>by rw[I.tuple_inj hy hq];exact hx⟩,st',λb hb=>(hf b hb).1⟩⟩
 done:=by intro X hP hw hK hc i pins s σ H E I hf st hg;subst hP hw hK;obtain⟨xs,hq,hx⟩:=hg;obtain⟨its,rv,p,hz⟩:=I.tuple hq;obtain⟨f0,f1,f2,f3,f4,f5⟩:=hf it (by simp);have hl:=rv.length;exact wpAny_pyNext_tuple_end (I.ok.hd hc) st (show s.heap.IsTuple a its.toArray from p) (by simp;lia) λh' eb=>⟨rfl,I.turned (t':=s.toks) (λb o hb e=>eb b o hb e) f0 f1 f3 f4 f5⟩
 self:=λ_ _ _ _ _ st h=>wpAny_pyIter_tupleiter st h
theorem LQ{P:Program}{w:World}{K:qJ}(it:Addr)(lo:Int)(n:Nat):IH P w K tg (Rb lo n) [it] it (λi h=>IsRangeIter h it (lo+(i:Nat)*1) ((n:Int)-(i:Nat)) 1) where
 mem:=by simp
 obj:=λi h st b hb=>by
  have e:b=it:=by simpa using hb
  subst e
  exact⟨_,st,λv z=>by have z':Data.fields _=Data.cell v:=z;cases z'⟩
 keep:=λi h h' st k=>k it (by simp) _ st
 item:=by intro X hP hw hK hc i pins s σ H E I hf st hg;subst hP hw hK;obtain⟨f0,f1,f2,f3,f4,f5⟩:=hf it (by simp);have W:=Walks.range (prog:=X.prog) (w:=X.w) (I.ok.hd hc) it lo 1 n;refine W.item i s _ _ hg st λv h' tk hv st' kk=>?_;obtain⟨t,rfl⟩:=hv;have I1:AY X pins σ H {s with heap:=h',toks:=tk}:=I.turned (λb o hb e=>kk b o (by simpa using hb) e) f0 f1 f3 f4 f5;refine⟨_,rfl,IQ (s:={s with heap:=h',toks:=tk}) (n:="range_iterator") st' rfl rfl (by decide) ⟨.int (lo+i),H,I1,⟨t,?_⟩,⟨rfl,rfl⟩,st',λb hb=>(hf b hb).1⟩⟩;rw[Zn]
 done:=by intro X hP hw hK hc i pins s σ H E I hf st hg;subst hP hw hK;obtain⟨f0,f1,f2,f3,f4,f5⟩:=hf it (by simp);exact wpAny_pyNext_range_end (I.ok.hd hc) st (by have:n<=i:=hg;lia) λh' eb=>⟨rfl,I.turned (t':=s.toks) (λb o hb e=>eb b o hb e) f0 f1 f3 f4 f5⟩
 self:=λ_ _ _ _ _ st h=>wpAny_pyIter_rangeiter st h
variable{tl:TE}{ta:TA}{fp:List Addr}
def Uo(K:qJ)(tl:TE):TI:=λσ H R=>tl σ H λx H1=>∃a,x=.ref a/\(∃xs,Ad K H1 a xs)/\R (UW K a) H1
def Wo(K:qJ)(tl:TE):TI:=λσ H R=>tl σ H λx H1=>∃a,x=.ref a/\(∃xs,Bi K H1 a xs)/\R (Um K a) H1
theorem BZ{l:Expr}(hl:PE X l tl):PI X tg l (Uo X.K tl):=by
 intro pins s σ H R I h;refine BX (hl pins s σ H _ I h) λv s1 z9=>?_;obtain⟨x,H1,I1,r1,q1⟩:=z9;obtain⟨a,e,⟨xs,hq⟩,q⟩:=q1;subst e;cases r1;obtain⟨its,rv,p,hz⟩:=I1.list hq;refine wpAny_pyIter_list p.isList ?_;refine⟨s1.heap.objs.size,[s1.heap.objs.size],_,_,H1,rfl,I1.kept (t':=s1.toks) λb o e=>Xn _ e,NQ a _,⟨_,Xz _ rfl,rfl,rfl⟩,λb hb=>?_,q⟩;have e:b=s1.heap.objs.size:=by simpa using hb
 subst e;exact I1.fpOk (Xr _) (I1.hok.fresh (Xr _))
theorem SU{l:Expr}(hl:PE X l tl):PI X tg l (Wo X.K tl):=by
 intro pins s σ H R I h;refine BX (hl pins s σ H _ I h) λv s1 z9=>?_;obtain⟨x,H1,I1,r1,q1⟩:=z9;obtain⟨a,e,⟨xs,hq⟩,q⟩:=q1;subst e;cases r1;obtain⟨its,rv,p,hz⟩:=I1.tuple hq;refine wpAny_pyIter_tuple (show s1.heap.IsTuple a its.toArray from p) ?_;refine⟨s1.heap.objs.size,[s1.heap.objs.size],_,_,H1,rfl,I1.kept (t':=s1.toks) λb o e=>Xn _ e,LO a _,⟨_,Xz _ rfl,rfl,rfl⟩,λb hb=>?_,q⟩;have e:b=s1.heap.objs.size:=by simpa using hb
 subst e;exact I1.fpOk (Xr _) (I1.hok.fresh (Xr _))
theorem J3{R:It->Hp->Prop}{lo hi:Int}{t u v:Tok}{tk:Nat}(I:AY X pins σ H s)(h1:-(2^62)<=lo)(h2:lo<2^62)(h3:-(2^62)<=hi)(h4:hi<2^62)
  (q:R (Rb lo (hi-lo).toNat) H):wpAny (model X.prog X.w) X.A (pyIter (.ref s.heap.objs.size)) (XV X pins σ tg R) E {s with heap:=s.heap.push {cls:=.type "range",data:=.fields #[.int lo t,.int hi u,.int 1 v]},toks:=tk}:=by
 refine wpAny_pyIter_range (IsRange.new ..) (small_one h1 h2 h3 h4) ?_;have I1:AY X pins σ H {s with heap:=s.heap.push {cls:=.type "range",data:=.fields #[.int lo t,.int hi u,.int 1 v]},toks:=tk}:=I.kept λb o e=>Xn _ e
 refine⟨(s.heap.push {cls:=.type "range",data:=.fields #[.int lo t,.int hi u,.int 1 v]}).objs.size,[(s.heap.push {cls:=.type "range",data:=.fields #[.int lo t,.int hi u,.int 1 v]}).objs.size],_,_,H,rfl,
  I1.kept (t':=tk) λb o e=>Xn _ e,LQ _ lo (hi-lo).toNat,?_,λb hb=>?_,q⟩
 ·have e1:lo+((0:Nat):Int)*1=lo:=by simp
  have e2:(((hi-lo).toNat:Nat):Int)-((0:Nat):Int)=Builtin.Range.rangeSize lo hi 1:=by rw[rangeSize_one];split<;>lia
  show IsRangeIter _ _ (lo+((0:Nat):Int)*1) ((((hi-lo).toNat:Nat):Int)-((0:Nat):Int)) 1;rw[e1,e2];exact Xz _ rfl
 ·have e:b=(s.heap.push {cls:=.type "range",data:=.fields #[.int lo t,.int hi u,.int 1 v]}).objs.size:=by simpa using hb
  subst e;exact I1.fpOk (Xr _) (I1.hok.fresh (Xr _))
def Uq(ta:TA):TI:=λσ H R=>ta σ H λvs H1=>∃j:Int,vs=[.int j]/\-(2^62)<=j/\j<2^62/\R (Rb 0 j.toNat) H1
def Ur(ta:TA):TI:=λσ H R=>ta σ H λvs H1=>∃i j:Int,vs=[.int i,.int j]/\(-(2^62)<=i/\i<2^62/\-(2^62)<=j/\j<2^62)/\R (Rb i (j-i).toNat) H1
theorem Ap{a:Expr}{p pos:Pos}(hg:Gl X "range")(hm:X.mg "range"=none)(ha:PA X [a] ta)(hs:starEach [a] X.env=[(false,eval a X.env)]:=by rfl):PI X tg (.Call (.Name "range" p) [a] [] pos) (Uq ta):=by
 intro pins s σ H R I h;refine Call_ (CD I hg hm boot_range (YR (BX (ha pos pins s σ H _ I h) λus s1 z9=>?_) hs rfl));obtain⟨vs,H1,I1,r1,q1⟩:=z9;obtain⟨j,e,q1,q2,q⟩:=q1;subst e;cases r1 with
 |cons r rr =>
  cases rr;obtain⟨t,rfl⟩:=r;exact call_range_1 (J3 I1 (by lia) (by lia) q1 q2 (by simpa using q))
theorem NR{a b:Expr}{p pos:Pos}(hg:Gl X "range")(hm:X.mg "range"=none)(ha:PA X [a,b] ta)(hs:starEach [a,b] X.env=[(false,eval a X.env),(false,eval b X.env)]:=by rfl)(hs2:starEach [b] X.env=[(false,eval b X.env)]:=by rfl):
  PI X tg (.Call (.Name "range" p) [a,b] [] pos) (Ur ta):=by
 intro pins s σ H R I h;refine Call_ (CD I hg hm boot_range (YR (BX (ha pos pins s σ H _ I h) λus s1 ⟨vs,H1,I1,r1,q1⟩=>?_) (by rw[hs,hs2]) (by rw[hs2];rfl)));obtain⟨i,j,e,⟨q1,q2,q3,q4⟩,q⟩:=q1;subst e;cases r1 with
 |cons r rr =>
  cases rr with
  |cons r' rr =>
   cases rr;obtain⟨t,rfl⟩:=r;obtain⟨t',rfl⟩:=r';exact call_range_2 (J3 I1 q1 q2 q3 q4 q)
def Wp(wi:TI)(g:TG)(tb:TS):TS:=λD σ H=>wi σ H λJ H1=>∃W:Nat->Nat->St->Hp->Prop,(∃m,W 0 m σ H1)/\∀i m σ H,W i m σ H ->
 (J.stop i H/\D.nx σ H)\/(J.go i H/\∃N:St->Hp->Prop,(∀σ' H',N σ' H'->∃m',m'<m/\W (i+1) m' σ' H')/\∀x H',J.yld i H x H'->g x σ H' λσ2 H2=>tb {D with nx:=N,ct:=N,bk:=D.nx} σ2 H2)
noncomputable def Gw(fp:List Addr)(h:Heap):List (Addr×Obj):=fp.filterMap λb=>(h.get? b).map λo=>(b,o)
theorem Dq{o:Obj}(hb:b∈fp)(e:h.get? b=some o):(b,o)∈Gw fp h:=Z8.mpr ⟨b,hb,by rw[e];rfl⟩
theorem NT{p:Addr×Obj}(hp:p∈Gw fp h):p.1∈fp/\h.get? p.1=some p.2:=by
 obtain⟨b,hb,e⟩:=Z8.mp hp;cases q:h.get? b with
 |none=>rw[q]at e;cases e
 |some o =>
  rw[q]at e;have e':(b,o)=p:=Option.some.inj e;subst e';exact⟨hb,q⟩
theorem AY.pinned(I:AY X pins σ H s)(hf:∀b∈fp,GY X pins H b)(ho:∀b∈fp,∃o,s.heap.get? b=some o/\∀v,o.data≠.cell v):AY X (pins++Gw fp s.heap) σ H s:=
 I.pins_of λp hp=>(Xq.mp hp).elim (λz=>I.pin p (Yc _ z)) λz=>by obtain⟨hb,e⟩:=NT z;obtain⟨f0,f1,f2,_⟩:=hf p.1 hb;obtain⟨o,e',d⟩:=ho p.1 hb;rw[e]at e';cases e';exact⟨e,f0,f1,f2,d⟩
theorem AY.unpinned{pl:List (Addr×Obj)}(I:AY X (pins++pl) σ H s):AY X pins σ H s:=I.pins_of λp hp=>I.pin p (Yc _ (Zz _ hp))
theorem BM{iter:Expr}{wi:TI}{g:TG}{tb:TS}{pos:Pos}(hp:PassesOwn (model X.prog X.w) X.A X.env X.xe)(hc:X.calm=true)(hi:PI X tg iter wi)(hg:PG X tg g)(hb:Gd X body tb)
  (hs:∀x,foldedSetIterable iter X.env x=pure x:=by intro _;rfl):PS X (.For tg iter body [] pos) (Wp wi g tb):=by
 intro pins s σ H D I h;refine wpAny_For (BX (hi pins s σ H _ I h) λv s1 h1=>BX h1 λitv s2 h2=>?_) hs;obtain⟨it,fp,tn,J,H2,e,I2,T,st2,f2,W,⟨m0,w0⟩,turn⟩:=h2;subst e;have stat:∀{H':Hp},(∀b∈fp,H' b=none)->∀b∈fp,GY X pins H' b:=λhn b hb=>⟨hn b hb,(f2 b hb).2⟩
 refine codeAny_forLoop_any (λn s'=>∃i σ' H',AY X pins σ' H' s'/\tn i s'.heap/\(∀b∈fp,H' b=none)/\W i n σ' H') ?_ m0 ⟨0,σ,H2,I2,st2,λb hb=>(f2 b hb).1,w0⟩;rintro n s3 ⟨i,σ3,H3,I3,st3,fr3,w3⟩;rcases turn i n σ3 H3 w3 with⟨stop,qn⟩|⟨go,N,hN,step⟩
 ·refine wpAny_passesOwn hp (BX (T.done X rfl rfl rfl hc i pins s3 σ3 H3 X.xe I3 (stat fr3) st3 stop) λr s4 z9=>?_);obtain⟨hr,I4⟩:=z9;subst hr;exact wpAny_execs_nil ⟨σ3,H3,I4,qn⟩
 ·refine wpAny_passesOwn hp (BX (T.item X rfl rfl rfl hc i pins s3 σ3 H3 X.xe I3 (stat fr3) st3 go) λr s4 z9=>?_);obtain⟨u,hr,h4⟩:=z9;subst hr;refine wpAny_passesOwn hp (BX h4 λ_ s5 z9=>?_);obtain⟨x,H5,I5,r5,y5,st5,fr5⟩:=z9;have I5':=I5.pinned (stat fr5) (T.obj _ _ st5);refine wpAny_passesOwn hp (BX (hg _ s5 σ3 H5 x u _ I5' r5 (step x H5 y5)) λ_ s6 z9=>?_);obtain⟨σ6,H6,I6,q6⟩:=z9;refine wpAny_passesOwn hp (BX (hb _ s6 σ6 H6 _ I6 q6) λf s7 q7=>?_);have again:∀{σ7:St} {H7:Hp},AY X (pins++Gw fp s5.heap) σ7 H7 s7->N σ7 H7->∃m,m<n/\∃i σ' H',AY X pins σ' H' s7/\tn i s7.heap/\(∀b∈fp,H' b=none)/\W i m σ' H':=λ{σ7 H7} I7 n7=>by obtain⟨m',hm,w7⟩:=hN σ7 H7 n7;refine⟨m',hm,i+1,σ7,H7,I7.unpinned,T.keep _ _ _ st5 λb hb o e=>(I7.pin (b,o) (Yc _ (Yc _ (Dq hb e)))).1,λb hb=>?_,w7⟩;obtain⟨o,e,d⟩:=T.obj _ _ st5 b hb;exact (I7.pin (b,o) (Yc _ (Yc _ (Dq hb e)))).2.1
  cases f with
  |next=>obtain⟨σ7,H7,I7,n7⟩:=q7;exact again I7 n7
  |cont=>obtain⟨σ7,H7,I7,n7⟩:=q7;exact again I7 n7
  |brk=>obtain⟨σ7,H7,I7,q7⟩:=q7;exact⟨σ7,H7,I7.unpinned,q7⟩
  |ret v=>obtain⟨x7,σ7,H7,I7,r7,q7⟩:=q7;exact⟨x7,σ7,H7,I7.unpinned,r7,q7⟩
theorem B8{K:qJ}{g:TG}{tb:TS}(Pv:Nat->St->Hp->Prop)(h0:Pv 0 σ H)(hl:∀i σ H,i<=xs.length->Pv i σ H->Ad K H a xs)
  (hs:∀i x σ H,xs[i]?=some x->Pv i σ H->g x σ H λσ2 H2=>tb {D with nx:=Pv (i+1),ct:=Pv (i+1),bk:=D.nx} σ2 H2) (hd:∀σ H,Pv xs.length σ H->D.nx σ H):
  ∃W:Nat->Nat->St->Hp->Prop,(∃m,W 0 m σ H)/\∀i m σ H,W i m σ H ->
   ((UW K a).stop i H/\D.nx σ H)\/((UW K a).go i H/\∃N:St->Hp->Prop,(∀σ' H',N σ' H'->∃m',m'<m/\W (i+1) m' σ' H')/\∀x H',(UW K a).yld i H x H'->g x σ H' λσ2 H2=>tb {D with nx:=N,ct:=N,bk:=D.nx} σ2 H2):=by
 refine⟨λi m σ H=>m=xs.length-i/\i<=xs.length/\Pv i σ H,⟨xs.length,by simp,Nat.zero_le _,h0⟩,?_⟩;rintro i m σ H ⟨rfl,hi,p⟩;have q:=hl i σ H hi p
 by_cases hlt:i<xs.length
 ·refine .inr ⟨⟨xs,xs[i],q,by simp[hlt]⟩,Pv (i+1),λσ' H' p'=>⟨xs.length-(i+1),by lia,rfl,hlt,p'⟩,λx H' y=>?_⟩;obtain⟨e,y⟩:=y;subst e;exact hs i x σ _ (y xs q) p
 ·have e:i=xs.length:=by lia
  subst e;exact .inl ⟨⟨xs,q,Xr _⟩,hd σ H p⟩
theorem QR{K:qJ}{g:TG}{tb:TS}(Pv:Nat->St->Hp->Prop)(h0:Pv 0 σ H)(hl:∀i σ H,i<=xs.length->Pv i σ H->Bi K H a xs)
  (hs:∀i x σ H,xs[i]?=some x->Pv i σ H->g x σ H λσ2 H2=>tb {D with nx:=Pv (i+1),ct:=Pv (i+1),bk:=D.nx} σ2 H2) (hd:∀σ H,Pv xs.length σ H->D.nx σ H):
  ∃W:Nat->Nat->St->Hp->Prop,(∃m,W 0 m σ H)/\∀i m σ H,W i m σ H ->
   ((Um K a).stop i H/\D.nx σ H)\/((Um K a).go i H/\∃N:St->Hp->Prop,(∀σ' H',N σ' H'->∃m',m'<m/\W (i+1) m' σ' H')/\∀x H',(Um K a).yld i H x H'->g x σ H' λσ2 H2=>tb {D with nx:=N,ct:=N,bk:=D.nx} σ2 H2):=by
 refine⟨λi m σ H=>m=xs.length-i/\i<=xs.length/\Pv i σ H,⟨xs.length,by simp,Nat.zero_le _,h0⟩,?_⟩;rintro i m σ H ⟨rfl,hi,p⟩;have q:=hl i σ H hi p
 by_cases hlt:i<xs.length
 ·refine .inr ⟨⟨xs,xs[i],q,by simp[hlt]⟩,Pv (i+1),λσ' H' p'=>⟨xs.length-(i+1),by lia,rfl,hlt,p'⟩,λx H' y=>?_⟩;obtain⟨e,y⟩:=y;subst e;exact hs i x σ _ (y xs q) p
 ·have e:i=xs.length:=by lia
  subst e;exact .inl ⟨⟨xs,q,Xr _⟩,hd σ H p⟩
theorem Bv{lo:Int}{n:Nat}{g:TG}{tb:TS}(Pv:Nat->St->Hp->Prop)(h0:Pv 0 σ H)
  (hs:∀i σ H,i<n->Pv i σ H->g (.int (lo+i)) σ H λσ2 H2=>tb {D with nx:=Pv (i+1),ct:=Pv (i+1),bk:=D.nx} σ2 H2) (hd:∀σ H,Pv n σ H->D.nx σ H):
  ∃W:Nat->Nat->St->Hp->Prop,(∃m,W 0 m σ H)/\∀i m σ H,W i m σ H ->
   ((Rb lo n).stop i H/\D.nx σ H)\/((Rb lo n).go i H/\∃N:St->Hp->Prop,(∀σ' H',N σ' H'->∃m',m'<m/\W (i+1) m' σ' H')/\∀x H',(Rb lo n).yld i H x H'->g x σ H' λσ2 H2=>tb {D with nx:=N,ct:=N,bk:=D.nx} σ2 H2):=by
 refine⟨λi m σ H=>m=n-i/\i<=n/\Pv i σ H,⟨n,by simp,Nat.zero_le _,h0⟩,?_⟩;rintro i m σ H ⟨rfl,hi,p⟩
 by_cases hlt:i<n
 ·refine .inr ⟨hlt,Pv (i+1),λσ' H' p'=>⟨n-(i+1),by lia,rfl,hlt,p'⟩,λx H' y=>?_⟩;obtain⟨e,y⟩:=y;subst e y;exact hs i σ _ hlt p
 ·have e:i=n:=by lia
  subst e;exact .inl ⟨Xr _,hd σ H p⟩
theorem EI{c:TT}{tb:TS}(Pv:St->Hp->Prop)(μ:St->Hp->Nat)(h0:Pv σ H)
  (hs:∀σ H,Pv σ H->c σ H λb H1=>if b=true then tb {D with nx:=λσ' H'=>Pv σ' H'/\μ σ' H'<μ σ H,ct:=λσ' H'=>Pv σ' H'/\μ σ' H'<μ σ H,bk:=D.nx} σ H1 else D.nx σ H1)
  (mono:∀σ H Q Q',(∀b H1,Q b H1->Q' b H1)->c σ H Q->c σ H Q'):OQ c tb D σ H:=by
 refine⟨λm σ H=>m=μ σ H/\Pv σ H,⟨_,rfl,h0⟩,?_⟩;rintro m σ H ⟨rfl,p⟩;refine mono σ H _ _ (λb H1 q=>?_) (hs σ H p);cases b with
 |true=>exact⟨_,λσ' H' ⟨p',l⟩=>⟨_,l,rfl,p'⟩,q⟩
 |false=>exact q
abbrev R2:=V->V->Hp->VK->Prop
def Fl(X:Cx)(f:Value->Value->Sem Value)(r:R2):Prop:=
 ∀(pins:List (Addr×Obj)) (s:Shared) (σ:St) (H:Hp) (x y:V) (v u:Value) (Q:VK),AY X pins σ H s->Aq x v->Aq y u->r x y H Q ->
  wpAny (model X.prog X.w) X.A (f v u) (EP X pins σ Q) X.xe s
def Wq(X:Cx)(f:Value->Sem Value)(r:V->Hp->VK->Prop):Prop:=
 ∀(pins:List (Addr×Obj)) (s:Shared) (σ:St) (H:Hp) (x:V) (v:Value) (Q:VK),AY X pins σ H s->Aq x v->r x H Q ->
  wpAny (model X.prog X.w) X.A (f v) (EP X pins σ Q) X.xe s
def E3(X:Cx)(f:Value)(r:List V->Hp->VK->Prop):Prop:=
 ∀(pins:List (Addr×Obj)) (s:Shared) (σ:St) (H:Hp) (xs:List V) (us:List Value) (Q:VK),AY X pins σ H s->Ao xs us->r xs H Q ->
  wpAny (model X.prog X.w) X.A (call f us) (EP X pins σ Q) X.xe s
def UX(r:R2)(ta tb:TE):TE:=λσ H Q=>ta σ H λx H1=>tb σ H1 λy H2=>r x y H2 Q
def XW(r:V->Hp->VK->Prop)(ta:TE):TE:=λσ H Q=>ta σ H λx H1=>r x H1 Q
def rI(C:Int->Int->Prop)(g:Int->Int->V):R2:=λx y H Q=>∃i j,x=.int i/\y=.int j/\C i j/\Q (g i j) H
def OR(g:Int->Int->V):R2:=λx y H Q=>∃i j,x=.int i/\y=.int j/\Q (g i j) H
def rU(g:Int->V):V->Hp->VK->Prop:=λx H Q=>∃i,x=.int i/\Q (g i) H
section
variable{a b c:Expr}{ta tb tc:TE}{pos:Pos}
theorem SW(ha:PE X a ta)(hb:PE X b tb){R:V->V->Hp->Prop}(I:AY X pins σ H s)
  (h:ta σ H λx H1=>tb σ H1 λy H2=>R x y H2) {Q:Value->Shared->Prop} {f:Value->Value->Sem Value}
  (hf:∀v u s2 x y H2,AY X pins σ H2 s2->Aq x v->Aq y u->R x y H2->wpAny (model X.prog X.w) X.A (f v u) Q X.xe s2):
  wpAny (model X.prog X.w) X.A (eval a X.env) (λv s₁=>wpAny (model X.prog X.w) X.A (eval b X.env) (λu s₂=>wpAny (model X.prog X.w) X.A (f v u) Q X.xe s₂) X.xe s₁) X.xe s:=by
 refine BX (ha pins s σ H _ I h) λv s1 z9=>?_;obtain⟨x,H1,I1,r1,q1⟩:=z9;refine BX (hb pins s1 σ H1 _ I1 q1) λu s2 z9=>?_;obtain⟨y,H2,I2,r2,q2⟩:=z9;exact hf v u s2 x y H2 I2 r1 r2 q2
theorem AI{op:Operator}{r:R2}(ho:Fl X (binaryOp op) r)(ha:PE X a ta)(hb:PE X b tb):PE X (.BinOp a op b pos) (UX r ta tb):=by intro pins s σ H Q I h;exact wpAny_BinOp (SW ha hb I h λv u s2 x y H2 I2 rx ry q=>ho pins s2 σ H2 x y v u Q I2 rx ry q)
theorem FS{op:UnaryOp}{r:V->Hp->VK->Prop}(ho:Wq X (unaryOp op) r)(ha:PE X a ta):PE X (.UnaryOp op a pos) (XW r ta):=by intro pins s σ H Q I h;exact UnaryOp_ (BX (ha pins s σ H _ I h) λv s1 ⟨x,H1,I1,r1,q1⟩=>ho pins s1 σ H1 x v Q I1 r1 q1)
theorem UY{f:Value->Value->Sem Value}{C:Int->Int->Prop}{g:Int->Int->Int}
  (rule:∀(i j:Int) (t u:Tok) (s:Shared) (Q:Value->Shared->Prop) (E:Value->Shared->Prop),C i j->Q (.int (g i j) s.toks) {s with toks:=s.toks+1}->wpAny (model X.prog X.w) X.A (f (.int i t) (.int j u)) Q E s):
  Fl X f (rI C λi j=>.int (g i j)):=by
 intro pins s σ H x y v u Q I rx ry h;obtain⟨i,j,rfl,rfl,hc,q⟩:=h;obtain⟨t,rfl⟩:=rx;obtain⟨t',rfl⟩:=ry;exact rule i j t t' s _ _ hc ⟨.int (g i j),H,I.tok _,⟨_,rfl⟩,q⟩
theorem QS{f:Value->Value->Sem Value}{g:Int->Int->Int}
  (rule:∀(i j:Int) (t u:Tok) (s:Shared) (Q:Value->Shared->Prop) (E:Value->Shared->Prop),Q (.int (g i j) s.toks) {s with toks:=s.toks+1}->wpAny (model X.prog X.w) X.A (f (.int i t) (.int j u)) Q E s):
  Fl X f (OR λi j=>.int (g i j)):=by
 intro pins s σ H x y v u Q I rx ry h;obtain⟨i,j,rfl,rfl,q⟩:=h;obtain⟨t,rfl⟩:=rx;obtain⟨t',rfl⟩:=ry;exact rule i j t t' s _ _ ⟨.int (g i j),H,I.tok _,⟨_,rfl⟩,q⟩
theorem QT{f:Value->Value->Sem Value}{g:Int->Int->Bool}
  (rule:∀(i j:Int) (t u:Tok) (s:Shared) (Q:Value->Shared->Prop) (E:Value->Shared->Prop),Q (.bool (g i j)) s->wpAny (model X.prog X.w) X.A (f (.int i t) (.int j u)) Q E s):
  Fl X f (OR λi j=>.bl (g i j)):=by
 intro pins s σ H x y v u Q I rx ry h;obtain⟨i,j,rfl,rfl,q⟩:=h;obtain⟨t,rfl⟩:=rx;obtain⟨t',rfl⟩:=ry;exact rule i j t t' s _ _ ⟨.bl (g i j),H,I,rfl,q⟩
def Us(i j:Int):Prop:=0<j/\j<1073741824
def SY(i j:Int):Prop:=0<=j/\j<=1000000/\i.natAbs<2^64
def QU(i j:Int):Prop:=(-(2^64)<i/\i<2^64)\/(-(2^64)<j/\j<2^64)
theorem QU.ok{i j:Int}(h:QU i j):IntMulOk i j:=by
 rcases h with⟨h1,h2⟩|⟨h1,h2⟩
 ·exact .of_left (intBits_le_64 h1 h2)
 ·exact .of_right (intBits_le_64 h1 h2)
theorem LR(k:Nat):(0:Int)<=2^k:=by rw[two_pow_cast];exact Int.natCast_nonneg _
theorem A8:Fl X (binaryOp .Add) (OR λi j=>.int (i+j)):=QS λ_ _ _ _ _ _ _ q=>add_int q
theorem CA:Fl X (binaryOp .Sub) (OR λi j=>.int (i-j)):=QS λ_ _ _ _ _ _ _ q=>sub_int q
theorem Bx:Fl X (binaryOp .Mult) (rI QU λi j=>.int (i*j)):=UY λ_ _ _ _ _ _ _ hc q=>mul_int q hc.ok
theorem Av:Fl X (binaryOp .FloorDiv) (rI Us λi j=>.int (i/j)):=UY λi j _ _ _ _ _ hc q=>by have h1:(0:Int)<j:=hc.1;have h2:j<1073741824:=hc.2;exact floordiv_int (by lia) (by rw[Int.fdiv_eq_ediv_of_nonneg i (by lia)];exact q) (.inl (PyProof.noPylong_small (by lia)))
theorem Ak:Fl X (binaryOp .Mod) (rI (λ_ j=>0<j) λi j=>.int (i%j)):=UY λi j _ _ _ _ _ hc q=>by have h1:(0:Int)<j:=hc;exact mod_int' (by lia) (by rw[Int.fmod_eq_emod_of_nonneg i (by lia)];exact q)
theorem OS:Fl X (binaryOp .Pow) (rI SY λi j=>.int (i^j.toNat)):=UY λ_ _ _ _ _ _ _ hc q=>pow_int_small hc.1 hc.2.1 hc.2.2 q
theorem OT:Fl X (binaryOp .LShift) (rI SY λi j=>.int (i*2^j.toNat)):=UY λ_ _ _ _ _ _ _ hc q=>lshift_int_small hc.1 hc.2.1 hc.2.2 q
theorem SZ:Fl X (binaryOp .RShift) (rI (λ_ j=>0<=j) λi j=>.int (i/2^j.toNat)):=UY λi j _ _ _ _ _ hc q =>
 rshift_int hc (by rw[Int.fdiv_eq_ediv_of_nonneg i (LR _)];exact q)
theorem Sa:Fl X (binaryOp .BitAnd) (OR λi j=>.int (Builtin.bitAnd i j)):=QS λ_ _ _ _ _ _ _ q=>and_int q
theorem Rc:Fl X (binaryOp .BitOr) (OR λi j=>.int (Builtin.bitOr i j)):=QS λ_ _ _ _ _ _ _ q=>or_int q
theorem Xi{f:Value->Sem Value}{g:Int->Int}
  (rule:∀(i:Int) (t:Tok) (s:Shared) (Q:Value->Shared->Prop) (E:Value->Shared->Prop),Q (.int (g i) s.toks) {s with toks:=s.toks+1}->wpAny (model X.prog X.w) X.A (f (.int i t)) Q E s):
  Wq X f (rU λi=>.int (g i)):=by
 intro pins s σ H x v Q I rx h;obtain⟨i,rfl,q⟩:=h;obtain⟨t,rfl⟩:=rx;exact rule i t s _ _ ⟨.int (g i),H,I.tok _,⟨_,rfl⟩,q⟩
theorem Dr:Wq X (unaryOp .USub) (rU λi=>.int (-i)):=Xi λ_ _ _ _ _ q=>neg_int q
end
noncomputable def Sb:V->V->Bool
 |.non,.non=>true|.non,.int _=>true|.int _,.non=>true|.non,.bl _=>true|.bl _,.non=>true|.non,.str _=>true|.str _,.non=>true
 |.int _,.int _=>true|.bl _,.bl _=>true|.str _,.str _=>true|.byt _,.byt _=>true
 |.int _,.str _=>true|.str _,.int _=>true|.bl _,.str _=>true|.str _,.bl _=>true
 |_,_=>false
def XX:R2:=λx y H Q=>Sb x y=true/\Q (.bl (decide (x=y))) H
def XY:R2:=λx y H Q=>Sb x y=true/\Q (.bl (!decide (x=y))) H
theorem MY{i j:Int}:decide (V.int i=V.int j)=(i==j):=by rw[Z9];simp
theorem OU{i j:Bool}:decide (V.bl i=V.bl j)=(i==j):=by rw[Z9];simp
theorem MZ{i j:Str}:decide (V.str i=V.str j)=(i==j):=by rw[Z9];simp
theorem Ma{i j:Array UInt8}:decide (V.byt i=V.byt j)=(i.toList==j.toList):=by rw[Z9];cases i;cases j;simp
section
variable{a b c:Expr}{ta tb tc:TE}{pos:Pos}
theorem BB{Q:VK}{k k':Bool}(I:AY X pins σ H s)(q:Q (.bl k) H)(e:k=k'):EP X pins σ Q (.bool k') s:=by subst e;exact⟨.bl k,H,I,rfl,q⟩
theorem B0:Fl X (compareOp .Eq) XX:=by
 intro pins s σ H x y v u Q I rx ry h;obtain⟨hs,q⟩:=h;cases x with
 |non =>
  cases rx;cases y with
  |non=>cases ry;exact PySem.EqNone.eq_none_none (BB I q (by simp))
  |bl j=>cases ry;exact PySem.EqNone.eq_none_bool (BB I q (by simp))
  |int j=>obtain⟨t',rfl⟩:=ry;exact PySem.EqNone.eq_none_int (BB I q (by simp))
  |str j=>obtain⟨t',rfl⟩:=ry;exact PySem.EqNone.eq_none_str (BB I q (by simp))
  |_=>exact qG (show false=true from hs) X1
 |bl i =>
  cases rx;cases y with
  |non=>cases ry;exact PySem.EqNone.eq_bool_none (BB I q (by simp))
  |bl j=>cases ry;exact eq_bool (BB I q OU)
  |str j=>obtain⟨t',rfl⟩:=ry;exact PySem.EqMixed.eq_bool_str (BB I q (by simp))
  |_=>exact qG (show false=true from hs) X1
 |int i =>
  obtain⟨t,rfl⟩:=rx;cases y with
  |non=>cases ry;exact PySem.EqNone.eq_int_none (BB I q (by simp))
  |int j=>obtain⟨t',rfl⟩:=ry;exact eq_int (BB I q MY)
  |str j=>obtain⟨t',rfl⟩:=ry;exact PySem.EqMixed.eq_int_str (BB I q (by simp))
  |_=>exact qG (show false=true from hs) X1
 |str i =>
  obtain⟨t,rfl⟩:=rx;cases y with
  |non=>cases ry;exact PySem.EqNone.eq_str_none (BB I q (by simp))
  |bl j=>cases ry;exact PySem.EqMixed.eq_str_bool (BB I q (by simp))
  |int j=>obtain⟨t',rfl⟩:=ry;exact PySem.EqMixed.eq_str_int (BB I q (by simp))
  |str j=>obtain⟨t',rfl⟩:=ry;exact eq_str (BB I q MZ)
  |_=>exact qG (show false=true from hs) X1
 |byt i =>
  obtain⟨t,rfl⟩:=rx;cases y with
  |byt j=>obtain⟨t',rfl⟩:=ry;exact PySem.W.eq_bytes (BB I q Ma)
  |_=>exact qG (show false=true from hs) X1
 |_=>cases y<;>exact qG (show false=true from hs) X1
theorem IR:Fl X (compareOp .NotEq) XY:=by
 intro pins s σ H x y v u Q I rx ry h;obtain⟨hs,q⟩:=h;cases x with
 |non =>
  cases rx;cases y with
  |non=>cases ry;exact PySem.EqNone.ne_none_none (BB I q (by simp))
  |bl j=>cases ry;exact PySem.EqNone.ne_none_bool (BB I q (by simp))
  |int j=>obtain⟨t',rfl⟩:=ry;exact PySem.EqNone.ne_none_int (BB I q (by simp))
  |str j=>obtain⟨t',rfl⟩:=ry;exact PySem.EqNone.ne_none_str (BB I q (by simp))
  |_=>exact qG (show false=true from hs) X1
 |bl i =>
  cases rx;cases y with
  |non=>cases ry;exact PySem.EqNone.ne_bool_none (BB I q (by simp))
  |bl j=>cases ry;exact ne_bool (BB I q (congrArg not OU))
  |str j=>obtain⟨t',rfl⟩:=ry;exact PySem.EqMixed.ne_bool_str (BB I q (by simp))
  |_=>exact qG (show false=true from hs) X1
 |int i =>
  obtain⟨t,rfl⟩:=rx;cases y with
  |non=>cases ry;exact PySem.EqNone.ne_int_none (BB I q (by simp))
  |int j=>obtain⟨t',rfl⟩:=ry;exact ne_int (BB I q (congrArg not MY))
  |str j=>obtain⟨t',rfl⟩:=ry;exact PySem.EqMixed.ne_int_str (BB I q (by simp))
  |_=>exact qG (show false=true from hs) X1
 |str i =>
  obtain⟨t,rfl⟩:=rx;cases y with
  |non=>cases ry;exact PySem.EqNone.ne_str_none (BB I q (by simp))
  |bl j=>cases ry;exact PySem.EqMixed.ne_str_bool (BB I q (by simp))
  |int j=>obtain⟨t',rfl⟩:=ry;exact PySem.EqMixed.ne_str_int (BB I q (by simp))
  |str j=>obtain⟨t',rfl⟩:=ry;exact ne_str (BB I q (congrArg not MZ))
  |_=>exact qG (show false=true from hs) X1
 |byt i =>
  obtain⟨t,rfl⟩:=rx;cases y with
  |byt j=>obtain⟨t',rfl⟩:=ry;exact PySem.W.ne_bytes (BB I q (congrArg not Ma))
  |_=>exact qG (show false=true from hs) X1
 |_=>cases y<;>exact qG (show false=true from hs) X1
theorem EJ:Fl X (compareOp .Lt) (OR λi j=>.bl (decide (i<j))):=QT λ_ _ _ _ _ _ _ q=>lt_int q
theorem J4:Fl X (compareOp .LtE) (OR λi j=>.bl (decide (i<=j))):=QT λ_ _ _ _ _ _ _ q=>le_int q
theorem EB:Fl X (compareOp .Gt) (OR λi j=>.bl (decide (j<i))):=QT λ_ _ _ _ _ _ _ q=>gt_int q
theorem Ut:Fl X (compareOp .GtE) (OR λi j=>.bl (decide (j<=i))):=QT λ_ _ _ _ _ _ _ q=>ge_int q
theorem OV:Fl X (compareOp .Is) (λx y H Q=>y=.non/\Q (.bl (decide (x=.non))) H):=by
 intro pins s σ H x y v u Q I rx ry h;obtain⟨rfl,q⟩:=h;cases ry;refine is_none_gen (BB I q ?_)
 cases x<;>first
  | (cases rx;rfl)
  | (obtain⟨t,rfl⟩:=rx;rfl)
theorem QV:Fl X (compareOp .IsNot) (λx y H Q=>y=.non/\Q (.bl (!decide (x=.non))) H):=by
 intro pins s σ H x y v u Q I rx ry h;obtain⟨rfl,q⟩:=h;cases ry;refine isnot_none_gen (BB I q ?_)
 cases x<;>first
  | (cases rx;rfl)
  | (obtain⟨t,rfl⟩:=rx;rfl)
theorem AU(b:Expr)(h:op≠.In:=by decide)(h2:op≠.NotIn:=by decide):behindInMarks op b=false:=by
 have e1:(op==CmpOp.In)=false:=by cases op<;>first|rfl|exact qG rfl h
 have e2:(op==CmpOp.NotIn)=false:=by cases op<;>first|rfl|exact qG rfl h2
 cases b<;>simp[behindInMarks,e1,e2]
theorem Ej{r:R2}(ho:Fl X (compareOp op) r)(ha:PE X a ta)(hb:PE X b tb)(hm:behindInMarks op b=false):PE X (.Compare a [op] [b] pos) (UX r ta tb):=by intro pins s σ H Q I h;exact wpAny_Compare1 (SW ha hb I h λv u s2 x y H2 I2 rx ry q=>ho pins s2 σ H2 x y v u Q I2 rx ry q) hm
def Re(t:TE):TT:=λσ H Q=>t σ H λx H'=>∃k,x=.bl k/\Q k H'
theorem AN{r:R2}(ho:Fl X (compareOp op) r)(ha:PE X a ta)(hb:PE X b tb)(hm:behindInMarks op b=false):PT X (.Compare a [op] [b] pos) (Re (UX r ta tb)):=by
 intro pins s σ H Q I h
 refine wpAny_isTrue_Compare1 (BX (ha pins s σ H _ I h) λv s1 ⟨x,H1,I1,r1,q1⟩=>BX (hb pins s1 σ H1 _ I1 q1) λu s2 ⟨y,H2,I2,r2,q2⟩ =>
  BX (ho pins s2 σ H2 x y v u _ I2 r1 r2 q2) λc s3 ⟨z,H3,I3,r3,k,e,q3⟩=>?_) hm
 subst e;cases r3;exact wpAny_truthy_bool ⟨H3,I3,q3⟩
theorem JF:(sizeLine:Nat)<2^63:=by rw[sizeLine_eq];decide
theorem Gx{x:V}(r:Ao [x] us):∃u,us=[u]/\Aq x u:=by
 cases r with
 |cons r1 r2=>cases r2;exact⟨_,rfl,r1⟩
theorem Mb{x y:V}(r:Ao [x,y] us):∃u w',us=[u,w']/\Aq x u/\Aq y w':=by
 cases r with
 |cons r1 r2 =>
  cases r2 with
  |cons r3 r4=>cases r4;exact⟨_,_,rfl,r1,r3⟩
theorem NU(hc:X.calm=true):E3 X (.builtin "min") (λxs H Q=>∃i j,xs=[.int i,.int j]/\Q (.int (if j<i then j else i)) H):=by
 intro pins s σ H xs us Q I r h;obtain⟨i,j,rfl,q⟩:=h;obtain⟨u,w',rfl,⟨t,rfl⟩,⟨t',rfl⟩⟩:=Mb r;refine min_two_ints (I.ok.hd hc) λh' tk k=>⟨_,H,I.kept k,?_,q⟩
 by_cases hj:j<i
 ·rw[qF hj,qF hj];exact⟨_,rfl⟩
 ·rw[qE hj,qE hj];exact⟨_,rfl⟩
end
structure Sc(h:Heap)(x dx C:Addr)(mA:Str->Option Value):Prop where
 obj:h.get? x=some (PySem.W.instObj C dx)
 ns:h.Ns1 dx mA
 ne:dx≠x
variable{dx:Addr}
theorem NV{mA:Str->Option Value}(n:h.Ns1 dx mA):∃od,h.get? dx=some od/\∀name,PySem.W.lookIn name od=some (mA name):=by
 obtain⟨o,es,ep,ho,hd,hk,_,hm⟩:=n;refine⟨o,ho,λname=>?_⟩;have e:=hm name;unfold nsFind findBy at e;rw[<-Array.find?_toList]at e;unfold PySem.W.lookIn;rw[hd];dsimp only;split
 ·rename_i y q
  rw[q]at e;exact congrArg some e
 ·rename_i q
  rw[q]at e
  have a:es.toList.any (·.refKey)=false:=by rw[List.any_eq_false];intro y hy;obtain⟨z,t,hkey⟩:=hk y (Array.mem_toList_iff.mp hy);simp[DictEntry.refKey,hkey]
  have a':¬es.toList.any (·.refKey)=true:=by rw[a];exact X1
  rw[qE a'];exact congrArg some e
variable{C:Addr}
theorem Sc.look{x:Addr}{mA:Str->Option Value}(I:Sc h x dx C mA):∃od,PySem.W.InstAt h x (PySem.W.instObj C dx) C (some od)/\∀name,PySem.W.lookIn name od=some (mA name):=
 let ⟨od,ho,hl⟩:=NV I.ns
 ⟨od,⟨I.obj,rfl,rfl,ho⟩,hl⟩
theorem Fm.some_of{v:V}{o:Option Value}(r:Fm (some v) o):∃u,o=some u/\Aq v u:=by
 cases o with
 |none=>exact (show False from r).elim
 |some u=>exact⟨u,rfl,r⟩
section
variable{P:Program}{w:World}{h':Heap}{fs fs':List (Str×V)}
theorem Mc(hok:Dd P w H h)(e:H a=some (.ins C dx fs)):∃mA,Sc h a dx C mA/\(∀f,Fm (fs.lookup f) (mA f))/\PySem.Within mA (fs.map (·.1))/\fs.length<=1000/\H dx=some (.own a):=by obtain⟨d,z,ne,ob,mA,n,r,q⟩:=(show Aw P w H h a (.ins C dx fs) from hok a _ e);exact⟨mA,⟨ob,n,ne⟩,r,q,z,d⟩
end
structure Wr(K:qJ)(C:Addr):Prop where
 pg:PySem.W.plainGet K C Str.empty=true
 hd:PySem.W.hasDictIn K C=true
 po:PySem.W.plainOver K C=true
 sa:PySem.W.findIn K (.ref C) "__setattr__"=some (some (.builtin "object.__setattr__"))
theorem Wr.get{K:qJ}(c:Wr K C)(f:Str):PySem.W.plainGet K C f=true:=c.pg
section
variable{A:Around}{c:Value}{b:Bool}
inductive Fo(K:qJ)(H:Hp):V->Value->Prop where
 |non:Fo K H .non (.type "NoneType")
 |bl (x:Bool):Fo K H (.bl x) (.type "bool")
 |int (i:Int):Fo K H (.int i) (.type "int")
 |str (x:Str):Fo K H (.str x) (.type "str")
 |flt (x:UInt64):Fo K H (.flt x) (.type "float")
 |lst {a:Addr} {xs:List V} (e:H a=some (.lst xs)):Fo K H (.ref a) (.type "list")
 |frz {a:Addr} {o:Obj} {xs:List V} (e:H a=some (.frz o (.lst xs))):Fo K H (.ref a) (.type "list")
 |tup {a:Addr} {xs:List V} (e:H a=some (.tup xs)):Fo K H (.ref a) (.type "tuple")
 |dK {a:Addr} {kvs:List (CN×V)} (e:H a=some (.dK kvs)):Fo K H (.ref a) (.type "dict")
 |dT {a:Addr} {kvs:List (List CN×V)} (e:H a=some (.dT kvs)):Fo K H (.ref a) (.type "dict")
 |ins {a C dx:Addr} {fs:List (Str×V)} (e:H a=some (.ins C dx fs)) (cl:Wr K C) (ha:PySem.W.findIn K (.ref C) "__class__"=some (some (.builtin "object.__class__")))
   (hn:PySem.W.specialIn K (.builtin "object.__class__") "__get__"=some (some (.builtin "getset_descriptor.__get__"))) (htk:PySem.W.takesIn K (.builtin "object.__class__")=some true)
   (hm:PySem.W.mroIn K C (.type "object")=some true):Fo K H (.ref a) (.ref C)
theorem NW{x:V}{t:Value}(I:AY X pins σ H s)(rx:Aq x u)(ty:Fo X.K H x t)(e:PySem.W.kitOne X.K t c=some b)(h:∀tk,Q (.bool b) {s with toks:=tk}):
  wpAny (model X.prog X.w) A (call (.builtin "isinstance") [u,c]) Q E s:=by
 cases ty with
 |non=>cases (show u=Value.none from rx);exact Yt PySem.W.kitx_none I.kIn True.intro e (λz=>nomatch z) h
 |bl y=>cases (show u=Value.bool y from rx);exact Yt PySem.W.kitx_bool I.kIn True.intro e (λz=>nomatch z) h
 |int i=>obtain⟨t,q⟩:=(show ∃t,u=Value.int i t from rx);cases q;exact Yt PySem.W.kitx_int I.kIn True.intro e (λz=>nomatch z) h
 |str y=>obtain⟨t,q⟩:=(show ∃t,u=Value.str y t from rx);cases q;exact Yt PySem.W.kitx_str I.kIn True.intro e (λz=>nomatch z) h
 |flt y=>obtain⟨t,q⟩:=(show ∃t,u=Value.float y t from rx);cases q;exact Yt PySem.W.kitx_float I.kIn True.intro e (λz=>nomatch z) h
 | @lst a xs ea =>
  cases (show u=Value.ref a from rx);obtain⟨_,_,n,_,h1⟩:=(show Aw X.prog X.w H s.heap a (.lst xs) from I.hok a _ ea);exact Yt aO I.kIn ⟨_,h1,rfl⟩ e (λz=>nomatch z) h
 | @frz a ob xs ea =>
  cases (show u=Value.ref a from rx);obtain⟨_,_,_,n,_,h1⟩:=(show Aw X.prog X.w H s.heap a (.frz ob (.lst xs)) from I.hok a _ ea);exact Yt aO I.kIn ⟨_,h1,rfl⟩ e (λz=>nomatch z) h
 | @tup a xs ea =>
  cases (show u=Value.ref a from rx);obtain⟨_,_,_,p⟩:=(show Aw X.prog X.w H s.heap a (.tup xs) from I.hok a _ ea);obtain⟨o,h1,h2,_⟩:=p;exact Yt PySem.W.kitx_tuple I.kIn ⟨o,h1,h2⟩ e (λz=>nomatch z) h
 | @dK a kvs ea =>
  cases (show u=Value.ref a from rx);obtain⟨_,_,vs,_,p⟩:=(show Aw X.prog X.w H s.heap a (.dK kvs) from I.hok a _ ea);obtain⟨o,es,ep,h1,h2,_⟩:=p;exact Yt aP I.kIn ⟨o,h1,h2.1⟩ e (λz=>nomatch z) h
 | @dT a kvs ea =>
  cases (show u=Value.ref a from rx);obtain⟨_,_,xs,_,o,es,ep,h1,h2,_⟩:=(show Aw X.prog X.w H s.heap a (.dT kvs) from I.hok a _ ea);exact Yt aP I.kIn ⟨o,h1,h2.1⟩ e (λz=>nomatch z) h
 | @ins a C dx fs ea cl ha hn htk hm =>
  cases (show u=Value.ref a from rx);obtain⟨mA,O,_⟩:=Mc I.hok ea;obtain⟨od,J,_⟩:=O.look;exact Yt (PySem.W.kitx_own (cl.get _) cl.hd ha hn htk hm) I.kIn J e (λz=>nomatch z) h
end
structure Bs(k:Nat)(A:Around):Prop where
 hd:A.handled=none
 dp:A.depth+3*k+5<recursionLimit
 un:A.units+16*k+200<cLine
theorem Bs.mono{k:Nat}{A:Around}(r:Bs k A)(h:j<=k):Bs j A:=⟨r.hd,by have:=r.dp;lia,by have:=r.un;lia⟩
theorem Bs.deeper{k:Nat}{A:Around}(r:Bs (k+1) A)(env:Env):Bs k (A.deeper env):=
 ⟨r.hd,by have:=r.dp;show A.depth+1+3*k+5<_;lia,by have:=r.un;show A.units+3+16*k+200<_;lia⟩
theorem LS{A:Around}{kw:List (Str×Value)}:(A.under (.builtin "type.__call__" ⟨.ref C::us,kw⟩)).depth=A.depth+1:=by
 first|rfl|simp[Around.under,Code.weight,Code.isCreation,Code.isGuard,Code.isCaller,Code.frames,Code.isFrame,guardIds]
theorem LU{A:Around}{kw:List (Str×Value)}:(A.under (.builtin "type.__call__" ⟨.ref C::us,kw⟩)).units=A.units+1:=by
 first|rfl|simp[Around.under,Code.cUnits,Code.frames,Code.isFrame]
theorem Bs.make{k:Nat}{A:Around}(r:Bs (k+1) A)(C:Addr)(us:List Value)(kw:List (Str×Value)):Bs k (A.under (.builtin "type.__call__" ⟨.ref C::us,kw⟩)):=
 ⟨r.hd,by have:=r.dp;rw[LS];lia,by have:=r.un;rw[LU];lia⟩
theorem Bs.depth{k:Nat}{A:Around}(r:Bs k A):A.depth<recursionLimit:=by have:=r.dp;lia
theorem Bs.units{k:Nat}{A:Around}(r:Bs k A):A.units+64<cLine:=by have:=r.un;lia
def DN:TA:=λ_ H Q=>Q [] H
def Az(ta:TE)(tr:TA):TA:=λσ H Q=>ta σ H λx H1=>tr σ H1 λxs H2=>Q (x::xs) H2
section
variable{e:Expr}{t:TA}{pos:Pos}
theorem AB:PA X [] DN:=λ_ _ _ _ H Q I h=>Calls.spliced_nil ⟨[],H,I,.nil,h⟩
theorem AA(ha:PE X e te)(hr:PA X es t)(hs:starEach (e::es) X.env=(false,eval e X.env)::starEach es X.env:=by rfl):PA X (e::es) (Az te t):=by intro pos pins s σ H Q I h;rw[hs];show wpAny _ _ (spliced ((false,eval e X.env)::backTo pos (starEach es X.env))) _ _ s;refine Calls.spliced_cons (BX (ha pins s σ H _ I h) λu s1 z9=>?_);obtain⟨x,H1,I1,r1,q1⟩:=z9;exact BX (hr pos pins s1 σ H1 _ I1 q1) λus s2 ⟨xs,H2,I2,r2,q2⟩=>⟨x::xs,H2,I2,.cons r1 r2,q2⟩
def EK(t:TA):TE:=λσ H Q=>t σ H λxs H1=>xs.length<=sizeLine/\∀p,H1 p=none->Q (.ref p) (Aj H1 p (.tup xs))
def QW(t:TA):TE:=λσ H Q=>t σ H λxs H1=>xs.length<=sizeLine/\∀p,H1 p=none->Q (.ref p) (Aj H1 p (.lst xs))
theorem Fp{x1}(h:PA X es t):PE X (.Tuple es x1 pos) (EK t):=by intro pins s σ H Q I hq;refine wpAny_Tuple_spliced (BX (h pos pins s σ H _ I hq) λus s1 ⟨xs,H1,I1,r,z,q⟩=>⟨by rw[<-r.length];exact z,?_⟩);have hf:H1 s1.heap.objs.size=none:=I1.hok.fresh (Xr _);refine⟨.ref s1.heap.objs.size,Aj H1 s1.heap.objs.size (.tup xs),I1.laid (t':=s1.toks) (λb u e=>Xn _ e) (Xr _) ?_,rfl,q _ hf⟩;exact⟨z,us,r,⟨_,Xz _ rfl,rfl,_,rfl⟩⟩
theorem BV(h:PA X es t):PE X (.List es pos) (QW t):=by intro pins s σ H Q I hq;refine wpAny_List_spliced (BX (h pos pins s σ H _ I hq) λus s1 ⟨xs,H1,I1,r,z,q⟩=>⟨by rw[<-r.length];exact z,?_⟩);have hf:H1 s1.heap.objs.size=none:=I1.hok.fresh (Xr _);refine⟨.ref s1.heap.objs.size,Aj H1 s1.heap.objs.size (.lst xs),I1.laid (t':=s1.toks) (λb u e=>Xn _ e) (Xr _) ?_,rfl,q _ hf⟩;exact⟨z,us,0,r,Xz _ rfl⟩
end
abbrev Sp:=List V->Hp->VK->XK->Prop
abbrev QK:=List Env->Hp->Shared->XK->Value->Shared->Prop
structure J5(P:Program)(w:World)(K:qJ)(mg:Str->Option Value)(base:Heap)(A:Around)(outer:List Env)(s:Shared)(H:Hp):Prop where
 frames:A.frames=some outer
 mod:WZ K mg base
 bs:∀b o,base.get? b=some o->s.heap.get? b=some o/\H b=none
 bsz:base.objs.size<=s.heap.objs.size
 funs:s.heap.FunFrames base outer
 frf:∀b∈Cq outer,H b=none
 hok:Dd P w H s.heap
 bare:AllBare s.gens
def CE(outer:List Env)(P:Program)(w:World)(H:Hp)(s:Shared)(Q:VK)(u:Value)(s':Shared):Prop:=
 ∃v H',s'.os=s.os/\AllBare s'.gens/\Un (Cq outer) [] H H' s.heap s'.heap/\Dd P w H' s'.heap/\Aq v u/\Q v H'
def CR(CX:QK)(outer:List Env)(P:Program)(w:World)(H:Hp)(s:Shared)(Q:VK)(E:XK)(r:Result)(s':Shared):Prop:=
 match r with
 |.ok (.ret u)=>CE outer P w H s Q u s'
 |.ok _=>False
 |.error e=>CX outer H s E e s'
structure Ex(P:Program)(w:World)(K:qJ)(mg:Str->Option Value)(base:Heap)(CX:QK)(k:Nat)(f:Addr)(fd:FuncData)(ps:List Str)(sp:Sp):Prop where
 len:∀vs H Q E,sp vs H Q E->vs.length=ps.length
 run:∀(A:Around) (outer:List Env) (s:Shared) (H:Hp) (args:Args) (us:List Value) (vs:List V) (Q:VK) (E:XK),Bs k A->J5 P w K mg base A outer s H->BindsTo s fd args (ps.zip us)->Ao vs us->sp vs H Q E ->
  codeAny (model P w) A (.call (.ref f) args) (CR CX outer P w H s Q E) s
theorem J5.make{P:Program}{w:World}{K:qJ}{mg:Str->Option Value}{base:Heap}{A:Around}{outer:List Env}(e:J5 P w K mg base A outer s H)(C:Addr)(us:List Value)(kw:List (Str×Value)):
  J5 P w K mg base (A.under (.builtin "type.__call__" ⟨.ref C::us,kw⟩)) outer s H:=⟨by first|exact e.frames|(simpa [Around.under,Code.envs,Code.isFrame,pushEnvs] using e.frames),e.mod,e.bs,e.bsz,e.funs,e.frf,e.hok,e.bare⟩
theorem AY.env0(I:AY X pins σ H s):J5 X.prog X.w X.K X.mg X.base X.A X.stack s H:=
 ⟨I.ok.frames,I.ok.mod,I.bs,YK I.ok.bsz I.sz,I.stack,I.stkFree,I.hok,I.bare⟩
theorem AY.after{Q:VK}(I:AY X pins σ H s)(h:CE X.stack X.prog X.w H s Q u s'):EP X pins σ Q u s':=by obtain⟨v,H',os,bare,un,hok,r,q⟩:=h;obtain⟨hh,g,d,t,os'⟩:=s';obtain rfl:os'=s.os:=os;exact⟨v,H',I.call (h':=hh) (g':=g) (d':=d) (t':=t) (ch:=[]) un hok bare (λb z=>qG z (by simp)),r,q⟩
def EL(K:qJ)(fd:FuncData)(ps:List Str)(ds:List Value):Prop:=
 ∀(s:Shared) (us:List Value),K.In s.heap->(us++ds).length=ps.length->BindsTo s fd ⟨us,[]⟩ (ps.zip (us++ds))
variable{fd:FuncData}{ps:List Str}
theorem EL.all{K:qJ}(h:∀us:List Value,us.length=ps.length->bindArgs fd ⟨us,[]⟩=pure (ps.zip us)):EL K fd ps []:=λs us _ hl=>by rw[Yd]at hl⊢;exact .of_eq (h us hl)
def PK(X:Cx)(kws:List Keyword)(t:TA):Prop:=
 ∀(pos:Pos) (pins:List (Addr×Obj)) (s:Shared) (σ:St) (H:Hp) (Q:List V->Hp->Prop),AY X pins σ H s->t σ H Q->wpAny (model X.prog X.w) X.A (evalAll ((backToKw pos (keywordEach kws X.env)).map (·.2))) (AP X pins σ Q) X.xe s
section
variable{CX:QK}{k:Nat}{f:Addr}{ks:List Str}{sp:Sp}{E:XK}{m:Str}{p pos apos kpos:Pos}{e o:Expr}{kws:List Keyword}{ta:TE}{t tk:TA}{nm:Option Str}
theorem Sd:PK X [] DN:=λ_ _ _ _ H Q I h=>wpAny_evalAll_nil ⟨[],H,I,.nil,h⟩
theorem QX(ha:PE X e te)(hr:PK X kws t):PK X (⟨nm,e,kpos⟩::kws) (Az te t):=by intro pos pins s σ H Q I h;show wpAny _ _ (evalAll ((do let v <-eval e X.env;standAt pos;pure v)::(backToKw pos (keywordEach kws X.env)).map (·.2))) _ _ s;refine wpAny_evalAll_cons (qC (BX (ha pins s σ H _ I h) λu s1 ⟨x,H1,I1,r1,q1⟩=>qC (wpAny_standAt (qD ?_))));exact BX (hr pos pins s1 σ H1 _ I1 q1) λus s2 ⟨xs,H2,I2,r2,q2⟩=>⟨x::xs,H2,I2,.cons r1 r2,q2⟩
variable{g:List Value->List Value->List Value}{gV:List V->List V->List V}
end
structure AL(N P:List Str)(sc:Scope):Prop where
 kind:sc.kind=.function
 co:sc.isCoroutine=false
 gen:sc.isGenerator=false
 nd:N.Nodup
 pre:N.take P.length=P
 par:∀x∈P,sc.names.lookup x=some .local\/sc.names.lookup x=some .cell
 nofree:∀y∈sc.names,y.2≠.free
variable{kindOf:Str->Option NameKind}
theorem IS:∀{binds:List (Str×Value)} {m:Str->Option Value},(∀v,(x,v)∉binds)->bindL kindOf binds m x=m x
 |[],_,_=>rfl
 | (n,v)::r,m,h=>by
  unfold bindL;rw[IS λw hw=>h w (X0 _ hw)];split
  ·have:x≠n:=by rintro rfl;exact h v X6
   simp[this]
  ·rfl
theorem IT:∀{binds:List (Str×Value)} {m:Str->Option Value},(∀v,(x,v)∉binds)->bindC kindOf binds m x=m x
 |[],_,_=>rfl
 | (n,v)::r,m,h=>by
  unfold bindC;rw[IT λw hw=>h w (X0 _ hw)];split
  ·rfl
  ·have:x≠n:=by rintro rfl;exact h v X6
   simp[this]
theorem Fq{v:Value}:∀{P:List Str} {vs:List Value} {i:Nat} {m:Str->Option Value},P.Nodup->P[i]?=some x->vs[i]?=some v->kindOf x=some .local ->
  bindL kindOf (P.zip vs) m x=some v
 |[],_,_,_,_,h,_,_=>by simp at h
 |_::_,[],_,_,_,_,h,_=>by simp at h
 |p::P,w::vs,0,m,nd,h1,h2,hk=>by simp at h1 h2;subst h1;subst h2;show bindL kindOf ((p,w)::P.zip vs) m p=_;unfold bindL;rw[IS λv hv=>(Yl.mp nd).1 (aB hv).1,qF hk];simp
 |p::P,w::vs,i+1,m,nd,h1,h2,hk=>by show bindL kindOf ((p,w)::P.zip vs) m x=_;unfold bindL;exact Fq (i:=i) (List.nodup_cons.mp nd).2 (by simpa using h1) (by simpa using h2) hk
theorem Fs{v:Value}:∀{P:List Str} {vs:List Value} {i:Nat} {m:Str->Option Value},P.Nodup->P[i]?=some x->vs[i]?=some v->kindOf x≠some .local ->
  bindC kindOf (P.zip vs) m x=some v
 |[],_,_,_,_,h,_,_=>by simp at h
 |_::_,[],_,_,_,_,h,_=>by simp at h
 |p::P,w::vs,0,m,nd,h1,h2,hk=>by simp at h1 h2;subst h1;subst h2;show bindC kindOf ((p,w)::P.zip vs) m p=_;unfold bindC;rw[IT λv hv=>(Yl.mp nd).1 (aB hv).1,qE hk];simp
 |p::P,w::vs,i+1,m,nd,h1,h2,hk=>by show bindC kindOf ((p,w)::P.zip vs) m x=_;unfold bindC;exact Fs (i:=i) (List.nodup_cons.mp nd).2 (by simpa using h1) (by simpa using h2) hk
noncomputable def Ci(N:List Str)(vs:List V):St:=vs.map some++List.replicate (N.length-vs.length) none
noncomputable def DX(CX:QK)(P:Program)(w:World)(K:qJ)(mg:Str->Option Value)(base:Heap)(N:List Str)(qual:Str)(scope:Scope)(f:Addr)(cd:Value)(A:Around)(outer:List Env)(s:Shared)(H:Hp)(E:XK):Cx where
 prog:=P
 w:=w
 K:=K
 mg:=mg
 base:=base
 A:=A.deeper (envOfC qual scope s.heap.objs.size f cd)
 N:=N
 s₀:=s
 H₀:=H
 env:=envOfC qual scope s.heap.objs.size f cd
 outer:=outer
 stack:=envOfC qual scope s.heap.objs.size f cd::outer
 ex:=[]
 calm:=true
 fn:=λ_=>true
 pn:=[]
 xe:=λe s'=>wpAny (model P w) (A.deeper (envOfC qual scope s.heap.objs.size f cd)) (leaving (envOfC qual scope s.heap.objs.size f cd) e) (λ_ s''=>CX outer H s E e s'') (λe' s''=>CX outer H s E e' s'') s'
theorem FT{sc:Scope}{n:Nat}(h:sc.names.lookup x=some .cell):∃c,(cellsFrom n sc.names []).lookup x=some c:=by have q:=aL sc.names n [] (.inl h);exact Z7.mp q
variable{f:Addr}{CX:QK}{qual:Str}{scope:Scope}
theorem NX{P:Program}{w:World}{K:qJ}{mg:Str->Option Value}{base:Heap}{N:List Str}{cd:Value}{A:Around}{outer:List Env}{s1:Shared}{E:XK}{vs:List V}
  (S:AL N ps scope) (hd:A.handled=none) (e0:J5 P w K mg base A outer s H) (hl:vs.length=ps.length) (r:Ao vs us)
  (x:InCallC s s.heap.objs.size (bindL (envOfC qual scope s.heap.objs.size f cd).kindOf (ps.zip us) λ_=>none) (cellsFrom (s.heap.objs.size+1) scope.names []) (bindC (envOfC qual scope s.heap.objs.size f cd).kindOf (ps.zip us) λ_=>none) s1):
  AY (DX CX P w K mg base N qual scope f cd A outer s H E) [] (Ci N vs) H s1:=by
 have hpl:ps.length<=N.length:=by have:=congrArg List.length S.pre;rw[YC]at this;lia
 obtain⟨h1,tk,rfl,hk⟩:=x.done;have noA:∀b:Addr,b∉(DX CX P w K mg base N qual scope f cd A outer s H E).ex:=λb z=>qG (show b∈([]:List Addr) from z) (by simp)
 refine⟨⟨e0.mod,S.kind,rfl,rfl,Xr _,λy z c h1 h2=>?_,λy hy=>?_,λy c _ h=>?_,λ_=>hd,Around.frames_deeper e0.frames,.inr ⟨rfl,rfl⟩,λb z=>qG z (noA b),e0.bs,e0.bsz,λb _ _=>noA b,λb z=>qG z (noA b),e0.funs,e0.frf⟩,
  rfl,e0.bare,Un.kept hk,⟨_,x.toInCall.ns,λi y v h1 h2 h3=>?_⟩,λy c h=>⟨_,x.cell y c h⟩,e0.hok.fresh (Nat.le_refl _),λy c h=>?_,λp hp=>qG (show p∈([]:List (Addr×Obj)) from hp) (by simp),e0.hok.kept hk,?_⟩
 ·exact name_of_addr x.apart (Yb h1) (Yb h2)
 ·have hy:scope.names.lookup y=some .cell\/scope.names.lookup y=some .free:=hy;rcases hy with hy|hy
  ·exact FT hy
  ·exact qG rfl (S.nofree _ (Yb hy))
 ·exact ZF (x.above y c (Yb h))
 ·have hi:i<vs.length:=by
   unfold Ci at h2
   by_cases hi:i<vs.length
   ·exact hi
   ·rw[List.getElem?_append_right (by simpa using hi)]at h2;rw[Zb]at h2
    split at h2<;>cases h2
  have ha:vs[i]?=some v:=by
   unfold Ci at h2;rw[List.getElem?_append_left (by simpa using hi),List.getElem?_map]at h2;cases e:vs[i]? with
   |none=>rw[e]at h2;cases h2
   |some a=>rw[e]at h2;cases h2;rfl
  obtain⟨u,hu,rv⟩:=r.get ha
  have hp:ps[i]?=some y:=by rw[<-S.pre,List.getElem?_take_of_lt (by lia)];exact h1
  have ndP:ps.Nodup:=by rw[<-S.pre];exact S.nd.sublist (List.take_sublist _ _)
  refine⟨u,rv,?_⟩;rcases S.par y (X3 hp) with k|k
  ·exact .inl ⟨k,Fq ndP hp hu k⟩
  ·obtain⟨c,e⟩:=FT (n:=s.heap.objs.size+1) k;refine .inr ⟨.inl k,c,e,?_⟩;have q:=x.cell y c e;rw[Fs ndP hp hu (by show scope.names.lookup y≠_;rw[k];decide)]at q;exact q
 ·exact e0.hok.fresh (ZF (x.above y c (Yb h)))
 ·unfold Ci;show _=N.length;rw[Xp,Xk,List.length_replicate];lia
variable{name:Str}{params:Arguments}{doc cdv oc:Value}{an od:Option Addr}
theorem Rf{P:Program}{w:World}{K:qJ}{mg:Str->Option Value}{base:Heap}{k:Nat}{dV kV pm ct:Value}
  {osl:Array (Option Value)} {N ps:List Str} {sp:Sp} (lk:K.lookup f=some ⟨oc,od,.func (PySem.W.fnOf name qual params body scope dV kV doc pm an cdv ct),osl⟩) (hcd:PySem.W.codeIn K cdv qual=true) (S:AL N ps scope)
  (len:∀vs H Q E,sp vs H Q E->vs.length=ps.length)
  (hbody:∀(A:Around) (outer:List Env) (s:Shared) (H:Hp) (vs:List V) (Q:VK) (E:XK),Bs k (A.deeper (envOfC qual scope s.heap.objs.size f cdv))->sp vs H Q E ->
   ∃t,Gd (DX CX P w K mg base N qual scope f cdv A outer s H E) body t/\t {nx:=λ_ H'=>Q .non H',rt:=Q} (Ci N vs) H):
  Ex P w K mg base CX (k+1) f (PySem.W.fnOf name qual params body scope dV kV doc pm an cdv ct) ps sp:=by
 refine⟨len,λA outer s H args us vs Q E hr e0 hb r hsp=>?_⟩;have hl:=len _ _ _ _ hsp;have KX:K.In s.heap:=e0.mod.kin.keeps λb o e=>(e0.bs b o e).1
 have lim:s.heap.NoLimit:=e0.mod.nolimit.keeps λb o e=>(e0.bs b o e).1
 have hkind:∀y∈ps.zip us,scope.names.lookup y.1=some .local\/(scope.names.lookup y.1=some .cell/\((cellsFrom (s.heap.objs.size+1) scope.names []).lookup y.1).isSome=true):=λ⟨n,v⟩ hy=>by
  rcases S.par n (aB hy).1 with q|q
  ·exact .inl q
  ·exact .inr ⟨q,aL _ _ _ (.inl q)⟩
 refine codeAny_call_function hr.depth (KX _ _ lk) rfl S.co S.gen rfl (PySem.W.codeRec_of KX hcd) (hb _ _ _ _ ?_);refine wpAny_newFunctionEnv_cells S.kind hkind λenv he s1 x=>?_;subst he;refine⟨lim.keeps x.toInCall.keep,codeAny_func ?_⟩;obtain⟨t,ht,hq⟩:=hbody A outer s H vs Q E (hr.deeper _) hsp;have I:AY (DX CX P w K mg base N qual scope f cdv A outer s H E) [] (Ci N vs) H s1:=NX S hr.hd e0 hl r x;refine wpAny_mono (ht [] s1 (Ci N vs) H _ I hq) (λfl s' hs=>?_) λe s' hs=>hs
 have fin:∀{σ':St} {H':Hp} {v:V} {u:Value},AY (DX CX P w K mg base N qual scope f cdv A outer s H E) [] σ' H' s'->Aq v u->Q v H'->CE outer P w H s Q u s':=
  λ{σ' H' v u} J rv q=>⟨v,H',J.os,J.bare,J.base,J.hok,rv,q⟩
 cases fl with
 |ret u =>
  obtain⟨v,σ',H',J,rv,q⟩:=hs;exact fin J rv q
 |next =>
  obtain⟨σ',H',J,q⟩:=hs;exact fin (v:=V.non) (u:=Value.none) J rfl q
 |brk =>
  obtain⟨_,_,_,q⟩:=hs;exact False.elim q
 |cont =>
  obtain⟨_,_,_,q⟩:=hs;exact False.elim q
section
variable{p pos:Pos}{e:Expr}{t:TA}{id T:String}{r:List V->Hp->VK->Prop}
def Uu(r:List V->Hp->VK->Prop)(t:TA):TE:=λσ H Q=>t σ H λvs H1=>r vs H1 Q
theorem AV(hc:E3 X (.builtin id) r)(hg:Gl X x)(hm:X.mg x=none)(hv:bootBuiltins x=some (.builtin id))(ha:PA X (e::es) t)(hn:x≠"__name__":=by decide)(hdb:(x==("__debug__":Str))=false:=by decide)
  (he:starEach (e::es) X.env=(false,eval e X.env)::starEach es X.env:=by rfl) (hpl:(backTo pos (starEach es X.env)).any (·.1)=false:=by rfl):PE X (.Call (.Name x p) (e::es) [] pos) (Uu r t):=by
 intro pins s σ H Q I h;refine wpAny_Call_Name_kw (CD I hg hm hv ?_ hn hdb);exact PyProof.Rows.callWith_builtin1 (BX (ha pos pins s σ H _ I h) λus s1 ⟨vs,H1,I1,r1,q1⟩=>hc pins s1 σ H1 vs us Q I1 r1 q1) he hpl
theorem Df(hc:E3 X (.type T) r)(hg:Gl X x)(hm:X.mg x=none)(hv:bootBuiltins x=some (.type T))(ha:PA X (e::es) t)(hn:x≠"__name__":=by decide)(hdb:(x==("__debug__":Str))=false:=by decide)
  (he:starEach (e::es) X.env=(false,eval e X.env)::starEach es X.env:=by rfl) (hpl:(backTo pos (starEach es X.env)).any (·.1)=false:=by rfl):PE X (.Call (.Name x p) (e::es) [] pos) (Uu r t):=by
 intro pins s σ H Q I h;refine wpAny_Call_Name_kw (CD I hg hm hv ?_ hn hdb);exact YR (BX (ha pos pins s σ H _ I h) λus s1 ⟨vs,H1,I1,r1,q1⟩=>hc pins s1 σ H1 vs us Q I1 r1 q1) he hpl
end
end L2
namespace HT
open PySem PyProof.Rows
section
variable{prog:Program}{w:World}{A:Around}{E:Value->Shared->Prop}{s:Shared}
noncomputable def FU(n d:Nat):Option Int->Nat
 |none=>d
 |some v=>if v<0 then (v+(n:Int)).toNat else min v.toNat n
end
end HT
namespace L2
open PySem PySem.Spec PyProof.Rows
variable{H:Hp}{X:Cx}{b:Addr}{es:List Expr}{j t':Nat}{name:Str}{pins:List (Addr×Obj)}{s:Shared}{te:TE}{u:Value}{us:List Value}{xs:List V}{α:Type}{σ:St}
abbrev TO:=St->Hp->(Option Int->Hp->Prop)->Prop
def PO(X:Cx)(e:Option Expr)(t:TO):Prop:=
 ∀(pins:List (Addr×Obj)) (s:Shared) (σ:St) (H:Hp) (Q:Option Int->Hp->Prop),AY X pins σ H s->t σ H Q ->
  wpAny (model X.prog X.w) X.A (evalPart e X.env) (λu s'=>∃o H',AY X pins σ H' s'/\IsPart u o/\Q o H') X.xe s
def JG:TO:=λ_ H Q=>Q none H
def Rg(t:TE):TO:=λσ H Q=>t σ H λx H1=>∃i,x=.int i/\Q (some i) H1
theorem Gy{ns:List Int}:∀{us:List Value},Ao (ns.map V.int) us->IntsAre us ns:=by
 induction ns with
 |nil=>intro us r;rw[aU]at r;cases r;exact .nil
 |cons n ns ih =>
  intro us r;rw[Yj]at r;cases r with
  |cons r1 r2 =>
   obtain⟨t,e⟩:=r1;subst e;exact .cons n t (ih r2)
section
variable{e:Expr}{lo hi:Option Expr}{tl th:TO}{pos p2:Pos}
theorem Ds:PO X none JG:=by intro pins s σ H Q I h;rw[evalPart_none];exact qD ⟨none,H,I,.none,h⟩
theorem CH(h:PE X e te):PO X (some e) (Rg te):=by intro pins s σ H Q I hw;rw[evalPart_some];refine BX (h pins s σ H _ I hw) λu s1 z9=>?_;obtain⟨x,H1,I1,r1,q1⟩:=z9;obtain⟨i,rfl,q⟩:=q1;obtain⟨t,rfl⟩:=r1;exact⟨some i,H1,I1,.int i t,q⟩
def XZ(X:Cx)(r:V->Option Int->Option Int->Hp->VK->Prop):Prop:=
 ∀(pins:List (Addr×Obj)) (s:Shared) (σ:St) (H:Hp) (x:V) (v vl vu:Value) (lo hi:Option Int) (sl:Addr) (Q:VK),AY X pins σ H s->Aq x v->s.heap.IsSliceOf sl vl vu .none->IsPart vl lo->IsPart vu hi->r x lo hi H Q ->
  ∃T id,typeLookup (.type T) "__getitem__"=pure (some (.builtin id))/\s.TypeIs v T/\wpAny (model X.prog X.w) X.A (getItem v (.ref sl)) (EP X pins σ Q) X.xe s
def Xa(r:V->Option Int->Option Int->Hp->VK->Prop)(te:TE)(tl th:TO):TE:=λσ H Q=>te σ H λx H1=>tl σ H1 λl H2=>th σ H2 λu H3=>r x l u H3 Q
theorem CI{r:V->Option Int->Option Int->Hp->VK->Prop}(hr:XZ X r)(he:PE X e te)(hl:PO X lo tl)(hu:PO X hi th):PE X (.Subscript e (.Slice lo hi none p2) pos) (Xa r te tl th):=by
 intro pins s σ H Q I h;refine Subscript_ (BX (he pins s σ H _ I h) λv s1 z9=>?_);obtain⟨x,H1,I1,r1,q1⟩:=z9;refine wpAny_Slice (BX (hl pins s1 σ H1 _ I1 q1) λvl s2 ⟨l,H2,I2,pl,q2⟩=>BX (hu pins s2 σ H2 _ I2 q2) λvu s3 z9=>?_);obtain⟨u,H3,I3,pu,q3⟩:=z9;rw[evalPart_none];refine qD ?_;have I4:AY X pins σ H3 {s3 with heap:=s3.heap.push {cls:=.type "slice",data:=.fields #[vl,vu,.none]}}:=I3.kept (t':=s3.toks) λb ob q=>Xn _ q
 obtain⟨T,id,hT,ht,hg⟩:=hr pins {s3 with heap:=s3.heap.push {cls:=.type "slice",data:=.fields #[vl,vu,.none]}} σ H3 x v vl vu l u s3.heap.objs.size Q I4 r1 (Heap.IsSliceOf.new ..) pl pu q3;show wpAny (model X.prog X.w) X.A (subscriptTail e (.Slice lo hi none p2) v (.ref s3.heap.objs.size)) (EP X pins σ Q) X.xe {s3 with heap:=s3.heap.push {cls:=.type "slice",data:=.fields #[vl,vu,.none]}};exact tail_any (ops:=[.ref s3.heap.objs.size,v]) ht hT hg (by with_unfolding_all rfl)
noncomputable def Gz(xs:List V)(lo hi:Option Int):List V:=(xs.drop (HT.FU xs.length 0 lo)).take (HT.FU xs.length xs.length hi-HT.FU xs.length 0 lo)
theorem J6(xs:List V)(lo hi:Option Int):(Gz xs lo hi).length<=xs.length:=by unfold Gz;rw[YC,Yw];lia
end
noncomputable def J7(n:Nat)(i:Int):Option Nat:=if 0<=i then (if i<n then some i.toNat else none) else if -(n:Int)<=i then some (i+n).toNat else none
noncomputable def G0{α:Type}(xs:List α)(i:Int):Option α:=(J7 xs.length i).bind λj=>xs[j]?
theorem Md{n:Nat}{i:Int}(h:J7 n i=some j):seqIndex? i n=some j/\j<n/\-(n:Int)<=i/\i<n:=by
 unfold J7 at h
 by_cases h0:0<=i
 ·rw[qF h0]at h
  by_cases h1:i<n
  ·rw[qF h1]at h;have e:i.toNat=j:=Option.some.inj h;exact⟨by rw[seqIndex_of h0 h1,e],by lia,by lia,h1⟩
  ·rw[qE h1]at h;cases h
 ·rw[qE h0]at h
  by_cases h1:-(n:Int)<=i
  ·rw[qF h1]at h;have e:(i+n).toNat=j:=Option.some.inj h;exact⟨by rw[seqIndex_neg (by lia) h1,e],by lia,h1,by lia⟩
  ·rw[qE h1]at h;cases h
theorem Me{xs:List α}{i:Int}{v:α}(h:G0 xs i=some v):∃j,seqIndex? i xs.length=some j/\xs[j]?=some v/\j<xs.length/\-(xs.length:Int)<=i/\i<xs.length:=by
 unfold G0 at h;cases e:J7 xs.length i with
 |none=>rw[e]at h;cases h
 |some j =>
  rw[e]at h;obtain⟨h1,h2,h3,h4⟩:=Md e;exact⟨j,h1,h,h2,h3,h4⟩
theorem Cg{xs:List α}{v:α}(h:xs[j]?=some v):G0 xs (j:Int)=some v:=by
 have hj:j<xs.length:=(Xo.mp h).1
 have e:J7 xs.length (j:Int)=some j:=by unfold J7;rw[qF (by lia),qF (by lia)];simp
 unfold G0;rw[e];exact h
def Mf(b:Expr):Prop:=∀o i,subscripted b false o i=operate [o,i] (getItem o i)
def UZ(X:Cx)(r:R2):Prop:=
 ∀(value slice:Expr) (pins:List (Addr×Obj)) (s:Shared) (σ:St) (H:Hp) (x y:V) (v u:Value) (Q:VK),AY X pins σ H s->Aq x v->Aq y u->r x y H Q ->
  subscripted slice false v u=operate [v,u] (getItem v u)->wpAny (model X.prog X.w) X.A (subscriptTail value slice v u) (EP X pins σ Q) X.xe s
def Wb(X:Cx)(id:String)(r:V->List V->Hp->VK->Prop):Prop:=
 ∀(pins:List (Addr×Obj)) (s:Shared) (σ:St) (H:Hp) (x:V) (xs:List V) (v:Value) (us:List Value) (Q:VK),AY X pins σ H s->Aq x v->Ao xs us->r x xs H Q ->
  wpAny (model X.prog X.w) X.A (call (.builtin id) (v::us)) (EP X pins σ Q) X.xe s
variable{p:Addr}{its:List Value}{T:String}
section
variable{a b:Expr}{ta tb:TE}{pos:Pos}
theorem AT{r:R2}(hr:UZ X r)(ha:PE X a ta)(hb:PE X b tb)(hs:Mf b):PE X (.Subscript a b pos) (UX r ta tb):=by intro pins s σ H Q I h;exact Subscript_ (SW ha hb I h λv u s2 x y H2 I2 rx ry q=>hr a b pins s2 σ H2 x y v u Q I2 rx ry q (hs _ _))
def Uv(K:qJ):R2:=λx y H Q=>∃p xs i v,x=.ref p/\y=.int i/\Ad K H p xs/\G0 xs i=some v/\Q v H
def Uw(K:qJ):R2:=λx y H Q=>∃p xs i v,x=.ref p/\y=.int i/\Bi K H p xs/\G0 xs i=some v/\Q v H
theorem An:UZ X (Uv X.K):=by
 intro value slice pins s σ H x y v u Q I rx ry h hs;obtain⟨p,xs,i,z,rfl,rfl,hq,he,q⟩:=h;cases rx;obtain⟨t,rfl⟩:=ry;obtain⟨its,r,pl,hz⟩:=I.list hq;obtain⟨j,h1,h2,h3,h4,h5⟩:=Me he;obtain⟨w,ew,rw'⟩:=r.get h2;have hl:=r.length;have hn:=JF;have fin:EP X pins σ Q w s:=⟨z,H,I,rw',q⟩
 by_cases h0:0<=i
 ·have hj:i.toNat=j:=by
   rw[seqIndex_of h0 h5]at h1;exact Option.some.inj h1
  exact item_listR pl.isList h0 (by lia) (by rw[hj];simpa using ew) fin hs
 ·have hj:(i+(its.toArray.size:Int)).toNat=j:=by
   rw[seqIndex_neg (by lia) h4]at h1;rw[YV,<-hl];exact Option.some.inj h1
  exact subscriptTail_builtinR (x:=w) pl.isList.typeIs slot_list_getitem.lookup
   (wpAny_getItem_list_neg (Q:=λr s'=>r=w/\EP X pins σ Q r s') pl.isList (by lia) (by rw[List.size_toArray]<;>lia) (by lia) (by rw[hj];simpa using ew) ⟨rfl,fin⟩) hs
theorem Ai:UZ X (Uw X.K):=by
 intro value slice pins s σ H x y v u Q I rx ry h hs;obtain⟨p,xs,i,z,rfl,rfl,hq,he,q⟩:=h;cases rx;obtain⟨t,rfl⟩:=ry;obtain⟨its,r,pl,hz⟩:=I.tuple hq;obtain⟨j,h1,h2,h3,h4,h5⟩:=Me he;obtain⟨w,ew,rw'⟩:=r.get h2;have hl:=r.length;have hn:=JF;have fin:EP X pins σ Q w s:=⟨z,H,I,rw',q⟩
 exact subscriptTail_builtinR (x:=w) pl.typeIs slot_tuple_getitem.lookup
  (getItem_tuple (j:=j) (Q:=λr s'=>r=w/\EP X pins σ Q r s') pl (by lia) (by lia) (by rw[List.size_toArray,<-hl];exact h1) (by simpa using ew) ⟨rfl,fin⟩) hs
theorem LV(its:List Value)(n j:Nat)(u:Value):Obj.mapSeq (·.setIfInBounds j u) {cls:=.type "list",data:=.seq its.toArray n}={cls:=.type "list",data:=.seq (its.set j u).toArray n}:=by simp[Obj.mapSeq]
theorem AY.lst(I:AY X pins σ H s)(h:H p=some (.lst xs)):
  ∃(its:List Value) (n:Nat),Ao xs its/\s.heap.get? p=some {cls:=.type "list",data:=.seq its.toArray n}/\xs.length<=sizeLine:=by
 obtain⟨z,its,n,r,e⟩:=I.hok p _ h;exact⟨its,n,r,e,z⟩
theorem AY.lstUpd{ys:List V}{its':List Value}{n n':Nat}{f:Obj->Obj}(I:AY X pins σ H s)(h:H p=some (.lst xs))
  (ho:s.heap.get? p=some {cls:=.type "list",data:=.seq its.toArray n}) (hf:f {cls:=.type "list",data:=.seq its.toArray n}={cls:=.type "list",data:=.seq its'.toArray n'}) (r:Ao ys its') (hz:ys.length<=sizeLine) (t:Nat):
  AY X pins σ (Aj H p (.lst ys)) {s with heap:=s.heap.update p f,toks:=t}:=by
 have e:(s.heap.update p f).get? p=some {cls:=.type "list",data:=.seq its'.toArray n'}:=by rw[ZO f ho (by rw[hf]<;>rfl),hf]
 refine I.write (x:=p) (e:=p) (by rw[h];trivial) (.inl rfl) (λb u hb q=>(ZL _ _ (Ne.symm hb)).trans q) ⟨_,e⟩ ?_;exact⟨hz,its',n',r,e⟩
def Ux:V->V->V->Hp->(Hp->Prop)->Prop:=λo i v H Q=>∃p xs k j,o=.ref p/\i=.int k/\H p=some (.lst xs)/\J7 xs.length k=some j/\Q (Aj H p (.lst (xs.set j v)))
theorem J8:Uk X Ux:=by
 intro pins s σ H o i v ov iv u Q I ro ri rv h;obtain⟨p,xs,k,j,rfl,rfl,hp,hj,q⟩:=h;cases ro;obtain⟨t,rfl⟩:=ri;obtain⟨its,n,r,ho,hz⟩:=I.lst hp;obtain⟨h1,h2,h3,h4⟩:=Md hj;have hl:=r.length;have hn:=JF
 have I':AY X pins σ (Aj H p (.lst (xs.set j v))) {s with heap:=s.heap.update p (Obj.mapSeq (·.setIfInBounds j u))}:=
  I.lstUpd hp ho (LV its n j u) (r.set rv j) (by rw[Zo];exact hz) s.toks
 by_cases h0:0<=k
 ·have hk:k.toNat=j:=by
   rw[seqIndex_of h0 h4]at h1;exact Option.some.inj h1
  exact PySem.W.ki_setAt ho h0 (by lia) (by rw[YV,<-hl];exact h4) (by rw[hk];exact⟨_,I',q⟩)
 ·have hk:(k+(its.toArray.size:Int)).toNat=j:=by
   rw[seqIndex_neg (by lia) h3]at h1;rw[YV,<-hl];exact Option.some.inj h1
  exact PySem.W.ki_setBack ho (by lia) (by rw[YV,<-hl];exact h3) (by lia) (by rw[hk];exact⟨_,I',q⟩)
theorem JH(lo hi:Option Int)(n:Nat):(sliceBounds lo hi none n).1=((HT.FU n 0 lo:Nat):Int)/\(sliceBounds lo hi none n).2.1=((HT.FU n n hi:Nat):Int)/\(sliceBounds lo hi none n).2.2=1:=by
 refine⟨?_,?_,rfl⟩
 ·cases lo with
  |none=>simp[sliceBounds,HT.FU]
  |some i =>
   simp only[sliceBounds,HT.FU,Option.getD_none,show (1:Int)>0 by decide,if_true]
   by_cases h:i<0
   ·simp only[h,if_true]<;>lia
   ·simp only[h,if_false]<;>lia
 ·cases hi with
  |none=>simp[sliceBounds,HT.FU]
  |some i =>
   simp only[sliceBounds,HT.FU,Option.getD_none,show (1:Int)>0 by decide,if_true]
   by_cases h:i<0
   ·simp only[h,if_true]<;>lia
   ·simp only[h,if_false]<;>lia
theorem II(its:List Value)(lo hi:Option Int):slicePick its.toArray lo hi none=((its.drop (HT.FU its.length 0 lo)).take (HT.FU its.length its.length hi-HT.FU its.length 0 lo)).toArray:=by obtain⟨h1,h2,h3⟩:=JH lo hi its.toArray.size;unfold slicePick;rw[h1,h2,h3];simp only[sliceRange_one,pick_run,List.size_toArray]<;>rfl
def Uy(K:qJ):V->Option Int->Option Int->Hp->VK->Prop:=λx lo hi H Q=>∃a xs,x=.ref a/\Ad K H a xs/\∀p,H p=none->Q (.ref p) (Aj H p (.lst (Gz xs lo hi)))
theorem Cy:XZ X (Uy X.K):=by intro pins s σ H x v vl vu lo hi sl Q I rx hs pl pu h;obtain⟨a,xs,rfl,hx,q⟩:=h;cases rx;obtain⟨its,r,ht,hz⟩:=I.list hx;have hlen:=r.length;refine⟨"list",_,slot_list_getitem.lookup,ht.isList.typeIs,?_⟩;refine wpAny_getItem_list_slice ht.isList hs pl pu .none (by simp) ?_ (by rw[List.size_toArray]<;>lia);rw[II,<-hlen];refine⟨.ref s.heap.objs.size,_,I.laid (t':=s.toks) (o:=.lst (Gz xs lo hi)) (λb ob q=>Xn _ q) (Xr _) ?_,rfl,q _ (I.hok.fresh (Xr _))⟩;exact⟨YK (J6 xs lo hi) hz,_,0,(r.drop (HT.FU xs.length 0 lo)).take (HT.FU xs.length xs.length hi-HT.FU xs.length 0 lo),Xz _ rfl⟩
noncomputable def GJ:V->Bool
 |.non=>true
 |.bl _=>true
 |.int _=>true
 |.str _=>true
 |_=>false
noncomputable def Rh:V->V->Bool
 |.non,.non=>true
 |.bl a,.bl b=>a==b
 |.bl a,.int b=>(if a then 1 else 0)==b
 |.int a,.bl b=>a==(if b then 1 else 0)
 |.int a,.int b=>a==b
 |.str a,.str b=>a==b
 |_,_=>false
theorem Se{A:Around}{y x:V}{v:Value}(ry:Aq y u)(rx:Aq x v)(fy:GJ y=true)(fx:GJ x=true):SeqAt.EqAt A s u v (Rh y x):=by
 cases y with
 |non =>
  cases ry;cases x with
  |non=>cases rx;exact SeqAt.EqAt.same _
  |bl b=>cases rx;exact SeqAt.EqAt.none_bool b
  |int b=>obtain⟨t,rfl⟩:=rx;exact SeqAt.EqAt.none_int b t
  |str b=>obtain⟨t,rfl⟩:=rx;exact SeqAt.EqAt.none_str b t
  |_=>exact qG (show false=true from fx) X1
 |bl a =>
  cases ry;cases x with
  |non=>cases rx;exact SeqAt.EqAt.bool_none a
  |bl b=>cases rx;exact SeqAt.EqAt.bool_bool a b
  |int b=>obtain⟨t,rfl⟩:=rx;exact SeqAt.EqAt.bool_int a b t
  |str b=>obtain⟨t,rfl⟩:=rx;exact SeqAt.EqAt.bool_str a b t
  |_=>exact qG (show false=true from fx) X1
 |int a =>
  obtain⟨t',rfl⟩:=ry;cases x with
  |non=>cases rx;exact SeqAt.EqAt.int_none a t'
  |bl b=>cases rx;exact SeqAt.EqAt.int_bool a t' b
  |int b=>obtain⟨t,rfl⟩:=rx;exact SeqAt.EqAt.int_int a t' b t
  |str b=>obtain⟨t,rfl⟩:=rx;exact SeqAt.EqAt.int_str a t' b t
  |_=>exact qG (show false=true from fx) X1
 |str a =>
  obtain⟨t',rfl⟩:=ry;cases x with
  |non=>cases rx;exact SeqAt.EqAt.str_none a t'
  |bl b=>cases rx;exact SeqAt.EqAt.str_bool a t' b
  |int b=>obtain⟨t,rfl⟩:=rx;exact SeqAt.EqAt.str_int a t' b t
  |str b=>obtain⟨t,rfl⟩:=rx;exact SeqAt.EqAt.str_str a t' b t
  |_=>exact qG (show false=true from fx) X1
 |_=>exact qG (show false=true from fy) X1
noncomputable def QY(x:V)(u:Value):Bool:=match u with
 |.none=>Rh .non x
 |.bool b=>Rh (.bl b) x
 |.int i _=>Rh (.int i) x
 |.str z _=>Rh (.str z) x
 |_=>false
theorem OW{x y:V}(r:Aq y u)(f:GJ y=true):QY x u=Rh y x:=by
 cases y with
 |non=>cases r;rfl
 |bl b=>cases r;rfl
 |int i=>obtain⟨t,rfl⟩:=r;rfl
 |str z=>obtain⟨t,rfl⟩:=r;rfl
 |_=>exact qG (show false=true from f) X1
theorem JI{x:V}:∀{xs:List V} {us:List Value},Ao xs us->xs.all GJ=true->us.any (QY x)=xs.any λy=>Rh y x
 |_,_,.nil,_=>rfl
 |y::xs,u::us,.cons r t,f=>by rw[List.all_cons,Zf]at f;rw[Zc,Zc,OW r f.1,JI t f.2]
theorem G3{A:Around}{x:V}{v:Value}(rx:Aq x v)(fx:GJ x=true):∀{xs:List V} {us:List Value},Ao xs us->xs.all GJ=true->∀u∈us,SeqAt.EqAt A s u v (QY x u)
 |_,_,.nil,_=>λu hu=>by cases hu
 |y::xs,u::us,.cons r t,f=>λu' hu=>by
  rw[List.all_cons,Zf]at f;rcases YA.mp hu with rfl|hu
  ·rw[OW r f.1];exact Se r rx f.1 fx
  ·exact G3 rx fx t f.2 u' hu
noncomputable def Ua(x:V)(xs:List V):Bool:=xs.any λy=>Rh y x
def Xj(K:qJ)(neg:Bool):R2:=λx y H Q=>∃p xs,y=.ref p/\(Ad K H p xs\/Bi K H p xs)/\GJ x=true/\xs.all GJ=true/\Q (.bl (if neg then !Ua x xs else Ua x xs)) H
theorem NY:Fl X (compareOp .In) (Xj X.K false):=by
 intro pins s σ H x y v u Q I rx ry h;obtain⟨p,xs,rfl,hq,fx,fs,q⟩:=h;cases ry;rcases hq with hq|hq
 ·obtain⟨its,r,pl,hz⟩:=I.list hq;refine SeqAt.in_listAt (QY x) pl.isList (λw hw=>G3 rx fx r fs w (by simpa using hw)) ⟨.bl _,H,I,rfl,?_⟩;rw[show its.toArray.any (QY x)=its.any (QY x) by simp,JI r fs];exact q
 ·obtain⟨its,r,pl,hz⟩:=I.tuple hq;refine SeqAt.in_tupleAt (QY x) pl (λw hw=>G3 rx fx r fs w (by simpa using hw)) ⟨.bl _,H,I,rfl,?_⟩;rw[show its.toArray.any (QY x)=its.any (QY x) by simp,JI r fs];exact q
theorem AJ:E3 X (.builtin "len") (λxs H Q=>∃p ys,xs=[.ref p]/\(Ad X.K H p ys\/Bi X.K H p ys)/\Q (.int ys.length) H):=by
 intro pins s σ H xs us Q I r h;obtain⟨p,ys,rfl,hq,q⟩:=h;obtain⟨u,rfl,rx⟩:=Gx r;cases rx;have hn:=JF;rcases hq with hq|hq
 ·obtain⟨its,r',pl,hz⟩:=I.list hq;have hlen:=r'.length;exact Calls.call_len_list pl.isList (by simp only[List.size_toArray]<;>lia) ⟨.int ys.length,H,I.tok _,⟨s.toks+1,by rw[List.size_toArray,hlen]⟩,q⟩
 ·obtain⟨its,r',pl,hz⟩:=I.tuple hq;have hlen:=r'.length;exact len_tuple pl (by simp only[List.size_toArray]<;>lia) ⟨.int ys.length,H,I.tok _,⟨s.toks+1,by rw[List.size_toArray,hlen]⟩,q⟩
theorem Dt:E3 X (.type "list") (λxs H Q=>∃p ys,xs=[.ref p]/\(Ad X.K H p ys\/Bi X.K H p ys)/\∀l,H l=none->Q (.ref l) (Aj H l (.lst ys))):=by
 intro pins s σ H xs us Q I r h;obtain⟨p,ys,rfl,hq,q⟩:=h;obtain⟨u,rfl,rx⟩:=Gx r;cases rx
 have fin:∀(its:List Value),Ao ys its->ys.length<=sizeLine->∀(h':Heap) (c':Nat),(∀b o',s.heap.get? b=some o'->h'.get? b=some o') ->
   h'.get? s.heap.objs.size=some {cls:=.type "list",dict:=none,data:=.seq its.toArray c',slots:=#[]}->EP X pins σ Q (.ref s.heap.objs.size) {s with heap:=h'}:=λits r' hz h' c' kp e =>
  ⟨.ref s.heap.objs.size,_,I.laid (t':=s.toks) kp (Xr _) (show Aw X.prog X.w _ h' _ (.lst ys) from⟨hz,its,c',r',e⟩),rfl,q _ (I.hok.fresh (Xr _))⟩
 rcases hq with hq|hq
 ·obtain⟨its,r',pl,hz⟩:=I.list hq;have hlen:=r'.length;obtain⟨o,ho,hc,n,hd⟩:=pl.isList;exact call_list_seq p (.inl rfl) ho hc hd (λh' c' kp e=>fin its r' hz h' c' kp e) (by simp only[List.size_toArray]<;>lia)
 ·obtain⟨its,r',pl,hz⟩:=I.tuple hq;have hlen:=r'.length;obtain⟨o,ho,hc,n,hd⟩:=pl;exact call_list_seq p (.inr rfl) ho hc hd (λh' c' kp e=>fin its r' hz h' c' kp e) (by simp only[List.size_toArray]<;>lia)
theorem E4:E3 X (.type "tuple") (λxs H Q=>∃p ys,xs=[.ref p]/\((Ad X.K H p ys/\∀l,H l=none->Q (.ref l) (Aj H l (.tup ys)))\/(Bi X.K H p ys/\Q (.ref p) H))):=by
 intro pins s σ H xs us Q I r h;obtain⟨p,ys,rfl,h⟩:=h;obtain⟨u,rfl,rx⟩:=Gx r;cases rx;rcases h with⟨hq,q⟩|⟨hq,q⟩
 ·obtain⟨its,r',pl,hz⟩:=I.list hq;have hlen:=r'.length;refine call_tuple_list pl.isList (λh' kp=>?_) (by simp only[List.size_toArray]<;>lia);have I1:AY X pins σ H {s with heap:=h'}:=I.kept (t':=s.toks) kp
  have I2:AY X pins σ (Aj H h'.objs.size (.tup ys)) {s with heap:=h'.push {cls:=.type "tuple",data:=.seq its.toArray}}:=
   I1.laid (t':=s.toks) (λb o e=>Xn _ e) (Xr _) (show Aw X.prog X.w _ _ _ (.tup ys) from⟨hz,its,r',IsTup.new _ _⟩)
  exact⟨.ref h'.objs.size,_,I2,rfl,q _ (I1.hok.fresh (Xr _))⟩
 ·obtain⟨its,r',pl,hz⟩:=I.tuple hq;exact call_tuple_same pl ⟨.ref p,H,I,rfl,q⟩
def Wc(K:qJ)(T:String)(x:V)(H:Hp):Prop:=match x with
 |.str _=>T="str"
 |.int _=>T="int"
 |.ref p=>(T="list"/\∃xs,Ad K H p xs)\/(T="tuple"/\∃o,K.lookup p=some o/\o.cls=.type "tuple"/\o.dict=none) \/
   (T="dict"/\((∃kvs,H p=some (.dK kvs))\/∃kvs,H p=some (.dT kvs)))\/(T="set"/\∃S n,H p=some (.set S n))
 |_=>False
theorem OX{x:V}{v:Value}(I:AY X pins σ H s)(r:Aq x v)(ty:Wc X.K T x H):
  s.TypeIs v T/\∀a,v=.ref a->∃ob,s.heap.get? a=some ob/\ob.dict=none:=by
 cases x with
 |str z =>
  obtain⟨t,rfl⟩:=r;cases (show T="str" from ty);exact⟨typeIs_str s z t,λ_ e=>nomatch e⟩
 |int i =>
  obtain⟨t,rfl⟩:=r;cases (show T="int" from ty);exact⟨typeIs_int s i t,λ_ e=>nomatch e⟩
 |ref p =>
  cases r;rcases ty with⟨rfl,xs,hq⟩|⟨rfl,o,hk,hc,hd⟩|⟨rfl,hk⟩|⟨rfl,S,n,hk⟩
  ·obtain⟨its,_,pl,_⟩:=I.list hq;refine⟨pl.isList.typeIs,λa e=>?_⟩;cases e;obtain⟨o,n,e,c,hd,_⟩:=pl;exact⟨o,e,hd⟩
  ·refine⟨⟨o,I.kIn p o hk,hc⟩,λa e=>?_⟩;cases e;exact⟨o,I.kIn _ o hk,hd⟩
  ·have z:∃o,s.heap.get? p=some o/\o.ExactDict:=by
    rcases hk with⟨kvs,hk⟩|⟨kvs,hk⟩
    ·obtain⟨_,_,_,_,o,_,_,e,ex,_⟩:=I.hok p _ hk;exact⟨o,e,ex⟩
    ·obtain⟨_,_,_,_,o,_,_,e,ex,_⟩:=I.hok p _ hk;exact⟨o,e,ex⟩
   obtain⟨o,e,ex⟩:=z;refine⟨⟨o,e,ex.1⟩,λa e2=>?_⟩;cases e2;exact⟨o,e,ex.2.1⟩
  ·obtain⟨o,_,_,_,e,ex,_⟩:=I.hok p _ hk;refine⟨⟨o,e,ex.1⟩,λa e2=>?_⟩;cases e2;exact⟨o,e,ex.2.1⟩
 |_=>exact False.elim ty
def Ws(K:qJ)(T:String)(r:V->List V->Hp->VK->Prop)(to:TE):TE:=λσ H Q=>to σ H λx H1=>Wc K T x H1/\r x [] H1 Q
def Xb(K:qJ)(T:String)(r:V->List V->Hp->VK->Prop)(to:TE)(t:TA):TE:=λσ H Q=>to σ H λx H1=>Wc K T x H1/\t σ H1 λxs H2=>r x xs H2 Q
variable{o e:Expr}{to:TE}{t:TA}{apos cpos:Pos}{id:String}{r:V->List V->Hp->VK->Prop}
theorem Sf(pa:PlainAttrs T)(slot:Slot T name id)(hty:typeOf (.builtin id)=pure (.type "method_descriptor"))(hm:Wb X id r)(ho:PE X o to)
  (hbase:attributeBase o name X.env (eval o X.env)=eval o X.env:=by rfl) (hline:(apos.endLine==cpos.line)=true:=by rfl):PE X (.Call (.Attribute o name apos) [] [] cpos) (Ws X.K T r to):=by
 intro pins s σ H Q I h;refine wpAny_Call_method0_late hbase hline (BX (ho pins s σ H _ I h) λv s1 z9=>?_);obtain⟨x,H1,I1,r1,ty,q1⟩:=z9;obtain⟨h1,h2⟩:=OX I1 r1 ty;exact⟨T,id,pa,slot,hty,h1,h2,Calls.callWith_builtin rfl (PySem.evalArgs_none (hm pins s1 σ H1 x [] v [] Q I1 r1 .nil q1))⟩
theorem CQ(pa:PlainAttrs T)(slot:Slot T name id)(hty:typeOf (.builtin id)=pure (.type "method_descriptor"))(hm:Wb X id r)(ho:PE X o to)(ha:PA X (e::es) t)
  (hbase:attributeBase o name X.env (eval o X.env)=eval o X.env:=by rfl)
  (hfew:((backTo cpos (starEach (e::es) X.env)).all (λx=>!x.1)&&(backToKw cpos (keywordEach [] X.env)).all (λx=>x.1.isSome)
   && decide ((e::es).length+([]:List Keyword).length+(if ([]:List Keyword).isEmpty then 0 else 1)<30))=true:=by rfl)
  (hline:(apos.endLine==cpos.line)=true:=by rfl) (hs:starEach (e::es) X.env=(false,eval e X.env)::starEach es X.env:=by rfl) (hplain:(backTo cpos (starEach es X.env)).any (·.1)=false:=by rfl):
  PE X (.Call (.Attribute o name apos) (e::es) [] cpos) (Xb X.K T r to t):=by
 intro pins s σ H Q I h;refine wpAny_Call_method_late hbase hfew hline rfl (BX (ho pins s σ H _ I h) λv s1 z9=>?_);obtain⟨x,H1,I1,r1,ty,q1⟩:=z9;obtain⟨h1,h2⟩:=OX I1 r1 ty;refine⟨T,id,pa,slot,hty,h1,h2,?_⟩;have hA:=ha cpos pins s1 σ H1 _ I1 q1;rw[hs]at hA⊢;refine Calls.callWith_builtin (by show (false||(backTo cpos (starEach es X.env)).any (·.1))=false;rw[hplain]<;>rfl) (Calls.evalArgs_plain ?_);exact BX hA λus s2 ⟨vs,H2,I2,r2,q2⟩=>hm pins s2 σ H2 x vs v us Q I2 r1 r2 q2
end
def Wt(X:Cx)(id:String)(r:V->List V->Hp->VK->Prop):Prop:=
 ∀(pins:List (Addr×Obj)) (s:Shared) (σ:St) (H:Hp) (x:V) (xs:List V) (v:Value) (us:List Value) (Q:VK),AY X pins σ H s->Aq x v->Ao xs us->r x xs H Q ->
  wpAny (model X.prog X.w) X.A (call (.builtin id) (v::us)) (EP X pins σ Q) X.xe s
theorem Ao.one:∀{x:V} {us:List Value},Ao [x] us->∃u,us=[u]/\Aq x u
 |_,_,.cons r .nil=>⟨_,rfl,r⟩
theorem Ao.zero:∀{us:List Value},Ao [] us->us=[]
 |_,.nil=>rfl
theorem Ao.dropLast(h:Ao xs us):Ao xs.dropLast us.dropLast:=by
 induction h with
 |nil=>exact .nil
 |cons r t ih =>
  cases t with
  |nil=>exact .nil
  |cons q t'=>exact .cons r ih
theorem Ao.reverse(h:Ao xs us):Ao xs.reverse us.reverse:=by
 induction h with
 |nil=>exact .nil
 |cons r t ih=>rw[List.reverse_cons,List.reverse_cons];exact Ao.append ih (.cons r .nil)
theorem Ao.rep(h:Ao xs us):∀k:Nat,Ao (List.replicate k xs).flatten (List.replicate k us).flatten
 |0=>.nil
 |k+1=>by rw[Yk,Yk,ZA,ZA];exact Ao.append h (Ao.rep h k)
theorem LW(l:List α):l.eraseIdx (l.length-1)=l.dropLast:=by
 induction l with
 |nil=>rfl
 |cons a r ih =>
  cases r with
  |nil=>rfl
  |cons b r =>
   have e:(a::b::r).length-1=((b::r).length-1)+1:=by have h1:(a::b::r).length=r.length+2:=rfl;have h2:(b::r).length=r.length+1:=rfl;lia
   rw[e,List.eraseIdx_cons_succ,ih]
   all_goals rfl
theorem IU(its:List Value):∀(k:Nat) (acc:List Value),
  List.foldl (λx1 x2=>x1++x2) acc.toArray (List.replicate k its.toArray)=(acc++(List.replicate k its).flatten).toArray
 |0,acc=>by simp
 |k+1,acc=>by
  have e:acc.toArray++its.toArray=(acc++its).toArray:=by simp
  have e2:(acc++its)++(List.replicate k its).flatten=acc++(List.replicate (k+1) its).flatten:=by rw[Yk,ZA,YG]
  rw[<-e2,<-IU its k (acc++its),<-e,Yk,List.foldl_cons]
section
variable{l:Addr}{ys zs:List V}
theorem AY.lset{its':List Value}{n:Nat}{f:Array Value->Array Value}{t':Nat}(I:AY X pins σ H s)(hH:H l=some (.lst xs))
  (e:s.heap.get? l=some {cls:=.type "list",data:=.seq its.toArray n}) (hf:f its.toArray=its'.toArray) (hv:Ao ys its') (hz:ys.length<=sizeLine):
  AY X pins σ (Aj H l (.lst ys)) {s with heap:=s.heap.update l (Obj.mapSeq f),toks:=t'}:=by
 have q:=PySem.IsL.update e f;rw[hf]at q;refine I.write (x:=l) (e:=l) (by rw[hH];exact trivial) (.inl rfl) (λb' u hb hu=>(ZL s.heap (Obj.mapSeq f) (Ne.symm hb)).trans hu) ⟨_,q⟩ ?_;exact⟨hz,its',_,hv,q⟩
theorem AY.lnew(I:AY X pins σ H s)(hv:Ao ys its)(hz:ys.length<=sizeLine):
  AY X pins σ (Aj H s.heap.objs.size (.lst ys)) {s with heap:=s.heap.push {cls:=.type "list",data:=.seq its.toArray},toks:=t'}:=
 I.laid (λ_ _ q=>Xn _ q) (Xr _) ⟨hz,its,0,hv,Xz _ rfl⟩
theorem AY.fresh(I:AY X pins σ H s):H s.heap.objs.size=none:=I.hok.fresh (Xr _)
theorem AY.lstM(I:AY X pins σ H s)(hH:H l=some (.lst xs)):xs.length<=sizeLine/\∃(its:List Value) (n:Nat),Ao xs its/\xs.length=its.length/\s.heap.get? l=some {cls:=.type "list",data:=.seq its.toArray n}:=by obtain⟨z,its,n,r,e⟩:=I.hok l _ hH;exact⟨z,its,n,r,r.length,e⟩
theorem J9{n:Nat}(h:n<=sizeLine):Builtin.List.listTooLong n=false:=by unfold Builtin.List.listTooLong;exact qI (by lia)
end
def Mg:V->List V->Hp->VK->Prop:=λx vs H Q=>∃l xs y,x=.ref l/\vs=[y]/\H l=some (.lst xs)/\xs.length<sizeLine/\Q .non (Aj H l (.lst (xs++[y])))
theorem BR:Wt X "list.append" Mg:=by intro pins s σ H x vs v us Q I rx rv h;obtain⟨l,xs,y,rfl,rfl,hH,hz,q⟩:=h;cases rx;obtain⟨u,rfl,ru⟩:=rv.one;obtain⟨z,its,n,r,hl,e⟩:=I.lstM hH;refine call_meets F.slot_list_append ⟨_,e,rfl⟩ F.entry_list_append (F.args_list_append_2 _ _) (PySem.list_append l its.toArray n u (by rw[YV];lia)) ⟨e,?_⟩;refine⟨.non,_,I.lset (its':=its++[u]) hH e (by simp) (r.append (.cons ru .nil)) ?_,rfl,q⟩;rw[Xp,YO];lia
def QZ:V->List V->Hp->VK->Prop:=λx vs H Q=>∃l b xs zs,x=.ref l/\vs=[.ref b]/\H l=some (.lst xs)/\H b=some (.lst zs)/\xs.length+zs.length<=sizeLine/\Q .non (Aj H l (.lst (xs++zs)))
theorem IV:Wt X "list.extend" QZ:=by
 intro pins s σ H x vs v us Q I rx rv h;obtain⟨l,b,xs,zs,rfl,rfl,hH,hB,hz,q⟩:=h;cases rx;obtain⟨u,rfl,ru⟩:=rv.one;cases ru;obtain⟨z,its,n,r,hl,e⟩:=I.lstM hH;obtain⟨z2,its2,n2,r2,hl2,e2⟩:=I.lstM hB;have hsz:its.toArray.size+its2.toArray.size<=sizeLine:=by rw[YV,YV];lia
 have hlong:¬(!its.toArray.isEmpty&&Builtin.List.listTooLong (its.toArray.size+its2.toArray.size))=true:=by rw[J9 hsz,Bool.and_false];exact X1
 refine call_meets F.slot_list_extend ⟨_,e,rfl⟩ F.entry_list_extend (F.args_list_extend_2 _ _)
  (AutoSeq1.list_extend_list_list_0 l its.toArray n b its2.toArray n2 hlong (by rw[YV];lia) (by lia)) ⟨e,e2,?_⟩
 refine⟨.non,_,I.lset (its':=its++its2) hH e (by simp) (r.append r2) ?_,rfl,q⟩;rw[Xp];lia
def Wu:V->List V->Hp->VK->Prop:=λx vs H Q=>∃l xs y,x=.ref l/\vs=[]/\H l=some (.lst xs)/\xs[xs.length-1]?=some y/\Q y (Aj H l (.lst xs.dropLast))
theorem Sh:Wt X "list.pop" Wu:=by
 intro pins s σ H x vs v us Q I rx rv h;obtain⟨l,xs,y,rfl,rfl,hH,hy,q⟩:=h;cases rx;have hus:=rv.zero;subst hus;obtain⟨z,its,n,r,hl,e⟩:=I.lstM hH;obtain⟨u,hu,ru⟩:=r.get hy
 have hy':its.toArray[its.toArray.size-1]?=some u:=by show its.toArray[its.length-1]?=some u;rw[<-Y3,<-hl];exact hu
 refine call_meets F.slot_list_pop ⟨_,e,rfl⟩ F.entry_list_pop (F.args_list_pop_1 _) (MeetsSeq.list_pop_last l its.toArray n u hy' (by rw[YV];lia)) ⟨e,?_⟩;refine⟨y,_,I.lset (its':=its.dropLast) hH e ?_ r.dropLast ?_,ru,q⟩
 ·show its.toArray.eraseIdxIfInBounds (its.toArray.size-1)=its.dropLast.toArray;rw[YV,List.eraseIdxIfInBounds_toArray,LW]
 ·rw[List.length_dropLast];lia
def Uz:R2:=λx y H Q=>∃l b xs zs,x=.ref l/\y=.ref b/\H l=some (.lst xs)/\H b=some (.lst zs)/\xs.length+zs.length<=sizeLine/\∀p,H p=none->Q (.ref p) (Aj H p (.lst (xs++zs)))
theorem LX:Fl X (binaryOp .Add) Uz:=by
 intro pins s σ H x y v u Q I rx ry h;obtain⟨l,b,xs,zs,rfl,rfl,hH,hB,hz,q⟩:=h;cases rx;cases ry;obtain⟨z,its,n,r,hl,e⟩:=I.lstM hH;obtain⟨z2,its2,n2,r2,hl2,e2⟩:=I.lstM hB;refine PySem.P.add_list e e2 ?_ (by rw[YV,YV];lia);have ea:its.toArray++its2.toArray=(its++its2).toArray:=by simp
 rw[ea];exact⟨.ref _,_,I.lnew (t':=s.toks) (r.append r2) (by rw[Xp];lia),rfl,q _ I.fresh⟩
def Si:R2:=λx y H Q=>∃l k xs,x=.ref l/\y=.int k/\H l=some (.lst xs)/\-(2^63)<=k/\k<2^63/\xs.length*k.toNat<=sizeLine /\
 ∀p,H p=none->Q (.ref p) (Aj H p (.lst (List.replicate k.toNat xs).flatten))
theorem Qa(xs:List α)(k:Nat):(List.replicate k xs).flatten.length=k*xs.length:=by
 induction k with
 |zero=>simp
 |succ k ih=>rw[Yk,ZA,Xp,ih,av,Nat.add_comm]
theorem G4:Fl X (binaryOp .Mult) Si:=by
 intro pins s σ H x y v u Q I rx ry h;obtain⟨l,k,xs,rfl,rfl,hH,h1,h2,hz,q⟩:=h;cases rx;obtain⟨t,rfl⟩:=ry;obtain⟨z,its,n,r,hl,e⟩:=I.lstM hH;have hlen:its.toArray.size*k.toNat<=sizeLine:=by rw[YV,<-hl];exact hz
 have hcap:¬its.toArray.size*k.toNat>(2^63-1)/8:=by
  have:(sizeLine:Nat)<=(2^63-1)/8:=by decide
  lia
 have hfit:¬(!Builtin.List.listFitsIndex k)=true:=by rw[fitsIndex_both h1 h2];exact X1
 have hlong:¬Builtin.List.listTooLong (its.toArray.size*k.toNat)=true:=by rw[J9 hlen];exact X1
 have hnew:List.foldl (λx1 x2=>x1++x2) #[] (List.replicate (if its.toArray.isEmpty=true then 0 else k.toNat) its.toArray)=(List.replicate k.toNat its).flatten.toArray:=by
  have f0:∀m:Nat,List.foldl (λx1 x2=>x1++x2) #[] (List.replicate m its.toArray)=(List.replicate m its).flatten.toArray:=λm=>by have:=IU its m [];rw[ap]at this;exact this
  rw[f0];cases its with
  |nil=>simp
  |cons a r'=>rw[qE (by simp)]
 refine wpAny_binaryOp_repeat_ref (T:="list") (U:="int") (by decide) ⟨_,e,rfl⟩ (λs'=>typeIs_int s' k t) noFill_list_mul F.fills_int_mul F.slot_int_rmul repeat_list F.slot_int_index.lookup
  (call_meets F.slot_int_rmul (typeIs_int s k t) F.entry_int_rmul (F.args_int_rmul_2 _ _) (int___rmul___int_list k t l its.toArray n)
   ⟨e,rfl,⟨_,e,rfl⟩,call_meets F.slot_list_mul ⟨_,e,rfl⟩ F.entry_list_mul (F.args_list_mul_2 _ _) (AutoListH.list___mul___list_int_3 l its.toArray n k t hfit hcap hlong) ⟨e,?_⟩⟩)
 rw[hnew];exact⟨.ref _,_,I.lnew (t':=s.toks) (r.rep k.toNat) (by rw[Qa,Yh];exact hz),rfl,q _ I.fresh⟩
end L2
namespace Att
open PySem PySem.W PySem.Calls PyProof.Rows
theorem ints_of_wellAll{P:Params}{h:Heap}:∀(ns:List Int) (vs:List Value),WellAll P h vs (ns.map WData.int)->IntsAre vs ns:=by
 intro ns
 induction ns with
 |nil =>
  intro vs w;rw[aU]at w;cases w;exact .nil
 |cons n ns ih =>
  intro vs w;rw[Yj]at w;cases w with
  |cons a b =>
   cases a;exact .cons _ _ (ih _ b)
theorem script_of{l:OpenLaw}{n:Nat}(hn:l.most=some n){P:Params}{h:Heap}{args:List WData}{vals:List Value}
  (hpre:l.row.toRowW.claim.pre args=true) (hwl:WellAll P h vals args):
  ∃a vs ns,vals=[Value.ref a]/\args=[WData.list (ns.map WData.int)]/\h.get? a=some {cls:=.type "list",data:=.seq vs.toArray}/\IntsAre vs ns/\ns.length<=n:=by
 have hsh:WShape.hasAll [] args [.list .int]=true:=(pre_splitW hpre).1;have hc:l.pre.holds [] {args:=args}=true:=(pre_splitW hpre).2;obtain⟨d,r,rfl,h1,h2⟩:=hasAllW_cons hsh;obtain rfl:=hasAllW_nil h2;obtain⟨xs,rfl,h3⟩:=hasW_list h1;obtain⟨ns,rfl⟩:=items_int h3
 have hlen:ns.length<=n:=by
  unfold OpenLaw.pre at hc
  have h4:(WTm.not (.lt (.lit (.int (n:Int))) (.len (.arg 0)))).holds [] {args:=[.list (ns.map .int)]}=true:=by have h4:=(holds_andW hc).1;rw[hn]at h4;exact h4
  have h5:=condW_of h4 (w_not (w_lt w_lit (w_len_list (w_arg rfl))));rw[Xk]at h5;refine Nat.le_of_not_lt λq=>?_;have q':(n:Int)<((ns.length:Nat):Int):=by lia
  first
   | (rw[qH q']at h5;exact qG h5 (by decide))
   | (simp at h5;lia)
 cases hwl with
 |cons w1 w2 =>
  cases w2;cases w1 with
  |list ho hall=>exact⟨_,_,ns,rfl,rfl,ho,ints_of_wellAll ns _ hall,hlen⟩
theorem post_true(l:OpenLaw)(args:List WData):l.row.toRowW.claim.post args (.bool true) args=true:=
 postW_of (r:=l.row.toRowW) (X:=(true==true))
  (show WShape.has [] (.bool true) .bool=true by first|rfl|decide|simp[WShape.has,WShape.arms,WShape.armsAll])
  (show (WTm.eq .res (.lit (.bool true))).value [] {args:=args,res:=some (.bool true),after:=args}=some (.bool (true==true)) from w_eq_bool (w_res rfl) w_lit) rfl
theorem attach_call{l:OpenLaw}{n:Nat}{q:Program}{loose:List Str}{XP:(Str->Option Value)->Heap->Prop}{YP:World->Heap->Prop}{d:DefRec}
  (hn:l.most=some n) (hdf:d.params.defaults=[])
  (call:∀(w:World) (s₀ s₁:Shared) (mg mb:Str->Option Value) (fa:Addr) (o:Obj) (pm cd doc:Value) (a:Addr) (vs:List Value) (ns:List Int),
   Ground q loose [] XP w s₀ mg mb s₁.heap->YP w s₁.heap ->
   s₁.heap.get? fa=some o->o.data=.func (docDef d.name d.params d.body d.scope pm cd doc)->s₁.heap.CodeRec cd d.name->mg d.name=some (.ref fa) ->
   s₁.heap.get? a=some {cls:=.type "list",data:=.seq vs.toArray}->IntsAre vs ns->ns.length<=n->s₁.gens=#[] ->
   codeAny (model l.prog w) callerA (.call (.ref fa) ⟨[.ref a],[]⟩) (λr s'=>r=.ok (.ret (.bool true))/\OldK s₁.heap s'.heap/\s'.os=s₁.os/\AllBare s'.gens) s₁):
  WalkO q loose XP YP l.row.toRowW d [] (λf vs=>PySem.call f vs):=by
 intro w s₀ s₁ mg mb G Y fa o pm cd doc dV kV ho hd hcd hD hmg hg args vals as hpre hlay hrd hwl hlo;obtain rfl:dV=.none:=Dflts.none hD hdf;obtain rfl:kV=.none:=Dflts.noKw hD;obtain⟨a,vs,ns,rfl,rfl,hobj,hints,hlen⟩:=script_of hn hpre hwl;refine enter_call (codeAny_mono (call w s₀ s₁ mg mb fa o pm cd doc a vs ns G Y ho (fd_plain hd) hcd hmg hobj hints hlen hg) λr s' hq=>?_);obtain⟨rfl,h2,h3,h4⟩:=hq;exact⟨.inl ⟨.bool true,.bool true,[],rfl,λ_=>rfl,.bool true,post_true l _,λ_=>⟨List.Pairwise.nil,λ_ hm=>(nomatch hm)⟩⟩,h2,h3,h4⟩
section
variable{prog:Program}{w:World}{A:Around}{E:Value->Shared->Prop}{s:Shared}{K:Frag}
end
end Att
namespace L2
open PySem PySem.Spec PyProof.Rows
variable{H H':Hp}{X:Cx}{a f:Addr}{an od:Option Addr}{cdv doc oc:Value}{fd:FuncData}{ps:List Str}{qual x:Str}{xs:List V}
theorem IW:∀{vs:List Value} {ns:List Int},IntsAre vs ns->Ao (ns.map V.int) vs
 |_,_,.nil=>.nil
 |_,_,.cons n t h=>.cons ⟨t,rfl⟩ (IW h)
def Qb(s:Stmt)(j:Nat):Stmt:=match s with
 |.ClassDef _ _ _ body _ _ _ _ _ _ _=>body.getD j (.Pass ⟨0,0,0,0⟩)
 |_=>.Pass ⟨0,0,0,0⟩
def DQ(s:Stmt):Arguments:=match s with
 |.FunctionDef _ a _ _ _ _ _ _ _ _=>a
 |_=>{posonlyargs:=[],args:=[],vararg:=none,kwonlyargs:=[],kw_defaults:=[],kwarg:=none,defaults:=[]}
def Bd(s:Stmt):List Stmt:=match s with
 |.FunctionDef _ _ b _ _ _ _ _ _ _=>b
 |_=>[]
def AH(s:Stmt):Scope:=match s with
 |.FunctionDef _ _ _ _ _ _ sc _ _ _=>sc
 |_=>{kind:=.function,names:=[],isGenerator:=false,isCoroutine:=false}
abbrev E0:XK:=λ_ _ _=>False
structure B1(K:qJ)(x qual:Str)(st:Stmt)(f:Addr)(fd:FuncData):Prop where
 ex:∃(oc:Value) (od:Option Addr) (kV doc pm:Value) (an:Option Addr) (cdv ct:Value) (osl:Array (Option Value)),
  fd=PySem.W.fnOf x qual (DQ st) (Bd st) (AH st) .none kV doc pm an cdv ct/\K.lookup f=some ⟨oc,od,.func fd,osl⟩/\PySem.W.codeIn K cdv qual=true
 kp:PySem.W.keepIn K (.ref f)=true
variable{osl:Array (Option Value)}
section
variable{P:Program}{w:World}{K:qJ}{mg:Str->Option Value}{base:Heap}
theorem B1.binds{st:Stmt}(F:B1 K x qual st f fd)
  (h:∀(kV doc pm:Value) (an:Option Addr) (cdv ct:Value) (us:List Value),us.length=ps.length->bindArgs (PySem.W.fnOf x qual (DQ st) (Bd st) (AH st) .none kV doc pm an cdv ct) ⟨us,[]⟩=pure (ps.zip us)):EL K fd ps []:=by
 obtain⟨oc,od,kV,doc,pm,an,cdv,ct,osl,rfl,lk,hcd⟩:=F.ex;exact .all (h kV doc pm an cdv ct)
theorem OY{st:Stmt}{kV pm ct:Value}(l:K.lookup f=some ⟨oc,od,.func (PySem.W.fnOf x qual (DQ st) (Bd st) (AH st) .none kV doc pm an cdv ct),osl⟩)
  (c:PySem.W.codeIn K cdv qual=true) (k:PySem.W.keepIn K (.ref f)=true):B1 K x qual st f (PySem.W.fnOf x qual (DQ st) (Bd st) (AH st) .none kV doc pm an cdv ct):=⟨⟨oc,od,kV,doc,pm,an,cdv,ct,osl,rfl,l,c⟩,k⟩
end
theorem Cj{A:Around}{k:Nat}(hr:Bs k A):A.units+1<cLine:=Y4 (Nat.add_le_add_left (by decide:1<=64) _) hr.units
theorem AZ{n:Nat}(h:n<=1000):n<sizeLine:=Y4 h (by decide)
theorem pv(i:Nat){pos:Pos}(hN:X.N[i]?=some x:=by rfl)(hv:Uf X.env.scope x:=by first|exact Or.inl rfl|exact Or.inr (Or.inl rfl)|exact Or.inr (Or.inr rfl))(hd:(x==("__debug__":Str))=false:=by decide)
  (hcd:(x==("__classdict__":Str))=false:=by decide):PE X (.Name x pos) (SN i):=SO hN hv hd hcd
theorem OZ{A B:Prop}(h:B):if false=true then A else B:=by rw[qE X1];exact h
theorem Sj{A B:Prop}(h:A):if true=true then A else B:=by rw[qF rfl];exact h
def AG(H H':Hp):Prop:=∀b o,H b=some o->H' b=some o
theorem AG.refl(H:Hp):AG H H:=λ_ _ h=>h
variable{H1 H2:Hp}
theorem AG.trans(a:AG H H1)(b:AG H1 H2):AG H H2:=λc o h=>b c o (a c o h)
theorem AG.free(e:AG H H'){l:Addr}(h:H' l=Option.none):H l=Option.none:=by
 cases q:H l with
 |none=>rfl
 |some o =>
  rw[e l o q]at h;cases h
theorem AG.seq{K:qJ}(e:AG H H')(h:Ad K H a xs):Ad K H' a xs:=by
 rcases h with (h|⟨o,h⟩)|h
 ·exact .inl (.inl (e _ _ h))
 ·exact .inl (.inr ⟨o,e _ _ h⟩)
 ·exact .inr h
end L2
set_option maxHeartbeats 4000000
set_option compiler.extract_closed false
set_option genSizeOfSpec false
namespace L2
open PySem PySem.Spec PyProof.Rows
variable{C a b dx f p:Addr}{CX:QK}{D:Gu}{E Q:Value->Shared->Prop}{H H':Hp}{X:Cx}{an od:Option Addr}{cdv doc oc u:Value}{ch:List Addr}{es:List Expr}{fd:FuncData}{h:Heap}{i t':Nat}{name qual x:Str}{o:HO}{osl:Array (Option Value)}{pins:List (Addr×Obj)}{ps:List Str}{s s':Shared}{scope:Scope}{ta:TA}{tg:Expr}{us:List Value}{xs:List V}{α β:Type}{σ:St}
noncomputable def EC(o:Obj):Option Value:=match o.data with
 |.fields vs=>vs[2]?
 |_=>none
def DK(h h':Heap):Prop:=h.objs.size<=h'.objs.size/\∀(b:Nat) (o o':Obj),h.objs[b]?=some o->h'.objs[b]?=some o'->o'.dict=o.dict/\EC o'=EC o
theorem DK.refl(h:Heap):DK h h:=⟨Xr _,λb o o' e e'=>by rw[e]at e';cases e';exact⟨rfl,rfl⟩⟩
theorem DK.trans{h1 h2 h3:Heap}(x:DK h1 h2)(y:DK h2 h3):DK h1 h3:=⟨YK x.1 y.1,λb o o' e e'=>by obtain⟨hb,_⟩:=Array.getElem?_eq_some_iff.mp e;have q:h2.objs[b]?=some (h2.objs[b]'(Xw hb x.1)):=Z3 (Xw hb x.1);exact⟨(y.2 b _ o' q e').1.trans (x.2 b o _ e q).1,(y.2 b _ o' q e').2.trans (x.2 b o _ e q).2⟩⟩
theorem Oa{o:Obj}(e:h.get? a=some o):h.objs[a]?=some o:=by
 unfold Heap.get? at e
 split at e
 ·cases e
 ·exact e
variable{h':Heap}
theorem DK.get{o o':Obj}(x:DK h h')(e:h.get? a=some o)(e':h'.get? a=some o'):o'.dict=o.dict/\EC o'=EC o:=x.2 a o o' (Oa e) (Oa e')
theorem DK.push(h:Heap)(o:Obj):DK h (h.push o):=by
 refine⟨?_,λb u u' e e'=>?_⟩
 ·rw[Yz];exact Zd _
 ·have hb:=(Array.getElem?_eq_some_iff.mp e).1;have q:(h.push o).objs[b]?=h.objs[b]?:=by show (h.objs.push o)[b]?=_;rw[Array.getElem?_push_lt hb,Z3 hb]
  rw[q,e]at e';cases e';exact⟨rfl,rfl⟩
theorem DK.update(h:Heap)(a:Addr){f:Obj->Obj}(k:∀o,(f o).dict=o.dict/\EC (f o)=EC o):DK h (h.update a f):=by
 have q:(h.update a f).objs=h.objs.modify a f:=rfl;refine⟨by rw[q,Array.size_modify];exact Xr _,λb u u' e e'=>?_⟩;rw[q,Array.getElem?_modify]at e'
 split at e'
 ·rw[e]at e';cases e';exact k u
 ·rw[e]at e';cases e';exact⟨rfl,rfl⟩
noncomputable def KT{α:Type}:Sem α->Prop
 |.rule _ k=>∀u,KT (k u)
 |.at _ k=>∀u,KT (k u)
 |.load _ _ k=>∀u,KT (k u)
 |.update _ _ f k=>(∀o,(f o).dict=o.dict/\EC (f o)=EC o)/\∀u,KT (k u)
 |.loadIfAlive _ k=>∀u,KT (k u)
 |.point _ k=>∀u,KT (k u)
 |.alloc _ k=>∀u,KT (k u)
 |.fresh k=>∀u,KT (k u)
 |.ask k=>∀u,KT (k u)
 |.handled _ k=>∀u,KT (k u)
 |.stack k=>∀u,KT (k u)
 |.thread k=>∀u,KT (k u)
 |.pure _=>True
 |.raise _=>True
 |.unsupported _=>True
 |.finish _=>True
 |_=>False
theorem KT.keep{M:Model}{Γ:PySem.Ctx}:∀(t:Sem α),KT t->∀(Q:α->Pos->Shared->Prop) (E:Value->Pos->Shared->Prop) (p:Pos) (s:Shared),Sem.wp M Γ t Q E p s ->
  Sem.wp M Γ t (λa p' s'=>Q a p' s'/\DK s.heap s'.heap) (λe p' s'=>E e p' s'/\DK s.heap s'.heap) p s:=by
 intro t
 induction t with
 |pure x=>exact λ_ Q E p s h=>⟨h,DK.refl _⟩
 |raise v=>exact λ_ Q E p s h=>⟨h,DK.refl _⟩
 |unsupported|finish=>exact λ_ Q E p s h=>h
 |yield|fork|await|register|choose|os|call|genState|newGen|resume=>exact λk=>k.elim
 |rule _ k ih|«at» _ k ih|point _ k ih|loadIfAlive _ k ih|fresh k ih|ask k ih|handled _ k ih|stack k ih|thread k ih=>exact λz Q E p s h=>ih _ (z _) Q E _ _ h
 |alloc o k ih=>exact λz Q E p s h=>Sem.wp_mono _ _ _ (λa p' s' q=>⟨q.1,(DK.push _ _).trans q.2⟩) (λa p' s' q=>⟨q.1,(DK.push _ _).trans q.2⟩) _ _ (ih _ (z _) Q E _ _ h)
 |load a _ k ih=>exact λz Q E p s ⟨o,ho,h⟩=>⟨o,ho,ih _ (z _) Q E _ _ h⟩
 |update a _ f k ih=>exact λz Q E p s ⟨ha,h⟩=>⟨ha,Sem.wp_mono _ _ _ (λa p' s' q=>⟨q.1,(DK.update _ _ z.1).trans q.2⟩) (λa p' s' q=>⟨q.1,(DK.update _ _ z.1).trans q.2⟩) _ _ (ih _ (z.2 _) Q E _ _ h)⟩
theorem KT.run{M:Model}{A:Around}{t:Sem α}{Q:α->Shared->Prop}(k:KT t)(h:wpAny M A t Q E s):
  wpAny M A t (λa s'=>Q a s'/\DK s.heap s'.heap) (λe s'=>E e s'/\DK s.heap s'.heap) s:=λΓ p hΓ=>KT.keep t k _ _ p s (h Γ p hΓ)
theorem KT.bind{m:Sem α}{f:α->Sem β}(a:KT m)(b:∀x,KT (f x)):KT (m >>= f):=by
 show KT (m.bind f)
 induction m with
 |pure x=>exact b x
 |raise v=>exact a
 |unsupported|finish=>exact a
 |yield|fork|await|register|choose|os|call|genState|newGen|resume=>exact a.elim
 |rule _ k ih|«at» _ k ih|point _ k ih|loadIfAlive _ k ih|fresh k ih|ask k ih|handled _ k ih|stack k ih|thread k ih|alloc _ k ih|load _ _ k ih=>exact λu=>ih u (a u)
 |update _ _ f' k ih=>exact⟨a.1,λu=>ih u (a.2 u)⟩
theorem KT.pure(x:α):KT (Pure.pure x:Sem α):=trivial
theorem KT.ite{c:Prop}[Decidable c]{a b:Sem α}(x:KT a)(y:KT b):KT (if c then a else b):=by split<;>assumption
theorem E5(x:String):KT (PySem.unsupported x:Sem α):=trivial
theorem JJ(a:Addr):KT (PySem.load a):=λ_=>trivial
theorem KA(v:Value):KT (fieldsOf v):=by
 unfold fieldsOf;split
 ·refine KT.bind (JJ _) λo=>?_;split
  ·exact KT.pure _
  ·exact E5 _
 ·exact E5 _
theorem FV(v:Value)(i:Nat):KT (field v i):=by
 unfold field;refine KT.bind (KA v) λo=>?_;split
 ·exact KT.pure _
 ·exact E5 _
theorem EM(v x:Value)(i:Nat)(hi:i≠2):KT (setField v i x):=by
 unfold setField;split
 ·unfold updateField;refine KT.bind (JJ _) λo=>?_;split
  ·refine KT.ite ⟨λo=>?_,λ_=>trivial⟩ (E5 _);obtain⟨c,d,dt,sl⟩:=o;cases dt with
   |fields vs=>exact⟨rfl,Array.getElem?_setIfInBounds_ne hi⟩
   |_=>exact⟨rfl,rfl⟩
  ·exact E5 _
 ·exact E5 _
theorem JK(e:Value)(f:Option Addr):KT (setFlight e f):=by unfold setFlight;refine KT.bind (FV _ _) λtb=>?_;exact KT.ite (EM _ _ _ (by decide)) (KT.pure _)
theorem G5:KT PySem.stack:=λ_=>trivial
theorem KB:∀l:List Env,KT (readyFrames l)
 |[]=>trivial
 |env::outer=>by
  unfold readyFrames;split
  ·refine KT.bind (JJ _) λo=>KT.ite (KT.pure _) ?_
   refine KT.bind ?_ λi=>KT.bind ?_ λback=>KT.bind ⟨λo=>⟨rfl,rfl⟩,λ_=>trivial⟩ λ_=>KB outer
   ·unfold behindIsImport;exact KT.ite (KT.pure _) (KT.ite (KT.pure _) (KT.bind (FV _ _) λ_=>KT.pure _))
   ·unfold keptBack;split
    ·refine KT.ite (KT.pure _) (KT.bind ?_ λ_=>KT.pure _);unfold underTheClaimsCaller;exact KT.bind G5 λ_=>KT.pure _
    ·exact KT.pure _
  ·exact E5 _
theorem LY(env:Env):KT (PySem.frameOf env):=by
 unfold PySem.frameOf frameEnvs;refine KT.bind (KT.bind G5 λ_=>KT.pure _) λl=>KT.bind ?_ λr=>?_
 ·unfold frameObject;split
  ·exact KT.pure _
  ·exact KT.bind (KB _) λ_=>KT.pure _
 ·split
  ·exact KT.pure _
  ·exact E5 _
theorem JL(ty:String)(vs:List Value):KT (newFields ty vs):=by
 unfold newFields newObj;dsimp only;split
 ·exact E5 _
 ·exact λ_=>trivial
theorem Ob(f:Addr)(b:Bool):KT (entryPlaceOf f b):=by
 unfold entryPlaceOf;refine KT.bind G5 λ_=>?_
 split<;>exact KT.pure _
theorem Qc(e:Value)(env:Env):KT (noteFrame e env):=by
 have last:∀h:Value,∀f:Addr,KT (do setField e 1 (<-EntryCells.newEntry h (<-PySem.frameOf env) .none (rawInt f) .none (<-entryPlaceOf f (h != .none)))):=λh f =>
  KT.bind (LY env) λ_=>KT.bind (Ob _ _) λ_=>KT.bind (JL _ _) λ_=>EM _ _ _ (by decide)
 unfold noteFrame;split
 ·refine KT.bind (FV _ _) λh=>?_;split
  ·refine KT.bind (FV _ _) λx=>KT.ite (KT.pure _) (KT.bind (EM _ _ _ (by decide)) λ_=>last h _)
  ·exact last h _
 ·exact E5 _
theorem FC(e:Value)(env:Env):KT (leaving env e):=by unfold leaving;exact KT.bind (Qc _ _) λ_=>JK _ _
structure U0(nc:Bool)(P:Program)(w:World)(outer:List Env)(H:Hp)(s:Shared)(a:Addr)(cls a0:Value)(D:Option Addr)(B:Heap)(H':Hp)(s':Shared):Prop where
 os:s'.os=s.os
 bare:AllBare s'.gens
 un:Un (Cq outer) [] H H' s.heap s'.heap
 hok:Dd P w H' s'.heap
 fly:Heap.FlyingW B outer a cls a0 s'.heap
 old:∀b o,s.heap.get? b=some o->b∉Cq outer->∀o',s'.heap.get? b=some o'->B.get? b=some o'
 trk:∀b u,H' b=some u->∀o',s'.heap.get? b=some o'->B.get? b=some o'
 dct:∃oe,s'.heap.get? a=some oe/\oe.dict=D
 ctx:nc=true->∃oe,s'.heap.get? a=some oe/\EC oe=some .none
def IX(nc:Bool)(P:Program)(w:World):QK:=λouter H s E e s'=>∃a cls a0 D B H',e=.ref a/\U0 nc P w outer H s a cls a0 D B H' s'/\E cls D H'
abbrev IY(P:Program)(w:World):QK:=IX false P w
theorem Aw.somewhere{P:Program}{w:World}(x:Aw P w H h a o):∃ob,h.get? a=some ob:=by
 cases o with
 |lst xs=>obtain⟨_,_,_,_,e⟩:=x;exact⟨_,e⟩
 |tup xs=>obtain⟨_,_,_,ob,e,_⟩:=x;exact⟨ob,e⟩
 |dK kvs=>obtain⟨_,_,_,_,ob,_,_,e,_⟩:=x;exact⟨ob,e⟩
 |dT kvs=>obtain⟨_,_,_,_,ob,_,_,e,_⟩:=x;exact⟨ob,e⟩
 |set S n=>obtain⟨ob,_,_,_,e,_⟩:=x;exact⟨ob,e⟩
 |ins C dx fs=>obtain⟨_,_,_,e,_⟩:=x;exact⟨_,e⟩
 |own y=>exact x
 |xd fs=>obtain⟨_,⟨ob,_,_,e,_⟩,_⟩:=x;exact⟨ob,e⟩
 |rng lo hi=>obtain⟨_,_,_,e⟩:=x;exact⟨_,e⟩
 |frz ob u=>obtain⟨e,_⟩:=x;exact⟨ob,e⟩
 |tbl ps=>exact⟨_,(show h.get? a=some _ from x)⟩
 |met f y=>exact⟨_,(show h.get? a=some _ from x)⟩
 |ext φ=>obtain⟨_,e,_⟩:=x;exact e
variable{nc:Bool}{cls:Value}
theorem AY.slotted(I:AY X pins σ H s)(k:∀b o,s.heap.get? b=some o->b∉Cq X.stack->h'.get? b=some o)
  (f:∀b o,s.heap.get? b=some o->b∈Cq X.stack->∃sl,h'.get? b=some {o with slots:=sl}):AY X pins σ H {s with heap:=h',toks:=t'}:=by
 have u:Un (Cq X.stack) [] H H s.heap h':=⟨λb o e _ hb _=>k b o e hb,λb o e _ hb _=>f b o e hb,λ_ _ _ n _=>n,λb o e _=>by
  by_cases hb:b∈Cq X.stack
  ·obtain⟨sl,q⟩:=f b o e hb;exact⟨_,q⟩
  ·exact⟨o,k b o e hb⟩,λ_ _ q=>q,λ_ _ _ q=>q,λb ps q=>⟨#[],by rw[q];simp⟩⟩
 have hok:Dd X.prog X.w H h':=λb u q=>(I.hok b u q).stay (λc v hc r=>k c v r λhm=>by
  have z:=I.stkFree c hm;rcases hc with e|e
  ·rw[e,q]at z;cases z
  ·rw[e]at z;cases z) (λ_ q=>q) λ_ _ q=>q
 exact I.call (g':=s.gens) (d':=s.drawn) (ch:=[]) u hok I.bare (λb z=>qG z (by simp))
theorem AY.frameData(I:AY X pins σ H s){o:Obj}(e:s.heap.get? b=some o)(hb:b∈Cq X.stack):∀vs,o.data≠.fields vs:=by obtain⟨_,o',e',nf⟩:=I.stack.mem hb;rw[e]at e';cases e';exact nf
theorem U0.unAt{a0:Value}{D:Option Addr}{B:Heap}(I:AY X pins σ H s)(F:U0 nc X.prog X.w X.stack H s a cls a0 D B H' s')(hB:B.StaysIn h')(sm:s'.heap.UpToSlots h'):
  Un (Cq X.stack) [] H H' s.heap h'/\Dd X.prog X.w H' h':=by
 have up:∀b o,s.heap.get? b=some o->b∈Cq X.stack->∃sl,h'.get? b=some {o with slots:=sl}:=λb o e hb=>by obtain⟨sl,e1⟩:=F.un.slot b o e (I.stkFree b hb) hb (by simp);obtain⟨sl',e2⟩:=sm b _ e1 (show ∀vs,o.data≠.fields vs from I.frameData e hb);exact⟨sl',e2⟩
 refine⟨⟨λb o e n hb hx=>hB b o (F.old b o e hb o (F.un.keep b o e n hb hx)),λb o e _ hb _=>up b o e hb,F.un.free,λb o e hx=>?_,F.un.tups,F.un.frzs,F.un.tbls⟩,λb u q=>?_⟩
 ·by_cases hb:b∈Cq X.stack
  ·obtain⟨sl,q⟩:=up b o e hb;exact⟨_,q⟩
  ·obtain⟨o',e1⟩:=F.un.there b o e hx;exact⟨o',hB b o' (F.old b o e hb o' e1)⟩
 ·refine (F.hok b u q).stay (λc v hc r=>?_) (λ_ q=>q) λ_ _ q=>q
  rcases hc with e|e
  ·subst e;exact hB c v (F.trk c u q v r)
  ·exact hB c v (F.trk c _ e v r)
theorem U0.land{a0:Value}{D:Option Addr}{B:Heap}(I:AY X pins σ H s)(F:U0 nc X.prog X.w X.stack H s a cls a0 D B H' s')(hB:B.StaysIn h')(sm:s'.heap.UpToSlots h'):AY X pins σ H' {s' with heap:=h',toks:=t'}:=by obtain⟨u,hok⟩:=F.unAt I hB sm;exact I.call' (s':={s' with heap:=h',toks:=t'}) (ch:=[]) F.os u hok F.bare (λb z=>qG z (by simp))
def EN(a:Addr)(cls:Value)(D:Option Addr)(n:Bool)(h:Heap):Prop:=∃o vs,h.get? a=some o/\o.cls=cls/\o.data=.fields vs/\o.dict=D/\(n=true->∃t:Addr,vs=#[.ref t,.none,.none,.none,.bool false,.none])
noncomputable def Mh(a:Addr)(cls:Value)(D:Option Addr)(n:Bool):HO:=.ext (EN a cls D n)
def Oc(X:Cx)(C:Value)(E:XK):Prop:=
 ∀(pins:List (Addr×Obj)) (σ:St) (H:Hp) (s:Shared) (h':Heap) (e:Addr) (args:List Value),AY X pins σ H s->Heap.MadeExcOf s.heap h' e C args->E C none H->X.xe (.ref e) {s with heap:=h'}
def Ek(CX:QK)(X:Cx)(E:St->XK):Prop:=∀(pins:List (Addr×Obj)) (σ:St) (H:Hp) (s:Shared) (e:Value) (s':Shared),AY X pins σ H s->CX X.stack H s (E σ) e s'->X.xe e s'
section
variable{P:Program}{w:World}{K:qJ}{mg:Str->Option Value}{base:Heap}{N:List Str}{cd:Value}{A:Around}{outer:List Env}{E:XK}
theorem BN{C:Value}:Oc (DX (IX nc P w) P w K mg base N qual scope f cd A outer s H E) C E:=by
 intro pins σ H1 s1 h1 e args I hx hE;generalize hX:DX (IX nc P w) P w K mg base N qual scope f cd A outer s H E=X at I⊢;have hst:X.stack=X.env::X.outer:=by rw[<-hX];rfl
 have hfr:X.env.frame=some X.env.locals:=by rw[<-hX];rfl
 have hxe:X.xe=λe s'=>wpAny (model P w) X.A (leaving X.env e) (λ_ s''=>IX nc P w X.outer X.H₀ X.s₀ E e s'') (λe' s''=>IX nc P w X.outer X.H₀ X.s₀ E e' s'') s':=by rw[<-hX];rfl
 have hex:X.ex=[]:=by rw[<-hX];rfl
 have hp:X.prog=P:=by rw[<-hX];rfl
 have hw:X.w=w:=by rw[<-hX];rfl
 subst hp hw;rw[hxe];have fr:=I.stack;have hin:∀env∈X.stack,∀b,env.frame=some b->b∈Cq X.stack:=λenv he b hb=>Z8.mpr ⟨env,he,hb⟩
 have fr':s1.heap.FunFrames (PySem.W.hideAll s1.heap (Cq X.stack)) (X.env::X.outer):=by rw[<-hst];exact PySem.W.funFrames_hide fr hin
 refine wpAny_mono (KT.run (FC _ _) (wpAny_leaves_madeW (Q:=λ_ s2=>∃h2 t,s2={s1 with heap:=h2}/\Heap.FlyingW (PySem.W.hideAll s1.heap (Cq X.stack)) X.outer e C (.ref t) h2/\h1.UpToSlots h2) (E:=λ_ _=>False) (base:=PySem.W.hideAll s1.heap (Cq X.stack)) (h:=s1.heap) (L:=X.env.locals) (by rw[<-hst];exact I.ok.frames) hfr (λb o q=>PySem.W.of_hideAll _ q) fr' hx λh2 t x1 x2 x3 x4=>⟨h2,t,rfl,x1,x4⟩)) (λ_ s2 q=>?_) λ_ _ q=>q.1.elim
 obtain⟨⟨h2,t,rfl,x1,x4⟩,dk⟩:=q;have kept:∀b o,s1.heap.get? b=some o->b∉Cq X.stack->h2.get? b=some o:=λb o q hb=>x1.1 b o (Y9 _ q hb)
 have J:AY X pins σ H1 {s1 with heap:=h2,toks:=s1.toks}:=I.slotted kept λb o q hb=>x4 b o (hx.keeps b o q) (I.frameData q hb)
 have un:Un (Cq X.outer) [] X.H₀ H1 X.s₀.heap h2:=by have z:=J.base;rw[hex]at z;exact z
 have hdc:∃oe,h2.get? e=some oe/\oe.dict=none:=by obtain⟨ob,hob,_⟩:=x1.there;obtain⟨t',he,_,_⟩:=hx.there;exact⟨ob,hob,(dk.get he hob).1.trans rfl⟩
 have hcx:∃oe,h2.get? e=some oe/\EC oe=some .none:=by obtain⟨ob,hob,_⟩:=x1.there;obtain⟨t',he,_,_⟩:=hx.there;exact⟨ob,hob,(dk.get he hob).2.trans rfl⟩
 refine⟨e,C,.ref t,none,_,H1,rfl,⟨J.os,J.bare,un,J.hok,x1,λb o q hb o' q'=>?_,λb u q o' q'=>?_,hdc,λ_=>hcx⟩,hE⟩
 ·obtain⟨o1,q1⟩:=I.base.there b o q (by rw[hex];simp)
  have hn:b∉Cq X.stack:=λz=>by
   rcases YA.mp (I.stkSub b z) with y|y
   ·exact qG (Xw (Xt q) I.ok.above) (by rw[y];exact YE _)
   ·exact hb y
  have q2:=kept b o1 q1 hn;rw[q']at q2;cases q2;exact Y9 _ q1 hn
 ·have hn:b∉Cq X.stack:=λz=>by
   have y:=I.stkFree b z;rw[q]at y;cases y
  obtain⟨o1,r⟩:=(I.hok b u q).somewhere;have q2:=kept b o1 r hn;rw[q']at q2;cases q2;exact Y9 _ r hn
theorem Ax:Ek (IX nc P w) (DX (IX nc P w) P w K mg base N qual scope f cd A outer s H E) (λ_=>E):=by
 intro pins σ H1 s1 e s2 I h;generalize hX:DX (IX nc P w) P w K mg base N qual scope f cd A outer s H E=X at I h⊢;have hst:X.stack=X.env::X.outer:=by rw[<-hX];rfl
 have hfr:X.env.frame=some X.env.locals:=by rw[<-hX];rfl
 have hxe:X.xe=λe s'=>wpAny (model P w) X.A (leaving X.env e) (λ_ s''=>IX nc P w X.outer X.H₀ X.s₀ E e s'') (λe' s''=>IX nc P w X.outer X.H₀ X.s₀ E e' s'') s':=by rw[<-hX];rfl
 have hex:X.ex=[]:=by rw[<-hX];rfl
 have hp:X.prog=P:=by rw[<-hX];rfl
 have hw:X.w=w:=by rw[<-hX];rfl
 subst hp hw;rw[hxe];obtain⟨a,cls,a0,D,B,H',rfl,F,hE⟩:=h;have fl:Heap.FlyingW B (X.env::X.outer) a cls a0 s2.heap:=by rw[<-hst];exact F.fly
 refine wpAny_mono (KT.run (FC _ _) (wpAny_leaves_onW (Q:=λ_ s3=>∃h3,s3={s2 with heap:=h3}/\Heap.FlyingW B X.outer a cls a0 h3/\s2.heap.UpToSlots h3) (E:=λ_ _=>False) (by rw[<-hst];exact I.ok.frames) hfr fl λh3 x1 x2=>⟨h3,rfl,x1,x2⟩)) (λ_ s3 q=>?_) λ_ _ q=>q.1.elim
 obtain⟨⟨h3,rfl,x1,x2⟩,dk⟩:=q;have J:AY X pins σ H' {s2 with heap:=h3,toks:=s2.toks}:=F.land I x1.1 x2;have un:Un (Cq X.outer) [] X.H₀ H' X.s₀.heap h3:=by have z:=J.base;rw[hex]at z;exact z
 have hdc:∃oe,h3.get? a=some oe/\oe.dict=D:=by obtain⟨ob,hob,_⟩:=x1.there;obtain⟨ow,hw,hwd⟩:=F.dct;exact⟨ob,hob,(dk.get hw hob).1.trans hwd⟩
 have hcx:nc=true->∃oe,h3.get? a=some oe/\EC oe=some .none:=λhnc=>by obtain⟨ob,hob,_⟩:=x1.there;obtain⟨ow,hw,hwd⟩:=F.ctx hnc;exact⟨ob,hob,(dk.get hw hob).2.trans hwd⟩
 refine⟨a,cls,a0,D,B,H',rfl,⟨J.os,J.bare,un,J.hok,x1,λb o q hb o' q'=>?_,λb u q o' q'=>?_,hdc,hcx⟩,hE⟩
 ·obtain⟨o1,q1⟩:=I.base.there b o q (by rw[hex];simp)
  have hn:b∉Cq X.stack:=λz=>by
   rcases YA.mp (I.stkSub b z) with y|y
   ·exact qG (Xw (Xt q) I.ok.above) (by rw[y];exact YE _)
   ·exact hb y
  obtain⟨o2,q2⟩:=F.un.there b o1 q1 (by simp);have q3:=F.old b o1 q1 hn o2 q2;have q4:=x1.1 b o2 q3;rw[q']at q4;cases q4;exact q3
 ·obtain⟨o2,q2⟩:=(F.hok b u q).somewhere;have q3:=F.trk b u q o2 q2;have q4:=x1.1 b o2 q3;rw[q']at q4;cases q4;exact q3
end
abbrev Ft:List Value:=[.type "ValueError",.type "Exception",.type "BaseException",.type "object"]
theorem Qd{K:qJ}{newId:String}{bmB:List Value}(kin:K.In h)(q:PySem.W.excIn K C bmB newId=true):
  ∃tl N nm qn bs dy sn sub ab col dd k0 k1 k2 k3 k5 mN,h.get? C=some (excClassObj nm qn C N bs tl dy sn sub ab col dd k0 k1 k2 k3 k5 newId)/\h.Ns N mN/\mN "__init__"=none/\OwnTail h bmB tl:=by
 unfold PySem.W.excIn at q
 split at q
 next dd cd sl ho =>
  split at q
  next C2 tl k0 k1 k2 k3 n k5 hm hs =>
   simp only[Bool.and_eq_true,beq_iff_eq,Bool.not_eq_true']at q;obtain⟨⟨⟨⟨⟨e1,e2⟩,e3⟩,e4⟩,e5⟩,e6⟩:=q;subst e1 e2;obtain⟨nm,bs,mro,N,qn,dy,sn,sub,ab,col,del⟩:=cd;dsimp only at hm e3 e5 e6;subst hm e3
   have e7:sl=#[k0,k1,k2,k3,some (.builtin n),k5]:=by obtain⟨l⟩:=sl;simp only at hs;rw[hs]
   subst e7;exact⟨tl,N,nm,qn,bs,dy,sn,sub,ab,col,dd,k0,k1,k2,k3,k5,_,kin _ _ ho,.of_isNs (PySem.W.isNs_of_in kin e5),PySem.W.nsMap_none_of_in kin e5 e6,PySem.W.tail_of_in kin e4⟩
  next=>cases q
 next=>cases q
def Od(C:Addr)(E:XK)(t:TA):TS:=λ_ σ H=>t σ H λvs H1=>vs.length<=sizeLine/\E (.ref C) none H1
section
variable{E:XK}{e:Expr}{t:TA}{np cpos pos:Pos}
theorem B2(hc:X.calm=true)(hC:PySem.W.excIn X.K C Ft "ValueError.__new__"=true)(hg:Gl X x)(hm:X.mg x=some (.ref C))(hx:Oc X (.ref C) E)(ha:PA X (e::es) t)
  (hdb:(x==("__debug__":Str))=false:=by decide) (he:starEach (e::es) X.env=(false,eval e X.env)::starEach es X.env:=by rfl) (hpl:(backTo cpos (starEach es X.env)).any (·.1)=false:=by rfl):
  PS X (.Raise (some (.Call (.Name x np) (e::es) [] cpos)) none pos) (Od C E t):=by
 intro pins s σ H D I h;obtain⟨tl,N,nm,qn,bs,dy,sn,sub,ab,col,dd,k0,k1,k2,k3,k5,mN,hO,hN,hni,T⟩:=Qd I.mod.kin hC;have FB:=Zw;have arg:=ha cpos pins s σ H _ I h;refine wpAny_Raise_call_subT (C:=C) (nm:=nm) (q:=qn) (N:=N) (bs:=bs) (bm:=tl) (hdct:=dy) (sn:=sn) (sub:=sub) (ab:=ab) (col:=col) (dd:=dd) (k0:=k0) (k1:=k1) (k2:=k2) (k3:=k3) (k5:=k5) FB (mN:=mN) (T.hasType FB.hasBase) (I.ok.hd hc) ?_ hni (FQ I hg hm ⟨rfl,?_⟩ hdb)
 ·rw[he];show (false||(backTo cpos (starEach es X.env)).any (·.1))=false;rw[hpl];rfl
 ·rw[he]at arg⊢;refine Calls.evalArgs_plain (BX arg λus s2 z9=>?_);obtain⟨vs,H2,I2,r,z,q⟩:=z9;exact⟨rfl,by rw[<-r.length];exact z,I2.bk _ _ hO,hN.keeps I2.bk,T.keeps I2.bk,λh2 a hq=>hx pins σ H2 s2 h2 a us I2 hq q⟩
end
def G6(sp:Sp)(dvs:List V)(E:St->XK)(t:TA):TE:=λσ H Q=>t σ H λvs H1=>sp (vs++dvs) H1 Q (E σ)
section
variable{k:Nat}{sp:Sp}{dvs:List V}{ds:List Value}{E:St->XK}{p pos:Pos}{e:Expr}{t:TA}
theorem KC(F:Ex X.prog X.w X.K X.mg X.base CX k f fd ps sp)(hr:Bs k X.A)(hg:Gl X x)(hm:X.mg x=some (.ref f))(hk:PySem.W.keepIn X.K (.ref f)=true)(hb:EL X.K fd ps ds)(hd:Ao dvs ds)(hx:Ek CX X E)
  (ha:PA X (e::es) t) (hdb:(x==("__debug__":Str))=false:=by decide) (he:starEach (e::es) X.env=(false,eval e X.env)::starEach es X.env:=by rfl) (hpl:(backTo pos (starEach es X.env)).any (·.1)=false:=by rfl):
  PE X (.Call (.Name x p) (e::es) [] pos) (G6 sp dvs E t):=by
 intro pins s σ H Q I h;refine wpAny_Call_Name_kw (FQ I hg hm ?_ hdb);refine PySem.W.callWith_K (h₀:=X.base) I.ok.mod.kin hk (BX (ha pos pins s σ H _ I h) λus s1 ⟨vs,H1,I1,r,q⟩=>⟨I1.kIn,?_⟩) he hpl;have r2:Ao (vs++dvs) (us++ds):=r.append hd;have hl:(us++ds).length=ps.length:=by rw[<-r2.length];exact F.len _ _ _ _ q
 refine wpAny_call (codeAny_mono (F.run X.A X.stack s1 H1 ⟨us,[]⟩ (us++ds) (vs++dvs) Q (E σ) hr I1.env0 (hb s1 us I1.kIn hl) r2 q) λrs s2 hq=>?_);rcases rs with er|fl
 ·exact hx pins σ H1 s1 er s2 I1 hq
 ·cases fl with
  |ret u=>exact I1.after hq
  |next=>exact False.elim hq
  |brk=>exact False.elim hq
  |cont=>exact False.elim hq
end
variable{sp:Sp}
section
variable{P:Program}{w:World}{K:qJ}{mg:Str->Option Value}{base:Heap}
theorem B1.okX{st:Stmt}{N:List Str}{k:Nat}(F:B1 K x qual st f fd)(S:AL N ps (AH st))(len:∀vs H Q E,sp vs H Q E->vs.length=ps.length)
  (hbody:∀(cdv:Value) (A:Around) (outer:List Env) (s:Shared) (H:Hp) (vs:List V) (Q:VK) (E:XK),Bs k (A.deeper (envOfC qual (AH st) s.heap.objs.size f cdv))->sp vs H Q E ->
   ∃t,Gd (DX (IX nc P w) P w K mg base N qual (AH st) f cdv A outer s H E) (Bd st) t/\t {nx:=λ_ H'=>Q .non H',rt:=Q} (Ci N vs) H):Ex P w K mg base (IX nc P w) (k+1) f fd ps sp:=by
 obtain⟨oc,od,kV,doc,pm,an,cdv,ct,osl,rfl,lk,hcd⟩:=F.ex;exact Rf lk hcd S len λA outer s H vs Q E hr hsp=>hbody cdv A outer s H vs Q E hr hsp
end
theorem PS.nox{st:Stmt}{t:TS}(h:PS X.nox st t):PS X st t:=λpins s σ H D I hw =>
 wpAny_mono (h pins s σ H D (I.wish _) hw) (λ_ _ q=>q.unwish) λ_ _ q=>q.elim
structure KD(K:qJ)(D:Addr):Prop where
 ci:(PySem.W.clsIn K D).isSome=true
 ga:PySem.W.findIn K (.ref D) "__getattribute__"=some (some (.builtin "BaseException.__getattribute__"))
 gn:PySem.W.findIn K (.ref D) "__getattr__"=some none
 ca:PySem.W.findIn K (.ref D) "__class__"=some (some (.builtin "object.__class__"))
 sg:PySem.W.specialIn K (.builtin "object.__class__") "__get__"=some (some (.builtin "getset_descriptor.__get__"))
 tk:PySem.W.takesIn K (.builtin "object.__class__")=some true
 mo:PySem.W.mroIn K D (.type "object")=some true
 mb:PySem.W.mroIn K D (.type "BaseException")=some true
section
variable{K:qJ}{D:Addr}{dy:Option Addr}{n:Bool}
theorem KD.isCls(c:KD K D){M:Model}(kin:K.In h):PySem.W.Looks M h (isType (.ref D)) true:=by
 have z:=c.ci;unfold PySem.W.clsIn at z
 split at z
 next ho =>
  intro A Q E s k q;unfold isType loadHead;exact qC (wpAny_loadPart (k _ _ (kin _ _ ho)) (qD q))
 next=>cases z
theorem EN.ty{M:Model}(x:EN a cls dy n h):PySem.W.Looks M h (typeOf (.ref a)) cls:=by obtain⟨o,vs,e,c,_⟩:=x;subst c;exact (PySem.W.Looks.ld e).andThen .now
theorem LZ{M:Model}{x:Value}{g:Value}(kin:K.In h)(h1:PySem.W.findIn K (.ref D) name=some (some u))(h2:PySem.W.specialIn K u "__get__"=some (some g))(h3:PySem.W.takesIn K u=some true):
  PySem.W.Looks M h (Builtin.ObjectAttr.find x (.ref D) name) (.bind g u):=by
 have a1:=Z0 (M:=M) kin h1;have a2:PySem.W.Looks M h (Builtin.ObjectAttr.getOf (some u)) (some g):=PySem.W.looks_specialIn kin h2;have a3:PySem.W.Looks M h (Builtin.ObjectAttr.dataDescriptor? (some u) (some g)) (some (g,u)):=(PySem.W.looks_takesIn (M:=M) kin h3).andThen .now;exact a1.andThen (a2.andThen (a3.andThen (PySem.W.Looks.tag .now)))
theorem Qe{prog:Program}{w:World}{A:Around}{R:Result->Shared->Prop}{tp:Value}(c:KD K D)(kin:K.In s.heap)(x:EN a (.ref D) dy n s.heap)(q:R (.ok (.ret (.ref D))) s):
  codeAny (model prog w) A (.call (.builtin "getset_descriptor.__get__") ⟨[.builtin "object.__class__",.ref a,tp],[]⟩) R s:=by
 obtain⟨hp,g,d,t,os⟩:=s;have a1:=x.ty (M:=model prog w);have a2:=PySem.W.looks_mroIn (M:=model prog w) kin c.mo;refine codeAny_call_builtin PySem.W.KF.slot_gs.plain PySem.W.KF.entry_gs (PySem.W.KF.slot_gs.check _ _ _ _ _ _ _ _ PySem.W.KF.type_class (PySem.W.KF.args_gs _ _ _) ?_)
 (unfold Builtin.«getset_descriptor.__get__» Builtin.Getset_descriptor.descrGet;rw[PySem.W.dga_obj];refine qC (qD ?_))
 (unfold Builtin.Getset_descriptor.descrGetter Builtin.Getset_descriptor.descrCheckInstance Builtin.Getset_descriptor.descrNameAndClass isInstance;simp only[PySem.W.KF.owner_class])
 repeat lk
 refine⟨Code.quiet_builtin _ (by decide +kernel),codeAny_builtin PySem.W.KF.entry_class ?_⟩
 (unfold Builtin.«object.__class__» shownTypeOf;repeat lk)
 exact q
theorem NZ{prog:Program}{w:World}{A:Around}{Q:Option Value->Shared->Prop}(c:KD K D)(kin:K.In s.heap)(x:EN a (.ref D) dy n s.heap)
  (q:Q (some (.ref D)) {s with toks:=s.toks+1}):wpAny (model prog w) A (getAttr? (.ref a) "__class__") Q E s:=by
 obtain⟨hp,g,d,t,os⟩:=s;have LT:=x.ty (M:=model prog w);have L1:=Z0 (M:=model prog w) kin c.ga;have L2:=Z0 (M:=model prog w) kin c.gn;have L3:=LZ (M:=model prog w) (x:=.ref a) kin c.ca c.sg c.tk;have L4:PySem.W.Looks (model prog w) hp (isInstance (.ref a) (.type "BaseException")) true:=LT.andThen (PySem.W.looks_mroIn kin c.mb);have FA:=PySem.F.excAttr_ValueError;unfold getAttr? getAttrBy? getAttrBy;refine qC (wpAny_mkText (qC (wpAny_attempt (wpAny_holding (qC (LT.at (qC (L1.at ?_))))))));show wpAny _ _ (getAttrByItsOwn _ _ _ _ _ _) _ _ _;unfold getAttrByItsOwn;refine qC (show wpAny _ _ (typeLookup (.ref D) "__getattr__") _ _ _ from L2.at ?_);refine qC (wpAny_attempt (wpAny_holding ?_));show wpAny _ _ (boundAndCalled _ _ _) _ _ _;unfold boundAndCalled;refine qC (wpAny_of_eq (FA.ga.bind _) ?_);refine wpAny_call (codeAny_call_builtin FA.ga.plain PySem.F.entry_bexc_ga ?_);have hk:builtinKind "BaseException.__getattribute__"=some .slot:=by decide +kernel
 have hsp:splitId "BaseException.__getattribute__"=some ("BaseException","__getattribute__"):=by decide +kernel
 have ha:=PySem.F.args_bexc_ga (.ref a) (.str "__class__" t);show wpAny _ _ (checkBuiltinCall "BaseException.__getattribute__" ⟨[.ref a,.str "__class__" t],[]⟩) _ _ _;simp only[checkBuiltinCall,hk,hsp];refine qC (L4.at ?_)
 repeat (any_goals (first|assumption|wp_step))
 obtain⟨o,vs,eo,co,vo⟩:=id x;refine wpAny_loadPart eo ?_;refine qD ?_;rw[co];refine qC (L3.at ?_);show wpAny _ _ (call (.builtin "getset_descriptor.__get__") [.builtin "object.__class__",.ref a,.ref D] >>= λv=>ret v) _ _ _;refine qC (wpAny_call (Qe c kin ⟨o,vs,eo,co,vo⟩ ?_));refine qD ?_;show wpAny _ _ (handedOut (.ref D)) _ _ _;exact qD (qD q)
theorem KE(c:KD K D):PySem.W.KitX K (.ref a) (.ref D) (EN a (.ref D) dy n) where
 ty:=λ_ _ _ x=>x.ty
 it:=λ_ _ kin _=>c.isCls kin
 ne:=λh tp dd its n sl kin htp=>by
  refine Bool.eq_false_iff.mpr λq=>?_;have e:D=tp:=Value.ref.inj (beq_iff_eq.mp q);subst e;have z:=c.ci;unfold PySem.W.clsIn at z
  split at z
  next ho =>
   have y:=(kin _ _ ho).symm.trans htp;cases y
  next=>cases z
 ca:=λkin x q=>NZ c kin x q
end
inductive Ub(K:qJ)(H:Hp):V->Value->Prop where
 |of {x:V} {t:Value} (h:Fo K H x t):Ub K H x t
 |exc {a D:Addr} {dy:Option Addr} {n:Bool} (e:H a=some (Mh a (.ref D) dy n)) (c:KD K D):Ub K H (.ref a) (.ref D)
noncomputable def Qf:V->Option Value
 |.ty n=>some (.type n)
 |.ref a=>some (.ref a)
 |_=>none
noncomputable def Sk(K:qJ):List V->Hp->VK->Prop
 |[x,c],H,Q=>∃t u b,Ub K H x t/\Qf c=some u/\PySem.W.kitOne K t u=some b/\Q (.bl b) H
 |_,_,_=>False
theorem Oe:E3 X (.builtin "isinstance") (Sk X.K):=by
 intro pins s σ H xs us Q I rv h
 match xs,h with
 |[x,c],h =>
 obtain⟨t,u,b,ty,rc,k,q⟩:=h;obtain⟨v1,v2,rfl,r1,r2⟩:=Mb rv
 have e:v2=u:=by
  cases c with
  |ty n=>cases rc;exact r2
  |ref a=>cases rc;exact r2
  |_=>cases rc
 subst e;cases ty with
 |of ty=>exact NW I r1 ty k λtk=>⟨.bl b,H,I.tok tk,rfl,q⟩
 | @exc a D dy n e ck =>
  cases (show v1=Value.ref a from r1);obtain⟨x,_,_⟩:=(show Aw X.prog X.w H s.heap a (.ext (EN a (.ref D) _ _)) from I.hok a _ e);exact Yt (KE ck) I.kIn x k (λz=>nomatch z) λtk=>⟨.bl b,H,I.tok tk,rfl,q⟩
variable{items:Array Value}
section
variable{prog:Program}{w:World}{A:Around}
theorem Na:typeLookup (.type "list_reverseiterator") "__len__"=pure none:=by rw[typeLookup_type,builtinLookup_eq_fast];kernel_rfl
theorem Of:typeLookup (.type "list_reverseiterator") "__length_hint__"=pure (some (.builtin "list_reverseiterator.__length_hint__")):=by rw[typeLookup_type,builtinLookup_eq_fast];kernel_rfl
theorem Og{I:Addr}{Q:Bool->Shared->Prop}(hT:s.TypeIs (.ref I) "list_reverseiterator")(q:Q false s):wpAny (model prog w) A (Builtin.List.listLengthHint (.ref I)) Q E s:=by
 unfold Builtin.List.listLengthHint;refine qC (wpAny_specialOf hT Na ?_);show wpAny _ A (specialOf (Value.ref I) (Str.ofString "__length_hint__") >>= _) _ _ _;refine qC (wpAny_specialOf hT Of ?_);generalize hz:("list_reverseiterator.__length_hint__":String)=zz
 wp_delta
 rw[show splitId zz=some ("list_reverseiterator","__length_hint__") from by subst hz;decide +kernel];subst hz;refine qC (wpAny_isInstance (b:=true) hT (by rw[isSubtype_type];kernel_rfl) ?_);exact qD q
theorem KG{I l:Addr}{Q:Value->Shared->Prop}(hh:A.handled=none)(hIl:l≠I)(hit:s.heap.IsRevIter I l ((items.size:Int)-1))(hl:s.heap.IsList l items)(hz:items.size<=sizeLine)
  (hQ:∀h' tk c' acc,(∀b o,b≠I->s.heap.get? b=some o->h'.get? b=some o)->h'.get? s.heap.objs.size=some {cls:=.type "list",dict:=none,data:=.seq acc c',slots:=#[]} ->
   acc.toList=items.toList.reverse->Q (.ref s.heap.objs.size) {s with heap:=h',toks:=tk}):wpAny (model prog w) A (call (.type "list") [.ref I]) Q E s:=by
 have W:=(Walks.listRev (prog:=prog) (w:=w) (A:=A.in1.in1) hh I l hIl items).toS;have hIlt:I<s.heap.objs.size:=by obtain⟨o,e,_⟩:=hit;exact Xt e
 have hllt:l<s.heap.objs.size:=by obtain⟨o,e,_⟩:=hl;exact Xt e
 refine callType_codes (Q₁:=λobj s₁=>obj=.ref s.heap.objs.size/\s₁={s with heap:=s.heap.push {cls:=.type "list",data:=.seq #[]}}) PySem.F.called_list (PySem.F.typeCall_list_1 _) PySem.F.entry_list_init
  (code_list_new _ ⟨rfl,rfl⟩) λobj s₁ h₁=>?_
 obtain⟨rfl,rfl⟩:=h₁;have hS:(s.heap.push {cls:=.type "list",data:=.seq #[]}).get? s.heap.objs.size=some {cls:=.type "list",data:=.seq #[]}:=Xz _ rfl;refine⟨⟨_,hS,rfl⟩,PySem.F.args_list_init_2 _ _,?_⟩;show wpAny _ _ (do let old <-Builtin.List.listItems (.ref s.heap.objs.size);Builtin.List.listUpdate (.ref s.heap.objs.size) (λ_=>#[]);letGo old.toList.reverse;Builtin.List.listExtendWith (.ref s.heap.objs.size) (.ref I) .none) _ _ _;refine qC ?_;unfold Builtin.List.listItems;refine qC (wpAny_seqItems hS rfl (qD ?_));show wpAny _ _ (updateSeq s.heap.objs.size (λ_=>#[]) >>= λ_=>letGo (#[]:Array Value).toList.reverse >>= λ_=>Builtin.List.listExtendWith (.ref s.heap.objs.size) (.ref I) .none) _ _ _;refine qC (wpAny_updateSeq hS rfl ?_);have hS2:=ZO (Obj.mapSeq (λ_=>(#[]:Array Value))) hS rfl
 have kp:∀b o,s.heap.get? b=some o->((s.heap.push {cls:=.type "list",data:=.seq #[]}).update s.heap.objs.size (Obj.mapSeq (λ_=>(#[]:Array Value)))).get? b=some o:=
  λb o e=>(ZL _ _ (Zm (Xt e))).trans (Xn _ e)
 refine qC (wpAny_letGo ?_);have hit2:=hit.at λo e=>kp I o e
 have hl2:=hl.at λo e=>kp l o e
 unfold Builtin.List.listExtendWith;refine qC (wpAny_typeOf (T:="list_reverseiterator") hit2.typeIs ?_);have h1:Builtin.List.listSameRef (.ref s.heap.objs.size) (.ref I)=false:=by simp[Builtin.List.listSameRef,Nat.ne_of_gt hIlt]
 rw[qE (by rw[h1];decide)];refine qC (wpAny_pyIter_revIter hit2 ?_);refine qC (wpAny_holding (Og hit2.typeIs ?_));rw[qE (by decide)]
 have nf:s.heap.objs.size∉[I,l]:=by simp only[List.mem_cons,List.not_mem_nil,or_false,not_or];exact⟨Zm hIlt,Zm hllt⟩
 refine qD ⟨plainId_quiet PySem.F.plain_extend_loop _,codeAny_extend_loopS W hz _ nf _ items.size 0 _ _ _ rfl (Nat.zero_le _) ⟨Nat.zero_le _,by simpa using hit2,hl2⟩ hS2 (ItemsOf.nil _) λs' acc c' hm hS' hacc=>?_⟩;refine⟨rfl,?_⟩;rw[Moved.eq_with hm];refine hQ s'.heap s'.toks c' acc (λb o hb e=>hm.heap b o (λz=>?_) (kp b o e)) hS' ?_
 ·rcases YA.mp z with z|z
  ·exact qG (Xt e) (by rw[z];exact YE _)
  ·exact hb (Xl.mp z)
 ·apply Zt;intro i
  by_cases hi:i<items.size
  ·have hi2:i<acc.size:=by rw[hacc.1];exact hi
   have p:=hacc.2 i acc[i] (Z3 hi2);rw[List.getElem?_reverse (by simpa using hi),Array.getElem?_toList,Array.getElem?_eq_getElem hi2,Array.getElem?_toList,Array.length_toList];exact p.symm
  ·rw[ZP (by rw[YF,hacc.1];lia),ZP (by rw[ZB,YF];lia)]
end
noncomputable def U1(K:qJ)(a:Addr)(n:Nat):It:=
 ⟨λi H=>i<n/\∃xs,Ad K H a xs/\xs.length=n,λi H x H'=>H'=H/\∀xs,Ad K H a xs->xs.reverse[i]?=some x,λi _=>i=n⟩
theorem Oh{P:Program}{w:World}{K:qJ}(a it:Addr)(n:Nat):IH P w K tg (U1 K a n) [it] it (λi h=>i<=n/\h.IsRevIter it a ((n:Int)-1-(i:Int))) where
 mem:=by simp
 obj:=λi h st b hb=>by
  have e:b=it:=by simpa using hb
  subst e;obtain⟨_,o,e,c,d⟩:=st;exact⟨o,e,λv z=>by rw[d]at z;cases z⟩
 keep:=λi h h' st k=>⟨st.1,st.2.at λo e=>k it (by simp) o e⟩
 item:=by
  intro X hP hw hK hc i pins s σ H E I hf st hg;subst hP hw hK;obtain⟨hi,xs,hq,hn⟩:=hg;obtain⟨its,rv,p,hz⟩:=I.list hq;have hlen:=rv.length;obtain⟨f0,f1,f2,f3,f4,f5⟩:=hf it (by simp);have e:(n:Int)-1-(i:Int)=((n-1-i:Nat):Int):=by lia
  have hit:=st.2;rw[e]at hit;have hx:xs[n-1-i]?=some (xs[n-1-i]'(by lia)):=Xs (by lia);obtain⟨u,hu,ru⟩:=rv.get hx;refine wpAny_pyNext_rev_item hit p.isList (x:=u) (by simpa using hu) λh' st' sb=>?_;have I1:AY X pins σ H {s with heap:=h'}:=I.turned (t':=s.toks) (λb o hb e=>(sb.2 b hb).trans e) f0 f1 f3 f4 f5;obtain⟨o,e,c,d⟩:=id st'
  have st2:i+1<=n/\h'.IsRevIter it a ((n:Int)-1-((i+1:Nat):Int)):=⟨hi,by
   have e2:((n-1-i:Nat):Int)-1=(n:Int)-1-((i+1:Nat):Int):=by lia
   rw[<-e2];exact st'⟩
  refine⟨u,rfl,IQ (s:={s with heap:=h'}) e c d (by decide) ⟨_,H,I1,ru,⟨rfl,λys hy=>?_⟩,st2,λb hb=>(hf b hb).1⟩⟩;rw[I.list_inj hy hq,aV (by lia),<-hx]
  congr 1
  lia
 done:=by
  intro X hP hw hK hc i pins s σ H E I hf st hg;subst hP hw hK;obtain⟨f0,f1,f2,f3,f4,f5⟩:=hf it (by simp);have hg':i=n:=hg;subst hg';have hit:=st.2;have e:(i:Int)-1-(i:Int)=-1:=by lia
  rw[e]at hit;exact wpAny_pyNext_rev_end (I.ok.hd hc) hit λh' eb=>⟨rfl,I.turned (t':=s.toks) (λb o hb e=>eb b o hb e) f0 f1 f3 f4 f5⟩
 self:=λ_ _ _ _ _ st h=>wpAny_pyIter_revIter st.2 h
def Wv(K:qJ)(ta:TA):TI:=λσ H R=>ta σ H λvs H1=>∃a xs,vs=[.ref a]/\Ad K H1 a xs/\R (U1 K a xs.length) H1
theorem Sl{l:Expr}{p pos:Pos}(hg:Gl X "reversed")(hm:X.mg "reversed"=none)(ha:PA X [l] ta)(hs:starEach [l] X.env=[(false,eval l X.env)]:=by rfl):PI X tg (.Call (.Name "reversed" p) [l] [] pos) (Wv X.K ta):=by
 intro pins s σ H R I h;refine Call_ (CD I hg hm boot_reversed (YR (BX (ha pos pins s σ H _ I h) λus s1 z9=>?_) hs rfl));obtain⟨vs,H1,I1,r1,q1⟩:=z9;obtain⟨a,xs,e,hq,q⟩:=q1;subst e;cases r1 with
 |cons r rr =>
  cases rr;cases r;obtain⟨its,rv,pl,hz⟩:=I1.list hq;have hlen:=rv.length;refine call_reversed_list pl.isList ?_;have I2:AY X pins σ H1 {s1 with heap:=s1.heap.push (revObj a ((its.toArray.size:Int)-1)),toks:=s1.toks}:=I1.kept λb o e=>Xn _ e
  have st:(s1.heap.push (revObj a ((its.toArray.size:Int)-1))).IsRevIter s1.heap.objs.size a ((xs.length:Int)-1-((0:Nat):Int)):=by
   have e:((xs.length:Int)-1-((0:Nat):Int))=(its.toArray.size:Int)-1:=by rw[YV,hlen];lia
   rw[e];exact⟨_,Xz _ rfl,rfl,rfl⟩
  refine wpAny_pyIter_revIter st ?_;refine⟨s1.heap.objs.size,[s1.heap.objs.size],_,_,H1,rfl,I2,Oh a _ xs.length,⟨YS _,st⟩,λb hb=>?_,q⟩;have e:b=s1.heap.objs.size:=by simpa using hb
  subst e;exact I1.fpOk (Xr _) (I1.hok.fresh (Xr _))
theorem Qg{K:qJ}{g:TG}{tb:TS}(Pv:Nat->St->Hp->Prop)(h0:Pv 0 σ H)(hl:∀i σ H,i<=xs.length->Pv i σ H->Ad K H a xs)
  (hs:∀i x σ H,xs.reverse[i]?=some x->Pv i σ H->g x σ H λσ2 H2=>tb {D with nx:=Pv (i+1),ct:=Pv (i+1),bk:=D.nx} σ2 H2) (hd:∀σ H,Pv xs.length σ H->D.nx σ H):
  ∃W:Nat->Nat->St->Hp->Prop,(∃m,W 0 m σ H)/\∀i m σ H,W i m σ H ->
   ((U1 K a xs.length).stop i H/\D.nx σ H)\/((U1 K a xs.length).go i H/\∃N:St->Hp->Prop,(∀σ' H',N σ' H'->∃m',m'<m/\W (i+1) m' σ' H')/\∀x H',(U1 K a xs.length).yld i H x H'->g x σ H' λσ2 H2=>tb {D with nx:=N,ct:=N,bk:=D.nx} σ2 H2):=by
 refine⟨λi m σ H=>m=xs.length-i/\i<=xs.length/\Pv i σ H,⟨xs.length,by simp,Nat.zero_le _,h0⟩,?_⟩;rintro i m σ H ⟨rfl,hi,p⟩;have q:=hl i σ H hi p
 by_cases hlt:i<xs.length
 ·refine .inr ⟨⟨hlt,xs,q,rfl⟩,Pv (i+1),λσ' H' p'=>⟨xs.length-(i+1),by lia,rfl,hlt,p'⟩,λx H' y=>?_⟩;obtain⟨e,y⟩:=y;subst e;exact hs i x σ _ (y xs q) p
 ·have e:i=xs.length:=by lia
  subst e;exact .inl ⟨rfl,hd σ H p⟩
def Ri(K:qJ)(ta:TA):TE:=λσ H Q=>ta σ H λvs H1=>∃a xs,vs=[.ref a]/\Ad K H1 a xs/\∀p,H1 p=none->Q (.ref p) (Aj H1 p (.lst xs.reverse))
theorem JM{l:Expr}{p1 p2 pos1 pos2:Pos}(hc:X.calm=true)(hg:Gl X "reversed")(hm:X.mg "reversed"=none)(hg2:Gl X "list")(hm2:X.mg "list"=none)(ha:PA X [l] ta)(hs:starEach [l] X.env=[(false,eval l X.env)]:=by rfl)
  (hs2:starEach [.Call (.Name "reversed" p1) [l] [] pos1] X.env=[(false,eval (.Call (.Name "reversed" p1) [l] [] pos1) X.env)]:=by rfl):
  PE X (.Call (.Name "list" p2) [.Call (.Name "reversed" p1) [l] [] pos1] [] pos2) (Ri X.K ta):=by
 intro pins s σ H Q I h;refine Call_ (CD I hg2 hm2 Zi (YR (T:="list") ?_ hs2 rfl));rw[hs2];show wpAny _ _ (spliced ((false,eval (.Call (.Name "reversed" p1) [l] [] pos1) X.env)::[])) _ _ s;refine Calls.spliced_cons (Call_ (CD I hg hm boot_reversed (YR (BX (ha pos1 pins s σ H _ I h) λus s1 z9=>?_) hs rfl)));obtain⟨vs,H1,I1,r1,q1⟩:=z9;obtain⟨a,xs,e,hq,q⟩:=q1;subst e;cases r1 with
 |cons r rr =>
  cases rr;cases r;obtain⟨its,rv,pl,hz⟩:=I1.list hq;have hlen:=rv.length;refine call_reversed_list pl.isList ?_;refine Calls.spliced_nil ?_;have ne:a≠s1.heap.objs.size:=by obtain⟨o,e,_⟩:=pl.isList;exact YW (Xt e)
  have hL:(s1.heap.push (revObj a ((its.toArray.size:Int)-1))).IsList a its.toArray:=pl.isList.at λo e=>Xn _ e
  refine KG (s:={s1 with heap:=s1.heap.push (revObj a ((its.toArray.size:Int)-1))}) (I.ok.hd hc) ne ⟨_,Xz _ rfl,rfl,rfl⟩ hL (by rw[YV,<-hlen];exact hz) λh' tk c' acc kp hD hacc=>?_;have kp2:∀b o,s1.heap.get? b=some o->h'.get? b=some o:=λb o e=>kp b o (YW (Xt e)) (Xn _ e)
  have hf:H1 (s1.heap.push (revObj a ((its.toArray.size:Int)-1))).objs.size=none:=I1.hok.fresh (by rw[Yz];lia);have rv2:Ao xs.reverse acc.toList:=by rw[hacc];simpa using rv.reverse
  refine⟨.ref _,_,I1.laid (t':=tk) kp2 (by rw[Yz];lia) ?_,rfl,q _ hf⟩;exact⟨by rw[List.length_reverse];exact hz,acc.toList,c',rv2,by simpa using hD⟩
def U2(K:qJ):R2:=λx y H Q=>∃(a b:Addr) (ns ms:List Int),x=.ref a/\y=.ref b/\Ad K H a (ns.map V.int)/\Ad K H b (ms.map V.int)/\Q (.bl (decide (ns=ms))) H
theorem G7(hu:X.A.units+64<cLine):Fl X (compareOp .Eq) (U2 X.K):=by intro pins s σ H x y v u Q I rx ry h;obtain⟨a,b,ns,ms,rfl,rfl,ha,hb,q⟩:=h;cases rx;cases ry;obtain⟨va,ra,pa,_⟩:=I.list ha;obtain⟨vb,rb,pb,_⟩:=I.list hb;exact PySem.W.eq_intsK pa.isList (Gy ra) pb.isList (Gy rb) hu ⟨.bl _,H,I,rfl,q⟩
theorem Sm{P:Program}{w:World}{K:qJ}{mg:Str->Option Value}{base:Heap}{N:List Str}{cd:Value}{A:Around}{outer:List Env}{E:XK}:(DX CX P w K mg base N qual scope f cd A outer s H E).K=K:=rfl
theorem Rj{P:Program}{w:World}:Ek (IY P w) X (λ_=>E0):=λ_ _ _ _ _ _ _ ⟨_,_,_,_,_,_,_,_,h⟩=>h.elim
theorem AG.new(h:H p=none)(o:HO):AG H (Aj H p o):=λb u q=>by rw[AK (Al q h)];exact q
theorem Dg{q:Addr}(h:Aj H p o q=none):q≠p/\H q=none:=by
 have ne:q≠p:=λz=>by rw[z,AC]at h;cases h
 rw[AK ne]at h;exact⟨ne,h⟩
theorem Rk{n:Nat}(h:n<=1000):n<=sizeLine:=ZF (AZ h)
section
variable{pos p:Pos}{a c:Expr}{ta tc:TE}
theorem GK{n:String}(hg:Gl X x)(hm:X.mg x=none)(hv:bootBuiltins x=some (.type n))(hn:x≠"__name__":=by decide)(hd:(x==("__debug__":Str))=false:=by decide):PE X (.Name x pos) (tC (.ty n)):=
 QQ (v:=.ty n) hg hm hv rfl hn hd
theorem Oi{i:Int}{t:Tok}(hg:Gl X x)(hm:X.mg x=some (.int i t))(hd:(x==("__debug__":Str))=false:=by decide):PE X (.Name x pos) (tC (.int i)):=QP (v:=.int i) hg hm ⟨t,rfl⟩ hd
theorem Fu(hg:Gl X "isinstance")(hm:X.mg "isinstance"=none)(ha:PE X a ta)(hc:PE X c tc)(h1:starEach [a,c] X.env=(false,eval a X.env)::starEach [c] X.env:=by rfl)(h2:starEach [c] X.env=(false,eval c X.env)::starEach [] X.env:=by rfl)
  (h3:(backTo pos (starEach [c] X.env)).any (·.1)=false:=by rfl):PE X (.Call (.Name "isinstance" p) [a,c] [] pos) (Uu (Sk X.K) (Az ta (Az tc DN))):=
 AV Oe hg hm PyProof.Rows.boot_isinstance (AA ha (AA hc AB h2) h1) (by decide) (by decide) h1 h3
end
theorem Ck{t u:TS}(Z:St->Hp->Prop)(h1:∀N:St->Hp->Prop,(∀σ' H',Z σ' H'->N σ' H')->t {D with nx:=N} σ H)(h2:∀σ' H',Z σ' H'->u D σ' H'):ON t u D σ H:=h1 (u D) h2
noncomputable def DO(ns:List Int)(lo hi:Option Int):List Int:=(ns.drop (HT.FU ns.length 0 lo)).take (HT.FU ns.length ns.length hi-HT.FU ns.length 0 lo)
theorem EO(ns:List Int)(lo hi:Option Int):Gz (ns.map V.int) lo hi=(DO ns lo hi).map V.int:=by unfold Gz DO;rw[Xk,List.map_take,List.map_drop]
theorem Oj(k:Nat)(v:V):(List.replicate k [v]).flatten=List.replicate k v:=by
 induction k with
 |zero=>rfl
 |succ k ih=>rw[Yk,ZA,ih,Yk];rfl
def Ab(K:qJ)(x:Str)(st:Stmt)(f:Addr):Prop:=(∃fd,B1 K x x st f fd)/\PySem.W.nsIn K mainGlobals x=some (some (.ref f))
theorem Ac{K:qJ}{st:Stmt}{kV pm ct:Value}(a:PySem.W.nsIn K mainGlobals x=some (some (.ref f)))
  (l:K.lookup f=some ⟨oc,od,.func (PySem.W.fnOf x x (DQ st) (Bd st) (AH st) .none kV doc pm an cdv ct),osl⟩) (c:PySem.W.codeIn K cdv x=true) (k:PySem.W.keepIn K (.ref f)=true):Ab K x st f:=
 ⟨⟨_,OY l c k⟩,a⟩
theorem AY.storedNew{y:Str}{v:V}{D:Addr}{m:Str->Option Value}(I:AY X pins σ H s)(hN:X.N.Nodup)(hi:X.N[i]?=some y)(hl:X.env.scope.names.lookup y=some .local)(r:Aq v u)
  (hm:s.heap.Ns X.env.locals m) (hmv:∀(j:Nat) (z:Str) (v:V),X.N[j]?=some z->σ[j]?=some (some v)->Uf X.env.scope z->∃u,Aq v u/\Ug X.env s.heap m z u)
  (hn:h'.Ns X.env.locals λz=>if z=y then some u else m z) (k:∀b o,b≠X.env.locals->s.heap.get? b=some o->h'.get? b=some o)
  (hD:s.heap.get? D=none) (new:Aw X.prog X.w (Aj H D o) h' D o):AY X pins (σ.set i (some v)) (Aj H D o) {s with heap:=h',toks:=t'}:=by
 have away:∀b ob,X.s₀.heap.get? b=some ob->b≠X.env.locals:=λb ob e=>YW (Xw (Xt e) I.ok.above)
 have neD:∀b ob,s.heap.get? b=some ob->b≠D:=λb ob e z=>by rw[z,hD]at e;cases e
 have nD:H D=none:=by
  cases q:H D with
  |none=>rfl
  |some u' =>
   obtain⟨ob,e⟩:=(I.hok D u' q).somewhere;rw[hD]at e;cases e
 have cel:∀c w,c≠X.env.locals->s.heap.IsCell c w->h'.IsCell c w:=λc w hc ⟨ob,e,d⟩=>⟨ob,k c ob hc e,d⟩
 have LD:X.env.locals≠D:=by obtain⟨ob,_,_,e,_⟩:=id hm;exact neD _ ob e
 have hiσ:i<σ.length:=by rw[I.len];exact (Xo.mp hi).1
 refine⟨I.ok,I.os,I.bare,⟨λb ob e n hb hx=>k b ob (away b ob e) (I.base.keep b ob e n hb hx),λb ob e n hb hx=>?_,λb ob e n hx=>?_,λb ob e hx=>?_,λb xs q=>?_,λb ob w q=>?_,λb ps q=>?_⟩,
  ⟨_,hn,λj z w e1 e2 e3=>?_⟩,λz c e=>?_,?_,λz c e=>?_,λq hq=>?_,λb w q=>?_,by simpa using I.len⟩
 ·obtain⟨sl,e1⟩:=I.base.slot b ob e n hb hx;exact⟨sl,k b _ (away b ob e) e1⟩
 ·obtain⟨o1,e1⟩:=I.base.there b ob e hx;rw[AK (neD b o1 e1)];exact I.base.free b ob e n hx
 ·obtain⟨o1,e1⟩:=I.base.there b ob e hx;exact⟨o1,k b o1 (away b ob e) e1⟩
 ·have q':=I.base.tups b xs q;rw[AK (Al q' nD)];exact q'
 ·have q':=I.base.frzs b ob w q;rw[AK (Al q' nD)];exact q'
 ·obtain⟨more,q'⟩:=I.base.tbls b ps q;exact⟨more,by rw[AK (Al q' nD)];exact q'⟩
 ·by_cases hj:j=i
  ·subst hj;rw[hi]at e1;cases e1;rw[aK hiσ]at e2;cases e2;exact⟨u,r,.inl ⟨hl,by simp⟩⟩
  ·rw[ai (Ne.symm hj)]at e2;obtain⟨u',r',z'⟩:=hmv j z w e1 e2 e3;refine⟨u',r',?_⟩;rcases z' with⟨kk,z'⟩|⟨kk,c,z',y'⟩
   ·have ny:z≠y:=λq=>hj (Gs hN e1 (q▸hi))
    exact .inl ⟨kk,by simp[ny,z']⟩
   ·exact .inr ⟨kk,c,z',cel c _ (I.cne z c z') y'⟩
 ·obtain⟨w,q⟩:=I.cell z c e;exact⟨w,cel c w (I.cne z c e) q⟩
 ·rw[AK LD];exact I.free
 ·obtain⟨w,ob,q,_⟩:=I.cell z c e;rw[AK (neD c ob q)];exact I.freeC z c e
 ·obtain⟨e,n,ne,nf,d⟩:=I.pin q hq;exact⟨k q.1 q.2 ne e,by rw[AK (neD q.1 q.2 e)];exact n,ne,nf,d⟩
 ·by_cases hb:b=D
  ·subst hb;rw[AC]at q;cases q;exact new
  ·rw[AK hb]at q;have fz:=I.free;refine (I.hok b w q).stay (λc v' hc r'=>k c v' (λz=>?_) r') (λc z=>by rw[AK (Al z nD)];exact z) λc xs z=>by rw[AK (Al z nD)];exact z
   rcases hc with e|e
   ·rw[<-z,e,q]at fz;cases fz
   ·rw[<-z,e]at fz;cases fz
theorem KH{gv:Int}:∀{ns:List Int} {its ys:List Value},Ao (ns.map V.int) its->Paired (λv y=>∀i t,v=Value.int i t->∃t',y=Value.int (i%gv) t') its ys->Ao ((ns.map (·%gv)).map V.int) ys
 |[],_,_,.nil,.nil=>.nil
 |n::ns,_,_,.cons r rr,.cons q qq=>by obtain⟨t,e⟩:=r;exact .cons (q n t e) (KH rr qq)
def KI(K:qJ)(ti:TE)(ig iy:Nat):TS:=λD σ H=>∃gv:Int,σ[ig]?=some (some (.int gv))/\0<gv/\ti σ H λv H1=>∃(a:Addr) (ns:List Int),v=.ref a/\Ad K H1 a (ns.map V.int) /\
 ∀p,H1 p=none->D.nx (σ.set iy (some (.ref p))) (Aj H1 p (.lst ((ns.map (·%gv)).map V.int)))
section
variable{y g:Str}{px py p1 p2 p3 pos spos:Pos}{iter:Expr}{ti:TE}{ig iy:Nat}{c:Addr}
theorem La(hc:X.calm=true)(hN:X.N.Nodup)(hy:X.N[iy]?=some y)(hyl:X.env.scope.names.lookup y=some .local)(hgN:X.N[ig]?=some g)(hgk:X.env.scope.names.lookup g=some .cell)(hi:PE X iter ti)
  (hsw:swapsWith (.ListComp (.BinOp (.Name x p1) .Mod (.Name g p2) p3) [⟨.Name x px,iter,[],0⟩] scope pos) (some (.Name y py)) spos.line X.env=pure true)
  (hclos:closureFor scope X.env=pure [(g,c)]) (hcc:X.env.cells.lookup g=some c) (hcell:∀z∈scope.names,z.2≠.cell) (hkind:scope.kind=.function)
  (hnames:∀z∈scope.names,z.2=.local->scope.names.lookup z.1=some .local) (hx:scope.names.lookup x=some .local) (hgr:(relabel scope X.env).names.lookup g=some .cell)
  (hdx:(x==("__debug__":Str))=false:=by decide) (hdg:(g==("__debug__":Str))=false:=by decide) (hs:∀x,foldedSetIterable iter X.env x=pure x:=by intro _;rfl):
  PS X (.Assign [.Name y py] (.ListComp (.BinOp (.Name x p1) .Mod (.Name g p2) p3) [⟨.Name x px,iter,[],0⟩] scope pos) spos) (KI X.K ti ig iy):=by
 intro pins s σ H D I h;obtain⟨gv,hgσ,g0,h⟩:=h;have hcls:(X.env.scope.kind==.class||(X.env.scope.kind==.module&&X.env.locals != X.env.globals))=false:=by rw[I.ok.kind];rfl
 refine wpAny_Assign_ListComp_free (λ_=>true) (λv y=>∀i t,v=.int i t->∃t',y=.int (i%gv) t') hsw hclos hcell hkind hnames hx hyl hcls (BX (hi pins s σ H _ I h) λxv s1 q=>?_) hs;obtain⟨v,H1,I1,rv,a,ns,e,hq,q⟩:=q;subst e;cases rv;obtain⟨its,rits,pl,hz⟩:=I1.list hq;have hlen:=rits.length;have alt:a<s1.heap.objs.size:=by obtain⟨o,e,_⟩:=pl.isList;exact Xt e
 refine wpAny_pyIter_list pl.isList ?_;obtain⟨m,hm,hmv⟩:=I1.loc;have up:∀b o,s1.heap.get? b=some o->(s1.heap.push {cls:=.type "list_iterator",data:=.fields #[.ref a,.int 0 0]}).get? b=some o:=λb o e=>Xn _ e
 refine⟨s1.heap.objs.size,[s1.heap.objs.size,a],[s1.heap.objs.size],its.toArray.size,_,_,m,rfl,Walks.list (I.ok.hd hc) _ a (YW alt) its.toArray,by rw[YV,<-hlen];exact hz,
  ⟨⟨_,Xz _ rfl,rfl,rfl⟩,pl.isList.at λo e=>up a o e⟩,λb hb=>?_,?_,hm.at' λo e=>up _ o e,⟨?_,?_⟩,?_⟩
 ·show b<(s1.heap.push _).objs.size;rw[Yz];rcases YA.mp hb with z|z
  ·rw[z];exact Zg _
  ·rw[Xl.mp z];exact ZC alt
 ·intro z;have z':=Xl.mp z;exact qG I1.lt (by rw[z'];exact YE _)
 ·intro C i w s3 m3 E' _ _ _ _ _ _;exact qD ⟨rfl,s3.heap,s3.toks,rfl,λ_ _ e=>e⟩
 ·intro C i w s3 m3 E' hC hw _ hn3 hx3 hk3 _;have hgl:=hmv ig g (.int gv) hgN hgσ (.inr (.inl hgk));obtain⟨u,⟨tg,ru⟩,lk⟩:=hgl;subst ru
  have cellv:s3.heap.IsCell c (some (.int gv tg)):=by
   rcases lk with⟨kk,_⟩|⟨_,c',e',⟨o,eo,d⟩⟩
   ·rw[show X.env.kindOf g=some .cell from hgk]at kk;cases kk
   ·rw[hcc]at e';cases e';exact⟨o,hk3 c o (λz=>qG (Xt eo) (by rw[Xl.mp z];exact YE _)) (up c o eo),d⟩
  have hkf:(compEnvC scope [(g,c)] C X.env).scope.kind=.function:=hkind;refine wpAny_BinOp (wpAny_Name (wpAny_loadName_local hkf (lookup_relabel_local hx) hn3 hx3 ?_) hdx);refine wpAny_Name (wpAny_loadName_cell (c:=c) hkf hgr (by simp[compEnvC]) cellv ?_) hdg;have hwi:its[i]?=some w:=by simpa using hw
  have hi2:i<its.length:=(Xo.mp hwi).1;obtain⟨u2,hu2,ru2⟩:=rits.get (x:=(.int (ns[i]'(by rw[Xk]at hlen;lia)))) (i:=i) (by rw[Xu,Xs (by rw[Xk]at hlen;lia)];rfl);rw[hwi]at hu2;cases hu2;obtain⟨tw,rfl⟩:=ru2;refine mod_int' (by lia) ⟨λi' t' e=>?_,s3.heap,s3.toks+1,rfl,λ_ _ e=>e⟩;cases e;exact⟨_,by rw[Int.fmod_eq_emod_of_nonneg _ (by lia)]⟩
 ·intro D' h2 tk ys vs hD' hlD hplD hvl hvP hF hnL hk2
  have hDn:s1.heap.get? D'=none:=by
   cases z:s1.heap.get? D' with
   |none=>rfl
   |some o =>
    have z2:=up D' o z;rw[hD']at z2;cases z2
  have nD:H1 D'=none:=by
   cases z:H1 D' with
   |none=>rfl
   |some u' =>
    obtain⟨ob,e⟩:=(I1.hok D' u' z).somewhere;rw[hDn]at e;cases e
  refine⟨_,_,I1.storedNew (t':=tk) hN hy hyl (v:=.ref D') (u:=.ref D') rfl hm hmv hnL (λb o hb e=>hk2 b o hb (λz=>qG (Xt e) (by rw[Xl.mp z];exact YE _)) (up b o e)) hDn ?_,q D' nD⟩;obtain⟨n,e⟩:=hplD;refine⟨?_,ys.toList,n,?_,by simpa using e⟩
  ·rw[Xk,Xk];rw[Xk]at hz;exact hz
  ·have hf:vs.filter (λ_=>true)=vs:=List.filter_eq_self.mpr λ_ _=>rfl
   rw[hf]at hF
   have hvs:vs=its:=by
    apply Zt;intro j
    by_cases hj:j<vs.length
    ·have z:=hvP j vs[j] (Xs hj);rw[Xs hj];exact (by simpa using z:its[j]?=some vs[j]).symm
    ·rw[ZP (by lia),ZP (by rw[YV]at hvl;lia)]
   rw[hvs]at hF;exact KH rits hF
end
section
variable{prog:Program}{w:World}{A:Around}{K:qJ}{hp:Heap}{gs:Array GenState}{dr:Drawn}{tk:Nat}{oz:OsState}
variable{nm qn:Str}{c N:Addr}{bs tl bmB:List Value}{dy:Bool}{sn:List Str}{sub:List Value}{ab:Bool}{col:Option Bool}{dd:Option Addr}{k0 k1 k2 k3 k5:Option Value}{B nid iid:String}
theorem Qh(F:ExcBaseFacts B nid iid bmB)(T:OwnTail hp bmB tl){mN:Str->Option Value}{Q:Fin->Shared->Prop}(kin:K.In hp)
  (hC:hp.get? c=some (excClassObj nm qn c N bs tl dy sn sub ab col dd k0 k1 k2 k3 k5 nid)) (hN:hp.Ns N mN) (hi:mN "__init__"=some (.ref f)) (hf:PySem.W.typeIn K (.ref f)=some (.type "function"))
  (k:∀hp' e,hp.objs.size<=e->Heap.MadeExcOf hp hp' e (.ref c) us->wpAny (model prog w) A (call (.ref f) (.ref e::us)) (λr s'=>r=.none/\Q (.done (.ret (.ref e))) s') E ⟨hp',gs,dr,tk,oz⟩) (hl:us.length<=sizeLine):
  wpAny (model prog w) A (Builtin.«type.__call__» ⟨.ref c::us,[]⟩) Q E ⟨hp,gs,dr,tk,oz⟩:=by
 repeat (first|with_reducible refine wpAny_madeBy_exc hC ?_|with_reducible refine wpAny_loadPart_at hC ?_|wp_step)
 refine codeAny_call_builtin_code (Code.quiet_builtin _ F.quiet) (wpAny_check_new_subU F F.hasB T hC (codeAny_exc_new_subU F F.hasB F T hC ?_ hl));show wpAny _ _ _ _ _ _;generalize e1:hp.push {cls:=.type "tuple",data:=.seq us.toArray}=hp1;have s1:hp1.objs.size=hp.objs.size+1:=by rw[<-e1,Yz]
 have u1:∀b o,hp.get? b=some o->hp1.get? b=some o:=λb o z=>by rw[<-e1];exact Xn _ z
 have t1:hp1.get? hp.objs.size=some {cls:=.type "tuple",data:=.seq us.toArray}:=by rw[<-e1];exact Xz hp rfl
 generalize e2:hp1.push {cls:=.ref c,data:=.fields #[.ref hp.objs.size,.none,.none,.none,.bool false,.none]}=hp2;have u2:∀b o,hp1.get? b=some o->hp2.get? b=some o:=λb o z=>by rw[<-e2];exact Xn _ z
 have x2:hp2.get? (hp.objs.size+1)=some {cls:=.ref c,data:=.fields #[.ref hp.objs.size,.none,.none,.none,.bool false,.none]}:=by rw[<-e2,<-s1];exact Xz hp1 rfl
 have u3:∀b o,hp.get? b=some o->hp2.get? b=some o:=λb o z=>u2 b o (u1 b o z)
 have C2:=u3 _ _ hC;have N2:hp2.Ns N mN:=hN.keeps u3;have T2:=T.keeps u3;have kin2:K.In hp2:=λb o z=>u3 b o (kin b o z)
 have cc:(Value.ref c::tl).contains (.ref c)=true:=by simp
 unfold isInstance
 repeat (first|with_reducible refine wpAny_loadPart_at x2 ?_|(with_reducible refine wpAny_isSubtype_exc C2 ?_;rw[cc])|wp_step)
 show wpAny _ _ (typeLookup (.ref c) _) _ _ _;refine wpAny_typeLookup_tail C2 N2 T2 F.mroIs F.init.lookup ?_;rw[hi];refine wpAny_holding (qC ((PySem.W.bind_fn kin2 _ hf).at ?_));have made:Heap.MadeExcOf hp hp2 (hp.objs.size+1) (.ref c) us:=⟨u3,Zy (Zd _),hp.objs.size,x2,Zy (Xr _),u2 _ _ t1⟩;refine qC (wpAny_mono (k hp2 _ (Zd _) made) (λr s' hr=>?_) λ_ _ z=>z);obtain⟨er,hQ⟩:=hr;subst er
 wp_walk
 exact hQ
theorem Qi(F:ExcBaseFacts B nid iid bmB)(T:OwnTail hp bmB tl){mN:Str->Option Value}(kin:K.In hp)
  (hC:hp.get? c=some (excClassObj nm qn c N bs tl dy sn sub ab col dd k0 k1 k2 k3 k5 nid)) (hN:hp.Ns N mN) (hi:mN "__init__"=some (.ref f)) (hf:PySem.W.typeIn K (.ref f)=some (.type "function"))
  (k:∀hp' e,hp.objs.size<=e->Heap.MadeExcOf hp hp' e (.ref c) us->wpAny (model prog w) (A.under (.builtin "type.__call__" ⟨.ref c::us,[]⟩)) (call (.ref f) (.ref e::us)) (λr s'=>r=.none/\Q (.ref e) s') E ⟨hp',gs,dr,tk,oz⟩) (hl:us.length<=sizeLine):
  wpAny (model prog w) A (call (.ref c) us) Q E ⟨hp,gs,dr,tk,oz⟩:=by
 have z1:=tc_lookup;have z2:=tc_bind (.ref c);have z3:(⟨hp,gs,dr,tk,oz⟩:Shared).TypeIs (.ref c) "type":=⟨_,hC,rfl⟩;refine wpAny_call (codeAny_of_tree ?_);show wpAny _ _ (callAny (.ref c) _) _ _ _
 repeat (any_goals (first|assumption|with_reducible refine wpAny_loadPart_at hC ?_|wp_step))
 refine⟨rfl,codeAny_call_builtin_at (Code.quiet_builtin _ (by decide +kernel)) entry_typeCall (wpAny_check_type_call_sub hC (Qh F T kin hC hN hi hf (λhp' e z m=>?_) hl))⟩;exact k hp' e z m
end
noncomputable def U3(K:qJ)(C R:Addr):Bool:=(PySem.W.clsIn K C).any λcd=>cd.mro==Value.ref C::Value.ref R::Ft
structure XA(K:qJ)(C R:Addr)(f:Str):Prop where
 sa:PySem.W.findIn K (.ref C) "__setattr__"=some (some (.builtin "object.__setattr__"))
 hd:PySem.W.hasDictIn K C=true
 mr:U3 K C R=true
 no:PySem.W.findIn K (.ref C) f=some none
 ek:KD K C
section
variable{prog:Program}{w:World}{A:Around}{K:qJ}{x R:Addr}{ox:Obj}{vs:Array Value}{f:Str}{v:Value}
theorem Nb{Q:Unit->Shared->Prop}(kin:K.In s.heap)(c:XA K C R f)(hx:s.heap.get? x=some ox)(hc:ox.cls=.ref C)(hd:ox.data=.fields vs)(hn:ox.dict=none)
  (k:∀h' dx,s.heap.get? dx=none->dx≠x->h'.get? x=some {ox with dict:=some dx}->h'.Ns1 dx (λy=>if y=f then some v else none)->(∀b o,b≠x->s.heap.get? b=some o->h'.get? b=some o)->Q () {s with heap:=h',toks:=s.toks+2}):
  wpAny (model prog w) A (setAttr (.ref x) f v) Q E s:=by
 obtain⟨oc,od,dt,sl⟩:=ox;dsimp only at hc hd hn;subst hc hd hn;have SF:=PySem.F.store_object;have SV:=PySem.F.store_ValueError;have I:PySem.W.InstAt s.heap x ⟨.ref C,none,.fields vs,sl⟩ C none:=⟨hx,rfl,rfl,trivial⟩;refine PySem.W.set_plain kin I c.sa ?_;obtain⟨cd,hcd,hm0⟩:=PySem.W.any_some c.mr;have hm1:cd.mro=Value.ref C::Value.ref R::Ft:=beq_iff_eq.mp hm0;obtain⟨cd',hcd',hdd⟩:=PySem.W.any_some c.hd;have ecd:cd'=cd:=Option.some.inj (hcd'.symm.trans hcd);subst ecd;generalize es:({s with toks:=s.toks+1}:Shared)=s1;have hp1:s1.heap=s.heap:=by rw[<-es]
 have ty:PySem.W.Looks (model prog w) s1.heap (typeOf (.ref x)) (.ref C):=by rw[hp1];exact I.type
 have mo:PySem.W.Looks (model prog w) s1.heap (isInstance (.ref x) (.type "object")) true:=ty.andThen (by rw[hp1];exact PySem.W.looks_mroIn kin c.ek.mo);have ml:PySem.W.Looks (model prog w) s1.heap (mroOf (.ref C)) cd'.mro:=by rw[hp1];exact (PySem.W.looks_clsIn kin hcd).andThen .now
 have lf:PySem.W.Looks (model prog w) s1.heap (typeLookup (.ref C) f) none:=by rw[hp1];exact Z0 kin c.no
 refine codeAny_call_builtin SF.slot.plain SF.entry (@PySem.W.check_slot (model prog w) _ _ s1 "object.__setattr__" "object" "__setattr__" (.ref x) [.str f s.toks,v] [] _ SF.kind SF.split mo (SF.args (.ref x) (.str f s.toks) v) ?_);rw[PySem.W.osa_eq,refuse_eq];refine qC (qC (ty.here (qC (ml.here ?_))));rw[hm1,refuseLoop_ref,refuseLoop_ref,SV.passes];refine qD (qC (ty.here (qC (lf.here (qC ?_)))));refine qD (a:=(none:Option Value)) ?_;have hx1:s1.heap.get? x=some ⟨.ref C,none,.fields vs,sl⟩:=by rw[hp1];exact hx
 have lc:PySem.W.Looks (model prog w) s1.heap (classData C) cd':=by rw[hp1];exact PySem.W.looks_clsIn kin hcd
 refine qC (qD (qC (qC (wpAny_loadPart hx1 (qC (lc.here ?_))))));rw[hdd];have nx:x≠s1.heap.objs.size:=YW (Xt hx1);have hx2:(s1.heap.push {cls:=.type "dict",data:=.dict #[]}).get? x=some ⟨.ref C,none,.fields vs,sl⟩:=Xn _ hx1;refine qC (wpAny_alloc' (qC (wpAny_update' hx2 (qD ?_))));generalize e3:(s1.heap.push {cls:=.type "dict",data:=.dict #[]}).update x (λo=>{cls:=o.cls,dict:=some s1.heap.objs.size,data:=o.data,slots:=o.slots})=h3;have d3:h3.get? s1.heap.objs.size=some {cls:=.type "dict",data:=.dict #[]}:=by rw[<-e3];exact (Heap.get?_update_ne _ _ _ _ nx.symm).trans (Xz s1.heap rfl)
 have x3:h3.get? x=some ⟨.ref C,some s1.heap.objs.size,.fields vs,sl⟩:=by rw[<-e3];exact ZO _ hx2 rfl
 have o3:∀b o,b≠x->s1.heap.get? b=some o->h3.get? b=some o:=λb o nb z=>by rw[<-e3];exact (Heap.get?_update_ne _ _ _ _ nb).trans (Xn _ z)
 have n3:h3.Ns s1.heap.objs.size (λ_=>none):=⟨_,#[],_,d3,rfl,λe he=>qG he (by simp),λ_=>rfl⟩;show wpAny _ _ (Builtin.ObjectAttr.storeInDict s1.heap.objs.size (.str f s.toks) f v) _ _ _;unfold Builtin.ObjectAttr.storeInDict Builtin.ObjectAttr.newKeyGuard;refine qC (qD (qC (wpAny_nsSet1 (Heap.Ns1.of_empty n3) λh4 n4 sb=>?_)));obtain⟨oD,esD,epD,hoD,hdD,hcD⟩:=n4.count (PySem.Within.cons f v PySem.Within.nil);refine qC (wpAny_lookBehind hoD (by rw[hdD];exact pastItsLine_dict (YK hcD (by rw[YZ,aC,sizeLine_eq];lia))) ?_);subst es;exact qD (k h4 _ (Zy (Xr _)) nx.symm ((sb.2 x nx).trans x3) n4 λb o nb z=>(sb.2 b (YW (Xt z))).trans (o3 b o nb z))
end
noncomputable def FW(H:Hp)(a:Addr):Hp:=λb=>if b=a then none else H b
theorem Nc:FW H a a=none:=by unfold FW;rw[qF rfl]
theorem Ch(h:b≠a):FW H a b=H b:=by unfold FW;rw[qE h]
theorem IZ(h:FW H a b=some o):b≠a/\H b=some o:=by
 have ne:b≠a:=λz=>by rw[z,Nc]at h;cases h
 rw[Ch ne]at h;exact⟨ne,h⟩
section
variable{A:Around}{R:Addr}{f:Str}{n:Bool}
theorem Qj{y:V}{Q:Unit->Shared->Prop}(I:AY X pins σ H s)(e:H a=some (Mh a (.ref C) none n))(c:XA X.K C R f)(ry:Aq y u)
  (h:∀dx s',H dx=none->AY X pins σ (Aj (Aj H a (Mh a (.ref C) (some dx) n)) dx (.xd [(f,y)])) s'->Q () s'):wpAny (model X.prog X.w) A (setAttr (.ref a) f u) Q E s:=by
 obtain⟨⟨ox,vs,hx,hc,hd,hn,hfr⟩,_,_⟩:=(show Aw X.prog X.w H s.heap a (.ext (EN a (.ref C) none n)) from I.hok a _ e);refine Nb I.kIn c hx hc hd hn λh' dx nd ne x1 n1 k1=>?_
 have hdx:H dx=none:=by
  cases q:H dx with
  |none=>rfl
  |some o =>
   obtain⟨ob,z⟩:=(I.hok dx o q).somewhere;rw[nd]at z;cases z
 have na:∀b,H b=none->b≠a:=λb z w=>by rw[w,e]at z;cases z
 have nb:∀b o,s.heap.get? b=some o->b≠dx:=λb o z w=>by rw[w,nd]at z;cases z
 have nh:∀b o,H b=some o->b≠dx:=λb o z=>Al z hdx
 have at2:∀b,b≠a->b≠dx->Aj (Aj H a (Mh a (.ref C) (some dx) n)) dx (.xd [(f,y)]) b=H b:=λb z1 z2=>by rw[AK z2,AK z1]
 refine h dx _ hdx (I.un (h':=h') (t':=s.toks+2) ⟨λb o q z _ _=>k1 b o (na b z) q,λb o q z _ _=>⟨o.slots,k1 b o (na b z) q⟩,λb o q z _=>by rw[at2 b (na b z) (nb b o q)];exact z,λb o q _=>?_,λb xs q=>?_,λb o v q=>?_,λb ps q=>?_⟩ λb v q=>?_)
 ·by_cases w:b=a
  ·rw[w];exact⟨_,x1⟩
  ·exact⟨o,k1 b o w q⟩
 ·rw[at2 b (λw=>by rw[w,e]at q;cases q) (nh b _ q)];exact q
 ·rw[at2 b (λw=>by rw[w,e]at q;cases q) (nh b _ q)];exact q
 ·exact⟨#[],by rw[at2 b (λw=>by rw[w,e]at q;cases q) (nh b _ q),q];simp⟩
 ·by_cases w:b=dx
  ·rw[w,AC]at q;cases q;rw[w];refine⟨_,n1,λg=>?_⟩
   by_cases z:g=f
   ·rw[z,qF rfl,List.lookup_cons_self];exact ry
   ·rw[qE z,ZM,beq_false_of_ne z];exact True.intro
  ·rw[AK w]at q
   by_cases z:b=a
   ·rw[z,AC]at q;cases q;rw[z];exact⟨⟨_,vs,x1,hc,hd,rfl,hfr⟩,⟨_,x1⟩,λh1 h2 ⟨o,ws,e,r⟩ k=>⟨o,ws,k o e,r⟩⟩
   ·rw[AK z]at q;refine (I.hok b v q).stay (λc2 o hc2 r=>k1 c2 o ?_ r) (λc2 r=>by rw[at2 c2 (λw2=>by rw[w2,e]at r;cases r) (nh c2 _ r)];exact r) λc2 xs r=>by rw[at2 c2 (λw2=>by rw[w2,e]at r;cases r) (nh c2 _ r)];exact r
    rcases hc2 with w2|w2
    ·rw[w2];exact z
    ·intro w3;rw[w3,e]at w2;cases w2
end
noncomputable def Wd(K:qJ)(C f:Addr):Bool:=(K.lookup C).any λo=>match o with
 | ⟨.type t,_,.cls d,sl⟩=>t=="type"&&(match d.mro with
  |.ref c::tl=>c==C&&PySem.W.tailIn K Ft tl
  |_=>false)&&(match sl.toList with
  |[_,_,_,_,some (.builtin m),_]=>m=="ValueError.__new__"
  |_=>false)&&!d.hasDel&&PySem.W.nsOkIn K d.ns&&PySem.W.nsIn K d.ns "__init__"==some (some (.ref f))
 |_=>false
theorem Qk{K:qJ}{N:Addr}{m:Str->Option Value}{v:Value}(kin:K.In h)(g:h.Ns N m)(e:PySem.W.nsIn K N x=some (some v)):m x=some v:=by
 obtain⟨o,es,ep,ho,hd,_,hf⟩:=g;unfold PySem.W.nsIn at e
 split at e
 ·rename_i es' n' sl q
  have z:=kin _ _ q;rw[ho]at z;cases z;cases hd
  split at e
  ·rename_i en he
   cases e;rw[<-hf];unfold nsFind findBy;rw[<-Array.find?_toList,he];rfl
  ·split at e<;>cases e
 ·cases e
theorem Mi{K:qJ}(kin:K.In h)(q:Wd K C f=true):
  ∃tl N nm qn bs dy sn sub ab col dd k0 k1 k2 k3 k5 mN,h.get? C=some (excClassObj nm qn C N bs tl dy sn sub ab col dd k0 k1 k2 k3 k5 "ValueError.__new__")/\h.Ns N mN/\mN "__init__"=some (.ref f)/\OwnTail h Ft tl:=by
 unfold Wd at q;cases ho:K.lookup C with
 |none=>rw[ho]at q;cases q
 |some o =>
  rw[ho]at q;simp only[Option.any_some]at q
  split at q
  next t dd d sl =>
   simp only[Bool.and_eq_true,beq_iff_eq,Bool.not_eq_true']at q;obtain⟨⟨⟨⟨⟨e1,e2⟩,e3⟩,e4⟩,e5⟩,e6⟩:=q;subst e1
   split at e2
   next c tl hm =>
    simp only[Bool.and_eq_true,beq_iff_eq]at e2;obtain⟨e7,e8⟩:=e2;subst e7
    split at e3
    next k0 k1 k2 k3 m k5 hs =>
     simp only[beq_iff_eq]at e3;subst e3;obtain⟨nm,bs,mro,N,qn,dy,sn,sub,ab,col,del⟩:=d;dsimp only at hm e4 e5 e6;subst hm e4
     have e9:sl=#[k0,k1,k2,k3,some (.builtin "ValueError.__new__"),k5]:=by obtain⟨l⟩:=sl;simp only at hs;rw[hs]
     subst e9;have g:h.Ns N (h.nsMap N):=.of_isNs (PySem.W.isNs_of_in kin e5);exact⟨tl,N,nm,qn,bs,dy,sn,sub,ab,col,dd,k0,k1,k2,k3,k5,_,kin _ _ ho,g,Qk kin g e6,PySem.W.tail_of_in kin e8⟩
    next=>cases e3
   next=>cases e2
  next=>cases q
structure We(K:qJ)(C f:Addr):Prop where
 ci:Wd K C f=true
 fn:PySem.W.typeIn K (.ref f)=some (.type "function")
 kp:PySem.W.keepIn K (.ref C)=true
section
variable{k:Nat}{vs:List V}
theorem Ol{Q:VK}(M:We X.K C f)(F:Ex X.prog X.w X.K X.mg X.base (IY X.prog X.w) k f fd ps sp)(hr:Bs (k+1) X.A)(hb:EL X.K fd ps [])(I:AY X pins σ H s)(r:Ao vs us)(hz:vs.length<=sizeLine)
  (h:∀a,H a=none->sp (.ref a::vs) (Aj H a (Mh a (.ref C) none true)) (λv H2=>v=.non/\Q (.ref a) H2) E0):
  wpAny (model X.prog X.w) X.A (call (.ref C) us) (λv s'=>∃a H',v=.ref a/\s.heap.get? a=none/\AY X pins σ H' s'/\Q (.ref a) H') X.xe s:=by
 obtain⟨tl,N,nm,qn,bs,dy,sn,sub,ab,col,dd,k0,k1,k2,k3,k5,mN,hO,hN,hi,T⟩:=Mi I.kIn M.ci;obtain⟨hp,g,d,t,os⟩:=s;refine Qi Zw T I.kIn hO hN hi M.fn (λhp' e hsz m=>?_) (by rw[<-r.length];exact hz);obtain⟨t',he,ht,_⟩:=m.there
 have I2:AY X pins σ (Aj H e (Mh e (.ref C) none true)) ⟨hp',g,d,t,os⟩:=I.laid (t':=t) m.keeps hsz
  ⟨⟨_,_,he,rfl,rfl,rfl,λ_=>⟨t',rfl⟩⟩,⟨_,he⟩,λh1 h2 ⟨o,ws,e,r⟩ k=>⟨o,ws,k o e,r⟩⟩
 have hq:=h e (I.hok.fresh hsz);have r2:Ao (V.ref e::vs) (Value.ref e::us):=.cons rfl r
 have hl:(Value.ref e::us++[]).length=ps.length:=by rw[Yd,<-r2.length];exact F.len _ _ _ _ hq
 have bb:=hb ⟨hp',g,d,t,os⟩ (Value.ref e::us) I2.kIn hl;rw[Yd]at bb;refine wpAny_call (codeAny_mono (F.run _ X.stack _ _ ⟨Value.ref e::us,[]⟩ (Value.ref e::us) _ _ E0 (hr.make C us []) (I2.env0.make C us []) bb r2 hq) λrs s2 hq2=>?_);rcases rs with er|fl
 ·obtain⟨_,_,_,_,_,_,_,_,z⟩:=hq2;exact z.elim
 ·cases fl with
  |ret u =>
   obtain⟨v,H',I3,rv,ev,q3⟩:=I2.after hq2;subst ev;exact⟨rv,e,H',rfl,m.new,I3,q3⟩
  |next=>exact False.elim hq2
  |brk=>exact False.elim hq2
  |cont=>exact False.elim hq2
end
def Rm(C:Addr)(sp:Sp)(t:TA):TE:=λσ H Q=>t σ H λvs H1=>vs.length<=sizeLine/\∀a,H1 a=none->sp (.ref a::vs) (Aj H1 a (Mh a (.ref C) none true)) (λv H2=>v=.non/\Q (.ref a) H2) E0
def JN(C:Addr)(sp:Sp)(E:XK)(t:TA):TS:=λ_ σ H=>Rm C sp t σ H λv H2=>∃a D,v=.ref a/\H2 a=some (Mh a (.ref C) D true)/\E (.ref C) D (FW H2 a)
def U4(K:qJ)(ta tv:TE)(f:Str):TS:=λD σ H=>tv σ H λy H1=>ta σ H1 λx H2=>∃a C R n,x=.ref a/\H2 a=some (Mh a (.ref C) none n)/\XA K C R f/\∀dx,H2 dx=none->D.nx σ (Aj (Aj H2 a (Mh a (.ref C) (some dx) n)) dx (.xd [(f,y)]))
def JO(X:Cx)(C:Value)(E:XK):Prop:=∀(pins:List (Addr×Obj)) (σ:St) (H:Hp) (s:Shared) (a:Addr) (D:Option Addr),AY X pins σ H s->X.s₀.heap.get? a=none->H a=some (Mh a C D true)->E C D (FW H a)->X.xe (.ref a) s
section
variable{P:Program}{w:World}{K:qJ}{mg:Str->Option Value}{base:Heap}{N:List Str}{cd:Value}{A:Around}{outer:List Env}{E:XK}
theorem FX{C:Value}:JO (DX (IX nc P w) P w K mg base N qual scope f cd A outer s H E) C E:=by
 intro pins σ H1 s1 a D I ha0 ea hE;generalize hX:DX (IX nc P w) P w K mg base N qual scope f cd A outer s H E=X at I ha0⊢;have hst:X.stack=X.env::X.outer:=by rw[<-hX];rfl
 have hfr:X.env.frame=some X.env.locals:=by rw[<-hX];rfl
 have hxe:X.xe=λe s'=>wpAny (model P w) X.A (leaving X.env e) (λ_ s''=>IX nc P w X.outer X.H₀ X.s₀ E e s'') (λe' s''=>IX nc P w X.outer X.H₀ X.s₀ E e' s'') s':=by rw[<-hX];rfl
 have hex:X.ex=[]:=by rw[<-hX];rfl
 have hp:X.prog=P:=by rw[<-hX];rfl
 have hw:X.w=w:=by rw[<-hX];rfl
 subst hp hw;rw[hxe];obtain⟨⟨oe,vs,he,hcl,hd,hdt,hfs⟩,_,_⟩:=(show Aw X.prog X.w H1 s1.heap a (.ext (EN a C D true)) from I.hok a _ ea);obtain⟨t,hv⟩:=hfs rfl;subst hv hcl;have fr:=I.stack;have hin:∀env∈X.stack,∀b,env.frame=some b->b∈a::Cq X.stack:=λenv he b hb=>X0 _ (Z8.mpr ⟨env,he,hb⟩)
 have fr':s1.heap.FunFrames (PySem.W.hideAll s1.heap (a::Cq X.stack)) (X.env::X.outer):=by rw[<-hst];exact PySem.W.funFrames_hide fr hin
 have hen:(PySem.W.hideAll s1.heap (a::Cq X.stack)).get? a=none:=PySem.W.hideAll_none _ (X6 ..);refine wpAny_mono (KT.run (FC _ _) (wpAny_leaving_firstW (Q:=λ_ s2=>∃h2,s2={s1 with heap:=h2}/\Heap.LeftW (PySem.W.hideAll s1.heap (a::Cq X.stack)) (X.env::X.outer) a oe.cls (.ref t) s1.heap h2) (E:=λ_ _=>False) (a0:=.ref t) (by rw[<-hst];exact I.ok.frames) fr' hfr he (λb o q=>PySem.W.of_hideAll _ q) hen hd rfl rfl λh2 z=>⟨h2,rfl,z⟩)) (λ_ s2 q=>?_) λ_ _ q=>q.1.elim
 obtain⟨⟨h2,rfl,k1,⟨k0,kk,k2⟩,k3,k4⟩,dk⟩:=q;have fl:Heap.FlyingW (PySem.W.hideAll s1.heap (a::Cq X.stack)) X.outer a oe.cls (.ref t) h2:=⟨k1,hen,k2,k3⟩
 have naf:a∉Cq X.stack:=λz=>by have y:=I.stkFree a z;rw[ea]at y;cases y
 have nin:∀b,b∉Cq X.stack->b≠a->b∉a::Cq X.stack:=λb z1 z2 z=>(YA.mp z).elim z2 z1
 have kept:∀b o,s1.heap.get? b=some o->b∉Cq X.stack->b≠a->h2.get? b=some o:=λb o q hb hn=>k1 b o (Y9 _ q (nin b hb hn))
 have nea:∀b,H1 b=none->b≠a:=λb z w=>by rw[w,ea]at z;cases z
 have slt:∀b o,s1.heap.get? b=some o->b∈Cq X.stack->∃sl,h2.get? b=some {o with slots:=sl}:=λb o q hb=>k4 b o q (I.frameData q hb)
 obtain⟨ob,hob,_⟩:=fl.there
 have un1:Un (Cq X.stack) [] H1 (FW H1 a) s1.heap h2:=⟨λb o q z hb _=>kept b o q hb (nea b z),λb o q _ hb _=>slt b o q hb,λb o q z _=>by rw[Ch (nea b z)];exact z,λb o q _=>by
  by_cases hb:b∈Cq X.stack
  ·obtain⟨sl,z⟩:=slt b o q hb;exact⟨_,z⟩
  ·by_cases hn:b=a
   ·rw[hn];exact⟨ob,hob⟩
   ·exact⟨o,kept b o q hb hn⟩,λb xs q=>by rw[Ch λz=>by rw[z,ea]at q;cases q];exact q,λb o u q=>by rw[Ch λz=>by rw[z,ea]at q;cases q];exact q,λb ps q=>⟨#[],by rw[Ch (λz=>by rw[z,ea]at q;cases q),q];simp⟩⟩
 have hok1:Dd X.prog X.w (FW H1 a) h2:=λb u q=>by
  obtain⟨hn,q'⟩:=IZ q;refine (I.hok b u q').stay (λc v hc r=>?_) (λc z=>by rw[Ch λz2=>by rw[z2,ea]at z;cases z];exact z) λc xs z=>by rw[Ch λz2=>by rw[z2,ea]at z;cases z];exact z
  rcases hc with z|z
  ·refine kept c v r (λy=>?_) (by rw[z];exact hn);have y':=I.stkFree c y;rw[z,q']at y';cases y'
  ·refine kept c v r (λy=>?_) λy=>?_
   ·have y':=I.stkFree c y;rw[z]at y';cases y'
   ·rw[y,ea]at z;cases z
 have J:AY X pins σ (FW H1 a) {s1 with heap:=h2,toks:=s1.toks}:=I.call (g':=s1.gens) (d':=s1.drawn) (ch:=[]) un1 hok1 I.bare λb z=>qG z (by simp)
 have un:Un (Cq X.outer) [] X.H₀ (FW H1 a) X.s₀.heap h2:=by have z:=J.base;rw[hex]at z;exact z
 refine⟨a,oe.cls,.ref t,D,_,FW H1 a,rfl,⟨J.os,J.bare,un,J.hok,fl,λb o q hb o' q'=>?_,λb u q o' q'=>?_,⟨ob,hob,(dk.get he hob).1.trans hdt⟩,λ_=>⟨ob,hob,(dk.get he hob).2.trans (by unfold EC;rw[hd];rfl)⟩⟩,hE⟩
 ·obtain⟨o1,q1⟩:=I.base.there b o q (by rw[hex];simp)
  have hn:b∉Cq X.stack:=λz=>by
   rcases YA.mp (I.stkSub b z) with y|y
   ·exact qG (Xw (Xt q) I.ok.above) (by rw[y];exact YE _)
   ·exact hb y
  have hne:b≠a:=λz=>by rw[z,ha0]at q;cases q
  have q2:=kept b o1 q1 hn hne;rw[q']at q2;cases q2;exact Y9 _ q1 (nin b hn hne)
 ·obtain⟨hne,qq⟩:=IZ q;have hn:b∉Cq X.stack:=λz=>by have y:=I.stkFree b z;rw[qq]at y;cases y
  obtain⟨o1,r⟩:=(I.hok b u qq).somewhere;have q2:=kept b o1 r hn hne;rw[q']at q2;cases q2;exact Y9 _ r (nin b hn hne)
end
section
variable{M:Model}{A:Around}{env:Env}{nm qn:Str}{N:Addr}{bs tl:List Value}{dy:Bool}{sn:List Str}{sub:List Value}{ab:Bool}{col:Option Bool}{dd:Option Addr}{k0 k1 k2 k3 k5:Option Value}{nid:String}
theorem Lb{x:Sem Value}{Q:Flow->Shared->Prop}(hb:tl.contains (.type "BaseException")=true)(hh:A.handled=none)
  (h:wpAny M A x (λv s1=>∃(a t:Addr) (D:Option Addr) (sl:Array (Option Value)),v=.ref a/\s1.heap.get? C=some (excClassObj nm qn C N bs tl dy sn sub ab col dd k0 k1 k2 k3 k5 nid) /\
   s1.heap.get? a=some ⟨.ref C,D,.fields #[.ref t,.none,.none,.none,.bool false,.none],sl⟩/\E (.ref a) s1) E s):wpAny M A (raiseStmt env (some x) none) Q E s:=by
 have hcB:(Value.ref C::tl).contains (.type "BaseException")=true:=by rw[List.contains_cons,hb,Bool.or_true]
 unfold raiseStmt;refine qC (wpAny_mono h (λv s1 h1=>?_) λ_ _ x=>x);obtain⟨a,t,D,sl,rfl,hC,he,hE⟩:=h1;obtain⟨hp,g,d,tk,os⟩:=s1
 repeat (first|with_reducible refine wpAny_loadPart_at hC ?_|with_reducible refine wpAny_loadPart_at he ?_|(with_reducible refine wpAny_isSubtype_exc hC ?_;rw[hcB])|wp_step)
 exact wpAny_raiseNew_none hh hE
end
section
variable{k:Nat}{fld:Str}{E:XK}{e o value:Expr}{t:TA}{ta tv:TE}{np cpos pos pos':Pos}
theorem Nd(hc:X.calm=true)(M:We X.K C f)(F:Ex X.prog X.w X.K X.mg X.base (IY X.prog X.w) k f fd ps sp)(hr:Bs (k+1) X.A)(hb:EL X.K fd ps [])(hg:Gl X x)(hm:X.mg x=some (.ref C))(hx:JO X (.ref C) E)(ha:PA X (e::es) t)(hex:X.ex=[]:=by rfl)
  (hdb:(x==("__debug__":Str))=false:=by decide) (he:starEach (e::es) X.env=(false,eval e X.env)::starEach es X.env:=by rfl) (hpl:(backTo cpos (starEach es X.env)).any (·.1)=false:=by rfl):
  PS X (.Raise (some (.Call (.Name x np) (e::es) [] cpos)) none pos) (JN C sp E t):=by
 intro pins s σ H D I h;obtain⟨tl,N,nm,qn,bs,dy,sn,sub,ab,col,dd,k0,k1,k2,k3,k5,mN,hO,hN,hni,T⟩:=Mi I.mod.kin M.ci;have FB:=Zw;rw[arm_exec_Raise]
 have call:wpAny (model X.prog X.w) X.A (eval (.Call (.Name x np) (e::es) [] cpos) X.env) (λv s2=>∃(a t:Addr) (D:Option Addr) (sl:Array (Option Value)),v=.ref a/\s2.heap.get? C=some (excClassObj nm qn C N bs tl dy sn sub ab col dd k0 k1 k2 k3 k5 "ValueError.__new__") /\
   s2.heap.get? a=some ⟨.ref C,D,.fields #[.ref t,.none,.none,.none,.bool false,.none],sl⟩/\X.xe (.ref a) s2) X.xe s:=by
  refine wpAny_Call_Name_kw (FQ I hg hm ?_ hdb);refine PySem.W.callWith_K (h₀:=X.base) I.ok.mod.kin M.kp (BX (ha cpos pins s σ H _ I h) λus s1 ⟨vs,H1,I1,r,hz,q⟩=>⟨I1.kIn,?_⟩) he hpl;refine BX (Ol (Q:=λv H2=>∃a D,v=.ref a/\H2 a=some (Mh a (.ref C) D true)/\E (.ref C) D (FW H2 a)) M F hr hb I1 r hz q) λv s2 z=>?_;obtain⟨a,H2,ev,hn,I2,a',D',ea',h2,hE⟩:=z;cases ea';obtain⟨⟨oe,vs',he',hcl,hd,hdt,hfs⟩,_,_⟩:=(show Aw X.prog X.w H2 s2.heap a (.ext (EN a (.ref C) D' true)) from I2.hok a _ h2);obtain⟨t',hv⟩:=hfs rfl;subst hv;obtain⟨c1,c2,c3,c4⟩:=oe;dsimp only at hcl hd hdt;subst hcl hd hdt;refine⟨a,t',_,_,ev,I2.bk _ _ hO,he',hx pins σ H2 s2 a _ I2 ?_ h2 hE⟩;cases q0:X.s₀.heap.get? a with
  |none=>rfl
  |some o0 =>
   obtain⟨o1,q1⟩:=I1.base.there a o0 q0 (by rw[hex];simp);rw[hn]at q1;cases q1
 exact qC (wpAny_standAt (Lb (C:=C) (nm:=nm) (qn:=qn) (N:=N) (bs:=bs) (tl:=tl) (dy:=dy) (sn:=sn) (sub:=sub) (ab:=ab) (col:=col) (dd:=dd) (k0:=k0) (k1:=k1) (k2:=k2) (k3:=k3) (k5:=k5) (nid:="ValueError.__new__") (T.hasType FB.hasBase) (I.ok.hd hc)
  (qC (wpAny_mono call (λv s3 h3=>qC (wpAny_standAt (qD h3))) λ_ _ z=>z))))
theorem Sn(ha:PE X o ta)(hv:PE X value tv)(hs:swapsWith value (some (.Attribute o fld pos')) pos.line X.env=pure false:=by rfl):PS X (.Assign [.Attribute o fld pos'] value pos) (U4 X.K ta tv fld):=by intro pins s σ H D I h;refine plainObj_wpAny_Assign_Attribute (BX (hv pins s σ H _ I h) λu s1 ⟨y,H1,I1,ry,q⟩=>BX (ha pins s1 σ H1 _ I1 q) λov s2 z9=>?_) hs;obtain⟨x,H2,I2,rx,a,C,R,n,ex,ea,c,q2⟩:=z9;subst ex;obtain rfl:ov=Value.ref a:=rx;exact Qj I2 ea c ry λdx s3 hdx I3=>⟨σ,_,I3,q2 dx hdx⟩
end
theorem AY.turnedNew(I:AY X pins σ H s)(hf:∀b∈ch,GY X pins H b)(k:∀b u,b∉ch->s.heap.get? b=some u->h'.get? b=some u)(hp:s.heap.objs.size<=p)
  (new:Aw X.prog X.w (Aj H p o) h' p o):AY X pins σ (Aj H p o) {s with heap:=h',toks:=t'}:=by
 have hpn:H p=none:=I.hok.fresh hp;have nit:∀b u,H b=some u->b∉ch:=λb u e z=>by rw[(hf b z).1]at e;cases e
 have np:∀b u,s.heap.get? b=some u->b≠p:=λb u e=>YW (Xw (Xt e) hp)
 refine I.step (g':=s.gens) (d':=s.drawn) (ch:=ch) (λb hb=>⟨(hf b hb).2.2.2.1,(hf b hb).2.1,(hf b hb).2.2.2.2.1,(hf b hb).2.2.2.2.2⟩) (λb u _ _ hc e _=>k b u hc e) (λb u _ _ hc e _=>⟨u.slots,k b u hc e⟩)
  (λb u _ e n=>by rw[AK (np b u e)];exact n) (λb u hc e=>⟨u,k b u hc e⟩) (λb xs e=>by rw[AK (Al e hpn)];exact e) (λb u v e=>by rw[AK (Al e hpn)];exact e)
  (λb ps e=>⟨#[],by rw[AK (Al e hpn),e];simp⟩) (λm hm=>?_) (λb u e=>?_) I.bare
 ·obtain⟨o,es,ep,ho,r⟩:=hm;exact⟨o,es,ep,k _ o (λz=>(hf _ z).2.1 rfl) ho,r⟩
 ·by_cases z:b=p
  ·subst z;rw[AC]at e;cases e;exact new
  ·rw[AK z]at e;refine (I.hok b u e).stay (λc v hc q=>k c v ?_ q) (λc q=>by rw[AK (Al q hpn)];exact q) λc xs q=>by rw[AK (Al q hpn)];exact q
   rcases hc with y|y
   ·rw[y];exact nit b u e
   ·exact nit c _ y
noncomputable def U5(K:qJ)(a:Addr):It:=
 ⟨λi H=>∃xs x,Ad K H a xs/\xs[i]?=some x,λi H v H'=>∃p x,v=.ref p/\H p=none/\H'=Aj H p (.tup [.int i,x])/\∀xs,Ad K H a xs->xs[i]?=some x,λi H=>∃xs,Ad K H a xs/\xs.length<=i⟩
theorem Nf{P:Program}{w:World}{K:qJ}{elts:List Expr}{ctx}{tpos:Pos}(a e it:Addr)(hne:e≠it):
  IH P w K (.Tuple elts ctx tpos) (U5 K a) [e,it] e (λi h=>(∃old,IsEnum h e it ((i:Nat):Int) old)/\h.IsListIter it a i) where
 mem:=by simp
 obj:=λi h st b hb=>by
  obtain⟨⟨old,q⟩,o,e1,c,d⟩:=st;rcases YA.mp hb with z|z
  ·rw[z];exact⟨_,q,λv y=>by cases y⟩
  ·rw[Xl.mp z];exact⟨o,e1,λv y=>by rw[d]at y;cases y⟩
 keep:=λi h h' st k=>by obtain⟨⟨old,q⟩,li⟩:=st;exact⟨⟨old,k e (by simp) _ q⟩,li.at λo z=>k it (by simp) o z⟩
 item:=by
  intro X hP hw hK hc i pins s σ H E I hf st hg;subst hP hw hK;obtain⟨xs,x,hq,hx⟩:=hg;obtain⟨its,rv,p,hz⟩:=I.list hq;obtain⟨u,hu,ru⟩:=rv.get hx;obtain⟨⟨old,he⟩,li⟩:=st;refine wpAny_pyNext_enum_item he li p.isList (x:=u) (by simpa using hu) hne λh1 out li1 ht hsz k1=>?_;refine⟨_,rfl,wpAny_letOwnedTupleGo_enum out λh2 he2 sb=>?_⟩
  have k2:∀b o,b∉[e,it]->s.heap.get? b=some o->h2.get? b=some o:=λb o hb z=>by
   have hb1:b≠e:=λy=>hb (by simp[y])
   have hb2:b≠it:=λy=>hb (by simp[y])
   exact (sb.2 b hb1).trans (k1 b o hb1 hb2 z)
  have hpe:s.heap.objs.size≠e:=Zm (Xt he);have ht2:h2.get? s.heap.objs.size=some {cls:=.type "tuple",data:=.seq #[.int ((i:Nat):Int) s.toks,u]}:=(sb.2 _ hpe).trans ht;have hn:H s.heap.objs.size=none:=I.hok.fresh (Xr _);refine⟨.ref s.heap.objs.size,Aj H s.heap.objs.size (.tup [.int ((i:Nat):Int),x]),I.turnedNew (h':=h2) (t':=s.toks+1) hf k2 (Xr _) ?_,rfl,⟨_,x,rfl,hn,rfl,λys hy=>by rw[I.list_inj hy hq];exact hx⟩,⟨⟨u,?_⟩,?_⟩,λb hb=>?_⟩
  ·exact⟨by show 2<=sizeLine;decide,[.int ((i:Nat):Int) s.toks,u],.cons ⟨_,rfl⟩ (.cons ru .nil),⟨_,ht2,rfl,_,rfl⟩⟩
  ·have ec:(((i+1:Nat)):Int)=((i:Nat):Int)+1:=by push_cast;rfl
   rw[ec];exact he2
  ·exact li1.at λo z=>(sb.2 it (Ne.symm hne)).trans z
  ·have b0:=(hf b hb).1;rw[AK λz=>?_]
   ·exact b0
   ·obtain⟨o,z1,_⟩:=id li;rcases YA.mp hb with y|y
    ·exact hpe (z.symm.trans y)
    ·exact qG (Xt z1) (by rw[<-Xl.mp y,z];exact YE _)
 done:=by intro X hP hw hK hc i pins s σ H E I hf st hg;subst hP hw hK;obtain⟨xs,hq,hx⟩:=hg;obtain⟨its,rv,p,hz⟩:=I.list hq;obtain⟨⟨old,he⟩,li⟩:=st;obtain⟨f0,f1,f2,f3,f4,f5⟩:=hf it (by simp);have hl:=rv.length;exact wpAny_pyNext_enum_end (I.ok.hd hc) he li p.isList (by simp;lia) λh' eb=>⟨rfl,I.turned (t':=s.toks) (λb o hb e=>eb b o hb e) f0 f1 f3 f4 f5⟩
 self:=λ_ _ _ _ _ st h=>by obtain⟨⟨old,he⟩,_⟩:=st;exact wpAny_pyIter_enum he h
section
variable{elts:List Expr}{ctx}{tpos:Pos}
def U6(K:qJ)(ta:TA):TI:=λσ H R=>ta σ H λvs H1=>∃a xs,vs=[.ref a]/\Ad K H1 a xs/\R (U5 K a) H1
theorem Mj{l:Expr}{p pos:Pos}(hg:Gl X "enumerate")(hm:X.mg "enumerate"=none)(ha:PA X [l] ta)(hs:starEach [l] X.env=[(false,eval l X.env)]:=by rfl):PI X (.Tuple elts ctx tpos) (.Call (.Name "enumerate" p) [l] [] pos) (U6 X.K ta):=by
 intro pins s σ H R I h;refine Call_ (CD I hg hm boot_enumerate (YR (BX (ha pos pins s σ H _ I h) λus s1 z9=>?_) hs rfl));obtain⟨vs,H1,I1,r1,q1⟩:=z9;obtain⟨a,xs,e,hq,q⟩:=q1;subst e;cases r1 with
 |cons r rr =>
  cases rr;cases r;obtain⟨its,rv,pl,hz⟩:=I1.list hq;refine call_enumerate_list pl.isList λh1 he li hsz k1=>?_;refine wpAny_pyIter_enum he ?_;have n1:H1 (s1.heap.objs.size+1)=none:=I1.hok.fresh (Zd _);have n0:H1 s1.heap.objs.size=none:=I1.hok.fresh (Xr _);refine⟨s1.heap.objs.size+1,[s1.heap.objs.size+1,s1.heap.objs.size],_,_,H1,rfl,I1.kept (t':=s1.toks) k1,Nf a _ _ (Nat.succ_ne_self _),⟨⟨_,he⟩,li⟩,λb hb=>?_,q⟩;rcases YA.mp hb with z|z
  ·rw[z];exact I1.fpOk (Zd _) n1
  ·rw[Xl.mp z];exact I1.fpOk (Xr _) n0
theorem KJ{K:qJ}{g:TG}{tb:TS}(Pv:Nat->St->Hp->Prop)(h0:Pv 0 σ H)(hl:∀i σ H,i<=xs.length->Pv i σ H->Ad K H a xs)
  (hs:∀i x p σ H,xs[i]?=some x->Pv i σ H->H p=none->g (.ref p) σ (Aj H p (.tup [.int ((i:Nat):Int),x])) λσ2 H2=>tb {D with nx:=Pv (i+1),ct:=Pv (i+1),bk:=D.nx} σ2 H2) (hd:∀σ H,Pv xs.length σ H->D.nx σ H):
  ∃W:Nat->Nat->St->Hp->Prop,(∃m,W 0 m σ H)/\∀i m σ H,W i m σ H ->
   ((U5 K a).stop i H/\D.nx σ H)\/((U5 K a).go i H/\∃N:St->Hp->Prop,(∀σ' H',N σ' H'->∃m',m'<m/\W (i+1) m' σ' H')/\∀x H',(U5 K a).yld i H x H'->g x σ H' λσ2 H2=>tb {D with nx:=N,ct:=N,bk:=D.nx} σ2 H2):=by
 refine⟨λi m σ H=>m=xs.length-i/\i<=xs.length/\Pv i σ H,⟨xs.length,by simp,Nat.zero_le _,h0⟩,?_⟩;rintro i m σ H ⟨rfl,hi,p⟩;have q:=hl i σ H hi p
 by_cases hlt:i<xs.length
 ·refine .inr ⟨⟨xs,xs[i],q,by simp[hlt]⟩,Pv (i+1),λσ' H' p'=>⟨xs.length-(i+1),by lia,rfl,hlt,p'⟩,λv H' y=>?_⟩;obtain⟨p2,x,e1,e2,e3,y⟩:=y;subst e1 e3;exact hs i x p2 σ H (y xs q) p e2
 ·have e:i=xs.length:=by lia
  subst e;exact .inl ⟨⟨xs,q,Xr _⟩,hd σ H p⟩
end
theorem Mk:∀{xs:List V} {us:List Value},xs.length=us.length->(∀(i:Nat) (x:V) (u:Value),xs[i]?=some x->us[i]?=some u->Aq x u)->Ao xs us
 |[],[],_,_=>.nil
 |x::xs,u::us,hl,h=>.cons (h 0 x u rfl rfl) (Mk (by simpa using hl) λi y v e1 e2=>h (i+1) y v (by simpa using e1) (by simpa using e2))
 |[],_::_,hl,_=>by simp at hl
 |_::_,[],hl,_=>by simp at hl
section
variable{a:Expr}{cs:List Expr}{ta:TE}{tc:TA}{p pos tpos:Pos}{ctx}
noncomputable def Om(K:qJ):List V->Hp->VK->Prop
 |[x,c],H,Q=>∃t tp vs us b,Ub K H x t/\c=.ref tp/\H tp=some (.tup vs)/\vs.map Qf=us.map some/\PySem.W.kitAny K t us=some b/\Q (.bl b) H
 |_,_,_=>False
theorem KL:∀{vs:List V} {its us:List Value},Ao vs its->vs.map Qf=us.map some->its=us
 |_,_,[],.nil,_=>rfl
 |_,_,_::_,.nil,e=>by simp at e
 |_,_,[],.cons _ _,e=>by simp at e
 |x::xs,_,u::us,.cons r rr,e=>by
  simp only[List.map_cons,List.cons.injEq]at e;obtain⟨e1,e2⟩:=e;rw[KL rr e2]
  congr 1
  cases x with
  |ty n=>cases e1;exact r
  |ref a=>cases e1;exact r
  |_=>cases e1
theorem So{x:V}{v t:Value}(I:AY X pins σ H s)(rx:Aq x v)(ty:Ub X.K H x t):(∃φ,PySem.W.KitX X.K v t φ/\φ s.heap)/\v≠.builtin "__main__.__loader__#opaque":=by
 cases ty with
 |of ty =>
  cases ty with
  |non=>cases (show v=Value.none from rx);exact⟨⟨_,PySem.W.kitx_none,True.intro⟩,λz=>nomatch z⟩
  |bl y=>cases (show v=Value.bool y from rx);exact⟨⟨_,PySem.W.kitx_bool,True.intro⟩,λz=>nomatch z⟩
  |int i=>obtain⟨t,q⟩:=(show ∃t,v=Value.int i t from rx);cases q;exact⟨⟨_,PySem.W.kitx_int,True.intro⟩,λz=>nomatch z⟩
  |str y=>obtain⟨t,q⟩:=(show ∃t,v=Value.str y t from rx);cases q;exact⟨⟨_,PySem.W.kitx_str,True.intro⟩,λz=>nomatch z⟩
  |flt y=>obtain⟨t,q⟩:=(show ∃t,v=Value.float y t from rx);cases q;exact⟨⟨_,PySem.W.kitx_float,True.intro⟩,λz=>nomatch z⟩
  | @lst a xs ea =>
   cases (show v=Value.ref a from rx);obtain⟨_,_,n,_,h1⟩:=(show Aw X.prog X.w H s.heap a (.lst xs) from I.hok a _ ea);exact⟨⟨_,aO,⟨_,h1,rfl⟩⟩,λz=>nomatch z⟩
  | @frz a ob xs ea =>
   cases (show v=Value.ref a from rx);obtain⟨_,_,_,n,_,h1⟩:=(show Aw X.prog X.w H s.heap a (.frz ob (.lst xs)) from I.hok a _ ea);exact⟨⟨_,aO,⟨_,h1,rfl⟩⟩,λz=>nomatch z⟩
  | @tup a xs ea =>
   cases (show v=Value.ref a from rx);obtain⟨_,_,_,p⟩:=(show Aw X.prog X.w H s.heap a (.tup xs) from I.hok a _ ea);obtain⟨o,h1,h2,_⟩:=p;exact⟨⟨_,PySem.W.kitx_tuple,⟨o,h1,h2⟩⟩,λz=>nomatch z⟩
  | @dK a kvs ea =>
   cases (show v=Value.ref a from rx);obtain⟨_,_,vs,_,p⟩:=(show Aw X.prog X.w H s.heap a (.dK kvs) from I.hok a _ ea);obtain⟨o,es,ep,h1,h2,_⟩:=p;exact⟨⟨_,aP,⟨o,h1,h2.1⟩⟩,λz=>nomatch z⟩
  | @dT a kvs ea =>
   cases (show v=Value.ref a from rx);obtain⟨_,_,xs,_,o,es,ep,h1,h2,_⟩:=(show Aw X.prog X.w H s.heap a (.dT kvs) from I.hok a _ ea);exact⟨⟨_,aP,⟨o,h1,h2.1⟩⟩,λz=>nomatch z⟩
  | @ins a C dx fs ea cl ha hn htk hm =>
   cases (show v=Value.ref a from rx);obtain⟨mA,O,_⟩:=Mc I.hok ea;obtain⟨od,J,_⟩:=O.look;exact⟨⟨_,PySem.W.kitx_own (cl.get _) cl.hd ha hn htk hm,J⟩,λz=>nomatch z⟩
 | @exc a D dy n e ck =>
  cases (show v=Value.ref a from rx);obtain⟨x,_,_⟩:=(show Aw X.prog X.w H s.heap a (.ext (EN a (.ref D) _ _)) from I.hok a _ e);exact⟨⟨_,KE ck,x⟩,λz=>nomatch z⟩
theorem Ng:E3 X (.builtin "isinstance") (Om X.K):=by
 intro pins s σ H xs us Q I rv h
 match xs,h with
 |[x,c],h =>
 obtain⟨t,tp,vs,ucs,b,ty,rfl,ht,hcs,k,q⟩:=h;obtain⟨v1,v2,rfl,r1,r2⟩:=Mb rv;cases (show v2=Value.ref tp from r2);obtain⟨_,its,rits,o,ho,hcl,n,hd⟩:=(show Aw X.prog X.w H s.heap tp (.tup vs) from I.hok tp _ ht);obtain⟨c1,c2,c3,c4⟩:=o;dsimp only at hcl hd;subst hcl hd;have e:=KL rits hcs;subst e;obtain⟨⟨φ,Z,hφ⟩,hx⟩:=So I r1 ty;exact PySem.W.kia_tup Z I.kIn hφ ho k hx λtk=>⟨.bl b,H,I.tok tk,rfl,q⟩
theorem Ql(hg:Gl X "isinstance")(hm:X.mg "isinstance"=none)(ha:PE X a ta)(hc:PA X cs tc)(h1:starEach [a,.Tuple cs ctx tpos] X.env=(false,eval a X.env)::starEach [.Tuple cs ctx tpos] X.env:=by rfl)
  (h2:starEach [.Tuple cs ctx tpos] X.env=(false,eval (.Tuple cs ctx tpos) X.env)::starEach [] X.env:=by rfl)
  (h3:(backTo pos (starEach [.Tuple cs ctx tpos] X.env)).any (·.1)=false:=by rfl):PE X (.Call (.Name "isinstance" p) [a,.Tuple cs ctx tpos] [] pos) (Uu (Om X.K) (Az ta (Az (EK tc) DN))):=
 AV Ng hg hm PyProof.Rows.boot_isinstance (AA ha (AA (Fp hc) AB h2) h1) (by decide) (by decide) h1 h3
end
section
variable{K:qJ}
theorem Rn:PySem.W.kitOne K (.type "int") (.type "int")=some true:=by kernel_rfl
theorem Ro:PySem.W.kitOne K (.type "int") (.type "bool")=some false:=by kernel_rfl
theorem Rp:PySem.W.kitOne K (.type "bool") (.type "int")=some true:=by kernel_rfl
theorem On:PySem.W.kitOne K (.type "bool") (.type "bool")=some true:=by kernel_rfl
theorem Rq:PySem.W.kitOne K (.type "NoneType") (.type "int")=some false:=by kernel_rfl
theorem Rr:PySem.W.kitOne K (.type "str") (.type "int")=some false:=by kernel_rfl
theorem Rs:PySem.W.kitOne K (.type "list") (.type "int")=some false:=by kernel_rfl
theorem Rt:PySem.W.kitOne K (.type "list") (.type "list")=some true:=by kernel_rfl
theorem U7:PySem.W.kitOne K (.type "tuple") (.type "tuple")=some true:=by kernel_rfl
theorem U8:PySem.W.kitOne K (.type "tuple") (.type "list")=some false:=by kernel_rfl
theorem Ru:PySem.W.kitOne K (.type "tuple") (.type "int")=some false:=by kernel_rfl
end
structure A5(P:Program)(w:World)(K:qJ)(mg:Str->Option Value)(base:Heap)(k:Nat)(f:Addr)(ps:List Str)(sp:Sp):Prop where
 ex:∃fd,Ex P w K mg base (IY P w) k f fd ps sp/\EL K fd ps []
 kp:PySem.W.keepIn K (.ref f)=true
section
variable{P:Program}{w:World}{K:qJ}{mg:Str->Option Value}{base:Heap}{st:Stmt}{N:List Str}{k:Nat}
theorem B1.ok0(F:B1 K x qual st f fd)(S:AL N ps (AH st))(len:∀vs H Q E,sp vs H Q E->vs.length=ps.length)
  (hbody:∀(cdv:Value) (A:Around) (outer:List Env) (s:Shared) (H:Hp) (vs:List V) (Q:VK) (E:XK),Bs k (A.deeper (envOfC qual (AH st) s.heap.objs.size f cdv))->sp vs H Q E ->
   ∃t,Gd (DX (IY P w) P w K mg base N qual (AH st) f cdv A outer s H E).nox (Bd st) t/\t {nx:=λ_ H'=>Q .non H',rt:=Q} (Ci N vs) H):Ex P w K mg base (IY P w) (k+1) f fd ps sp:=
 F.okX S len λcdv A outer s H vs Q E hr hsp=>by obtain⟨t,h,q⟩:=hbody cdv A outer s H vs Q E hr hsp;exact⟨t,h.nox,q⟩
abbrev Dh(x qual:Str)(st:Stmt)(ps:List Str):Prop:=∀(kV doc pm:Value) (an:Option Addr) (cdv ct:Value) (us:List Value),us.length=ps.length->bindArgs (PySem.W.fnOf x qual (DQ st) (Bd st) (AH st) .none kV doc pm an cdv ct) ⟨us,[]⟩=pure (ps.zip us)
theorem Qm(D:∃fd,B1 K x qual st f fd)(S:AL N ps (AH st))(bd:Dh x qual st ps)(len:∀vs H Q E,sp vs H Q E->vs.length=ps.length)
  (hbody:∀(cdv:Value) (A:Around) (outer:List Env) (s:Shared) (H:Hp) (vs:List V) (Q:VK) (E:XK),Bs k (A.deeper (envOfC qual (AH st) s.heap.objs.size f cdv))->sp vs H Q E ->
   ∃t,Gd (DX (IY P w) P w K mg base N qual (AH st) f cdv A outer s H E).nox (Bd st) t/\t {nx:=λ_ H'=>Q .non H',rt:=Q} (Ci N vs) H):A5 P w K mg base (k+1) f ps sp:=by
 obtain⟨fd,F⟩:=D;exact⟨⟨fd,F.ok0 S len hbody,F.binds bd⟩,F.kp⟩
theorem Qn(D:∃fd,B1 K x qual st f fd)(S:AL N ps (AH st))(bd:Dh x qual st ps)(len:∀vs H Q E,sp vs H Q E->vs.length=ps.length)
  (hbody:∀(cdv:Value) (A:Around) (outer:List Env) (s:Shared) (H:Hp) (vs:List V) (Q:VK) (E:XK),Bs k (A.deeper (envOfC qual (AH st) s.heap.objs.size f cdv))->sp vs H Q E ->
   ∃t,Gd (DX (IY P w) P w K mg base N qual (AH st) f cdv A outer s H E) (Bd st) t/\t {nx:=λ_ H'=>Q .non H',rt:=Q} (Ci N vs) H):A5 P w K mg base (k+1) f ps sp:=by
 obtain⟨fd,F⟩:=D;exact⟨⟨fd,F.okX S len hbody,F.binds bd⟩,F.kp⟩
end
section
variable{k:Nat}{E:St->XK}{EX:XK}{np p pos cpos:Pos}{e:Expr}{t:TA}
theorem BO(G:A5 X.prog X.w X.K X.mg X.base k f ps sp)(hr:Bs k X.A)(hg:Gl X x)(hm:X.mg x=some (.ref f))(hx:Ek (IY X.prog X.w) X E)
  (ha:PA X (e::es) t) (hdb:(x==("__debug__":Str))=false:=by decide) (he:starEach (e::es) X.env=(false,eval e X.env)::starEach es X.env:=by rfl) (hpl:(backTo pos (starEach es X.env)).any (·.1)=false:=by rfl):
  PE X (.Call (.Name x p) (e::es) [] pos) (G6 sp [] E t):=by
 obtain⟨⟨fd,F,b⟩,kp⟩:=G;exact KC F hr hg hm kp b .nil hx ha hdb he hpl
theorem Ia(hc:X.calm=true)(M:We X.K C f)(G:A5 X.prog X.w X.K X.mg X.base k f ps sp)(hr:Bs (k+1) X.A)(hg:Gl X x)(hm:X.mg x=some (.ref C))(hx:JO X (.ref C) EX)(ha:PA X (e::es) t)(hex:X.ex=[]:=by rfl)
  (hdb:(x==("__debug__":Str))=false:=by decide) (he:starEach (e::es) X.env=(false,eval e X.env)::starEach es X.env:=by rfl) (hpl:(backTo cpos (starEach es X.env)).any (·.1)=false:=by rfl):
  PS X (.Raise (some (.Call (.Name x np) (e::es) [] cpos)) none pos) (JN C sp EX t):=by
 obtain⟨⟨fd,F,b⟩,kp⟩:=G;exact Nd hc M F hr b hg hm hx ha hex hdb he hpl
theorem El{i:Int}(hg:Gl X x)(hm:∃t,X.mg x=some (.int i t))(hd:(x==("__debug__":Str))=false:=by decide):PE X (.Name x pos) (tC (.int i)):=by obtain⟨t,hm⟩:=hm;exact Oi hg hm hd
end
inductive JP(K:qJ)(vs:List V)(H:Hp)(Q:VK)(z3_:XK):Prop
 |m (a:Addr) (ns:List Int) (k:Nat):vs=[.ref a,.int k]->Ad K H a (ns.map V.int)->ns.length<=63->Q (.int (ns.getD k 0)) H->JP K vs H Q z3_
noncomputable def Kd(H:Hp):V->Prop
 |.int _=>True
 |.bl _=>True
 |.non=>True
 |.str _=>True
 |.ref a=>∃xs,H a=some (.lst xs)\/H a=some (.tup xs)
 |_=>False
theorem Kd.same(e:AG H H'):∀{x:V},Kd H x->Kd H' x
 |.int _,_=>True.intro
 |.bl _,_=>True.intro
 |.non,_=>True.intro
 |.str _,_=>True.intro
 |.ref a,h=>by obtain⟨xs,h⟩:=h;exact⟨xs,h.elim (λq=>.inl (e _ _ q)) λq=>.inr (e _ _ q)⟩
noncomputable def Lc:V->Bool
 |.int _=>true
 |_=>false
inductive Du(vs:List V)(H:Hp)(Q:VK)(z3_:XK):Prop
 |m (x:V):vs=[x]->Kd H x->Q (.bl (Lc x)) H->Du vs H Q z3_
noncomputable def Oo(g:Int):V->Bool
 |.int i=>decide (0<=i)&&decide (i<g)
 |_=>false
inductive JQ(vs:List V)(H:Hp)(Q:VK)(z3_:XK):Prop
 |m (x:V) (g:Int):vs=[x,.int g]->Kd H x->Q (.bl (Oo g x)) H->JQ vs H Q z3_
inductive JR(K:qJ)(C R:Addr)(vs:List V)(H:Hp)(Q:VK)(z3_:XK):Prop
 |m (a:Addr) (n:Bool) (y:V):vs=[.ref a,y]->H a=some (Mh a (.ref C) none n)->(∀dx,H dx=none->Q .non (Aj (Aj H a (Mh a (.ref C) (some dx) n)) dx (.xd [("at",y)])))->JR K C R vs H Q z3_
def Qo(C:Addr)(i:Nat)(H:Hp)(E:XK):Prop:=∀H' dx,AG H H'->H' dx=some (.xd [("at",.int ((i:Nat):Int))])->E (.ref C) (some dx) H'
noncomputable def B3(g:Int)(xs:List V):Option Nat:=xs.findIdx? λx=>!Oo g x
inductive FY(K:qJ)(C:Addr)(vs:List V)(H:Hp)(Q:VK)(E:XK):Prop
 |m (a:Addr) (xs:List V) (g:Int):vs=[.ref a,.int g]->Ad K H a xs->(∀x∈xs,Kd H x)->(match B3 g xs with|none=>∀H',AG H H'->Q .non H'|some i=>Qo C i H E)->FY K C vs H Q E
noncomputable def Ld(g n:Int)(ns:List Int):Int:=ns.foldl (λm x=>m*g+x) n
noncomputable def BJ(g:Int)(ns:List Int):Int:=Ld g 0 ns
inductive G8(K:qJ)(C:Addr)(vs:List V)(H:Hp)(Q:VK)(E:XK):Prop
 |m (a:Addr) (xs:List V) (g:Int):vs=[.ref a,.int g]->2<=g->g<=9->Ad K H a xs->(∀x∈xs,Kd H x)->(match B3 g xs with|none=>∀ns:List Int,xs=ns.map V.int->∀H',AG H H'->Q (.int (BJ g ns)) H'|some i=>Qo C i H E)->G8 K C vs H Q E
variable{g:Int}
theorem Dv(h:B3 g xs=none):∃ns:List Int,xs=ns.map V.int/\∀n∈ns,0<=n/\n<g:=by
 unfold B3 at h;rw[Z4]at h
 induction xs with
 |nil=>exact⟨[],rfl,λn z=>qG z (by simp)⟩
 |cons x xs ih =>
  obtain⟨ns,e,b⟩:=ih λy hy=>h y (X0 _ hy)
  have hx:=h x X6;cases x with
  |int i =>
   simp only[Oo,Bool.not_eq_false',Bool.and_eq_true,decide_eq_true_eq]at hx;exact⟨i::ns,by rw[e];rfl,λn z=>(YA.mp z).elim (λq=>q▸hx) (b n)⟩
  |_=>simp[Oo]at hx
theorem FD{ns:List Int}(h:∀n∈ns,0<=n/\n<g):B3 g (ns.map V.int)=none:=by unfold B3;rw[Z4];intro x hx;obtain⟨n,hn,e⟩:=YH.mp hx;subst e;have q:=h n hn;simp[Oo,q.1,q.2]
theorem Ge{ns:List Int}:∀x∈ns.map V.int,Kd H x:=λx hx=>by obtain⟨n,_,e⟩:=YH.mp hx;subst e;exact True.intro
end L2
namespace L2
open PySem
variable{D:Gu}{H H' H1:Hp}{dx:Addr}{g:Int}{i:Nat}{o:HO}{xs:List V}{σ:St}
theorem Sq{t:TS}(Z:Hp->Prop)(hz:Z H')(h:∀H2,Z H2->t D σ H2):t D σ H':=h H' hz
theorem FZ{ns ms:List Int}(h:ns.map V.int=ms.map V.int):ns=ms:=(List.map_inj_right (f:=V.int) λ_ _ e=>V.int.inj e).mp h
theorem Qp(h:2<=g)(l:List Int):∀n∈l.map (·%g),0<=n/\n<g:=λn hn=>by obtain⟨m,_,e⟩:=YH.mp hn;subst e;exact⟨YY _ (by lia),YQ _ (by lia)⟩
theorem G9{ea:Addr}{o2 o3:HO}(e:AG H H1)(hea:H1 ea=none)(hdx:Aj H1 ea o dx=none):AG H (FW (Aj (Aj (Aj H1 ea o) ea o2) dx o3) ea):=λb u q=>by have q1:=e b u q;have n1:=Al q1 hea;have n2:=Al q1 (Dg hdx).2;rw[Ch n1,AK n2,AK n1,AK n1];exact q1
theorem FE{x:V}(hb:B3 g (xs.take i)=none)(hx:xs[i]?=some x)(hs:Oo g x=true):B3 g (xs.take (i+1))=none:=by
 unfold B3 at *;rw[Z4]at hb⊢;intro y hy;rw[ZI,hx]at hy;rcases Xq.mp hy with z|z
 ·exact hb y z
 ·have e:y=x:=by simpa using z
  rw[e,hs];rfl
theorem FF{x:V}(hb:B3 g (xs.take i)=none)(hx:xs[i]?=some x)(hs:Oo g x=false):B3 g xs=some i:=by
 obtain⟨hi,ex⟩:=Xo.mp hx
 have e:xs=xs.take i++x::xs.drop (i+1):=by rw[<-ex,<-Y0 hi,Ye]
 unfold B3 at *;rw[e,List.findIdx?_append,hb];simp[List.findIdx?_cons,hs,List.length_take];lia
theorem By{ns:List Int}{x:V}(h:(ns.map V.int)[i]?=some x):∃n,ns[i]?=some n/\x=.int n:=by rw[Xu]at h;obtain⟨n,e1,e2⟩:=Ys.mp h;exact⟨n,e1,e2.symm⟩
theorem KM{n:Int}{ns:List Int}(h:ns[i]?=some n):BJ g (ns.take (i+1))=BJ g (ns.take i)*g+n:=by unfold BJ Ld;rw[ZI,h,Zu];rfl
noncomputable def low(g:Int):List Int->Int
 |[]=>0
 |x::r=>x+g*low g r
theorem KN(g x:Int):∀l:List Int,low g (l++[x])=low g l+x*g^l.length
 |[]=>by simp[low]
 |y::l=>by
  rw[Z6,low,low,KN g x l,YZ,X9,Int.mul_add,Int.add_assoc]
  congr 2
  rw[Yf g,Int.mul_assoc]
theorem HC(g x:Int)(l:List Int):BJ g (l++[x])=BJ g l*g+x:=by unfold BJ Ld;rw[Zu];rfl
theorem JS(g:Int):∀l:List Int,BJ g l.reverse=low g l
 |[]=>rfl
 |x::l=>by rw[List.reverse_cons,HC,JS g l,low,Yf,Int.add_comm]
theorem Ml(g:Int)(ns:List Int):BJ g ns=low g ns.reverse:=by rw[<-JS,List.reverse_reverse]
end L2
namespace L2
open PySem PySem.Spec PyProof.Rows
variable{C a f it:Addr}{D:Gu}{E Q:Value->Shared->Prop}{H H' H2:Hp}{T:String}{X:Cx}{es:List Expr}{fp:List Addr}{h':Heap}{i:Nat}{items:Array Value}{pins:List (Addr×Obj)}{ps:List Str}{qual x:Str}{s s':Shared}{scope:Scope}{sp:Sp}{ta:TA}{te:TE}{tg:Expr}{xs:List V}{σ:St}
mutual
inductive IJ(K:qJ)(H:Hp):V->PyData->Prop
 |non:IJ K H .non .none
 |bl (b:Bool):IJ K H (.bl b) (.bool b)
 |int (i:Int):IJ K H (.int i) (.int i)
 |str (x:Str):IJ K H (.str x) (.str x)
 |lst {a:Addr} {xs:List V} {ds:List PyData}:Ad K H a xs->DY K H xs ds->IJ K H (.ref a) (.list ds)
 |tup {a:Addr} {xs:List V} {ds:List PyData}:Bi K H a xs->DY K H xs ds->IJ K H (.ref a) (.tuple ds)
inductive DY(K:qJ)(H:Hp):List V->List PyData->Prop
 |nil:DY K H [] []
 |cons {x:V} {xs:List V} {d:PyData} {ds:List PyData}:IJ K H x d->DY K H xs ds->DY K H (x::xs) (d::ds)
end
mutual
theorem IJ.reads(I:AY X pins σ H s):∀{x:V} {d:PyData} {u:Value},IJ X.K H x d->Aq x u->∃as,Reads s.heap u d as
 |_,_,_,.non,r=>by cases r;exact⟨_,.none⟩
 |_,_,_,.bl b,r=>by cases r;exact⟨_,.bool b⟩
 |_,_,_,.int i,r=>by obtain⟨t,e⟩:=r;subst e;exact⟨_,.int i t⟩
 |_,_,_,.str x,r=>by obtain⟨t,e⟩:=r;subst e;exact⟨_,.str x t⟩
 |_,_,_,.lst hq ha,r=>by cases r;obtain⟨its,rv,⟨o,n,e,c,_,d⟩,_⟩:=I.list hq;obtain⟨as,q⟩:=DY.reads I ha rv;exact⟨_,.list e c d (by simpa using q)⟩
 |_,_,_,.tup hq ha,r=>by cases r;obtain⟨its,rv,⟨o,e,c,n,d⟩,_⟩:=I.tuple hq;obtain⟨as,q⟩:=DY.reads I ha rv;exact⟨_,.tuple e c d (by simpa using q)⟩
theorem DY.reads(I:AY X pins σ H s):∀{xs:List V} {ds:List PyData} {us:List Value},DY X.K H xs ds->Ao xs us->∃as,ReadsAll s.heap us ds as
 |_,_,_,.nil,.nil=>⟨_,.nil⟩
 |_,_,_,.cons h t,.cons r rr=>by obtain⟨as,q⟩:=IJ.reads I h r;obtain⟨bs,q2⟩:=DY.reads I t rr;exact⟨_,.cons q q2⟩
end
theorem U9{it:Expr}{w1 w2:TI}(h1:PI X tg it w1)(h2:PI X tg it w2):PI X tg it (λσ H R=>w1 σ H R\/w2 σ H R):=λpins s σ H R I h=>h.elim (λq=>h1 pins s σ H R I q) λq=>h2 pins s σ H R I q
theorem Xc{K:qJ}{t:Value}(h:PySem.W.kitOne K t (.type T)=some true)(r:List Value):PySem.W.kitAny K t (.type T::r)=some true:=by unfold PySem.W.kitAny;rw[h]
theorem Qq{K:qJ}{t:Value}{r:List Value}{b:Bool}(h:PySem.W.kitOne K t (.type T)=some false)(h2:PySem.W.kitAny K t r=some b):PySem.W.kitAny K t (.type T::r)=some b:=by unfold PySem.W.kitAny;rw[h];exact h2
section
variable{K:qJ}
theorem VA:PySem.W.kitOne K (.type "NoneType") (.type "list")=some false:=by kernel_rfl
theorem VB:PySem.W.kitOne K (.type "NoneType") (.type "tuple")=some false:=by kernel_rfl
theorem VC:PySem.W.kitOne K (.type "str") (.type "list")=some false:=by kernel_rfl
theorem VD:PySem.W.kitOne K (.type "str") (.type "tuple")=some false:=by kernel_rfl
theorem VE:PySem.W.kitOne K (.type "int") (.type "list")=some false:=by kernel_rfl
theorem VF:PySem.W.kitOne K (.type "int") (.type "tuple")=some false:=by kernel_rfl
theorem VG:PySem.W.kitOne K (.type "bool") (.type "list")=some false:=by kernel_rfl
theorem VH:PySem.W.kitOne K (.type "bool") (.type "tuple")=some false:=by kernel_rfl
end
theorem Bt{K:qJ}(h:X.K=K):UZ X (Uv K):=h▸An
theorem Mm{K:qJ}(h:X.K=K):UZ X (Uw K):=h▸Ai
structure Qr(P:Program)(w:World)(K:qJ)(mg:Str->Option Value)(base:Heap)(k:Nat)(f:Addr)(ps:List Str)(sp:Sp):Prop where
 ex:∃fd,Ex P w K mg base (IX true P w) k f fd ps sp/\EL K fd ps []
 kp:PySem.W.keepIn K (.ref f)=true
section
variable{P:Program}{w:World}{K:qJ}{mg:Str->Option Value}{base:Heap}{st:Stmt}{N:List Str}{k:Nat}
theorem Qs(D:∃fd,B1 K x qual st f fd)(S:AL N ps (AH st))(bd:Dh x qual st ps)(len:∀vs H Q E,sp vs H Q E->vs.length=ps.length)
  (hbody:∀(cdv:Value) (A:Around) (outer:List Env) (s:Shared) (H:Hp) (vs:List V) (Q:VK) (E:XK),Bs k (A.deeper (envOfC qual (AH st) s.heap.objs.size f cdv))->sp vs H Q E ->
   ∃t,Gd (DX (IX true P w) P w K mg base N qual (AH st) f cdv A outer s H E) (Bd st) t/\t {nx:=λ_ H'=>Q .non H',rt:=Q} (Ci N vs) H):Qr P w K mg base (k+1) f ps sp:=by
 obtain⟨fd,F⟩:=D;exact⟨⟨fd,F.okX S len hbody,F.binds bd⟩,F.kp⟩
end
section
variable{k:Nat}{E:St->XK}{p pos:Pos}{e:Expr}{t:TA}
theorem Op(G:Qr X.prog X.w X.K X.mg X.base k f ps sp)(hr:Bs k X.A)(hg:Gl X x)(hm:X.mg x=some (.ref f))(hx:Ek (IX true X.prog X.w) X E)
  (ha:PA X (e::es) t) (hdb:(x==("__debug__":Str))=false:=by decide) (he:starEach (e::es) X.env=(false,eval e X.env)::starEach es X.env:=by rfl) (hpl:(backTo pos (starEach es X.env)).any (·.1)=false:=by rfl):
  PE X (.Call (.Name x p) (e::es) [] pos) (G6 sp [] E t):=by
 obtain⟨⟨fd,F,b⟩,kp⟩:=G;exact KC F hr hg hm kp b .nil hx ha hdb he hpl
end
noncomputable def IE(X:Cx)(s2:Shared)(H2:Hp)(env:Env)(fp:List Addr)(N:List Str):Cx:={X with N:=N,s₀:=s2,H₀:=H2,env:=env,outer:=X.stack,ex:=fp,fn:=λ_=>false,pn:=[],xe:=λ_ _=>False}
theorem VI{s2:Shared}{env:Env}{N:List Str}:(IE X s2 H2 env fp N).K=X.K:=rfl
noncomputable def JT(env:Env):List (Str×Addr)->Prop
 |[]=>True
 | (y,c)::r=>env.cells.lookup y=some c/\JT env r
theorem JT.at'{env:Env}:∀{cl:List (Str×Addr)},JT env cl->∀{y:Str} {c:Addr},cl.lookup y=some c->env.cells.lookup y=some c
 |[],_,_,_,h=>by cases h
 | (z,d)::r,⟨h1,h2⟩,y,c,h=>by
  rw[ZM]at h;cases e:y==z with
  |true =>
   rw[e]at h;cases h;rw[eq_of_beq e];exact h1
  |false =>
   rw[e]at h;exact h2.at' h
noncomputable def Wf:Option NameKind->Bool
 |some .cell=>true
 |some .free=>true
 |_=>false
theorem Sr{k:Option NameKind}(h:Wf k=true):k=some .cell\/k=some .free:=by
 unfold Wf at h
 split at h
 ·exact .inl rfl
 ·exact .inr rfl
 ·cases h
noncomputable def KO(X:Cx)(scope:Scope)(cl:List (Str×Addr)):List (Nat×Str)->Prop
 |[]=>True
 | (j,y)::r=>(X.N[j]?=some y/\Wf (X.env.scope.names.lookup y)=true/\(relabel scope X.env).names.lookup y=X.env.scope.names.lookup y/\(cl.lookup y).isSome=true)/\KO X scope cl r
theorem KO.at'{cl:List (Str×Addr)}:∀{fv:List (Nat×Str)},KO X scope cl fv->∀q∈fv,X.N[q.1]?=some q.2/\Wf (X.env.scope.names.lookup q.2)=true/\(relabel scope X.env).names.lookup q.2=X.env.scope.names.lookup q.2/\(cl.lookup q.2).isSome=true
 |[],_,q,h=>by cases h
 | (j,y)::r,⟨h1,h2⟩,q,h=>(YA.mp h).elim (λe=>by rw[e];exact h1) λz=>h2.at' q z
noncomputable def E6(σ:St)(fv:List (Nat×Str)):List (Option V):=fv.map λq=>(σ[q.1]?).join
def PF(X:Cx)(ifs:List Expr)(t:TT):Prop:=∀(pins:List (Addr×Obj)) (s:Shared) (σ:St) (H:Hp) (Q:Bool->Hp->Prop),AY X pins σ H s->t σ H Q ->
 wpAny (model X.prog X.w) X.A (forIn ifs true λc r=>if r=true then do let ok <-isTrue c X.env (eval c X.env);pure (ForInStep.yield ok) else pure (ForInStep.yield r)) (TP X pins σ Q) X.xe s
def Oq:TT:=λ_ H Q=>Q true H
theorem Bz:PF X [] Oq:=λpins s σ H Q I h=>qD ⟨H,I,h⟩
theorem JU{c:Expr}{t:TT}(h:PT X c t):PF X [c] t:=λpins s σ H Q I q=>by simp only[List.forIn_cons,List.forIn_nil,if_true];exact qC (qC (BX (h pins s σ H Q I q) λb s1 z=>qD (qD z)))
def EQ(J:It)(tt:TT)(te:TE)(σf:List (Option V))(D:Addr)(Q:VK)(H:Hp):Prop:=∃W:Nat->Nat->List V->Hp->Prop,(∃n,W n 0 [] (Aj H D (.lst [])))/\∀n i acc H2,W n i acc H2 ->
 (J.stop i H2/\Q (.ref D) H2)\/(J.go i H2/\∃N:List V->Hp->Prop,(∀l H',N l H'->∃n',n'<n/\W n' (i+1) l H')/\∀v H3,J.yld i H2 v H3->tt (some v::σf) H3 λb H4 =>
  if b=true then te (some v::σf) H4 λy H5=>H5 D=some (.lst acc)/\acc.length<sizeLine/\N (acc++[y]) (Aj H5 D (.lst (acc++[y]))) else N acc H4)
def Os(wi:TI)(fv:List (Nat×Str))(tt:TT)(te:TE):TE:=λσ H Q=>wi σ H λJ H1=>∀D,H1 D=none->EQ J tt te (E6 σ fv) D Q H1
section
variable{X:Cx}{x:Str}{px pos:Pos}{elt iter:Expr}{ifs:List Expr}{scope:Scope}{cl:List (Str×Addr)}{fv:List (Nat×Str)}{wi:TI}{tt:TT}{te:TE}
 {pins:List (Addr×Obj)} {σ:St} {H2:Hp} {s2:Shared} {fp:List Addr} {it:Addr} {tn:Nat->Heap->Prop} {J:It}
theorem Ss{N:List Str}(I2:AY X pins σ H2 s2)(f2:∀b∈fp,GY X pins H2 b)(o2:∀b∈fp,∃o,s2.heap.get? b=some o/\∀v,o.data≠.cell v)(hC:s2.heap.objs.size<=C)(hk:scope.kind=.function)(hcl:JT X.env cl)
  (hhas:((relabel scope X.env).names.all λz=>!(z.2==.cell||z.2==.free)||(cl.lookup z.1).isSome)=true):(IE X s2 H2 (compEnvC scope cl C X.env) fp N).Ok where
 mod:=I2.ok.mod
 kind:=hk
 glob:=I2.ok.glob
 blt:=I2.ok.blt
 above:=hC
 inj:=λx y c h1 h2=>I2.ok.inj x y c (hcl.at' h1) (hcl.at' h2)
 has:=λy h=>by
  have key:∀k:NameKind,(relabel scope X.env).names.lookup y=some k->(k==.cell||k==.free)=true->∃c,cl.lookup y=some c:=λk hl hk=>by
   have mem:(y,k)∈(relabel scope X.env).names:=by
    generalize (relabel scope X.env).names=l at hl
    induction l with
    |nil=>cases hl
    |cons q r ih =>
     rw[ZM]at hl;cases e:y==q.1 with
     |true =>
      rw[e]at hl;cases hl;rw[eq_of_beq e];exact X6
     |false =>
      rw[e]at hl;exact X0 _ (ih hl)
   have z:=List.all_eq_true.mp hhas _ mem;simp only[hk,Bool.not_true,Bool.false_or]at z;exact Z7.mp z
  rcases h with h|h
  ·exact key _ h rfl
  ·exact key _ h rfl
 cab:=λ_ _ h=>nomatch h
 hd:=I2.ok.hd
 frames:=I2.ok.frames
 stk:=.inl rfl
 exf:=λb hb=>by obtain⟨o,e,_⟩:=o2 b hb;exact⟨YW (Xw (Xt e) hC),λy c h=>(f2 b hb).2.2.2.2.1 y c (hcl.at' h)⟩
 bs:=λb o e=>I2.bs b o e
 bsz:=YK I2.ok.bsz I2.sz
 noex:=λb o e hb=>by
  obtain⟨_,_,_,h,_⟩:=f2 b hb;rcases h with h|h
  ·exact I2.ok.noex b o e h
  ·exact qG (Xw (Xt e) (YK I2.ok.bsz h)) (YE _)
 exfs:=λb hb z=>(YA.mp (I2.stkSub b z)).elim (f2 b hb).2.1 (f2 b hb).2.2.1
 funs:=I2.stack
 frf:=I2.stkFree
theorem KP{env:Env}{N:List Str}{σ':St}{pl:List (Addr×Obj)}(I2:AY X pins σ H2 s2)(f2:∀b∈fp,GY X pins H2 b)(Ib:AY (IE X s2 H2 env fp N) pl σ' H' s'):AY X pins σ H' s':=
 I2.call' (ch:=fp) Ib.os Ib.base Ib.hok Ib.bare λb hb=>⟨(f2 b hb).2.2.2.1,(f2 b hb).2.1,(f2 b hb).2.2.2.2.1,(f2 b hb).2.2.2.2.2⟩
theorem Su{D:Addr}{h1:Heap}{t1:Nat}(I2:AY X pins σ H2 s2)(f2:∀b∈fp,GY X pins H2 b)(o2:∀b∈fp,∃o,s2.heap.get? b=some o/\∀v,o.data≠.cell v)(hD:s2.heap.objs.size<=D)(hC:s2.heap.objs.size<=C)(hDC:D≠C)
  (old:∀b o,s2.heap.get? b=some o->h1.get? b=some o) (hl:h1.PlainList D #[]) (hn:h1.Ns C (λ_=>none)) (hk:scope.kind=.function) (hcl:JT X.env cl)
  (hhas:((relabel scope X.env).names.all λz=>!(z.2==.cell||z.2==.free)||(cl.lookup z.1).isSome)=true) (hfv:KO X scope cl fv):
  AY (IE X s2 H2 (compEnvC scope cl C X.env) fp (x::fv.map (·.2))) [] (none::E6 σ fv) (Aj H2 D (.lst [])) {s2 with heap:=h1,toks:=t1} where
 ok:=Ss I2 f2 o2 hC hk hcl hhas
 os:=rfl
 bare:=I2.bare
 base:=Un.laid old hD (I2.hok.fresh hD)
 loc:=by
  refine⟨_,hn,λi y v h1' h2' _=>?_⟩;cases i with
  |zero=>cases h2'
  |succ i =>
   have h1':(fv.map (·.2))[i]?=some y:=h1';have h2':(E6 σ fv)[i]?=some (some v):=h2'
   obtain⟨q,hq,e1⟩:∃q,fv[i]?=some q/\q.2=y:=by rw[Xu]at h1';exact Ys.mp h1'
   subst e1;obtain⟨g1,g2,g3,g4⟩:=hfv.at' q (X3 hq);unfold E6 at h2';rw[Xu,hq]at h2';have e2:(σ[q.1]?).join=some v:=Option.some.inj h2'
   have e3:σ[q.1]?=some (some v):=by
    cases z:σ[q.1]? with
    |none=>rw[z]at e2;cases e2
    |some w=>rw[z]at e2;exact congrArg some e2
   obtain⟨m,_,lk⟩:=I2.loc;have g2:=Sr g2;obtain⟨u,ru,lu⟩:=lk q.1 q.2 v g1 e3 (.inr g2);refine⟨u,ru,.inr ⟨g2.imp (λz=>g3.trans z) (λz=>g3.trans z),?_⟩⟩;obtain⟨c,hc⟩:=Z7.mp g4;refine⟨c,hc,?_⟩;rcases lu with⟨kk,_⟩|⟨_,c',e',⟨o,eo,d⟩⟩
   ·rcases g2 with z|z<;>(rw[show X.env.kindOf q.2=_ from z]at kk;cases kk)
   ·have e4:=hcl.at' hc;rw[e']at e4;cases e4;exact⟨o,old c o eo,d⟩
 cell:=λy c h=>by obtain⟨v,o,eo,d⟩:=I2.cell y c (hcl.at' h);exact⟨v,o,old c o eo,d⟩
 free:=by show Aj H2 D _ C=none;rw[AK (Ne.symm hDC)];exact I2.hok.fresh hC
 freeC:=λy c h=>by obtain⟨v,o,eo,d⟩:=I2.cell y c (hcl.at' h);rw[AK (YW (Xw (Xt eo) hD))];exact I2.freeC y c (hcl.at' h)
 pin:=λp hp=>nomatch hp
 hok:=I2.hok.laid old hD (by obtain⟨n,e⟩:=hl;exact⟨Nat.zero_le _,[],n,.nil,by simpa using e⟩)
 len:=by simp[E6,IE]
theorem Mn{RR:Value->Addr->Result->Shared->Prop}{Q:VK}(hc:X.calm=true)(I2:AY X pins σ H2 s2)(T:IH X.prog X.w X.K (.Name x px) J fp it tn)(st2:tn 0 s2.heap)(f2:∀b∈fp,GY X pins H2 b)
  (hcell:∀y∈scope.names,y.2≠.cell) (hk:scope.kind=.function) (hx:scope.names.lookup x=some .local) (hcl:JT X.env cl) (hhas:((relabel scope X.env).names.all λz=>!(z.2==.cell||z.2==.free)||(cl.lookup z.1).isSome)=true) (hfv:KO X scope cl fv) (hnd:(x::fv.map (·.2)).Nodup)
  (hf:∀s H C fp,PF (IE X s H (compEnvC scope cl C X.env) fp (x::fv.map (·.2))) ifs tt) (he:∀s H C fp,PE (IE X s H (compEnvC scope cl C X.env) fp (x::fv.map (·.2))) elt te)
  (hw:∀D,H2 D=none->EQ J tt te (E6 σ fv) D Q H2)
  (hRR:∀D C σ' H' s',s2.heap.objs.size<=C->AY (IE X s2 H2 (compEnvC scope cl C X.env) fp (x::fv.map (·.2))) [] σ' H' s'->Q (.ref D) H'->RR (.ref D) C (.ok .next) s'):
  wpAny (model X.prog X.w) X.A (newList []) (λacc s3=>wpAny (model X.prog X.w) X.A (newFunctionEnv scope X.env.globals cl [] X.env.qual none .none (some X.env)) (λcenv s4 =>
   codeAny (model X.prog X.w) X.A (.compStart (.ListComp elt [⟨.Name x px,iter,ifs,0⟩] scope pos) 0 (.ref it) acc {cenv with scope:=relabel scope X.env}) (RR acc cenv.locals) s4) E s3) E s2:=by
 refine wpAny_newObj_type (wpAny_newFunctionEnv hcell (by intro y hy;simp at hy) (λh1 hns hsb=>?_) hk);dsimp only at hns hsb⊢;generalize hH:s2.heap.push {cls:=.type "list",dict:=none,data:=.seq ([]:List Value).toArray}=HH at hns hsb⊢;have eC:HH.objs.size=s2.heap.objs.size+1:=by rw[<-hH,Yz]
 have hDC:s2.heap.objs.size≠HH.objs.size:=by rw[eC];exact YW (Zg _)
 have hC:s2.heap.objs.size<=HH.objs.size:=by rw[eC];exact Zd _
 have old:∀b o,s2.heap.get? b=some o->h1.get? b=some o:=λb o e=>hsb.extBut b o (by rw[eC];exact YW (ZC (Xt e))) (Xn _ (hH▸Xn _ e))
 have hacc:h1.PlainList s2.heap.objs.size #[]:=⟨_,hsb.extBut _ _ hDC (Xn _ (hH▸Xz _ rfl))⟩;have o2:=T.obj _ _ st2;obtain⟨W,⟨n0,w0⟩,turn⟩:=hw s2.heap.objs.size (I2.hok.fresh (Xr _));generalize eD:s2.heap.objs.size=D at *;generalize eCC:HH.objs.size=C at *;have Ib:=Su (x:=x) (t1:=s2.toks+([]:List (Str×Value)).length) I2 f2 o2 (by rw[eD];exact Xr _) (by rw[eD];exact hC) hDC old hacc hns hk hcl hhas hfv;have st1:tn 0 h1:=T.keep _ _ _ st2 λb _ o e=>old b o e
 have nD:∀b∈fp,b≠D:=λb hb=>by obtain⟨o,e,_⟩:=o2 b hb;rw[<-eD];exact YW (Xt e)
 have fr1:∀b∈fp,Aj H2 D (.lst []) b=none:=λb hb=>by rw[AK (nD b hb)];exact (f2 b hb).1
 have hxl:(relabel scope X.env).names.lookup x=some .local:=lookup_relabel_local hx
 have stat:∀{H':Hp},(∀b∈fp,H' b=none)->∀b∈fp,GY (IE X s2 H2 (compEnvC scope cl C X.env) fp (x::fv.map (·.2))) [] H' b:=λhn b hb=>by obtain⟨o,e,_⟩:=o2 b hb;exact⟨hn b hb,λz=>qG (Xt e) (by rw[z,eD];exact Nat.not_lt.mpr hC),λz=>(YA.mp (I2.stkSub b z)).elim (f2 b hb).2.1 (f2 b hb).2.2.1,.inl hb,λy c h=>(f2 b hb).2.2.2.2.1 y c (hcl.at' h),λq hq=>nomatch hq⟩
 have loop:codeAny (model X.prog X.w) X.A (.compLoop (.ListComp elt [⟨.Name x px,iter,ifs,0⟩] scope pos) 0 (.ref it) (.ref D) (compEnvC scope cl C X.env)) (RR (.ref D) C) {s2 with heap:=h1,toks:=s2.toks+([]:List (Str×Value)).length}:=by
  refine codeAny_compLoop_tests (λn s'=>∃i acc σb H',AY (IE X s2 H2 (compEnvC scope cl C X.env) fp (x::fv.map (·.2))) [] σb H' s'/\σb.tail=E6 σ fv/\tn i s'.heap/\(∀b∈fp,H' b=none)/\W n i acc H') ?_ n0 ⟨0,[],_,_,Ib,rfl,st1,fr1,w0⟩;rintro n s3 ⟨i,acc,σ3,H3,I3,t3,st3,fr3,w3⟩;rcases turn n i acc H3 w3 with⟨stop,qn⟩|⟨go,NN,hNN,step⟩
  ·refine BX (T.done (IE X s2 H2 (compEnvC scope cl C X.env) fp (x::fv.map (·.2))) rfl rfl rfl hc i [] s3 σ3 H3 _ I3 (stat fr3) st3 stop) λr s4 q4=>?_;obtain⟨hr,I4⟩:=q4;subst hr;exact hRR D C σ3 H3 s4 hC I4 qn
  ·refine BX (T.item (IE X s2 H2 (compEnvC scope cl C X.env) fp (x::fv.map (·.2))) rfl rfl rfl hc i [] s3 σ3 H3 _ I3 (stat fr3) st3 go) λr s4 q4=>?_;obtain⟨u,hr,h4⟩:=q4;subst hr;refine (show wpAny _ _ (letOwnedTupleGo (.Name x px) (.ref it) u >>= λ_=>assign (.Name x px) (compEnvC scope cl C X.env) u) _ _ _ from qC (BX h4 λ_ s5 q5=>?_));obtain⟨v,H5,I5,r5,y5,st5,fr5⟩:=q5;have I5':=I5.pinned (stat fr5) (T.obj _ _ st5);have again:∀{σ7:St} {H7:Hp} {s7:Shared},AY (IE X s2 H2 (compEnvC scope cl C X.env) fp (x::fv.map (·.2))) ([]++Gw fp s5.heap) σ7 H7 s7->tn (i+1) s7.heap/\∀b∈fp,H7 b=none:=λ{σ7 H7 s7} I7=>by refine⟨T.keep _ _ _ st5 λb hb o e=>(I7.pin (b,o) (Yc _ (Yc _ (Dq hb e)))).1,λb hb=>?_⟩;obtain⟨o,e,d⟩:=T.obj _ _ st5 b hb;exact (I7.pin (b,o) (Yc _ (Yc _ (Dq hb e)))).2.1
   have sσ:σ3.set 0 (some v)=some v::E6 σ fv:=by
    cases σ3 with
    |nil =>
     have z:=I3.len;simp[IE]at z
    |cons a b =>
     have z:b=E6 σ fv:=t3;rw[z];rfl
   have g:=MX (X:=IE X s2 H2 (compEnvC scope cl C X.env) fp (x::fv.map (λq:Nat×Str=>q.2))) (pos:=px) (i:=0) (x:=x) hnd rfl (.inl hxl) (.inr hxl);refine wpAny_noRaise (BX (g _ s5 σ3 H5 v u (λσ' H'=>σ'=some v::E6 σ fv/\H'=H5) I5' r5 ⟨sσ,rfl⟩) λ_ s6 q6=>?_);obtain⟨σ6,H6,I6,rfl,rfl⟩:=q6;refine wpAny_noRaise (BX (hf _ _ _ _ _ s6 _ _ _ I6 (step v _ y5)) λb s7 q7=>?_);obtain⟨H7,I7,q7⟩:=q7;cases b with
   |false =>
    rw[qE (by decide)]at q7⊢;obtain⟨n',hn',w7⟩:=hNN _ _ q7;exact⟨n',hn',i+1,acc,_,H7,I7.unpinned,rfl,(again I7).1,(again I7).2,w7⟩
   |true =>
    rw[qF rfl]at q7⊢;refine wpAny_noRaise (BX (he _ _ _ _ _ s7 _ _ _ I7 q7) λyv s8 q8=>?_);obtain⟨y,H8,I8,r8,e8,l8,q8⟩:=q8;obtain⟨n',hn',w8⟩:=hNN _ _ q8;refine wpAny_noRaise (BX (BR (X:=IE X s2 H2 (compEnvC scope cl C X.env) fp (x::fv.map (·.2))) _ s8 _ H8 (.ref D) [y] (.ref D) [yv] (λ_ H'=>H'=Aj H8 D (.lst (acc++[y]))) I8 rfl (.cons r8 .nil) ⟨D,acc,y,rfl,rfl,e8,l8,rfl⟩) λ_ s9 q9=>?_);obtain⟨_,H9,I9,_,rfl⟩:=q9;exact⟨n',hn',i+1,acc++[y],_,_,I9.unpinned,rfl,(again I9).1,(again I9).2,w8⟩
 exact codeAny_compStart_list loop (T.self X.A 0 _ _ _ st1 loop)
theorem AY.letGo(I2:AY X pins σ H2 s2){σ':St}(J:AY X pins σ' H' s')(hC:s2.heap.objs.size<=C)(hn:H' C=none)(sb:Heap.SameBut C s'.heap h'):AY X pins σ' H' {s' with heap:=h',toks:=s'.toks}:=
 J.turned (it:=C) (λb o hb e=>(sb.2 b hb).trans e) hn (Zm (Xw I2.lt hC)) (.inr (YK I2.sz hC)) (λy c e z=>by obtain⟨v,o,eo,d⟩:=I2.cell y c e;exact qG (Xw (Xt eo) (by rw[z];exact hC)) (YE _)) λp hp z=>qG (Xw (Xt (I2.pin p hp).1) (by rw[z];exact hC)) (YE _)
theorem Qt(hc:X.calm=true)(hi:PI X (.Name x px) iter wi)(hclos:closureFor scope X.env=pure cl)(hcell:∀y∈scope.names,y.2≠.cell)(hk:scope.kind=.function)(hnames:∀z∈scope.names,z.2=.local->scope.names.lookup z.1=some .local)
  (hx:scope.names.lookup x=some .local) (hcl:JT X.env cl) (hhas:((relabel scope X.env).names.all λz=>!(z.2==.cell||z.2==.free)||(cl.lookup z.1).isSome)=true) (hfv:KO X scope cl fv) (hnd:(x::fv.map (·.2)).Nodup)
  (hf:∀s H C fp,PF (IE X s H (compEnvC scope cl C X.env) fp (x::fv.map (·.2))) ifs tt) (he:∀s H C fp,PE (IE X s H (compEnvC scope cl C X.env) fp (x::fv.map (·.2))) elt te)
  (hs:∀x,foldedSetIterable iter X.env x=pure x:=by intro _;rfl):PE X (.ListComp elt [⟨.Name x px,iter,ifs,0⟩] scope pos) (Os wi fv tt te):=by
 intro pins s σ H Q I h;rw[eval_ListComp];refine wpAny_comprehension_free (use:=none) rfl hs hclos hk hnames (BX (hi pins s σ H _ I h) λv s1 h1=>BX h1 λitv s2 h2=>?_);obtain⟨it,fp,tn,J,H2,e,I2,T,st2,f2,hw⟩:=h2;subst e;refine Mn (RR:=λacc C=>compPost (model X.prog X.w) X.A X.xe none (EP X pins σ Q) acc C) hc I2 T st2 f2 hcell hk hx hcl hhas hfv hnd hf he hw λD C σ' H' s' hC Ib q=>?_;obtain⟨m,hn,_⟩:=Ib.loc;exact⟨m,hn,λh' sb=>⟨.ref D,H',AY.letGo I2 (KP I2 f2 Ib) hC Ib.free sb,rfl,q⟩⟩
theorem Dw{y:Str}{iy:Nat}{py spos:Pos}(hc:X.calm=true)(hN:X.N.Nodup)(hy:X.N[iy]?=some y)(hyl:RX X.env.scope y)(hi:PI X (.Name x px) iter wi)(hsw:swapsWith (.ListComp elt [⟨.Name x px,iter,ifs,0⟩] scope pos) (some (.Name y py)) spos.line X.env=pure true)
  (hclos:closureFor scope X.env=pure cl) (hcell:∀y∈scope.names,y.2≠.cell) (hk:scope.kind=.function) (hnames:∀z∈scope.names,z.2=.local->scope.names.lookup z.1=some .local)
  (hx:scope.names.lookup x=some .local) (hcl:JT X.env cl) (hhas:((relabel scope X.env).names.all λz=>!(z.2==.cell||z.2==.free)||(cl.lookup z.1).isSome)=true) (hfv:KO X scope cl fv) (hnd:(x::fv.map (·.2)).Nodup)
  (hf:∀s H C fp,PF (IE X s H (compEnvC scope cl C X.env) fp (x::fv.map (·.2))) ifs tt) (he:∀s H C fp,PE (IE X s H (compEnvC scope cl C X.env) fp (x::fv.map (·.2))) elt te)
  (hyf:X.fn y=true\/X.env.scope.names.lookup y=some .local:=by first|exact .inl rfl|exact .inr rfl) (hs:∀x,foldedSetIterable iter X.env x=pure x:=by intro _;rfl):
  PS X (.Assign [.Name y py] (.ListComp elt [⟨.Name x px,iter,ifs,0⟩] scope pos) spos) (LN (Os wi fv tt te) (FR iy)):=by
 intro pins s σ H D h' h;have I:=h';rw[exec_Assign_Name_used _ _ _ _ hsw];refine qC (wpAny_standAt (qC ?_));show wpAny _ X.A (do let _ <-comprehension (.ListComp elt [⟨.Name x px,iter,ifs,0⟩] scope pos) scope X.env _ (newList []) false (eval iter X.env) (some (assign (.Name y py) X.env))) _ _ s;refine qC (wpAny_mono (wpAny_comprehension_free (use:=some (assign (.Name y py) X.env)) (Q:=λ_ s'=>SP X pins D .next s') rfl hs hclos hk hnames (BX (hi pins s σ H _ I h) λv s1 h1=>BX h1 λitv s2 h2=>?_)) (λ_ s' hq=>qD (qD hq)) λ_ _ e=>e);obtain⟨it,fp,tn,J,H2,e,I2,T,st2,f2,hw⟩:=h2;subst e;refine Mn (Q:=λv H1=>FR iy v σ H1 D.nx) (RR:=λacc C=>compPost (model X.prog X.w) X.A X.xe (some (assign (.Name y py) X.env)) (λ_ s'=>SP X pins D .next s') acc C) hc I2 T st2 f2 hcell hk hx hcl hhas hfv hnd hf he hw λD' C σ' H' s' hC Ib q=>?_;obtain⟨m,hn,_⟩:=Ib.loc;show wpAny _ X.A (assign (.Name y py) X.env (.ref D')) _ _ _;refine wpAny_assign_Name (IP (KP I2 f2 Ib) hN hy hyl (v:=.ref D') rfl (λs3 I3 hsb=>?_) hyf);obtain⟨a,sb3,ha⟩:=hsb
 have nC:C≠a:=λz=>by
  rcases ha with e|e
  ·exact qG (Xw I2.lt hC) (by rw[z,e];exact YE _)
  ·obtain⟨v,o,eo,d⟩:=I2.cell y a e;exact qG (Xw (Xt eo) (by rw[<-z];exact hC)) (YE _)
 exact⟨m,hn.sameBut sb3 nC,λh'' sb=>⟨_,H',AY.letGo I2 I3 hC Ib.free sb,q⟩⟩
end
variable{tt:TT}{σf:List (Option V)}
theorem BI{lo:Int}{n:Nat}{D:Addr}{Q:VK}(Pv:Nat->List V->Hp->Prop)(h0:Pv 0 [] (Aj H D (.lst [])))
  (hs:∀i acc H2,i<n->Pv i acc H2->tt (some (.int (lo+i))::σf) H2 λb H4=>if b=true then te (some (.int (lo+i))::σf) H4 λy H5=>H5 D=some (.lst acc)/\acc.length<sizeLine/\Pv (i+1) (acc++[y]) (Aj H5 D (.lst (acc++[y]))) else Pv (i+1) acc H4)
  (hd:∀acc H2,Pv n acc H2->Q (.ref D) H2):EQ (Rb lo n) tt te σf D Q H:=by
 refine⟨λk i acc H=>k=n-i/\i<=n/\Pv i acc H,⟨n,by simp,Nat.zero_le _,h0⟩,?_⟩;rintro k i acc H2 ⟨rfl,hi,p⟩
 by_cases hlt:i<n
 ·refine .inr ⟨hlt,Pv (i+1),λl H' p'=>⟨n-(i+1),by lia,rfl,hlt,p'⟩,λx H' y=>?_⟩;obtain⟨e,y⟩:=y;subst e y;exact hs i acc _ hlt p
 ·have e:i=n:=by lia
  subst e;exact .inl ⟨Xr _,hd acc H2 p⟩
theorem CB{K:qJ}{D:Addr}{Q:VK}(Pv:Nat->List V->Hp->Prop)(h0:Pv 0 [] (Aj H D (.lst [])))(hl:∀i acc H,i<=xs.length->Pv i acc H->Ad K H a xs)
  (hs:∀i x acc H2,xs[i]?=some x->Pv i acc H2->tt (some x::σf) H2 λb H4=>if b=true then te (some x::σf) H4 λy H5=>H5 D=some (.lst acc)/\acc.length<sizeLine/\Pv (i+1) (acc++[y]) (Aj H5 D (.lst (acc++[y]))) else Pv (i+1) acc H4)
  (hd:∀acc H2,Pv xs.length acc H2->Q (.ref D) H2):EQ (UW K a) tt te σf D Q H:=by
 refine⟨λk i acc H=>k=xs.length-i/\i<=xs.length/\Pv i acc H,⟨xs.length,by simp,Nat.zero_le _,h0⟩,?_⟩;rintro k i acc H2 ⟨rfl,hi,p⟩;have q:=hl i acc H2 hi p
 by_cases hlt:i<xs.length
 ·refine .inr ⟨⟨xs,xs[i],q,by simp[hlt]⟩,Pv (i+1),λl H' p'=>⟨xs.length-(i+1),by lia,rfl,hlt,p'⟩,λx H' y=>?_⟩;obtain⟨e,y⟩:=y;subst e;exact hs i x acc _ (y xs q) p
 ·have e:i=xs.length:=by lia
  subst e;exact .inl ⟨⟨xs,q,Xr _⟩,hd acc H2 p⟩
theorem GL:∀(ns:List Int) (k:Nat),k<=ns.length->preSum (λi=>ns.getD i 0) k=(ns.take k).sum
 |ns,0,_=>by simp[preSum]
 |ns,k+1,h=>by
  have e:ns.take (k+1)=ns.take k++[ns[k]]:=by rw[ZI,Xs (by lia)];rfl
  rw[preSum,GL ns k (by lia),e,List.sum_append,Xm,Xs (by lia)];simp
theorem ER(hc:X.calm=true):E3 X (.builtin "sum") (λxs H Q=>∃(p:Addr) (ns:List Int),xs=[.ref p]/\Ad X.K H p (ns.map V.int)/\Q (.int ns.sum) H):=by
 intro pins s σ H xs us Q I r h;obtain⟨p,ns,rfl,hq,q⟩:=h;obtain⟨u,rfl,rx⟩:=Gx r;cases rx;obtain⟨its,rits,pl,hz⟩:=I.list hq;have hlen:=rits.length;rw[Xk]at hlen;have alt:p<s.heap.objs.size:=by obtain⟨o,e,_⟩:=pl.isList;exact Xt e
 refine call_sum_walkG (wpAny_pyIter_list pl.isList ?_);have up:∀b o,s.heap.get? b=some o->(s.heap.push {cls:=.type "list_iterator",data:=.fields #[.ref p,.int 0 0]}).get? b=some o:=λb o e=>Xn _ e
 refine⟨s.heap.objs.size,[s.heap.objs.size,p],[s.heap.objs.size],its.toArray.size,_,_,λi=>ns.getD i 0,rfl,Walks.list (A:=X.A.in1) (I.ok.hd hc) _ p (YW alt) its.toArray,⟨⟨_,Xz _ rfl,rfl,rfl⟩,pl.isList.at λo e=>up p o e⟩,λb hb=>?_,λi v hv=>?_,λh' tk t' kk=>?_⟩
 ·show b<(s.heap.push _).objs.size;rw[Yz];rcases YA.mp hb with z|z
  ·rw[z];exact Zg _
  ·rw[Xl.mp z];exact ZC alt
 ·have hv':its[i]?=some v:=by simpa using hv
  have hi:=(Xo.mp hv').1;obtain⟨u2,hu2,ru2⟩:=rits.get (x:=.int (ns.getD i 0)) (i:=i) (by rw[Xu,Xs (by lia),Xm,Xs (by lia)];rfl);rw[hv']at hu2;cases hu2;exact ru2
 ·refine⟨.int ns.sum,H,I.kept (t':=tk) λb o e=>kk b o (λz=>?_) (up b o e),⟨t',?_⟩,q⟩
  ·rw[Xl.mp z]at e;exact qG (Xt e) (YE _)
  ·rw[GL ns _ (by simp[<-hlen]),List.size_toArray,<-hlen,List.take_length]
noncomputable def Le(lo c:Int)(n:Nat):It:=⟨λi _=>i<n,λi H x H'=>H'=H/\x=.int (lo+i*c),λi _=>n<=i⟩
noncomputable def QL(a b c:Int):Nat:=if a<b then ((b-a-1)/c+1).toNat else 0
theorem Ot{a b c:Int}(hc:0<c):Builtin.Range.rangeSize a b c=((QL a b c:Nat):Int):=by
 unfold Builtin.Range.rangeSize QL;rw[qF hc];split
 ·have:=ZK (show 0<=b-a-1 by lia) (YI hc);lia
 ·rfl
theorem GM{P:Program}{w:World}{K:qJ}(it:Addr)(lo c:Int)(n:Nat):IH P w K tg (Le lo c n) [it] it (λi h=>IsRangeIter h it (lo+(i:Nat)*c) ((n:Int)-(i:Nat)) c) where
 mem:=Xl.mpr rfl
 obj:=λi h st b hb=>by cases Xl.mp hb;refine⟨_,st,λv z=>?_⟩;have y:Data.fields _=Data.cell v:=z;cases y
 keep:=λi h h' st k=>k it (Xl.mpr rfl) _ st
 item:=by intro X hP hw hK hc i pins s σ H E I hf st hg;subst hP hw hK;obtain⟨f0,f1,f2,f3,f4,f5⟩:=hf it (Xl.mpr rfl);have V:=Walks.range (prog:=X.prog) (w:=X.w) (I.ok.hd hc) it lo c n;refine V.item i s _ _ hg st λv h' tk hv st' kk=>?_;obtain⟨t,rfl⟩:=hv;have J:AY X pins σ H {s with heap:=h',toks:=tk}:=I.turned (λb o hb e=>kk b o (λz=>hb (Xl.mp z)) e) f0 f1 f3 f4 f5;exact⟨_,rfl,IQ (s:={s with heap:=h',toks:=tk}) (n:="range_iterator") st' rfl rfl (by decide) ⟨.int (lo+i*c),H,J,⟨t,rfl⟩,⟨rfl,rfl⟩,st',λb hb=>(hf b hb).1⟩⟩
 done:=by intro X hP hw hK hc i pins s σ H E I hf st hg;subst hP hw hK;obtain⟨f0,f1,f2,f3,f4,f5⟩:=hf it (Xl.mpr rfl);exact wpAny_pyNext_range_end (I.ok.hd hc) st (by have z:n<=i:=hg;lia) λh' eb=>⟨rfl,I.turned (t':=s.toks) (λb o hb e=>eb b o hb e) f0 f1 f3 f4 f5⟩
 self:=λ_ _ _ _ _ st h=>wpAny_pyIter_rangeiter st h
def VJ(ta:TA):TI:=λσ H R=>ta σ H λvs H1=>∃a b c:Int,vs=[.int a,.int b,.int c]/\(0<=a/\a<2^29/\0<=b/\b<2^29/\0<c/\c<2^29)/\R (Le a c (QL a b c)) H1
theorem Lf{a b c:Int}(h:0<=a/\a<2^29/\0<=b/\b<2^29/\0<c/\c<2^29):Builtin.Range.small a b c=true:=by
 obtain⟨a0,a1,b0,b1,c0,c1⟩:=h;unfold Builtin.Range.small;rw[Ot c0]
 have hr:((QL a b c:Nat):Int)<=2^29:=by
  unfold QL;split
  ·have h1:=Int.ediv_le_self c (show 0<=b-a-1 by lia);have h2:=ZK (show 0<=b-a-1 by lia) (YI c0);lia
  ·lia
 simp only[Builtin.Range.rangeFitsLong,Bool.and_eq_true,Bool.or_eq_true,decide_eq_true_eq,beq_iff_eq];rw[qF c0];simp only[Bool.and_eq_true,decide_eq_true_eq];lia
theorem Nh{a b c:Expr}{p pos:Pos}(hg:Gl X "range")(hm:X.mg "range"=none)(ha:PA X [a,b,c] ta)(hs:starEach [a,b,c] X.env=[(false,eval a X.env),(false,eval b X.env),(false,eval c X.env)]:=by rfl)(hs2:starEach [b,c] X.env=[(false,eval b X.env),(false,eval c X.env)]:=by rfl):
  PI X tg (.Call (.Name "range" p) [a,b,c] [] pos) (VJ ta):=by
 intro pins s σ H R I h;refine Call_ (CD I hg hm boot_range (YR (BX (ha pos pins s σ H _ I h) λus s1 ⟨vs,H1,I1,r1,q1⟩=>?_) (by rw[hs,hs2]) (by rw[hs2];rfl)));obtain⟨x,y,z,e,hb,q⟩:=q1;subst e
 obtain⟨u1,u2,u3,rfl,⟨t1,rfl⟩,⟨t2,rfl⟩,⟨t3,rfl⟩⟩:∃u1 u2 u3,us=[u1,u2,u3]/\Aq (.int x) u1/\Aq (.int y) u2/\Aq (.int z) u3:=by
  cases r1 with
  |cons r rr =>
   cases rr with
   |cons r' rr =>
    cases rr with
    |cons r'' rr =>
     cases rr;exact⟨_,_,_,rfl,r,r',r''⟩
 refine call_range_3 (by lia) ?_ (Or.inl (PyProof.noPylong_small (by lia)));refine wpAny_pyIter_range (IsRange.new ..) (Lf hb) ?_;have J:AY X pins σ H1 {s1 with heap:=s1.heap.push {cls:=.type "range",data:=.fields #[.int x t1,.int y t2,.int z t3]},toks:=s1.toks}:=I1.kept λb o e=>Xn _ e
 generalize hG:s1.heap.push {cls:=.type "range",data:=.fields #[.int x t1,.int y t2,.int z t3]}=G at J⊢;refine⟨G.objs.size,[G.objs.size],_,_,H1,rfl,J.kept (t':=s1.toks) λb o e=>Xn _ e,GM _ x z (QL x y z),?_,λb hb=>?_,q⟩
 ·have e1:x+((0:Nat):Int)*z=x:=by simp
  have e2:(((QL x y z):Nat):Int)-((0:Nat):Int)=Builtin.Range.rangeSize x y z:=by rw[Ot hb.2.2.2.2.1];simp
  show IsRangeIter _ _ (x+((0:Nat):Int)*z) ((((QL x y z):Nat):Int)-((0:Nat):Int)) z;rw[e1,e2];exact Xz _ rfl
 ·cases Xl.mp hb;exact J.fpOk (Xr _) (J.hok.fresh (Xr _))
theorem Lg{lo c:Int}{n:Nat}{g:TG}{tb:TS}(Pv:Nat->St->Hp->Prop)(h0:Pv 0 σ H)
  (hs:∀i σ H,i<n->Pv i σ H->g (.int (lo+i*c)) σ H λσ2 H2=>tb {D with nx:=Pv (i+1),ct:=Pv (i+1),bk:=D.nx} σ2 H2) (hd:∀σ H,Pv n σ H->D.nx σ H):
  ∃W:Nat->Nat->St->Hp->Prop,(∃m,W 0 m σ H)/\∀i m σ H,W i m σ H ->
   ((Le lo c n).stop i H/\D.nx σ H)\/((Le lo c n).go i H/\∃N:St->Hp->Prop,(∀σ' H',N σ' H'->∃m',m'<m/\W (i+1) m' σ' H')/\∀x H',(Le lo c n).yld i H x H'->g x σ H' λσ2 H2=>tb {D with nx:=N,ct:=N,bk:=D.nx} σ2 H2):=by
 refine⟨λi m σ H=>m=n-i/\i<=n/\Pv i σ H,⟨n,by simp,Nat.zero_le _,h0⟩,?_⟩;rintro i m σ H ⟨rfl,hi,p⟩
 by_cases z:i<n
 ·refine .inr ⟨z,Pv (i+1),λσ' H' p'=>⟨n-(i+1),by lia,rfl,z,p'⟩,λx H' y=>?_⟩;obtain⟨e1,e2⟩:=y;subst e1 e2;exact hs i σ _ z p
 ·obtain rfl:i=n:=by lia
  exact .inl ⟨Xr _,hd σ H p⟩
theorem KQ{lo c:Int}{n:Nat}{D:Addr}{Q:VK}(Pv:Nat->List V->Hp->Prop)(h0:Pv 0 [] (Aj H D (.lst [])))
  (hs:∀i acc H2,i<n->Pv i acc H2->tt (some (.int (lo+i*c))::σf) H2 λb H4=>if b=true then te (some (.int (lo+i*c))::σf) H4 λy H5=>H5 D=some (.lst acc)/\acc.length<sizeLine/\Pv (i+1) (acc++[y]) (Aj H5 D (.lst (acc++[y]))) else Pv (i+1) acc H4)
  (hd:∀acc H2,Pv n acc H2->Q (.ref D) H2):EQ (Le lo c n) tt te σf D Q H:=by
 refine⟨λk i acc H=>k=n-i/\i<=n/\Pv i acc H,⟨n,by simp,Nat.zero_le _,h0⟩,?_⟩;rintro k i acc H2 ⟨rfl,hi,p⟩
 by_cases z:i<n
 ·refine .inr ⟨z,Pv (i+1),λl H' p'=>⟨n-(i+1),by lia,rfl,z,p'⟩,λx H' y=>?_⟩;obtain⟨e1,e2⟩:=y;subst e1 e2;exact hs i acc _ z p
 ·obtain rfl:i=n:=by lia
  exact .inl ⟨Xr _,hd acc H2 p⟩
section
variable{prog:Program}{w:World}{A:Around}
theorem GZ{t:Addr}{items}{x:Value}(hit:s.heap.IsTupleIter it t i)(ht:s.heap.IsTuple t items)(hx:items[i]?=some x)
  (hQ:∀h',h'.IsTupleIter it t (i+1)->Heap.SameBut it s.heap h'->Q x {s with heap:=h'}):wpAny (model prog w) A (Builtin.SmallTypes.nextOf (.ref it)) Q E s:=by
 obtain⟨o,ho,hc,hd⟩:=id hit;obtain⟨ol,hol,_,nl,hdl⟩:=ht;unfold Builtin.SmallTypes.nextOf;refine qC (wpAny_callSpecial?_slot (name:=Str.ofString "__next__") hit.typeIs F.slot_tuple_iterator_next (wpAny_call_entry F.slot_tuple_iterator_next hit.typeIs F.entry_tuple_iterator_next ?_ (F.args_tuple_iterator_next_1 _)))
 (show wpAny _ _ (field (.ref it) 0 >>= _) _ _ s);refine qC (wpAny_field ho hd (x:=.ref t) rfl ?_)
 (show wpAny _ _ (if (Value.ref t==Value.none)=true then _ else _) _ _ s);rw[qE (show ¬((Value.ref t==Value.none)=true) from X1)]
 (show wpAny _ _ (field (.ref it) 1 >>= _) _ _ s);refine qC (wpAny_field ho hd (x:=.int i 0) rfl ?_)
 (show wpAny _ _ (seqItems? (.ref t) >>= _) _ _ s);refine qC (wpAny_seqItems hol hdl ?_)
 simp only[Int.toNat_natCast,hx];refine qC (wpAny_setField ho hd (by simp) (qD ⟨x,rfl,qD (hQ _ ⟨_,Heap.get?_update_self _ ho (Obj.isFreed_of_fields (Obj.data_mapFields hd _)),(Obj.cls_mapFields ..).trans hc,by rw[Obj.data_mapFields hd];simp[rawInt]⟩ (Heap.SameBut.update ..))⟩))
theorem ES{t:Addr}{items}(hh:A.handled=none)(hit:s.heap.IsTupleIter it t i)(ht:s.heap.IsTuple t items)(hx:items[i]?=none)
  (hE:∀h' e,Heap.ExtBut it s.heap h'->(∃o,h'.get? e=some o/\o.cls=.type "StopIteration")->E (.ref e) {s with heap:=h'}):wpAny (model prog w) A (Builtin.SmallTypes.nextOf (.ref it)) Q E s:=by
 obtain⟨o,ho,hc,hd⟩:=id hit;obtain⟨ol,hol,_,nl,hdl⟩:=ht;unfold Builtin.SmallTypes.nextOf;refine qC (wpAny_callSpecial?_slot (name:=Str.ofString "__next__") hit.typeIs F.slot_tuple_iterator_next (wpAny_call_entry F.slot_tuple_iterator_next hit.typeIs F.entry_tuple_iterator_next ?_ (F.args_tuple_iterator_next_1 _)))
 (show wpAny _ _ (field (.ref it) 0 >>= _) _ _ s);refine qC (wpAny_field ho hd (x:=.ref t) rfl ?_)
 (show wpAny _ _ (if (Value.ref t==Value.none)=true then _ else _) _ _ s);rw[qE (show ¬((Value.ref t==Value.none)=true) from X1)]
 (show wpAny _ _ (field (.ref it) 1 >>= _) _ _ s);refine qC (wpAny_field ho hd (x:=.int i 0) rfl ?_)
 (show wpAny _ _ (seqItems? (.ref t) >>= _) _ _ s);refine qC (wpAny_seqItems hol hdl ?_)
 simp only[Int.toNat_natCast,hx];refine qC (wpAny_rule (qC (wpAny_setField ho hd (by simp) ?_)));show wpAny _ _ (newExc (.type "StopIteration") [] >>= _) _ _ _;refine qC ?_;simp only[newExc,newTuple];refine qC (wpAny_newObj_type ?_ (by size_fits));refine qC (m:=firstArgMember _ _) (wpAny_of_eq (a:=Value.none) (by first|rfl|(simp only[firstArgMember];rfl)) ?_);refine wpAny_newObj_type ?_ (by size_fits);simp only[raiseNew];refine qC (wpAny_handled ?_);(first|rw[show A.in1.handled=none from hh]|rw[hh]);refine qC (qD (wpAny_throw ?_));exact (hE _ _ (((Heap.SameBut.update ..).extBut.push _).push _) ⟨_,Xz _ rfl,rfl⟩)
theorem Ni(hh:A.handled=none)(it t:Addr)(hne:t≠it)(items:Array Value):Draws prog w A it [it,t] items.size (λi v=>items[i]?=some v) (λi h=>h.IsTupleIter it t i/\h.IsTuple t items) where
 live:=λ_ _ ⟨⟨o,ho,_⟩,_⟩=>⟨o,ho⟩
 frame:=λ_ _ _ ⟨st,o,ho,r⟩ hk=>⟨st.at λo e=>hk it (by simp) o e,o,hk t (by simp) o ho,r⟩
 item:=λi s Q E hi st hQ=>GZ st.1 st.2 (x:=items[i]) (by simp[hi]) λh' hit' hs'=>hQ _ h' s.toks (by simp[hi]) ⟨hit',st.2.extBut hs'.extBut hne⟩ hs'
 done:=λs Q E st hE=>ES hh st.1 st.2 (by simp) hE
open AutoSeq1 (wpAny_loadPart') in
theorem KR(l:Addr)(items:Array Value)(n:Nat)(dct:Option Addr)(sl:Array (Option Value)):
  Meets (Builtin.«enumerate.__new__» ⟨[.type "enumerate",.ref l],[]⟩) (λ_ R s=>s.heap.get? l=some {cls:=.type "tuple",dict:=dct,data:=.seq items n,slots:=sl} /\
   R (.ok (.ret (.ref (s.heap.push {cls:=.type "tuple_iterator",data:=.fields #[.ref l,.int 0 0]}).objs.size)))
    {s with heap:=(s.heap.push {cls:=.type "tuple_iterator",data:=.fields #[.ref l,.int 0 0]}).push {cls:=.type "enumerate",data:=.fields #[.none,.bool false,.ref s.heap.objs.size,rawInt 0,.none,.none]}}):=
 .of_wp λprog w A R s h=>by
  obtain⟨hp,g,d,tk,os⟩:=s;obtain⟨hl,h⟩:=h;have hsub:=sub_enumerate;have hL:Heap.IsTuple (Shared.heap ⟨hp,g,d,tk,os⟩) l items:=⟨_,hl,rfl,n,rfl⟩
  wp_walk using wpAny_loadPart' hl
  refine wpAny_stack_any λst=>qD ?_
  split
  ·rename_i c _ _ _ _ _
   cases (c==Value.type "enumerate")<;>(wp_walk using wpAny_loadPart' hl,wpAny_pyIter_tuple hL)<;>exact⟨_,rfl,h⟩
  ·(wp_walk using wpAny_loadPart' hl,wpAny_pyIter_tuple hL);exact⟨_,rfl,h⟩
theorem Lh{l:Addr}(hL:s.heap.IsTuple l items)
  (h:∀h',IsEnum h' (s.heap.objs.size+1) s.heap.objs.size 0 .none->h'.IsTupleIter s.heap.objs.size l 0->h'.objs.size=s.heap.objs.size+2->(∀b o,s.heap.get? b=some o->h'.get? b=some o)->Q (.ref (s.heap.objs.size+1)) {s with heap:=h'}):
  wpAny (model prog w) A (call (.type "enumerate") [.ref l]) Q E s:=by
 obtain⟨⟨c,dct,dt,sl⟩,hl,hc,n,hd⟩:=hL;replace hc:c=.type "tuple":=hc;replace hd:dt=.seq items n:=hd;subst hc hd;refine callType_new F.called_enumerate (by decide) (F.typeCall_enumerate_1 _) (F.newCall_enumerate_1 _) (λobj=>F.args_object_init_2 obj _) F.entry_enumerate_new (KR l items n dct sl) ⟨hl,?_⟩;have hz:(s.heap.push {cls:=.type "tuple_iterator",data:=.fields #[.ref l,.int 0 0]}).objs.size=s.heap.objs.size+1:=Yz ..;show _/\_;rw[hz]
 have he:IsEnum ((s.heap.push {cls:=.type "tuple_iterator",data:=.fields #[.ref l,.int 0 0]}).push {cls:=.type "enumerate",data:=.fields #[.none,.bool false,.ref s.heap.objs.size,rawInt 0,.none,.none]}) (s.heap.objs.size+1) s.heap.objs.size 0 .none:=by have:=Xz (s.heap.push {cls:=.type "tuple_iterator",data:=.fields #[.ref l,.int 0 0]}) (o:={cls:=.type "enumerate",data:=.fields #[.none,.bool false,.ref s.heap.objs.size,rawInt 0,.none,.none]}) rfl;rw[hz]at this;exact this
 exact⟨⟨_,he,rfl⟩,h _ he ⟨_,Xn _ (Xz _ rfl),rfl,rfl⟩ (by rw[Yz,hz]) λb o x=>Xn _ (Xn _ x)⟩
theorem Fv{e t:Addr}{old:Value}{Q:Option Value->Shared->Prop}(hh:A.handled=none)(he:IsEnum s.heap e it i old)(hit:s.heap.IsTupleIter it t i)(ht:s.heap.IsTuple t items)(hx:items[i]?=none)
  (hQ:∀h',Heap.ExtBut it s.heap h'->Q none {s with heap:=h'}):wpAny (model prog w) A (pyNext (.ref e)) Q E s:=by
 have hT:s.TypeIs (.ref e) "enumerate":=⟨_,he,rfl⟩;unfold pyNext;refine qC (wpAny_attempt (wpAny_callSpecial?_slot (name:=Str.ofString "__next__") hT F.slot_enumerate_next (wpAny_call_entry F.slot_enumerate_next hT F.entry_enumerate_next ?_ (F.args_enumerate_next_1 _))))
 (show wpAny _ _ (field (.ref e) 2 >>= _) _ _ _);refine qC (wpAny_field he rfl (x:=.ref it) rfl ?_)
 refine qC (ES hh hit ht hx λh' x he' hx'=>?_);obtain⟨o,ho,hc⟩:=hx';exact qC (wpAny_isInstance (T:="StopIteration") (b:=true) ⟨o,ho,hc⟩ isSubtype_stop (qD (hQ _ he')))
end
noncomputable def Ou(K:qJ)(a:Addr):It:=
 ⟨λi H=>∃xs x,Bi K H a xs/\xs[i]?=some x,λi H v H'=>∃p x,v=.ref p/\H p=none/\H'=Aj H p (.tup [.int i,x])/\∀xs,Bi K H a xs->xs[i]?=some x,λi H=>∃xs,Bi K H a xs/\xs.length<=i⟩
theorem Li{P:Program}{w:World}{K:qJ}{elts:List Expr}{ctx}{tpos:Pos}(a e it:Addr)(hne:e≠it)(hna:a≠it)(hea:e≠a):
  IH P w K (.Tuple elts ctx tpos) (Ou K a) [e,it] e (λi h=>(∃old,IsEnum h e it ((i:Nat):Int) old)/\h.IsTupleIter it a i) where
 mem:=by simp
 obj:=λi h st b hb=>by
  obtain⟨⟨old,q⟩,o,e1,c,d⟩:=st;rcases YA.mp hb with z|z
  ·rw[z];exact⟨_,q,λv y=>by cases y⟩
  ·rw[Xl.mp z];exact⟨o,e1,λv y=>by rw[d]at y;cases y⟩
 keep:=λi h h' st k=>by obtain⟨⟨old,q⟩,li⟩:=st;exact⟨⟨old,k e (by simp) _ q⟩,li.at λo z=>k it (by simp) o z⟩
 item:=by
  intro X hP hw hK hc i pins s σ H E I hf st hg;subst hP hw hK;obtain⟨xs,x,hq,hx⟩:=hg;obtain⟨its,rv,p,hz⟩:=I.tuple hq;obtain⟨u,hu,ru⟩:=rv.get hx;obtain⟨⟨old,he⟩,li⟩:=st
  have hil:i<its.toArray.size:=by have:=(Xo.mp hu).1;simpa using this
  refine wpAny_pyNext_enum_itemD (Ni (A:=X.A.in1) (show X.A.in1.handled=none from I.ok.hd hc) it a hna its.toArray) he ⟨li,show s.heap.IsTuple a its.toArray from p⟩ hil hne (by simp[hne,hea]) λy h1 tk hy out li1 ht hsz k1=>?_
  have ey:y=u:=by
   have e1:its.toArray[i]?=some u:=by simpa using hu
   rw[e1]at hy;exact (Option.some.inj hy).symm
  subst ey;refine⟨_,rfl,wpAny_letOwnedTupleGo_enum out λh2 he2 sb=>?_⟩;have k2:∀b o,b∉[e,it]->s.heap.get? b=some o->h2.get? b=some o:=λb o hb z=>(sb.2 b λy=>hb (by simp[y])).trans (k1 b o (λy=>hb (by simp[y])) (λy=>hb (by simp[y])) z)
  have hpe:s.heap.objs.size≠e:=Zm (Xt he);have ht2:h2.get? s.heap.objs.size=some {cls:=.type "tuple",data:=.seq #[.int ((i:Nat):Int) tk,y]}:=(sb.2 _ hpe).trans ht;have hn:H s.heap.objs.size=none:=I.hok.fresh (Xr _);refine⟨.ref s.heap.objs.size,Aj H s.heap.objs.size (.tup [.int ((i:Nat):Int),x]),I.turnedNew (h':=h2) (t':=tk+1) hf k2 (Xr _) ⟨by show 2<=sizeLine;decide,[.int ((i:Nat):Int) tk,y],.cons ⟨_,rfl⟩ (.cons ru .nil),⟨_,ht2,rfl,_,rfl⟩⟩,rfl,⟨_,x,rfl,hn,rfl,λys hy=>by rw[I.tuple_inj hy hq];exact hx⟩,⟨⟨y,?_⟩,?_⟩,λb hb=>?_⟩
  ·have ec:(((i+1:Nat)):Int)=((i:Nat):Int)+1:=by push_cast;rfl
   rw[ec];exact he2
  ·exact li1.1.at λo z=>(sb.2 it (Ne.symm hne)).trans z
  ·have b0:=(hf b hb).1;rw[AK λz=>?_]
   ·exact b0
   ·obtain⟨o,z1,_⟩:=id li;rcases YA.mp hb with y|y
    ·exact hpe (z.symm.trans y)
    ·exact qG (Xt z1) (by rw[<-Xl.mp y,z];exact YE _)
 done:=by intro X hP hw hK hc i pins s σ H E I hf st hg;subst hP hw hK;obtain⟨xs,hq,hx⟩:=hg;obtain⟨its,rv,p,hz⟩:=I.tuple hq;obtain⟨⟨old,he⟩,li⟩:=st;obtain⟨f0,f1,f2,f3,f4,f5⟩:=hf it (by simp);have hl:=rv.length;exact Fv (I.ok.hd hc) he li p (by simp;lia) λh' eb=>⟨rfl,I.turned (t':=s.toks) (λb o hb e=>eb b o hb e) f0 f1 f3 f4 f5⟩
 self:=λ_ _ _ _ _ st h=>by obtain⟨⟨old,he⟩,_⟩:=st;exact wpAny_pyIter_enum he h
section
variable{elts:List Expr}{ctx}{tpos:Pos}
def Sv(K:qJ)(ta:TA):TI:=λσ H R=>ta σ H λvs H1=>∃a xs,vs=[.ref a]/\Bi K H1 a xs/\R (Ou K a) H1
theorem Ov{l:Expr}{p pos:Pos}(hg:Gl X "enumerate")(hm:X.mg "enumerate"=none)(ha:PA X [l] ta)(hs:starEach [l] X.env=[(false,eval l X.env)]:=by rfl):PI X (.Tuple elts ctx tpos) (.Call (.Name "enumerate" p) [l] [] pos) (Sv X.K ta):=by
 intro pins s σ H R I h;refine Call_ (CD I hg hm boot_enumerate (YR (BX (ha pos pins s σ H _ I h) λus s1 z9=>?_) hs rfl));obtain⟨vs,H1,I1,r1,q1⟩:=z9;obtain⟨a,xs,e,hq,q⟩:=q1;subst e;cases r1 with
 |cons r rr =>
  cases rr;cases r;obtain⟨its,rv,pl,hz⟩:=I1.tuple hq;have hal:a<s1.heap.objs.size:=by obtain⟨o,ho,_⟩:=id pl;exact Xt ho
  refine Lh pl λh1 he li hsz k1=>?_;refine wpAny_pyIter_enum he ?_;have n1:H1 (s1.heap.objs.size+1)=none:=I1.hok.fresh (Zd _);have n0:H1 s1.heap.objs.size=none:=I1.hok.fresh (Xr _);refine⟨s1.heap.objs.size+1,[s1.heap.objs.size+1,s1.heap.objs.size],_,_,H1,rfl,I1.kept (t':=s1.toks) k1,Li a _ _ (Nat.succ_ne_self _) (YW hal) (Zm (ZC hal)),⟨⟨_,he⟩,li⟩,λb hb=>?_,q⟩;rcases YA.mp hb with z|z
  ·rw[z];exact I1.fpOk (Zd _) n1
  ·rw[Xl.mp z];exact I1.fpOk (Xr _) n0
theorem Nj{K:qJ}{g:TG}{tb:TS}(Pv:Nat->St->Hp->Prop)(h0:Pv 0 σ H)(hl:∀i σ H,i<=xs.length->Pv i σ H->Bi K H a xs)
  (hs:∀i x p σ H,xs[i]?=some x->Pv i σ H->H p=none->g (.ref p) σ (Aj H p (.tup [.int ((i:Nat):Int),x])) λσ2 H2=>tb {D with nx:=Pv (i+1),ct:=Pv (i+1),bk:=D.nx} σ2 H2) (hd:∀σ H,Pv xs.length σ H->D.nx σ H):
  ∃W:Nat->Nat->St->Hp->Prop,(∃m,W 0 m σ H)/\∀i m σ H,W i m σ H ->
   ((Ou K a).stop i H/\D.nx σ H)\/((Ou K a).go i H/\∃N:St->Hp->Prop,(∀σ' H',N σ' H'->∃m',m'<m/\W (i+1) m' σ' H')/\∀x H',(Ou K a).yld i H x H'->g x σ H' λσ2 H2=>tb {D with nx:=N,ct:=N,bk:=D.nx} σ2 H2):=by
 refine⟨λi m σ H=>m=xs.length-i/\i<=xs.length/\Pv i σ H,⟨xs.length,by simp,Nat.zero_le _,h0⟩,?_⟩;rintro i m σ H ⟨rfl,hi,p⟩;have q:=hl i σ H hi p
 by_cases hlt:i<xs.length
 ·refine .inr ⟨⟨xs,xs[i],q,by simp[hlt]⟩,Pv (i+1),λσ' H' p'=>⟨xs.length-(i+1),by lia,rfl,hlt,p'⟩,λv H' y=>?_⟩;obtain⟨p2,x,e1,e2,e3,y⟩:=y;subst e1 e3;exact hs i x p2 σ H (y xs q) p e2
 ·have e:i=xs.length:=by lia
  subst e;exact .inl ⟨⟨xs,q,Xr _⟩,hd σ H p⟩
end
end L2
namespace RW
noncomputable def dr(g n:Int):Nat->Int
 |0=>n
 |i+1=>dr g n i/g
noncomputable def CV(g n:Int):Nat->List Int
 |0=>[]
 |i+1=>CV g n i++[dr g n i%g]
theorem Cm(g n:Int):∀i,(CV g n i).length=i
 |0=>rfl
 |i+1=>by rw[CV,Xp,Cm g n i];rfl
theorem Ah{g:Int}(hg:2<=g):∀m:Nat,0<g^m
 |0=>by rw[YJ];decide
 |m+1=>by rw[X9];exact Int.mul_pos (Ah hg m) (by lia)
theorem Ow{g:Int}(hg:2<=g)(n:Int):∀i:Nat,dr g n i=n/g^i
 |0=>by rw[dr,YJ,Int.ediv_one]
 |i+1=>by rw[dr,Ow hg n i,X9,aD (YI (Ah hg i))]
theorem Mo{g n:Int}(hg:2<=g)(hn:0<=n){m:Nat}(h:n<g^m):dr g n m=0:=by rw[Ow hg];exact Zj hn h
theorem Sw{g n:Int}(hg:2<=g){m:Nat}(h:g^m<=n):0<dr g n m:=by
 rw[Ow hg];have h1:1*g^m<=n:=by rw[Yg];exact h
 have h2:=(Int.le_ediv_iff_mul_le (Ah hg m)).mpr h1;lia
end RW
namespace L2
open PySem
variable{C a b p:Addr}{H H' H1:Hp}{g:Int}{i j:Nat}{o:HO}{xs:List V}{α:Type}
theorem Bu(hg:2<=g){m n:Nat}(h:m<=n):g^m<=g^n:=by obtain⟨k,rfl⟩:=Nat.exists_eq_add_of_le h;rw[Int.pow_add];have h1:=RW.Ah hg m;have h2:=RW.Ah hg k;have h3:=Y1 (show 1<=g^k by lia) (YI h1);lia
theorem JV(hg:2<=g){m n:Nat}(h:m<n):g^m<g^n:=by have h1:=Bu hg (show m+1<=n from h);rw[X9]at h1;have h2:=RW.Ah hg m;have h3:=Y1 hg (YI h2);lia
theorem Cz(hg:2<=g){m n:Nat}(h:g^m=g^n):m=n:=by
 rcases Nat.lt_trichotomy m n with z|z|z
 ·have:=JV hg z;lia
 ·exact z
 ·have:=JV hg z;lia
theorem Ic(hg:2<=g):∀{rs:List Int},(∀n∈rs,0<=n/\n<g)->0<=low g rs/\low g rs<g^rs.length
 |[],_=>⟨Yu _,by show (0:Int)<g^0;rw[YJ];decide⟩
 |x::r,h=>by
  obtain⟨h1,h2⟩:=Ic hg (rs:=r) λn hn=>h n (X0 _ hn)
  obtain⟨h3,h4⟩:=h x X6;have h5:=Zh (show 0<=g by lia) h1;have h6:=Y1 (show low g r+1<=g^r.length by lia) (show 0<=g by lia);rw[Int.mul_add,Zn]at h6;refine⟨by show 0<=x+g*low g r;lia,?_⟩;show x+g*low g r<g^(r.length+1);rw[X9,Yf (g^r.length)];lia
theorem B7(hg:2<=g){ns:List Int}(h:∀n∈ns,0<=n/\n<g):0<=BJ g ns/\BJ g ns<g^ns.length:=by rw[Ml,<-ZB];exact Ic hg λn hn=>h n (List.mem_reverse.mp hn)
theorem JW{l:Addr}{zs:List V}{Q:VK}(h1:H l=some (.lst xs))(h2:H b=some (.lst zs))(hz:xs.length+zs.length<=1000)(q:∀p H',AG H H'->H p=none->H' p=some (.lst (xs++zs))->Q (.ref p) H'):Uz (.ref l) (.ref b) H Q:=
 ⟨l,b,xs,zs,rfl,rfl,h1,h2,Rk hz,λp hp=>q p _ (AG.new hp _) hp AC⟩
theorem Dx{K:qJ}{lo hi:Option Int}{Q:VK}(h:Ad K H a xs)(q:∀p H',AG H H'->H p=none->H' p=some (.lst (Gz xs lo hi))->Q (.ref p) H'):Uy K (.ref a) lo hi H Q:=
 ⟨a,xs,rfl,h,λp hp=>q p _ (AG.new hp _) hp AC⟩
theorem JX{l:Addr}{x:V}{k:Int}{Q:VK}(h:H l=some (.lst [x]))(k0:0<=k)(k1:k<=1000)(q:∀p H',AG H H'->H p=none->H' p=some (.lst (List.replicate k.toNat x))->Q (.ref p) H'):Si (.ref l) (.int k) H Q:=
 ⟨l,k,[x],rfl,rfl,h,by lia,by lia,by rw[YO,Nat.one_mul];exact Rk (by lia),λp hp=>q p _ (AG.new hp _) hp (by rw[AC,Oj])⟩
theorem JY{k:Nat}:Gz xs none (some ((k:Nat):Int))=xs.take k:=by
 have e:HT.FU xs.length xs.length (some ((k:Nat):Int))=min k xs.length:=by show (if ((k:Nat):Int)<0 then (((k:Nat):Int)+(xs.length:Int)).toNat else min ((k:Nat):Int).toNat xs.length)=_;rw[qE (by lia),Xy]
 unfold Gz;rw[e];show (xs.drop 0).take (min k xs.length-0)=_;rw[aS,ZQ]
 by_cases z:k<=xs.length
 ·rw[aq z]
 ·rw[Nat.min_eq_right (by lia),YT,aM (by lia)]
theorem Ox(hij:i<=j)(hj:j<=xs.length):Gz xs (some ((i:Nat):Int)) (some ((j:Nat):Int))=(xs.drop i).take (j-i):=by
 have e1:HT.FU xs.length 0 (some ((i:Nat):Int))=i:=by show (if ((i:Nat):Int)<0 then (((i:Nat):Int)+(xs.length:Int)).toNat else min ((i:Nat):Int).toNat xs.length)=_;rw[qE (by lia),Xy];lia
 have e2:HT.FU xs.length xs.length (some ((j:Nat):Int))=j:=by show (if ((j:Nat):Int)<0 then (((j:Nat):Int)+(xs.length:Int)).toNat else min ((j:Nat):Int).toNat xs.length)=_;rw[qE (by lia),Xy];lia
 unfold Gz;rw[e1,e2]
theorem Qo.same{E:XK}(e:AG H H1)(h:Qo C i H E):Qo C i H1 E:=λH' dx e1 hd=>h H' dx (e.trans e1) hd
theorem B9{ns:List Int}{k:Nat}(h:k<ns.length):G0 (ns.map V.int) ((k:Nat):Int)=some (.int (ns.getD k 0)):=by refine Cg ?_;rw[Xu,Xs h,Xm,Xs h];rfl
def ET(H:Hp)(r:Addr)(g lo:Int)(tab:List Int):Prop:=∃tb,H r=some (.tup [.int g,.int lo,.ref tb])/\H tb=some (.tup (tab.map V.int))
variable{r:Addr}{tab:List Int}
theorem ET.same{lo:Int}(e:AG H H')(h:ET H r g lo tab):ET H' r g lo tab:=by obtain⟨tb,h1,h2⟩:=h;exact⟨tb,e _ _ h1,e _ _ h2⟩
inductive DR(vs:List V)(H:Hp)(Q:VK)(z3_:XK):Prop
 |m (g n:Int):vs=[.int g,.int n]->2<=g->g<=9->(∀m:Nat,n=g^m->Q (.int ((m:Nat):Int)) H)->((∀m:Nat,n≠g^m)->Q (.int 0) H)->DR vs H Q z3_
inductive Di(vs:List V)(H:Hp)(Q:VK)(z3_:XK):Prop
 |m (r:Addr) (g lo:Int) (tab:List Int) (m:Nat):vs=[.ref r]->2<=g->g<=9->ET H r g lo tab->(tab.length:Int)=g^m->Q (.int ((m:Nat):Int)) H->Di vs H Q z3_
noncomputable def EU(g:Int)(m:Nat)(xs:List V):Option Nat:=match B3 g (xs.take m) with
 |some i=>some i
 |none=>if xs.length=m then none else some (min xs.length m)
inductive FG(K:qJ)(C:Addr)(vs:List V)(H:Hp)(Q:VK)(E:XK):Prop
 |m (a:Addr) (xs:List V) (g:Int) (m:Nat):vs=[.ref a,.int g,.int ((m:Nat):Int)]->Ad K H a xs->(∀x∈xs,Kd H x)->(match EU g m xs with|none=>∀H',AG H H'->Q .non H'|some i=>Qo C i H E)->FG K C vs H Q E
inductive Lj(K:qJ)(C:Addr)(vs:List V)(H:Hp)(Q:VK)(E:XK):Prop
 |m (r a:Addr) (g lo:Int) (tab:List Int) (m:Nat) (xs:List V):vs=[.ref r,.ref a]->2<=g->g<=9->ET H r g lo tab->(tab.length:Int)=g^m->Ad K H a xs->(∀x∈xs,Kd H x)->(match EU g m xs with|none=>∀ns:List Int,xs=ns.map V.int->∀H',AG H H'->Q (.int (tab.getD (BJ g ns).toNat 0)) H'|some i=>Qo C i H E)->Lj K C vs H Q E
theorem KS{m:Nat}(h:EU g m xs=none):xs.length=m/\B3 g xs=none:=by
 unfold EU at h;cases e:B3 g (xs.take m) with
 |some i=>rw[e]at h;cases h
 |none =>
  rw[e]at h
  by_cases z:xs.length=m
  ·refine⟨z,?_⟩;rw[<-z,YT]at e;exact e
  ·rw[qE z]at h;cases h
theorem KU{ns:List Int}(h:∀n∈ns,0<=n/\n<g):EU g ns.length (ns.map V.int)=none:=by unfold EU;have e:(ns.map V.int).take ns.length=ns.map V.int:=aM (by rw[Xk];exact Xr _);rw[e,FD h,Xk];exact qF rfl
noncomputable def DB(x y:V):Bool:=(match x with
 |.int g=>decide (2<=g)&&decide (g<=9)
 |_=>false)&&Lc y
theorem JZ{x y:V}(h:DB x y=true):∃g lo:Int,x=.int g/\y=.int lo/\2<=g/\g<=9:=by
 unfold DB at h;cases x with
 |int g =>
  cases y with
  |int lo =>
   simp only[Lc,Bool.and_true,Bool.and_eq_true,decide_eq_true_eq]at h;exact⟨g,lo,rfl,rfl,h.1,h.2⟩
  |_=>simp[Lc]at h
 |_=>simp at h
theorem IK{lo:Int}(g2:2<=g)(g9:g<=9):DB (.int g) (.int lo)=true:=by show ((decide (2<=g)&&decide (g<=9))&&true)=true;rw[qH g2,qH g9];rfl
inductive Lk(C:Addr)(vs:List V)(H:Hp)(Q:VK)(E:XK):Prop
 |m (x y:V):vs=[x,y]->Kd H x->Kd H y->(DB x y=true->Q .non H)->(DB x y=false->E (.ref C) none H)->Lk C vs H Q E
def Ga(H:Hp)(a:Addr)(xs:List V):Prop:=H a=some (.lst xs)\/H a=some (.tup xs)
theorem Ga.same(e:AG H H')(h:Ga H a xs):Ga H' a xs:=h.elim (λq=>.inl (e _ _ q)) λq=>.inr (e _ _ q)
theorem Ga.inj{ys:List V}(h:Ga H a xs)(h':Ga H a ys):xs=ys:=by
 rcases h with h|h
 ·rcases h' with h'|h'
  ·rw[h]at h';cases h';rfl
  ·rw[h]at h';cases h'
 ·rcases h' with h'|h'
  ·rw[h]at h';cases h'
  ·rw[h]at h';cases h';rfl
theorem Ga.sq{K:qJ}(h:Ga H a xs):Ad K H a xs\/Bi K H a xs:=h.elim (λq=>.inl (Ad.of q)) λq=>.inr (Bi.of q)
noncomputable def Rv(H:Hp):V->Prop
 |.ref a=>∃xs,Ga H a xs/\∀x∈xs,Kd H x
 |.non=>True
 |.str _=>True
 |.int _=>True
 |.bl _=>True
 |_=>False
def Mp(g:Int)(xs:List V):Prop:=xs.length<=256/\(∃m:Nat,1<=m/\(xs.length:Int)=g^m)/\B3 g xs=none
def Gf(H:Hp)(g:Int)(z:V):Prop:=∃a xs,z=.ref a/\Ga H a xs/\Mp g xs
inductive Ja(C:Addr)(vs:List V)(H:Hp)(Q:VK)(E:XK):Prop
 |m (g:Int) (z:V):vs=[.int g,z]->2<=g->g<=9->Rv H z->(Gf H g z->∀H',AG H H'->Q .non H')->(¬Gf H g z->∀H',AG H H'->E (.ref C) none H')->Ja C vs H Q E
def Oy(H:Hp)(x y z:V):Prop:=DB x y=true/\∃g,x=.int g/\Gf H g z
inductive Jb(C:Addr)(vs:List V)(H:Hp)(Q:VK)(E:XK):Prop
 |m (x y z:V):vs=[x,y,z]->Kd H x->Kd H y->Rv H z->(∀(g lo:Int) (tab:List Int) (a:Addr),x=.int g->y=.int lo->z=.ref a->Ga H a (tab.map V.int)->2<=g->g<=9->Mp g (tab.map V.int)->(∀n∈tab,0<=n/\n<g)->∀r H',AG H H'->ET H' r g lo tab->Q (.ref r) H')->(¬Oy H x y z->∀H',AG H H'->E (.ref C) none H')->Jb C vs H Q E
theorem Fa{n:Nat}(h:i<n):J7 n ((i:Nat):Int)=some i:=by unfold J7;rw[qF (by lia),qF (by lia),Xy]
theorem Sx{n:Nat}(h:n<=100000):n<=sizeLine:=by rw[sizeLine_eq];lia
theorem KW{l:Addr}{k:Int}{Q:VK}(h:H l=some (.lst xs))(k0:0<=k)(k1:k<=100000)(hz:xs.length*k.toNat<=100000)(q:∀p H',AG H H'->H p=none->H' p=some (.lst (List.replicate k.toNat xs).flatten)->Q (.ref p) H'):Si (.ref l) (.int k) H Q:=
 ⟨l,k,xs,rfl,rfl,h,by lia,by lia,Sx hz,λp hp=>q p _ (AG.new hp _) hp AC⟩
def Fw(H H':Hp)(r:Addr)(ns:List Int):Prop:=AG H H'/\H r=none/\H' r=some (.lst (ns.map V.int))
inductive Ll(NS:Addr)(vs:List V)(H:Hp)(Q:VK)(E:XK):Prop
 |m (n g m:Int):vs=[.int n,.int g,.int m]->2<=g->g<=9->0<=m->m<=300->((n<0\/g^m.toNat<=n)->∀H',AG H H'->E (.ref NS) none H')->(0<=n->n<g^m.toNat->∀r H',Fw H H' r (RW.CV g n m.toNat).reverse->Q (.ref r) H')->Ll NS vs H Q E
inductive Jc(vs:List V)(H:Hp)(Q:VK)(z3_:XK):Prop
 |m (g m:Int):vs=[.int g,.int m]->2<=g->g<=9->1<=m->(g^m.toNat<=256->Q (.int (g^m.toNat)) H)->(256<g^m.toNat->∀r:Int,256<r->Q (.int r) H)->Jc vs H Q z3_
inductive Em(vs:List V)(H:Hp)(Q:VK)(z3_:XK):Prop
 |m (g m:Int):vs=[.int g,.int m]->2<=g->g<=9->0<=m->m<=256->Q (.int (g^m.toNat)) H->Em vs H Q z3_
theorem Mq(g n:Int):∀i:Nat,RW.dr g n (i+1)=RW.dr g (n/g) i
 |0=>rfl
 |i+1=>by rw[RW.dr,Mq g n i];rfl
theorem Ie(g n:Int):∀i:Nat,RW.CV g n (i+1)=n%g::RW.CV g (n/g) i
 |0=>rfl
 |i+1=>by rw[RW.CV,Ie g n i,Mq];rfl
theorem KY(hg:2<=g):∀{l:List Int},(∀n∈l,0<=n/\n<g)->RW.CV g (low g l) l.length=l
 |[],_=>rfl
 |x::r,h=>by obtain⟨h0,h1⟩:=h x X6;rw[YZ,Ie,low,Y8,ZD h0 h1,aW _ _ (show g≠0 by lia),Zj h0 h1,YX,KY hg λn hn=>h n (X0 _ hn)]
theorem Mr(hg:2<=g)(n:Int):∀i:Nat,∀x∈RW.CV g n i,0<=x/\x<g
 |0,x,h=>qG h (by simp[RW.CV])
 |i+1,x,h=>by
  rw[RW.CV]at h;rcases Xq.mp h with z|z
  ·exact Mr hg n i x z
  ·rw[Xl.mp z];exact⟨YY _ (by lia),YQ _ (by lia)⟩
theorem GN(g n:Int):∀i:Nat,low g (RW.CV g n i)+g^i*RW.dr g n i=n
 |0=>by rw[RW.CV,low,RW.dr,YJ];lia
 |i+1=>by have h:=GN g n i;have e:=Int.emod_add_mul_ediv (RW.dr g n i) g;rw[RW.CV,KN,RW.Cm,RW.dr,X9,Int.mul_assoc,Yf (RW.dr g n i%g),Int.add_assoc,<-Int.mul_add,e];exact h
theorem Oz{n:Int}(hg:2<=g)(hn:0<=n)(h:n<g^i):low g (RW.CV g n i)=n:=by have e:=GN g n i;rw[RW.Mo hg hn h,aw,aY]at e;exact e
theorem AG.into(e:AG H H1)(hp:H p=none):AG H (Aj H1 p o):=λb u q=>by rw[AK (Al q hp)];exact e b u q
theorem Jd(g:Int):∀(n:Int) (l:List Int),Ld g n l=n*g^l.length+BJ g l
 |n,[]=>by show n=n*g^0+0;rw[YJ];lia
 |n,x::r=>by show Ld g (n*g+x) r=n*g^(r.length+1)+Ld g (0*g+x) r;rw[Jd g (n*g+x) r,Jd g (0*g+x) r,Y6,YX,Int.add_mul,X9,Int.mul_assoc,Yf g,Int.add_assoc]
theorem Bm(g:Int)(a b:List Int):BJ g (a++b)=BJ g a*g^b.length+BJ g b:=by show (a++b).foldl (λm x=>m*g+x) 0=_;rw[Zu];exact Jd g (Ld g 0 a) b
theorem Qu{ns:List Int}{k m:Nat}(h:k+m<=ns.length):((ns.drop k).take m).length=m:=by rw[YC,Yw];lia
theorem C0(hg:2<=g)(hb:∀n∈tab,0<=n/\n<g)(k:Nat):0<=tab.getD k 0/\tab.getD k 0<g:=by
 rw[Xm];cases e:tab[k]? with
 |none=>exact⟨Yu _,by show (0:Int)<g;lia⟩
 |some v=>exact hb v (X3 e)
noncomputable def KZ(g:Int)(tab:List Int)(m:Nat)(ns:List Int)(k:Nat):Int:=tab.getD (BJ g ((ns.drop k).take m)).toNat 0
noncomputable def CO(g:Int)(tab:List Int)(m:Nat)(ns:List Int):List Int:=(List.range (ns.length+1-m)).map (KZ g tab m ns)
theorem Ka(g:Int)(tab:List Int)(m:Nat)(ns:List Int):(CO g tab m ns).length=ns.length+1-m:=by unfold CO;rw[List.length_map,List.length_range]
theorem A6(f:Nat->α)(i:Nat):(List.range (i+1)).map f=(List.range i).map f++[f i]:=by rw[Ym,Xv];rfl
theorem Sy(hg:2<=g){ns:List Int}(hb:∀n∈ns,0<=n/\n<g){m:Nat}(hl:(tab.length:Int)=g^m){k:Nat}(h:k+m<=ns.length):0<=BJ g ((ns.drop k).take m)/\(BJ g ((ns.drop k).take m)).toNat<tab.length:=by
 have b:=B7 hg (ns:=(ns.drop k).take m) λn hn=>hb n (ZU (Yp hn))
 rw[Qu h]at b;exact⟨b.1,by lia⟩
variable{z:Int}
theorem Cr{ns:List Int}(h0:0<=z)(h:z.toNat<ns.length):G0 (ns.map V.int) z=some (.int (ns.getD z.toNat 0)):=by have e:=B9 (ns:=ns) h;rw[show ((z.toNat:Nat):Int)=z by lia]at e;exact e
noncomputable def BS(g n:Int)(m:Nat):List Int:=(RW.CV g n m).reverse
theorem CC(g n:Int)(m:Nat):(BS g n m).length=m:=by unfold BS;rw[List.length_reverse,RW.Cm]
theorem CJ(hg:2<=g)(n:Int)(m:Nat):∀x∈BS g n m,0<=x/\x<g:=λx hx=>Mr hg n m x (List.mem_reverse.mp hx)
theorem Dj{n:Int}(hg:2<=g)(h0:0<=n){m:Nat}(h:n<g^m):BJ g (BS g n m)=n:=by unfold BS;rw[JS,Oz hg h0 h]
theorem Fx(hg:2<=g){ws:List Int}(hb:∀x∈ws,0<=x/\x<g):BS g (BJ g ws) ws.length=ws:=by
 unfold BS;have e:=KY hg (l:=ws.reverse) λn hn=>hb n (List.mem_reverse.mp hn)
 rw[ZB]at e;rw[Ml,e,List.reverse_reverse]
theorem AM{f:Nat->Int}{n k:Nat}(h:k<n):((List.range n).map f).getD k 0=f k:=by rw[Xm,Xu,List.getElem?_range h];rfl
theorem Ar{a b:List Int}(hl:a.length=b.length)(h:∀k,k<a.length->a.getD k 0=b.getD k 0):a=b:=by apply List.ext_getElem hl;intro i h1 h2;have:=h i h1;rw[Xm,Xm,Xs h1,Xs h2]at this;exact this
noncomputable def BC(g:Int)(tab:List Int)(w:Int):Bool:=(List.range tab.length).any λk:Nat=>!decide (tab.getD k 0=tab.getD ((k:Int)-(k:Int)/w%g*w).toNat 0)
noncomputable def Bk(g lo:Int)(tab:List Int)(m:Nat):List Int:=((List.range m).filter λj=>BC g tab (g^(m-1-j))).map λj:Nat=>lo+(j:Int)
inductive HD(vs:List V)(H:Hp)(Q:VK)(z3_:XK):Prop
 |m (r:Addr) (g lo:Int) (tab:List Int) (w:Int):vs=[.ref r,.int w]->2<=g->g<=9->ET H r g lo tab->0<w->w<=1000->tab.length<=256->(∀H',AG H H'->Q (.bl (BC g tab w)) H')->HD vs H Q z3_
inductive Dy(vs:List V)(H:Hp)(Q:VK)(z3_:XK):Prop
 |m (r:Addr) (g lo:Int) (tab:List Int) (m:Nat):vs=[.ref r]->2<=g->g<=9->ET H r g lo tab->(tab.length:Int)=g^m->1<=m->m<=8->g^m<=256->(∀p H',Fw H H' p (Bk g lo tab m)->Q (.ref p) H')->Dy vs H Q z3_
theorem Sz{k w:Int}(hk:0<=k)(hw:0<w)(hg:2<=g):0<=k-k/w%g*w/\k-k/w%g*w<=k:=by
 have h1:=YY (k/w) (show g≠0 by lia);have h2:=ZK hk (YI hw)
 have h3:k/w%g<=k/w:=by
  by_cases z:k/w<g
  ·rw[ZD h2 z];lia
  ·have:=YQ (k/w) (show 0<g by lia);lia
 have h4:=ZZ h3 (YI hw);have h5:=Zh h1 (YI hw);have h6:=Int.ediv_mul_le k (show w≠0 by lia);exact⟨by lia,by lia⟩
end L2
namespace L2
variable{g z:Int}{i j:Nat}{tab:List Int}
theorem Ms(g x:Int):BJ g [x]=x:=by show 0*g+x=x;rw[Y6,YX]
theorem Fy(g:Int)(a:List Int)(x:Int)(b:List Int):BJ g (a++x::b)=(BJ g a*g+x)*g^b.length+BJ g b:=by rw[show a++x::b=(a++[x])++b by rw[YG];rfl,Bm,HC]
theorem Nk(hg:2<=g){a b:List Int}{x:Int}(hb:∀n∈b,0<=n/\n<g)(hx:0<=x/\x<g):BJ g (a++x::b)/g^b.length%g=x:=by have b1:=B7 hg hb;have gp:=RW.Ah hg b.length;rw[Fy,Int.add_comm,Yf,aW _ _ (by lia),Zj b1.1 b1.2,YX,Int.add_comm,Yf,Y8,ZD hx.1 hx.2]
theorem Kb{w:List Int}(h:j<w.length):w=w.take j++w.getD j 0::w.drop (j+1):=by rw[Xm,Xs h];show w=w.take j++w[j]::w.drop (j+1);rw[<-Y0 h,Ye]
theorem Nl{w:List Int}(h:j<w.length)(v:Int):w.set j v=w.take j++v::w.drop (j+1):=List.set_eq_take_append_cons_drop▸qF h
theorem Je(hg:2<=g){w:List Int}(hb:∀n∈w,0<=n/\n<g)(h:j<w.length):BJ g w/g^(w.length-1-j)%g=w.getD j 0:=by
 have hl:(w.drop (j+1)).length=w.length-1-j:=by rw[Yw];lia
 have e:=Nk hg (a:=w.take j) (b:=w.drop (j+1)) (x:=w.getD j 0) (λn hn=>hb n (ZU hn)) (C0 hg hb j);rw[<-Kb h,hl]at e;exact e
theorem HE(hg:2<=g){w:List Int}(hb:∀n∈w,0<=n/\n<g)(h:j<w.length):BJ g w-BJ g w/g^(w.length-1-j)%g*g^(w.length-1-j)=BJ g (w.set j 0):=by
 rw[Je hg hb h,Nl h];have hl:(w.drop (j+1)).length=w.length-1-j:=by rw[Yw];lia
 have e:=Fy g (w.take j) (w.getD j 0) (w.drop (j+1));rw[<-Kb h]at e;rw[e,Fy,hl,Int.add_mul,aY];lia
theorem FH{w:Int}(h:BC g tab w=false){k:Nat}(hk:k<tab.length):tab.getD k 0=tab.getD ((k:Int)-(k:Int)/w%g*w).toNat 0:=by unfold BC at h;rw[List.any_eq_false]at h;have:=h k (YD.mpr hk);simpa using this
theorem Lm(hg:2<=g){m:Nat}(hl:(tab.length:Int)=g^m){w:List Int}(hb:∀n∈w,0<=n/\n<g)(hw:w.length=m)(hj:j<m)(hc:BC g tab (g^(m-1-j))=false):tab.getD (BJ g w).toNat 0=tab.getD (BJ g (w.set j 0)).toNat 0:=by have b:=B7 hg hb;rw[hw]at b;have e:=FH hc (k:=(BJ g w).toNat) (by lia);have n0:=HE hg hb (j:=j) (by lia);rw[hw]at n0;rw[show (((BJ g w).toNat:Nat):Int)=BJ g w by lia,n0]at e;exact e
noncomputable def zk(keep:Nat->Bool)(w:List Int)(k:Nat):List Int:=(List.range w.length).map λj=>if j<k/\keep j=false then 0 else w.getD j 0
theorem CY(keep:Nat->Bool)(w:List Int)(k:Nat):(zk keep w k).length=w.length:=by unfold zk;rw[List.length_map,List.length_range]
theorem FI(keep:Nat->Bool)(w:List Int)(k:Nat)(h:j<w.length):(zk keep w k).getD j 0=if j<k/\keep j=false then 0 else w.getD j 0:=by unfold zk;exact AM h
theorem Qv(keep:Nat->Bool)(w:List Int):zk keep w 0=w:=by refine Ar (CY keep w 0) λj hj=>?_;rw[CY]at hj;rw[FI keep w 0 hj,qE (by lia)]
theorem VL(hg:2<=g){keep:Nat->Bool}{w:List Int}(hb:∀n∈w,0<=n/\n<g)(k:Nat):∀n∈zk keep w k,0<=n/\n<g:=λn hn=>by
 unfold zk at hn;obtain⟨j,_,e⟩:=YH.mp hn;subst e;split
 ·exact⟨Yu _,by lia⟩
 ·exact C0 hg hb _
theorem Kc{w:List Int}{v:Int}(h:i<w.length):(w.set i v).getD j 0=if i=j then v else w.getD j 0:=by
 rw[Xm,List.getElem?_set]
 by_cases e:i=j
 ·rw[qF e,qF e];subst e;rw[qF h];rfl
 ·rw[qE e,qE e,Xm]
theorem Qw(keep:Nat->Bool)(w:List Int){k:Nat}(hk:k<w.length):zk keep w (k+1)=if keep k=false then (zk keep w k).set k 0 else zk keep w k:=by
 by_cases e:keep k=false
 ·rw[qF e];refine Ar (by rw[Zo,CY,CY]) λj hj=>?_;rw[CY]at hj;rw[FI keep w _ hj,Kc (by rw[CY];exact hk),FI keep w _ hj]
  by_cases z:k=j
  ·subst z;rw[qF ⟨by lia,e⟩,qF rfl]
  ·rw[qE z]
   by_cases y:j<k/\keep j=false
   ·rw[qF y,qF ⟨by lia,y.2⟩]
   ·rw[qE y,qE (λx=>y ⟨by lia,x.2⟩)]
 ·rw[qE e];refine Ar (by rw[CY,CY]) λj hj=>?_;rw[CY]at hj;rw[FI keep w _ hj,FI keep w _ hj]
  by_cases y:j<k/\keep j=false
  ·rw[qF y,qF ⟨by lia,y.2⟩]
  ·rw[qE y,qE (λx=>y ⟨Y5 (by lia) (λz=>e (z▸x.2)),x.2⟩)]
theorem Gg(hg:2<=g){m:Nat}(hl:(tab.length:Int)=g^m){keep:Nat->Bool}(hc:∀j,j<m->keep j=false->BC g tab (g^(m-1-j))=false){w:List Int}(hb:∀n∈w,0<=n/\n<g)(hw:w.length=m):∀k,k<=m->tab.getD (BJ g (zk keep w k)).toNat 0=tab.getD (BJ g w).toNat 0
 |0,_=>by rw[Qv]
 |k+1,h=>by
  rw[Qw keep w (by lia)]
  by_cases e:keep k=false
  ·rw[qF e,<-Lm hg hl (VL hg hb k) (by rw[CY,hw]) (by lia) (hc k (by lia) e)];exact Gg hg hl hc hb hw k (by lia)
  ·rw[qE e];exact Gg hg hl hc hb hw k (by lia)
theorem HG(hg:2<=g){m:Nat}(hl:(tab.length:Int)=g^m){v w:List Int}(hv:∀n∈v,0<=n/\n<g)(hw:∀n∈w,0<=n/\n<g)(lv:v.length=m)(lw:w.length=m)
  (h:∀j,j<m->BC g tab (g^(m-1-j))=true->v.getD j 0=w.getD j 0):tab.getD (BJ g v).toNat 0=tab.getD (BJ g w).toNat 0:=by
 have key:∀j,j<m->(λj=>BC g tab (g^(m-1-j))) j=false->BC g tab (g^(m-1-j))=false:=λj _ e=>e
 rw[<-Gg hg hl key hv lv m (Xr _),<-Gg hg hl key hw lw m (Xr _)]
 congr 3
 refine Ar (by rw[CY,CY,lv,lw]) λj hj=>?_;rw[CY,lv]at hj;rw[FI _ _ _ (by lia),FI _ _ _ (by lia)]
 by_cases e:j<m/\BC g tab (g^(m-1-j))=false
 ·rw[qF e,qF e]
 ·rw[qE e,qE e];refine h j hj ?_;cases z:BC g tab (g^(m-1-j)) with
  |true=>rfl
  |false=>exact qG ⟨hj,z⟩ e
noncomputable def sn(v:List Int)(z:Int):Int:=if z<0\/(v.length:Int)<=z then 0 else v.getD z.toNat 0
theorem Rw(hg:2<=g){v:List Int}(hb:∀n∈v,0<=n/\n<g)(z:Int):0<=sn v z/\sn v z<g:=by
 unfold sn;split
 ·exact⟨Yu _,by lia⟩
 ·exact C0 hg hb _
theorem Jf{v:List Int}(h:j<v.length):sn v ((j:Nat):Int)=v.getD j 0:=by unfold sn;rw[qE (by lia),Xy]
noncomputable def Ke(v:List Int)(d:Int)(m:Nat):List Int:=(List.range m).map λj:Nat=>sn v (d+(j:Int))
theorem C1(v:List Int)(d:Int)(m:Nat):(Ke v d m).length=m:=by unfold Ke;rw[List.length_map,List.length_range]
theorem Ln(hg:2<=g){v:List Int}(hb:∀n∈v,0<=n/\n<g)(d:Int)(m:Nat):∀n∈Ke v d m,0<=n/\n<g:=λn hn=>by unfold Ke at hn;obtain⟨j,_,e⟩:=YH.mp hn;subst e;exact Rw hg hb _
theorem Gh(v:List Int)(d:Int){m:Nat}(h:j<m):(Ke v d m).getD j 0=sn v (d+(j:Int)):=by unfold Ke;exact AM h
theorem Kf(v:List Int):Ke v 0 v.length=v:=by refine Ar (C1 _ _ _) λj hj=>?_;rw[C1]at hj;rw[Gh v 0 hj,YX,Jf hj]
noncomputable def Ey(g lo:Int)(tab:List Int)(m:Nat)(low:Int)(M:Nat):List Int:=(List.range (g^M).toNat).map λn:Nat=>tab.getD (BJ g (Ke (BS g (n:Int) M) (lo-low) m)).toNat 0
theorem BG(hg:2<=g)(lo:Int)(tab:List Int)(m:Nat)(low:Int)(M:Nat):((Ey g lo tab m low M).length:Int)=g^M:=by unfold Ey;rw[Xk,Xx,X8 (YI (RW.Ah hg M))]
theorem O0(hg:2<=g)(lo:Int)(hb:∀n∈tab,0<=n/\n<g)(m:Nat)(low:Int)(M:Nat):∀n∈Ey g lo tab m low M,0<=n/\n<g:=λn hn=>by unfold Ey at hn;obtain⟨j,_,e⟩:=YH.mp hn;subst e;exact C0 hg hb _
theorem Kg(hg:2<=g)(lo:Int)(tab:List Int)(m:Nat)(low:Int){v:List Int}(hb:∀n∈v,0<=n/\n<g):(Ey g lo tab m low v.length).getD (BJ g v).toNat 0=tab.getD (BJ g (Ke v (lo-low) m)).toNat 0:=by have b:=B7 hg hb;unfold Ey;rw[AM (by lia),show (((BJ g v).toNat:Nat):Int)=BJ g v by lia,Fx hg hb]
theorem Jg(hg:2<=g){m k:Nat}(h:(k:Int)<g^m):∃w:List Int,w.length=m/\(∀n∈w,0<=n/\n<g)/\BJ g w=(k:Int):=⟨BS g (k:Int) m,CC _ _ _,CJ hg _ _,Dj hg (by lia) h⟩
theorem O1(hg:2<=g){a b:List Int}{m:Nat}(la:(a.length:Int)=g^m)(lb:(b.length:Int)=g^m)(h:∀w:List Int,w.length=m->(∀n∈w,0<=n/\n<g)->a.getD (BJ g w).toNat 0=b.getD (BJ g w).toNat 0):a=b:=by refine Ar (by lia) λk hk=>?_;obtain⟨w,h1,h2,h3⟩:=Jg hg (m:=m) (k:=k) (by lia);have:=h w h1 h2;rw[h3,Xy]at this;exact this
theorem O2(hg:2<=g)(lo:Int){m:Nat}(hl:(tab.length:Int)=g^m):Ey g lo tab m lo m=tab:=by refine O1 hg (BG hg _ _ _ _ _) hl λw hw hb=>?_;subst hw;rw[Kg hg lo tab _ lo hb,Int.sub_self,Kf]
theorem Lo{lo:Int}{m:Nat}:z∈Bk g lo tab m↔∃j:Nat,j<m/\BC g tab (g^(m-1-j))=true/\z=lo+(j:Int):=by
 unfold Bk;constructor
 ·intro h;obtain⟨j,hj,e⟩:=YH.mp h;obtain⟨h1,h2⟩:=Ya.mp hj;exact⟨j,YD.mp h1,h2,e.symm⟩
 ·rintro⟨j,hj,hc,rfl⟩;exact YH.mpr ⟨j,Ya.mpr ⟨YD.mpr hj,hc⟩,rfl⟩
theorem Dk{w:Int}:BC g tab w=true↔∃k:Nat,k<tab.length/\tab.getD k 0≠tab.getD ((k:Int)-(k:Int)/w%g*w).toNat 0:=by
 unfold BC;rw[Y2];constructor
 ·rintro⟨k,hk,h⟩;exact⟨k,List.mem_range.mp hk,by simpa using h⟩
 ·rintro⟨k,hk,h⟩;exact⟨k,List.mem_range.mpr hk,by simpa using h⟩
theorem Lp(hg:2<=g){m:Nat}(hl:(tab.length:Int)=g^m)(hj:j<m):BC g tab (g^(m-1-j))=true↔∃w:List Int,w.length=m/\(∀n∈w,0<=n/\n<g)/\tab.getD (BJ g w).toNat 0≠tab.getD (BJ g (w.set j 0)).toNat 0:=by
 rw[Dk];constructor
 ·rintro⟨k,hk,h⟩;obtain⟨w,h1,h2,h3⟩:=Jg hg (m:=m) (k:=k) (by lia);refine⟨w,h1,h2,?_⟩;have n0:=HE hg h2 (j:=j) (by lia);rw[h1,h3]at n0;rw[<-n0,h3,Xy];exact h
 ·rintro⟨w,h1,h2,h⟩;have b:=B7 hg h2;rw[h1]at b;refine⟨(BJ g w).toNat,by lia,?_⟩;have n0:=HE hg h2 (j:=j) (by lia);rw[h1]at n0;rw[show (((BJ g w).toNat:Nat):Int)=BJ g w by lia,n0];exact h
structure Dz(g lo:Int)(tab:List Int)(m:Nat)(low:Int)(M:Nat):Prop where
 one:1<=M
 all:∀j,j<m->BC g tab (g^(m-1-j))=true->low<=lo+(j:Int)/\lo+(j:Int)<low+(M:Int)
 ends:((∀j,j<m->BC g tab (g^(m-1-j))=false)/\low=0/\M=1)\/∃j0 j1:Nat,j0<=j1/\j1<m/\low=lo+(j0:Int)/\M=j1-j0+1/\BC g tab (g^(m-1-j0))=true/\BC g tab (g^(m-1-j1))=true
theorem IL(p:Nat->Bool)(n:Nat):((List.range n).filter p).Pairwise (·<·):=List.Pairwise.filter p List.pairwise_lt_range
theorem Lq:∀{l:List Nat},l.Pairwise (·<·)->∀x∈l,l.getD 0 0<=x
 |[],_,x,h=>qG h (by simp)
 |a::r,hp,x,h=>by
  rcases YA.mp h with z|z
  ·rw[z];exact Xr _
  ·exact ZF ((aE.mp hp).1 x z)
theorem Fz:∀{l:List Nat},l.Pairwise (·<·)->∀x∈l,x<=l.getD (l.length-1) 0
 |[],_,x,h=>qG h (by simp)
 |[a],_,x,h=>by rw[Xl.mp h];exact Xr _
 |a::b::r,hp,x,h=>by
  have ih:=Fz (l:=b::r) (aE.mp hp).2;have e:(a::b::r).getD ((a::b::r).length-1) 0=(b::r).getD ((b::r).length-1) 0:=rfl;rw[e];rcases YA.mp h with z|z
  ·rw[z];exact YK (ZF ((aE.mp hp).1 b X6)) (ih b X6)
  ·exact ih x z
theorem HI:∀{l:List Nat} {k:Nat},k<l.length->l.getD k 0∈l:=λ{l k} h=>by rw[Xm,Xs h];exact List.getElem_mem h
theorem GO{f:Nat->Int}{l:List Nat}{k:Nat}(h:k<l.length):(l.map f).getD k 0=f (l.getD k 0):=by rw[Xm,Xu,Xs h,Xm,Xs h];rfl
theorem Kh{lo:Int}{m:Nat}(h:Bk g lo tab m=[]):Dz g lo tab m 0 1:=by
 have f:∀j,j<m->BC g tab (g^(m-1-j))=false:=λj hj=>by
  cases z:BC g tab (g^(m-1-j)) with
  |false=>rfl
  |true=>exact qG (Lo.mpr ⟨j,hj,z,rfl⟩) (by rw[h];simp)
 exact⟨Xr _,λj hj hc=>qG hc (by rw[f j hj];decide),.inl ⟨f,rfl,rfl⟩⟩
theorem Ig{lo:Int}{m:Nat}(h:Bk g lo tab m≠[]):∃M:Nat,(M:Int)=(Bk g lo tab m).getD ((Bk g lo tab m).length-1) 0-(Bk g lo tab m).getD 0 0+1/\M<=m/\Dz g lo tab m ((Bk g lo tab m).getD 0 0) M:=by
 unfold Bk at h⊢;generalize hl:((List.range m).filter λj=>BC g tab (g^(m-1-j)))=l at h⊢
 have hne:0<l.length:=by
  cases l with
  |nil=>exact qG rfl h
  |cons a r=>simp
 have hm:∀j,j∈l↔j<m/\BC g tab (g^(m-1-j))=true:=λj=>by rw[<-hl,Ya,YD]
 have hp:l.Pairwise (·<·):=by rw[<-hl];exact IL _ _
 rw[Xk,GO (show l.length-1<l.length by lia),GO hne];have m0:=(hm _).mp (HI hne);have m1:=(hm _).mp (HI (show l.length-1<l.length by lia));have le:=Fz hp _ (HI hne);refine⟨l.getD (l.length-1) 0-l.getD 0 0+1,by lia,by lia,⟨by lia,λj hj hc=>?_,.inr ⟨l.getD 0 0,l.getD (l.length-1) 0,le,m1.1,rfl,rfl,m0.2,m1.2⟩⟩⟩;have a1:=Lq hp j ((hm j).mpr ⟨hj,hc⟩);have a2:=Fz hp j ((hm j).mpr ⟨hj,hc⟩);lia
variable{M:Nat}
theorem Lr{w:List Int}(h:j+M<=w.length):Ke w (j:Int) M=(w.drop j).take M:=by refine Ar (by rw[C1,YC,Yw];lia) λk hk=>?_;rw[C1]at hk;rw[Gh _ _ hk,show (j:Int)+(k:Int)=((j+k:Nat):Int) by lia,Jf (by lia),Xm,Xm,List.getElem?_take,qF hk,List.getElem?_drop]
theorem Nm(hg:2<=g){m:Nat}(hl:(tab.length:Int)=g^m)(f:∀j,j<m->BC g tab (g^(m-1-j))=false){w:List Int}(hb:∀n∈w,0<=n/\n<g)(hw:w.length=m):tab.getD (BJ g w).toNat 0=tab.getD 0 0:=by
 obtain⟨z,h1,h2,h3⟩:=Jg hg (m:=m) (k:=0) (RW.Ah hg m);have e:=HG hg hl hb h2 hw h1 λj hj hc=>qG hc (by rw[f j hj];decide)
 rw[h3]at e;exact e
theorem O3(hg:2<=g){lo low:Int}{m:Nat}(hl:(tab.length:Int)=g^m)(f:∀j,j<m->BC g tab (g^(m-1-j))=false):Ey g lo tab m low M=List.replicate (g^M).toNat (tab.getD 0 0):=by unfold Ey;rw[Zp];refine⟨by rw[Xk,Xx],λb hb=>?_⟩;obtain⟨n,_,e⟩:=YH.mp hb;rw[<-e,Nm hg hl f (Ln hg (CJ hg _ _) _ _) (C1 _ _ _)]
end L2
namespace L2
variable{g:Int}{j:Nat}{tab:List Int}
noncomputable def Am(n:Nat)(f:Nat->Int):Int:=((List.range n).map f).sum
theorem CZ(f:Nat->Int):Am 0 f=0:=rfl
theorem A3(n:Nat)(f:Nat->Int):Am (n+1) f=Am n f+f n:=by unfold Am;rw[Ym,Xv,List.sum_append];show _+([f n]:List Int).sum=_;rw[List.sum_cons,List.sum_nil,aY]
theorem Ae{n:Nat}{f g:Nat->Int}(h:∀k,k<n->f k=g k):Am n f=Am n g:=by unfold Am;rw[Yv λk hk=>h k (YD.mp hk)]
theorem Ki(n:Nat)(f g:Nat->Int):Am n (λk=>f k+g k)=Am n f+Am n g:=by
 induction n with
 |zero=>rfl
 |succ n ih=>rw[A3,A3,A3,ih];lia
theorem Dl(n:Nat)(f:Nat->Int)(c:Int):Am n (λk=>f k*c)=Am n f*c:=by
 induction n with
 |zero=>rw[CZ,CZ,Y6]
 |succ n ih=>rw[A3,A3,ih,Int.add_mul]
theorem Bn(n:Nat)(c:Int):Am n (λ_=>c)=(n:Int)*c:=by
 induction n with
 |zero=>rw[CZ];simp
 |succ n ih=>rw[A3,ih,Int.natCast_add,Int.add_mul];simp
theorem DS{n:Nat}{f:Nat->Int}(h:∀k,k<n->0<=f k):0<=Am n f:=by
 induction n with
 |zero=>exact Yu _
 |succ n ih =>
  rw[A3];have h1:=ih λk hk=>h k (ZC hk)
  have h2:=h n (Zg n);lia
theorem Jh{n:Nat}{f:Nat->Int}(h:∀k,k<n->0<=f k)(hj:j<n):f j<=Am n f:=by
 induction n with
 |zero=>exact qG hj (aG _)
 |succ n ih =>
  rw[A3]
  by_cases e:j=n
  ·subst e;have h1:=DS (n:=j) (f:=f) λk hk=>h k (ZC hk)
   lia
  ·have h1:=ih (λk hk=>h k (ZC hk)) (by lia);have h2:=h n (Zg n);lia
theorem C6(a b:Nat)(f:Nat->Nat->Int):Am a (λi=>Am b (λj=>f i j))=Am b (λj=>Am a (λi=>f i j)):=by
 induction a with
 |zero =>
  rw[CZ];have:Am b (λ_=>(0:Int))=0:=by rw[Bn,aw]
  exact this.symm
 |succ a ih =>
  rw[A3,ih,<-Ki];exact Ae λj _=>(A3 a _).symm
theorem Ls(a b:Nat)(f:Nat->Int):Am (a+b) f=Am a f+Am b (λk=>f (a+k)):=by
 induction b with
 |zero=>rw[CZ,aY];rfl
 |succ b ih=>rw[<-ao,A3,A3,ih,Int.add_assoc]
theorem Ih(a b:Nat)(f:Nat->Int):Am (a*b) f=Am a (λi=>Am b (λj=>f (i*b+j))):=by
 induction a with
 |zero=>rw[Nat.zero_mul];rfl
 |succ a ih=>rw[av,Ls,A3,ih]
noncomputable def D0(p:Bool)(x:Int):Int:=if p then x else 0
theorem FJ{p:Bool}{x:Int}(h:0<=x):0<=D0 p x:=by unfold D0;split<;>lia
theorem Kj(n j:Nat)(hj:j<n)(x:Int):Am n (λk=>D0 (decide (k=j)) x)=x:=by
 induction n with
 |zero=>exact qG hj (aG _)
 |succ n ih =>
  rw[A3]
  by_cases e:j=n
  ·subst e;have z:Am j (λk=>D0 (decide (k=j)) x)=0:=by rw[Ae (g:=λ_=>0) λk hk=>by unfold D0;rw[qI (by lia)];rfl,Bn,Int.mul_zero]
   rw[z];unfold D0;rw[qH rfl];simp
  ·rw[ih (by lia)];unfold D0;rw[qI (by lia)];simp
noncomputable def Cs(G:Nat)(tab:List Int):List Int->Nat->Int
 |[],_=>1
 |s::r,h=>Am G λj=>D0 (decide (tab.getD (h*G+j) 0=s)) (Cs G tab r ((h*G+j)%(tab.length/G)))
theorem Ca(G:Nat)(tab:List Int):∀(r:List Int) (h:Nat),0<=Cs G tab r h
 |[],_=>by show (0:Int)<=1;decide
 |s::r,h=>DS λj _=>FJ (Ca G tab r _)
noncomputable def B5(G:Nat)(tab:List Int)(r:List Int):Int:=Am (tab.length/G) (Cs G tab r)
theorem DC(G:Nat)(tab r:List Int):0<=B5 G tab r:=DS λh _=>Ca G tab r h
variable{G:Nat}
theorem Ii{v:Int}(h0:0<=v)(h1:v<(G:Int))(x:Int):Am G (λs=>D0 (decide (v=(s:Int))) x)=x:=by
 refine Eq.trans (Ae λs _=>?_) (Kj G v.toNat (by lia) x);unfold D0
 by_cases e:s=v.toNat
 ·rw[qH (show v=(s:Int) by lia),qH e]
 ·rw[qI (show ¬v=(s:Int) by lia),qI e]
theorem HJ(hG:2<=G)(hb:∀n∈tab,0<=n/\n<(G:Int)):∀(r:List Int) (h:Nat),Am G (λs=>Cs G tab (r++[(s:Int)]) h)=Cs G tab r h*(G:Int)
 |[],h=>by
  show Am G (λs=>Am G λj=>D0 (decide (tab.getD (h*G+j) 0=(s:Int))) 1)=1*(G:Int);rw[C6]
  have:Am G (λj=>Am G (λs=>D0 (decide (tab.getD (h*G+j) 0=(s:Int))) 1))=Am G (λ_=>1):=Ae λj _=>by have b:0<=tab.getD (h*G+j) 0/\tab.getD (h*G+j) 0<(G:Int):=C0 (by lia) hb _;exact Ii b.1 b.2 1
  rw[this,Bn,Yg,Zn]
 |a::r,h=>by
  show Am G (λs=>Am G λj=>D0 (decide (tab.getD (h*G+j) 0=a)) (Cs G tab (r++[(s:Int)]) ((h*G+j)%(tab.length/G))))=(Am G λj=>D0 (decide (tab.getD (h*G+j) 0=a)) (Cs G tab r ((h*G+j)%(tab.length/G))))*(G:Int);rw[C6,<-Dl];refine Ae λj _=>?_;unfold D0;cases decide (tab.getD (h*G+j) 0=a) with
  |true=>exact HJ hG hb r _
  |false =>
   show Am G (λ_=>(0:Int))=0*(G:Int);rw[Bn,aw,Y6]
theorem Lu(hG:2<=G)(hb:∀n∈tab,0<=n/\n<(G:Int))(r:List Int):Am G (λs=>B5 G tab (r++[(s:Int)]))=B5 G tab r*(G:Int):=by unfold B5;rw[C6,<-Dl];exact Ae λh _=>HJ hG hb r h
theorem HK{m:Nat}{ns:List Int}(h:ns.length<m):CO g tab m ns=[]:=by unfold CO;rw[show ns.length+1-m=0 by lia];rfl
theorem Ij{m:Nat}{y:Int}{ns:List Int}(h:m<=ns.length+1):CO g tab m (y::ns)=KZ g tab m (y::ns) 0::CO g tab m ns:=by unfold CO;rw[YZ,show ns.length+1+1-m=(ns.length+1-m)+1 by lia,List.range_succ_eq_map,Yj,Za];rfl
theorem BP(hg:2<=g){m:Nat}(hl:(tab.length:Int)=g^m)(hm:1<=m):((tab.length/g.toNat:Nat):Int)=g^(m-1)/\tab.length=tab.length/g.toNat*g.toNat:=by
 obtain⟨k,rfl⟩:∃k,m=k+1:=⟨m-1,by lia⟩
 have e:tab.length=(g^k).toNat*g.toNat:=by have p:=RW.Ah hg k;rw[X9]at hl;apply Int.ofNat.inj;show (tab.length:Int)=(((g^k).toNat*g.toNat:Nat):Int);rw[hl,Yn,X8 (YI p),X8 (by lia)]
 have q:tab.length/g.toNat=(g^k).toNat:=by rw[e];exact Nat.mul_div_cancel _ (by lia)
 rw[q,ZR];exact⟨X8 (YI (RW.Ah hg k)),e⟩
theorem Kk(hg:2<=g){m:Nat}(hl:(tab.length:Int)=g^m)(hm:1<=m):∀(rest w:List Int),w.length=m-1->(∀n∈w++rest,0<=n/\n<g)->1<=Cs g.toNat tab (CO g tab m (w++rest)) (BJ g w).toNat
 |[],w,hw,_=>by rw[Yd,HK (by lia)];exact Yu _
 |x::r,w,hw,hb=>by
  have hx:=hb x (Xq.mpr (.inr X6))
  obtain⟨y,w',e⟩:∃y w',w++[x]=y::w':=by
   cases w with
   |nil=>exact⟨x,[],rfl⟩
   |cons a t=>exact⟨a,t++[x],rfl⟩
  have e2:w++x::r=y::(w'++r):=by rw[<-Z6,<-e,YG];rfl
  have hw':w'.length=m-1:=by have:=congrArg List.length e;rw[Xp,YZ]at this;simp only[List.length_cons,List.length_nil]at this;lia
  have hbw:∀n∈w,0<=n/\n<g:=λn hn=>hb n (Xq.mpr (.inl hn))
  have hbw':∀n∈w',0<=n/\n<g:=λn hn=>hb n (by rw[e2];exact X0 _ (Xq.mpr (.inl hn)))
  have ih:=Kk hg hl hm r w' hw' λn hn=>hb n (by rw[e2];exact X0 _ hn)
  have hd:=BP hg hl hm;have b1:=B7 hg hbw;have b2:=B7 hg hbw';rw[hw']at b2;rw[e2,Ij (by rw[Xp];lia)]
  have hwin:KZ g tab m (y::(w'++r)) 0=tab.getD ((BJ g w).toNat*g.toNat+x.toNat) 0:=by
   unfold KZ
   have t1:(List.drop 0 (y::(w'++r))).take m=w++[x]:=by rw[List.drop_zero,<-List.cons_append,<-e,List.take_append_of_le_length (by simp only[List.length_append,List.length_cons,List.length_nil];lia),List.take_of_length_le (by simp only[List.length_append,List.length_cons,List.length_nil];lia)]
   rw[t1,Bm]
   congr 1
   show (BJ g w*g^1+BJ g [x]).toNat=_;have nx:BJ g [x]=x:=by show 0*g+x=x;rw[Y6,YX]
   rw[nx,X9,YJ,Yg,Int.toNat_add (Zh b1.1 (by lia)) hx.1,Int.toNat_mul b1.1 (by lia)]
  have hmod:((BJ g w).toNat*g.toNat+x.toNat)%(tab.length/g.toNat)=(BJ g w').toNat:=by
   have z:BJ g w*g+x=BJ g w'+y*g^(m-1):=by
    have q:=congrArg (BJ g) e;rw[Bm,show y::w'=[y]++w' from rfl,Bm,hw']at q;have nx:BJ g [x]=x:=by show 0*g+x=x;rw[Y6,YX]
    have ny:BJ g [y]=y:=by show 0*g+y=y;rw[Y6,YX]
    rw[nx,ny]at q;have g1:g^([x]:List Int).length=g:=by show g^1=g;rw[X9,YJ,Yg]
    rw[g1]at q;lia
   apply Int.ofNat.inj;show (((BJ g w).toNat*g.toNat+x.toNat)%(tab.length/g.toNat):Nat)=(((BJ g w').toNat:Nat):Int);rw[Yx,aH,Yn,hd.1,X8 b1.1,X8 (by lia),X8 hx.1,X8 b2.1,z,Yf y,Y8,ZD b2.1 b2.2]
  have key:=Jh (n:=g.toNat) (f:=λj=>D0 (decide (tab.getD ((BJ g w).toNat*g.toNat+j) 0=KZ g tab m (y::(w'++r)) 0)) (Cs g.toNat tab (CO g tab m (w'++r)) (((BJ g w).toNat*g.toNat+j)%(tab.length/g.toNat)))) (λj _=>FJ (Ca _ _ _ _)) (j:=x.toNat) (by lia);refine Yi ?_ key;show 1<=D0 _ _;rw[hmod,hwin,qH rfl];exact ih
theorem Qx(hg:2<=g){m:Nat}(hl:(tab.length:Int)=g^m)(hm:1<=m){ns:List Int}(hb:∀n∈ns,0<=n/\n<g):1<=B5 g.toNat tab (CO g tab m ns):=by
 have hd:=BP hg hl hm;have hp:=RW.Ah hg (m-1)
 by_cases h:ns.length<m
 ·rw[HK h];show 1<=Am (tab.length/g.toNat) (λ_=>1);rw[Bn,Zn,hd.1];lia
 ·have hw:(ns.take (m-1)).length=m-1:=by rw[YC];lia
  have p:=Kk hg hl hm (ns.drop (m-1)) (ns.take (m-1)) hw (by rw[Ye];exact hb);rw[Ye]at p;have b:=B7 hg (ns:=ns.take (m-1)) λn hn=>hb n (Yp hn)
  rw[hw,<-hd.1]at b;exact Yi p (Jh (f:=Cs g.toNat tab (CO g tab m ns)) (λh _=>Ca _ _ _ _) (by lia))
noncomputable def Wg(G:Nat)(tab:List Int)(s:Int)(F:Nat->Int):Nat->Int:=λv=>Am tab.length λa=>D0 (decide (tab.getD a 0=s)&&decide (a%(tab.length/G)=v)) (F (a/G))
theorem O4(hG:2<=G)(hp:0<tab.length/G)(hd:tab.length=tab.length/G*G)(s:Int)(r:List Int)(F:Nat->Int):
  Am (tab.length/G) (λv=>Wg G tab s F v*Cs G tab r v)=Am (tab.length/G) (λv=>F v*Cs G tab (s::r) v):=by
 have e1:Am (tab.length/G) (λv=>F v*Cs G tab (s::r) v)=Am tab.length (λa=>D0 (decide (tab.getD a 0=s)) (F (a/G)*Cs G tab r (a%(tab.length/G)))):=by
  have h1:Am (tab.length/G*G) (λa=>D0 (decide (tab.getD a 0=s)) (F (a/G)*Cs G tab r (a%(tab.length/G))))=Am (tab.length/G) (λv=>F v*Cs G tab (s::r) v):=by
   rw[Ih];refine Ae λv _=>?_;show _=F v*Am G λj=>D0 (decide (tab.getD (v*G+j) 0=s)) (Cs G tab r ((v*G+j)%(tab.length/G)))
   rw[Yf (F v),<-Dl];refine Ae λj hj=>?_;rw[Yh v G,Nat.mul_add_div (by lia),Nat.div_eq_of_lt hj,ax];unfold D0;split
   ·rw[Yf]
   ·rw[Y6]
  rw[<-hd]at h1;exact h1.symm
 rw[e1]
 have e2:∀v,v<tab.length/G->Wg G tab s F v*Cs G tab r v=Am tab.length (λa=>D0 (decide (tab.getD a 0=s)&&decide (a%(tab.length/G)=v)) (F (a/G))*Cs G tab r v):=λv _=>by unfold Wg;rw[Dl]
 rw[Ae e2,C6];refine Ae λa _=>?_;have hlt:a%(tab.length/G)<tab.length/G:=ZW _ hp;refine Eq.trans (Ae (g:=λv=>D0 (decide (v=a%(tab.length/G))) (D0 (decide (tab.getD a 0=s)) (F (a/G)*Cs G tab r (a%(tab.length/G))))) λv _=>?_) (Kj _ _ hlt _)
 by_cases e:v=a%(tab.length/G)
 ·rw[qH e,qH e.symm,Bool.and_true,e];unfold D0;split
  ·rfl
  ·rw[Y6];rfl
 ·rw[qI e,qI (show ¬a%(tab.length/G)=v from λz=>e z.symm),Bool.and_false];show 0*_=0;rw[Y6]
end L2
namespace L2
open PySem
variable{C a r:Addr}{G M:Nat}{H H':Hp}{X:Cx}{g:Int}{tab:List Int}
noncomputable def CS(G:Nat)(tab:List Int)(h:Nat)(s:Int):List Nat:=((List.range G).filter λj=>decide (tab.getD (h*G+j) 0=s)).map λj=>h*G+j
theorem Lv(n:Nat)(p:Nat->Bool)(f:Nat->Int):(((List.range n).filter p).map f).sum=Am n λj=>D0 (p j) (f j):=by
 induction n with
 |zero=>rfl
 |succ n ih =>
  rw[A3,Ym,Yy,Xv,List.sum_append,ih]
  congr 1
  unfold D0;cases h:p n<;>simp[List.filter,h]
theorem O5(G:Nat)(tab:List Int)(h:Nat)(s:Int)(f:Nat->Int):((CS G tab h s).map f).sum=Am G λj=>D0 (decide (tab.getD (h*G+j) 0=s)) (f (h*G+j)):=by unfold CS;rw[Za];exact Lv G _ _
theorem Kl(G:Nat)(tab:List Int)(h:Nat)(s:Int)(r:List Int):((CS G tab h s).map λn=>Cs G tab r (n%(tab.length/G))).sum=Cs G tab (s::r) h:=O5 G tab h s _
noncomputable def F0(G:Nat)(tab r:List Int):List Int:=(List.range (tab.length/G)).map (Cs G tab r)
theorem O6(G:Nat)(tab r:List Int):(F0 G tab r).length=tab.length/G:=by unfold F0;rw[List.length_map,List.length_range]
theorem O7(G:Nat)(tab r:List Int):(F0 G tab r).sum=B5 G tab r:=rfl
theorem O8{r:List Int}{h:Nat}(hh:h<tab.length/G):(F0 G tab r).getD h 0=Cs G tab r h:=by unfold F0;exact AM hh
noncomputable def Bh(ns:List Nat):List Int:=ns.map λn:Nat=>(n:Int)
structure Ay(H:Hp)(r:Addr)(g lo:Int)(tab:List Int)(m:Nat):Prop where
 v:ET H r g lo tab
 g2:2<=g
 g9:g<=9
 m1:1<=m
 m8:m<=8
 len:(tab.length:Int)=g^m
 sz:g^m<=256
 tb:∀n∈tab,0<=n/\n<g
theorem Ay.same{lo:Int}{m:Nat}(e:AG H H')(h:Ay H r g lo tab m):Ay H' r g lo tab m:=⟨h.v.same e,h.g2,h.g9,h.m1,h.m8,h.len,h.sz,h.tb⟩
inductive DT(vs:List V)(H:Hp)(Q:VK)(z3_:XK):Prop
 |m (r:Addr) (g lo:Int) (tab:List Int) (m:Nat):vs=[.ref r]->Ay H r g lo tab m->Q (.int ((tab.length/g.toNat:Nat):Int)) H->DT vs H Q z3_
inductive Ji(vs:List V)(H:Hp)(Q:VK)(z3_:XK):Prop
 |m (r:Addr) (g lo:Int) (tab:List Int) (m h:Nat) (s:Int):vs=[.ref r,.int ((h:Nat):Int),.int s]->Ay H r g lo tab m->h<tab.length/g.toNat->(∀p H',Fw H H' p (Bh (CS g.toNat tab h s))->Q (.ref p) H')->Ji vs H Q z3_
inductive HL(vs:List V)(H:Hp)(Q:VK)(z3_:XK):Prop
 |m (r f w:Addr) (g lo:Int) (tab:List Int) (m:Nat) (fs:List Nat) (ws:List Int):vs=[.ref r,.ref f,.ref w]->Ay H r g lo tab m->H f=some (.lst ((Bh fs).map V.int))->fs.length<=300->H w=some (.lst (ws.map V.int))->ws.length=tab.length/g.toNat->(∀p H',Fw H H' p (fs.map λn=>ws.getD (n%(tab.length/g.toNat)) 0)->Q (.ref p) H')->HL vs H Q z3_
def VM(H:Hp)(p:Addr)(G:Nat)(tab row:List Int):Prop:=∃ps:List Addr,H p=some (.lst (ps.map V.ref))/\ps.length=row.length+1/\∀(k:Nat) (q:Addr),ps[k]?=some q->H q=some (.lst ((F0 G tab (row.drop k)).map V.int))
inductive Lw(K:qJ)(vs:List V)(H:Hp)(Q:VK)(z3_:XK):Prop
 |m (r a:Addr) (g lo:Int) (tab:List Int) (m:Nat) (ns:List Int):vs=[.ref r,.ref a]->Ay H r g lo tab m->Ad K H a (ns.map V.int)->ns.length<=900->(∀p H',AG H H'->H p=none->VM H' p g.toNat tab ns->Q (.ref p) H')->Lw K vs H Q z3_
inductive Jj(K:qJ)(C:Addr)(vs:List V)(H:Hp)(Q:VK)(E:XK):Prop
 |m (r a:Addr) (g lo:Int) (tab:List Int) (m:Nat) (xs:List V):vs=[.ref r,.ref a]->Ay H r g lo tab m->Ad K H a xs->(∀x∈xs,Kd H x)->xs.length<=900->(match B3 g xs with|none=>∀ns:List Int,xs=ns.map V.int->∀H',AG H H'->Q (.int (B5 g.toNat tab ns)) H'|some i=>Qo C i H E)->Jj K C vs H Q E
theorem S0{P:Program}{w:World}:Ek (IX true P w) X (λ_=>E0):=λ_ _ _ _ _ _ _ ⟨_,_,_,_,_,_,_,_,h⟩=>h.elim
theorem Lx{K:qJ}(h:X.K=K)(hc:X.calm=true):E3 X (.builtin "sum") (λxs H Q=>∃(p:Addr) (ns:List Int),xs=[.ref p]/\Ad K H p (ns.map V.int)/\Q (.int ns.sum) H):=h▸ER hc
theorem Nn{lo:Int}{m:Nat}{Q:VK}{E:XK}(g2:2<=g)(g9:g<=9)(m1:1<=m)(len:(tab.length:Int)=g^m)(sz:g^m<=256)(tb:∀n∈tab,0<=n/\n<g)(hs:Ga H a (tab.map V.int))
  (q:∀r' H',AG H H'->ET H' r' g lo tab->Q (.ref r') H'):Jb C [.int g,.int lo,.ref a] H Q E:=by
 have tok:Mp g (tab.map V.int):=⟨by rw[Xk];lia,⟨m,m1,by rw[Xk];exact len⟩,FD tb⟩;refine⟨_,_,_,rfl,True.intro,True.intro,⟨_,hs,Ge⟩,λg' lo' tab' a' e1 e2 e3 hs' _ _ _ _ r' H' e' hR'=>?_,λnok=>qG ⟨IK g2 g9,g,rfl,a,_,rfl,hs,tok⟩ nok⟩;cases e1;cases e2;cases e3;have:=FZ (hs.inj hs');subst this;exact q r' H' e' hR'
inductive HM(K:qJ)(vs:List V)(H:Hp)(Q:VK)(z3_:XK):Prop
 |m (a:Addr) (v:List Int) (z:Int):vs=[.ref a,.int z]->Ad K H a (v.map V.int)->Q (.int (sn v z)) H->HM K vs H Q z3_
theorem Fb(hg:2<=g)(h:g^M<=256):M<=8:=by
 apply Nat.le_of_not_lt;intro z;have h1:=Bu hg (show 9<=M by lia)
 have h2:(512:Int)<=g^9:=by
  have h2:2*2<=g*g:=Z5 hg hg (by decide) (by lia);have h4:4*4<=(g*g)*(g*g):=Z5 (by lia) (by lia) (by decide) (by lia);have h8:16*16<=((g*g)*(g*g))*((g*g)*(g*g)):=Z5 (by lia) (by lia) (by decide) (by lia);have h9:256*2<=(((g*g)*(g*g))*((g*g)*(g*g)))*g:=Z5 (by lia) hg (by decide) (by lia);have e:g^9=(((g*g)*(g*g))*((g*g)*(g*g)))*g:=by simp only[Int.pow_succ,Int.pow_zero,Int.one_mul,Int.mul_assoc]
  rw[e];lia
 lia
theorem Ay.bw{r':Addr}{lo:Int}{m:Nat}(h:Ay H r g lo tab m){low:Int}(hM:1<=M)(hz:g^M<=256)(hv:ET H' r' g low (Ey g lo tab m low M)):Ay H' r' g low (Ey g lo tab m low M) M:=
 ⟨hv,h.g2,h.g9,hM,Fb h.g2 hz,BG h.g2 _ _ _ _ _,hz,O0 h.g2 _ h.tb _ _ _⟩
inductive Gi(vs:List V)(H:Hp)(Q:VK)(z3_:XK):Prop
 |m (r:Addr) (g lo:Int) (tab:List Int) (m:Nat) (low:Int) (M:Nat):vs=[.ref r,.int low,.int ((M:Nat):Int)]->Ay H r g lo tab m->1<=M->g^M<=256->(∀r' H',AG H H'->Ay H' r' g low (Ey g lo tab m low M) M->Q (.ref r') H')->Gi vs H Q z3_
inductive HN(vs:List V)(H:Hp)(Q:VK)(z3_:XK):Prop
 |m (r:Addr) (g lo:Int) (tab:List Int) (m:Nat):vs=[.ref r]->Ay H r g lo tab m->(∀(low:Int) (M:Nat),Dz g lo tab m low M->∀r' H',AG H H'->Ay H' r' g low (Ey g lo tab m low M) M->Q (.ref r') H')->HN vs H Q z3_
def Qy(g lo:Int)(tab:List Int)(m:Nat)(low high:Int):Prop:=high<low\/∃z∈Bk g lo tab m,z<low\/high<z
inductive F1(CW CT:Addr)(vs:List V)(H:Hp)(Q:VK)(E:XK):Prop
 |m (r:Addr) (g lo:Int) (tab:List Int) (m:Nat) (low high:Int):vs=[.ref r,.int low,.int high]->Ay H r g lo tab m->(Qy g lo tab m low high->∀H',AG H H'->E (.ref CW) none H')->(¬Qy g lo tab m low high->256<g^(high-low+1).toNat->∀H',AG H H'->E (.ref CT) none H')->(¬Qy g lo tab m low high->g^(high-low+1).toNat<=256->∀r' H',AG H H'->Ay H' r' g low (Ey g lo tab m low (high-low+1).toNat) (high-low+1).toNat->Q (.ref r') H')->F1 CW CT vs H Q E
theorem No{ns:List Int}(h:0<ns.length):G0 (ns.map V.int) (-1)=some (.int (ns.getD (ns.length-1) 0)):=by
 have e:=B9 (ns:=ns) (k:=ns.length-1) (by lia)
 have z:J7 (ns.map V.int).length (-1)=some (ns.length-1):=by
  unfold J7;rw[Xk];rw[qE (by decide),qF (by lia)]
  congr 1
  lia
 have y:J7 (ns.map V.int).length (((ns.length-1:Nat)):Int)=some (ns.length-1):=by rw[Xk];exact Fa (by lia)
 unfold G0 at e⊢;rw[z];rw[y]at e;exact e
end L2
namespace L2
open PySem PySem.Spec PyProof.Rows
variable{X:Cx}{es:List Expr}{i:Nat}{tc:TT}{te:TE}{x:Str}{pos:Pos}
section
variable{t:TA}
theorem As{i:Int}{j}(hr:PA X es t):PA X (.Constant (.int i) j pos::es) (Az (tC (.int i)) t):=AA AF hr (by rfl)
end
@[irreducible] def QM (X:Cx) (st:Stmt) (t:TS):Prop:=PS X st t
@[irreducible] def FK (X:Cx) (ss:List Stmt) (t:TS):Prop:=Gd X ss t
section
variable{st:Stmt}{rest ss:List Stmt}{t u:TS}
theorem QM.of(h:PS X st t):QM X st t:=by unfold QM;exact h
theorem QM.out(h:QM X st t):PS X st t:=by unfold QM at h;exact h
theorem FK.of(h:Gd X ss t):FK X ss t:=by unfold FK;exact h
theorem FK.out(h:FK X ss t):Gd X ss t:=by unfold FK at h;exact h
theorem Ag(h1:QM X st t)(h2:FK X rest u):FK X (st::rest) (ON t u):=.of (AD h1.out h2.out)
theorem B6(h1:QM X st t):FK X [st] t:=.of (AE h1.out)
end
@[irreducible] def O9 (X:Cx) (e:Expr) (te:TE):Prop:=PE X e te
@[irreducible] def Np (X:Cx) (es:List Expr) (t:TA):Prop:=PA X es t
section
variable{e a b:Expr}{ta tb:TE}{t:TA}
theorem O9.of(h:PE X e te):O9 X e te:=by unfold O9;exact h
theorem O9.out(h:O9 X e te):PE X e te:=by unfold O9 at h;exact h
theorem Np.of(h:PA X es t):Np X es t:=by unfold Np;exact h
theorem Np.out(h:Np X es t):PA X es t:=by unfold Np at h;exact h
theorem Bo:Np X [] DN:=.of AB
theorem AW{i:Int}{j}{p:Pos}(hr:Np X es t):Np X (.Constant (.int i) j p::es) (Az (tC (.int i)) t):=.of (As hr.out)
theorem Jk(h:Np X es t):O9 X (.List es pos) (QW t):=.of (BV h.out)
theorem S5{r:R2}(hr:UZ X r)(ha:O9 X a ta)(hb:O9 X b tb)(hs:Mf b):O9 X (.Subscript a b pos) (UX r ta tb):=.of (AT hr ha.out hb.out hs)
theorem BL{pos':Pos}(hN:X.N.Nodup)(hi:X.N[i]?=some x)(hx:RX X.env.scope x)(he:O9 X e te)(hs:swapsWith e (some (.Name x pos')) pos.line X.env=pure false)(hf:X.fn x=true\/X.env.scope.names.lookup x=some .local):
  QM X (.Assign [.Name x pos'] e pos) (LN te (FR i)):=.of (E9 hN hi hx he.out hs hf)
theorem D1{c:Expr}{a b:List Stmt}{t u:TS}(hc:PT X c tc)(ha:FK X a t)(hb:FK X b u):QM X (.If c a b pos) (SQ tc t u):=.of (BE hc ha.out hb.out)
theorem DU:FK X [] OM:=.of Af
end
end L2
namespace L2
open PySem
variable{D:Gu}{H:Hp}{M j:Nat}{g z:Int}{tab:List Int}{σ:St}
noncomputable def Bj(x:Int->Int)(lo:Int)(m:Nat):List Int:=(List.range m).map λj:Nat=>x (lo+(j:Int))
theorem BU(x:Int->Int)(lo:Int)(m:Nat):(Bj x lo m).length=m:=by unfold Bj;rw[List.length_map,List.length_range]
theorem Dm(x:Int->Int)(lo:Int){m:Nat}(h:j<m):(Bj x lo m).getD j 0=x (lo+(j:Int)):=by unfold Bj;exact AM h
def Nq(g:Int)(x:Int->Int):Prop:=∀z,0<=x z/\x z<g
theorem C3{x:Int->Int}(hx:Nq g x)(lo:Int)(m:Nat):∀n∈Bj x lo m,0<=n/\n<g:=λn hn=>by unfold Bj at hn;obtain⟨j,_,rfl⟩:=YH.mp hn;exact hx _
noncomputable def Gb(g lo:Int)(tab:List Int)(m:Nat)(x:Int->Int):Int:=tab.getD (BJ g (Bj x lo m)).toNat 0
noncomputable def GP(w:List Int)(lo:Int):Int->Int:=λz=>sn w (z-lo)
theorem F2(hg:2<=g){w:List Int}(hb:∀n∈w,0<=n/\n<g)(lo:Int):Nq g (GP w lo):=λz=>Rw hg hb _
theorem Qz(w:List Int)(low lo:Int)(m:Nat):Bj (GP w low) lo m=Ke w (lo-low) m:=by unfold Bj Ke GP;exact Yv λj _=>by rw[show lo+(j:Int)-low=lo-low+(j:Int) by lia]
theorem EV(w:List Int)(lo:Int):Bj (GP w lo) lo w.length=w:=by rw[Qz,Int.sub_self,Kf]
theorem PB(x:Int->Int){lo low:Int}{m:Nat}(h1:low<=lo)(h2:lo+(m:Int)<=low+(M:Int)):Ke (Bj x low M) (lo-low) m=Bj x lo m:=by
 refine Ar (by rw[C1,BU]) λj hj=>?_;rw[C1]at hj;rw[Gh _ _ hj,Dm _ _ hj,show lo-low+(j:Int)=((((lo-low).toNat+j:Nat):Nat):Int) by lia,Jf (by rw[BU];lia),Dm _ _ (by lia)]
 congr 1
 lia
theorem En(hg:2<=g){lo low:Int}{m:Nat}(hl:(tab.length:Int)=g^m)(hc:∀j,j<m->BC g tab (g^(m-1-j))=true->low<=lo+(j:Int)/\lo+(j:Int)<low+(M:Int)){x:Int->Int}(hx:Nq g x):Gb g low (Ey g lo tab m low M) M x=Gb g lo tab m x:=by
 unfold Gb;have z:=Kg hg lo tab m low (v:=Bj x low M) (C3 hx low M);rw[BU]at z;rw[z];refine HG hg hl (Ln hg (C3 hx low M) _ _) (C3 hx lo m) (C1 ..) (BU ..) λj hj hcj=>?_;obtain⟨a,b⟩:=hc j hj hcj;rw[Gh _ _ hj,Dm _ _ hj,show lo-low+(j:Int)=(((lo+(j:Int)-low).toNat:Nat):Int) by lia,Jf (by rw[BU];lia),Dm _ _ (by lia)]
 congr 1
 lia
def Rx(g:Int)(f:(Int->Int)->Int)(z:Int):Prop:=∃x,Nq g x/\f x≠f λy=>if y=z then 0 else x y
theorem Q0(hg:2<=g){x:Int->Int}(hx:Nq g x)(z:Int):Nq g λy=>if y=z then 0 else x y:=λy=>by
 show 0<=(if y=z then 0 else x y)/\(if y=z then 0 else x y)<g;split
 ·lia
 ·exact hx y
theorem Km(x:Int->Int)(lo:Int){m:Nat}(hj:j<m):Bj (λy=>if y=lo+(j:Int) then 0 else x y) lo m=(Bj x lo m).set j 0:=by
 refine Ar (by rw[Zo,BU,BU]) λk hk=>?_;rw[BU]at hk;rw[Dm _ _ hk,Kc (by rw[BU];exact hj),Dm _ _ hk]
 by_cases e:j=k
 ·subst e;rw[qF rfl,qF rfl]
 ·rw[qE e,qE (by lia)]
theorem Gj(hg:2<=g){lo:Int}{m:Nat}(hl:(tab.length:Int)=g^m)(hj:j<m):BC g tab (g^(m-1-j))=true↔Rx g (Gb g lo tab m) (lo+(j:Int)):=by
 rw[Lp hg hl hj];constructor
 ·rintro⟨w,wl,wb,ne⟩;subst wl;refine⟨GP w lo,F2 hg wb lo,?_⟩;unfold Gb;rw[Km _ _ hj,EV];exact ne
 ·rintro⟨x,hx,ne⟩;unfold Gb at ne;rw[Km _ _ hj]at ne;exact⟨_,BU ..,C3 hx lo m,ne⟩
theorem PD{lo:Int}{m:Nat}(h:Rx g (Gb g lo tab m) z):∃j:Nat,j<m/\z=lo+(j:Int):=by
 obtain⟨x,hx,ne⟩:=h
 by_cases e:lo<=z/\z<lo+(m:Int)
 ·exact⟨(z-lo).toNat,by lia,by lia⟩
 ·exfalso;apply ne;unfold Gb
  congr 3
  unfold Bj;refine Yv λj hj=>?_;have:=YD.mp hj;show x (lo+(j:Int))=if lo+(j:Int)=z then 0 else x (lo+(j:Int));rw[qE (by lia)]
structure Ly(g:Int)(f:(Int->Int)->Int)(low:Int)(M:Nat):Prop where
 one:1<=M
 all:∀z,Rx g f z->low<=z/\z<low+(M:Int)
 ends:((∀z,¬Rx g f z)/\low=0/\M=1)\/(Rx g f low/\Rx g f (low+(M:Int)-1))
theorem Dz.toF(hg:2<=g){lo:Int}{m:Nat}(hl:(tab.length:Int)=g^m){low:Int}(h:Dz g lo tab m low M):Ly g (Gb g lo tab m) low M:=by
 refine⟨h.one,λz hz=>?_,?_⟩
 ·obtain⟨j,hj,rfl⟩:=PD hz;exact h.all j hj ((Gj hg hl hj).mpr hz)
 ·rcases h.ends with⟨f,a,b⟩|⟨j0,j1,le,lt,a,b,c0,c1⟩
  ·refine .inl ⟨λz hz=>?_,a,b⟩;obtain⟨j,hj,rfl⟩:=PD hz;rw[<-Gj hg hl hj,f j hj]at hz;cases hz
  ·have d0:=(Gj (lo:=lo) hg hl (show j0<m by lia)).mp c0;have d1:=(Gj (lo:=lo) hg hl lt).mp c1;refine .inr ⟨a▸d0,?_⟩;rw[show low+(M:Int)-1=lo+(j1:Int) by lia];exact d1
variable{low':Int}{M':Nat}
theorem Ly.uniq{f:(Int->Int)->Int}{low:Int}(h:Ly g f low M)(h':Ly g f low' M'):low=low'/\M=M':=by
 have o:=h.one;have o':=h'.one;rcases h.ends with⟨n,a,b⟩|⟨d0,d1⟩
 ·rcases h'.ends with⟨_,a',b'⟩|⟨d0',_⟩
  ·lia
  ·exact qG d0' (n _)
 ·rcases h'.ends with⟨n',_,_⟩|⟨d0',d1'⟩
  ·exact qG d0 (n' _)
  ·have:=h.all _ d0';have:=h.all _ d1';have:=h'.all _ d0;have:=h'.all _ d1;lia
theorem Eo(hg:2<=g){f f':(Int->Int)->Int}(h:∀x,Nq g x->f x=f' x)(d:Rx g f z):Rx g f' z:=by obtain⟨x,hx,ne⟩:=d;refine⟨x,hx,?_⟩;rw[<-h x hx,<-h _ (Q0 hg hx z)];exact ne
theorem Ly.congr(hg:2<=g){f f':(Int->Int)->Int}(h:∀x,Nq g x->f x=f' x){low:Int}(n:Ly g f low M):Ly g f' low M:=by
 have h2:∀x,Nq g x->f' x=f x:=λx hx=>(h x hx).symm
 refine⟨n.one,λz d=>n.all z (Eo hg h2 d),?_⟩;rcases n.ends with⟨a,b,c⟩|⟨a,b⟩
 ·exact .inl ⟨λz d=>a z (Eo hg h2 d),b,c⟩
 ·exact .inr ⟨Eo hg h a,Eo hg h b⟩
def Ba(g lo:Int)(tab:List Int)(m:Nat)(lo':Int)(tab':List Int)(m':Nat):Prop:=∀x,Nq g x->Gb g lo tab m x=Gb g lo' tab' m' x
theorem S6(hg:2<=g){lo:Int}{a b:List Int}{m:Nat}(la:(a.length:Int)=g^m)(lb:(b.length:Int)=g^m)(h:∀x,Nq g x->Gb g lo a m x=Gb g lo b m x):a=b:=by refine O1 hg la lb λw wl wb=>?_;subst wl;have z:=h (GP w lo) (F2 hg wb lo);unfold Gb at z;rw[EV]at z;exact z
variable{lo':Int}{tab':List Int}{m':Nat}
theorem CK(hg:2<=g){lo:Int}{m:Nat}(hl:(tab.length:Int)=g^m)(hl':(tab'.length:Int)=g^m'){low:Int}(n:Dz g lo tab m low M)(n':Dz g lo' tab' m' low' M'):
  Ba g lo tab m lo' tab' m'↔low=low'/\Ey g lo tab m low M=Ey g lo' tab' m' low' M':=by
 constructor
 ·intro h;obtain⟨e1,e2⟩:=((n.toF hg hl).congr hg h).uniq (n'.toF hg hl');subst e1 e2;refine⟨rfl,S6 hg (lo:=low) (BG hg ..) (BG hg ..) λx hx=>?_⟩;rw[En hg hl n.all hx,En hg hl' n'.all hx];exact h x hx
 ·rintro⟨rfl,e⟩ x hx;have hM:M=M':=by have a:=BG hg lo tab m low M;have b:=BG hg lo' tab' m' low M';rw[e,b]at a;exact Cz hg a.symm
  subst hM;rw[<-En hg hl n.all hx,<-En hg hl' n'.all hx,e]
theorem PH(hg:2<=g){lo low:Int}{m:Nat}(hl:(tab.length:Int)=g^m)(h1:low<=lo)(h2:lo+(m:Int)<=low+(M:Int)){x:Int->Int}(hx:Nq g x):Gb g low (Ey g lo tab m low M) M x=Gb g lo tab m x:=
 En hg hl (λj hj _=>by lia) hx
theorem Ba.symm{lo:Int}{m:Nat}(h:Ba g lo tab m lo' tab' m'):Ba g lo' tab' m' lo tab m:=λx hx=>(h x hx).symm
theorem A7{t u:TS}(h:∀N:St->Hp->Prop,(∀σ' H',u D σ' H'->N σ' H')->t {D with nx:=N} σ H):ON t u D σ H:=h (u D) λ_ _ z=>z
end L2
namespace L2
open PySem PySem.Spec PyProof.Rows
variable{E Q:Value->Shared->Prop}{H H':Hp}{T:String}{X:Cx}{a b:Addr}{h h':Heap}{pins:List (Addr×Obj)}{pos:Pos}{s:Shared}{t':Nat}{u:Value}{σ:St}
section
variable{κ:Type}[DecidableEq κ]
noncomputable def Cb(kvs:List (κ×V))(k:κ):Option V:=(kvs.find? λkv=>decide (kv.1=k)).map (·.2)
noncomputable def Dn(kvs:List (κ×V))(k:κ)(v:V):List (κ×V):=
 if (kvs.any λkv=>decide (kv.1=k))=true then kvs.map (λkv=>if kv.1=k then (kv.1,v) else kv) else kvs++[(k,v)]
theorem Fc{p:κ×V}{r:List (κ×V)}{k:κ}(e:p.1=k):Cb (p::r) k=some p.2:=by simp[Cb,List.find?_cons,e]
theorem EW{p:κ×V}{r:List (κ×V)}{k:κ}(e:¬p.1=k):Cb (p::r) k=Cb r k:=by simp[Cb,List.find?_cons,e]
theorem HP(k:κ):∀kvs:List (κ×V),(kvs.any λkv=>decide (kv.1=k))=(Cb kvs k).isSome
 |[]=>rfl
 |p::r=>by
  rw[Zc]
  by_cases e:p.1=k
  ·simp only[Fc e,qH e,Bool.true_or,Option.isSome_some]
  ·rw[EW e,qI e,Bool.false_or];exact HP k r
theorem EY(kvs:List (κ×V))(k:κ)(v:V):(Dn kvs k v).length<=kvs.length+1:=by
 unfold Dn;split
 ·rw[Xk];lia
 ·rw[Xp,YZ,aC];lia
theorem PJ{kvs:List (κ×V)}{k:κ}(v:V)(h:Cb kvs k=none):Dn kvs k v=kvs++[(k,v)]:=by unfold Dn;rw[HP,h];exact qE (by decide)
theorem Fm.isSome_eq{o:Option V}{u:Option Value}(r:Fm o u):o.isSome=u.isSome:=by
 cases o with
 |none=>cases u with
  |none=>rfl
  |some _=>exact (show False from r).elim
 |some _=>cases u with
  |none=>exact (show False from r).elim
  |some _=>rfl
theorem Fm.getD{o:Option V}{u:Option Value}{d:V}{d':Value}(r:Fm o u)(rd:Aq d d'):Aq (o.getD d) (u.getD d'):=by
 cases o with
 |none=>cases u with
  |none=>exact rd
  |some _=>exact (show False from r).elim
 |some _=>cases u with
  |none=>exact (show False from r).elim
  |some _=>exact r
theorem KV.val{kvs:List (κ×V)}{vs:List (κ×Value)}(r:KV kvs vs)(k:κ):Fm (Cb kvs k) (valueAt vs k):=by
 unfold KV at r
 induction r with
 |nil=>exact True.intro
 | @cons p q ps qs h t ih =>
  obtain⟨h1,h2⟩:=h
  by_cases e:p.1=k
  ·have e':q.1=k:=h1.symm.trans e;have b:valueAt (q::qs) k=some q.2:=by simp[valueAt,List.find?_cons,e']
   rw[Fc e,b];exact h2
  ·have e':¬q.1=k:=λz=>e (h1.trans z)
   have b:valueAt (q::qs) k=valueAt qs k:=by simp[valueAt,List.find?_cons,e']
   rw[EW e,b];exact ih
theorem KV.any{kvs:List (κ×V)}{vs:List (κ×Value)}(r:KV kvs vs)(k:κ):(kvs.any λkv=>decide (kv.1=k))=vs.any λkv=>decide (kv.1=k):=by
 unfold KV at r
 induction r with
 |nil=>rfl
 |cons h t ih=>rw[Zc,Zc,ih,h.1]
theorem KV.repl{kvs:List (κ×V)}{vs:List (κ×Value)}(r:KV kvs vs)(k:κ){y:V}(ry:Aq y u):
  KV (kvs.map λkv=>if kv.1=k then (kv.1,y) else kv) (vs.map λkv=>if kv.1=k then (kv.1,u) else kv):=by
 unfold KV at r⊢
 induction r with
 |nil=>exact .nil
 | @cons p q ps qs h t ih =>
  rw[Yj,Yj];refine .cons ?_ ih;obtain⟨h1,h2⟩:=h
  by_cases e:p.1=k
  ·rw[qF e,qF (h1.symm.trans e)];exact⟨h1,ry⟩
  ·rw[qE e,qE (λz=>e (h1.trans z))];exact⟨h1,h2⟩
theorem KV.put{kvs:List (κ×V)}{vs:List (κ×Value)}(r:KV kvs vs)(k:κ){y:V}(ry:Aq y u):KV (Dn kvs k y) (stored vs k u):=by
 unfold Dn stored;rw[r.any k]
 by_cases e:(vs.any λkv=>decide (kv.1=k))=true
 ·rw[qF e,qF e];exact r.repl k ry
 ·rw[qE e,qE e];exact Paired.snoc r ⟨rfl,ry⟩
theorem KV.length{kvs:List (κ×V)}{vs:List (κ×Value)}(r:KV kvs vs):kvs.length=vs.length:=Paired.length r
end
theorem HR{P:Program}{w:World}{k:CN}(r:Aq (kV k) u):(BK P w).is k u=true:=by
 cases k with
 |inl i=>obtain⟨t,e⟩:=(show ∃t,u=Value.int i t from r);subst e;exact Jz P w i t
 |inr x=>obtain⟨t,e⟩:=(show ∃t,u=Value.str x t from r);subst e;exact J0 P w x t
theorem Ik{P:Program}{w:World}:∀{ks:List CN} {us:List Value},Ao (ks.map kV) us->ItemsAre (BK P w) ks us
 |[],_,r=>by rw[aU]at r;cases r;exact .nil
 |k::ks,_,r=>by
  rw[Yj]at r;cases r with
  |cons h t=>exact .cons (HR h) (Ik t)
abbrev Mt(H:Hp):List (List CN×V)->List (List CN×Addr×Value)->Prop:=Paired λp q=>p.1=q.1/\H q.2.1=some (.tup (p.1.map kV))/\Aq p.2 q.2.2
theorem Mt.val{kvs:List (List CN×V)}{xs:List (List CN×Addr×Value)}(r:Mt H kvs xs)(k:List CN):Fm (Cb kvs k) ((atKey xs k).map (·.2)):=by
 induction r with
 |nil=>exact True.intro
 | @cons p q ps qs h t ih =>
  obtain⟨h1,_,h2⟩:=h
  by_cases e:p.1=k
  ·have e':q.1=k:=h1.symm.trans e;have b:atKey (q::qs) k=some q.2:=by simp[atKey,List.find?_cons,e']
   rw[Fc e,b];exact h2
  ·have e':¬q.1=k:=λz=>e (h1.trans z)
   have b:atKey (q::qs) k=atKey qs k:=by simp[atKey,List.find?_cons,e']
   rw[EW e,b];exact ih
theorem Mt.repl{kvs:List (List CN×V)}{xs:List (List CN×Addr×Value)}(r:Mt H kvs xs)(k:List CN){y:V}(ry:Aq y u):
  Mt H (kvs.map λkv=>if kv.1=k then (kv.1,y) else kv) (xs.map (putAt k u)):=by
 induction r with
 |nil=>exact .nil
 | @cons p q ps qs h t ih =>
  rw[Yj,Yj];refine .cons ?_ ih;obtain⟨h1,h2,h3⟩:=h;unfold putAt
  by_cases e:p.1=k
  ·rw[qF e,qF (h1.symm.trans e)];exact⟨h1,h2,ry⟩
  ·rw[qE e,qE (λz=>e (h1.trans z))];exact⟨h1,h2,h3⟩
theorem Mt.put{kvs:List (List CN×V)}{xs:List (List CN×Addr×Value)}(r:Mt H kvs xs)(k:List CN){y:V}(hb:H b=some (.tup (k.map kV)))(ry:Aq y u):
  Mt H (Dn kvs k y) (storedH xs k b u):=by
 have e:(kvs.any λkv=>decide (kv.1=k))=(atKey xs k).isSome:=by rw[HP,(r.val k).isSome_eq,Option.isSome_map]
 unfold Dn storedH;rw[e]
 by_cases q:(atKey xs k).isSome=true
 ·rw[qF q,qF q];exact r.repl k ry
 ·rw[qE q,qE q];exact Paired.snoc r ⟨rfl,hb,ry⟩
theorem Mt.keeps{kvs:List (List CN×V)}{xs:List (List CN×Addr×Value)}(r:Mt H kvs xs)(ht:∀b ys,H b=some (.tup ys)->H' b=some (.tup ys)):Mt H' kvs xs:=
 Paired.mapP r λ_ _ z=>⟨z.1,ht _ _ z.2.1,z.2.2⟩
variable{kvs:List (CN×V)}
section
variable{P:Program}{w:World}
theorem Ry{u:HO}(ok:Dd P w H h)(e:Rd H a u):Aw P w H h a u:=e.ok ok
theorem GQ(ok:Dd P w H h)(e:Rd H a (.dK kvs)):kvs.length<=sizeLine/\(a==sysModules)=false/\∃vs,KV kvs vs/\h.DictOf (BK P w) a vs:=
 show Aw P w H h a (.dK kvs) from Ry ok e
theorem Rz(ok:Dd P w H h)(e:H a=some (.dK kvs)):kvs.length<=sizeLine/\(a==sysModules)=false/\∃vs,KV kvs vs/\h.DictOf (BK P w) a vs:=GQ ok (.inl e)
theorem F3{ks:List CN}(ok:Dd P w H h)(e:H a=some (.tup (ks.map kV))):(tupleKind (BK P w)).is h ks a:=by obtain⟨_,its,r,o,h1,h2,n,h3⟩:=(show Aw P w H h a (.tup (ks.map kV)) from ok a _ e);exact⟨o,its.toArray,n,h1,h2,h3,by simpa using Ik r⟩
theorem HS{kvs:List (List CN×V)}(ok:Dd P w H h)(e:Rd H a (.dT kvs)):kvs.length<=sizeLine/\(a==sysModules)=false /\
  ∃xs,Mt H kvs xs/\h.DictOfH (tupleKind (BK P w)) a xs:=by
 obtain⟨z,y,xs,r,o,es,ep,h1,h2,h3,h4,h5⟩:=(show Aw P w H h a (.dT kvs) from Ry ok e);refine⟨z,y,xs,r,o,es,ep,h1,h2,h3,h4,λx hx=>?_,h5⟩
 have all:∀{l:List (List CN×V)} {m:List (List CN×Addr×Value)},Mt H l m->∀x∈m,(tupleKind (BK P w)).is h x.1 x.2.1:=by
  intro l m q
  induction q with
  |nil=>intro x hx;exact nomatch hx
  | @cons p q ps qs hq t ih =>
   intro x hx;rcases YA.mp hx with e|hx
   ·subst e;exact F3 ok (by rw[<-hq.1];exact hq.2.1)
   ·exact ih x hx
 exact all r x hx
theorem VN{kvs:List (List CN×V)}(ok:Dd P w H h)(e:H a=some (.dT kvs)):kvs.length<=sizeLine/\(a==sysModules)=false /\
  ∃xs,Mt H kvs xs/\h.DictOfH (tupleKind (BK P w)) a xs:=HS ok (.inl e)
end
def DZ(H:Hp)(a:Addr)(y:V)(r:Option V):Prop:=
 (∃kvs k,Rd H a (.dK kvs)/\y=kV k/\r=Cb kvs k)\/∃kvs k b,Rd H a (.dT kvs)/\y=.ref b/\H b=some (.tup (k.map kV))/\r=Cb kvs k
def Lz(H:Hp)(a:Addr)(y v:V)(H':Hp):Prop:=
 (∃kvs k,H a=some (.dK kvs)/\y=kV k/\kvs.length<sizeLine/\H'=Aj H a (.dK (Dn kvs k v))) \/
 ∃kvs k b,H a=some (.dT kvs)/\y=.ref b/\H b=some (.tup (k.map kV))/\kvs.length<sizeLine/\H'=Aj H a (.dT (Dn kvs k v))
theorem DZ.k{k:CN}(e:H a=some (.dK kvs)):DZ H a (kV k) (Cb kvs k):=.inl ⟨kvs,k,.inl e,rfl,rfl⟩
theorem Lz.k{k:CN}{v:V}(e:H a=some (.dK kvs))(hl:kvs.length<sizeLine):Lz H a (kV k) v (Aj H a (.dK (Dn kvs k v))):=.inl ⟨kvs,k,e,rfl,hl,rfl⟩
section
variable{y v:V}{r:Value}{o:Option V}{A:Around}
theorem AY.big(I:AY X pins σ H s):sysModules<s.heap.objs.size:=by have h:mainGlobals<s.heap.objs.size:=(I.mod.glob.keeps I.bk).lt;exact Nat.lt_trans (by decide) h
theorem Nr(hu:A.units+1<cLine)(I:AY X pins σ H s)(g:DZ H a y (some v))(ry:Aq y u)(h:∀w' s',AY X pins σ H s'->Aq v w'->Q w' s'):
  wpAny (model X.prog X.w) A (getItem (.ref a) u) Q E s:=by
 rcases g with⟨kvs,k,e,ey,l⟩|⟨kvs,k,b,e,ey,eb,l⟩
 ·subst ey;obtain⟨z,hd,vs,rel,dd⟩:=GQ I.hok e;obtain⟨w',hw,rw'⟩:=Fm.some_of (v:=v) (o:=valueAt vs k) (by rw[l];exact rel.val k);exact wpAny_getItem_of (HR ry) dd.mapOf hw (h w' _ (I.tok _) rw')
 ·subst ey;cases (show u=Value.ref b from ry);obtain⟨z,hd,xs,rel,dd⟩:=HS I.hok e;obtain⟨w',hw,rw'⟩:=Fm.some_of (v:=v) (o:=(atKey xs k).map (·.2)) (by rw[l];exact rel.val k);obtain⟨p,hp,hp2⟩:=Ys.mp hw;refine wpAny_getItem_heap (tupleKind_room_in1 hu) (F3 I.hok eb) dd hp ?_;rw[hp2];exact h w' _ (I.tok _) rw'
theorem Q3(hu:A.units+1<cLine)(I:AY X pins σ H s)(g:DZ H a y o)(ry:Aq y u)(h:∀s',AY X pins σ H s'->Q (.bool (!o.isSome)) s'):
  wpAny (model X.prog X.w) A (compareOp .NotIn u (.ref a)) Q E s:=by
 rcases g with⟨kvs,k,e,ey,l⟩|⟨kvs,k,b,e,ey,eb,l⟩
 ·subst ey;obtain⟨z,hd,vs,rel,dd⟩:=GQ I.hok e;refine wpAny_notIn_of (HR ry) hd dd.mapOf ?_;rw[<-(rel.val k).isSome_eq,<-l];exact h _ (I.tok _)
 ·subst ey;cases (show u=Value.ref b from ry);obtain⟨z,hd,xs,rel,dd⟩:=HS I.hok e;refine wpAny_notIn_heap (tupleKind_room_in1 hu) (F3 I.hok eb) hd dd ?_;have q:=(rel.val k).isSome_eq;rw[Option.isSome_map]at q;rw[<-q,<-l];exact h _ (I.tok _)
theorem Jl{ob:HO}(I:AY X pins σ H s)(mu:Ue (H a))(hs:Heap.SameBut a s.heap h')(he:∃q,h'.get? a=some q)(new:Aw X.prog X.w (Aj H a ob) h' a ob):
  AY X pins σ (Aj H a ob) {s with heap:=h',toks:=t'}:=
 I.write (x:=a) (e:=a) mu (.inl rfl) (λb q hb z=>(hs.2 b hb).trans z) he new
theorem PL{P:Program}{w:World}{vs:List (CN×Value)}(z:kvs.length<=sizeLine)(hd:(a==sysModules)=false)(rel:KV kvs vs)(dd:h'.DictOf (BK P w) a vs):
  Aw P w H' h' a (.dK kvs):=⟨z,hd,vs,rel,dd⟩
theorem Nt{Q:Unit->Shared->Prop}(hu:A.units+1<cLine)(I:AY X pins σ H s)(g:Lz H a y v H')(ry:Aq y u)(rv:Aq v r)(h:∀s',AY X pins σ H' s'->Q () s'):
  wpAny (model X.prog X.w) A (setItem (.ref a) u r) Q E s:=by
 rcases g with⟨kvs,k,e,ey,l,eH⟩|⟨kvs,k,b,e,ey,eb,l,eH⟩
 ·subst ey eH;obtain⟨z,hd,vs,rel,dd⟩:=Rz I.hok e;have hz:vs.length<=sizeLine:=by rw[<-rel.length];exact z
  have hl:(Dn kvs k v).length<=sizeLine:=by have:=EY kvs k v;lia
  refine wpAny_setItem_pairs (hsz:=hz) (HR ry) dd λh' dd' hs=>h _ ?_
  have he:∃q,h'.get? a=some q:=let ⟨q,_,_,hq,_⟩:=dd';⟨q,hq⟩;exact Jl I (by rw[e];exact True.intro) hs he (PL hl hd (rel.put k rv) dd')
 ·subst ey eH;cases (show u=Value.ref b from ry);obtain⟨z,hd,xs,rel,dd⟩:=VN I.hok e;have hz:xs.length<=sizeLine:=by rw[<-Paired.length rel];exact z
  have hl:(Dn kvs k v).length<=sizeLine:=by have:=EY kvs k v;lia
  refine wpAny_setItem_heap (hsz:=hz) (tupleKind_room_in1 hu) (F3 I.hok eb) dd λh' dd' hs=>h _ ?_
  obtain⟨q,es,ep,hq,h2,h3,h4,_,h5⟩:=dd';refine Jl I (by rw[e];exact True.intro) hs ⟨q,hq⟩ ⟨hl,hd,_,(rel.put k eb rv).keeps λc ys ec=>?_,q,es,ep,hq,h2,h3,h4,h5⟩;rw[AK (MW ec e (λz=>nomatch z))];exact ec
end
def VO(i:Expr):Prop:=∀ov iv,subscripted i false ov iv=operate [ov,iv] (getItem ov iv)
theorem Q4{prog:Program}{w:World}{A:Around}{env:Env}{value slice:Expr}{id:String}
  (hl:typeLookup (.type T) "__getitem__"=pure (some (.builtin id))) (hs:VO slice)
  (h:wpAny (model prog w) A (eval value env) (λo s₁=>wpAny (model prog w) A (eval slice env) (λi s₂=>s₂.TypeIs o T/\wpAny (model prog w) A (getItem o i) Q E s₂) E s₁) E s):
  wpAny (model prog w) A (eval (.Subscript value slice pos) env) Q E s:=by
 refine Subscript_ (wpAny_mono h (λo s₁ h₁=>wpAny_mono h₁ (λi s₂ h₂=>?_) λ_ _ x=>x) λ_ _ x=>x);obtain⟨hT,h₂⟩:=h₂;unfold subscriptTail;refine qC ?_;rw[getitemInPython_of_ne hT.not_modules];refine qC (wpAny_specialOf hT hl ?_)
 have fin:wpAny (model prog w) A (subscripted slice false o i) (λr s₃=>wpAny (model prog w) A (letTemporaryGo value o r >>= λ_=>pure r) Q E s₃) E s₂:=by rw[hs o i];exact wpAny_operating (wpAny_mono h₂ (λr s₃ h₃=>qC (wpAny_letTemporaryGo (qD h₃))) λ_ _ x=>x)
 first
  |exact qD (qC fin)
  |exact qC (qD (qC fin))
  |exact qC fin
theorem Kn{y:V}{o:Option V}(I:AY X pins σ H s)(g:DZ H a y o):s.TypeIs (.ref a) "dict":=by
 rcases g with⟨kvs,k,e,_,_⟩|⟨kvs,k,b,e,_,_,_⟩
 ·obtain⟨_,_,vs,_,dd⟩:=GQ I.hok e;exact dd.typeIs
 ·obtain⟨_,_,xs,_,dd⟩:=HS I.hok e;exact dd.typeIs
def VP(td ty:TE):TE:=λσ H Q=>td σ H λx H1=>ty σ H1 λy H2=>∃a v,x=.ref a/\DZ H2 a y (some v)/\Q v H2
def Q5(ty td:TE):TE:=λσ H Q=>ty σ H λy H1=>td σ H1 λx H2=>∃a o,x=.ref a/\DZ H2 a y o/\Q (.bl (!o.isSome)) H2
def VQ(td ty tv:TE):TS:=λD σ H=>tv σ H λv H1=>td σ H1 λx H2=>ty σ H2 λy H3=>∃a H4,x=.ref a/\Lz H3 a y v H4/\D.nx σ H4
section
variable{o i e value:Expr}{pos' tpos:Pos}{td ty tv:TE}
theorem D3(hu:X.A.units+1<cLine)(ho:PE X o td)(hi:PE X i ty)(hs:VO i):PE X (.Subscript o i pos) (VP td ty):=by intro pins s σ H Q I h;refine Q4 PySem.F.slot_dict_getitem.lookup hs (BX (ho pins s σ H _ I h) λu s1 ⟨x,H1,I1,rx,q1⟩=>BX (hi pins s1 σ H1 _ I1 q1) λiv s2 z9=>?_);obtain⟨y,H2,I2,ry,a,v,ex,g,q2⟩:=z9;subst ex;obtain rfl:u=Value.ref a:=rx;exact⟨Kn I2 g,Nr hu I2 g ry λw' s3 I3 rw'=>⟨v,H2,I3,rw',q2⟩⟩
theorem Ep(hu:X.A.units+1<cLine)(hi:PE X i ty)(ho:PE X o td):PC X .NotIn i o (Q5 ty td):=by
 intro pins s σ H Q I h;refine BX (hi pins s σ H _ I h) λiv s1 ⟨y,H1,I1,ry,q1⟩=>BX (ho pins s1 σ H1 _ I1 q1) λu s2 z9=>?_
 obtain⟨x,H2,I2,rx,a,ov,ex,g,q2⟩:=z9;subst ex;obtain rfl:u=Value.ref a:=rx;exact Q3 hu I2 g ry λs3 I3=>⟨.bl (!ov.isSome),H2,I3,rfl,q2⟩
theorem Jm(hu:X.A.units+1<cLine)(ho:PE X o td)(hi:PE X i ty)(hv:PE X value tv)(hs:swapsWith value (some (.Subscript o i pos')) pos.line X.env=pure false):
  PS X (.Assign [.Subscript o i pos'] value pos) (VQ td ty tv):=by
 intro pins s σ H D I h;refine wpAny_Assign_Subscript (BX (hv pins s σ H _ I h) λr s1 ⟨v,H1,I1,rv,q1⟩=>BX (ho pins s1 σ H1 _ I1 q1) λu s2 ⟨x,H2,I2,rx,q2⟩=>BX (hi pins s2 σ H2 _ I2 q2) λiv s3 z9=>?_) hs;obtain⟨y,H3,I3,ry,a,H4,ex,g,q3⟩:=z9;subst ex;obtain rfl:u=Value.ref a:=rx;exact Nt hu I3 g ry rv λs4 I4=>⟨σ,H4,I4,q3⟩
end
theorem PM{P:Program}{w:World}(h:Heap)(hb:sysModules<h.objs.size):Aw P w H (h.push {cls:=.type "dict",data:=.dict #[]}) h.objs.size (.dK []):=
 ⟨YS _,beq_eq_false_iff_ne.mpr (Ne.symm (YW hb)),[],.nil,Heap.DictOf.new h⟩
def S7:TE:=λ_ H Q=>∀p,H p=none->Q (.ref p) (Aj H p (.dK []))
theorem Fd:PE X (.Dict [] [] pos) S7:=λpins s σ H Q I h =>
 wpAny_Dict_empty ⟨.ref s.heap.objs.size,_,I.laid (a:=s.heap.objs.size) (o:=.dK []) (t':=s.toks) (λ_ _ q=>Xn _ q) (Xr _) (PM s.heap I.big),rfl,h _ (I.hok.fresh (Xr _))⟩
structure M1(X:Cx)(o:Expr)(m:Str)(apos:Pos)(e:Expr)(cpos:Pos):Prop where
 base:attributeBase o m X.env (eval o X.env)=eval o X.env
 few:((backTo cpos (starEach [e] X.env)).all (λx=>!x.1)&&(backToKw cpos (keywordEach [] X.env)).all (λx=>x.1.isSome)
  && decide (([e]:List Expr).length+([]:List Keyword).length+(if ([]:List Keyword).isEmpty then 0 else 1)<30))=true
 line:(apos.endLine==cpos.line)=true
 trees:backTo cpos (starEach [e] X.env)=[(false,eval e X.env)]
structure M2(X:Cx)(o:Expr)(m:Str)(apos:Pos)(e f:Expr)(cpos:Pos):Prop where
 base:attributeBase o m X.env (eval o X.env)=eval o X.env
 few:((backTo cpos (starEach [e,f] X.env)).all (λx=>!x.1)&&(backToKw cpos (keywordEach [] X.env)).all (λx=>x.1.isSome)
  && decide (([e,f]:List Expr).length+([]:List Keyword).length+(if ([]:List Keyword).isEmpty then 0 else 1)<30))=true
 line:(apos.endLine==cpos.line)=true
 trees:backTo cpos (starEach [e,f] X.env)=[(false,eval e X.env),(false,eval f X.env)]
def Ww(H:Hp)(a:Addr):Prop:=(∃kvs,Rd H a (.dK kvs))\/∃kvs,Rd H a (.dT kvs)
theorem PN(I:AY X pins σ H s)(d:Ww H a):
  s.TypeIs (.ref a) "dict"/\(∀b,Value.ref a=.ref b->∃ob,s.heap.get? b=some ob/\ob.dict=none)/\(a==sysModules)=false:=by
 rcases d with⟨kvs,e⟩|⟨kvs,e⟩
 ·obtain⟨_,hd,vs,_,dd⟩:=GQ I.hok e;refine⟨dd.typeIs,λb q=>?_,hd⟩;cases q;obtain⟨ob,_,_,h1,h2,_⟩:=dd;exact⟨ob,h1,h2.2.1⟩
 ·obtain⟨_,hd,xs,_,dd⟩:=HS I.hok e;refine⟨dd.typeIs,λb q=>?_,hd⟩;cases q;obtain⟨ob,_,_,h1,h2,_⟩:=dd;exact⟨ob,h1,h2.2.1⟩
section
variable{y d:V}{r:Value}{o:Option V}{A:Around}
theorem S8(hu:A.units+1<cLine)(I:AY X pins σ H s)(g:DZ H a y o)(ry:Aq y u)(h:∀w' s',AY X pins σ H s'->Aq (o.getD .non) w'->Q w' s'):
  wpAny (model X.prog X.w) A (call (.builtin "dict.get") [.ref a,u]) Q E s:=by
 rcases g with⟨kvs,k,e,ey,l⟩|⟨kvs,k,b,e,ey,eb,l⟩
 ·subst ey;obtain⟨z,hd,vs,rel,dd⟩:=GQ I.hok e;refine call_meetsIn ZG dd.typeIs Zk (PySem.F.args_dict_get_2 _ _) (meets_dict_get (BK X.prog X.w) a (HR ry) hd) ⟨_,dd.mapOf,h _ _ (I.tok _) ?_⟩;rw[l];exact (rel.val k).getD rfl
 ·subst ey;cases (show u=Value.ref b from ry);obtain⟨z,hd,xs,rel,dd⟩:=HS I.hok e;refine call_meetsIn ZG dd.typeIs Zk (PySem.F.args_dict_get_2 _ _) (meetsH_dict_get (tupleKind (BK X.prog X.w)) a b hd) ⟨tupleKind_room_in1 hu,k,xs,F3 I.hok eb,dd,h _ _ (I.tok _) ?_⟩;rw[l];exact (rel.val k).getD rfl
theorem S9(hu:A.units+1<cLine)(I:AY X pins σ H s)(g:DZ H a y o)(ry:Aq y u)(rd:Aq d r)(h:∀w' s',AY X pins σ H s'->Aq (o.getD d) w'->Q w' s'):
  wpAny (model X.prog X.w) A (call (.builtin "dict.get") [.ref a,u,r]) Q E s:=by
 rcases g with⟨kvs,k,e,ey,l⟩|⟨kvs,k,b,e,ey,eb,l⟩
 ·subst ey;obtain⟨z,hd,vs,rel,dd⟩:=GQ I.hok e;refine call_meetsIn ZG dd.typeIs Zk (PySem.F.args_dict_get_3 _ _ _) (meets_dict_get_default (BK X.prog X.w) a (HR ry) hd r) ⟨_,dd.mapOf,h _ _ (I.tok _) ?_⟩;rw[l];exact (rel.val k).getD rd
 ·subst ey;cases (show u=Value.ref b from ry);obtain⟨z,hd,xs,rel,dd⟩:=HS I.hok e;refine call_meetsIn ZG dd.typeIs Zk (PySem.F.args_dict_get_3 _ _ _) (meetsH_dict_get_default (tupleKind (BK X.prog X.w)) a b hd r) ⟨tupleKind_room_in1 hu,k,xs,F3 I.hok eb,dd,h _ _ (I.tok _) ?_⟩;rw[l];exact (rel.val k).getD rd
end
def TB(td ty:TE):TE:=λσ H Q=>td σ H λx H1=>∃a,x=.ref a/\Ww H1 a/\ty σ H1 λy H2=>∃o,DZ H2 a y o/\Q (o.getD .non) H2
def TC(td ty tx:TE):TE:=λσ H Q=>td σ H λx H1=>∃a,x=.ref a/\Ww H1 a/\ty σ H1 λy H2=>tx σ H2 λz H3=>∃o,DZ H3 a y o/\Q (o.getD z) H3
section
variable{o e f:Expr}{apos cpos:Pos}{td ty tx:TE}
theorem Ko(hu:X.A.units+1<cLine)(ho:PE X o td)(he:PE X e ty)(m:M1 X o "get" apos e cpos):PE X (.Call (.Attribute o "get" apos) [e] [] cpos) (TB td ty):=by intro pins s σ H Q I h;refine wpAny_Call_method m.base m.few m.line Ze ZG PySem.F.type_dict_get (BX (ho pins s σ H _ I h) λu s1 z9=>?_);obtain⟨x,H1,I1,rx,a,ex,d,q1⟩:=z9;subst ex;obtain rfl:u=Value.ref a:=rx;obtain⟨t1,t2,_⟩:=PN I1 d;refine⟨t1,t2,?_⟩;rw[m.trees];refine Calls.callWith_builtin rfl (Calls.evalArgs_plain (Calls.spliced_cons (BX (he pins s1 σ H1 _ I1 q1) λiv s2 ⟨y,H2,I2,ry,ov,g,q2⟩=>Calls.spliced_nil ?_)));exact S8 hu I2 g ry λw' s3 I3 rw'=>⟨_,H2,I3,rw',q2⟩
theorem PP(hu:X.A.units+1<cLine)(ho:PE X o td)(he:PE X e ty)(hf:PE X f tx)(m:M2 X o "get" apos e f cpos):PE X (.Call (.Attribute o "get" apos) [e,f] [] cpos) (TC td ty tx):=by
 intro pins s σ H Q I h;refine wpAny_Call_method m.base m.few m.line Ze ZG PySem.F.type_dict_get (BX (ho pins s σ H _ I h) λu s1 z9=>?_);obtain⟨x,H1,I1,rx,a,ex,d,q1⟩:=z9;subst ex;obtain rfl:u=Value.ref a:=rx;obtain⟨t1,t2,_⟩:=PN I1 d;refine⟨t1,t2,?_⟩;rw[m.trees]
 refine Calls.callWith_builtin rfl (Calls.evalArgs_plain (Calls.spliced_cons (BX (he pins s1 σ H1 _ I1 q1) λiv s2 ⟨y,H2,I2,ry,q2⟩ =>
  Calls.spliced_cons (BX (hf pins s2 σ H2 _ I2 q2) λfv s3 ⟨z,H3,I3,rz,ov,g,q3⟩=>Calls.spliced_nil ?_))))
 exact S9 hu I3 g ry rz λw' s4 I4 rw'=>⟨_,H3,I4,rw',q3⟩
end
end L2
namespace PySem
end PySem
namespace L2
open PySem PySem.Spec PyProof.Rows
variable{X:Cx}{es:List Expr}{f:Addr}{fd:FuncData}{i:Nat}{pos:Pos}{ps:List Str}{qual x:Str}{scope:Scope}{sp:Sp}{te:TE}{tt:TT}
section
variable{p:List Value->Prop}
theorem b0(h:p []):∀us:List Value,us.length=0->p us:=λus e=>by cases us with
 |nil=>exact h
 |cons a r=>cases e
theorem b1(h:∀a,p [a]):∀us:List Value,us.length=1->p us:=λus e=>by cases us with
 |nil=>cases e
 |cons a r=>exact b0 (p:=λl=>p (a::l)) (h a) r (Nat.succ.inj e)
theorem b2(h:∀a b,p [a,b]):∀us:List Value,us.length=2->p us:=λus e=>by cases us with
 |nil=>cases e
 |cons a r=>exact b1 (p:=λl=>p (a::l)) (h a) r (Nat.succ.inj e)
theorem b3(h:∀a b c,p [a,b,c]):∀us:List Value,us.length=3->p us:=λus e=>by cases us with
 |nil=>cases e
 |cons a r=>exact b2 (p:=λl=>p (a::l)) (h a) r (Nat.succ.inj e)
theorem b4(h:∀a b c d,p [a,b,c,d]):∀us:List Value,us.length=4->p us:=λus e=>by cases us with
 |nil=>cases e
 |cons a r=>exact b3 (p:=λl=>p (a::l)) (h a) r (Nat.succ.inj e)
end
noncomputable def Xd(N P:List Str)(sc:Scope):Bool:=decide (sc.kind=.function)&&!sc.isCoroutine&&!sc.isGenerator&&decide N.Nodup&&decide (N.take P.length=P) &&
 P.all (λx=>decide (sc.names.lookup x=some .local\/sc.names.lookup x=some .cell))&&sc.names.all λy=>decide (y.2≠.free)
theorem Cc{N P:List Str}{sc:Scope}(h:Xd N P sc=true):AL N P sc:=by unfold Xd at h;simp only[Bool.and_eq_true,decide_eq_true_eq,Bool.not_eq_true',List.all_eq_true]at h;obtain⟨⟨⟨⟨⟨⟨a,b⟩,c⟩,d⟩,e⟩,f⟩,g⟩:=h;exact⟨a,b,c,d,e,f,g⟩
section
variable{P:Program}{w:World}{K:qJ}{mg:Str->Option Value}{base:Heap}{st:Stmt}{N:List Str}{k:Nat}
theorem B1.okY(F:B1 K x qual st f fd)(S:AL N ps (AH st)) (h:∀vs H Q E,sp vs H Q E->vs.length=ps.length /\
  ∀(cdv:Value) (A:Around) (outer:List Env) (s:Shared),Bs k (A.deeper (envOfC qual (AH st) s.heap.objs.size f cdv)) ->
   ∃t,Gd (DX (IY P w) P w K mg base N qual (AH st) f cdv A outer s H E).nox (Bd st) t/\t {nx:=λ_ H'=>Q .non H',rt:=Q} (Ci N vs) H):Ex P w K mg base (IY P w) (k+1) f fd ps sp:=
 F.ok0 S (λvs H Q E q=>(h vs H Q E q).1) λcdv A outer s H vs Q E hr q=>(h vs H Q E q).2 cdv A outer s hr
theorem BH(D:∃fd,B1 K x qual st f fd)(S:AL N ps (AH st))(bd:Dh x qual st ps) (h:∀vs H Q E,sp vs H Q E->vs.length=ps.length /\
  ∀(cdv:Value) (A:Around) (outer:List Env) (s:Shared),Bs k (A.deeper (envOfC qual (AH st) s.heap.objs.size f cdv)) ->
   ∃t,Gd (DX (IY P w) P w K mg base N qual (AH st) f cdv A outer s H E).nox (Bd st) t/\t {nx:=λ_ H'=>Q .non H',rt:=Q} (Ci N vs) H):A5 P w K mg base (k+1) f ps sp:=
 Qm D S bd (λvs H Q E q=>(h vs H Q E q).1) λcdv A outer s H vs Q E hr q=>(h vs H Q E q).2 cdv A outer s hr
theorem DD(D:∃fd,B1 K x qual st f fd)(S:AL N ps (AH st))(bd:Dh x qual st ps) (h:∀vs H Q E,sp vs H Q E->vs.length=ps.length /\
  ∀(cdv:Value) (A:Around) (outer:List Env) (s:Shared),Bs k (A.deeper (envOfC qual (AH st) s.heap.objs.size f cdv)) ->
   ∃t,Gd (DX (IY P w) P w K mg base N qual (AH st) f cdv A outer s H E) (Bd st) t/\t {nx:=λ_ H'=>Q .non H',rt:=Q} (Ci N vs) H):A5 P w K mg base (k+1) f ps sp:=
 Qn D S bd (λvs H Q E q=>(h vs H Q E q).1) λcdv A outer s H vs Q E hr q=>(h vs H Q E q).2 cdv A outer s hr
end
section
variable{e elt iter:Expr}{t:TA}{pos' p px:Pos}{N:List Str}{sc:Scope}{k k':Nat}{cl:List (Str×Addr)}{fv:List (Nat×Str)}{ifs:List Expr}{wi:TI}
theorem Aa(hr:Bs k' X.A)(G:A5 X.prog X.w X.K X.mg X.base k f ps sp)(hm:X.mg x=some (.ref f))(ha:PA X (e::es) t)(hk:k<=k':=by decide)(hg:Gl X x:=by rfl)
  (hdb:(x==("__debug__":Str))=false:=by decide) (he:starEach (e::es) X.env=(false,eval e X.env)::starEach es X.env:=by rfl) (hpl:(backTo pos (starEach es X.env)).any (·.1)=false:=by rfl):
  PE X (.Call (.Name x p) (e::es) [] pos) (G6 sp [] (λ_=>E0) t):=BO G (hr.mono hk) hg hm Rj ha hdb he hpl
theorem AR(i:Nat)(S:AL X.N ps sc)(he:PE X e te)(hi:X.N[i]?=some x:=by rfl)(hx:RX X.env.scope x:=by first|exact Or.inl rfl|exact Or.inr rfl)(hs:swapsWith e (some (.Name x pos')) pos.line X.env=pure false:=by rfl)
  (hf:X.fn x=true\/X.env.scope.names.lookup x=some .local:=by first|exact .inl rfl|exact .inr rfl|assumption):PS X (.Assign [.Name x pos'] e pos) (LN te (FR i)):=E9 S.nd hi hx he hs hf
theorem Be(i:Nat)(S:AL X.N ps sc)(hi:X.N[i]?=some x:=by rfl)(hx:RX X.env.scope x:=by first|exact Or.inl rfl|exact Or.inr rfl)
  (hf:X.fn x=true\/X.env.scope.names.lookup x=some .local:=by first|exact .inl rfl|exact .inr rfl|assumption):PG X (.Name x pos) (FR i):=MX S.nd hi hx hf
theorem DE(fv:List (Nat×Str))(cl:List (Str×Addr))(hi:PI X (.Name x px) iter wi)(hf:∀s H C fp,PF (IE X s H (compEnvC scope cl C X.env) fp (x::fv.map (·.2))) ifs tt)(he:∀s H C fp,PE (IE X s H (compEnvC scope cl C X.env) fp (x::fv.map (·.2))) elt te)
  (hclos:closureFor scope X.env=pure cl:=by with_unfolding_all rfl) (hcell:∀y∈scope.names,y.2≠.cell:=by decide +kernel) (hk:scope.kind=.function:=by rfl) (hnames:∀z∈scope.names,z.2=.local->scope.names.lookup z.1=some .local:=by decide +kernel)
  (hx:scope.names.lookup x=some .local:=by rfl) (hcl:JT X.env cl:=by repeat' first|exact trivial|with_unfolding_all rfl|constructor) (hhas:((relabel scope X.env).names.all λz=>!(z.2==.cell||z.2==.free)||(cl.lookup z.1).isSome)=true:=by with_unfolding_all rfl)
  (hfv:KO X scope cl fv:=by repeat' first|exact trivial|with_unfolding_all rfl|constructor) (hnd:(x::fv.map (·.2)).Nodup:=by decide) (hc:X.calm=true:=by rfl) (hs:∀x,foldedSetIterable iter X.env x=pure x:=by intro _;rfl):
  PE X (.ListComp elt [⟨.Name x px,iter,ifs,0⟩] scope pos) (Os wi fv tt te):=Qt hc hi hclos hcell hk hnames hx hcl hhas hfv hnd hf he hs
end
end L2
namespace PySem
open Sem (wp)
end PySem
namespace L2
open PySem PySem.Spec PyProof.Rows RW
variable{G M M' m':Nat}{g lo' low':Int}{tab tab':List Int}
theorem Nu(x:Int->Int)(lo:Int)(m:Nat):Bj x lo (m+1)=x lo::Bj x (lo+1) m:=by
 unfold Bj;rw[List.range_succ_eq_map,Yj,Za]
 congr 1
 ·congr 1;show lo+((0:Nat):Int)=lo;lia
 ·refine Yv λj _=>?_;show x (lo+((j+1:Nat):Int))=x (lo+1+(j:Int))
  congr 1;lia
theorem Nv(x:Int->Int)(lo:Int)(m:Nat):Bj x lo (m+1)=Bj x lo m++[x (lo+(m:Int))]:=by unfold Bj;rw[Ym,Xv];rfl
theorem VR(g:Int)(m:Nat):g^(m+1)=g^m*g:=X9 ..
theorem FL(hg:2<=g){m h:Nat}(hl:(tab.length:Int)=g^(m+1))(hh:(h:Int)=g^m):BC g tab (g^m)=false↔∀k,k<tab.length->tab.getD k 0=tab.getD (k%h) 0:=by
 have key:∀k:Nat,k<tab.length->((k:Int)-(k:Int)/g^m%g*g^m).toNat=k%h:=λk hk=>by
  have gp:=RW.Ah hg m;rw[<-hh];have k1:(k:Int)<(h:Int)*g:=by rw[hh,<-VR];lia
  have d1:(k:Int)/(h:Int)<g:=Int.ediv_lt_of_lt_mul (by lia) (by rw[Yf];exact k1);have d0:0<=(k:Int)/(h:Int):=ZK (by lia) (by lia);rw[ZD d0 d1];have e:=Int.emod_def (k:Int) (h:Int);rw[Yf ((k:Int)/(h:Int)) (h:Int),<-e];lia
 constructor
 ·intro hc k hk;have:=FH hc hk;rw[key k hk]at this;exact this
 ·intro ha;cases z:BC g tab (g^m) with
  |false=>rfl
  |true =>
   obtain⟨k,hk,ne⟩:=Dk.mp z;rw[key k hk]at ne;exact qG (ha k hk) ne
theorem F4(hG:(G:Int)=g):BC g tab 1=false↔∀k,k<tab.length->tab.getD k 0=tab.getD (k-k%G) 0:=by
 have key:∀k:Nat,((k:Int)-(k:Int)/1%g*1).toNat=k-k%G:=λk=>by rw[<-hG,Int.ediv_one,Zn];have:k%G<=k:=ay ..;lia
 constructor
 ·intro hc k hk;have:=FH hc hk;rw[key k]at this;exact this
 ·intro ha;cases z:BC g tab 1 with
  |false=>rfl
  |true =>
   obtain⟨k,hk,ne⟩:=Dk.mp z;rw[key k]at ne;exact qG (ha k hk) ne
theorem Il{l:List Int}{n k:Nat}(h:k<n):(l.take n).getD k 0=l.getD k 0:=by rw[Xm,List.getElem?_take,qF h,Xm]
theorem Im(hg:2<=g)(lo:Int){m h:Nat}(hl:(tab.length:Int)=g^(m+1))(hh:(h:Int)=g^m)(ha:∀k,k<tab.length->tab.getD k 0=tab.getD (k%h) 0):Ba g (lo+1) (tab.take h) m lo tab (m+1):=by
 intro x hx;unfold Gb;have b:=B7 hg (C3 hx (lo+1) m);have b2:=B7 hg (C3 hx lo (m+1));rw[BU]at b b2;rw[ha (BJ g (Bj x lo (m+1))).toNat (by lia),Il (by lia)]
 congr 1
 have e:BJ g (Bj x lo (m+1))=x lo*(h:Int)+BJ g (Bj x (lo+1) m):=by rw[Nu,show x lo::Bj x (lo+1) m=[x lo]++Bj x (lo+1) m from rfl,Bm,Ms,BU,hh]
 have m1:BJ g (Bj x lo (m+1))%(h:Int)=BJ g (Bj x (lo+1) m):=by rw[e,Int.add_comm,Yf,Y8,ZD b.1 (by lia)]
 have m2:(((BJ g (Bj x lo (m+1))).toNat%h:Nat):Int)=BJ g (Bj x lo (m+1))%(h:Int):=by rw[Yx,X8 b2.1]
 lia
theorem Kp(hg:2<=g)(lo:Int){m h:Nat}(hl:(tab.length:Int)=g^(m+1))(hh:(h:Int)=g^m)(hG:(G:Int)=g)(ha:∀k,k<tab.length->tab.getD k 0=tab.getD (k-k%G) 0):Ba g lo ((List.range h).map λi=>tab.getD (i*G) 0) m lo tab (m+1):=by
 intro x hx;unfold Gb;have b:=B7 hg (C3 hx lo m);have b2:=B7 hg (C3 hx lo (m+1));rw[BU]at b b2;have hxz:=hx (lo+(m:Int));rw[ha (BJ g (Bj x lo (m+1))).toNat (by lia),AM (by lia)]
 congr 1
 have e:BJ g (Bj x lo (m+1))=BJ g (Bj x lo m)*g+x (lo+(m:Int)):=by rw[Nv,HC]
 generalize BJ g (Bj x lo m)=n at *;generalize BJ g (Bj x lo (m+1))=n2 at *;generalize x (lo+(m:Int))=y at *;obtain⟨n',rfl⟩:∃n':Nat,n=(n':Int):=⟨n.toNat,by lia⟩;obtain⟨y',rfl⟩:∃y':Nat,y=(y':Int):=⟨y.toNat,by lia⟩;have e2:n2=((n'*G+y':Nat):Int):=by rw[e,<-hG];simp
 rw[e2,Xy,Xy];have:(n'*G+y')%G=y':=by rw[Yh,Nat.mul_add_mod,Y7 (by lia)]
 lia
theorem Kq{lo:Int}{m:Nat}(hm:1<=m)(c0:BC g tab (g^(m-1))=true)(c1:BC g tab 1=true):Dz g lo tab m lo m:=
 ⟨hm,λj hj _=>by lia,.inr ⟨0,m-1,by lia,by lia,by lia,by lia,by rw[ZQ];exact c0,by rw[Yq,YJ];exact c1⟩⟩
theorem PQ{lo:Int}(c:BC g tab 1=false):Dz g lo tab 1 0 1:=
 have f:∀j,j<1->BC g tab (g^(1-1-j))=false:=λj hj=>by
  have:j=0:=by lia
  subst this;rw[ZQ,Yq,YJ];exact c
 ⟨Xr _,λj hj hc=>qG hc (by rw[f j hj];decide),.inl ⟨f,rfl,rfl⟩⟩
theorem PR(hg:2<=g){lo:Int}{m:Nat}(hl:(tab.length:Int)=g^m)(hl':(tab'.length:Int)=g^m')(al:Ba g lo' tab' m' lo tab m)(n':Dz g lo' tab' m' lo' m'){low:Int}(n:Dz g lo tab m low M):low=lo'/\M=m'/\Ey g lo tab m low M=tab':=by obtain⟨e1,e2⟩:=(CK hg hl' hl n' n).mp al;rw[O2 hg lo' hl']at e2;refine⟨e1.symm,?_,e2.symm⟩;have a:=BG hg lo tab m low M;rw[<-e2,hl']at a;exact (Cz hg a).symm
theorem Q6(hg:2<=g){lo:Int}{m:Nat}(hl:(tab.length:Int)=g^m)(hl':(tab'.length:Int)=g^1)(al:Ba g lo' tab' 1 lo tab m)(c:BC g tab' 1=false){low:Int}(n:Dz g lo tab m low M):low=0/\M=1/\Ey g lo tab m low M=tab':=by
 obtain⟨e1,e2⟩:=(CK hg hl' hl (PQ c) n).mp al;have a:=BG hg lo tab m low M;rw[<-e2,BG hg]at a;have hM:=(Cz hg a).symm;subst hM;refine⟨e1.symm,rfl,?_⟩;rw[<-e2]
 have f:∀j,j<1->BC g tab' (g^(1-1-j))=false:=λj hj=>by
  have:j=0:=by lia
  subst this;rw[ZQ,Yq,YJ];exact c
 have g1:g^1=g:=by rw[X9,YJ,Yg]
 refine Ar (by have:=BG hg lo' tab' 1 0 1;lia) λk hk=>?_;have lk:(k:Int)<g^1:=by have:=BG hg lo' tab' 1 0 1;lia
 rw[O3 hg hl' f];obtain⟨G,hG⟩:∃G:Nat,(G:Int)=g:=⟨g.toNat,by lia⟩;have z:=(F4 hG).mp c k (by lia);rw[Y7 (by lia),Yq]at z;rw[z,Xm,Zb,qF (by lia)];rfl
theorem Er(ns:List Int):∀(q i:Nat),i<q*ns.length->((List.replicate q ns).flatten).getD i 0=ns.getD (i%ns.length) 0
 |0,i,h=>by lia
 |q+1,i,h=>by
  rw[av]at h;rw[Yk,ZA]
  by_cases c:i<ns.length
  ·rw[Y7 c,Xm,Xm,YL c]
  ·rw[Xm,X4 (by lia),<-Xm,Er ns q (i-ns.length) (by lia),<-Nat.mod_eq_sub_mod (by lia)]
theorem Gk(q:Nat)(ns:List Int):((List.replicate q ns).flatten).length=q*ns.length:=by rw[List.length_flatten,aI,List.sum_replicate_nat]
theorem Io{h:Nat}(hl:tab.length=h*G)(G1:1<=G):tab=(List.replicate G (tab.take h)).flatten↔∀k,k<tab.length->tab.getD k 0=tab.getD (k%h) 0:=by
 have hG:h<=h*G:=Nat.le_mul_of_pos_right h G1;have tl:(tab.take h).length=h:=by rw[YC];lia
 have key:∀k,k<tab.length->((List.replicate G (tab.take h)).flatten).getD k 0=tab.getD (k%h) 0:=λk hk=>by
  rw[Er _ _ _ (by rw[tl,Yh];lia),tl];refine Il (ZW _ ?_);rcases ZS h with z|z
  ·rw[z,Nat.zero_mul]at hl;lia
  ·exact z
 constructor
 ·intro e k hk;rw[<-key k hk,<-e]
 ·intro a;refine Ar (by rw[Gk,tl,Yh];exact hl) λk hk=>?_;rw[key k hk];exact a k hk
theorem HV:tab=(List.range tab.length).map (λk=>tab.getD (k-k%G) 0)↔∀k,k<tab.length->tab.getD k 0=tab.getD (k-k%G) 0:=by
 constructor
 ·intro e k hk;have:tab.getD k 0=((List.range tab.length).map (λk=>tab.getD (k-k%G) 0)).getD k 0:=congrArg (λl=>l.getD k 0) e;rw[this,AM hk]
 ·intro a;refine Ar (by rw[Xk,Xx]) λk hk=>?_;rw[AM hk];exact a k hk
theorem Kr{h:Nat}(G1:1<=G)(hl:tab.length=h*G*G)(hu:∀k,k<tab.length->tab.getD k 0=tab.getD (k-k%G) 0)
  (hc:∀i,i<h*G->((List.range (h*G)).map λi=>tab.getD (i*G) 0).getD i 0=((List.range (h*G)).map λi=>tab.getD (i*G) 0).getD (i%h) 0):∀k,k<tab.length->tab.getD k 0=tab.getD (k%(h*G)) 0:=by
 intro k hk;have kl:k/G<h*G:=Z1 (by rw[Yh];lia)
 have h1:1<=h:=by
  rcases ZS h with z|z
  ·rw[z,Nat.zero_mul]at kl;exact qG kl (aG _)
  ·exact z
 have hb:k/G%h<h:=ZW _ h1;have hh:h<=h*G:=Nat.le_mul_of_pos_right h G1;have a:=hc (k/G) kl;rw[AM kl,AM (by lia)]at a;have e1:k-k%G=k/G*G:=by have:=au k G;rw[Yh]at this;lia
 have e2:k%(h*G)=k%G+G*(k/G%h):=by rw[Yh h G,Nat.mod_mul]
 have e3:k%(h*G)%G=k%G:=Nat.mod_mul_left_mod ..;have e4:k%(h*G)-k%(h*G)%G=k/G%h*G:=by rw[e3,e2,Yh G];lia
 rw[hu k hk,e1,a,hu (k%(h*G)) (Y4 (ay ..) hk),e4]
def BD(g lo:Int)(tab:List Int)(m:Nat)(lf:Int)(tf:List Int)(mf:Nat):Prop:=∃(low:Int) (M:Nat),Dz g lo tab m low M/\lf=low/\((M=1/\mf=2/\tf=Ey g low (Ey g lo tab m low 1) 1 low 2)\/(2<=M/\mf=M/\tf=Ey g lo tab m low M))
theorem Ks(hg:2<=g){lo:Int}{m:Nat}(hl:(tab.length:Int)=g^m){low:Int}(n:Dz g lo tab m low M)(n':Dz g lo tab m low' M'):low=low'/\M=M':=by
 obtain⟨e1,e2⟩:=(CK hg hl hl n n').mp λ_ _=>rfl
 refine⟨e1,?_⟩;have a:=BG hg lo tab m low M;rw[e2,BG hg]at a;exact (Cz hg a).symm
theorem F5(g lo:Int)(tab:List Int)(m:Nat):∃low M,Dz g lo tab m low M:=by
 by_cases hc:Bk g lo tab m=[]
 ·exact⟨0,1,Kh hc⟩
 ·obtain⟨M,_,_,hW⟩:=Ig hc;exact⟨_,M,hW⟩
theorem L0(hg:2<=g){lo:Int}{m:Nat}(hl:(tab.length:Int)=g^m)(hl':(tab'.length:Int)=g^m')(al:Ba g lo' tab' m' lo tab m)(h2:2<=m')(c0:BC g tab' (g^(m'-1))=true)(c1:BC g tab' 1=true):BD g lo tab m lo' tab' m':=by obtain⟨low,M,n⟩:=F5 g lo tab m;obtain⟨rfl,rfl,e⟩:=PR hg hl hl' al (Kq (by lia) c0 c1) n;exact⟨_,_,n,rfl,.inr ⟨h2,rfl,e.symm⟩⟩
theorem Nw(hg:2<=g){lo:Int}{m:Nat}(hl:(tab.length:Int)=g^m)(hl':(tab'.length:Int)=g^1)(al:Ba g lo' tab' 1 lo tab m)(c1:BC g tab' 1=true):BD g lo tab m lo' (Ey g lo' tab' 1 lo' 2) 2:=by obtain⟨low,M,n⟩:=F5 g lo tab m;obtain⟨rfl,rfl,e⟩:=PR hg hl hl' al (Kq (Xr _) (by rw[Yq,YJ];exact c1) c1) n;exact⟨_,_,n,rfl,.inl ⟨rfl,rfl,by rw[e]⟩⟩
theorem L5(hg:2<=g){lo:Int}{m:Nat}(hl:(tab.length:Int)=g^m)(hl':(tab'.length:Int)=g^1)(al:Ba g lo' tab' 1 lo tab m)(c1:BC g tab' 1=false):BD g lo tab m 0 (Ey g 0 tab' 1 0 2) 2:=by obtain⟨low,M,n⟩:=F5 g lo tab m;obtain⟨rfl,rfl,e⟩:=Q6 hg hl hl' al c1 n;exact⟨_,_,n,rfl,.inl ⟨rfl,rfl,by rw[e]⟩⟩
theorem TD(hg:2<=g)(hG:(G:Int)=g)(x:Int)(T:List Int):Ey g x T 1 x 2=(List.range (G*G)).map λk=>T.getD (k/G) 0:=by
 have g22:g^2=((G*G:Nat):Int):=by rw[show (2:Nat)=0+1+1 from rfl,X9,X9,YJ,Yg,<-hG,Yn]
 have hL:=BG hg x T 1 x 2;refine Ar (by rw[Xk,Xx];lia) λk hk=>?_;have hk2:k<G*G:=by lia
 rw[AM hk2];unfold Ey;rw[AM (by lia)]
 congr 1
 have e:Ke (BS g (k:Int) 2) (x-x) 1=[((k/G:Nat):Int)]:=by obtain⟨a,b,hw,ha,hb⟩:∃a b:Int,BS g (k:Int) 2=[a,b]/\a=(k:Int)/g%g/\b=(k:Int)%g:=⟨_,_,rfl,rfl,rfl⟩;rw[hw];show[sn [a,b] (x-x+((0:Nat):Int))]=_;rw[show x-x+((0:Nat):Int)=0 by lia];show[a]=_;rw[ha,<-hG,<-Yo,<-Yx,Y7 (Z1 hk2)]
 rw[e,Ms,Xy]
variable{lf:Int}{tf:List Int}{mf:Nat}
theorem BD.two{lo:Int}{m:Nat}(h:BD g lo tab m lf tf mf):2<=mf:=by
 obtain⟨low,M,_,_,z|z⟩:=h
 ·lia
 ·lia
inductive Gm(CT:Addr)(vs:List V)(H:Hp)(Q:VK)(E:XK):Prop
 |m (r:Addr) (g lo:Int) (tab:List Int) (m:Nat) (lf:Int) (tf:List Int) (mf:Nat):vs=[.ref r]->Ay H r g lo tab m->BD g lo tab m lf tf mf->(g^(mf-1)<=9->∀r' H',AG H H'->Ay H' r' g lf tf mf->Q (.ref r') H')->(9<g^(mf-1)->∀H',AG H H'->E (.ref CT) none H')->Gm CT vs H Q E
inductive Jn(CT:Addr)(vs:List V)(H:Hp)(Q:VK)(E:XK):Prop
 |m (r:Addr) (g lo:Int) (tab:List Int) (m:Nat) (lf:Int) (tf:List Int) (mf:Nat):vs=[.ref r]->Ay H r g lo tab m->BD g lo tab m lf tf mf->(g^(mf-1)<=9->∀H',AG H H'->Q (.int (g^(mf-1))) H')->(9<g^(mf-1)->∀H',AG H H'->E (.ref CT) none H')->Jn CT vs H Q E
inductive Gn(CT:Addr)(vs:List V)(H:Hp)(Q:VK)(E:XK):Prop
 |m (r:Addr) (g lo:Int) (tab:List Int) (m:Nat) (lf:Int) (tf:List Int) (mf:Nat):vs=[.ref r]->Ay H r g lo tab m->BD g lo tab m lf tf mf->(g^(mf-1)<=9->∀H',AG H H'->Q (.int (2^(g^(mf-1)).toNat-1)) H')->(9<g^(mf-1)->∀H',AG H H'->E (.ref CT) none H')->Gn CT vs H Q E
structure Ez(g lo:Int)(tab:List Int)(m:Nat)(lo':Int)(tab':List Int)(m':Nat):Prop where
 m1:1<=m'
 le:m'<=m
 len:(tab'.length:Int)=g^m'
 tb:∀n∈tab',0<=n/\n<g
 al:Ba g lo' tab' m' lo tab m
section
variable(g2:2<=g){lo:Int}{m:Nat}(c:Ez g lo tab m lo' tab' m')
include g2 c
theorem Ez.half:((tab'.length/g.toNat:Nat):Int)=g^(m'-1)/\tab'.length=tab'.length/g.toNat*g.toNat:=BP g2 c.len c.m1
theorem Ez.first(h2:2<=m')(e:tab'=(List.replicate g.toNat (tab'.take (tab'.length/g.toNat))).flatten):Ez g lo tab m (lo'+1) (tab'.take (tab'.length/g.toNat)) (m'-1):=by have hh:=c.half g2;have gl:=(Io hh.2 (by lia)).mp e;obtain⟨k,rfl⟩:∃k,m'=k+1:=⟨m'-1,by lia⟩;rw[ZR]at hh;have cf:=Im g2 lo' c.len hh.1 gl;refine⟨by lia,by have:=c.le;lia,?_,λn hn=>c.tb n (Yp hn),λx hx=>(cf x hx).trans (c.al x hx)⟩;rw[YC,aq (aJ ..)];exact hh.1
theorem Ez.first_counts(e:¬tab'=(List.replicate g.toNat (tab'.take (tab'.length/g.toNat))).flatten):BC g tab' (g^(m'-1))=true:=by
 have hh:=c.half g2;have m1:=c.m1;have hl:=c.len;obtain⟨k,rfl⟩:∃k,m'=k+1:=⟨m'-1,by lia⟩;cases z:BC g tab' (g^(k+1-1)) with
 |true=>rfl
 |false=>exact qG ((Io hh.2 (by lia)).mpr ((FL g2 hl hh.1).mp z)) e
theorem Ez.last(h2:2<=m')(e:tab'=(List.range tab'.length).map λk=>tab'.getD (k-k%g.toNat) 0):Ez g lo tab m lo' ((List.range (tab'.length/g.toNat)).map λi=>tab'.getD (i*g.toNat) 0) (m'-1):=by
 have hh:=c.half g2;have gl:=HV.mp e;obtain⟨k,rfl⟩:∃k,m'=k+1:=⟨m'-1,by lia⟩;rw[ZR]at hh;have cf:=Kp g2 lo' c.len hh.1 (show ((g.toNat:Nat):Int)=g by lia) gl;refine⟨by lia,by have:=c.le;lia,?_,λn hn=>?_,λx hx=>(cf x hx).trans (c.al x hx)⟩
 ·rw[Xk,Xx];exact hh.1
 ·obtain⟨i,hi,rfl⟩:=YH.mp hn;exact C0 g2 c.tb _
theorem Ez.last_counts(e:¬tab'=(List.range tab'.length).map λk=>tab'.getD (k-k%g.toNat) 0):BC g tab' 1=true:=by
 cases z:BC g tab' 1 with
 |true=>rfl
 |false=>exact qG (HV.mpr ((F4 (show ((g.toNat:Nat):Int)=g by lia)).mp z)) e
theorem Ez.stays(h2:3<=m')(e:tab'=(List.range tab'.length).map λk=>tab'.getD (k-k%g.toNat) 0)(h:BC g tab' (g^(m'-1))=true):BC g ((List.range (tab'.length/g.toNat)).map λi=>tab'.getD (i*g.toNat) 0) (g^(m'-1-1))=true:=by
 have d:=c.last g2 (by lia) e;have hh:=c.half g2;have hd:=d.half g2;have G1:1<=g.toNat:=by lia
 rw[Xk,Xx]at hd;obtain⟨H,hH⟩:∃H,H=tab'.length/g.toNat/g.toNat:=⟨_,rfl⟩;rw[<-hH]at hd;cases z:BC g ((List.range (tab'.length/g.toNat)).map λi=>tab'.getD (i*g.toNat) 0) (g^(m'-1-1)) with
 |true=>rfl
 |false =>
  exfalso;have dl:=d.len;obtain⟨k,rfl⟩:∃k,m'=k+1+1:=⟨m'-2,by lia⟩;have q:=(FL g2 (m:=k) (h:=H) dl hd.1).mp z;rw[Xk,Xx,hd.2]at q;have s:=Kr G1 (by rw[<-hd.2];exact hh.2) (HV.mp e) q;rw[<-hd.2]at s;have f:=(FL g2 c.len hh.1).mpr s;have h':BC g tab' (g^(k+1))=true:=h;rw[f]at h';cases h'
theorem Ez.frame(hl:(tab.length:Int)=g^m)(h2:2<=m')(c0:BC g tab' (g^(m'-1))=true)(c1:BC g tab' 1=true):BD g lo tab m lo' tab' m':=L0 g2 hl c.len c.al h2 c0 c1
theorem Ez.frame1(hl:(tab.length:Int)=g^m)(h1:m'=1)(x:Int)(e:tab'=List.replicate g.toNat (tab'.getD 0 0)->x=0)(ne:¬tab'=List.replicate g.toNat (tab'.getD 0 0)->x=lo'):BD g lo tab m x ((List.range (g.toNat*g.toNat)).map λk=>tab'.getD (k/g.toNat) 0) 2:=by
 subst h1;have gn:((g.toNat:Nat):Int)=g:=by lia
 have g1:g^1=g:=by rw[X9,YJ,Yg]
 have hl':=c.len
 have key:tab'=List.replicate g.toNat (tab'.getD 0 0)↔BC g tab' 1=false:=by
  rw[F4 gn];constructor
  ·intro y k hk;obtain⟨v,hv⟩:∃v,v=tab'.getD 0 0:=⟨_,rfl⟩;rw[<-hv]at y;rw[Y7 (by lia),Yq,<-hv,y,Xm,Zb,qF (by lia)];rfl
  ·intro y;refine Ar (by rw[List.length_replicate];lia) λk hk=>?_;have z:=y k hk;rw[Y7 (by lia),Yq]at z;rw[z,Xm,Xm,Zb,qF (by lia)];rfl
 rw[<-TD g2 gn x tab'];cases z:BC g tab' 1 with
 |false=>rw[e (key.mpr z)];exact L5 g2 hl c.len c.al z
 |true =>
  rw[ne (λy=>by rw[key.mp y]at z;cases z)];exact Nw g2 hl c.len c.al z
end
theorem Q7(g2:2<=g){n h:Nat}(hn:n=h*g.toNat)(h1:1<=h):QL 0 (n:Int) g=h:=by
 have e:(n:Int)=(h:Int)*g:=by rw[hn,Yn,show ((g.toNat:Nat):Int)=g by lia]
 have k:(h:Int)*g=g*((h:Int)-1)+g:=by rw[Int.mul_sub,Zn,Yf];lia
 have p:0<=g*((h:Int)-1):=Zh (by lia) (by lia);unfold QL;rw[qF (by lia),show (n:Int)-0-1=g-1+g*((h:Int)-1) by lia,aW _ _ (by lia),Zj (by lia) (by lia)];lia
theorem BD.le(hg:2<=g){lo:Int}{m:Nat}(fw:BD g lo tab m lf tf mf)(hl:(tab.length:Int)=g^m)(hl':(tab'.length:Int)=g^m')(al:Ba g lo tab m lo' tab' m'):mf<=max 2 m':=by
 obtain⟨low,M,n,rfl,z⟩:=fw;obtain⟨low',M',n'⟩:=F5 g lo' tab' m';obtain⟨e1,e2⟩:=(CK hg hl hl' n n').mp al;have a:=BG hg lo tab m lf M;rw[e2,BG hg]at a;have eM:=Cz hg a
 have:M'<=max 1 m':=by rcases n'.ends with⟨_,_,y⟩|⟨j0,j1,_,_,_,_,_,_⟩<;>lia
 rcases z with z|z<;>lia
theorem PU(hg:2<=g)(lo:Int){m:Nat}:∃lf tf mf,BD g lo tab m lf tf mf:=by
 obtain⟨low,M,n⟩:=F5 g lo tab m;have:=n.one
 by_cases z:M=1
 ·subst z;exact⟨_,_,_,low,1,n,rfl,.inl ⟨rfl,rfl,rfl⟩⟩
 ·exact⟨_,_,_,low,M,n,rfl,.inr ⟨by lia,rfl,rfl⟩⟩
end L2
namespace L2
end L2
namespace L2
open PySem PySem.Spec PyProof.Rows RW
variable{D:Gu}{G M M' i m' mf:Nat}{H H':Hp}{X:Cx}{es:List Expr}{g lf lo' low':Int}{p:Addr}{tab tab' tf:List Int}{te:TE}{α β:Type}{σ:St}
theorem Kt(hg:2<=g){lo:Int}{m:Nat}(hl:(tab.length:Int)=g^m)(hl':(tab'.length:Int)=g^m')(al:Ba g lo tab m lo' tab' m'){low:Int}(n:Dz g lo tab m low M)(n':Dz g lo' tab' m' low' M'):low=low'/\M=M'/\Ey g lo tab m low M=Ey g lo' tab' m' low' M':=by obtain⟨e1,e2⟩:=(CK hg hl hl' n n').mp al;have a:=BG hg lo tab m low M;rw[e2,BG hg]at a;exact⟨e1,(Cz hg a).symm,e2⟩
theorem Ku(hg:2<=g){lo:Int}{m:Nat}(hl:(tab.length:Int)=g^m){low:Int}(n:Dz g lo tab m low M):Ba g low (Ey g lo tab m low M) M lo tab m:=λx hx=>En hg hl n.all hx
theorem D4{l:List α}{F G:α->List β}(h:∀a∈l,F a=G a):l.flatMap F=l.flatMap G:=by
 induction l with
 |nil=>rfl
 |cons a r ih=>rw[ZX,ZX,h a X6,ih λb hb=>h b (X0 _ hb)]
theorem L6(hg:2<=g){a b:Nat}{i j:Int}(i0:0<=i)(i1:i<g^a)(j0:0<=j)(j1:j<g^b):BS g (i*g^b+j) (a+b)=BS g i a++BS g j b:=by
 have hb:∀x∈BS g i a++BS g j b,0<=x/\x<g:=λx hx=>(Xq.mp hx).elim (CJ hg _ _ x) (CJ hg _ _ x)
 have e:=Fx hg hb;rw[Bm,CC,Dj hg i0 i1,Dj hg j0 j1,Xp,CC,CC]at e;exact e
theorem L7(A B:Nat):List.range (A*B)=(List.range A).flatMap λi=>(List.range B).map λj=>i*B+j:=by
 induction A with
 |zero=>rw[Nat.zero_mul];rfl
 |succ A ih =>
  rw[av,Ym,List.flatMap_append,<-ih,List.range_add];simp
noncomputable def Cv(g:Int)(m:Nat):List (List Int):=(List.range (g^m).toNat).map λn:Nat=>BS g (n:Int) m
theorem L8(g:Int):Cv g 0=[[]]:=by unfold Cv;rw[YJ];rfl
theorem Q8(hg:2<=g)(a b:Nat):(g^(a+b)).toNat=(g^a).toNat*(g^b).toNat:=by have pa:=RW.Ah hg a;have pb:=RW.Ah hg b;rw[Int.pow_add,Int.toNat_mul (YI pa) (YI pb)]
theorem Ip(hg:2<=g)(a b:Nat):Cv g (a+b)=(Cv g a).flatMap λu=>(Cv g b).map (u++·):=by have pa:=RW.Ah hg a;have pb:=RW.Ah hg b;unfold Cv;rw[Q8 hg,L7,List.map_flatMap,ae];refine D4 λi hi=>?_;rw[Za,Za];refine Yv λj hj=>?_;have hi':=YD.mp hi;have hj':=YD.mp hj;show BS g ((i*(g^b).toNat+j:Nat):Int) (a+b)=BS g (i:Int) a++BS g (j:Int) b;rw[<-L6 hg (by lia) (by lia) (by lia) (by lia),aH,Yn,X8 (YI pb)]
theorem PV(hg:2<=g){n:Nat}(h:(n:Int)<g):BS g (n:Int) 1=[(n:Int)]:=by show[(n:Int)%g]=_;rw[ZD (by lia) h]
theorem L9(hg:2<=g)(n:Nat):Cv g (n+1)=(List.range g.toNat).flatMap λj:Nat=>(Cv g n).map ((j:Int)::·):=by rw[Nat.add_comm,Ip hg];unfold Cv;rw[show g^1=g by rw[X9,YJ,Yg],ae];refine D4 λj hj=>?_;have hj':=YD.mp hj;rw[PV hg (by lia)];rfl
noncomputable def OJ(G:Nat)(tab:List Int):List Int->Nat->List (List Int)
 |[],_=>[[]]
 |s::r,h=>(CS G tab h s).flatMap λf=>(OJ G tab r (f%(tab.length/G))).map (((f%G:Nat):Int)::·)
theorem Kv(l:List Nat):((l.sum:Nat):Int)=(l.map λn:Nat=>(n:Int)).sum:=by
 induction l with
 |nil=>rfl
 |cons a r ih=>rw[List.sum_cons,Yj,List.sum_cons,aH,ih]
theorem Mu(G:Nat)(tab:List Int):∀(r:List Int) (h:Nat),((OJ G tab r h).length:Int)=Cs G tab r h
 |[],_=>rfl
 |s::r,h=>by
  rw[OJ,List.length_flatMap,Kv,Za,<-Kl]
  congr 1
  refine Yv λf _=>?_;show (((OJ G tab r (f%(tab.length/G))).map _).length:Int)=_;rw[Xk,Mu G tab r]
theorem Nx(hg:2<=g){m:Nat}(hl:(tab.length:Int)=g^m)(hm:1<=m){w:List Int}(hw:w.length=m-1){x:Int}(hb:∀n∈w++[x],0<=n/\n<g):∃w':List Int,w'.length=m-1/\(∀n∈w',0<=n/\n<g)/\((BJ g w).toNat*g.toNat+x.toNat)%(tab.length/g.toNat)=(BJ g w').toNat/\∀r,CO g tab m (w++x::r)=tab.getD ((BJ g w).toNat*g.toNat+x.toNat) 0::CO g tab m (w'++r):=by
 have hx:=hb x (by simp)
 obtain⟨y,w',e⟩:∃y w',w++[x]=y::w':=by
  cases w with
  |nil=>exact⟨x,[],rfl⟩
  |cons a t=>exact⟨a,t++[x],rfl⟩
 have e2:∀r,w++x::r=y::(w'++r):=λr=>by rw[<-Z6,<-e,YG];rfl
 have hw':w'.length=m-1:=by have:=congrArg List.length e;rw[Xp,YZ]at this;simp only[List.length_cons,List.length_nil]at this;lia
 have hbw:∀n∈w,0<=n/\n<g:=λn hn=>hb n (Xq.mpr (.inl hn))
 have hbw':∀n∈w',0<=n/\n<g:=λn hn=>hb n (by rw[e];exact X0 _ hn)
 have hd:=BP hg hl hm;have b1:=B7 hg hbw;have b2:=B7 hg hbw';rw[hw']at b2;have nx:BJ g [x]=x:=by show 0*g+x=x;rw[Y6,YX]
 refine⟨w',hw',hbw',?_,λr=>?_⟩
 ·have z:BJ g w*g+x=BJ g w'+y*g^(m-1):=by
   have q:=congrArg (BJ g) e;rw[Bm,show y::w'=[y]++w' from rfl,Bm,hw']at q;have ny:BJ g [y]=y:=by show 0*g+y=y;rw[Y6,YX]
   rw[nx,ny]at q;have g1:g^([x]:List Int).length=g:=by show g^1=g;rw[X9,YJ,Yg]
   rw[g1]at q;lia
  apply Int.ofNat.inj;show (((BJ g w).toNat*g.toNat+x.toNat)%(tab.length/g.toNat):Nat)=(((BJ g w').toNat:Nat):Int);rw[Yx,aH,Yn,hd.1,X8 b1.1,X8 (by lia),X8 hx.1,X8 b2.1,z,Yf y,Y8,ZD b2.1 b2.2]
 ·rw[e2 r,Ij (by rw[Xp];lia)]
  congr 1
  unfold KZ
  have t1:(List.drop 0 (y::(w'++r))).take m=w++[x]:=by rw[List.drop_zero,<-List.cons_append,<-e,List.take_append_of_le_length (by simp only[List.length_append,List.length_cons,List.length_nil];lia),List.take_of_length_le (by simp only[List.length_append,List.length_cons,List.length_nil];lia)]
  rw[t1,Bm]
  congr 1
  show (BJ g w*g^1+BJ g [x]).toNat=_;rw[nx,X9,YJ,Yg,Int.toNat_add (Zh b1.1 (by lia)) hx.1,Int.toNat_mul b1.1 (by lia)]
theorem Kw(p:α->Bool)(F:α->List β)(l:List α):(l.filter p).flatMap F=l.flatMap λa=>if p a then F a else[]:=by
 induction l with
 |nil=>rfl
 |cons a r ih =>
  rw[ZN,ZX];split
  ·rw[ZX,ih]
  ·rw[ih];rfl
theorem GR(p:β->Bool)(F:α->List β)(l:List α):(l.flatMap F).filter p=l.flatMap λa=>(F a).filter p:=by
 induction l with
 |nil=>rfl
 |cons a r ih=>rw[ZX,Yy,ih,ZX]
theorem Ha(hg:2<=g){m:Nat}(hl:(tab.length:Int)=g^m)(hm:1<=m):∀(row w:List Int),w.length=m-1->(∀n∈w,0<=n/\n<g)->(Cv g row.length).filter (λc=>decide (CO g tab m (w++c)=row))=OJ g.toNat tab row (BJ g w).toNat
 |[],w,hw,_=>by show (Cv g 0).filter _=[[]];rw[L8];have:CO g tab m w=[]:=HK (by lia);simp[this]
 |s::r,w,hw,hb=>by
  show (Cv g (r.length+1)).filter _=_;rw[L9 hg,GR,OJ];unfold CS;rw[ae,Kw];refine D4 λj hj=>?_;have hj':=YD.mp hj;obtain⟨w',hw',hbw',hmod,hled⟩:=Nx hg hl hm hw (x:=(j:Int)) (λn hn=>(Xq.mp hn).elim (hb n) λz=>by rw[Xl.mp z];lia);rw[Xy]at hmod hled;have ih:=Ha hg hl hm r w' hw' hbw';rw[List.filter_map];have jm:((BJ g w).toNat*g.toNat+j)%g.toNat=j:=by rw[Nat.mul_add_mod_self_right,Y7 hj']
  by_cases e:tab.getD ((BJ g w).toNat*g.toNat+j) 0=s
  ·rw[qF (qH e),hmod,jm,<-ih]
   congr 1
   refine List.filter_congr λc _=>?_;show decide (CO g tab m (w++(j:Int)::c)=s::r)=_;rw[hled,e];simp
  ·rw[qE (by rw[qI e];decide)];have:(Cv g r.length).filter ((λc=>decide (CO g tab m (w++c)=s::r))∘λx=>(j:Int)::x)=[]:=by rw[List.filter_eq_nil_iff];intro c _;show ¬decide (CO g tab m (w++(j:Int)::c)=s::r)=true;rw[decide_eq_true_iff,hled];exact λz=>e (List.cons.inj z).1
   rw[this];rfl
noncomputable def PX(g:Int)(tab:List Int)(m:Nat)(row:List Int):List (List Int):=(List.range (tab.length/g.toNat)).flatMap λh=>(OJ g.toNat tab row h).map (BS g (h:Int) (m-1)++·)
theorem Ny(hg:2<=g){m:Nat}(hl:(tab.length:Int)=g^m)(hm:1<=m)(row:List Int):(Cv g (row.length+m-1)).filter (λw=>decide (CO g tab m w=row))=PX g tab m row:=by have hd:=BP hg hl hm;have hp:=RW.Ah hg (m-1);rw[show row.length+m-1=(m-1)+row.length by lia,Ip hg,GR];unfold PX;show ((List.range (g^(m-1)).toNat).map λn:Nat=>BS g (n:Int) (m-1)).flatMap _=_;rw[ae,show (g^(m-1)).toNat=tab.length/g.toNat by lia];refine D4 λh hh=>?_;have hh':=YD.mp hh;rw[List.filter_map];have e:=Ha hg hl hm row (BS g (h:Int) (m-1)) (CC _ _ _) (CJ hg _ _);rw[Dj hg (by lia) (by lia),Xy]at e;rw[<-e];rfl
theorem Q9(tab:List Int)(m:Nat)(row:List Int):((PX g tab m row).length:Int)=B5 g.toNat tab row:=by
 unfold PX;rw[List.length_flatMap,Kv,Za];show _=Am _ _;unfold Am
 congr 1
 refine Yv λh _=>?_;show (((OJ g.toNat tab row h).map _).length:Int)=_;rw[Xk,Mu]
theorem Iq(hg:2<=g){n:Nat}{c:List Int}:c∈Cv g n↔c.length=n/\∀x∈c,0<=x/\x<g:=by
 unfold Cv;constructor
 ·intro h;obtain⟨k,_,rfl⟩:=YH.mp h;exact⟨CC ..,CJ hg _ _⟩
 ·rintro⟨rfl,hb⟩;have nb:=B7 hg hb;refine YH.mpr ⟨(BJ g c).toNat,YD.mpr (by lia),?_⟩;rw[show (((BJ g c).toNat:Nat):Int)=BJ g c by lia];exact Fx hg hb
theorem BD.alike(hg:2<=g){lo:Int}{m:Nat}(hl:(tab.length:Int)=g^m)(fw:BD g lo tab m lf tf mf):Ba g lf tf mf lo tab m/\(tf.length:Int)=g^mf:=by
 obtain⟨low,M,n,rfl,⟨rfl,rfl,rfl⟩|⟨h2,rfl,rfl⟩⟩:=fw
 ·refine⟨λx hx=>?_,BG hg ..⟩;rw[PH hg (BG hg ..) (Yu _) (by lia) hx];exact Ku hg hl n x hx
 ·exact⟨Ku hg hl n,BG hg ..⟩
theorem ME(hg:2<=g){lo:Int}{m:Nat}(hl:(tab.length:Int)=g^m){lo0:Int}{tab0:List Int}{m0:Nat}(hl0:(tab0.length:Int)=g^m0)(al:Ba g lo tab m lo0 tab0 m0)(fw:BD g lo0 tab0 m0 lf tf mf):BD g lo tab m lf tf mf:=by
 obtain⟨low0,M0,n0,rfl,z⟩:=fw;obtain⟨low,M,n⟩:=F5 g lo tab m;obtain⟨rfl,rfl,e⟩:=Kt hg hl hl0 al n n0;refine⟨_,_,n,rfl,?_⟩;rcases z with⟨rfl,rfl,rfl⟩|⟨h2,rfl,rfl⟩
 ·exact .inl ⟨rfl,rfl,by rw[e]⟩
 ·exact .inr ⟨h2,rfl,e.symm⟩
theorem Kx(hg:2<=g){lo:Int}{m:Nat}(hl:(tab.length:Int)=g^m)(fw:BD g lo tab m lf tf mf):BD g lf tf mf lf tf mf:=by obtain⟨al,tfl⟩:=fw.alike hg hl;exact ME hg tfl hl al fw
theorem Cn(hg:2<=g){lo:Int}{m:Nat}(hl:(tab.length:Int)=g^m)(fw:BD g lo tab m lf tf mf):((tf.length/g.toNat:Nat):Int)=g^(mf-1)/\tf.length=tf.length/g.toNat*g.toNat:=by obtain⟨_,tfl⟩:=fw.alike hg hl;have h2:=fw.two;have hd:=BP hg tfl (show 1<=mf by lia);lia
theorem MF(g2:2<=g){lo:Int}{m:Nat}(hl:(tab.length:Int)=g^m){lf':Int}{tf':List Int}{mf':Nat}(fw:BD g lo tab m lf tf mf)(fw':BD g lo tab m lf' tf' mf'):mf=mf'/\tf=tf':=by
 obtain⟨low,M,n,_,h⟩:=fw;obtain⟨low',M',n',_,h'⟩:=fw';obtain⟨rfl,rfl⟩:=Ks g2 hl n n';rcases h with⟨a,b,c⟩|⟨a,b,c⟩
 ·rcases h' with⟨a',b',c'⟩|⟨a',b',c'⟩
  ·exact⟨by lia,by rw[c,c']⟩
  ·lia
 ·rcases h' with⟨a',b',c'⟩|⟨a',b',c'⟩
  ·lia
  ·exact⟨by lia,by rw[c,c']⟩
noncomputable def BY:Nat->(Nat->Bool)->Int
 |0,_=>0
 |n+1,f=>(if f 0=true then 1 else 0)+2*BY n λi=>f (i+1)
theorem Go(n:Nat):∀f:Nat->Bool,0<=BY n f/\BY n f<2^n:=by
 induction n with
 |zero=>intro f;exact⟨Yu _,by rw[YJ];exact Int.one_pos⟩
 |succ n ih =>
  intro f;have:=ih λi=>f (i+1)
  rw[X9];show 0<=(if f 0=true then (1:Int) else 0)+2*BY n _/\(if f 0=true then (1:Int) else 0)+2*BY n _<_
  split<;>lia
theorem D5{n:Nat}:∀{f h:Nat->Bool},(∀i,i<n->f i=h i)->BY n f=BY n h:=by
 induction n with
 |zero=>intro f h _;rfl
 |succ n ih =>
  intro f h e;show (if f 0=true then (1:Int) else 0)+2*BY n _=(if h 0=true then (1:Int) else 0)+2*BY n _;rw[e 0 (by lia),ih λi hi=>e (i+1) (by lia)]
theorem F6(n:Nat)(f:Nat->Bool):BY (n+1) f/2=BY n (λi=>f (i+1))/\BY (n+1) f%2=if f 0=true then 1 else 0:=by
 have e:BY (n+1) f=(if f 0=true then (1:Int) else 0)+2*BY n λi=>f (i+1):=rfl
 rw[e]
 split<;>lia
theorem Fe{n:Nat}:∀{f:Nat->Bool} {i:Nat},i<n->BY n f/2^i%2=if f i=true then 1 else 0:=by
 induction n with
 |zero=>intro f i h;lia
 |succ n ih =>
  intro f i h;obtain⟨h1,h2⟩:=F6 n f;cases i with
  |zero=>rw[YJ,Int.ediv_one];exact h2
  |succ i =>
   rw[X9,Yf,<-aD (by decide),h1];exact ih (f:=λi=>f (i+1)) (by lia)
theorem Es(n:Nat):BY n (λ_=>false)=0:=by
 induction n with
 |zero=>rfl
 |succ n ih=>show (if false=true then (1:Int) else 0)+2*BY n (λ_=>false)=0;rw[ih];rfl
theorem Ky(n:Nat):BY n (λ_=>true)=2^n-1:=by
 induction n with
 |zero=>rfl
 |succ n ih=>show (if true=true then (1:Int) else 0)+2*BY n (λ_=>true)=_;rw[ih,qF rfl,X9];lia
theorem PY{n:Nat}:∀{i:Nat},i<n->BY n (λj=>decide (j=i))=2^i:=by
 induction n with
 |zero=>intro i h;lia
 |succ n ih =>
  intro i h;show (if decide (0=i)=true then (1:Int) else 0)+2*BY n (λj=>decide (j+1=i))=_;cases i with
  |zero =>
   rw[show (λj:Nat=>decide (j+1=0))=λ_=>false from funext λj=>qI (by lia),Es];rfl
  |succ i =>
   rw[show (λj:Nat=>decide (j+1=i+1))=λj=>decide (j=i) from funext λj=>by simp,ih (by lia),Int.pow_succ,qE (by simp)];lia
theorem RA{n:Nat}:∀{x:Int},0<=x->x<2^n->BY n (λi=>decide (x/2^i%2=1))=x:=by
 induction n with
 |zero=>intro x h0 h1;rw[YJ]at h1;show (0:Int)=x;lia
 |succ n ih =>
  intro x h0 h1;rw[X9]at h1;show (if decide (x/2^0%2=1)=true then (1:Int) else 0)+2*BY n (λi=>decide (x/2^(i+1)%2=1))=x;rw[show (λi:Nat=>decide (x/2^(i+1)%2=1))=λi=>decide (x/2/2^i%2=1) from funext λi=>by rw[X9,Yf,<-aD (by decide)],ih (by lia) (by lia),YJ,Int.ediv_one]
  by_cases z:x%2=1
  ·rw[qF (qH z)];lia
  ·rw[qE (by simpa using z)];lia
theorem Hb{x y:Int}(hx:0<=x)(hy:0<=y):Builtin.bitAnd x y=2*Builtin.bitAnd (x/2) (y/2)+(if x%2=1/\y%2=1 then 1 else 0):=by
 obtain⟨a,rfl⟩:∃a:Nat,x=(a:Int):=⟨x.toNat,by lia⟩;obtain⟨b,rfl⟩:∃b:Nat,y=(b:Int):=⟨y.toNat,by lia⟩;rw[bitAnd_pp hx hy,bitAnd_pp (by lia) (by lia)];rw[show ((a:Int)/2).toNat=a/2 by lia,show ((b:Int)/2).toNat=b/2 by lia,Xy,Xy];have h1:(a &&& b)/2=a/2 &&& b/2:=Nat.and_div_two;have h2:(a &&& b)%2=1↔a%2=1/\b%2=1:=Nat.and_mod_two_eq_one;rw[<-h1]
 by_cases c:a%2=1/\b%2=1
 ·have:=h2.mpr c;rw[qF (by lia)];lia
 ·have:¬(a &&& b)%2=1:=λz=>c (h2.mp z)
  rw[qE (by lia)];lia
theorem Nz{x y:Int}(hx:0<=x)(hy:0<=y):Builtin.bitOr x y=2*Builtin.bitOr (x/2) (y/2)+(if x%2=1\/y%2=1 then 1 else 0):=by
 rw[bitOr_and,bitOr_and,Hb hx hy]
 by_cases a:x%2=1
 ·by_cases b:y%2=1
  ·rw[qF ⟨a,b⟩,qF (.inl a)];lia
  ·rw[qE (λz=>b z.2),qF (.inl a)];lia
 ·by_cases b:y%2=1
  ·rw[qE (λz=>a z.1),qF (.inr b)];lia
  ·rw[qE (λz=>a z.1),qE (λz=>z.elim a b)];lia
theorem Mv(n:Nat):∀f h:Nat->Bool,Builtin.bitOr (BY n f) (BY n h)=BY n λi=>f i||h i:=by
 induction n with
 |zero=>intro f h;show Builtin.bitOr 0 0=0;decide
 |succ n ih =>
  intro f h;obtain⟨a1,a2⟩:=F6 n f;obtain⟨b1,b2⟩:=F6 n h;rw[Nz (Go _ _).1 (Go _ _).1,a1,b1,ih,a2,b2];show _=(if (f 0||h 0)=true then (1:Int) else 0)+2*BY n _;cases f 0<;>cases h 0<;>simp<;>lia
theorem RB{x:Int}(hx:0<=x):Builtin.bitAnd x 1=x%2:=by
 rw[Hb hx (by decide),show (1:Int)/2=0 from rfl,bitAnd_zero]
 by_cases a:x%2=1
 ·rw[qF ⟨a,rfl⟩];lia
 ·rw[qE (λz=>a z.1)];lia
noncomputable def EZ(h:Nat)(ks:List Nat)(e:Nat):Bool:=ks.any λk=>k%h==e
theorem N0(h:Nat)(ks:List Nat)(k e:Nat):EZ h (ks++[k]) e=(EZ h ks e||decide (e=k%h)):=by
 unfold EZ;rw[List.any_append]
 congr 1
 rw[Zc,List.any_nil,Bool.or_false]
 by_cases z:k%h=e
 ·rw[z,qH rfl];exact beq_self_eq_true e
 ·rw[qI (λy=>z y.symm)];exact beq_eq_false_iff_ne.mpr z
theorem PZ{h:Nat}(h1:1<=h)(ks:List Nat)(k:Nat):Builtin.bitOr (BY h (EZ h ks)) (2^(k%h))=BY h (EZ h (ks++[k])):=by rw[<-PY (ZW k h1),Mv];exact D5 λi _=>(N0 h ks k i).symm
theorem Ea{k:Nat}{s:Int}:k∈CS G tab i s↔∃j,j<G/\tab.getD (i*G+j) 0=s/\k=i*G+j:=by
 unfold CS;rw[YH];constructor
 ·rintro⟨j,hj,rfl⟩;have z:=Ya.mp hj;exact⟨j,YD.mp z.1,of_decide_eq_true z.2,rfl⟩
 ·rintro⟨j,hj,hs,rfl⟩;exact⟨j,Ya.mpr ⟨YD.mpr hj,qH hs⟩,rfl⟩
noncomputable def Co(G:Nat)(tab:List Int)(h:Nat)(x s:Int)(n e:Nat):Bool:=(List.range n).any λi=>decide (x/2^i%2=1)&&EZ h (CS G tab i s) e
theorem RC{h:Nat}{x s:Int}{n:Nat}(z:x/2^n%2=1):Builtin.bitOr (BY h (Co G tab h x s n)) (BY h (EZ h (CS G tab n s)))=BY h (Co G tab h x s (n+1)):=by rw[Mv];refine D5 λi _=>?_;unfold Co;rw[Ym,List.any_append,Zc,List.any_nil,Bool.or_false,qH z,Bool.true_and]
theorem Pa{h:Nat}{x s:Int}{n:Nat}(z:¬x/2^n%2=1):BY h (Co G tab h x s n)=BY h (Co G tab h x s (n+1)):=by refine D5 λi _=>?_;unfold Co;rw[Ym,List.any_append,Zc,List.any_nil,Bool.or_false,qI z,aR,Bool.or_false]
noncomputable def TF(G:Nat)(tab:List Int)(h:Nat)(x s:Int)(n e:Nat):Bool:=(List.range n).any λk=>decide (tab.getD k 0=s/\x/2^(k/G)%2=1/\k%h=e)
theorem TH(G1:1<=G)(tab:List Int)(h:Nat)(x s:Int)(e:Nat):TF G tab h x s (h*G) e=Co G tab h x s h e:=by
 unfold TF Co EZ;rw[Z9,Y2,Y2];constructor
 ·rintro⟨k,hk,z⟩;obtain⟨z1,z2,z3⟩:=of_decide_eq_true z;have kl:=YD.mp hk;refine⟨k/G,YD.mpr (Z1 (by rw[Yh];exact kl)),?_⟩;rw[Zf];refine⟨qH z2,Y2.mpr ⟨k,Ea.mpr ⟨k%G,ZW _ G1,?_,?_⟩,by rw[z3];exact beq_self_eq_true e⟩⟩
  ·rw[Yh,au];exact z1
  ·rw[Yh,au]
 ·rintro⟨i,hi,z⟩;rw[Zf]at z;obtain⟨k,hk,ke⟩:=Y2.mp z.2;obtain⟨j,hj,hs,rfl⟩:=Ea.mp hk;have il:=YD.mp hi;have d:(i*G+j)/G=i:=by rw[Yh,Nat.mul_add_div G1,Nat.div_eq_of_lt hj,ax]
  refine⟨i*G+j,YD.mpr ?_,qH ⟨hs,?_,eq_of_beq ke⟩⟩
  ·have:=Nat.mul_le_mul_right G (show i+1<=h from il);rw[Nat.add_mul,Nat.one_mul]at this;lia
  ·rw[d];exact of_decide_eq_true z.1
noncomputable def Cw(G:Nat)(tab:List Int)(h:Nat)(x s:Int):Int:=BY h (Co G tab h x s h)
structure QN(H:Hp)(p:Addr)(ps:List Addr)(ws:List (List Int)):Prop where
 l:H p=some (.lst (ps.map V.ref))
 n:ps.length=ws.length
 e:∀(i:Nat) (q:Addr) (w:List Int),ps[i]?=some q->ws[i]?=some w->H q=some (.lst (w.map V.int))
theorem QN.same{ps:List Addr}{ws:List (List Int)}(s:AG H H')(h:QN H p ps ws):QN H' p ps ws:=⟨s _ _ h.l,h.n,λi q w h1 h2=>s _ _ (h.e i q w h1 h2)⟩
noncomputable def Hc(G:Nat)(tab:List Int)(h i:Nat):List Int:=(List.range G).map λs:Nat=>BY h (EZ h (CS G tab i (s:Int)))
noncomputable def ED(G:Nat)(tab:List Int)(h n:Nat):List (List Int):=(List.range n).map (Hc G tab h)
inductive MG(vs:List V)(H:Hp)(Q:VK)(z3_:XK):Prop
 |m (r f:Addr) (g lo:Int) (tab:List Int) (m:Nat) (ks:List Nat):vs=[.ref r,.ref f]->Ay H r g lo tab m->H f=some (.lst ((Bh ks).map V.int))->Q (.int (BY (tab.length/g.toNat) (EZ (tab.length/g.toNat) ks))) H->MG vs H Q z3_
inductive F7(vs:List V)(H:Hp)(Q:VK)(z3_:XK):Prop
 |m (r:Addr) (g lo:Int) (tab:List Int) (m:Nat):vs=[.ref r]->Ay H r g lo tab m->tab.length/g.toNat<=9->(∀(p:Addr) (ps:List Addr) (H':Hp),AG H H'->QN H' p ps (ED g.toNat tab (tab.length/g.toNat) (tab.length/g.toNat))->Q (.ref p) H')->F7 vs H Q z3_
inductive Hd(vs:List V)(H:Hp)(Q:VK)(z3_:XK):Prop
 |m (p:Addr) (ps:List Addr) (G:Nat) (tab:List Int) (h:Nat) (x:Int) (s:Nat):vs=[.ref p,.int x,.int ((s:Nat):Int)]->QN H p ps (ED G tab h h)->0<=x->s<G->(∀H',AG H H'->Q (.int (Cw G tab h x (s:Int))) H')->Hd vs H Q z3_
theorem Bc{es2:List Expr}{t t2:TA}{p:Pos}{x1}(hl:Np X es2 t2)(hr:Np X es t):Np X (.Tuple es2 x1 p::es) (Az (EK t2) t):=.of (AA (Fp hl.out) hr.out (by rfl))
noncomputable def Pb:List Int->TA
 |[]=>DN
 |i::is=>Az (tC (.int i)) (Pb is)
noncomputable def Mw:List (List Int)->TA
 |[]=>DN
 |w::ws=>Az (EK (Pb w)) (Mw ws)
theorem Mx:∀{is:List Int} {k:List V->Hp->Prop},k (is.map V.int) H->Pb is σ H k
 |[],_,h=>h
 |i::is,k,h=>Mx (is:=is) (k:=λxs H2=>k (.int i::xs) H2) h
structure R0(H:Hp)(ps:List Addr)(ts:List (List Int)):Prop where
 n:ps.length=ts.length
 e:∀(i:Nat) (q:Addr) (w:List Int),ps[i]?=some q->ts[i]?=some w->H q=some (.tup (w.map V.int))
theorem My:∀{ts:List (List Int)} {H:Hp} {k:List V->Hp->Prop},(∀w∈ts,w.length<=100)->(∀ps H',AG H H'->R0 H' ps ts->k (ps.map V.ref) H')->Mw ts σ H k
 |[],H,k,_,h=>h [] H (AG.refl _) ⟨rfl,λi q w hq=>qG hq (by simp)⟩
 |w::ts,H,k,hl,h=>by
  refine Mx ⟨by rw[Xk];exact YK (hl w (X6 ..)) (by decide),λp hp=>?_⟩;refine My (λw' hw'=>hl w' (X0 _ hw')) λps H' e' hv=>h (p::ps) H' ((AG.new hp _).trans e') ⟨by rw[YZ,YZ,hv.n],λi q u hq hu=>?_⟩
  cases i with
  |zero =>
   cases hq;cases hu;exact e' _ _ AC
  |succ i=>exact hv.e i q u hq hu
theorem Pd{ts:List (List Int)}{Q:VK}(hl:∀w∈ts,w.length<=100)(hn:ts.length<=100)(h:∀ps H',AG H H'->R0 H' ps ts->∀p,H' p=none->Q (.ref p) (Aj H' p (.lst (ps.map V.ref)))):QW (Mw ts) σ H Q:=
 My hl λps H' e hv=>⟨by rw[Xk,hv.n];exact YK hn (by decide),λp hp=>h ps H' e hv p hp⟩
theorem TJ{g:TG}(h:te σ H λx H1=>g x σ H1 D.nx):LN te g D σ H:=h
end L2
namespace PySem
section
variable{prog:Program}{w:World}{A:Around}{E:Value->Shared->Prop}{s:Shared}{it d:Addr}{i ep:Nat}{od:Obj}{es:Array DictEntry}
theorem keys_item{Q:Option Value->Shared->Prop}(hit:s.heap.IsKeyIter it d i es.size ep)(hod:s.heap.get? d=some od)(hdd:od.data=.dict es ep)(hlt:i<es.size)
  (hQ:∀h',h'.IsKeyIter it d (i+1) es.size ep->Heap.SameBut it s.heap h'->Q (some es[i].key) {s with heap:=h'}):wpAny (model prog w) A (pyNext (.ref it)) Q E s:=by
 obtain⟨o,ho,hc,hd⟩:=id hit;have T:=hit.typeIs;unfold pyNext;refine qC (wpAny_attempt (wpAny_callSpecial?_slot (name:=Str.ofString "__next__") T F.slot_dict_keyiterator_next (wpAny_call_entry F.slot_dict_keyiterator_next T F.entry_dict_keyiterator_next ?_ (F.args_dict_keyiterator_next_1 _))));refine qC (qD (qC (qC ?_)));refine qC (wpAny_typeNameOfWhole_keyiter T (qD (qC (wpAny_fieldsOf ho hd ?_))));simp only[show Builtin.Dict_items.ownsTuple "dict_keyiterator"=false by decide,Bool.false_eq_true,if_false];show wpAny _ _ (if (Value.ref d==.none)=true then _ else _) _ _ s;rw[qE (show ¬((Value.ref d==.none)=true) from X1)];refine qC (qD (qC (wpAny_dictEntries hod hdd ?_)));rw[qE (by simp)];refine qC (qD (qC (wpAny_dictEpoch hod hdd ?_)));rw[qE (by simp)];refine qD ?_;simp only[show ¬((i:Int)<0) by lia,if_false,Int.toNat_natCast,Array.getElem?_eq_getElem hlt];refine qC (qC (wpAny_typeNameOfWhole_keyiter T (qD (qC (wpAny_isOneOf_keyiter T ?_)))));show wpAny _ _ (setField (.ref it) 1 (rawInt ((i:Int)+1)) >>= _) _ _ s;have hit':(s.heap.update it (Obj.mapFields (·.setIfInBounds 1 (rawInt ((i:Int)+1))))).IsKeyIter it d (i+1) es.size ep:=⟨_,Heap.get?_update_self _ ho (Obj.isFreed_of_fields (Obj.data_mapFields hd _)),(Obj.cls_mapFields ..).trans hc,by rw[Obj.data_mapFields hd];simp[rawInt]⟩;refine qC (wpAny_setField ho hd (by simp) (qC (wpAny_holding (qC (wpAny_isOneOf_keyiter (s:={s with heap:=s.heap.update it (Obj.mapFields (·.setIfInBounds 1 (rawInt ((i:Int)+1))))}) hit'.typeIs ?_)))));show wpAny _ _ (pure es[i].key) _ _ _;exact qD (qD ⟨_,rfl,qD (hQ _ hit' (Heap.SameBut.update ..))⟩)
theorem keys_end{Q:Option Value->Shared->Prop}(hh:A.handled=none)(hit:s.heap.IsKeyIter it d i es.size ep)(hod:s.heap.get? d=some od)(hdd:od.data=.dict es ep)(hge:es.size<=i)
  (hQ:∀h',Heap.ExtBut it s.heap h'->Q none {s with heap:=h'}):wpAny (model prog w) A (pyNext (.ref it)) Q E s:=by
 obtain⟨o,ho,hc,hd⟩:=id hit;have T:=hit.typeIs;unfold pyNext;refine qC (wpAny_attempt (wpAny_callSpecial?_slot (name:=Str.ofString "__next__") T F.slot_dict_keyiterator_next (wpAny_call_entry F.slot_dict_keyiterator_next T F.entry_dict_keyiterator_next ?_ (F.args_dict_keyiterator_next_1 _))));refine qC (qD (qC (qC ?_)));refine qC (wpAny_typeNameOfWhole_keyiter T (qD (qC (wpAny_fieldsOf ho hd ?_))));simp only[show Builtin.Dict_items.ownsTuple "dict_keyiterator"=false by decide,Bool.false_eq_true,if_false];show wpAny _ _ (if (Value.ref d==.none)=true then _ else _) _ _ s;rw[qE (show ¬((Value.ref d==.none)=true) from X1)];refine qC (qD (qC (wpAny_dictEntries hod hdd ?_)));rw[qE (by simp)];refine qC (qD (qC (wpAny_dictEpoch hod hdd ?_)));rw[qE (by simp)];refine qD ?_;simp only[show ¬((i:Int)<0) by lia,if_false,Int.toNat_natCast,Array.getElem?_eq_none hge];refine qC (qC (wpAny_typeNameOfWhole_keyiter T (qD ?_)));show wpAny _ _ (setField (.ref it) 0 .none >>= _) _ _ s;refine qC (wpAny_setField ho hd (by simp) ?_);show wpAny _ _ (newExc (.type "StopIteration") [] >>= _) _ _ _;refine qC ?_;simp only[newExc,newTuple];refine qC (wpAny_newObj_type (qC (m:=firstArgMember _ _) (wpAny_of_eq (a:=Value.none) (by first|rfl|(simp only[firstArgMember];rfl)) (wpAny_newObj_type ?_ (by size_fits)))) (by size_fits));simp only[raiseNew];refine qC (wpAny_handled ?_);rw[show A.in1.handled=none from hh];refine qC (qD (wpAny_throw ?_));exact qC (wpAny_isInstance (T:="StopIteration") (b:=true) ⟨_,Xz _ rfl,rfl⟩ isSubtype_stop (qD (hQ _ (((Heap.SameBut.update ..).extBut.push _).push _))))
theorem keys_iter{Q:Value->Shared->Prop}(hm:(d==sysModules)=false)(hT:s.TypeIs (.ref d) "dict")(hod:s.heap.get? d=some od)(hdd:od.data=.dict es ep)
  (hQ:Q (.ref s.heap.objs.size) {s with heap:=s.heap.push {cls:=.type "dict_keyiterator",data:=.fields #[.ref d,.int 0 0,.int es.size 0,.int ep 0]}}):wpAny (model prog w) A (pyIter (.ref d)) Q E s:=by
 refine wpAny_pyIter_slot hT F.slot_dict_iter (wpAny_call_entry F.slot_dict_iter hT F.entry_dict_iter ?_ (F.args_dict_iter_1 _));unfold Builtin.«dict.__iter__»;refine qC ?_;unfold Builtin.Dict.dictSlotNone;refine qC (wpAny_notOrdered_dict hT ?_);show wpAny _ _ (pure (Value.ref d)) _ _ s;refine qD ?_;show wpAny _ _ (Builtin.Dict.showsAll d >>= _) _ _ s;unfold Builtin.Dict.showsAll;rw[qE (by rw[hm];exact X1)];refine qC (qD (qC (wpAny_dictEntries hod hdd (qC (wpAny_dictEpoch hod hdd ?_)))));exact qC (wpAny_newObj_type (qD ⟨_,rfl,"dict_keyiterator",_,⟨_,Heap.get?_push_size _ rfl,rfl⟩,F.slot_dict_keyiterator_next.lookup,by simpa [rawInt] using hQ⟩))
end
end PySem
namespace L2
open PySem PySem.Spec PyProof.Rows
variable{D:Gu}{H:Hp}{X:Cx}{it:Addr}{kvs:List (CN×V)}{pins:List (Addr×Obj)}{s:Shared}{tg:Expr}{tl:TE}{u:Value}{α β:Type}{σ:St}
noncomputable def Pe(d:Addr)(o:Obj)(kvs:List (CN×V)):It:=
 ⟨λi H=>H d=some (.frz o (.dK kvs))/\i<kvs.length,λi H x H'=>H'=H/\∃(k:CN) (v:V),x=kV k/\kvs[i]?=some (k,v),λi H=>H d=some (.frz o (.dK kvs))/\kvs.length<=i⟩
theorem FM{F:α->β->Prop}:∀{l₁:List α} {l₂:List β} {i:Nat} {x:α},Paired F l₁ l₂->l₁[i]?=some x->∃y,l₂[i]?=some y/\F x y
 |_,_,_,_,.nil,e=>by simp at e
 |_,_,0,_,.cons r _,e=>by simp at e;subst e;exact⟨_,rfl,r⟩
 |_,_,i+1,x,.cons _ t,e=>by obtain⟨u,h1,h2⟩:=FM (i:=i) (x:=x) t (by simpa using e);exact⟨u,by simpa using h1,h2⟩
variable{d:Addr}
theorem AY.freeze{u:HO}(I:AY X pins σ H s)(e:H d=some u)(nt:∀ys,u≠.tup ys)(nf:∀o v,u≠.frz o v)(nb:∀ps,u≠.tbl ps)(no:∀x,u≠.own x){o:Obj}(ho:s.heap.get? d=some o):AY X pins σ (Aj H d (.frz o u)) s:=
 have up:∀{b:Addr} {v:HO},H b=some v->v≠u->Aj H d (.frz o u) b=some v:=λ{b v} z n=>by rw[AK λy=>n (by rw[y,e]at z;exact (Option.some.inj z).symm)];exact z
 have un:∀{b:Addr},H b=none->Aj H d (.frz o u) b=none:=λ{b} z=>by rw[AK λy=>by rw[y,e]at z;cases z];exact z
 {I with
  base:=⟨I.base.keep,I.base.slot,λb ob q n hx=>un (I.base.free b ob q n hx),I.base.there,λb xs q=>up (I.base.tups b xs q) λz=>nt _ z.symm,λb ob v q=>up (I.base.frzs b ob v q) λz=>nf _ _ z.symm,λb ps q=>by obtain⟨m,z⟩:=I.base.tbls b ps q;exact⟨m,up z λy=>nb _ y.symm⟩⟩
  free:=un I.free
  freeC:=λx c q=>un (I.freeC x c q)
  pin:=λp hp=>⟨(I.pin p hp).1,un (I.pin p hp).2.1,(I.pin p hp).2.2⟩
  hok:=λb v q=>by
   have st:∀{b:Addr} {v:HO},H b=some v->Aw X.prog X.w (Aj H d (.frz o u)) s.heap b v:=λ{b v} q=>(I.hok b v q).stay (λ_ _ _ z=>z) (λc z=>up z λy=>no _ y.symm) λc xs z=>up z λy=>nt _ y.symm
   by_cases hb:b=d
   ·subst hb;rw[AC]at q;cases q;exact⟨ho,st e⟩
   ·rw[AK hb]at q;exact st q}
theorem TK{u:HO}(e:H d=some u):Aj H d u=H:=funext λb=>by
 by_cases z:b=d
 ·subst z;rw[AC,e]
 ·rw[AK z]
theorem R9{P:Program}{w:World}{k:CN}(h:(BK P w).is k u=true):Aq (kV k) u:=by
 rcases BW h with⟨i,t,e1,e2⟩|⟨x,t,e1,e2⟩
 ·subst e1 e2;exact⟨_,rfl⟩
 ·subst e1 e2;exact⟨_,rfl⟩
theorem MH{P:Program}{w:World}{K:qJ}{o:Obj}{es:Array DictEntry}{ep:Nat}(ho:o.data=.dict es ep)(hl:es.size=kvs.length):IH P w K tg (Pe d o kvs) [it] it (λi h=>h.IsKeyIter it d i es.size ep) where
 mem:=by simp
 obj:=λi h st b hb=>by
  have e:b=it:=by simpa using hb
  subst e;obtain⟨o,e,c,d⟩:=st;exact⟨o,e,λv z=>by rw[d]at z;cases z⟩
 keep:=λi h h' st k=>st.at λo e=>k it (by simp) o e
 item:=by
  rintro X hP hw hK hc i pins s σ H E I hf st ⟨hg,hi⟩;subst hP hw hK;obtain⟨f0,f1,f2,f3,f4,f5⟩:=hf it (by simp);obtain⟨g0,g1⟩:=(show Aw X.prog X.w H s.heap d (.frz o (.dK kvs)) from I.hok d _ hg);obtain⟨_,_,vs,r,o2,es2,ep2,e2,_,d2,_,prs,_⟩:=(show Aw X.prog X.w H s.heap d (.dK kvs) from g1);rw[g0]at e2;cases e2;rw[ho]at d2;cases d2;have hie:i<es.size:=by lia
  obtain⟨p,hp⟩:∃p,kvs[i]?=some p:=⟨kvs[i],by simp[hi]⟩;obtain⟨q,hq,r1,r3⟩:=FM r hp;have he:=(prs.get? (e:=es[i]) (k:=q.1) (v:=q.2) (by simp[hie]) hq).1;rw[<-r1]at he;refine keys_item st g0 ho hie λh' st' sb=>?_;have I1:AY X pins σ H {s with heap:=h'}:=I.turned (t':=s.toks) (λb o hb e=>(sb.2 b hb).trans e) f0 f1 f3 f4 f5;obtain⟨oo,e,c,dd⟩:=id st';exact⟨_,rfl,IQ (s:={s with heap:=h'}) e c dd (by decide) ⟨kV p.1,H,I1,R9 he,⟨rfl,p.1,p.2,rfl,hp⟩,st',λb hb=>(hf b hb).1⟩⟩
 done:=by rintro X hP hw hK hc i pins s σ H E I hf st ⟨hg,hi⟩;subst hP hw hK;obtain⟨f0,f1,f2,f3,f4,f5⟩:=hf it (by simp);obtain⟨g0,g1⟩:=(show Aw X.prog X.w H s.heap d (.frz o (.dK kvs)) from I.hok d _ hg);exact keys_end (I.ok.hd hc) st g0 ho (by lia) λh' eb=>⟨rfl,I.turned (t':=s.toks) (λb o hb e=>eb b o hb e) f0 f1 f3 f4 f5⟩
 self:=λ_ _ _ _ _ st h=>wpAny_pyIter_keyiter st h
def TL(tl:TE):TI:=λσ H R=>tl σ H λx H1=>∃(d:Addr) (kvs:List (CN×V)),x=.ref d/\Rd H1 d (.dK kvs)/\∀o,R (Pe d o kvs) (Aj H1 d (.frz o (.dK kvs)))
theorem Pg{l:Expr}(hl:PE X l tl):PI X tg l (TL tl):=by
 intro pins s σ H R I h;refine BX (hl pins s σ H _ I h) λv s1 z9=>?_;obtain⟨x,H1,I1,r1,q1⟩:=z9;obtain⟨d,kvs,e,hq,q⟩:=q1;subst e;cases r1;obtain⟨z,hm,vs,r,o,es,ep,ho,hx,hd,ks,prs,nd⟩:=(show Aw X.prog X.w H1 s1.heap d (.dK kvs) from hq.ok I1.hok)
 have I2:AY X pins σ (Aj H1 d (.frz o (.dK kvs))) s1:=by
  rcases hq with e|⟨o',e⟩
  ·exact I1.freeze e (λ_ z=>nomatch z) (λ_ _ z=>nomatch z) (λ_ z=>nomatch z) (λ_ z=>nomatch z) ho
  ·obtain⟨g0,_⟩:=(show Aw X.prog X.w H1 s1.heap d (.frz o' (.dK kvs)) from I1.hok d _ e);rw[ho]at g0;cases g0;rw[TK e];exact I1
 have hsz:es.size=kvs.length:=by have a:=prs.length;have b:=Paired.length r;simp at a;lia
 refine keys_iter hm ⟨o,ho,hx.1⟩ ho hd ⟨s1.heap.objs.size,[s1.heap.objs.size],_,_,_,rfl,I2.kept (t':=s1.toks) λb o e=>Xn _ e,MH hd hsz,⟨_,Xz _ rfl,rfl,rfl⟩,λb hb=>?_,q o⟩;have e:b=s1.heap.objs.size:=by simpa using hb
 subst e;exact I2.fpOk (Xr _) (I2.hok.fresh (Xr _))
theorem N4{o:Obj}{g:TG}{tb:TS}(Pv:Nat->St->Hp->Prop)(h0:Pv 0 σ H)(hl:∀i σ H,i<=kvs.length->Pv i σ H->H d=some (.frz o (.dK kvs)))
  (hs:∀i k v σ H,kvs[i]?=some (k,v)->Pv i σ H->g (kV k) σ H λσ2 H2=>tb {D with nx:=Pv (i+1),ct:=Pv (i+1),bk:=D.nx} σ2 H2) (hd:∀σ H,Pv kvs.length σ H->D.nx σ H):
  ∃W:Nat->Nat->St->Hp->Prop,(∃m,W 0 m σ H)/\∀i m σ H,W i m σ H ->
   ((Pe d o kvs).stop i H/\D.nx σ H)\/((Pe d o kvs).go i H/\∃N:St->Hp->Prop,(∀σ' H',N σ' H'->∃m',m'<m/\W (i+1) m' σ' H')/\∀x H',(Pe d o kvs).yld i H x H'->g x σ H' λσ2 H2=>tb {D with nx:=N,ct:=N,bk:=D.nx} σ2 H2):=by
 refine⟨λi m σ H=>m=kvs.length-i/\i<=kvs.length/\Pv i σ H,⟨kvs.length,by simp,Nat.zero_le _,h0⟩,?_⟩;rintro i m σ H ⟨rfl,hi,p⟩;have q:=hl i σ H hi p
 by_cases hlt:i<kvs.length
 ·refine .inr ⟨⟨q,hlt⟩,Pv (i+1),λσ' H' p'=>⟨kvs.length-(i+1),by lia,rfl,hlt,p'⟩,λx H' y=>?_⟩;obtain⟨e,k,v,ex,hk⟩:=y;subst e ex;exact hs i k v σ _ hk p
 ·have e:i=kvs.length:=by lia
  subst e;exact .inl ⟨⟨q,Xr _⟩,hd σ H p⟩
noncomputable def Xe(n:Int):V->Bool
 |.int i=>i==n
 |_=>false
noncomputable def NI:V->Prop
 |.int _=>True
 |.non=>True
 |_=>False
noncomputable def Xf(n:Int):Value->Bool
 |.int i _=>i==n
 |_=>false
theorem Xg{n:Int}{v:V}(h:NI v)(r:Aq v u):Xf n u=Xe n v:=by
 cases v with
 |int i=>obtain⟨t,rfl⟩:=r;rfl
 |non=>cases r;rfl
 |_=>exact h.elim
theorem Ph:Wb X "list.index" (λx xs H Q=>∃(p:Addr) (ys:List V) (n:Int) (j:Nat),x=.ref p/\xs=[.int n]/\H p=some (.lst ys)/\(∀y∈ys,NI y)/\ys[j]?=some (.int n)/\(∀m,m<j->∀y,ys[m]?=some y->Xe n y=false)/\Q (.int ((j:Nat):Int)) H):=by
 intro pins s σ H x xs v us Q I rx rs h;obtain⟨p,ys,n,j,rfl,rfl,hp,ni,hj,hm,q⟩:=h;cases rx;obtain⟨u,rfl,ru⟩:=Gx rs;obtain⟨t,rfl⟩:=ru;obtain⟨z,its,c,r,hl,e⟩:=I.lstM hp
 have ix:∀(m:Nat) (hm:m<its.toArray.size),∃y,ys[m]?=some y/\Aq y its.toArray[m]:=λm hm=>by
  have hm':m<its.length:=by simpa using hm
  have h2:m<ys.length:=by lia
  obtain⟨u,hu,ru⟩:=r.get (Xs h2);refine⟨ys[m],Xs h2,?_⟩;rw[Xs hm']at hu;cases hu;simpa using ru
 have jl:j<its.toArray.size:=by have:=(Xo.mp hj).1;rw[YV];lia
 have zz:=z;rw[sizeLine_eq]at zz;have jj:j<ys.length:=(Xo.mp hj).1
 refine call_meets PySem.F.slot_list_index ⟨_,e,rfl⟩ PySem.F.entry_list_index (PySem.F.args_list_index_2 _ _)
  (SeqAt.list_indexAt p its.toArray c none #[] (.int n t) (Xf n) j jl (by lia) ?_ ?_) ⟨e,λy hy=>?_,.int ((j:Nat):Int),H,I.tok _,⟨_,rfl⟩,q⟩
 ·obtain⟨y,h1,h2⟩:=ix j jl;rw[hj]at h1;cases h1;rw[Xg (v:=.int n) trivial h2];exact beq_self_eq_true n
 ·intro m hm2 hlt;obtain⟨y,h1,h2⟩:=ix m hm2;rw[Xg (ni y (X3 h1)) h2];exact hm m hlt y h1
 ·obtain⟨m,hm2,rfl⟩:=Array.mem_iff_getElem.mp hy;obtain⟨y,h1,h2⟩:=ix m hm2;have:=ni y (X3 h1);generalize its.toArray[m]=uu at h2⊢;cases y with
  |int i=>obtain⟨t',rfl⟩:=h2;exact SeqAt.EqAt.int_int i t' n t
  |non=>cases h2;exact SeqAt.EqAt.none_int n t
  |_=>exact this.elim
theorem He:Wb X "dict.setdefault" (λx xs H Q=>∃(d:Addr) (kvs:List (CN×V)) (k:CN) (y:V),x=.ref d/\xs=[kV k,y]/\H d=some (.dK kvs)/\kvs.length<sizeLine /\
  (∀z,Cb kvs k=some z->Q z H)/\(Cb kvs k=none->Q y (Aj H d (.dK (Dn kvs k y))))):=by
 intro pins s σ H x xs v us Q I rx rs h;obtain⟨d,kvs,k,y,rfl,rfl,e,hz,h1,h2⟩:=h;obtain⟨u1,u2,rfl,r1,r2⟩:=Mb rs;cases rx;obtain⟨z,hd,vs,rel,dd⟩:=Rz I.hok e;have hl:vs.length<=sizeLine:=by rw[<-rel.length];exact z
 have rk:=rel.val k;refine call_meetsIn Zl dd.typeIs PySem.F.entry_dict_setdefault (PySem.F.args_dict_setdefault_3 _ _ _) (kt_meets_setdefault (BK X.prog X.w) d (HR r1) hd u2) ⟨vs,dd,hl,λp hp=>?_,λhn h' dd' sb=>?_⟩
 ·rw[hp]at rk;cases hv:Cb kvs k with
  |none=>rw[hv]at rk;exact (show False from rk).elim
  |some t =>
   rw[hv]at rk;exact⟨t,H,I.tok _,rk,h1 t hv⟩
 ·have hv:Cb kvs k=none:=by
   cases hv:Cb kvs k with
   |none=>rfl
   |some t=>rw[hv,hn]at rk;exact (show False from rk).elim
  have hlen:(Dn kvs k y).length<=sizeLine:=by have:=EY kvs k y;lia
  have he:∃q,h'.get? d=some q:=let ⟨q,_,_,hq,_⟩:=dd';⟨q,hq⟩;exact⟨y,_,Jl (ob:=.dK (Dn kvs k y)) I (by rw[e];exact True.intro) sb he (PL hlen hd (rel.put k r2) dd'),r2,h2 hv⟩
end L2
namespace PySem
open Sem (wp)
section
variable{prog:Program}{w:World}{K:Type}[DecidableEq K]{knd:KeyKind prog w K}{A:Around}{E:Value->Shared->Prop}{s:Shared}
theorem hint_dict{d:Addr}{Q:Bool->Shared->Prop}(hT:s.TypeIs (.ref d) "dict")(h:Q false s):wpAny (model prog w) A (Builtin.List.listLengthHint (.ref d)) Q E s:=by
 unfold Builtin.List.listLengthHint;refine qC (wpAny_specialOf hT F.slot_dict_len.lookup ?_);generalize hid:("dict.__len__":String)=id0
 wp_delta
 rw[show splitId id0=some ("dict","__len__") from by subst hid;decide +kernel];subst hid;refine qC (wpAny_isInstance (T:="dict") (b:=true) hT (by rw[isSubtype_type];kernel_rfl) ?_);refine wpAny_ite_split (λhab=>qG hab (by decide)) (λ_=>?_);refine wpAny_ite_split (λ_=>?_) (λhab=>qG (by decide +kernel) hab);refine qC (wpAny_typeOf hT ?_);exact qD h
theorem extend_dict{R:Result->Shared->Prop}{d:Addr}{kvs:List (K×Value)}{ep:Nat}(hh:A.handled=none)(hm:(d==sysModules)=false)(hr:s.heap.DictAt knd d kvs ep)(hlen:kvs.length<=sizeLine)(S:Addr)(res:Value)(c₀:Nat)(hS:s.heap.get? S=some {cls:=.type "list",data:=.seq #[] c₀})
  (hR:∀h' tk acc' c',(∀b o,b≠S->s.heap.get? b=some o->h'.get? b=some o)->h'.get? S=some {cls:=.type "list",dict:=none,data:=.seq acc' c',slots:=#[]} ->
   ItemsOf (λi v=>∃k x,kvs[i]?=some (k,x)/\knd.is k v=true) acc' kvs.length->R (.ok (.ret res)) {s with heap:=h',toks:=tk}):
  wpAny (model prog w) A.in1 (Builtin.List.listExtendWith (.ref S) (.ref d) res)
   (λfin s'=>match fin with|.done f=>R (.ok f) s'|.again c'=>c'.quiet=true/\codeAny (model prog w) A c' R s') (λe s'=>R (.error e) s') s:=by
 obtain⟨o,es,ho,hc,hdat,hk,hp,hn⟩:=id hr;have hT:s.TypeIs (.ref d) "dict":=⟨o,ho,hc.1⟩
 have hSr:S≠d:=λe=>by rw[e,ho]at hS;cases hS;cases hdat
 have hSlt:S<s.heap.objs.size:=Xt hS;have hSI:S≠s.heap.objs.size:=YW hSlt;have hdI:d≠s.heap.objs.size:=YW (Xt ho)
 have hSf:S∉[s.heap.objs.size,d]:=λhm=>by
  rcases YA.mp hm with z|z
  ·exact hSI z
  ·exact hSr (Xl.mp z)
 have W:=(Walks.dictKeys (prog:=prog) (w:=w) (A:=A.in1) (knd:=knd) hh s.heap.objs.size d hdI kvs ep).toS
 have key:∀(h:Heap) (c₁ tk:Nat),h.IsKeyIter s.heap.objs.size d 0 kvs.length ep->h.DictAt knd d kvs ep->(∀b o,b≠S->s.heap.get? b=some o->h.get? b=some o) ->
   h.get? S=some {cls:=.type "list",data:=.seq #[] c₁}->codeAny (model prog w) A (.builtin "list.extend.loop" ⟨[.ref S,.ref s.heap.objs.size,res],[]⟩) R {s with heap:=h,toks:=tk}:=by
  intro h c₁ tk hit hda hk hS₁;refine codeAny_extend_loopS W hlen S hSf res kvs.length 0 _ #[] c₁ rfl (YS _) ⟨hit,hda⟩ hS₁ (ItemsOf.nil _) λs' acc' c' hm hS' hacc=>?_;rw[Moved.eq_with hm];refine hR s'.heap s'.toks acc' c' (λb o hb e=>hm.heap b o (λhmem=>?_) (hk b o hb e)) hS' hacc;rcases YA.mp hmem with e'|hmem
  ·exact hb e'
  ·exact qG (Xt e) (by rw[Xl.mp hmem];exact YE _)
 unfold Builtin.List.listExtendWith;refine qC (wpAny_typeOf (T:="dict") hT ?_);have h1:Builtin.List.listSameRef (.ref S) (.ref d)=false:=by simp[Builtin.List.listSameRef,hSr]
 have h2:(Value.type "dict"==Value.type "list")=false:=by decide
 have h3:(Value.type "dict"==Value.type "tuple")=false:=by decide
 simp only[h1,h2,h3,Bool.or_false,Bool.false_eq_true,if_false];refine qC (wpAny_pyIter_dict hm hr ?_);obtain⟨itO,hIt⟩:∃itO:Obj,itO={cls:=.type "dict_keyiterator",data:=.fields #[.ref d,.int 0 0,.int kvs.length 0,.int ep 0]}:=⟨_,rfl⟩;rw[<-hIt];have kp:∀b o,s.heap.get? b=some o->(s.heap.push itO).get? b=some o:=λb o e=>Xn _ e
 refine qC (wpAny_holding (hint_dict ⟨o,kp _ _ ho,hc.1⟩ ?_));have hit₁:(s.heap.push itO).IsKeyIter s.heap.objs.size d 0 kvs.length ep:=⟨_,Xz _ (by rw[hIt];rfl),by rw[hIt],by rw[hIt];rfl⟩;have hd₁:(s.heap.push itO).DictAt knd d kvs ep:=hr.at' λo e=>kp d o e
 have hS₁:=kp _ _ hS;refine wpAny_ite_split (λ_=>?_) (λhab=>qG (by decide +kernel) hab);refine qC (wpAny_rule ?_);refine qC ?_;show wpAny _ _ (updateSeq S (·.push .none) >>= λ_=>updateSeq S (·.pop)) _ _ _;refine qC (wpAny_updateSeq hS₁ rfl ?_);have hS₂:=ZO (Obj.mapSeq (·.push Value.none)) hS₁ rfl;refine wpAny_updateSeq (hz:=by seq_fits) hS₂ rfl ?_;have hS₃:=ZO (Obj.mapSeq (·.pop)) hS₂ rfl;have up:∀b o,b≠S->(s.heap.push itO).get? b=some o->(((s.heap.push itO).update S (Obj.mapSeq (·.push Value.none))).update S (Obj.mapSeq (·.pop))).get? b=some o:=λb o hb e=>(ZL _ _ (Ne.symm hb)).trans ((ZL _ _ (Ne.symm hb)).trans e)
 refine qD ⟨plainId_quiet F.plain_extend_loop _,key _ _ _ (hit₁.at λo e=>up _ o (Ne.symm hSI) e) (hd₁.at' λo e=>up _ o (Ne.symm hSr) e) (λb o hb e=>up b o hb (kp b o e)) hS₃⟩
end
end PySem
namespace L2
open PySem PySem.Spec PyProof.Rows
variable{E:Value->Shared->Prop}{H H' H1 H2:Hp}{X:Cx}{a b f:Addr}{an od:Option Addr}{cdv doc oc:Value}{es:List Expr}{h:Heap}{name qual x:Str}{o:HO}{osl:Array (Option Value)}{params:Arguments}{pos:Pos}{ps:List Str}{s:Shared}{scope:Scope}{sp:Sp}{α β:Type}
def Hf(mg:Str->Option Value)(h:Heap):Prop:=∃bm ob,mg "__builtins__"=some (.ref bm)/\bm≠builtinsNs/\h.get? bm=some ob/\ob.cls=.type "module"/\ob.dict=some builtinsNs/\ob.data=.plain
def SA(ts:List Addr)(H:Hp):Prop:=(∀b,H b=none\/(∃o xs,H b=some (.frz o (.lst xs)))\/(b∈ts/\H b=some (.tbl #[])))/\∀b∈ts,H b=some (.tbl #[])
def Pi(K:qJ)(cts:List (Addr×Addr)):Prop:=∀q∈cts,PySem.W.codeHdIn K q.1 q.2=true/\K.lookup q.2=none
theorem N5{P:Program}{w:World}{K:qJ}{mg mb:Str->Option Value}{CX:QK}{k:Nat}{fa:Addr}{fd:FuncData}{sp:Sp}{s₁:Shared}{vs:List Value}{ns:List Int}{cts:List (Addr×Addr)}
  (KX:K.In s₁.heap) (hns:s₁.heap.Ns mainGlobals mg) (hb:s₁.heap.Ns builtinsNs mb) (hbb:∀x:Str,x≠"__name__"->mb x=bootBuiltins x) (hlim:s₁.heap.NoLimit) (hbm:Hf mg s₁.heap) (hg:s₁.gens=#[])
  (hT:Pi K cts) (hT2:∀q∈cts,s₁.heap.get? q.2=some (PySem.W.tabObj #[]))
  (ha:s₁.heap.get? a=some {cls:=.type "list",data:=.seq vs.toArray}) (hi:IntsAre vs ns) (hl:ns.length<=sizeLine) (hr:Bs k callerA)
  (F:∀base:Heap,K.In base->base.Ns mainGlobals mg->Hf mg base->Ex P w K mg base CX k fa fd [x] sp) (hbind:∀(s:Shared) (u:Value),BindsTo s fd ⟨[u],[]⟩ [(x,u)])
  (hsp:∀H:Hp,SA (cts.map (·.2)) H->Ad K H a (ns.map V.int)->sp [.ref a] H (λv _=>v=.bl true) λ_ _ _=>False)
  (hCX:∀H e s',CX [] H s₁ (λ_ _ _=>False) e s'->False):
  codeAny (model P w) callerA (.call (.ref fa) ⟨[.ref a],[]⟩) (λr s'=>r=.ok (.ret (.bool true))/\OldK s₁.heap s'.heap/\s'.os=s₁.os/\AllBare s'.gens) s₁:=by
 have rv:=IW hi;have lenV:=hi.length
 have atT:∀b∈cts.map (·.2),s₁.heap.get? b=some (PySem.W.tabObj #[])/\K.lookup b=none/\isCodeTable s₁.heap b:=λb hb=>by obtain⟨q,hq,rfl⟩:=YH.mp hb;exact⟨hT2 q hq,(hT q hq).2,((PySem.W.codeHd_of_K KX (hT q hq).1).tab (hT2 q hq)).isCodeTable⟩
 have aT:a∉cts.map (·.2):=λz=>by have e:=(atT a z).1;rw[ha]at e;cases e
 have core:∀H:Hp,SA (cts.map (·.2)) H->Ad K H a (ns.map V.int)->Dd P w H s₁.heap->(∀b,H b≠none->b=a\/b∈cts.map (·.2))->(H a≠none->K.lookup a=none) ->
   codeAny (model P w) callerA (.call (.ref fa) ⟨[.ref a],[]⟩) (λr s'=>r=.ok (.ret (.bool true))/\OldK s₁.heap s'.heap/\s'.os=s₁.os/\AllBare s'.gens) s₁:=by
  intro H hO hS hok hA hK;have base_of:∀{b:Addr} {o:Obj},s₁.heap.get? b=some o->H b=none->(IG s₁.heap H).get? b=some o:=λe n=>OK e n
  have noA:∀{b:Addr} {o:Obj},s₁.heap.get? b=some o->(∀xs n,o.data≠.seq xs n)->(∀xs,o.data≠.fields xs)->H b=none:=λ{b o} e d d2=>by
   cases q:H b with
   |none=>rfl
   |some u =>
    rcases hA b (by rw[q];simp) with e'|e'
    ·subst e';rw[ha]at e;cases e;exact (d _ _ rfl).elim
    ·rw[(atT b e').1]at e;cases e;exact (d2 _ rfl).elim
  have nsK:∀{b:Addr} {m:Str->Option Value},s₁.heap.Ns b m->(IG s₁.heap H).Ns b m:=λ{b m} ⟨o,es,ep,e,d,r⟩=>⟨o,es,ep,base_of e (noA e (λ_ _ z=>by rw[d]at z;cases z) (λ_ z=>by rw[d]at z;cases z)),d,r⟩
  have hKb:K.In (IG s₁.heap H):=λb o e=>base_of (KX b o e) (by
   cases q:H b with
   |none=>rfl
   |some u =>
    rcases hA b (by rw[q];simp) with e'|e'
    ·subst e';rw[hK (by rw[q];simp)]at e;cases e
    ·rw[(atT b e').2.1]at e;cases e)
  have hM:WZ K mg (IG s₁.heap H):=⟨hKb,nsK hns,⟨mb,nsK hb,hbb⟩,let ⟨mc,h1,h2⟩:=hlim;⟨mc,nsK h1,h2⟩⟩
  have hB:Hf mg (IG s₁.heap H):=by obtain⟨bm,ob,b1,b2,b3,b4,b5,b6⟩:=hbm;exact⟨bm,ob,b1,b2,base_of b3 (noA b3 (λ_ _ z=>by rw[b6]at z;cases z) (λ_ z=>by rw[b6]at z;cases z)),b4,b5,b6⟩
  have e0:J5 P w K mg (IG s₁.heap H) callerA [] s₁ H:=⟨rfl,hM,λb o e=>QO e,Nat.le_of_eq (NP _ _),trivial,λb hb=>qG (show b∈([]:List Addr) from hb) (by simp),hok,.of_eq hg⟩;refine codeAny_mono ((F _ hKb (nsK hns) hB).run callerA [] s₁ H ⟨[.ref a],[]⟩ [.ref a] [.ref a] _ _ hr e0 (hbind s₁ (.ref a)) (.cons rfl .nil) (hsp H hO hS)) λr s' h=>?_;cases r with
  |error e=>exact (hCX H e s' h).elim
  |ok fl =>
   cases fl with
   |next=>exact False.elim h
   |brk=>exact False.elim h
   |cont=>exact False.elim h
   |ret u =>
    obtain⟨v,H',os,bare,un,hok',r',q⟩:=h;have q':v=.bl true:=q;subst q';obtain rfl:u=Value.bool true:=r'
    have keep:∀b o,s₁.heap.get? b=some o->b∉cts.map (·.2)->s'.heap.get? b=some o:=λb o e nb=>by
     cases q:H b with
     |none=>exact un.keep b o e q (by intro z;exact qG (show b∈([]:List Addr) from z) (by simp)) (by simp)
     |some u =>
      rcases hO.1 b with z|⟨ob,xs,z⟩|⟨z,_⟩
      ·rw[q]at z;cases z
      ·have z2:=un.frzs b ob _ z;obtain⟨e1,_⟩:=hok b _ z;obtain⟨e2,_⟩:=hok' b _ z2;rw[e]at e1;cases e1;exact e2
      ·exact qG z nb
    have tabs:∀b∈cts.map (·.2),∃more,s'.heap.get? b=some {cls:=.none,data:=.fields ((#[]:Array Value)++more)}:=λb hb=>by obtain⟨more,z⟩:=un.tbls b #[] (hO.2 b hb);exact⟨more,hok' b _ z⟩
    refine⟨rfl,⟨λb o e=>?_,λb o e=>?_⟩,os,bare⟩
    ·by_cases hb:b∈cts.map (·.2)
     ·obtain⟨more,z⟩:=tabs b hb;have e1:=(atT b hb).1;rw[e]at e1;cases e1;exact .inr (.inl ⟨(atT b hb).2.2,rfl,#[],more,rfl,z⟩)
     ·exact .inl (keep b o e hb)
    ·by_cases hb:b∈cts.map (·.2)
     ·obtain⟨more,z⟩:=tabs b hb;exact⟨_,z⟩
     ·exact⟨o,keep b o e hb⟩
 cases hk:K.lookup a with
 |some o =>
  have e:=KX a o hk;rw[ha]at e;cases e;refine core (λb=>if b∈cts.map (·.2) then some (.tbl #[]) else none) ⟨λb=>?_,λb hb=>qF hb⟩ (.inr ⟨_,vs.toArray,_,hk,rfl,rfl,rfl,by rw[List.size_toArray,lenV];exact hl,by simpa using rv⟩) (λb u z=>?_) (λb z=>?_) λz=>qG (qE aT) z
  ·by_cases hb:b∈cts.map (·.2)
   ·exact .inr (.inr ⟨hb,qF hb⟩)
   ·exact .inl (qE hb)
  ·by_cases hb:b∈cts.map (·.2)
   ·have z':=(qF hb).symm.trans z;cases z';exact (atT b hb).1
   ·have z':=(qE hb).symm.trans z;cases z'
  ·by_cases hb:b∈cts.map (·.2)
   ·exact .inr hb
   ·exact qG (qE hb) z
 |none =>
  have at1:∀b,b∉cts.map (·.2)->b=a->(if b∈cts.map (·.2) then some (HO.tbl #[]) else if b=a then some (.frz {cls:=.type "list",data:=.seq vs.toArray} (.lst (ns.map V.int))) else none)=some (.frz {cls:=.type "list",data:=.seq vs.toArray} (.lst (ns.map V.int))):=λb h1 h2=>by rw[qE h1,qF h2]
  have at2:∀b,b∉cts.map (·.2)->b≠a->(if b∈cts.map (·.2) then some (HO.tbl #[]) else if b=a then some (.frz {cls:=.type "list",data:=.seq vs.toArray} (.lst (ns.map V.int))) else none)=none:=λb h1 h2=>by rw[qE h1,qE h2]
  refine core (λb=>if b∈cts.map (·.2) then some (.tbl #[]) else if b=a then some (.frz {cls:=.type "list",data:=.seq vs.toArray} (.lst (ns.map V.int))) else none) ⟨λb=>?_,λb hb=>qF hb⟩ (.inl (.inr ⟨{cls:=.type "list",data:=.seq vs.toArray},at1 a aT rfl⟩)) (λb u z=>?_) (λb z=>?_) λ_=>hk
  ·by_cases hb:b∈cts.map (·.2)
   ·exact .inr (.inr ⟨hb,qF hb⟩)
   ·by_cases hba:b=a
    ·exact .inr (.inl ⟨_,_,at1 b hb hba⟩)
    ·exact .inl (at2 b hb hba)
  ·by_cases hb:b∈cts.map (·.2)
   ·have z':=(qF hb).symm.trans z;cases z';exact (atT b hb).1
   ·by_cases hba:b=a
    ·have z':=(at1 b hb hba).symm.trans z;cases z';subst hba;exact⟨ha,by rw[Xk];exact hl,vs,_,rv,ha⟩
    ·have z':=(at2 b hb hba).symm.trans z;cases z'
  ·by_cases hb:b∈cts.map (·.2)
   ·exact .inr hb
   ·by_cases hba:b=a
    ·exact .inl hba
    ·exact qG (at2 b hb hba) z
abbrev CP:HO:=.ext λ_=>True
theorem Hg{P:Program}{w:World}{o:Obj}(e:h.get? a=some o):Aw P w H h a (.frz o CP):=⟨e,trivial,⟨o,e⟩,λ_ _ _ _=>trivial⟩
def Pj(oc:Obj)(q:Str):Prop:=∃vs t,oc.data=.fields vs/\vs[1]?=some (.str q t)
def BQ(pos:Pos)(q:Str)(P:Addr)(H:Hp):Prop:=∃ps:Array Value,H P=some (.tbl ps)/\TriplesOk ps.toList /\
 ∀cv,codeAmong pos ps.toList=some cv->∃c' oc,cv=.ref c'/\H c'=some (.frz oc CP)/\Pj oc q
variable{q:Str}
theorem BQ.same{P:Addr}(t:BQ pos q P H)(e:AG H H'):BQ pos q P H':=by obtain⟨ps,h1,h2,h3⟩:=t;refine⟨ps,e _ _ h1,h2,λcv hc=>?_⟩;obtain⟨c',oc,h4,h5,h6⟩:=h3 cv hc;exact⟨c',oc,h4,e _ _ h5,h6⟩
theorem BQ.start{P:Addr}(h:H P=some (.tbl #[])):BQ pos q P H:=⟨#[],h,trivial,λ_ z=>by cases z⟩
def Bf(P:Addr)(H H':Hp):Prop:=∀b o,b≠P->H b=some o->H' b=some o
theorem AG.t{P:Addr}(e:AG H H'):Bf P H H':=λb o _ h=>e b o h
theorem Bf.trans{P:Addr}(a:Bf P H H1)(b:Bf P H1 H2):Bf P H H2:=λc o n h=>b c o n (a c o n h)
abbrev RD(q:Str)(params:Arguments)(body:Expr)(scope:Scope)(clos:List (Str×Addr))(pm:Value)(c':Addr)(ctv:Value):Obj:=PySem.W.kla_obj "<lambda>" q params body scope clos pm c' ctv
def Ir(q:Str)(params:Arguments)(body:Expr)(scope:Scope)(clos:List (Str×Addr))(f:Addr)(H:Hp):Prop:=
 ∃pm c' ctv oc,H f=some (.frz (RD q params body scope clos pm c' ctv) CP)/\H c'=some (.frz oc CP)/\Pj oc q
theorem Ir.same{body:Expr}{clos:List (Str×Addr)}(l:Ir q params body scope clos f H)(e:AG H H'):Ir q params body scope clos f H':=by obtain⟨pm,c',ctv,oc,h1,h2,h3⟩:=l;exact⟨pm,c',ctv,oc,e _ _ h1,e _ _ h2,h3⟩
def Wx(P:Addr)(pos:Pos)(q:Str)(params:Arguments)(body:Expr)(scope:Scope)(clos:List (Str×Addr)):TE:=λ_ H Q=>BQ pos q P H /\
 ∀f H',Bf P H H'->BQ pos q P H'->H f=none->Ir q params body scope clos f H'->Q (.ref f) H'
theorem TM{c P:Addr}{body:Expr}{clos:List (Str×Addr)}(hB:Hf X.mg X.base)(hcode:X.env.code=.ref c)(hc:PySem.W.codeHdIn X.K c P=true)
  (hcl:closureFor scope X.env=pure clos) (hdef:defaultsOf params X.env=([],[])):PE X (.Lambda params body scope pos) (Wx P pos (X.env.qual++"<lambda>") params body scope clos):=by
 intro pins s σ H Q I h;obtain⟨⟨ps,hP,ht,hh⟩,hq⟩:=h;refine PySem.W.kla_eval hdef ?_;have hPh:s.heap.get? P=some (PySem.W.tabObj ps):=I.hok P _ hP;have hPl:P<s.heap.objs.size:=Xt hPh;have C:PySem.W.CodeHd s.heap c P:=PySem.W.codeHd_of_K I.kIn hc;have hgs:s.heap.Ns mainGlobals X.mg:=I.ok.mod.glob.keeps I.bk;obtain⟨bm,ob,b1,b2,b3,b4,b5,b6⟩:=hB;have b3':=I.bk _ _ b3
 have hgP:mainGlobals≠P:=λq=>by obtain⟨o,es,ep,e,hd,_⟩:=hgs;rw[q,hPh]at e;cases e;cases hd
 have hbP:bm≠P:=λq=>by rw[q,hPh]at b3';cases b3';cases b4
 have hbG:bm≠mainGlobals:=λq=>by obtain⟨o,es,ep,e,hd,_⟩:=hgs;rw[q,e]at b3';cases b3';rw[hd]at b6;cases b6
 have BA:s.heap.BuiltinsAt X.mg P:=⟨bm,ob,b1,b2,hbG,hbP,b3',b4,b5,b6⟩;have nP:∀b,H b=none->b≠P:=λb e z=>by rw[z,hP]at e;cases e
 have fresh:∀b,s.heap.objs.size<=b->H b=none:=λb hb=>I.hok.fresh hb
 cases hca:codeAmong pos ps.toList with
 |none =>
  refine PySem.W.kla_makeFunction (mg:=X.mg) hcl I.ok.glob hgs hcode C hPh ht hca hgP BA λc' ctv h' tk hx hge hlt hrec htb=>?_;obtain⟨c₂,oc,vs,t,e2,hoc,hd,hv⟩:=hrec;cases e2;have hsz:s.heap.objs.size<=h'.objs.size:=YK hge (ZF hlt);obtain⟨f,hf⟩:∃f,f=h'.objs.size:=⟨_,rfl⟩;obtain⟨fo,hfo⟩:∃fo,fo=RD (X.env.qual++"<lambda>") params body scope clos ((X.mg "__name__").getD .none) c' ctv:=⟨_,rfl⟩;obtain⟨H',hH'⟩:∃H',H'=Aj (Aj (Aj H P (.tbl (ps++#[rawInt pos.line,rawInt pos.col,.ref c']))) c' (.frz oc CP)) f (.frz fo CP):=⟨_,rfl⟩;have cf:c'≠f:=λz=>by rw[z,hf]at hlt;exact qG hlt (YE _)
  have Pc:P≠c':=λz=>qG (Xw hPl hge) (by rw[<-z];exact YE _)
  have Pf:P≠f:=λz=>qG (Xw hPl hsz) (by rw[<-hf,<-z];exact YE _)
  have nf:H f=none:=fresh f (by rw[hf];exact hsz);have nc:H c'=none:=fresh c' hge;have oth:∀b,b≠P->b≠c'->b≠f->H' b=H b:=λb h1 h2 h3=>by rw[hH',AK h3,AK h2,AK h1]
  have atP:H' P=some (.tbl (ps++#[rawInt pos.line,rawInt pos.col,.ref c'])):=by rw[hH',AK Pf,AK Pc];exact AC
  have atc:H' c'=some (.frz oc CP):=by rw[hH',AK cf];exact AC
  have atf:H' f=some (.frz fo CP):=by rw[hH'];exact AC
  have keep:∀b o,b≠P->s.heap.get? b=some o->(h'.push fo).get? b=some o:=λb o hb e=>Xn _ (hx b o hb e)
  have trk:∀b u,H b=some u->b≠c'/\b≠f:=λb u e=>⟨λz=>(by rw[z,nc]at e;cases e),λz=>(by rw[z,nf]at e;cases e)⟩
  have sm:Bf P H H':=λb o hb e=>by rw[oth b hb (trk b o e).1 (trk b o e).2];exact e
  have un:Un (Cq X.stack) [] H H' s.heap (h'.push fo):=by
   refine⟨λb o e n _ _=>keep b o (nP b n) e,λb o e n _ _=>⟨o.slots,keep b o (nP b n) e⟩,λb o e n _=>?_,λb o e _=>?_,λb xs e=>?_,λb o u e=>?_,λb qs e=>?_⟩
   ·have hl:=Xt e;rw[oth b (nP b n) (λz=>qG (Xw hl hge) (by rw[z];exact YE _)) (λz=>qG (Xw hl hsz) (by rw[z,hf];exact YE _))];exact n
   ·by_cases hb:b=P
    ·rw[hb];exact⟨_,Xn _ htb⟩
    ·exact⟨o,keep b o hb e⟩
   ·exact sm b _ (λz=>by rw[z,hP]at e;cases e) e
   ·exact sm b _ (λz=>by rw[z,hP]at e;cases e) e
   ·by_cases hb:b=P
    ·subst hb;rw[hP]at e;cases e;exact⟨_,atP⟩
    ·exact⟨#[],by rw[Array.append_empty];exact sm b _ hb e⟩
  have hok:Dd X.prog X.w H' (h'.push fo):=λb u e=>by
   by_cases hbf:b=f
   ·subst hbf;rw[atf]at e;cases e;exact Hg (by rw[hf];exact Xz _ (by rw[hfo];rfl))
   ·by_cases hbc:b=c'
    ·subst hbc;rw[atc]at e;cases e;exact Hg (Xn _ hoc)
    ·by_cases hb:b=P
     ·subst hb;rw[atP]at e;cases e;exact Xn _ htb
     ·rw[oth b hb hbc hbf]at e;refine (I.hok b u e).stay (λd o hd q=>keep d o ?_ q) (λd q=>?_) λd xs q=>?_
      ·rcases hd with z|z
       ·rw[z];exact hb
       ·intro y;rw[y,hP]at z;cases z
      ·exact sm d _ (λy=>by rw[y,hP]at q;cases q) q
      ·exact sm d _ (λy=>by rw[y,hP]at q;cases q) q
  have I':AY X pins σ H' {s with heap:=h'.push fo,toks:=tk}:=I.call (g':=s.gens) (d':=s.drawn) (ch:=[]) un hok I.bare (λb z=>qG z (by simp));refine⟨.ref f,H',?_,by rw[hf];rfl,hq f H' sm ⟨_,atP,?_,λcv hcv=>?_⟩ nf ⟨(X.mg "__name__").getD .none,c',ctv,oc,by rw[atf,hfo],atc,vs,t,hd,hv⟩⟩
  ·subst hfo;exact I'
  ·rw[YU];exact TriplesOk_snoc _ _ _ _ ht
  ·rw[YU]at hcv;have e:=codeAmong_snoc (c:=.ref c') ps.toList ht hca;have hcv':codeAmong pos (ps.toList++[rawInt pos.line,rawInt pos.col,.ref c'])=some cv:=hcv;rw[e]at hcv';cases hcv';exact⟨c',oc,rfl,atc,vs,t,hd,hv⟩
 |some cv =>
  obtain⟨c',oc,rfl,hc',co⟩:=hh cv hca;refine PySem.W.kla_makeFunctionHit (mg:=X.mg) hcl I.ok.glob hgs hcode C hPh ht hca BA λctv h' tk hk hsz=>?_;obtain⟨f,hf⟩:∃f,f=h'.objs.size:=⟨_,rfl⟩;obtain⟨fo,hfo⟩:∃fo,fo=RD (X.env.qual++"<lambda>") params body scope clos ((X.mg "__name__").getD .none) c' ctv:=⟨_,rfl⟩;have nf:H f=none:=fresh f (by rw[hf];exact hsz);have keep:∀b o,s.heap.get? b=some o->(h'.push fo).get? b=some o:=λb o e=>Xn _ (hk b o e)
  have sm:AG H (Aj H f (.frz fo CP)):=AG.new nf _;have hok:Dd X.prog X.w (Aj H f (.frz fo CP)) (h'.push fo):=I.hok.laid keep (by rw[hf];exact hsz) (Hg (by rw[hf];exact Xz _ (by rw[hfo];rfl)))
  have un:Un (Cq X.stack) [] H (Aj H f (.frz fo CP)) s.heap (h'.push fo):=by refine⟨λb o e n _ _=>keep b o e,λb o e n _ _=>⟨o.slots,keep b o e⟩,λb o e n _=>?_,λb o e _=>⟨o,keep b o e⟩,λb xs e=>sm _ _ e,λb o u e=>sm _ _ e,λb qs e=>⟨#[],by rw[Array.append_empty];exact sm _ _ e⟩⟩;rw[AK (λz=>qG (Xw (Xt e) hsz) (by rw[z,hf];exact YE _))];exact n
  have I':AY X pins σ (Aj H f (.frz fo CP)) {s with heap:=h'.push fo,toks:=tk}:=I.call (g':=s.gens) (d':=s.drawn) (ch:=[]) un hok I.bare (λb z=>qG z (by simp));refine⟨.ref f,Aj H f (.frz fo CP),?_,by rw[hf];rfl,hq f _ sm.t (BQ.same ⟨ps,hP,ht,hh⟩ sm) nf ⟨(X.mg "__name__").getD .none,c',ctv,oc,by rw[AC,hfo],sm _ _ hc',co⟩⟩;subst hfo;exact I'
abbrev Bl(cl:List (Str×Addr)):List Addr:=cl.map (·.2)
noncomputable def IF(cl:List (Str×Addr))(H:Hp):Hp:=λb=>if b∈Bl cl then none else H b
noncomputable def VS(cl:List (Str×Addr))(H H':Hp):Hp:=λb=>if b∈Bl cl then H b else H' b
def Ct(cl:List (Str×Addr))(vs:List V)(H:Hp):Prop:=Paired (λ(p:Str×Addr) (v:V)=>∃u o,Aq v u/\o.data=.cell (some u)/\H p.2=some (.frz o CP)) cl vs
theorem Bp{cl:List (Str×Addr)}(h:b∉Bl cl):IF cl H b=H b:=qE h
theorem Hh{cl:List (Str×Addr)}(h:b∈Bl cl):IF cl H b=none:=qF h
theorem C4{cl:List (Str×Addr)}(h:b∉Bl cl):VS cl H H' b=H' b:=qE h
theorem MK{cl:List (Str×Addr)}(h:b∈Bl cl):VS cl H H' b=H b:=qF h
theorem Paired.left{F:α->β->Prop}:∀{l₁:List α} {l₂:List β},Paired F l₁ l₂->∀a∈l₁,∃b,F a b
 |_,_,.nil,_,h=>by cases h
 |_,_,.cons r t,a,h=>by
  rcases YA.mp h with rfl|h
  ·exact⟨_,r⟩
  ·exact Paired.left t a h
theorem Paired.at{F:α->β->Prop}:∀{l₁:List α} {l₂:List β},Paired F l₁ l₂->∀{i:Nat} {b:β},l₂[i]?=some b->∃a,l₁[i]?=some a/\F a b
 |_,_,.nil,_,_,h=>by simp at h
 |_,_,.cons r _,0,_,h=>by simp at h;subst h;exact⟨_,rfl,r⟩
 |_,_,.cons _ t,i+1,_,h=>by obtain⟨a,h1,h2⟩:=Paired.at t (i:=i) (by simpa using h);exact⟨a,by simpa using h1,h2⟩
theorem Paired.lens{F:α->β->Prop}:∀{l₁:List α} {l₂:List β},Paired F l₁ l₂->l₁.length=l₂.length
 |_,_,.nil=>rfl
 |_,_,.cons _ t=>by simp[Paired.lens t]
section
variable{cl:List (Str×Addr)}{vs:List V}
theorem Ct.at(c:Ct cl vs H)(h:b∈Bl cl):∃u o,o.data=.cell (some u)/\H b=some (.frz o CP):=by obtain⟨p,hp,rfl⟩:=YH.mp h;obtain⟨v,u,o,_,h1,h2⟩:=Paired.left c p hp;exact⟨u,o,h1,h2⟩
theorem Ct.same(c:Ct cl vs H)(e:AG H H'):Ct cl vs H':=Paired.mapP c λ_ _ ⟨u,o,h1,h2,h3⟩=>⟨u,o,h1,h2,e _ _ h3⟩
theorem Ct.out(c:Ct cl vs H){u:HO}(h:H b=some u)(n:∀o,u≠.frz o CP):b∉Bl cl:=λz=>by obtain⟨_,o,_,e⟩:=c.at z;rw[h]at e;exact n o (Option.some.inj e)
theorem Pk(h0:∀b∈Bl cl,H b=none)(e:AG H H'):AG H (IF cl H'):=λb o q=>by rw[Bp (λz=>by rw[h0 b z]at q;cases q)];exact e b o q
theorem DF(h:H b=none):IF cl H b=none:=by
 unfold IF;split
 ·rfl
 ·exact h
theorem Pl(e:AG (IF cl H) H'):AG H (VS cl H H'):=λb o q=>by
 by_cases hb:b∈Bl cl
 ·rw[MK hb];exact q
 ·rw[C4 hb];exact e b o (by rw[Bp hb];exact q)
theorem Dd.unC{P:Program}{w:World}(x:Dd P w H h)(n:∀b∈Bl cl,∀u,H b=some u->∃o,u=.frz o CP):Dd P w (IF cl H) h:=λb u e=>by
 have hb:b∉Bl cl:=λz=>by rw[Hh z]at e;cases e
 rw[Bp hb]at e;refine (x b u e).stay (λ_ _ _ q=>q) (λc q=>?_) λc xs q=>?_
 ·rw[Bp (λz=>by obtain⟨o,y⟩:=n c z _ q;cases y)];exact q
 ·rw[Bp (λz=>by obtain⟨o,y⟩:=n c z _ q;cases y)];exact q
end
def TN(P:Program)(w:World)(K:qJ)(mg:Str->Option Value)(base:Heap)(k i:Nat)(t:TA):TE:=λσ H Q=>∃f fd ps sp oc od fd' sl,σ[i]?=some (some (.ref f))/\Ex P w K mg base (IY P w) k f fd ps sp/\EL K fd ps [] /\
 H f=some (.frz ⟨oc,od,.func fd',sl⟩ CP)/\t σ H λvs H1=>H1 f=some (.frz ⟨oc,od,.func fd',sl⟩ CP)/\sp vs H1 Q E0
theorem Pm{k:Nat}{p pos:Pos}{e:Expr}{t:TA}(i:Nat)(hr:Bs k X.A)(ha:PA X (e::es) t)(hN:X.N[i]?=some x:=by rfl)
  (hv:Uf X.env.scope x:=by first|exact Or.inl rfl|exact Or.inr (Or.inl rfl)|exact Or.inr (Or.inr rfl)) (hdb:(x==("__debug__":Str))=false:=by decide) (hcd:(x==("__classdict__":Str))=false:=by decide)
  (he:starEach (e::es) X.env=(false,eval e X.env)::starEach es X.env:=by rfl) (hpl:(backTo pos (starEach es X.env)).any (·.1)=false:=by rfl):
  PE X (.Call (.Name x p) (e::es) [] pos) (TN X.prog X.w X.K X.mg X.base k i t):=by
 intro pins s σ H Q I h;obtain⟨f,fd,ps,sp,oc,od,fd',sl,hi,F,hb,hf,h⟩:=h
 have fin:wpAny (model X.prog X.w) X.A (callWith pos (.ref f) [] (backTo pos (starEach (e::es) X.env)) []) (EP X pins σ Q) X.xe s:=by
  refine PySem.W.callWith_F ⟨oc,od,fd',sl,(I.hok f _ hf).1⟩ (BX (ha pos pins s σ H _ I h) λus s1 ⟨vs,H1,I1,r,hf1,q⟩=>⟨⟨oc,od,fd',sl,(I1.hok f _ hf1).1⟩,?_⟩) he hpl;have hl:us.length=ps.length:=by rw[<-r.length];exact F.len _ _ _ _ q
  have bd:=hb s1 us I1.kIn (by rw[Yd];exact hl);rw[Yd]at bd;refine wpAny_call (codeAny_mono (F.run X.A X.stack s1 H1 ⟨us,[]⟩ us vs Q E0 hr I1.env0 bd r q) λrs s2 hq=>?_);rcases rs with er|fl
  ·exact Rj (P:=X.prog) (w:=X.w) pins σ H1 s1 er s2 I1 hq
  ·cases fl with
   |ret u=>exact I1.after hq
   |next=>exact False.elim hq
   |brk=>exact False.elim hq
   |cont=>exact False.elim hq
 obtain⟨m,hn,hl⟩:=I.loc;obtain⟨u,r,l⟩:=hl i x _ hN hi hv;obtain rfl:u=Value.ref f:=r;refine wpAny_Call_Name_kw ?_;rcases l with⟨hk,hm⟩|⟨hk,c,hc,hcell⟩
 ·exact wpAny_Name (wpAny_loadName_local I.ok.kind hk hn hm fin) hdb
 ·rcases hk with hk|hk
  ·exact wpAny_Name (wpAny_loadName_cell I.ok.kind hk hc hcell fin) hdb
  ·exact wpAny_Name (wpAny_loadName_free I.ok.kind hk hc hcell fin hcd) hdb
def At(σ:St)(is:List Nat)(vs:List V):Prop:=Paired (λ(i:Nat) (v:V)=>σ[i]?=some (some v)) is vs
def TQ(cl:List (Str×Addr))(is:List Nat)(sp:Sp)(t:TA):TE:=λσ H Q=>∃E6,At σ is E6/\t σ H λvs H1=>∀H1',AG H1 H1'->(∀b∈Bl cl,H1 b=none)->Ct cl E6 H1'->(∀b,b∉Bl cl->H1' b=H1 b)->sp vs H1' (λv H2=>Q v (IF cl H2)) E0
theorem Pn{k:Nat}{p pos:Pos}{e:Expr}{t:TA}{cl:List (Str×Addr)}{is:List Nat}(G:A5 X.prog X.w X.K X.mg X.base k f ps sp)(hr:Bs k X.A)(hg:Gl X x)(hm:X.mg x=some (.ref f))
  (ha:PA X (e::es) t) (hcl:Paired (λ(i:Nat) (q:Str×Addr)=>X.N[i]?=some q.1/\X.env.kindOf q.1=some .cell/\X.env.cells.lookup q.1=some q.2/\X.fn q.1=true) is cl)
  (hdb:(x==("__debug__":Str))=false:=by decide) (he:starEach (e::es) X.env=(false,eval e X.env)::starEach es X.env:=by rfl) (hpl:(backTo pos (starEach es X.env)).any (·.1)=false:=by rfl):
  PE X (.Call (.Name x p) (e::es) [] pos) (TQ cl is sp t):=by
 obtain⟨⟨fd,F,hb⟩,kp⟩:=G;intro pins s σ H Q I h;obtain⟨E6,hAt,h⟩:=h;refine wpAny_Call_Name_kw (FQ I hg hm ?_ hdb);refine PySem.W.callWith_K (h₀:=X.base) I.ok.mod.kin kp (BX (ha pos pins s σ H _ I h) λus s1 ⟨vs,H1,I1,r,q⟩=>⟨I1.kIn,?_⟩) he hpl
 have each:∀{is:List Nat} {cl:List (Str×Addr)} {E6:List V},Paired (λ(i:Nat) (q:Str×Addr)=>X.N[i]?=some q.1/\X.env.kindOf q.1=some .cell/\X.env.cells.lookup q.1=some q.2/\X.fn q.1=true) is cl->At σ is E6 ->
   Paired (λ(p:Str×Addr) (v:V)=>∃u o,Aq v u/\o.data=.cell (some u)/\s1.heap.get? p.2=some o/\X.s₀.heap.objs.size<=p.2/\H1 p.2=none/\X.env.locals≠p.2) cl E6:=by
  intro is cl E6 h1 h2
  induction h1 generalizing E6 with
  |nil=>cases h2;exact .nil
  |cons a _ ih =>
   cases h2 with
   |cons b h2 =>
    refine .cons ?_ (ih h2);obtain⟨n1,n2,n3,n4⟩:=a;obtain⟨m,hn,hl⟩:=I1.loc;obtain⟨u,ru,l⟩:=hl _ _ _ n1 b (.inr (.inl n2));rcases l with⟨hk,_⟩|⟨_,c,hc,o,ho,hd⟩
    ·rw[n2]at hk;cases hk
    ·rw[n3]at hc;cases hc;exact⟨u,o,ru,hd,ho,I1.ok.cab _ _ n4 n3,I1.freeC _ _ n3,(I1.cne _ _ n3).symm⟩
 have cells:=each hcl hAt
 have cin:∀b∈Bl cl,∃u o,o.data=.cell (some u)/\s1.heap.get? b=some o/\X.s₀.heap.objs.size<=b/\H1 b=none/\X.env.locals≠b:=λb hb=>by obtain⟨p,hp,rfl⟩:=YH.mp hb;obtain⟨v,u,o,_,h1,h2,h3,h4,h5⟩:=Paired.left cells p hp;exact⟨u,o,h1,h2,h3,h4,h5⟩
 obtain⟨H1',hH⟩:∃H1':Hp,H1'=λb=>if b∈Bl cl then (s1.heap.get? b).map (λo=>HO.frz o CP) else H1 b:=⟨_,rfl⟩
 have hin:∀b∈Bl cl,∀o,s1.heap.get? b=some o->H1' b=some (.frz o CP):=λb hb o e=>by rw[hH];show (if _ then _ else _)=_;rw[qF hb,e];rfl
 have hout:∀b,b∉Bl cl->H1' b=H1 b:=λb hb=>by rw[hH];exact qE hb
 have sm:AG H1 H1':=λb o q=>by rw[hout b (λz=>by obtain⟨_,_,_,_,_,n,_⟩:=cin b z;rw[n]at q;cases q)];exact q
 have ck:Ct cl E6 H1':=by
  have go:∀{cl':List (Str×Addr)} {fv:List V},Paired (λ(p:Str×Addr) (v:V)=>∃u o,Aq v u/\o.data=.cell (some u)/\s1.heap.get? p.2=some o/\X.s₀.heap.objs.size<=p.2/\H1 p.2=none/\X.env.locals≠p.2) cl' fv->(∀q∈cl',q.2∈Bl cl)->Ct cl' fv H1':=by
   intro cl' fv h1 h2
   induction h1 with
   |nil=>exact .nil
   |cons a _ ih =>
    obtain⟨u,o,r1,r2,r3,_⟩:=a;exact .cons ⟨u,o,r1,r2,hin _ (h2 _ X6) o r3⟩ (ih λq hq=>h2 q (X0 _ hq))
  exact go cells λq hq=>YH.mpr ⟨q,hq,rfl⟩
 have q1:=q H1' sm (λb hb=>by obtain⟨_,_,_,_,_,n,_⟩:=cin b hb;exact n) ck hout;have hl:us.length=ps.length:=by rw[<-r.length];exact F.len _ _ _ _ q1
 have bd:=hb s1 us I1.kIn (by rw[Yd];exact hl);rw[Yd]at bd
 have stk:∀b∈Cq X.stack,b∉Bl cl:=λb hb z=>by
  obtain⟨_,o,_,ho,hs,_,hL⟩:=cin b z;rcases YA.mp (I1.stkSub b hb) with y|y
  ·exact hL y.symm
  ·obtain⟨_,o',ho',_⟩:=I1.ok.funs.mem y;exact qG (Xw (Xt ho') hs) (YE _)
 have hok1:Dd X.prog X.w H1' s1.heap:=λb u e=>by
  by_cases hb:b∈Bl cl
  ·obtain⟨_,o,_,ho,_⟩:=cin b hb;rw[hin b hb o ho]at e;cases e;exact Hg ho
  ·rw[hout b hb]at e;exact (I1.hok b u e).stay (λ_ _ _ q=>q) (λc q=>sm _ _ q) λc xs q=>sm _ _ q
 have e0:J5 X.prog X.w X.K X.mg X.base X.A X.stack s1 H1':=by
  have e:=I1.env0;refine⟨e.frames,e.mod,λb o q=>⟨(e.bs b o q).1,?_⟩,e.bsz,e.funs,λb hb=>?_,hok1,e.bare⟩
  ·rw[hout b (λz=>by
    obtain⟨_,_,_,_,hs,_⟩:=cin b z;exact qG (Xw (Xt q) (YK I1.ok.bsz hs)) (YE _))]
   exact (e.bs b o q).2
  ·rw[hout b (stk b hb)];exact e.frf b hb
 refine wpAny_call (codeAny_mono (F.run X.A X.stack s1 H1' ⟨us,[]⟩ us vs _ E0 hr e0 bd r q1) λrs s2 hq=>?_);rcases rs with er|fl
 ·obtain⟨_,_,_,_,_,_,_,_,z⟩:=hq;exact z.elim
 ·cases fl with
  |next=>exact False.elim hq
  |brk=>exact False.elim hq
  |cont=>exact False.elim hq
  |ret u =>
   obtain⟨v,H2,os,bare,un,hok,rv,q2⟩:=hq
   have fz:∀b∈Bl cl,∃o,s1.heap.get? b=some o/\H2 b=some (.frz o CP)/\s2.heap.get? b=some o:=λb hb=>by obtain⟨_,o,_,ho,_⟩:=cin b hb;have z:=un.frzs b o _ (hin b hb o ho);exact⟨o,ho,z,(hok b _ z).1⟩
   have nC:∀{b:Addr} {o:HO},H1 b=some o->b∉Bl cl:=λ{b o} e z=>by obtain⟨_,_,_,_,_,n,_⟩:=cin b z;rw[n]at e;cases e
   have un':Un (Cq X.stack) [] H1 (IF cl H2) s1.heap s2.heap:=by
    refine⟨λb o e n h1 h2=>?_,λb o e n h1 h2=>?_,λb o e n h2=>?_,un.there,λb xs e=>?_,λb o u e=>?_,λb qs e=>?_⟩
    ·by_cases hb:b∈Bl cl
     ·obtain⟨o',e1,_,e2⟩:=fz b hb;rw[e]at e1;cases e1;exact e2
     ·exact un.keep b o e (by rw[hout b hb];exact n) h1 h2
    ·exact un.slot b o e (by rw[hout b (stk b h1)];exact n) h1 h2
    ·by_cases hb:b∈Bl cl
     ·exact Hh hb
     ·rw[Bp hb];exact un.free b o e (by rw[hout b hb];exact n) h2
    ·rw[Bp (nC e)];exact un.tups b xs (sm _ _ e)
    ·rw[Bp (nC e)];exact un.frzs b o u (sm _ _ e)
    ·rw[Bp (nC e)];exact un.tbls b qs (sm _ _ e)
   have hok':Dd X.prog X.w (IF cl H2) s2.heap:=hok.unC λb hb u e=>by obtain⟨o,_,z,_⟩:=fz b hb;rw[z]at e;cases e;exact⟨o,rfl⟩
   exact⟨v,IF cl H2,I1.call' (ch:=[]) os un' hok' bare (λb z=>qG z (by simp)),rv,q2⟩
theorem Da(cl:List (Str×Addr)):∀(names:List (Str×NameKind)) (n:Nat) (acc:List (Str×Addr)),cellsFrom n names (acc++cl)=cellsFrom n names acc++cl
 |[],_,_=>rfl
 | (name,kind)::r,n,acc=>by
  unfold cellsFrom;split
  ·exact Da cl r (n+1) ((name,n)::acc)
  ·exact Da cl r n acc
theorem Cd:∀{l r:List (Str×α)},(l++r).lookup x=(l.lookup x).or (r.lookup x)
 |[],r=>by simp
 | (k,v)::l,r=>by
  rw[Z6,ZM,ZM];split
  ·rfl
  ·exact Cd
theorem Hi{f g:α->PUnit->Sem (ForInStep PUnit)}:∀{l:List α},(∀x∈l,f x ⟨⟩=g x ⟨⟩)->forIn l (⟨⟩:PUnit) f=forIn l (⟨⟩:PUnit) g
 |[],_=>by rw[List.forIn_nil,List.forIn_nil]
 |x::r,h=>by
  rw[List.forIn_cons,List.forIn_cons,h x X6];refine bind_congr λy=>?_;cases y with
  |done b=>rfl
  |yield b=>exact Hi λz hz=>h z (X0 _ hz)
theorem ML{e1 e2:Env}{v:Value}(h1:e1.scope=e2.scope)(h2:e1.locals=e2.locals)(h3:e1.globals=e2.globals)(h4:e1.cells.lookup x=e2.cells.lookup x)(hk:e1.scope.kind=.function)(hx:e1.kindOf x=some .local\/e1.kindOf x=some .cell):storeName e1 x v=storeName e2 x v:=by
 have k2:e2.kindOf x=e1.kindOf x:=by unfold Env.kindOf;rw[h1]
 have c2:cellOf e1 x=cellOf e2 x:=by unfold cellOf;rw[h4]
 unfold storeName;rw[k2];have hk2:e2.scope.kind=.function:=by rw[<-h1];exact hk
 rcases hx with hx|hx<;>rw[hx]<;>simp[h1,h2,h3,c2,hk2]
theorem IM{M:Model}{A:Around}{globals:Addr}{binds:List (Str×Value)}{func:Option Addr}{code:Value}{builtins:Addr}{Q:Env->Shared->Prop}{cl:List (Str×Addr)}
  (hk:scope.kind=.function)
  (hkind:∀x∈binds,scope.names.lookup x.1=some .local\/(scope.names.lookup x.1=some .cell/\((cellsFrom (s.heap.objs.size+1) scope.names []).lookup x.1).isSome=true))
  (hout:∀x∈binds,∀c,(cellsFrom (s.heap.objs.size+1) scope.names []).lookup x.1=none->cl.lookup x.1≠some c)
  (hQ:∀s',InCallC s s.heap.objs.size (bindL (λx=>scope.names.lookup x) binds λ_=>none) (cellsFrom (s.heap.objs.size+1) scope.names []) (bindC (λx=>scope.names.lookup x) binds λ_=>none) s' ->
   Q (newEnv scope s.heap.objs.size globals (cellsFrom (s.heap.objs.size+1) scope.names []++cl) qual func code none builtins) s'):
  wpAny M A (newFunctionEnv scope globals cl binds qual func code none builtins) Q E s:=by
 simp only[newFunctionEnv,Option.isSome_none,Bool.false_eq_true,if_false];refine qC (wpAny_alloc ?_);refine qC (wpAny_layCells _ (λname kind cells=>by cases hkc:kind==NameKind.cell<;>simp[hkc]) _ _ _ _ ?_);have ok:=cellsFrom_ok scope.names (s.heap.push {cls:=.type "frame",data:=.dict #[]}) (s.heap.objs.size+1) [] ⟨λ_ _ hm=>(nomatch hm),List.Pairwise.nil⟩ (by rw[Yz];exact Xr _);rw[Yz]at ok;rw[show ({s with heap:=s.heap.push {cls:=.type "frame",data:=.dict #[]}}:Shared).heap.objs.size=s.heap.objs.size+1 from Yz ..];have ca:=Da cl scope.names (s.heap.objs.size+1) [];rw[ap]at ca;rw[ca]
 have env2:∀x∈binds,(cellsFrom (s.heap.objs.size+1) scope.names []++cl).lookup x.1=(cellsFrom (s.heap.objs.size+1) scope.names []).lookup x.1:=λx hx=>by
  rw[Cd];cases e:(cellsFrom (s.heap.objs.size+1) scope.names []).lookup x.1 with
  |some c=>rfl
  |none =>
   cases e2:cl.lookup x.1 with
   |none=>rfl
   |some c=>exact qG e2 (hout x hx c e)
 refine qC ?_
 rw[Hi (g:=λ(x:Str×Value) _=>(do storeName (newEnv scope s.heap.objs.size globals (cellsFrom (s.heap.objs.size+1) scope.names []) qual func code none builtins) x.1 x.2;pure (.yield ⟨⟩):Sem (ForInStep PUnit))) (λx hx=>by
  exact congrArg (λz:Sem Unit=>(do z;pure (ForInStep.yield PUnit.unit):Sem (ForInStep PUnit))) (ML (e1:=newEnv scope s.heap.objs.size globals (cellsFrom (s.heap.objs.size+1) scope.names []++cl) qual func code none builtins) (e2:=newEnv scope s.heap.objs.size globals (cellsFrom (s.heap.objs.size+1) scope.names []) qual func code none builtins) rfl rfl rfl (env2 x hx) hk (by
   rcases hkind x hx with z|z
   ·exact .inl z
   ·exact .inr z.1)))]
 exact wpAny_bindParams (s₀:=s) (env:=newEnv scope s.heap.objs.size globals (cellsFrom (s.heap.objs.size+1) scope.names []) qual func code none builtins)
  _ (λ_ _ _=>rfl) hk binds (λ_=>none) (λ_=>none) _ _
  ⟨⟨⟨_,_,rfl⟩,(Heap.Ns.new s.heap (.type "frame")).keeps (pushCells_keeps _ _),λb o e=>pushCells_keeps _ _ b o (Xn _ e),Xr _⟩,
   λn c hc=>(ok.empty n c (mem_of_lookup hc)).1,ok.apart,λn c hm=>(ok.empty n c hm).2⟩
  hkind λs' x=>qD (hQ s' x)
structure Kz(ps fns:List Str)(sc:Scope):Prop where
 kind:sc.kind=.function
 co:sc.isCoroutine=false
 gen:sc.isGenerator=false
 nd:(ps++fns).Nodup
 par:∀x∈ps,sc.names.lookup x=some .local\/sc.names.lookup x=some .cell
 fre:∀x∈fns,sc.names.lookup x=some .free
 all:∀y∈sc.names,y.2=.free->y.1∈fns
 own:∀y∈sc.names,y.2=.cell->y.1∉fns
noncomputable def Wh(P:Program)(w:World)(K:qJ)(mg:Str->Option Value)(base:Heap)(N:List Str)(qual:Str)(scope:Scope)(f:Addr)(cd:Value)(cl:List (Str×Addr))(A:Around)(outer:List Env)(s:Shared)(H:Hp):Cx where
 prog:=P
 w:=w
 K:=K
 mg:=mg
 base:=base
 A:=A.deeper (PySem.W.envX qual scope s.heap.objs.size f cd (cellsFrom (s.heap.objs.size+1) scope.names []++cl))
 N:=N
 s₀:=s
 H₀:=IF cl H
 env:=PySem.W.envX qual scope s.heap.objs.size f cd (cellsFrom (s.heap.objs.size+1) scope.names []++cl)
 outer:=outer
 stack:=PySem.W.envX qual scope s.heap.objs.size f cd (cellsFrom (s.heap.objs.size+1) scope.names []++cl)::outer
 ex:=[]
 calm:=true
 fn:=λx=>((cellsFrom (s.heap.objs.size+1) scope.names []).lookup x).isSome
 pn:=[]
 xe:=λ_ _=>False
theorem F8{c:Addr}:∀{names:List (Str×NameKind)} {n:Nat} {acc:List (Str×Addr)},(cellsFrom n names acc).lookup x=some c->(∃k,(x,k)∈names/\k=.cell)\/acc.lookup x=some c
 |[],_,_,h=>.inr h
 | (name,kind)::r,n,acc,h=>by
  unfold cellsFrom at h
  split at h
  ·rename_i hk
   rcases F8 h with⟨k,h1,h2⟩|h
   ·exact .inl ⟨k,X0 _ h1,h2⟩
   ·rw[ZM]at h
    split at h
    ·rename_i hx
     exact .inl ⟨kind,by rw[beq_iff_eq.mp hx];exact X6,beq_iff_eq.mp hk⟩
    ·exact .inr h
  ·rcases F8 h with⟨k,h1,h2⟩|h
   ·exact .inl ⟨k,X0 _ h1,h2⟩
   ·exact .inr h
theorem Cu{c:α}:∀{l:List (Str×α)},(l.map (·.1)).Nodup->(x,c)∈l->l.lookup x=some c
 |[],_,h=>by cases h
 | (k,v)::r,nd,h=>by
  rw[ZM];rcases YA.mp h with e|h
  ·cases e;simp
  ·have:x≠k:=λz=>(Yl.mp nd).1 (by rw[<-z];exact YH.mpr ⟨(x,c),h,rfl⟩)
   rw[beq_eq_false_iff_ne.mpr this];exact Cu (Yl.mp nd).2 h
theorem TR{P:Program}{w:World}{K:qJ}{mg:Str->Option Value}{base:Heap}{k:Nat}{c':Addr}{body:Expr}{pm ctv:Value}{fns:List Str}{cl:List (Str×Addr)}
  (S:Kz ps fns scope) (hcl:cl.map (·.1)=fns) (hnd:(Bl cl).Nodup) (len:∀vs H Q E,sp vs H Q E->vs.length=ps.length)
  (hbody:∀(A:Around) (outer:List Env) (s:Shared) (H:Hp) (vs:List V) (Q:VK) (E:XK),Bs k (A.deeper (PySem.W.envX q scope s.heap.objs.size f (.ref c') (cellsFrom (s.heap.objs.size+1) scope.names []++cl)))->sp vs H Q E ->
   ∃E6 oc,H f=some (.frz (RD q params body scope cl pm c' ctv) CP)/\H c'=some (.frz oc CP)/\Pj oc q/\Ct cl E6 H /\
   ∃t,PE (Wh P w K mg base (ps++fns) q scope f (.ref c') cl A outer s H) body t/\t ((vs++E6).map some) (IF cl H) (λv H'=>(∀b∈Bl cl,H' b=none)->Q v (VS cl H H'))):
  Ex P w K mg base (IY P w) (k+1) f (PySem.W.kla_fn "<lambda>" q params body scope cl pm (.ref c') ctv) ps sp:=by
 refine⟨len,λA outer s H args us vs Q E hr e0 hb r hsp=>?_⟩;have hl:=len _ _ _ _ hsp;have KX:K.In s.heap:=e0.mod.kin.keeps λb o e=>(e0.bs b o e).1
 have lim:s.heap.NoLimit:=e0.mod.nolimit.keeps λb o e=>(e0.bs b o e).1
 obtain⟨E6,oc,hf,hc',⟨cvs,ctk,hcd,hcv⟩,hck,t,ht,hq⟩:=hbody A outer s H vs Q E (hr.deeper _) hsp
 have hkind:∀y∈ps.zip us,scope.names.lookup y.1=some .local\/(scope.names.lookup y.1=some .cell/\((cellsFrom (s.heap.objs.size+1) scope.names []).lookup y.1).isSome=true):=λ⟨n,v⟩ hy=>by
  rcases S.par n (aB hy).1 with q|q
  ·exact .inl q
  ·exact .inr ⟨q,aL _ _ _ (.inl q)⟩
 have clin:∀{x:Str} {c:Addr},cl.lookup x=some c->x∈fns/\c∈Bl cl:=λ{x c} e=>by have m:=Yb e;exact⟨by rw[<-hcl];exact YH.mpr ⟨_,m,rfl⟩,YH.mpr ⟨_,m,rfl⟩⟩
 have ndf:fns.Nodup:=(ZJ.mp S.nd).2.1;have ndp:ps.Nodup:=(ZJ.mp S.nd).1;have apart:∀x∈ps,x∉fns:=λx h1 h2=>(ZJ.mp S.nd).2.2 x h1 x h2 rfl
 have old:∀b∈Bl cl,∃u o,o.data=.cell (some u)/\H b=some (.frz o CP)/\s.heap.get? b=some o:=λb hb=>by obtain⟨u,o,h1,h2⟩:=hck.at hb;exact⟨u,o,h1,h2,(e0.hok b _ h2).1⟩
 refine PySem.W.kla_callFunE hr.depth (e0.hok f _ hf).1 rfl S.co S.gen rfl ⟨c',oc,cvs,ctk,rfl,(e0.hok c' _ hc').1,hcd,hcv⟩ (hb _ _ _ _ ?_);refine IM S.kind hkind (λy hy c _ z=>apart y.1 (aB (a:=y.1) (b:=y.2) hy).1 (clin z).1) λs1 x=>?_;refine⟨lim.keeps x.toInCall.keep,PySem.W.kla_codeExpr ?_⟩;obtain⟨h1,tk,rfl,hk⟩:=x.done;obtain⟨own,hown⟩:∃own,own=cellsFrom (s.heap.objs.size+1) scope.names []:=⟨_,rfl⟩
 have ownk:∀{y:Str} {c:Addr},own.lookup y=some c->∃k,(y,k)∈scope.names/\k=.cell:=λ{y c} h=>by
  rw[hown]at h;rcases F8 h with z|z
  ·exact z
  ·cases z
 have noA:∀b:Addr,b∉(Wh P w K mg base (ps++fns) q scope f (.ref c') cl A outer s H).ex:=λb z=>qG (show b∈([]:List Addr) from z) (by simp)
 have lk:∀{y:Str} {c:Addr},(own++cl).lookup y=some c->(own.lookup y=some c)\/(own.lookup y=none/\cl.lookup y=some c):=λ{y c} h=>by
  rw[Cd]at h;cases e:own.lookup y with
  |some d=>rw[e]at h;left;exact h
  |none=>rw[e]at h;right;exact⟨rfl,h⟩
 have above:∀{y:Str} {c:Addr},own.lookup y=some c->s.heap.objs.size<c:=λ{y c} h=>x.above y c (by rw[hown]at h;exact Yb h)
 have ltc:∀b∈Bl cl,b<s.heap.objs.size:=λb hb=>by obtain⟨_,_,_,_,e⟩:=old b hb;exact Xt e
 have I:AY (Wh P w K mg base (ps++fns) q scope f (.ref c') cl A outer s H) [] ((vs++E6).map some) (IF cl H) {s with heap:=h1,toks:=tk}:=by
  refine⟨⟨e0.mod,S.kind,rfl,rfl,Xr _,λy z c h1 h2=>?_,λy hy=>?_,λy c h h2=>?_,λ_=>hr.hd,Around.frames_deeper e0.frames,.inr ⟨rfl,rfl⟩,λb z=>qG z (noA b),λb o e=>⟨(e0.bs b o e).1,DF (e0.bs b o e).2⟩,e0.bsz,λb _ _=>noA b,λb z=>qG z (noA b),e0.funs,λb hb=>DF (e0.frf b hb)⟩,
   rfl,e0.bare,Un.kept hk,⟨_,x.toInCall.ns,λi y v h1 h2 h3=>?_⟩,λy c h=>?_,DF (e0.hok.fresh (Nat.le_refl _)),λy c h=>?_,λp hp=>qG (show p∈([]:List (Addr×Obj)) from hp) (by simp),?_,?_⟩
  ·have h1:(own++cl).lookup y=some c:=by rw[hown];exact h1
   have h2:(own++cl).lookup z=some c:=by rw[hown];exact h2
   rcases lk h1 with a|⟨_,a⟩<;>rcases lk h2 with b|⟨_,b⟩
   ·rw[hown]at a b;exact name_of_addr x.apart (Yb a) (Yb b)
   ·exact qG (Nat.lt_trans (above a) (ltc c (clin b).2)) (YE _)
   ·exact qG (Nat.lt_trans (above b) (ltc c (clin a).2)) (YE _)
   ·refine name_of_addr ?_ (Yb a) (Yb b);have z:=hnd;unfold Bl List.Nodup at z;rw[List.pairwise_map]at z;exact z
  ·have hy:scope.names.lookup y=some .cell\/scope.names.lookup y=some .free:=hy;show ∃c,(cellsFrom (s.heap.objs.size+1) scope.names []++cl).lookup y=some c;rw[Cd];rcases hy with hy|hy
   ·obtain⟨c,e⟩:=FT (n:=s.heap.objs.size+1) hy;rw[e];exact⟨c,rfl⟩
   ·cases e:(cellsFrom (s.heap.objs.size+1) scope.names []).lookup y with
    |some c=>exact⟨c,rfl⟩
    |none =>
     have m:=S.all _ (Yb hy) rfl;rw[<-hcl]at m;obtain⟨p,hp,rfl⟩:=YH.mp m;exact⟨p.2,by rw[Option.none_or];exact Cu (by rw[hcl];exact ndf) hp⟩
  ·have h:((cellsFrom (s.heap.objs.size+1) scope.names []).lookup y).isSome=true:=h;have h2:(own++cl).lookup y=some c:=by rw[hown];exact h2
   rcases lk h2 with a|⟨a,_⟩
   ·exact ZF (above a)
   ·rw[hown]at a;rw[a]at h;cases h
  ·have h1:(ps++fns)[i]?=some y:=h1;rw[Xu]at h2;cases e:(vs++E6)[i]? with
   |none=>rw[e]at h2;cases h2
   |some v' =>
    rw[e]at h2;cases h2
    by_cases hi:i<vs.length
    ·rw[YL hi]at e;rw[YL (by lia)]at h1;obtain⟨u,hu,rv⟩:=r.get e;refine⟨u,rv,?_⟩;rcases S.par y (X3 h1) with k|k
     ·exact .inl ⟨k,Fq ndp h1 hu k⟩
     ·obtain⟨c,e⟩:=FT (n:=s.heap.objs.size+1) k;refine .inr ⟨.inl k,c,?_,?_⟩
      ·show (cellsFrom (s.heap.objs.size+1) scope.names []++cl).lookup y=some c;rw[Cd,e];rfl
      ·have q:=x.cell y c e;rw[Fs ndp h1 hu (by show scope.names.lookup y≠_;rw[k];decide)]at q;exact q
    ·rw[X4 (by lia)]at e;rw[X4 (by lia)]at h1;obtain⟨p,hp,u,o,rv,hd,hH⟩:=Paired.at hck e;have hp1:p.1=y:=by rw[<-hcl,Xu,<-hl,hp]at h1;exact Option.some.inj h1
     have hy:=S.fre y (X3 h1);refine⟨u,rv,.inr ⟨.inr hy,p.2,?_,o,hk _ _ (e0.hok _ _ hH).1,hd⟩⟩;show (cellsFrom (s.heap.objs.size+1) scope.names []++cl).lookup y=some p.2;rw[Cd];cases ee:(cellsFrom (s.heap.objs.size+1) scope.names []).lookup y with
     |none=>rw[Option.none_or];exact Cu (by rw[hcl];exact ndf) (by rw[<-hp1];exact X3 hp)
     |some c =>
      obtain⟨kk,m1,m2⟩:=ownk (y:=y) (c:=c) (by rw[hown];exact ee);exact qG (X3 h1) (S.own _ m1 m2)
  ·have h:(own++cl).lookup y=some c:=by rw[hown];exact h
   rcases lk h with a|⟨_,a⟩
   ·rw[hown]at a;exact⟨_,x.cell y c a⟩
   ·obtain⟨u,o,hd,_,ho⟩:=old c (clin a).2;exact⟨some u,o,hk _ _ ho,hd⟩
  ·have h:(own++cl).lookup y=some c:=by rw[hown];exact h
   rcases lk h with a|⟨_,a⟩
   ·exact DF (e0.hok.fresh (ZF (above a)))
   ·exact Hh (clin a).2
  ·refine Dd.unC (e0.hok.kept hk) λb hb u e=>?_;obtain⟨_,o,_,h2,_⟩:=old b hb;rw[h2]at e;cases e;exact⟨o,rfl⟩
  ·show ((vs++E6).map some).length=(ps++fns).length;rw[Xk,Xp,Xp,hl,<-hcl,Xk,Paired.lens hck]
 refine wpAny_mono (ht [] _ _ _ _ I hq) (λu s' hs=>?_) λe s' hs=>hs.elim
 obtain⟨v,H',J,rv,qq⟩:=hs
 have frn:∀b∈Cq outer,b∉Bl cl:=λb hb z=>by obtain⟨_,_,_,h2,_⟩:=old b z;rw[e0.frf b hb]at h2;cases h2
 have nC:∀{b:Addr} {u:HO},H b=some u->(∀o,u≠.frz o CP)->b∉Bl cl:=λh n=>hck.out h n
 have cz:∀b∈Bl cl,H' b=none:=λb hb=>by obtain⟨_,o,_,_,ho⟩:=old b hb;exact J.base.free b o ho (Hh hb) (noA b)
 refine⟨v,VS cl H H',J.os,J.bare,⟨λb o e n h1 h2=>J.base.keep b o e (DF n) h1 h2,λb o e n h1 h2=>J.base.slot b o e (DF n) h1 h2,λb o e n h2=>?_,J.base.there,λb xs e=>?_,λb o u e=>?_,λb qs e=>?_⟩,λb u e=>?_,rv,qq cz⟩
 ·have hb:b∉Bl cl:=λz=>by
   obtain⟨_,_,_,h2,_⟩:=old b z;rw[n]at h2;cases h2
  rw[C4 hb];exact J.base.free b o e (DF n) h2
 ·have hb:=nC e (by intro o z;cases z);rw[C4 hb];exact J.base.tups b xs (by show IF cl H b=_;rw[Bp hb];exact e)
 ·by_cases hb:b∈Bl cl
  ·rw[MK hb];exact e
  ·rw[C4 hb];exact J.base.frzs b o u (by show IF cl H b=_;rw[Bp hb];exact e)
 ·have hb:=nC e (by intro o z;cases z);rw[C4 hb];exact J.base.tbls b qs (by show IF cl H b=_;rw[Bp hb];exact e)
 ·by_cases hb:b∈Bl cl
  ·rw[MK hb]at e;obtain⟨_,o,_,h2,ho⟩:=old b hb;rw[h2]at e;cases e;refine Hg (J.base.keep b o ho (Hh hb) (λz=>frn b z hb) (noA b))
  ·rw[C4 hb]at e;refine (J.hok b u e).stay (λ_ _ _ q=>q) (λc q=>?_) λc xs q=>?_
   ·rw[C4 (λz=>by rw[cz c z]at q;cases q)];exact q
   ·rw[C4 (λz=>by rw[cz c z]at q;cases q)];exact q
structure TU(K:qJ)(x qual:Str)(st:Stmt)(f c Pt:Addr)(fd:FuncData):Prop where
 ex:∃(oc:Value) (od:Option Addr) (kV doc pm:Value) (an:Option Addr) (ct:Value) (osl:Array (Option Value)),
  fd=PySem.W.fnOf x qual (DQ st) (Bd st) (AH st) .none kV doc pm an (.ref c) ct/\K.lookup f=some ⟨oc,od,.func fd,osl⟩/\PySem.W.codeIn K (.ref c) qual=true
 kp:PySem.W.keepIn K (.ref f)=true
 hd:PySem.W.codeHdIn K c Pt=true
section
variable{P:Program}{w:World}{K:qJ}{mg:Str->Option Value}{base:Heap}{st:Stmt}{c Pt:Addr}{N:List Str}{k:Nat}
theorem VT(D:∃fd,TU K x qual st f c Pt fd)(S:AL N ps (AH st))(bd:Dh x qual st ps) (h:∀vs H Q E,sp vs H Q E->vs.length=ps.length /\
  ∀(A:Around) (outer:List Env) (s:Shared),Bs k (A.deeper (envOfC qual (AH st) s.heap.objs.size f (.ref c))) ->
   ∃t,Gd (DX (IY P w) P w K mg base N qual (AH st) f (.ref c) A outer s H E) (Bd st) t/\t {nx:=λ_ H'=>Q .non H',rt:=Q} (Ci N vs) H):A5 P w K mg base (k+1) f ps sp:=by
 obtain⟨fd,⟨oc,od,kV,doc,pm,an,ct,osl,rfl,lk,hcd⟩,kp,hd⟩:=D;exact⟨⟨_,Rf lk hcd S (λvs H Q E q=>(h vs H Q E q).1) λA outer s H vs Q E hr q=>(h vs H Q E q).2 A outer s hr,.all (bd kV doc pm an (.ref c) ct)⟩,kp⟩
def Mz(K:qJ)(x:Str)(st:Stmt)(f c Pt:Addr):Prop:=(∃fd,TU K x x st f c Pt fd)/\PySem.W.nsIn K mainGlobals x=some (some (.ref f))
theorem RE{kV pm ct:Value}(a:PySem.W.nsIn K mainGlobals x=some (some (.ref f)))
  (l:K.lookup f=some ⟨oc,od,.func (PySem.W.fnOf x x (DQ st) (Bd st) (AH st) .none kV doc pm an (.ref c) ct),osl⟩) (e:PySem.W.codeIn K (.ref c) x=true) (k:PySem.W.keepIn K (.ref f)=true) (h:PySem.W.codeHdIn K c Pt=true):Mz K x st f c Pt:=
 ⟨⟨_,⟨⟨oc,od,kV,doc,pm,an,ct,osl,rfl,l,e⟩,k,h⟩⟩,a⟩
end
section
variable{P:Addr}
theorem BQ.at(t:BQ pos q P H):∃ps,H P=some (.tbl ps):=by obtain⟨ps,h,_⟩:=t;exact⟨ps,h⟩
theorem Bf.get(e:Bf P H H')(t:BQ pos q P H)(h:H b=some o)(n:∀ps,o≠.tbl ps):H' b=some o:=by obtain⟨ps,hp⟩:=t.at;exact e b o (λz=>by rw[z,hp]at h;cases h;exact n _ rfl) h
theorem Bf.free(e:Bf P H H')(t:BQ pos q P H')(h:H' b=none):H b=none:=by
 cases z:H b with
 |none=>rfl
 |some o =>
  have n:b≠P:=λy=>by obtain⟨ps,hp⟩:=t.at;rw[y,hp]at h;cases h
  rw[e b o n z]at h;cases h
end
theorem N6{K:qJ}{body:Expr}{cl:List (Str×Addr)}{pm ct:Value}
  (h:∀us:List Value,us.length=ps.length->bindArgs (PySem.W.kla_fn name q params body scope cl pm cdv ct) ⟨us,[]⟩=pure (ps.zip us)):EL K (PySem.W.kla_fn name q params body scope cl pm cdv ct) ps []:=.all h
theorem M4{K:qJ}:∀{ts:List Addr},(∀P∈ts,∃c,PySem.W.codeHdIn K c P=true)->(∀P∈ts,K.lookup P=none)->∃cts:List (Addr×Addr),cts.map (·.2)=ts/\Pi K cts
 |[],_,_=>⟨[],rfl,λq hq=>qG hq X7⟩
 |P::ts,h1,h2=>by
  obtain⟨c,hc⟩:=h1 P X6;obtain⟨cts,e,h⟩:=M4 (λP hP=>h1 P (X0 _ hP)) λP hP=>h2 P (X0 _ hP)
  refine⟨(c,P)::cts,by rw[Yj,e],λq hq=>?_⟩;rcases YA.mp hq with z|z
  ·rw[z];exact⟨hc,h2 P X6⟩
  ·exact h q z
inductive Jo(K:qJ)(ts:List Addr)(vs:List V)(H:Hp)(Q:VK)(z3_:XK):Prop
 |m (a:Addr) (ns:List Int):vs=[.ref a]->Ad K H a (ns.map V.int)->ns.length<=63->(∀P∈ts,H P=some (.tbl #[]))->(∀H',Q (.bl true) H')->Jo K ts vs H Q z3_
theorem N7{l:PySem.W.OpenLaw}{n k:Nat}{q:Program}{loose:List Str}{XP:(Str->Option Value)->Heap->Prop}{YP:World->Heap->Prop}{d:DefRec}{K:Params->qJ}{ts:List Addr}
  (hn:l.most=some 63) (hdf:d.params.defaults=[]) (hr:Bs k callerA)
  (hY:∀(w:World) (h:Heap),YP w h->(K w.params).In h/\∀P∈ts,h.get? P=some (PySem.W.tabObj #[])) (hT:∀w:World,∀P∈ts,(K w.params).lookup P=none)
  (F:∀(w:World) (mg:Str->Option Value) (fa:Addr) (h:Heap),(K w.params).In h->h.Ns mainGlobals mg->mg d.name=some (.ref fa) ->
   (∀P∈ts,∃c,PySem.W.codeHdIn (K w.params) c P=true)/\∃fd:FuncData,(∀(s:Shared) (u:Value),BindsTo s fd ⟨[u],[]⟩ [(x,u)]) /\
    ∀base:Heap,(K w.params).In base->base.Ns mainGlobals mg->Hf mg base->Ex l.prog w (K w.params) mg base (IY l.prog w) k fa fd [x] (Jo (K w.params) ts)):
  PySem.W.WalkO q loose XP YP l.row.toRowW d [] (λf vs=>PySem.call f vs):=by
 refine Att.attach_call hn hdf λw s₀ s₁ mg mb fa o pm cd doc a vs ns G Y ho hd hcd hmg hobj hints hlen hg=>?_;obtain⟨KX,TX⟩:=hY w _ Y;obtain⟨hc,fd,hb,hF⟩:=F w mg fa _ KX G.T.g hmg;obtain⟨cts,rfl,hT'⟩:=M4 hc (hT w);exact N5 KX G.T.g G.T.b G.T.builtins G.T.nolimit G.T.bmain hg hT' (λq hq=>TX _ (YH.mpr ⟨q,hq,rfl⟩)) hobj hints (YK hlen (by decide)) hr hF hb (λH hO hS=>⟨a,ns,rfl,hS,hlen,hO.2,λ_=>rfl⟩) λH e s' ⟨_,_,_,_,_,_,_,_,z⟩=>z
end L2
namespace L2
open PySem PySem.Spec PyProof.Rows RW
variable{G i j mf:Nat}{H H':Hp}{a d f p r:Addr}{g lf:Int}{kvs:List (CN×V)}{params:Arguments}{pos:Pos}{q:Str}{scope:Scope}{tab tf:List Int}{xs:List V}{α β:Type}
def Au(A:List Int)(vs:List V):List (CN×V):=List.zipWith (λa v=>(Sum.inl a,v)) A vs
theorem C7{A:List Int}{vs:List V}(h:vs.length=A.length):(Au A vs).length=A.length:=by unfold Au;rw[List.length_zipWith,h,Nat.min_self]
theorem Po{a b:Int}(h:a≠b):¬(Sum.inl a:CN)=Sum.inl b:=λe=>h (Sum.inl.inj e)
theorem Ce:∀{A:List Int} {vs:List V} {a:Int},a∉A->Cb (Au A vs) (Sum.inl a)=none
 |[],_,_,_=>rfl
 |_::_,[],_,_=>rfl
 |b::A,v::vs,a,h=>by show Cb ((Sum.inl b,v)::Au A vs) (Sum.inl a)=none;rw[EW (show ¬(Sum.inl b,v).1=Sum.inl a from Po λe=>h (by rw[e];exact X6))];exact Ce λe=>h (X0 _ e)
theorem Bw:∀{A:List Int} {vs:List V} {i:Nat} {a:Int} {v:V},A.Nodup->A[i]?=some a->vs[i]?=some v->Cb (Au A vs) (Sum.inl a)=some v
 |[],_,_,_,_,_,h,_=>by simp at h
 |_::_,[],_,_,_,_,_,h=>by simp at h
 |b::A,v::vs,0,a,w,nd,h1,h2=>by simp at h1 h2;subst h1 h2;exact Fc rfl
 |b::A,v::vs,i+1,a,w,nd,h1,h2=>by simp at h1 h2;have nd':=Yl.mp nd;show Cb ((Sum.inl b,v)::Au A vs) (Sum.inl a)=some w;rw[EW (show ¬(Sum.inl b,v).1=Sum.inl a from Po λe=>nd'.1 (by rw[e];exact X3 h1))];exact Bw nd'.2 h1 h2
theorem Ff{A:List Int}{vs:List V}{a:Int}{v:V}(hl:vs.length=A.length)(h:a∉A):Dn (Au A vs) (Sum.inl a) v=Au (A++[a]) (vs++[v]):=by rw[PJ _ (Ce h)];unfold Au;rw[List.zipWith_append hl.symm];rfl
theorem RF{A:List Int}{vs:List V}{k:CN}{v:V}(h:(Au A vs)[i]?=some (k,v)):∃a,A[i]?=some a/\vs[i]?=some v/\k=Sum.inl a:=by
 unfold Au at h;rw[List.getElem?_zipWith]at h;cases ha:A[i]? with
 |none=>rw[ha]at h;simp at h
 |some a =>
  cases hl:vs[i]? with
  |none=>rw[ha,hl]at h;simp at h
  |some l =>
   rw[ha,hl]at h;simp at h;exact⟨a,rfl,by rw[h.2],h.1.symm⟩
theorem Eb{A:List α}{a:α}(h:a∈A):∃i:Nat,A[i]?=some a:=List.mem_iff_getElem?.mp h
theorem Hj{A:List α}{ls:List β}(n:ls.length=A.length){a:α}(h:A[i]?=some a):∃l,ls[i]?=some l:=
 ⟨ls[i]'(by rw[n];exact (Xo.mp h).1),Xs _⟩
theorem Ec{A:List Int}{vs:List V}{a:Int}(n:vs.length=A.length)(nd:A.Nodup):(Cb (Au A vs) (Sum.inl a)).isSome=decide (a∈A):=by
 by_cases h:a∈A
 ·obtain⟨i,hi⟩:=Eb h;obtain⟨v,hv⟩:=Hj n hi;rw[Bw nd hi hv,qH h];rfl
 ·rw[Ce h,qI h];rfl
structure Ed(H:Hp)(ls:List Addr)(A:List Int)(F:Int->List Int):Prop where
 n:ls.length=A.length
 nd:ls.Nodup
 e:∀(i:Nat) (a:Int) (l:Addr),A[i]?=some a->ls[i]?=some l->H l=some (.lst ((F a).map V.int))
section
variable{ls:List Addr}{A:List Int}{F:Int->List Int}
theorem Ed.nil:Ed H [] [] F:=⟨rfl,List.nodup_nil,λi a l z=>by simp at z⟩
theorem Ed.same(e:AG H H')(g:Ed H ls A F):Ed H' ls A F:=⟨g.n,g.nd,λi a l h1 h2=>e _ _ (g.e i a l h1 h2)⟩
theorem Ed.snoc(g:Ed H ls A F){l:Addr}{a:Int}(hl:l∉ls)(h:H l=some (.lst ((F a).map V.int))):Ed H (ls++[l]) (A++[a]) F:=by
 refine⟨by rw[Xp,Xp,g.n];rfl,ZJ.mpr ⟨g.nd,Yl.mpr ⟨X7,ZT⟩,λx hx y hy e=>hl (by rw[<-Xl.mp hy,<-e];exact hx)⟩,λi b k h1 h2=>?_⟩
 by_cases z:i<A.length
 ·rw[YL z]at h1;rw[YL (by rw[g.n];exact z)]at h2;exact g.e i b k h1 h2
 ·rw[X4 (by lia)]at h1;rw[X4 (by rw[g.n];lia),g.n]at h2;have z0:i-A.length=0:=by have:=(Xo.mp h1).1;simp at this;lia
  rw[z0]at h1 h2;cases h1;cases h2;exact h
theorem Ed.out(g:Ed H ls A F){l:Addr}(h:∀xs,H l≠some (.lst xs)):l∉ls:=λz=>by obtain⟨i,hi⟩:=Eb z;obtain⟨a,ha⟩:=Hj g.n.symm hi;exact h _ (g.e i a l ha hi)
theorem Ed.new(g:Ed H ls A F){l:Addr}(h:H l=none):l∉ls:=g.out λxs z=>by rw[h]at z;cases z
theorem Ed.keep(g:Ed H ls A F){l:Addr}(nl:l∉ls)(v:HO):Ed (Aj H l v) ls A F:=
 ⟨g.n,g.nd,λi a k h1 h2=>by rw[AK λe=>nl (by rw[<-e];exact X3 h2)];exact g.e i a k h1 h2⟩
theorem Ed.push(g:Ed H ls A F)(nd:A.Nodup){p0 x:Int}{l:Addr}(hj:A[j]?=some p0)(hl:ls[j]?=some l):Ed (Aj H l (.lst ((F p0++[x]).map V.int))) ls A (λp=>if p0=p then F p++[x] else F p):=
 ⟨g.n,g.nd,λi a k h1 h2=>by
  by_cases e:p0=a
  ·subst e;have ij:i=j:=by have a1:=Xo.mp h1;have a2:=Xo.mp hj;exact (aa (h₀:=a1.1) (h₁:=a2.1) nd).mp (by rw[a1.2,a2.2])
   subst ij;rw[hl]at h2;cases h2;rw[AC,qF rfl]
  ·have kl:k≠l:=λz=>by
    subst z;have b1:=Xo.mp h2;have b2:=Xo.mp hl;have ij:i=j:=(aa (h₀:=b1.1) (h₁:=b2.1) g.nd).mp (by rw[b1.2,b2.2]);subst ij;rw[hj]at h1;exact e (Option.some.inj h1)
   rw[AK kl,qE e];exact g.e i a k h1 h2⟩
end
inductive Jp(S:List Int)(F:Int->List Int):Int->Prop
 |base {s:Int}:s∈S->Jp S F s
 |step {a b:Int}:Jp S F a->b∈F a->Jp S F b
structure Db(S:List Int)(F:Int->List Int)(A:List Int):Prop where
 nd:A.Nodup
 st:∀s∈S,s∈A
 cl:∀a∈A,∀b∈F a,b∈A
 co:∀a∈A,Jp S F a
structure F9(S:List Int)(F:Int->List Int)(A W:List Int):Prop where
 nd:A.Nodup
 st:∀s∈S,s∈A\/s∈W
 cl:∀a∈A,∀b∈F a,b∈A\/b∈W
 co:∀a,a∈A\/a∈W->Jp S F a
section
variable{S:List Int}{F:Int->List Int}{A W:List Int}
theorem F9.start:F9 S F [] S:=⟨ZT,λ_ h=>.inr h,λ_ h=>qG h X7,λ_ h=>.base (h.resolve_left X7)⟩
theorem F9.done(r:F9 S F A []):Db S F A:=⟨r.nd,λs h=>(r.st s h).resolve_right X7,λa h b hb=>(r.cl a h b hb).resolve_right X7,λa h=>r.co a (.inl h)⟩
theorem F9.old{x:Int}(r:F9 S F A (W++[x]))(h:x∈A):F9 S F A W:=by
 have k:∀{b:Int},b∈A\/b∈W++[x]->b∈A\/b∈W:=λ{b} z=>z.elim .inl λz=>(Xq.mp z).elim .inr λz=>.inl (by rw[Xl.mp z];exact h)
 exact⟨r.nd,λs z=>k (r.st s z),λa z b hb=>k (r.cl a z b hb),λa z=>r.co a (z.imp id λz=>Xq.mpr (.inl z))⟩
theorem F9.next{x:Int}(r:F9 S F A (W++[x]))(h:x∉A):F9 S F (A++[x]) (W++F x):=by
 have k:∀{b:Int},b∈A\/b∈W++[x]->b∈A++[x]\/b∈W++F x:=λ{b} z=>z.elim (λz=>.inl (Xq.mpr (.inl z))) λz=>(Xq.mp z).elim (λz=>.inr (Xq.mpr (.inl z))) λz=>.inl (Xq.mpr (.inr z))
 have cx:=r.co x (.inr (Xq.mpr (.inr (Xl.mpr rfl))));refine⟨ZJ.mpr ⟨r.nd,Yl.mpr ⟨X7,ZT⟩,λa ha b hb e=>h (by rw[<-Xl.mp hb,<-e];exact ha)⟩,λs z=>k (r.st s z),λa ha b hb=>?_,λa ha=>?_⟩
 ·rcases Xq.mp ha with z|z
  ·exact k (r.cl a z b hb)
  ·rw[Xl.mp z]at hb;exact .inr (Xq.mpr (.inr hb))
 ·rcases ha with z|z
  ·rcases Xq.mp z with z|z
   ·exact r.co a (.inl z)
   ·rw[Xl.mp z];exact cx
  ·rcases Xq.mp z with z|z
   ·exact r.co a (.inr (Xq.mpr (.inl z)))
   ·exact .step cx z
theorem C8{N:Nat}{A:List Int}(nd:A.Nodup)(h:∀a∈A,0<=a/\a<(N:Int)):A.length<=N:=by
 have e:=nd.length_le_of_subset (l₂:=(List.range N).map λn:Nat=>(n:Int)) λa ha=>by obtain⟨a0,a1⟩:=h a ha;exact YH.mpr ⟨a.toNat,YD.mpr (by lia),by lia⟩
 rwa [Xk,Xx]at e
theorem Jp.low{N:Nat}(hS:∀s∈S,0<=s/\s<(N:Int))(hF:∀x,0<=x->x<(N:Int)->∀y∈F x,0<=y/\y<(N:Int)){a:Int}(c:Jp S F a):0<=a/\a<(N:Int):=by
 induction c with
 |base h=>exact hS _ h
 |step _ h ih=>exact hF _ ih.1 ih.2 _ h
end
structure Jq(A:List Int)(F:Int->List Int)(A2:List Int)(B:Int->List Int):Prop where
 nd:A2.Nodup
 all:∀p,p∈A2↔p∈A
 on:∀p q,q∈B p↔q∈A/\p∈F q
 len:∀p,(B p).length<=6000
structure Hk(A:List Int)(F:Int->List Int)(i:Nat)(D:Int->Int->Prop)(n:Nat)(A2:List Int)(B:Int->List Int):Prop where
 nd:A2.Nodup
 sub:∀p∈A2,p∈A
 got:∀p∈A.take i,p∈A2
 no:∀p,p∉A2->B p=[]
 on:∀p q,q∈B p↔(q∈A.take i/\p∈F q)\/D p q
 len:∀p,(B p).length<=n
section
variable{A:List Int}{F:Int->List Int}{n:Nat}{D:Int->Int->Prop}{A2:List Int}{B:Int->List Int}
theorem Hk.start:Hk A F 0 (λ_ _=>False) 0 [] λ_=>[]:=⟨List.nodup_nil,λp hp=>qG hp List.not_mem_nil,λp hp=>qG hp (by simp),λ_ _=>rfl,λp q=>by simp,λ_=>Nat.zero_le _⟩
theorem Hk.key(t:Hk A F i D n A2 B){k:Int}(hk:k∉A2)(hA:k∈A):Hk A F i D n (A2++[k]) B where
 nd:=ZJ.mpr ⟨t.nd,Yl.mpr ⟨X7,ZT⟩,λx hx y hy e=>hk (by rw[<-Xl.mp hy,<-e];exact hx)⟩
 sub:=λp hp=>(Xq.mp hp).elim (t.sub p) λz=>by rw[Xl.mp z];exact hA
 got:=λp hp=>Xq.mpr (.inl (t.got p hp))
 no:=λp hp=>t.no p λz=>hp (Xq.mpr (.inl z))
 on:=t.on
 len:=t.len
theorem Hk.inner(t:Hk A F i (λ_ _=>False) n A2 B)(a:Int):Hk A F i (λp q=>q=a/\p∈(F a).take 0) n A2 B:=⟨t.nd,t.sub,t.got,t.no,λp q=>by rw[t.on];simp,t.len⟩
theorem Hk.push{a p0:Int}{L:List Int}(t:Hk A F i (λp q=>q=a/\p∈L.take j) n A2 B)(hp:L[j]?=some p0)(m:p0∈A2):Hk A F i (λp q=>q=a/\p∈L.take (j+1)) (n+1) A2 (λp=>if p0=p then B p++[a] else B p) where
 nd:=t.nd
 sub:=t.sub
 got:=t.got
 no:=λp h=>by rw[qE λe=>h (by rw[<-e];exact m)];exact t.no p h
 on:=λp q=>by
  rw[Zv,hp,show (some p0).toList=[p0] from rfl,Xq,Xl]
  by_cases e:p0=p
  ·rw[qF e,Xq,Xl,t.on];constructor
   ·rintro ((h|⟨h1,h2⟩)|h)
    ·exact .inl h
    ·exact .inr ⟨h1,.inl h2⟩
    ·exact .inr ⟨h,.inr e.symm⟩
   ·rintro (h|⟨h1,_⟩)
    ·exact .inl (.inl h)
    ·exact .inr h1
  ·rw[qE e,t.on];constructor
   ·rintro (h|⟨h1,h2⟩)
    ·exact .inl h
    ·exact .inr ⟨h1,.inl h2⟩
   ·rintro (h|⟨h1,h2|h2⟩)
    ·exact .inl h
    ·exact .inr ⟨h1,h2⟩
    ·exact qG h2.symm e
 len:=λp=>by
  have:=t.len p
  by_cases e:p0=p
  ·rw[qF e,Xp,YO];lia
  ·rw[qE e];lia
theorem Hk.outer{a:Int}(t:Hk A F i (λp q=>q=a/\p∈(F a).take (F a).length) n A2 B)(ha:A[i]?=some a)(m:a∈A2){n':Nat}(h:n<=n'):Hk A F (i+1) (λ_ _=>False) n' A2 B where
 nd:=t.nd
 sub:=t.sub
 got:=λp hp=>by
  rw[Zv,ha,show (some a).toList=[a] from rfl]at hp;rcases Xq.mp hp with z|z
  ·exact t.got p z
  ·rw[Xl.mp z];exact m
 no:=t.no
 on:=λp q=>by
  rw[t.on,Zv,ha,show (some a).toList=[a] from rfl,Xq,Xl,YT,or_false];constructor
  ·rintro (⟨h1,h2⟩|⟨rfl,h2⟩)
   ·exact⟨.inl h1,h2⟩
   ·exact⟨.inr rfl,h2⟩
  ·rintro⟨h1|rfl,h2⟩
   ·exact .inl ⟨h1,h2⟩
   ·exact .inr ⟨rfl,h2⟩
 len:=λp=>YK (t.len p) h
theorem Hk.done(t:Hk A F A.length (λ_ _=>False) n A2 B)(h:n<=6000):Jq A F A2 B where
 nd:=t.nd
 all:=λp=>⟨t.sub p,λhp=>t.got p (by rw[YT];exact hp)⟩
 on:=λp q=>by rw[t.on,YT,or_false]
 len:=λp=>YK (t.len p) h
end
structure Ee(A:List Int)(F:Int->List Int)(E:List Int)(M:List Int)(f:Int->Nat):Prop where
 nd:M.Nodup
 sub:∀p∈M,p∈A\/p∈E
 ends:∀p∈E,p∈M/\f p=0
 zero:∀p∈M,f p=0->p∈E
 down:∀p∈M,∀n,f p=n+1->p∈A/\∃q∈F p,q∈M/\f q=n
 up:∀p∈A,∀q∈F p,q∈M->p∈M/\f p<=f q+1
structure Jr(A:List Int)(F:Int->List Int)(E:List Int)(M:List Int)(f:Int->Nat)(n:Nat)(L R:List Int):Prop where
 nd:M.Nodup
 sub:∀p∈M,p∈A\/p∈E
 subL:∀p,p∈L\/p∈R->p∈A\/p∈E
 ends:∀p∈E,(p∈M/\f p=0)\/(n=0/\p∈L)
 zero:∀p∈M,f p=0->p∈E
 down:∀p∈M,∀m,f p=m+1->p∈A/\∃q∈F p,q∈M/\f q=m
 le:∀p∈M,f p<=n
 next:∀p∈L,p∈M\/(n=0/\p∈E)\/∃m,n=m+1/\p∈A/\∃q∈F p,q∈M/\f q=m
 more:∀p∈R,p∈A/\∃q∈F p,q∈M/\f q=n
 up:∀p∈A,∀q∈F p,q∈M->(p∈M/\f p<=f q+1)\/(f q+1=n/\p∈L)\/(f q=n/\p∈R)
section
variable{A:List Int}{F:Int->List Int}{E M:List Int}{f:Int->Nat}{n:Nat}{L R:List Int}
theorem Jr.start:Jr A F E [] f 0 E [] where
 nd:=ZT
 sub:=λp hp=>qG hp X7
 subL:=λp hp=>.inr (hp.resolve_right X7)
 ends:=λp hp=>.inr ⟨rfl,hp⟩
 zero:=λp hp=>qG hp X7
 down:=λp hp=>qG hp X7
 le:=λp hp=>qG hp X7
 next:=λp hp=>.inr (.inl ⟨rfl,hp⟩)
 more:=λp hp=>qG hp X7
 up:=λp _ q _ hq=>qG hq X7
theorem Jr.skip{x:Int}(w:Jr A F E M f n (x::L) R)(h:x∈M):Jr A F E M f n L R where
 nd:=w.nd
 sub:=w.sub
 subL:=λp hp=>w.subL p (hp.imp (X0 _) id)
 ends:=λp hp=>by
  rcases w.ends p hp with z|⟨z,y⟩
  ·exact .inl z
  ·rcases YA.mp y with y|y
   ·exact .inl ⟨by rw[y];exact h,by have:=w.le x h;rw[y];lia⟩
   ·exact .inr ⟨z,y⟩
 zero:=w.zero
 down:=w.down
 le:=w.le
 next:=λp hp=>w.next p (X0 _ hp)
 more:=w.more
 up:=λp hp q hq hM=>by
  rcases w.up p hp q hq hM with z|⟨z,y⟩|z
  ·exact .inl z
  ·rcases YA.mp y with y|y
   ·exact .inl ⟨by rw[y];exact h,by have:=w.le x h;rw[y];lia⟩
   ·exact .inr (.inl ⟨z,y⟩)
  ·exact .inr (.inr z)
theorem Jr.take{x:Int}{B:Int->List Int}(w:Jr A F E M f n (x::L) R)(h:x∉M)(hB:∀q,q∈B x↔q∈A/\x∈F q):Jr A F E (M++[x]) (λp=>if p∈M then f p else n) n L (R++B x):=by
 have old:∀{p:Int},p∈M->(if p∈M then f p else n)=f p:=λz=>qF z
 have new:(if x∈M then f x else n)=n:=qE h;have mx:x∈M++[x]:=Xq.mpr (.inr (Xl.mpr rfl));have mM:∀{p:Int},p∈M->p∈M++[x]:=λz=>Xq.mpr (.inl z)
 refine⟨ZJ.mpr ⟨w.nd,Yl.mpr ⟨X7,ZT⟩,λa ha b hb e=>h (by rw[<-Xl.mp hb,<-e];exact ha)⟩,λp hp=>?_,λp hp=>?_,λp hp=>?_,λp hp=>?_,λp hp m e=>?_,λp hp=>?_,λp hp=>?_,λp hp=>?_,λp hp q hq hM=>?_⟩
 ·rcases Xq.mp hp with z|z
  ·exact w.sub p z
  ·rw[Xl.mp z];exact w.subL x (.inl X6)
 ·rcases hp with z|z
  ·exact w.subL p (.inl (X0 _ z))
  ·rcases Xq.mp z with z|z
   ·exact w.subL p (.inr z)
   ·exact .inl ((hB p).mp z).1
 ·rcases w.ends p hp with⟨z,y⟩|⟨z,y⟩
  ·exact .inl ⟨mM z,by rw[old z];exact y⟩
  ·rcases YA.mp y with y|y
   ·exact .inl ⟨by rw[y];exact mx,by rw[y,new];exact z⟩
   ·exact .inr ⟨z,y⟩
 ·rcases Xq.mp hp with z|z
  ·intro e;rw[old z]at e;exact w.zero p z e
  ·rw[Xl.mp z,new];intro e;rcases w.next x X6 with y|⟨_,y⟩|⟨m,y,_⟩
   ·exact qG y h
   ·exact y
   ·lia
 ·rcases Xq.mp hp with z|z
  ·rw[old z]at e;obtain⟨h1,q,h2,h3,h4⟩:=w.down p z m e;exact⟨h1,q,h2,mM h3,by rw[old h3];exact h4⟩
  ·rw[Xl.mp z,new]at e;rw[Xl.mp z];rcases w.next x X6 with y|⟨y,_⟩|⟨m',y,h1,q,h2,h3,h4⟩
   ·exact qG y h
   ·lia
   ·exact⟨h1,q,h2,mM h3,by rw[old h3];lia⟩
 ·rcases Xq.mp hp with z|z
  ·rw[old z];exact w.le p z
  ·rw[Xl.mp z,new];exact Xr _
 ·rcases w.next p (X0 _ hp) with z|z|⟨m,h1,h2,q,h3,h4,h5⟩
  ·exact .inl (mM z)
  ·exact .inr (.inl z)
  ·exact .inr (.inr ⟨m,h1,h2,q,h3,mM h4,by rw[old h4];exact h5⟩)
 ·rcases Xq.mp hp with z|z
  ·obtain⟨h1,q,h2,h3,h4⟩:=w.more p z;exact⟨h1,q,h2,mM h3,by rw[old h3];exact h4⟩
  ·obtain⟨h1,h2⟩:=(hB p).mp z;exact⟨h1,x,h2,mx,new⟩
 ·rcases Xq.mp hM with z|z
  ·rw[old z];rcases w.up p hp q hq z with⟨h1,h2⟩|⟨h1,h2⟩|⟨h1,h2⟩
   ·exact .inl ⟨mM h1,by rw[old h1];exact h2⟩
   ·rcases YA.mp h2 with y|y
    ·exact .inl ⟨by rw[y];exact mx,by rw[y,new];lia⟩
    ·exact .inr (.inl ⟨h1,y⟩)
   ·exact .inr (.inr ⟨h1,Xq.mpr (.inl h2)⟩)
  ·have e:=Xl.mp z;subst e;rw[new];exact .inr (.inr ⟨rfl,Xq.mpr (.inr ((hB p).mpr ⟨hp,hq⟩))⟩)
theorem Jr.round(w:Jr A F E M f n [] R):Jr A F E M f (n+1) R [] where
 nd:=w.nd
 sub:=w.sub
 subL:=λp hp=>w.subL p (.inr (hp.resolve_right X7))
 ends:=λp hp=>.inl ((w.ends p hp).resolve_right λz=>qG z.2 X7)
 zero:=w.zero
 down:=w.down
 le:=λp hp=>Nat.le_succ_of_le (w.le p hp)
 next:=λp hp=>.inr (.inr ⟨n,rfl,w.more p hp⟩)
 more:=λp hp=>qG hp X7
 up:=λp hp q hq hM=>by
  rcases w.up p hp q hq hM with z|⟨_,z⟩|⟨z,y⟩
  ·exact .inl z
  ·exact qG z X7
  ·exact .inr (.inl ⟨by lia,y⟩)
theorem Jr.done(w:Jr A F E M f n [] []):Ee A F E M f where
 nd:=w.nd
 sub:=w.sub
 ends:=λp hp=>(w.ends p hp).resolve_right λz=>qG z.2 X7
 zero:=w.zero
 down:=w.down
 up:=λp hp q hq hM=>(w.up p hp q hq hM).resolve_right λz=>z.elim (λz=>qG z.2 X7) λz=>qG z.2 X7
theorem Jr.few(w:Jr A F E M f n L R):M.length<=A.length+E.length:=by rw[<-Xp];exact w.nd.length_le_of_subset λp hp=>Xq.mpr (w.sub p hp)
end
def Pp(P:Program)(w:World)(K:qJ)(mg:Str->Option Value)(base:Heap)(k:Nat)(f:Addr)(F:Int->List Int)(N:Nat)(H:Hp):Prop:=∃fd ps sp oc od fd' sl,Ex P w K mg base (IY P w) k f fd ps sp/\EL K fd ps []/\H f=some (.frz ⟨oc,od,.func fd',sl⟩ CP) /\
 ∀x:Int,0<=x->x<(N:Int)->∀(H1:Hp) (Q:VK),AG H H1->(∀l H2,AG H1 H2->H1 l=none->H2 l=some (.lst ((F x).map V.int))->Q (.ref l) H2)->sp [.int x] H1 Q E0
def VU(N:Nat)(F:Int->List Int):Prop:=∀x,0<=x->x<(N:Int)->(F x).length<=9/\∀y∈F x,0<=y/\y<(N:Int)
inductive GA(P:Program)(w:World)(K:qJ)(mg:Str->Option Value)(base:Heap)(k:Nat)(vs:List V)(H:Hp)(Q:VK)(z3_:XK):Prop
 |m (a f:Addr) (S:List Int) (N:Nat) (F:Int->List Int):vs=[.ref a,.ref f]->Ad K H a (S.map V.int)->S.length<=100->N<=512->(∀s∈S,0<=s/\s<(N:Int))->VU N F->Pp P w K mg base k f F N H->(∀d H' ls A,AG H H'->H d=none->(∀l∈ls,H l=none)->H' d=some (.dK (Au A (ls.map V.ref)))->Ed H' ls A F->Db S F A->(∀a∈A,0<=a/\a<(N:Int))->Q (.ref d) H')->GA P w K mg base k vs H Q z3_
def Wy(H HX:Hp)(d p:Addr)(S:List Int)(F:Int->List Int)(A W:List Int):Prop:=∃ls,AG H HX/\(∀l∈ls,H l=none)/\HX d=some (.dK (Au A (ls.map V.ref)))/\Ed HX ls A F/\HX p=some (.lst (W.map V.int))/\p∉ls/\F9 S F A W
theorem MM{l:List α}(h:l≠[]):∃r x,l=r++[x]:=⟨l.dropLast,l.getLast h,(List.dropLast_concat_getLast h).symm⟩
noncomputable def AQ(g:Int)(tf:List Int)(x:Int):List Int:=(List.range g.toNat).map λs:Nat=>Cw g.toNat tf (tf.length/g.toNat) x (s:Int)
theorem Bq(g:Int)(tf:List Int)(x:Int):(AQ g tf x).length=g.toNat:=by unfold AQ;rw[List.length_map,List.length_range]
theorem Ef{h:Nat}(h9:h<=9):2^h<=512:=YK (aj (by decide) h9) (by decide)
theorem DG(g9:g<=9)(tf:List Int):VU (2^(tf.length/g.toNat)) (AQ g tf):=λx _ _=>by refine⟨by rw[Bq];lia,λy hy=>?_⟩;unfold AQ at hy;obtain⟨s,_,rfl⟩:=YH.mp hy;have:=Go (tf.length/g.toNat) (Co g.toNat tf (tf.length/g.toNat) x (s:Int) (tf.length/g.toNat));rw[ZY];exact this
abbrev AS(g:Int)(tf:List Int):Int:=2^(tf.length/g.toNat)-1
theorem DI(g:Int)(tf:List Int):0<=AS g tf/\AS g tf<((2^(tf.length/g.toNat):Nat):Int):=by
 have:=Go (tf.length/g.toNat) λ_=>true
 rw[Ky]at this;rw[ZY];exact⟨this.1,Int.sub_lt_self _ Int.one_pos⟩
theorem Ay.sameT{P:Addr}{lo:Int}{m:Nat}(e:Bf P H H')(t:BQ pos q P H)(h:Ay H r g lo tab m):Ay H' r g lo tab m:=by obtain⟨⟨tb,v1,v2⟩,h1,h2,h3,h4,h5,h6,h7⟩:=h;exact⟨⟨tb,e.get t v1 (λ_ z=>by cases z),e.get t v2 (λ_ z=>by cases z)⟩,h1,h2,h3,h4,h5,h6,h7⟩
theorem QN.sameT{P:Addr}{ps:List Addr}{ws:List (List Int)}(e:Bf P H H')(t:BQ pos q P H)(h:QN H p ps ws):QN H' p ps ws:=
 ⟨e.get t h.l (λ_ z=>by cases z),h.n,λi q w h1 h2=>e.get t (h.e i q w h1 h2) (λ_ z=>by cases z)⟩
noncomputable def E1(x:Str):Str:=x++".<locals>."++"<lambda>"
inductive Gp(CT:Addr)(pos:Pos)(Pt:Addr)(vs:List V)(H:Hp)(Q:VK)(E:XK):Prop
 |m (r:Addr) (g lo:Int) (tab:List Int) (m:Nat) (lf:Int) (tf:List Int) (mf:Nat):vs=[.ref r]->Ay H r g lo tab m->BD g lo tab m lf tf mf->BQ pos (E1 "sets_reached") Pt H->(g^(mf-1)<=9->∀d H' ls A,Bf Pt H H'->BQ pos (E1 "sets_reached") Pt H'->H d=none->(∀l∈ls,H l=none)->H' d=some (.dK (Au A (ls.map V.ref)))->Ed H' ls A (AQ g tf)->Db [AS g tf] (AQ g tf) A->(∀a∈A,0<=a/\a<((2^(tf.length/g.toNat):Nat):Int))->Q (.ref d) H')->(9<g^(mf-1)->∀H',AG H H'->E (.ref CT) none H')->Gp CT pos Pt vs H Q E
variable{F:Int->List Int}
theorem MN{P:Program}{w:World}{K:qJ}{mg:Str->Option Value}{base:Heap}{k:Nat}{body:Expr}{cl:List (Str×Addr)}{N:Nat}{E6:List V}{x1:Str}{fns:List Str}
  (la:Ir q params body scope cl f H) (ck:Ct cl E6 H) (S:Kz [x1] fns scope) (hcl:cl.map (·.1)=fns) (hnd:(Bl cl).Nodup) (hbind:∀(pm cdv ct:Value) (us:List Value),us.length=1->bindArgs (PySem.W.kla_fn "<lambda>" q params body scope cl pm cdv ct) ⟨us,[]⟩=pure ([x1].zip us))
  (hbody:∀(c':Addr) (A:Around) (outer:List Env) (s:Shared) (HA:Hp) (x:Int),Bs k (A.deeper (PySem.W.envX q scope s.heap.objs.size f (.ref c') (cellsFrom (s.heap.objs.size+1) scope.names []++cl)))->0<=x->x<(N:Int)->AG H HA ->
   ∃t,PE (Wh P w K mg base (x1::fns) q scope f (.ref c') cl A outer s HA) body t/\∀Q:VK,(∀D H',AG (IF cl HA) H'->IF cl HA D=none->H' D=some (.lst ((F x).map V.int))->Q (.ref D) H')->t (some (.int x)::E6.map some) (IF cl HA) Q):
  Pp P w K mg base (k+1) f F N H:=by
 obtain⟨pm,c',ctv,oc,l1,l2,l3⟩:=la;refine⟨_,[x1],λvs HA QA _=>∃x:Int,vs=[.int x]/\0<=x/\x<(N:Int)/\AG H HA/\∀l H2,AG HA H2->HA l=none->H2 l=some (.lst ((F x).map V.int))->QA (.ref l) H2,_,_,_,_,TR (q:=q) (params:=params) (body:=body) (scope:=scope) (cl:=cl) (fns:=fns) (pm:=pm) (ctv:=ctv) (c':=c') S hcl hnd ?_ ?_,N6 (hbind pm (.ref c') ctv),l1,λx x0 x1 HA QA eA qA=>⟨x,rfl,x0,x1,eA,qA⟩⟩
 ·rintro vs HA QA _ ⟨x,rfl,_⟩;rfl
 ·rintro A outer s HA vs QA EA hr ⟨x,rfl,x0,x1,eA,qA⟩;obtain⟨t,ht,hq⟩:=hbody c' A outer s HA x hr x0 x1 eA;refine⟨E6,oc,eA _ _ l1,eA _ _ l2,l3,ck.same eA,t,ht,hq _ λD H' e1 hD hH cz=>?_⟩;have out:D∉Bl cl:=λz=>by rw[cz D z]at hH;cases hH
  exact qA D _ (Pl e1) (by rw[<-hD,Bp out]) (by rw[C4 out];exact hH)
inductive Js(vs:List V)(H:Hp)(Q:VK)(z3_:XK):Prop
 |m (d:Addr) (ls:List Addr) (A:List Int) (F:Int->List Int):vs=[.ref d]->Rd H d (.dK (Au A (ls.map V.ref)))->Ed H ls A F->A.Nodup->(∀a∈A,∀p∈F a,p∈A)->A.length<=512->(∀a∈A,(F a).length<=9)->(∀o H' d2 ls2 A2 B,AG (Aj H d (.frz o (.dK (Au A (ls.map V.ref))))) H'->H d2=none->(∀l∈ls2,H l=none)->H' d2=some (.dK (Au A2 (ls2.map V.ref)))->Ed H' ls2 A2 B->Jq A F A2 B->Q (.ref d2) H')->Js vs H Q z3_
def RG(H HX:Hp)(d2:Addr)(A2:List Int)(B:Int->List Int):Prop:=∃ls2:List Addr,(∀l∈ls2,H l=none)/\HX d2=some (.dK (Au A2 (ls2.map V.ref)))/\Ed HX ls2 A2 B
theorem RG.put{HX:Hp}{d2:Addr}{A2:List Int}{B:Int->List Int}{ls2:List Addr}{l:Addr}{k:Int}(ln:∀l∈ls2,H l=none)(w0:HX d2=some (.dK (Au A2 (ls2.map V.ref))))(g:Ed HX ls2 A2 B)(hl:HX l=some (.lst []))(nl:l∉ls2)(h0:H l=none)(hk:k∉A2)(hB:B k=[]):
  (∀x∈ls2++[l],H x=none)/\Aj HX d2 (.dK (Dn (Au A2 (ls2.map V.ref)) (Sum.inl k) (.ref l))) d2=some (.dK (Au (A2++[k]) ((ls2++[l]).map V.ref)))/\Ed (Aj HX d2 (.dK (Dn (Au A2 (ls2.map V.ref)) (Sum.inl k) (.ref l)))) (ls2++[l]) (A2++[k]) B:=by
 have d2n:d2∉ls2:=g.out λxs z=>by rw[w0]at z;cases z
 refine⟨λx hx=>?_,by rw[AC,Ff (by rw[Xk];exact g.n) hk,Xv];rfl,(g.keep d2n _).snoc nl ?_⟩
 ·rcases Xq.mp hx with z|z
  ·exact ln x z
  ·rw[Xl.mp z];exact h0
 ·rw[AK (MW hl w0 λz=>by cases z),hB];exact hl
theorem AG.bothI{H0:Hp}(e:AG H H0)(d:Addr)(v:HO):AG (Aj H d v) (Aj H0 d v):=λb y h=>by
 by_cases z:b=d
 ·subst z;rw[AC]at h⊢;exact h
 ·rw[AK z]at h⊢;exact e b y h
theorem Rd.is(r:Rd H d (.dK kvs)):∃u,H d=some u/\(∀xs,u≠.lst xs):=by
 rcases r with r|⟨o,r⟩
 ·exact⟨_,r,λ_ z=>by cases z⟩
 ·exact⟨_,r,λ_ z=>by cases z⟩
abbrev Dc(M:List Int)(f:Int->Nat):List (CN×V):=Au M (M.map λp=>V.int ((f p:Nat):Int))
theorem Pq(M:List Int)(f:Int->Nat):(Dc M f).length=M.length:=C7 (by rw[Xk])
theorem Pr{M:List Int}{f:Int->Nat}{x:Int}{n:Nat}(h:x∉M):Dn (Dc M f) (Sum.inl x) (.int ((n:Nat):Int))=Dc (M++[x]) (λp=>if p∈M then f p else n):=by
 unfold Dc;rw[Ff (by rw[Xk]) h]
 congr 1
 rw[Xv,Yj,aU]
 congr 1
 ·exact Yv λp hp=>by show V.int ((f p:Nat):Int)=V.int (((if p∈M then f p else n):Nat):Int);rw[qF hp]
 ·show[V.int ((n:Nat):Int)]=[V.int (((if x∈M then f x else n):Nat):Int)];rw[qE h]
theorem Hl{M:List Int}{f:Int->Nat}(nd:M.Nodup)(x:Int):Cb (Dc M f) (Sum.inl x)=if x∈M then some (.int ((f x:Nat):Int)) else none:=by
 by_cases h:x∈M
 ·obtain⟨i,hi⟩:=Eb h;rw[qF h];exact Bw nd hi (by rw[Xu,hi];rfl)
 ·rw[qE h];exact Ce h
inductive Jt(vs:List V)(H:Hp)(Q:VK)(z3_:XK):Prop
 |m (d e:Addr) (ls:List Addr) (A:List Int) (F:Int->List Int) (E:List Int):vs=[.ref d,.ref e]->Rd H d (.dK (Au A (ls.map V.ref)))->Ed H ls A F->A.Nodup->(∀a∈A,∀p∈F a,p∈A)->A.length<=512->(∀a∈A,(F a).length<=9)->H e=some (.lst (E.map V.int))->E.length<=600->(∀o H' d2 M f,AG (Aj H d (.frz o (.dK (Au A (ls.map V.ref))))) H'->H d2=none->H' d2=some (.dK (Dc M f))->Ee A F E M f->Q (.ref d2) H')->Jt vs H Q z3_
def Wz(HB HX:Hp)(d2 p:Addr)(A:List Int)(F:Int->List Int)(E:List Int)(M0:List Int)(n:Nat)(L:List Int):Prop:=∃M f R,AG HB HX/\HX d2=some (.dK (Dc M f))/\HX p=some (.lst (R.map V.int))/\R.length<=M.length*6000/\(R=[]\/M0.length<M.length)/\M0.length<=M.length/\Jr A F E M f n L R
noncomputable def C9(M:List Int)(f:Int->Nat)(x:Int):Option Nat:=if x∈M then some (f x) else none
noncomputable def C5(F:Int->List Int)(fo:Int->Option Nat)(n:Nat)(x:Int):Nat:=(F x).findIdx λy=>fo y==some n
noncomputable def Cp(F:Int->List Int)(fo:Int->Option Nat):Nat->Int->List Int
 |0,_=>[]
 |n+1,x=>((C5 F fo n x:Nat):Int)::Cp F fo n ((F x).getD (C5 F fo n x) 0)
theorem MO{fo:Int->Option Nat}{n:Nat}{x y:Int}(h:y∈F x)(e:fo y=some n):∃z,(F x)[C5 F fo n x]?=some z/\fo z=some n/\(F x).getD (C5 F fo n x) 0=z/\C5 F fo n x<(F x).length/\∀m,m<C5 F fo n x->∀y,(F x)[m]?=some y->fo y≠some n:=by
 have lt:C5 F fo n x<(F x).length:=List.findIdx_lt_length_of_exists ⟨y,h,by rw[e];exact beq_self_eq_true _⟩;refine⟨_,Xs lt,?_,by rw[Xm,Xs lt];rfl,lt,λm hm y hy=>?_⟩
 ·have:=List.findIdx_getElem (w:=lt);exact eq_of_beq this
 ·have ml:m<(F x).length:=Nat.lt_trans hm lt;rw[Xs ml]at hy;cases hy;intro z;have:=List.not_of_lt_findIdx hm;rw[z]at this;simp at this
theorem GB{fo:Int->Option Nat}(hF:∀x,(F x).length=G)(h:∀x n,fo x=some (n+1)->∃y∈F x,fo y=some n):∀(n:Nat) (x:Int),fo x=some n->(Cp F fo n x).length=n/\∀s∈Cp F fo n x,0<=s/\s<(G:Int)
 |0,_,_=>⟨rfl,λs hs=>qG hs X7⟩
 |n+1,x,e=>by
  obtain⟨y,hy,ey⟩:=h x n e;obtain⟨z,h1,h2,h3,h4,_⟩:=MO hy ey;obtain⟨i1,i2⟩:=GB hF h n z h2;show (((C5 F fo n x:Nat):Int)::Cp F fo n ((F x).getD (C5 F fo n x) 0)).length=n+1/\∀s∈((C5 F fo n x:Nat):Int)::Cp F fo n ((F x).getD (C5 F fo n x) 0),0<=s/\s<(G:Int);rw[h3];refine⟨by rw[YZ,i1],λs hs=>?_⟩;rcases YA.mp hs with q|q
  ·rw[q];rw[hF]at h4;lia
  ·exact i2 s q
theorem Ee.down'{A:List Int}{E M:List Int}{f:Int->Nat}(w:Ee A F E M f):∀x n,C9 M f x=some (n+1)->∃y∈F x,C9 M f y=some n:=λx n e=>by
 unfold C9 at e
 split at e
 ·rename_i m
  obtain⟨_,q,h1,h2,h3⟩:=w.down x m n (Option.some.inj e);exact⟨q,h1,by unfold C9;rw[qF h2,h3]⟩
 ·cases e
theorem Bf.into{P:Addr}(e:Bf P H H')(h:H d=none)(u:HO):Bf P H (Aj H' d u):=λb o n q=>by rw[AK λz=>by rw[z,h]at q;cases q];exact e b o n q
theorem BQ.into{P:Addr}(t:BQ pos q P H){u v:HO}(h:H d=some u)(n1:∀ps,u≠.tbl ps)(n2:∀o,u≠.frz o CP):BQ pos q P (Aj H d v):=by obtain⟨ps,h1,h2,h3⟩:=t;refine⟨ps,by rw[AK λz=>by rw[z,h]at h1;cases h1;exact n1 _ rfl];exact h1,h2,λcv hc=>?_⟩;obtain⟨c',oc,h4,h5,h6⟩:=h3 cv hc;exact⟨c',oc,h4,by rw[AK λz=>by rw[z,h]at h5;cases h5;exact n2 _ rfl];exact h5,h6⟩
theorem Ee.chain{A:List Int}{E M:List Int}{f:Int->Nat}(w:Ee A F E M f):∀(n:Nat) (p:Int),p∈M->f p=n->∃l:List Int,l.length=n+1/\l.Nodup/\∀q∈l,q∈M/\f q<=n
 |0,p,hp,e=>⟨[p],rfl,Yl.mpr ⟨X7,ZT⟩,λq hq=>by rw[Xl.mp hq];exact⟨hp,Nat.le_of_eq e⟩⟩
 |n+1,p,hp,e=>by
  obtain⟨_,q,_,hq,eq⟩:=w.down p hp n e;obtain⟨l,h1,h2,h3⟩:=w.chain n q hq eq;refine⟨p::l,by rw[YZ,h1],Yl.mpr ⟨λz=>by have:=(h3 p z).2;lia,h2⟩,λy hy=>?_⟩;rcases YA.mp hy with z|z
  ·rw[z];exact⟨hp,Nat.le_of_eq e⟩
  ·exact⟨(h3 y z).1,by have:=(h3 y z).2;lia⟩
theorem Ee.low{A:List Int}{E M:List Int}{f:Int->Nat}(w:Ee A F E M f){p:Int}(hp:p∈M):f p<M.length/\M.length<=A.length+E.length:=by
 obtain⟨l,h1,h2,h3⟩:=w.chain (f p) p hp rfl;have a:=h2.length_le_of_subset (l₂:=M) λq hq=>(h3 q hq).1
 have b:=w.nd.length_le_of_subset (l₂:=A++E) λq hq=>Xq.mpr (w.sub q hq)
 rw[Xp]at b;lia
inductive MP(CT:Addr)(pos:Pos)(Pt:Addr)(vs:List V)(H:Hp)(Q:VK)(E:XK):Prop
 |m (r:Addr) (g lo:Int) (tab:List Int) (m:Nat) (lf:Int) (tf:List Int) (mf:Nat):vs=[.ref r]->Ay H r g lo tab m->BD g lo tab m lf tf mf->BQ pos (E1 "sets_reached") Pt H->(g^(mf-1)<=9->∀A M f,Db [AS g tf] (AQ g tf) A->Ee A (AQ g tf) [0] M f->(AS g tf∉M->∀H',Bf Pt H H'->BQ pos (E1 "sets_reached") Pt H'->Q .non H')/\(AS g tf∈M->∀D H',Bf Pt H H'->BQ pos (E1 "sets_reached") Pt H'->H D=none->H' D=some (.lst ((Cp (AQ g tf) (C9 M f) (f (AS g tf)) (AS g tf)).map V.int))->Q (.ref D) H'))->(9<g^(mf-1)->∀H',AG H H'->E (.ref CT) none H')->MP CT pos Pt vs H Q E
noncomputable def A4(g:Int)(tf:List Int)(x:Int)(row:List Int):Int:=row.foldl (λx s=>Cw g.toNat tf (tf.length/g.toNat) x s) x
theorem Iu{n:Nat}{f:Nat->Int}(h:∀k,k<n->0<=f k):Am n f=0↔∀k,k<n->f k=0:=by
 constructor
 ·intro e k hk;have:=Jh h hk;have:=h k hk;lia
 ·intro e;rw[Ae (g:=λ_=>0) e,Bn,aw]
theorem Iv{n:Nat}{f:Nat->Bool}:BY n f=0↔∀i,i<n->f i=false:=by
 constructor
 ·intro e i hi;have b:=Fe (f:=f) hi;rw[e,Int.zero_ediv]at b;cases z:f i with
  |false=>rfl
  |true=>rw[z]at b;cases b
 ·intro e;rw[D5 (h:=λ_=>false) e,Es]
theorem Iw(g2:2<=g):∀(row:List Int) (f:Nat->Bool),A4 g tf (BY (tf.length/g.toNat) f) row=0↔∀i,i<tf.length/g.toNat->f i=true->Cs g.toNat tf row i=0
 |[],f=>by
  show BY _ f=0↔_;rw[Iv];constructor
  ·intro h i hi e;rw[h i hi]at e;cases e
  ·intro h i hi;cases z:f i with
   |false=>rfl
   |true=>have:=h i hi z;cases this
 |s::row,f=>by
  obtain⟨h,hh⟩:∃h,h=tf.length/g.toNat:=⟨_,rfl⟩;show A4 g tf (BY _ (Co g.toNat tf _ (BY _ f) s _)) row=0↔_;rw[Iw g2 row,<-hh]
  have eq:∀i,Cs g.toNat tf (s::row) i=0↔∀j,j<g.toNat->tf.getD (i*g.toNat+j) 0=s->Cs g.toNat tf row ((i*g.toNat+j)%h)=0:=λi=>by
   show Am g.toNat (λj=>D0 (decide (tf.getD (i*g.toNat+j) 0=s)) (Cs g.toNat tf row ((i*g.toNat+j)%(tf.length/g.toNat))))=0↔_;rw[Iu λj _=>FJ (Ca ..),<-hh];refine forall_congr' λj=>forall_congr' λhj=>?_
   unfold D0
   by_cases z:tf.getD (i*g.toNat+j) 0=s
   ·rw[qH z];exact⟨λy _=>y,λy=>y z⟩
   ·rw[qI z];exact⟨λ_ y=>qG y z,λ_=>rfl⟩
  constructor
  ·intro H i hi fi;rw[eq];intro j hj hs;have lt:(i*g.toNat+j)%h<h:=ZW _ (by lia);refine H _ lt ?_;unfold Co;refine Y2.mpr ⟨i,YD.mpr hi,?_⟩;rw[Zf];refine⟨qH ?_,?_⟩
   ·rw[Fe hi,qF fi]
   ·unfold EZ;exact Y2.mpr ⟨_,Ea.mpr ⟨j,hj,hs,rfl⟩,beq_self_eq_true _⟩
  ·intro H e he st;unfold Co at st;obtain⟨i,hi,st⟩:=Y2.mp st;rw[Zf]at st;have il:=YD.mp hi
   have fi:f i=true:=by
    have b:=of_decide_eq_true st.1;rw[Fe il]at b;cases z:f i with
    |true=>rfl
    |false=>rw[z]at b;cases b
   unfold EZ at st;obtain⟨k,hk,ke⟩:=Y2.mp st.2;obtain⟨j,hj,hs,rfl⟩:=Ea.mp hk;rw[<-eq_of_beq ke];exact (eq i).mp (H i il fi) j hj hs
theorem Eg(g2:2<=g)(row:List Int):A4 g tf (AS g tf) row=0↔B5 g.toNat tf row=0:=by unfold AS B5;rw[<-Ky,Iw g2,Iu λk _=>Ca ..];exact⟨λh k hk=>h k hk rfl,λh k hk _=>h k hk⟩
theorem Ps(hg:2<=g){lo:Int}{m:Nat}(tb:∀n∈tab,0<=n/\n<g)(fw:BD g lo tab m lf tf mf):∀n∈tf,0<=n/\n<g:=by
 have bw:∀{lo:Int} {tab:List Int} {m:Nat} {low:Int} {M:Nat},(∀n∈tab,0<=n/\n<g)->∀n∈Ey g lo tab m low M,0<=n/\n<g:=λ{lo tab m low M} tb n hn=>by unfold Ey at hn;obtain⟨k,_,rfl⟩:=YH.mp hn;exact C0 hg tb _
 obtain⟨low,M,n,rfl,⟨rfl,rfl,rfl⟩|⟨h2,rfl,rfl⟩⟩:=fw
 ·exact bw (bw tb)
 ·exact bw tb
variable{row:List Int}
theorem Ix(x:Int){n:Int}(h:row[i]?=some n)(n0:0<=n)(n1:n<g):A4 g tf x (row.take (i+1))=(AQ g tf (A4 g tf x (row.take i))).getD n.toNat 0:=by rw[Zv,h];unfold A4 AQ;rw[Zu,Xm,Xu,List.getElem?_range (by lia)];show Cw _ _ _ _ n=Cw _ _ _ _ ((n.toNat:Nat):Int);rw[X8 n0]
theorem Bf.seq{K:qJ}{P:Addr}(e:Bf P H H')(t:BQ pos q P H)(h:Ad K H a xs):Ad K H' a xs:=by
 rcases h with (h|⟨o,h⟩)|h
 ·exact .inl (.inl (e.get t h λ_ z=>by cases z))
 ·exact .inl (.inr ⟨o,e.get t h λ_ z=>by cases z⟩)
 ·exact .inr h
end L2
namespace L2
open PySem PySem.Spec PyProof.Rows
variable{E:Value->Shared->Prop}{i j:Nat}{s:Shared}{α β:Type}
theorem Fg:∀{ns:List Int} {us:List Value},Ao (ns.map V.int) us->IntsAre us ns
 |[],_,.nil=>.nil
 |n::ns,_,.cons ⟨t,e⟩ h=>by subst e;exact .cons n t (Fg h)
noncomputable def Ju:Bool->Keyed->Array Keyed->Nat->Nat->Nat->StateT SortSt Sem (Option Nat):=sortPriv% PySem.Builtin.gallop
def TV(prog:Program)(w:World)(A:Around)(s:Shared)(k:SortKind)(a₀:Array Keyed)(L:Keyed->Keyed->Bool):Prop:=
 ∀x∈a₀.toList,∀y∈a₀.toList,∀(E:Value->Shared->Prop) (Q:Bool->Shared->Prop),Q (L x y) s->wpAny (model prog w) A (keyLt' k x.1 y.1) Q E s
structure VV(b:Nat->Bool)(n k:Nat):Prop where
 le:k<=n
 lo:∀i,i<k->b i=true
 hi:∀i,k<=i->i<n->b i=false
variable{y:Keyed}{arr:Array Keyed}{hint:Nat}
section
variable{prog:Program}{w:World}{A:Around}{k:SortKind}{a₀:Array Keyed}{L:Keyed->Keyed->Bool}{st:SortSt}
theorem Pu(hc:TV prog w A s k a₀ L)(hk:kindOf st=k){x:Keyed}(mx:x∈a₀.toList)(my:y∈a₀.toList){Q:Option Bool->SortSt->Prop}(h:Q (some (L x y)) st):wpS (model prog w) A E s (lt' x y) Q st:=by rw[lt'_eq];refine wpS_bind (wpS_get ?_);rw[hk];exact wpS_bind (wpS_lift (wpAny_attempt (hc x mx y my _ _ ⟨rfl,wpS_pure h⟩)))
noncomputable def Jv(L:Keyed->Keyed->Bool)(left:Bool)(key:Keyed)(arr:Array Keyed)(base i:Nat):Bool:=
 match arr[base+i]? with
 |some x=>if left then L x key else !L key x
 |none=>false
theorem K1(hc:TV prog w A s k a₀ L)(hk:kindOf st=k){left:Bool}{key:Keyed}{base n:Nat}(mk:key∈a₀.toList)(ma:∀x∈arr.toList,x∈a₀.toList)(hb:base+n<=arr.size)(hh:hint<n)
  (mono:∀i j,i<j->j<n->Jv L left key arr base j=true->Jv L left key arr base i=true) {Q:Option Nat->SortSt->Prop} (h:∀r,VV (Jv L left key arr base) n r->Q (some r) st):wpS (model prog w) A E s (Ju left key arr base n hint) Q st:=by
 obtain⟨b,hbe⟩:∃b,b=Jv L left key arr base:=⟨_,rfl⟩
 have bey:∀{i:Nat} {Q:Option Bool->SortSt->Prop},i<n->Q (some (b i)) st->wpS (model prog w) A E s ((λi=>do
   let x <-elem' arr (base+i)
   if left=true then lt' x key else do
    let r <-lt' key x
    pure (Option.map (λx=>!x) r)) i) Q st:=λ{i Q} hi q=>by
  have hlt:base+i<arr.size:=by lia
  have ex:arr[base+i]?=some arr[base+i]:=getElem?_pos arr _ hlt;have mx:=ma arr[base+i] (by simp);have eb:b i=if left then L arr[base+i] key else !L key arr[base+i]:=by rw[hbe];unfold Jv;rw[ex]
  refine wpS_bind ?_;rw[elem'_eq,ex];refine wpS_pure ?_;cases left
  ·rw[eb]at q;exact wpS_bind (Pu hc hk mk mx (wpS_pure q))
  ·rw[eb]at q;exact Pu hc hk mx mk q
 rw[<-hbe]at mono h;clear hbe
 have half:∀{lo hi:Nat},lo<=hi->hi<=n->(∀i,i<lo->b i=true)->(∀i,hi<=i->i<n->b i=false)->∀{Q':Option (Option Nat)×Nat×Nat->SortSt->Prop},(∀r,VV b n r->Q' (none,r,r) st)->wpS (model prog w) A E s (forIn [:n] ((none,lo,hi):Option (Option Nat)×Nat×Nat) λ_ c=>if c.2.1≥c.2.2 then pure (ForInStep.done (none,c.2.1,c.2.2)) else do
   let m <-(λi=>do
    let x <-elem' arr (base+i)
    if left=true then lt' x key else do
     let r <-lt' key x
     pure (Option.map (λx=>!x) r)) (c.2.1+(c.2.2-c.2.1)/2)
   match m with
   |some more=>if more=true then pure (ForInStep.yield (none,c.2.1+(c.2.2-c.2.1)/2+1,c.2.2)) else pure (ForInStep.yield (none,c.2.1,c.2.1+(c.2.2-c.2.1)/2))
   |_=>pure (ForInStep.done (some none,c.2.1,c.2.2))) Q' st:=λ{lo hi} h1 h2 h3 h4 {Q'} q=>by
  refine wpS_forRange (I:=λi c t=>t=st/\∃lo hi,c=(none,lo,hi)/\lo<=hi/\hi<=n/\hi-lo<=n-i/\(∀i,i<lo->b i=true)/\(∀i,hi<=i->i<n->b i=false)) ?_ ?_ ⟨rfl,lo,hi,rfl,h1,h2,by lia,h3,h4⟩
  ·rintro i c t _ hi' ⟨rfl,lo,hi,rfl,a1,a2,a3,a4,a5⟩;dsimp only
   by_cases z:lo≥hi
   ·rw[qF z];obtain rfl:lo=hi:=by lia
    exact wpS_pure (q lo ⟨a2,a4,a5⟩)
   rw[qE z];refine wpS_bind (bey (by lia) ?_);dsimp only;cases e:b (lo+(hi-lo)/2)
   ·rw[qE (by decide)]
    exact wpS_pure ⟨rfl,_,_,rfl,by lia,by lia,by lia,a4,λj hj hn=>by
     cases e2:b j
     ·rfl
     ·by_cases w:j=lo+(hi-lo)/2
      ·rw[w,e]at e2;cases e2
      ·rw[mono _ _ (by lia) hn e2]at e;cases e⟩
   ·rw[qF rfl]
    exact wpS_pure ⟨rfl,_,_,rfl,by lia,by lia,by lia,λj hj=>by
     by_cases w:j=lo+(hi-lo)/2
     ·rw[w];exact e
     ·exact mono _ _ (by lia) (by lia) e,a5⟩
  ·rintro c t ⟨rfl,lo,hi,rfl,a1,a2,a3,a4,a5⟩;obtain rfl:lo=hi:=by lia
   exact q lo ⟨a2,a4,a5⟩
 refine wpS_bind (bey hh ?_);dsimp only;cases e:b hint
 ·rw[qE (by decide)]
  have up:∀{la:Nat},la<=hint->b (hint-la)=false->∀i,hint-la<=i->i<n->b i=false:=λ{la} h1 h2 i h3 h4=>by
   cases e2:b i
   ·rfl
   ·by_cases w:hint-la=i
    ·rw[w,e2]at h2;cases h2
    ·rw[mono _ _ (by lia) h4 e2]at h2;cases h2
  refine wpS_bind (wpS_forRange (I:=λi c t=>t=st/\∃la fo,c=(none,la,fo)/\la<fo/\i+1<=fo/\la<=hint/\b (hint-la)=false) ?_ ?_ ⟨rfl,0,1,rfl,by decide,by decide,YS _,e⟩)
  ·rintro i c t _ hi ⟨rfl,la,fo,rfl,a1,a2,a3,a4⟩;dsimp only
   by_cases z:fo≥hint+1
   ·rw[qF z];refine wpS_pure ?_;dsimp only;exact wpS_bind (half (by lia) (by lia) (λj hj=>by lia) (up a3 a4) λr hr=>wpS_pure (h r hr))
   rw[qE z];refine wpS_bind (bey (by lia) ?_);dsimp only;cases e2:b (hint-fo)
   ·rw[qE (by decide)];exact wpS_pure ⟨rfl,_,_,rfl,by lia,by lia,by lia,e2⟩
   ·rw[qF rfl];refine wpS_pure ?_;dsimp only;refine wpS_bind (half (by lia) (by lia) (λj hj=>?_) (up a3 a4) λr hr=>wpS_pure (h r hr))
    by_cases w:j=hint-fo
    ·rw[w];exact e2
    ·exact mono _ _ (by lia) (by lia) e2
  ·rintro c t ⟨rfl,la,fo,rfl,a1,a2,a3,a4⟩;dsimp only;exact wpS_bind (half (by lia) (by lia) (λj hj=>by lia) (up a3 a4) λr hr=>wpS_pure (h r hr))
 ·rw[qF rfl]
  have dn:∀{la:Nat},hint+la<n->b (hint+la)=true->∀i,i<hint+la+1->b i=true:=λ{la} h1 h2 i h3=>by
   by_cases w:i=hint+la
   ·rw[w];exact h2
   ·exact mono _ _ (by lia) h1 h2
  refine wpS_bind (wpS_forRange (I:=λi c t=>t=st/\∃la fo,c=(none,la,fo)/\la<fo/\i+1<=fo/\hint+la<n/\b (hint+la)=true) ?_ ?_ ⟨rfl,0,1,rfl,by decide,by decide,hh,e⟩)
  ·rintro i c t _ hi ⟨rfl,la,fo,rfl,a1,a2,a3,a4⟩;dsimp only
   by_cases z:fo≥n-hint
   ·rw[qF z];refine wpS_pure ?_;dsimp only;exact wpS_bind (half (by lia) (by lia) (dn a3 a4) (λj hj hn=>by lia) λr hr=>wpS_pure (h r hr))
   rw[qE z];refine wpS_bind (bey (by lia) ?_);dsimp only;cases e2:b (hint+fo)
   ·rw[qF (show (!false)=true from rfl)];refine wpS_pure ?_;dsimp only;refine wpS_bind (half (by lia) (by lia) (dn a3 a4) (λj hj hn=>?_) λr hr=>wpS_pure (h r hr));cases e3:b j
    ·rfl
    ·by_cases w:hint+fo=j
     ·rw[<-w,e2]at e3;cases e3
     ·rw[mono _ _ (by lia) hn e3]at e2;cases e2
   ·rw[qE (show ¬(!true)=true by decide)];exact wpS_pure ⟨rfl,_,_,rfl,by lia,by lia,by lia,e2⟩
  ·rintro c t ⟨rfl,la,fo,rfl,a1,a2,a3,a4⟩;dsimp only;exact wpS_bind (half (by lia) (by lia) (dn a3 a4) (λj hj hn=>by lia) λr hr=>wpS_pure (h r hr))
end
noncomputable def Pw:Array Keyed->Array Keyed->StateT SortSt Sem (Array Keyed):=sortPriv% PySem.Builtin.mergeLo
noncomputable def Px:Array Keyed->Array Keyed->StateT SortSt Sem (Array Keyed):=sortPriv% PySem.Builtin.mergeHi
structure SX(k:SortKind)(xs:Array Keyed)(p:Array (Nat×Nat×Nat))(st:SortSt):Prop where
 kd:kindOf st=k
 ar:arrOf st=xs
 pd:pendingOf st=p
 fl:failedOf st=none
abbrev Up(κ:Keyed->Int)(l:List Keyed):Prop:=l.Pairwise λx y=>κ x<=κ y
structure MI(κ:Keyed->Int)(a b:Array Keyed)(out:Array Keyed)(ia ib:Nat):Prop where
 ua:Up κ (out.toList++a.toList.drop ia)
 ub:Up κ (out.toList++b.toList.drop ib)
 pm:(out.toList++(a.toList.drop ia++b.toList.drop ib)).Perm (a.toList++b.toList)
section
variable{κ:Keyed->Int}{a b out:Array Keyed}{ia ib:Nat}
theorem Br{l1 l2:List Keyed}:Up κ (l1++l2)↔Up κ l1/\Up κ l2/\∀x∈l1,∀y∈l2,κ x<=κ y:=List.pairwise_append
theorem Eh(a:Array Keyed)(i k:Nat):(a.extract i (i+k)).toList=(a.toList.drop i).take k:=by
 rw[ZV,ZE]
 congr 1
 lia
theorem MI.takeA(M:MI κ a b out ia ib){k:Nat}(h:∀x∈(a.toList.drop ia).take k,∀y∈b.toList.drop ib,κ x<=κ y):MI κ a b (out++a.extract ia (ia+k)) (ia+k) ib:=by
 have e:a.toList.drop ia=(a.extract ia (ia+k)).toList++a.toList.drop (ia+k):=by rw[Eh,<-List.drop_drop,Ye]
 obtain⟨h1,h2,h3⟩:=M;rw[e]at h1 h3;refine⟨by rw[YU,YG];exact h1,?_,?_⟩
 ·rw[YU,YG];rw[Br]at h1 h2⊢;refine⟨h1.1,?_,λx hx y hy=>?_⟩
  ·rw[Br];exact⟨(Br.mp h1.2.1).1,h2.2.1,λx hx y hy=>h x (by rw[<-Eh];exact hx) y hy⟩
  ·rcases Xq.mp hy with z|z
   ·exact h1.2.2 x hx y (Zz _ z)
   ·exact h2.2.2 x hx y z
 ·rw[YU];simp only[List.append_assoc]at h3⊢;exact h3
theorem MI.takeB(M:MI κ a b out ia ib){k:Nat}(h:∀x∈(b.toList.drop ib).take k,∀y∈a.toList.drop ia,κ x<=κ y):MI κ a b (out++b.extract ib (ib+k)) ia (ib+k):=by
 have e:b.toList.drop ib=(b.extract ib (ib+k)).toList++b.toList.drop (ib+k):=by rw[Eh,<-List.drop_drop,Ye]
 obtain⟨h1,h2,h3⟩:=M;rw[e]at h2 h3;refine⟨?_,by rw[YU,YG];exact h2,?_⟩
 ·rw[YU,YG];rw[Br]at h1 h2⊢;refine⟨h2.1,?_,λx hx y hy=>?_⟩
  ·rw[Br];exact⟨(Br.mp h2.2.1).1,h1.2.1,λx hx y hy=>h x (by rw[<-Eh];exact hx) y hy⟩
  ·rcases Xq.mp hy with z|z
   ·exact h2.2.2 x hx y (Zz _ z)
   ·exact h1.2.2 x hx y z
 ·rw[YU];refine List.Perm.trans ?_ h3;simp only[List.append_assoc];refine Zq _ ?_;rw[<-YG,<-YG];exact aN _ Zr
theorem M5(a:Array Keyed)(i:Nat)(h:i<a.size):a.extract i (i+1)=#[a[i]]:=by apply Array.ext';rw[Eh];rw[List.drop_eq_getElem_cons (by simpa using h)];simp
theorem K2(out a:Array Keyed)(i:Nat)(h:i<a.size):out.push a[i]=out++a.extract i (i+1):=by rw[M5 a i h];simp
theorem CL{l:List Keyed}(h:y∈l.drop i):∃j,i<=j/\∃h:j<l.length,l[j]=y:=by obtain⟨j,hj,e⟩:=Z2.mp h;rw[Yw]at hj;exact⟨i+j,af ..,by lia,by rw[<-e,List.getElem_drop]⟩
theorem D6{l:List Keyed}{k:Nat}(h:y∈(l.drop i).take k):∃j,i<=j/\j<i+k/\∃h:j<l.length,l[j]=y:=by obtain⟨j,hj,e⟩:=Z2.mp h;rw[YC,Yw]at hj;exact⟨i+j,af ..,by lia,by lia,by rw[<-e,aQ,List.getElem_drop]⟩
theorem TW{l:List Keyed}(h:Up κ l)(hij:i<=j)(hj:j<l.length):κ l[i]<=κ l[j]:=by
 rcases Nat.lt_or_eq_of_le hij with z|z
 ·exact List.pairwise_iff_getElem.mp h i j (by lia) hj z
 ·subst z;exact Yu _
end
noncomputable def ky(κ:Keyed->Int)(xs:Array Keyed)(i:Nat):Int:=match xs[i]? with|some x=>κ x|none=>0
def DM(κ:Keyed->Int)(xs:Array Keyed)(i j:Nat):Prop:=∀x y,i<=x->x<=y->y<j->ky κ xs x<=ky κ xs y
section
variable{κ:Keyed->Int}{a b out:Array Keyed}{ia ib:Nat}
theorem A9(h:ia<a.size):ky κ a ia=κ a[ia]:=by unfold ky;rw[getElem?_pos a ia h]
theorem B4(h:a[i]?=b[j]?):ky κ a i=ky κ b j:=by unfold ky;rw[h]
theorem Hm:Up κ a.toList↔DM κ a 0 a.size:=by
 constructor
 ·intro h x y _ hxy hy;rw[A9 (show x<a.size by lia),A9 hy];have z:=TW h hxy (by simpa using hy);simpa using z
 ·intro h;unfold Up;rw[List.pairwise_iff_getElem];intro i j hi hj hij;have hi':i<a.size:=by simpa using hi
  have hj':j<a.size:=by simpa using hj
  have z:=h i j (YS _) (by lia) hj';rw[A9 hi',A9 hj']at z;simpa using z
def LL(κ:Keyed->Int)(a b out:Array Keyed):Prop:=out.toList.Perm (a.toList++b.toList)/\Up κ out.toList
theorem D7(a:Array Keyed)(i:Nat):(a.extract i a.size).toList=a.toList.drop i:=by rw[ZV,ZE,aM];simp
theorem MI.doneB(M:MI κ a b out ia ib)(h:ib=b.size):LL κ a b (out++a.extract ia a.size++b.extract ib b.size):=by have e:b.toList.drop ib=[]:=List.drop_eq_nil_of_le (by simp[h]);have z:=M.pm;rw[e]at z;unfold LL;rw[YU,YU,D7,D7,e,Yd];rw[Yd]at z;exact⟨z,M.ua⟩
theorem MI.lastA(M:MI κ a b out ia ib)(h:ia+1=a.size)(hl:∀j,j<b.size->ky κ b j<=ky κ a (a.size-1)):LL κ a b (out++b.extract ib b.size++a.extract ia a.size):=by
 unfold LL;rw[YU,YU,D7,D7,YG];refine⟨List.Perm.trans (Zq _ Zr) M.pm,?_⟩;have u1:=Br.mp M.ua;have u2:=Br.mp M.ub;rw[Br];refine⟨u1.1,?_,λx hx y hy=>?_⟩
 ·rw[Br];refine⟨u2.2.1,u1.2.1,λx hx y hy=>?_⟩;obtain⟨j,h1,h2,e⟩:=CL hy;rw[YF]at h2;obtain⟨j',h1',h2',e'⟩:=CL hx;rw[YF]at h2';rw[<-e,<-e',Yr,Yr,<-A9 (κ:=κ) h2,<-A9 (κ:=κ) h2',show j=a.size-1 by lia];exact hl j' h2'
 ·rcases Xq.mp hy with z|z
  ·exact u2.2.2 x hx y z
  ·exact u1.2.2 x hx y z
theorem MI.someA(M:MI κ a b out ia ib)(sb:DM κ b 0 b.size){k:Nat}(h:∀j,ia<=j->j<ia+k->j<a.size->ky κ a j<=ky κ b ib):MI κ a b (out++a.extract ia (ia+k)) (ia+k) ib:=by refine M.takeA λx hx y hy=>?_;obtain⟨j,h1,h2,h3,e⟩:=D6 hx;obtain⟨j',h1',h2',e'⟩:=CL hy;rw[YF]at h3 h2';rw[<-e,<-e',Yr,Yr,<-A9 (κ:=κ) h3,<-A9 (κ:=κ) h2'];exact Yi (h j h1 h2 h3) (sb _ _ (YS _) h1' h2')
theorem MI.someB(M:MI κ a b out ia ib)(sa:DM κ a 0 a.size){k:Nat}(h:∀j,ib<=j->j<ib+k->j<b.size->ky κ b j<=ky κ a ia):MI κ a b (out++b.extract ib (ib+k)) ia (ib+k):=by refine M.takeB λx hx y hy=>?_;obtain⟨j,h1,h2,h3,e⟩:=D6 hx;obtain⟨j',h1',h2',e'⟩:=CL hy;rw[YF]at h3 h2';rw[<-e,<-e',Yr,Yr,<-A9 (κ:=κ) h3,<-A9 (κ:=κ) h2'];exact Yi (h j h1 h2 h3) (sa _ _ (YS _) h1' h2')
theorem MI.oneA(M:MI κ a b out ia ib)(sb:DM κ b 0 b.size)(hi:ia<a.size)(h:ky κ a ia<=ky κ b ib):MI κ a b (out.push a[ia]) (ia+1) ib:=by rw[K2 out a ia hi];exact M.someA sb λj h1 h2 _=>by rw[show j=ia by lia];exact h
theorem MI.oneB(M:MI κ a b out ia ib)(sa:DM κ a 0 a.size)(hi:ib<b.size)(h:ky κ b ib<=ky κ a ia):MI κ a b (out.push b[ib]) ia (ib+1):=by rw[K2 out b ib hi];exact M.someB sa λj h1 h2 _=>by rw[show j=ib by lia];exact h
end
section
variable{prog:Program}{w:World}{A:Around}{k:SortKind}{a₀ xs:Array Keyed}{p:Array (Nat×Nat×Nat)}{κ:Keyed->Int}{st:SortSt}
theorem Bb(h:i<arr.size){Q:Keyed->SortSt->Prop}(q:Q arr[i] st):wpS (model prog w) A E s (elem' arr i) Q st:=by rw[elem'_eq,getElem?_pos arr i h];exact wpS_pure q
abbrev Gc(prog:Program)(w:World)(A:Around)(s:Shared)(k:SortKind)(a₀:Array Keyed)(κ:Keyed->Int):Prop:=TV prog w A s k a₀ λx y=>decide (κ x<κ y)
theorem TY(hc:Gc prog w A s k a₀ κ)(hk:kindOf st=k){key:Keyed}{base n:Nat}(mk:key∈a₀.toList)(ma:∀x∈arr.toList,x∈a₀.toList)(hb:base+n<=arr.size)(hh:hint<n)
  (hs:DM κ arr base (base+n)) {Q:Option Nat->SortSt->Prop} (h:∀r,r<=n->(∀j,base<=j->j<base+r->ky κ arr j<=κ key)->(∀j,base+r<=j->j<base+n->κ key<ky κ arr j)->Q (some r) st):wpS (model prog w) A E s (Ju false key arr base n hint) Q st:=by
 have e:∀i,i<n->Jv (λx y=>decide (κ x<κ y)) false key arr base i=!decide (κ key<ky κ arr (base+i)):=λi hi=>by unfold Jv ky;rw[getElem?_pos arr (base+i) (by lia)];rfl
 refine K1 hc hk mk ma hb hh (λi j hij hj z=>?_) λr hr=>h r hr.le (λj h1 h2=>?_) λj h1 h2=>?_
 ·rw[e i (by lia)];rw[e j hj]at z;have z1:=hs (base+i) (base+j) (by lia) (by lia) (by lia);simp only[Bool.not_eq_true',decide_eq_false_iff_not,Int.not_lt]at z⊢;lia
 ·have z:=hr.lo (j-base) (by lia);rw[e _ (by have:=hr.le;lia),show base+(j-base)=j by lia]at z;simp only[Bool.not_eq_true',decide_eq_false_iff_not,Int.not_lt]at z;exact z
 ·have z:=hr.hi (j-base) (by lia) (by lia);rw[e _ (by lia),show base+(j-base)=j by lia]at z;simp only[Bool.not_eq_false',decide_eq_true_eq]at z;exact z
theorem TZ(hc:Gc prog w A s k a₀ κ)(hk:kindOf st=k){key:Keyed}{base n:Nat}(mk:key∈a₀.toList)(ma:∀x∈arr.toList,x∈a₀.toList)(hb:base+n<=arr.size)(hh:hint<n)
  (hs:DM κ arr base (base+n)) {Q:Option Nat->SortSt->Prop} (h:∀r,r<=n->(∀j,base<=j->j<base+r->ky κ arr j<κ key)->(∀j,base+r<=j->j<base+n->κ key<=ky κ arr j)->Q (some r) st):wpS (model prog w) A E s (Ju true key arr base n hint) Q st:=by
 have e:∀i,i<n->Jv (λx y=>decide (κ x<κ y)) true key arr base i=decide (ky κ arr (base+i)<κ key):=λi hi=>by unfold Jv ky;rw[getElem?_pos arr (base+i) (by lia)];rfl
 refine K1 hc hk mk ma hb hh (λi j hij hj z=>?_) λr hr=>h r hr.le (λj h1 h2=>?_) λj h1 h2=>?_
 ·rw[e i (by lia)];rw[e j hj]at z;have z1:=hs (base+i) (base+j) (by lia) (by lia) (by lia);simp only[decide_eq_true_eq]at z⊢;lia
 ·have z:=hr.lo (j-base) (by lia);rw[e _ (by have:=hr.le;lia),show base+(j-base)=j by lia]at z;simp only[decide_eq_true_eq]at z;exact z
 ·have z:=hr.hi (j-base) (by lia) (by lia);rw[e _ (by lia),show base+(j-base)=j by lia]at z;simp only[decide_eq_false_iff_not,Int.not_lt]at z;exact z
noncomputable def RH:Nat->StateT SortSt Sem Unit:=sortPriv% PySem.Builtin.setMinGallop
theorem Fh(X:SX k xs p st){g:Nat}{Q:Unit->SortSt->Prop}(h:∀t,SX k xs p t->Q () t):wpS (model prog w) A E s (RH g) Q st:=
 wpS_modify (h _ ⟨X.kd,X.ar,X.pd,X.fl⟩)
end
structure K3(κ:Keyed->Int)(a b:Array Keyed)(P:Nat)(out:Array Keyed)(ia ib:Nat):Prop where
 mi:MI κ a b out ia ib
 la:ia+1<a.size
 lb:ib<b.size
 ge:P<=ia+ib
section
variable{prog:Program}{w:World}{A:Around}{k:SortKind}{a₀ xs:Array Keyed}{p:Array (Nat×Nat×Nat)}{κ:Keyed->Int}{st:SortSt}
theorem AX{c:Prop}[Decidable c]{m n:StateT SortSt Sem α}{Q:α->SortSt->Prop}(h1:c->wpS (model prog w) A E s m Q st)(h2:¬c->wpS (model prog w) A E s n Q st):wpS (model prog w) A E s (if c then m else n) Q st:=by
 split
 ·exact h1 ‹_›
 ·exact h2 ‹_›
theorem DJ{m n:Nat}(h:¬(m==n)=true):m≠n:=λe=>h (by simp[e])
theorem M6{c:Prop}[Decidable c]{f:β->StateT SortSt Sem α}{x y:β}{Q:α->SortSt->Prop}(J:∀g,wpS (model prog w) A E s (f g) Q st):wpS (model prog w) A E s (if c then f x else f y) Q st:=by
 split
 ·exact J _
 ·exact J _
theorem Gq{γ:Type}{f:β->γ->StateT SortSt Sem α}{m:StateT SortSt Sem α}{Q:α->SortSt->Prop}(R:β->γ->Prop)(J:∀x y,R x y->wpS (model prog w) A E s (f x y) Q st)(h:(∀x y,R x y->wpS (model prog w) A E s (f x y) Q st)->wpS (model prog w) A E s m Q st):wpS (model prog w) A E s m Q st:=h J
theorem Py(hc:Gc prog w A s k a₀ κ)(X:SX k xs p st){x:Keyed}(mx:x∈a₀.toList)(my:y∈a₀.toList){Q:Option Bool->SortSt->Prop}(h1:κ x<κ y->Q (some true) st)(h2:κ y<=κ x->Q (some false) st):wpS (model prog w) A E s (lt' x y) Q st:=by
 refine Pu hc X.kd mx my ?_
 by_cases z:κ x<κ y
 ·rw[show decide (κ x<κ y)=true by simpa using z];exact h1 z
 ·rw[show decide (κ x<κ y)=false by simpa using z];exact h2 (by lia)
theorem N8(hc:Gc prog w A s k a₀ κ)(X:SX k xs p st){a b:Array Keyed}(ma:∀x∈a.toList,x∈a₀.toList)(mb:∀x∈b.toList,x∈a₀.toList)(sA:DM κ a 0 a.size)(sB:DM κ b 0 b.size)(ha:0<a.size)(hb:0<b.size)
  (h0:ky κ b 0<ky κ a 0) (hl:∀j,j<b.size->ky κ b j<ky κ a (a.size-1)) {Q:Array Keyed->SortSt->Prop} (h:∀out t,SX k xs p t->LL κ a b out->Q out t):wpS (model prog w) A E s (Pw a b) Q st:=by
 have ga:∀{i:Nat} (hi:i<a.size),a[i]∈a₀.toList:=λ{i} hi=>ma _ (by simp)
 have gb:∀{i:Nat} (hi:i<b.size),b[i]∈a₀.toList:=λ{i} hi=>mb _ (by simp)
 have hl':∀j,j<b.size->ky κ b j<=ky κ a (a.size-1):=λj hj=>YI (hl j hj)
 refine wpS_bind (wpS_lift (wpAny_rule ⟨rfl,?_⟩));refine wpS_bind (Bb hb ?_)
 have M0:MI κ a b #[b[0]] 0 1:=by have z:MI κ a b #[] 0 0:=⟨by simpa using Hm.mpr sA,by simpa using Hm.mpr sB,by simp⟩;have z:=z.oneB sA hb (YI h0);simpa using z
 refine AX (λe=>?_) λe=>AX (λe2=>?_) λe2=>?_
 ·exact wpS_pure (h _ _ X (M0.doneB (by simpa using e)))
 ·exact wpS_pure (h _ _ X (M0.lastA (by simpa using e2) hl'))
 have e:b.size≠1:=λz=>e (by simp[z])
 have e2:a.size≠1:=λz=>e2 (by simp[z])
 refine wpS_bind (wpS_get ?_);refine wpS_bind (wpS_forRange (I:=λi c t=>SX k xs p t/\∃out ia ib mg,c=(none,out,ia,ib,mg)/\K3 κ a b (i+1) out ia ib) ?_ ?_ ⟨X,_,_,_,_,rfl,M0,by lia,by lia,by lia⟩)
 ·rintro i c t _ hi ⟨X,out,ia,ib,mg,rfl,M⟩;refine wpS_bind (wpS_mono (wpS_forRange (I:=λ_ c t=>SX k xs p t/\∃out ia ib ac bc,c=(none,out,ia,ib,ac,bc)/\K3 κ a b (i+1) out ia ib) (Q:=λc t=>SX k xs p t/\((∃r o,c=(some r,o)/\LL κ a b r)\/∃out ia ib ac bc,c=(none,out,ia,ib,ac,bc)/\K3 κ a b (i+1) out ia ib)) ?_ ?_ ⟨X,out,ia,ib,0,0,rfl,M⟩) ?_)
  ·clear M X;rintro j c t _ hj ⟨X,out,ia,ib,ac,bc,rfl,M⟩;have la:=M.la;have lb:=M.lb;have ge:=M.ge;refine wpS_bind (Bb M.lb (wpS_bind (Bb (show ia<a.size by lia) (wpS_bind (Py hc X (gb lb) (ga (by lia)) (λz=>?_) λz=>?_)))))
   ·refine AX (λ_=>?_) (λz=>qG rfl z);rw[<-A9 (κ:=κ),<-A9 (κ:=κ)]at z;have M2:=M.mi.oneB sA lb (YI z);have M3:ib+1<b.size->K3 κ a b (i+1) (out.push b[ib]) ia (ib+1):=λq=>⟨M2,la,q,by lia⟩
    refine wpS_bind (Bb M.lb (AX (λz=>?_) λz=>AX (λ_=>?_) λ_=>?_))
    ·exact wpS_pure ⟨X,.inl ⟨_,_,rfl,M2.doneB (by simpa using z)⟩⟩
    ·exact wpS_pure ⟨X,.inr ⟨_,_,_,_,_,rfl,M3 (Y5 lb (DJ z))⟩⟩
    ·exact wpS_pure ⟨X,_,_,_,_,_,rfl,M3 (Y5 lb (DJ z))⟩
   ·refine AX (λz=>qG z (by decide)) (λ_=>?_);rw[<-A9 (κ:=κ),<-A9 (κ:=κ)]at z;have M2:=M.mi.oneA sB (by lia) z;have M3:ia+1+1<a.size->K3 κ a b (i+1) (out.push (a[ia]'(by lia))) (ia+1) ib:=λq=>⟨M2,q,lb,by lia⟩
    refine wpS_bind (Bb (show ia<a.size by lia) (AX (λz=>?_) λz=>AX (λ_=>?_) λ_=>?_))
    ·exact wpS_pure ⟨X,.inl ⟨_,_,rfl,M2.lastA (by simpa using z) hl'⟩⟩
    ·exact wpS_pure ⟨X,.inr ⟨_,_,_,_,_,rfl,M3 (Y5 la (DJ z))⟩⟩
    ·exact wpS_pure ⟨X,_,_,_,_,_,rfl,M3 (Y5 la (DJ z))⟩
  ·rintro c t ⟨X,out,ia,ib,ac,bc,rfl,M⟩;exact⟨X,.inr ⟨out,ia,ib,ac,bc,rfl,M⟩⟩
  clear M X;rintro c t ⟨X,⟨r,o,rfl,R⟩|⟨out,ia,ib,ac,bc,rfl,M⟩⟩
  ·exact wpS_pure (wpS_pure (h _ _ X R))
  refine wpS_bind (wpS_lift (wpAny_rule ⟨rfl,?_⟩));refine wpS_bind (wpS_mono (wpS_forRange (I:=λj c t=>SX k xs p t/\∃out ia ib mg ac bc,c=(none,out,ia,ib,mg,ac,bc)/\K3 κ a b (i+1+j) out ia ib) (Q:=λc t=>SX k xs p t/\((∃r o,c=(some r,o)/\LL κ a b r)\/∃out ia ib mg ac bc,c=(none,out,ia,ib,mg,ac,bc)/\K3 κ a b (i+1+1) out ia ib)) ?_ ?_ ⟨X,_,_,_,_,_,_,rfl,M⟩) ?_)
  ·clear M X;rintro j c t _ hj ⟨X,out,ia,ib,mg,ac,bc,rfl,M⟩;dsimp (config:={zeta:=false,zetaHave:=false}) only
   extract_lets c1 out1 c2 ia1 c3 ib1 c4 mg1 c5 ac1 bc1 ib2 jp mg2
   have la:=M.la;have lb:=M.lb;have ge:=M.ge;refine M6 (f:=jp ()) λg=>?_;refine wpS_bind (Fh X λt X=>wpS_bind (Bb lb (wpS_bind (TY hc X.kd (gb lb) ma (by dsimp only[ia1,c2,c1];lia) (by dsimp only[ia1,c2,c1];lia) (λx y h1 h2 h3=>sA x y (Nat.zero_le _) h2 (by dsimp only[ia1,c2,c1]at h3;lia)) λr hr r1 r2=>?_))));dsimp (config:={zeta:=false,zetaHave:=false}) only;rw[<-A9 (κ:=κ)]at r1 r2
   extract_lets ac2 jp2 out2 ia2
   refine Gq (f:=jp2 ()) (λout' ia'=>MI κ a b out' ia' ib/\ia'+1<a.size/\ia<=ia'/\ky κ b ib<=ky κ a ia') (λout' ia' R=>?_) λJ=>?_
   ·obtain⟨R1,R2,R3,R4⟩:=R;have MB:=R1.oneB sA lb R4;refine wpS_bind (Bb lb (AX (λz=>wpS_pure ⟨X,.inl ⟨_,_,rfl,MB.doneB (eq_of_beq z)⟩⟩) λz=>?_));have lb2:ib+1<b.size:=Y5 lb (DJ z);have la2:ia'<a.size:=by lia
    refine wpS_bind (Bb la2 (wpS_bind (TZ hc X.kd (ga la2) mb (show ib+1+(b.size-(ib+1))<=b.size by lia) (show 0<b.size-(ib+1) by lia) (λx y h1 h2 (h3:y<ib+1+(b.size-(ib+1)))=>sB x y (YS _) h2 (by lia)) λr' (hr':r'<=b.size-(ib+1)) (r1':∀j,ib+1<=j->j<ib+1+r'->ky κ b j<κ a[ia']) (r2':∀j,ib+1+r'<=j->j<ib+1+(b.size-(ib+1))->κ a[ia']<=ky κ b j)=>?_)));rw[<-A9 (κ:=κ)]at r1' r2';dsimp (config:={zeta:=false,zetaHave:=false}) only
    extract_lets bc2 ia4 jp3 out3 ib3
    have MC:MI κ a b ((out'.push b[ib])++b.extract (ib+1) (ib+1+r')) ia' (ib+1+r'):=MB.someB sA λj h1 h2 _=>YI (r1' j h1 h2)
    refine Gq (f:=jp3 ()) (λout' ib'=>MI κ a b out' ia' ib'/\ib'<b.size/\ib+1<=ib'/\ky κ a ia'<=ky κ b ib') (λout' ib' R=>?_) λJ=>?_
    ·obtain⟨S1,S2,S3,S4⟩:=R;have MA:=S1.oneA sB la2 S4;have MD:∀P,P<=i+1+(j+1)->ia'+1+1<a.size->K3 κ a b P (out'.push a[ia']) (ia'+1) ib':=λP hP q=>⟨MA,q,S2,by lia⟩
     refine wpS_bind (Bb la2 (AX (λz=>wpS_pure ⟨X,.inl ⟨_,_,rfl,MA.lastA (eq_of_beq z) hl'⟩⟩) λz=>AX (λ_=>?_) λ_=>?_))
     ·exact wpS_pure ⟨X,.inr ⟨_,_,_,_,_,_,rfl,MD _ (by lia) (Y5 R2 (DJ z))⟩⟩
     ·exact wpS_pure ⟨X,_,_,_,_,_,_,rfl,MD _ (Xr _) (Y5 R2 (DJ z))⟩
    ·refine AX (λz1=>AX (λz=>wpS_pure ⟨X,.inl ⟨_,_,rfl,MC.doneB (eq_of_beq z)⟩⟩) λz=>J _ _ ?_) λz1=>J _ _ ?_
     ·have q:ib+1+r'≠b.size:=DJ z;exact⟨MC,show ib+1+r'<b.size by lia,show ib+1<=ib+1+r' by lia,r2' (ib+1+r') (Xr _) (by lia)⟩
     ·obtain rfl:r'=0:=by lia
      exact⟨MB,lb2,Xr _,r2' (ib+1) (Xr _) (by lia)⟩
   ·have r1:∀j,ia<=j->j<ia+r->ky κ a j<=ky κ b ib:=r1;have r2:∀j,ia+r<=j->j<ia+(a.size-ia)->ky κ b ib<ky κ a j:=r2;have hr:r<=a.size-ia:=hr
    have lt:ia+r<a.size:=by
     rcases Nat.lt_or_ge (ia+r) a.size with z|z
     ·exact z
     ·have z1:=r1 (a.size-1) (by lia) (by lia);have z2:=hl ib lb;lia
    have MC:MI κ a b (out++a.extract ia (ia+r)) (ia+r) ib:=M.mi.someA sB λj h1 h2 _=>r1 j h1 h2
    refine AX (λz1=>AX (λz=>wpS_pure ⟨X,.inl ⟨_,_,rfl,MC.lastA (eq_of_beq z) hl'⟩⟩) λz=>AX (λy=>?_) λ_=>J _ _ ?_) λz1=>J _ _ ?_
    ·have y:ia+r=a.size:=eq_of_beq y;lia
    ·have q:ia+r+1≠a.size:=DJ z;exact⟨MC,show ia+r+1<a.size by lia,af _ _,YI (r2 (ia+r) (Xr _) (by lia))⟩
    ·obtain rfl:r=0:=by lia
     exact⟨M.mi,la,Xr _,YI (r2 ia (Xr _) (by lia))⟩
  ·rintro c t ⟨X,out,ia,ib,mg,ac,bc,rfl,M⟩;have:=M.la;have:=M.lb;have:=M.ge;lia
  clear M X;rintro c t ⟨X,⟨r,o,rfl,R⟩|⟨out,ia,ib,mg,ac,bc,rfl,M⟩⟩
  ·exact wpS_pure (wpS_pure (h _ _ X R))
  exact wpS_bind (Fh X λt X=>wpS_pure ⟨X,_,_,_,_,rfl,M⟩)
 ·rintro c t ⟨X,out,ia,ib,mg,rfl,M⟩;have:=M.la;have:=M.lb;have:=M.ge;lia
end
structure MJ(κ:Keyed->Int)(a b:Array Keyed)(out:Array Keyed)(na nb:Nat):Prop where
 ua:Up κ (a.toList.take na++out.toList.reverse)
 ub:Up κ (b.toList.take nb++out.toList.reverse)
 pm:(a.toList.take na++(b.toList.take nb++out.toList.reverse)).Perm (a.toList++b.toList)
structure SB(κ:Keyed->Int)(a b:Array Keyed)(P:Nat)(out:Array Keyed)(na nb:Nat):Prop where
 mi:MJ κ a b out na nb
 la:1<=na
 lb:2<=nb
 za:na<=a.size
 zb:nb<=b.size
 ge:na+nb+P<=a.size+b.size
section
variable{κ:Keyed->Int}{a b out:Array Keyed}{na nb at':Nat}
theorem Ho(a:Array Keyed)(i j:Nat):(a.extract i j).toList=(a.toList.take j).drop i:=by rw[ZV,ZE,List.drop_take]
theorem Hq(a:Array Keyed)(h:i<=j):a.toList.take j=a.toList.take i++(a.extract i j).toList:=by
 rw[Ho];have e:a.toList.take i=(a.toList.take j).take i:=by rw[List.take_take,aq h]
 rw[e,Ye]
theorem M7{a:Array Keyed}(h:y∈(a.extract i j).toList):∃x,i<=x/\x<j/\x<a.size/\κ y=ky κ a x:=by rw[Ho]at h;obtain⟨x,h1,h2,e⟩:=CL h;rw[YC,YF]at h2;refine⟨x,h1,by lia,by lia,?_⟩;rw[<-e,aQ,Yr,A9]
theorem Jw{a:Array Keyed}(h:y∈a.toList.take j):∃x,x<j/\x<a.size/\κ y=ky κ a x:=by obtain⟨x,h2,e⟩:=Z2.mp h;rw[YC,YF]at h2;refine⟨x,by lia,by lia,?_⟩;rw[<-e,aQ,Yr,A9]
theorem MJ.someA(M:MJ κ a b out na nb)(hn:at'<=na)(h:∀x y,at'<=x->x<na->x<a.size->y<nb->y<b.size->ky κ b y<=ky κ a x):MJ κ a b (out++(a.extract at' na).reverse) at' nb:=by
 obtain⟨h1,h2,h3⟩:=M;have e:(out++(a.extract at' na).reverse).toList.reverse=(a.extract at' na).toList++out.toList.reverse:=by simp
 rw[Hq a hn,YG]at h1 h3;refine⟨by rw[e];exact h1,?_,?_⟩
 ·rw[e];have z1:=Br.mp h1;have z2:=Br.mp h2;rw[Br];refine⟨z2.1,z1.2.1,λx hx y hy=>?_⟩;rcases Xq.mp hy with z|z
  ·obtain⟨x',q1,q2,e1⟩:=Jw (κ:=κ) hx;obtain⟨y',q3,q4,q5,e2⟩:=M7 (κ:=κ) z;rw[e1,e2];exact h _ _ q3 q4 q5 q1 q2
  ·exact z2.2.2 x hx y z
 ·rw[e];refine List.Perm.trans (Zq _ ?_) h3;rw[<-YG,<-YG];exact aN _ Zr
theorem MJ.someB(M:MJ κ a b out na nb)(hn:at'<=nb)(h:∀x y,at'<=x->x<nb->x<b.size->y<na->y<a.size->ky κ a y<=ky κ b x):MJ κ a b (out++(b.extract at' nb).reverse) na at':=by
 obtain⟨h1,h2,h3⟩:=M;have e:(out++(b.extract at' nb).reverse).toList.reverse=(b.extract at' nb).toList++out.toList.reverse:=by simp
 rw[Hq b hn,YG]at h2 h3;refine⟨?_,by rw[e];exact h2,by rw[e];exact h3⟩;rw[e];have z1:=Br.mp h1;have z2:=Br.mp h2;rw[Br];refine⟨z1.1,z2.2.1,λx hx y hy=>?_⟩;rcases Xq.mp hy with z|z
 ·obtain⟨x',q1,q2,e1⟩:=Jw (κ:=κ) hx;obtain⟨y',q3,q4,q5,e2⟩:=M7 (κ:=κ) z;rw[e1,e2];exact h _ _ q3 q4 q5 q1 q2
 ·exact z1.2.2 x hx y z
theorem K4(out a:Array Keyed)(i:Nat)(h:i<a.size):out.push a[i]=out++(a.extract i (i+1)).reverse:=by rw[M5 a i h];simp
theorem MJ.oneA(M:MJ κ a b out (na+1) nb)(sB:DM κ b 0 b.size)(hn:na<a.size)(h1:1<=nb)(h2:nb<=b.size)(h:ky κ b (nb-1)<=ky κ a na):MJ κ a b (out.push a[na]) na nb:=by
 rw[K4 out a na hn];refine M.someA (Zd _) λx y q1 q2 _ q3 q4=>?_;obtain rfl:x=na:=by lia
 exact Yi (sB y (nb-1) (YS _) (by lia) (by lia)) h
theorem MJ.oneB(M:MJ κ a b out na (nb+1))(sA:DM κ a 0 a.size)(hn:nb<b.size)(h1:1<=na)(h2:na<=a.size)(h:ky κ a (na-1)<=ky κ b nb):MJ κ a b (out.push b[nb]) na nb:=by
 rw[K4 out b nb hn];refine M.someB (Zd _) λx y q1 q2 _ q3 q4=>?_;obtain rfl:x=nb:=by lia
 exact Yi (sA y (na-1) (YS _) (by lia) (by lia)) h
theorem Fi(a:Array Keyed)(i:Nat):(a.extract 0 i).toList=a.toList.take i:=by rw[Ho,aS]
theorem MJ.doneA(M:MJ κ a b out na nb)(h:na=0):LL κ a b (a.extract 0 na++b.extract 0 nb++out.reverse):=by unfold LL;rw[YU,YU,Fi,Fi,am,YG];refine⟨M.pm,?_⟩;rw[h,List.take_zero,ap];exact M.ub
theorem MJ.firstB(M:MJ κ a b out na nb)(h:nb=1)(h0:∀j,j<a.size->ky κ b 0<=ky κ a j):LL κ a b (b.extract 0 nb++a.extract 0 na++out.reverse):=by
 unfold LL;rw[YU,YU,Fi,Fi,am,YG];refine⟨List.Perm.trans ?_ M.pm,?_⟩
 ·rw[<-YG,<-YG];exact aN _ Zr
 have z1:=Br.mp M.ua;have z2:=Br.mp M.ub;rw[Br];refine⟨z2.1,M.ua,λx hx y hy=>?_⟩;rcases Xq.mp hy with z|z
 ·obtain⟨x',q1,q2,e1⟩:=Jw (κ:=κ) hx;obtain⟨y',q3,q4,e2⟩:=Jw (κ:=κ) z;rw[e1,e2];obtain rfl:x'=0:=by lia
  exact h0 _ q4
 ·exact z2.2.2 x hx y z
end
section
variable{prog:Program}{w:World}{A:Around}{k:SortKind}{a₀ xs:Array Keyed}{p:Array (Nat×Nat×Nat)}{κ:Keyed->Int}{st:SortSt}
theorem N9(hc:Gc prog w A s k a₀ κ)(X:SX k xs p st){a b:Array Keyed}(ma:∀x∈a.toList,x∈a₀.toList)(mb:∀x∈b.toList,x∈a₀.toList)(sA:DM κ a 0 a.size)(sB:DM κ b 0 b.size)(ha:0<a.size)(hb:0<b.size)
  (h0:ky κ b 0<ky κ a 0) (hl:ky κ b (b.size-1)<ky κ a (a.size-1)) {Q:Array Keyed->SortSt->Prop} (h:∀out t,SX k xs p t->LL κ a b out->Q out t):wpS (model prog w) A E s (Px a b) Q st:=by
 have ga:∀{i:Nat} (hi:i<a.size),a[i]∈a₀.toList:=λ{i} hi=>ma _ (by simp)
 have gb:∀{i:Nat} (hi:i<b.size),b[i]∈a₀.toList:=λ{i} hi=>mb _ (by simp)
 have hf:∀j,j<a.size->ky κ b 0<ky κ a j:=λj hj=>Int.lt_of_lt_of_le h0 (sA 0 j (YS _) (YS _) hj)
 have hf':∀j,j<a.size->ky κ b 0<=ky κ a j:=λj hj=>YI (hf j hj)
 refine wpS_bind (wpS_lift (wpAny_rule ⟨rfl,?_⟩));refine wpS_bind (Bb (show a.size-1<a.size by lia) ?_)
 have M0:MJ κ a b #[a[a.size-1]] (a.size-1) b.size:=by
  have z:MJ κ a b #[] (a.size-1+1) b.size:=by rw[show a.size-1+1=a.size by lia];have e1:a.toList.take a.size=a.toList:=List.take_of_length_le (by simp);have e2:b.toList.take b.size=b.toList:=List.take_of_length_le (by simp);exact⟨by rw[e1];simpa using Hm.mpr sA,by rw[e2];simpa using Hm.mpr sB,by rw[e1,e2];simp⟩
  have z:=z.oneA sB (by lia) hb (Xr _) (YI hl);simpa using z
 refine AX (λe=>?_) λe=>AX (λe2=>?_) λe2=>?_
 ·exact wpS_pure (h _ _ X (M0.doneA (eq_of_beq e)))
 ·exact wpS_pure (h _ _ X (M0.firstB (eq_of_beq e2) hf'))
 have e:a.size-1≠0:=DJ e;have e2:b.size≠1:=DJ e2;refine wpS_bind (wpS_get ?_);refine wpS_bind (wpS_forRange (I:=λi c t=>SX k xs p t/\∃na nb out mg,c=(none,na,nb,out,mg)/\SB κ a b (i+1) out na nb) ?_ ?_ ⟨X,_,_,_,_,rfl,M0,by lia,by lia,by lia,Xr _,by lia⟩)
 ·rintro i c t _ hi ⟨X,na,nb,out,mg,rfl,M⟩;refine wpS_bind (wpS_mono (wpS_forRange (I:=λ_ c t=>SX k xs p t/\∃na nb out ac bc,c=(none,na,nb,out,ac,bc)/\SB κ a b (i+1) out na nb) (Q:=λc t=>SX k xs p t/\((∃r o,c=(some r,o)/\LL κ a b r)\/∃na nb out ac bc,c=(none,na,nb,out,ac,bc)/\SB κ a b (i+1) out na nb)) ?_ ?_ ⟨X,na,nb,out,0,0,rfl,M⟩) ?_)
  ·clear M X;rintro j c t _ hj ⟨X,na,nb,out,ac,bc,rfl,M⟩;obtain⟨M,la,lb,za,zb,ge⟩:=M;obtain⟨m,rfl⟩:∃m,na=m+1:=⟨na-1,by lia⟩;obtain⟨n,rfl⟩:∃n,nb=n+1:=⟨nb-1,by lia⟩;have lm:m<a.size:=za;have ln:n<b.size:=zb;refine wpS_bind (Bb ln (wpS_bind (Bb lm (wpS_bind (Py hc X (gb ln) (ga lm) (λz=>?_) λz=>?_)))))
   ·refine AX (λ_=>?_) (λz=>qG rfl z);rw[<-A9 (κ:=κ),<-A9 (κ:=κ)]at z;have M2:=M.oneA sB lm (by lia) zb (YI z);have M3:m≠0->SB κ a b (i+1) (out.push a[m]) m (n+1):=λq=>⟨M2,by lia,lb,by lia,zb,by lia⟩
    refine wpS_bind (Bb lm (AX (λz=>?_) λz=>AX (λ_=>?_) λ_=>?_))
    ·exact wpS_pure ⟨X,.inl ⟨_,_,rfl,M2.doneA (eq_of_beq z)⟩⟩
    ·exact wpS_pure ⟨X,.inr ⟨_,_,_,_,_,rfl,M3 (DJ z)⟩⟩
    ·exact wpS_pure ⟨X,_,_,_,_,_,rfl,M3 (DJ z)⟩
   ·refine AX (λz=>qG z (by decide)) (λ_=>?_);rw[<-A9 (κ:=κ),<-A9 (κ:=κ)]at z;have M2:=M.oneB sA ln la za z;have M3:n≠1->SB κ a b (i+1) (out.push b[n]) (m+1) n:=λq=>⟨M2,la,by lia,za,by lia,by lia⟩
    refine wpS_bind (Bb ln (AX (λz=>?_) λz=>AX (λ_=>?_) λ_=>?_))
    ·exact wpS_pure ⟨X,.inl ⟨_,_,rfl,M2.firstB (eq_of_beq z) hf'⟩⟩
    ·exact wpS_pure ⟨X,.inr ⟨_,_,_,_,_,rfl,M3 (DJ z)⟩⟩
    ·exact wpS_pure ⟨X,_,_,_,_,_,rfl,M3 (DJ z)⟩
  ·rintro c t ⟨X,na,nb,out,ac,bc,rfl,M⟩;exact⟨X,.inr ⟨na,nb,out,ac,bc,rfl,M⟩⟩
  clear M X;rintro c t ⟨X,⟨r,o,rfl,R⟩|⟨na,nb,out,ac,bc,rfl,M⟩⟩
  ·exact wpS_pure (wpS_pure (h _ _ X R))
  refine wpS_bind (wpS_lift (wpAny_rule ⟨rfl,?_⟩));refine wpS_bind (wpS_mono (wpS_forRange (I:=λj c t=>SX k xs p t/\∃na nb out mg ac bc,c=(none,na,nb,out,mg,ac,bc)/\SB κ a b (i+1+j) out na nb) (Q:=λc t=>SX k xs p t/\((∃r o,c=(some r,o)/\LL κ a b r)\/∃na nb out mg ac bc,c=(none,na,nb,out,mg,ac,bc)/\SB κ a b (i+1+1) out na nb)) ?_ ?_ ⟨X,_,_,_,_,_,_,rfl,M⟩) ?_)
  ·clear M X;rintro j c t _ hj ⟨X,na,nb,out,mg,ac,bc,rfl,M⟩;obtain⟨M,la,lb,za,zb,ge⟩:=M;obtain⟨n,rfl⟩:∃n,nb=n+1:=⟨nb-1,by lia⟩;have ln:n<b.size:=zb;dsimp (config:={zeta:=false,zetaHave:=false}) only
   extract_lets c1 na1 c2 nb1 c3 out1 c4 mg1 c5 ac1 bc1 nb2 jp mg2
   refine M6 (f:=jp ()) λg=>?_;refine wpS_bind (Fh X λt X=>wpS_bind (Bb ln (wpS_bind (TY hc X.kd (gb ln) ma (show 0+na<=a.size by lia) (show na-1<na by lia) (λx y h1 h2 (h3:y<0+na)=>sA x y (YS _) h2 (by lia)) λr (hr:r<=na) (r1:∀j,0<=j->j<0+r->ky κ a j<=κ b[n]) (r2:∀j,0+r<=j->j<0+na->κ b[n]<ky κ a j)=>?_))));rw[<-A9 (κ:=κ)]at r1 r2;simp only[Nat.zero_add]at r1 r2;dsimp (config:={zeta:=false,zetaHave:=false}) only
   extract_lets k1 ac2 jp2 out2 na2
   refine Gq (f:=jp2 ()) (λna' out'=>MJ κ a b out' na' (n+1)/\1<=na'/\na'<=na/\ky κ a (na'-1)<=ky κ b n) (λna' out' R=>?_) λJ=>?_
   ·obtain⟨R1,R2,R3,R4⟩:=R;have MB:=R1.oneB sA ln R2 (by lia) R4;refine wpS_bind (Bb ln (AX (λz=>wpS_pure ⟨X,.inl ⟨_,_,rfl,MB.firstB (eq_of_beq z) hf'⟩⟩) λz=>?_));have lb2:n≠1:=DJ z;obtain⟨m,rfl⟩:∃m,na'=m+1:=⟨na'-1,by lia⟩;have lm:m<a.size:=by lia
    refine wpS_bind (Bb lm (wpS_bind (TZ hc X.kd (ga lm) mb (show 0+n<=b.size by lia) (show n-1<n by lia) (λx y h1 h2 (h3:y<0+n)=>sB x y (YS _) h2 (by lia)) λr' (hr':r'<=n) (r1':∀j,0<=j->j<0+r'->ky κ b j<κ a[m]) (r2':∀j,0+r'<=j->j<0+n->κ a[m]<=ky κ b j)=>?_)));rw[<-A9 (κ:=κ)]at r1' r2';simp only[Nat.zero_add]at r1' r2'
    have r0:1<=r':=by
     rcases ZS r' with z|z
     ·have z1:=r2' 0 (by lia) (by lia);have z2:=hf m lm;lia
     ·exact z
    dsimp (config:={zeta:=false,zetaHave:=false}) only
    extract_lets k2 bc2 na4 jp3 out3 nb3
    have MC:MJ κ a b (out'.push b[n]++(b.extract r' n).reverse) (m+1) r':=MB.someB hr' λx y q1 q2 _ q3 q4=>Yi (sA y m (YS _) (by lia) lm) (r2' x q1 q2)
    refine Gq (f:=jp3 ()) (λnb' out'=>MJ κ a b out' (m+1) nb'/\2<=nb'/\nb'<=n/\ky κ b (nb'-1)<=ky κ a m) (λnb' out' R=>?_) λJ=>?_
    ·obtain⟨S1,S2,S3,S4⟩:=R;have MA:=S1.oneA sB lm (by lia) (by lia) S4;have MD:∀P,P<=i+1+(j+1)->m≠0->SB κ a b P (out'.push a[m]) m nb':=λP hP q=>⟨MA,by lia,S2,by lia,by lia,by lia⟩
     refine wpS_bind (Bb lm (AX (λz=>wpS_pure ⟨X,.inl ⟨_,_,rfl,MA.doneA (eq_of_beq z)⟩⟩) λz=>AX (λ_=>?_) λ_=>?_))
     ·exact wpS_pure ⟨X,.inr ⟨_,_,_,_,_,_,rfl,MD _ (by lia) (DJ z)⟩⟩
     ·exact wpS_pure ⟨X,_,_,_,_,_,_,rfl,MD _ (Xr _) (DJ z)⟩
    ·refine AX (λz1=>AX (λz=>wpS_pure ⟨X,.inl ⟨_,_,rfl,MC.firstB (eq_of_beq z) hf'⟩⟩) λz=>AX (λy=>?_) λ_=>J _ _ ?_) λz1=>J _ _ ?_
     ·have y:r'=0:=eq_of_beq y;lia
     ·have q:r'≠1:=DJ z;exact⟨MC,show 2<=r' by lia,hr',YI (r1' (r'-1) (YS _) (by lia))⟩
     ·have z1:¬n-r'>0:=z1;exact⟨MB,show 2<=n by lia,Xr _,YI (r1' (n-1) (YS _) (by lia))⟩
   ·have MC:MJ κ a b (out++(a.extract r na).reverse) r (n+1):=M.someA hr λx y q1 q2 _ q3 q4=>Yi (sB y n (YS _) (by lia) ln) (YI (r2 x q1 q2))
    refine AX (λz1=>AX (λz=>wpS_pure ⟨X,.inl ⟨_,_,rfl,MC.doneA (eq_of_beq z)⟩⟩) λz=>J _ _ ?_) λz1=>J _ _ ?_
    ·have q:r≠0:=DJ z;exact⟨MC,show 1<=r by lia,hr,r1 (r-1) (YS _) (by lia)⟩
    ·have z1:¬na-r>0:=z1;exact⟨M,la,Xr _,r1 (na-1) (YS _) (by lia)⟩
  ·rintro c t ⟨X,na,nb,out,mg,ac,bc,rfl,M⟩;have:=M.la;have:=M.lb;have:=M.ge;lia
  clear M X;rintro c t ⟨X,⟨r,o,rfl,R⟩|⟨na,nb,out,mg,ac,bc,rfl,M⟩⟩
  ·exact wpS_pure (wpS_pure (h _ _ X R))
  exact wpS_bind (Fh X λt X=>wpS_pure ⟨X,_,_,_,_,rfl,M⟩)
 ·rintro c t ⟨X,na,nb,out,mg,rfl,M⟩;have:=M.la;have:=M.lb;have:=M.ge;lia
end
structure Wi(κ:Keyed->Int)(xs xs':Array Keyed)(lo hi:Nat):Prop where
 pm:xs'.toList.Perm xs.toList
 ot:∀j,j<lo\/hi<=j->xs'[j]?=xs[j]?
 up:DM κ xs' lo hi
section
variable{κ:Keyed->Int}{xs xs':Array Keyed}
theorem MQ:∀(l:List Keyed) (off at':Nat) (xs:Array Keyed),at'+off+l.length<=xs.size->∀j:Nat,((l.zipIdx off).foldl (λa x=>a.setIfInBounds (at'+x.2) x.1) xs)[j]?=if at'+off<=j/\j<at'+off+l.length then l[j-(at'+off)]? else xs[j]?
 |[],off,at',xs,_,j=>by rw[qE (by simp only[List.length_nil];lia)];rfl
 |y::l,off,at',xs,h,j=>by
  rw[YZ]at h;rw[List.zipIdx_cons,List.foldl_cons,MQ l _ _ _ (by rw[Array.size_setIfInBounds];lia)];dsimp only;rw[YZ]
  by_cases e:j=at'+off
  ·subst e;rw[qE (by lia),qF (by lia),Yq,Array.getElem?_setIfInBounds_self_of_lt (by lia)];rfl
  ·by_cases e2:at'+off<=j/\j<at'+off+(l.length+1)
   ·rw[qF (by lia),qF e2,show j-(at'+off)=(j-(at'+(off+1)))+1 by lia];rfl
   ·rw[qE (by lia),qE e2,Array.getElem?_setIfInBounds_ne (by lia)]
theorem RI{l:List Keyed}{at' n:Nat}(h:at'+n<=xs.size)(hp:l.Perm ((xs.toList.drop at').take n)):((l.zipIdx 0).foldl (λa x=>a.setIfInBounds (at'+x.2) x.1) xs).toList.Perm xs.toList:=by
 have ln:l.length=n:=by rw[hp.length_eq,YC,Yw,YF];lia
 have e:((l.zipIdx 0).foldl (λa x=>a.setIfInBounds (at'+x.2) x.1) xs).toList=xs.toList.take at'++(l++xs.toList.drop (at'+n)):=by
  apply Zt;intro j;have zl:xs.toList.length=xs.size:=YF;have lt:(xs.toList.take at').length=at':=by rw[YC];lia
  rw[Y3,MQ l 0 at' xs (by lia),ax,ln]
  by_cases e1:j<at'
  ·rw[YL (by lia),qE (by lia),List.getElem?_take_of_lt e1,Y3]
  ·rw[X4 (by lia),lt]
   by_cases e2:j<at'+n
   ·rw[YL (by lia),qF (by lia)]
   ·rw[X4 (by lia),qE (by lia),List.getElem?_drop,Y3]
    congr 1
    lia
 rw[e]
 have e3:xs.toList=xs.toList.take at'++((xs.toList.drop at').take n++xs.toList.drop (at'+n)):=by rw[<-List.drop_drop,Ye,Ye]
 exact (Zq _ (hp.append_right _)).trans (List.Perm.of_eq e3.symm)
theorem Wi.refl{lo hi:Nat}(h:DM κ xs lo hi):Wi κ xs xs lo hi:=⟨.refl _,λ_ _=>rfl,h⟩
theorem MR{sa n1 k sb nb nb':Nat}{m:Array Keyed}(hz:sb+nb<=xs.size)(hk:sa+k<sb)(hn:nb'<=nb)(h1:DM κ xs sa sb)(h2:DM κ xs sb (sb+nb))
  (ha:∀j,sa<=j->j<sa+k->ky κ xs j<=ky κ xs sb) (hb:∀j,sb+nb'<=j->j<sb+nb->ky κ xs (sb-1)<=ky κ xs j) (hnb:1<=nb)
  (hm:LL κ (xs.extract (sa+k) sb) (xs.extract sb (sb+nb')) m):Wi κ xs ((m.toList.zipIdx 0).foldl (λa x=>a.setIfInBounds (sa+k+x.2) x.1) xs) sa (sb+nb):=by
 have e:(xs.extract (sa+k) sb).toList++(xs.extract sb (sb+nb')).toList=(xs.toList.drop (sa+k)).take (sb+nb'-(sa+k)):=by
  rw[ZV,ZV,ZE,ZE]
  have:(xs.toList.drop (sa+k)).take (sb+nb'-(sa+k))=(xs.toList.drop (sa+k)).take (sb-(sa+k))++((xs.toList.drop (sa+k)).drop (sb-(sa+k))).take (sb+nb'-sb):=by
   rw[<-List.take_add]
   congr 1
   lia
  rw[this,List.drop_drop]
  congr 3
  lia
 have pm:=hm.1;rw[e]at pm;have ln:m.toList.length=sb+nb'-(sa+k):=by rw[pm.length_eq,YC,Yw,YF];lia
 have g:∀j,((m.toList.zipIdx 0).foldl (λa x=>a.setIfInBounds (sa+k+x.2) x.1) xs)[j]?=if sa+k<=j/\j<sb+nb' then m.toList[j-(sa+k)]? else xs[j]?:=λj=>by rw[MQ _ _ _ _ (by rw[ln];lia),ln];rw[ax,show sa+k+(sb+nb'-(sa+k))=sb+nb' by lia]
 refine⟨RI (by lia) pm,λj hj=>by rw[g,qE (by lia)],?_⟩;have k1:∀j,¬(sa+k<=j/\j<sb+nb')->ky κ ((m.toList.zipIdx 0).foldl (λa x=>a.setIfInBounds (sa+k+x.2) x.1) xs) j=ky κ xs j:=λj hj=>B4 (by rw[g,qE hj])
 have k2:∀j,sa+k<=j->j<sb+nb'->ky κ ((m.toList.zipIdx 0).foldl (λa x=>a.setIfInBounds (sa+k+x.2) x.1) xs) j=ky κ m (j-(sa+k)):=λj h1 h2=>B4 (by rw[g,qF ⟨h1,h2⟩,Y3])
 have k3:∀j,sa+k<=j->j<sb+nb'->∃i,sa+k<=i/\i<sb+nb'/\ky κ m (j-(sa+k))=ky κ xs i:=λj h1 h2=>by
  have hl:j-(sa+k)<m.size:=by rw[<-YF,ln];lia
  have mem:m[j-(sa+k)]∈m.toList:=by simp
  obtain⟨i,q1,q2,q3,e⟩:=D6 (pm.mem_iff.mp mem);rw[YF]at q3;refine⟨i,q1,by lia,?_⟩;rw[A9 hl,A9 q3,<-e,Yr]
 have sm:=Hm.mp hm.2;have zm:m.size=sb+nb'-(sa+k):=by rw[<-YF,ln]
 intro x y hx hxy hy
 by_cases c1:x<sa+k
 ·rw[k1 x (by lia)]
  by_cases c2:y<sa+k
  ·rw[k1 y (by lia)];exact h1 x y hx hxy (by lia)
  ·by_cases c3:y<sb+nb'
   ·rw[k2 y (by lia) c3];obtain⟨i,q1,q2,e⟩:=k3 y (by lia) c3;rw[e]
    by_cases c4:i<sb
    ·exact h1 x i hx (by lia) c4
    ·exact Yi (ha x hx c1) (h2 sb i (Xr _) (by lia) (by lia))
   ·rw[k1 y (by lia)];exact Yi (ha x hx c1) (h2 sb y (Xr _) (by lia) hy)
 ·by_cases c3:x<sb+nb'
  ·rw[k2 x (by lia) c3]
   by_cases c4:y<sb+nb'
   ·rw[k2 y (by lia) c4];exact sm _ _ (YS _) (by lia) (by lia)
   ·rw[k1 y (by lia)];obtain⟨i,q1,q2,e⟩:=k3 x (by lia) c3;rw[e]
    by_cases c5:i<sb
    ·exact Yi (h1 i (sb-1) (by lia) (by lia) (by lia)) (hb y (by lia) hy)
    ·exact h2 i y (by lia) (by lia) hy
  ·rw[k1 x (by lia),k1 y (by lia)];exact h2 x y (by lia) hxy hy
end
section
variable{prog:Program}{w:World}{A:Around}{k:SortKind}{a₀ xs:Array Keyed}{p:Array (Nat×Nat×Nat)}{κ:Keyed->Int}{st:SortSt}
theorem RJ{t:SortSt}{Q:PUnit->SortSt->Prop}(h:Q ⟨⟩ t):wpS (model prog w) A E s (set t:StateT SortSt Sem PUnit) Q st:=by unfold wpS;rw[StateT.run_set];exact qD ⟨rfl,h⟩
theorem OA(hc:Gc prog w A s k a₀ κ)(X:SX k xs p st)(mx:∀x∈xs.toList,x∈a₀.toList){sa na pw nb pw2:Nat}(e1:p[i]?=some (sa,na,pw))(e2:p[i+1]?=some (sa+na,nb,pw2))(hna:1<=na)(hnb:1<=nb)(hz:sa+na+nb<=xs.size)
  (s1:DM κ xs sa (sa+na)) (s2:DM κ xs (sa+na) (sa+na+nb)) {Q:Bool->SortSt->Prop} (h:∀xs' t,Wi κ xs xs' sa (sa+na+nb)->SX k xs' ((p.setIfInBounds i (sa,na+nb,pw)).eraseIdxIfInBounds (i+1)) t->Q true t):wpS (model prog w) A E s (mergeAt' i) Q st:=by
 have gx:∀{i:Nat} (hi:i<xs.size),xs[i]∈a₀.toList:=λ{i} hi=>mx _ (by simp)
 have zx:DM κ xs sa (sa+na+nb)->∀t,SX k xs ((p.setIfInBounds i (sa,na+nb,pw)).eraseIdxIfInBounds (i+1)) t->Q true t:=λz t T=>h xs t (.refl z) T
 rcases st with⟨k',xs',p',gm,fl⟩;have ek:=X.kd;have ex:=X.ar;have ep:=X.pd;have ef:=X.fl;dsimp only[kindOf,arrOf,pendingOf,failedOf]at ek ex ep ef;subst ek ex ep ef;refine wpS_bind (wpS_get ?_);dsimp (config:={zeta:=false,zetaHave:=false}) only;rw[e1,e2];obtain⟨sb,hsb⟩:∃sb,sb=sa+na:=⟨_,rfl⟩;rw[<-hsb]at s1 s2 hz h zx⊢;have X2:SX k' xs' ((p'.setIfInBounds i (sa,na+nb,pw)).eraseIdxIfInBounds (i+1)) (SortSt.mk' k' xs' ((p'.setIfInBounds i (sa,na+nb,pw)).eraseIdxIfInBounds (i+1)) gm none):=⟨rfl,rfl,rfl,rfl⟩;have lsb:sb<xs'.size:=by lia
 refine wpS_bind (RJ ?_);refine wpS_bind (Bb lsb (wpS_bind (TY hc rfl (gx lsb) mx (by lia) (by lia) (by rw[<-hsb];exact s1) λr hr r1 r2=>?_)));rw[<-A9 (κ:=κ),<-hsb]at r2;rw[<-A9 (κ:=κ)]at r1;refine AX (λz=>?_) λz=>?_
 ·have z:na-r=0:=eq_of_beq z;refine wpS_pure (zx (λx y hx hxy hy=>?_) _ X2)
  by_cases c1:y<sb
  ·exact s1 x y hx hxy c1
  ·by_cases c2:x<sb
   ·exact Yi (r1 x hx (by lia)) (s2 sb y (Xr _) (by lia) hy)
   ·exact s2 x y (by lia) hxy hy
 have z:na-r≠0:=DJ z;have ll:sb-1<xs'.size:=by lia
 have e3:sa+r+(na-r)-1=sb-1:=by lia
 rw[e3];refine wpS_bind (Bb ll (wpS_bind (TZ hc rfl (gx ll) mx (by lia) (by lia) s2 λr' hr' r1' r2'=>?_)));rw[<-A9 (κ:=κ)]at r1' r2';refine AX (λz=>?_) λz=>?_
 ·have z:r'=0:=eq_of_beq z;subst z;refine wpS_pure (zx (λx y hx hxy hy=>?_) _ X2)
  by_cases c1:y<sb
  ·exact s1 x y hx hxy c1
  ·by_cases c2:x<sb
   ·exact Yi (s1 x (sb-1) hx (by lia) (by lia)) (r2' y (by lia) hy)
   ·exact s2 x y (by lia) hxy hy
 have z2:r'≠0:=DJ z
 extract_lets x y jp
 have zx1:(xs'.extract (sa+r) sb).size=sb-(sa+r):=by rw[Array.size_extract];lia
 have zy1:(xs'.extract sb (sb+r')).size=r':=by rw[Array.size_extract];lia
 have kx:∀j,j<sb-(sa+r)->ky κ (xs'.extract (sa+r) sb) j=ky κ xs' (sa+r+j):=λj hj=>B4 (by rw[Array.getElem?_extract,qF (by lia)])
 have ky1:∀j,j<r'->ky κ (xs'.extract sb (sb+r')) j=ky κ xs' (sb+j):=λj hj=>B4 (by rw[Array.getElem?_extract,qF (by lia)])
 have mx1:∀q∈(xs'.extract (sa+r) sb).toList,q∈a₀.toList:=λq hq=>mx q (by rw[Ho]at hq;exact Yp (ZU hq))
 have my1:∀q∈(xs'.extract sb (sb+r')).toList,q∈a₀.toList:=λq hq=>mx q (by rw[Ho]at hq;exact Yp (ZU hq))
 have sx1:DM κ (xs'.extract (sa+r) sb) 0 (xs'.extract (sa+r) sb).size:=λx y _ hxy hy=>by rw[zx1]at hy;rw[kx _ (by lia),kx _ (by lia)];exact s1 _ _ (by lia) (by lia) (by lia)
 have sy1:DM κ (xs'.extract sb (sb+r')) 0 (xs'.extract sb (sb+r')).size:=λx y _ hxy hy=>by rw[zy1]at hy;rw[ky1 _ (by lia),ky1 _ (by lia)];exact s2 _ _ (by lia) (by lia) (by lia)
 have h0:ky κ (xs'.extract sb (sb+r')) 0<ky κ (xs'.extract (sa+r) sb) 0:=by rw[kx _ (by lia),ky1 _ (by lia)];exact r2 _ (by lia) (by lia)
 have hl:∀j,j<r'->ky κ (xs'.extract sb (sb+r')) j<ky κ (xs'.extract (sa+r) sb) ((xs'.extract (sa+r) sb).size-1):=λj hj=>by rw[kx _ (by lia),ky1 _ hj,zx1,show sa+r+(sb-(sa+r)-1)=sb-1 by lia];exact r1' _ (by lia) (by lia)
 have J:∀m t,SX k' xs' ((p'.setIfInBounds i (sa,na+nb,pw)).eraseIdxIfInBounds (i+1)) t->LL κ (xs'.extract (sa+r) sb) (xs'.extract sb (sb+r')) m->wpS (model prog w) A E s (jp m) Q t:=λm t T R=>by refine wpS_bind (wpS_modify (wpS_bind (wpS_get (wpS_pure ?_))));have sw:=MR (n1:=0) hz (by lia) hr' s1 s2 (λj h1 h2=>r1 j h1 h2) (λj h1 h2=>r2' j h1 h2) hnb R;have tf:=T.fl;have ta:=T.ar;have q:=h _ (SortSt.mk' (kindOf t) ((m.toList.zipIdx 0).foldl (λa x=>a.setIfInBounds (sa+r+x.2) x.1) (arrOf t)) (pendingOf t) (gallopOf t) (failedOf t)) sw ⟨T.kd,by show List.foldl _ (arrOf t) _=_;rw[ta],T.pd,T.fl⟩;show Q (failedOf t).isNone _;rw[tf];exact q
 refine AX (λ_=>wpS_bind (N8 hc X2 mx1 my1 sx1 sy1 (by lia) (by lia) h0 (λj hj=>hl j (by lia)) λm t T R=>J m t T R)) λ_=>wpS_bind (N9 hc X2 mx1 my1 sx1 sy1 (by lia) (by lia) h0 (hl _ (by lia)) λm t T R=>J m t T R)
end
structure K5(xs ys:Array Keyed)(lo:Nat):Prop where
 pm:ys.toList.Perm xs.toList
 ot:∀j,j<lo->ys[j]?=xs[j]?
def Uc(κ:Keyed->Int)(xs:Array Keyed)(i j:Nat):Prop:=∀x y,i<=x->x<=y->y<j->ky κ xs y<=ky κ xs x
section
variable{κ:Keyed->Int}{xs ys:Array Keyed}{lo:Nat}
theorem K5.size(h:K5 xs ys lo):ys.size=xs.size:=by have z:=h.pm.length_eq;simpa using z
theorem K5.mirror(h:K5 xs ys lo)(hi:lo<=i)(hj:j<=ys.size):K5 xs (mirror ys i j ((j-i)/2)) lo:=
 ⟨(Zx.mp (mirror_perm ..)).trans h.pm,λx hx=>by rw[getElem?_mirror_all hj,qE (by lia)];exact h.ot x hx⟩
theorem K5.bubble(h:K5 xs ys lo){src d:Nat}(hs:src<ys.size)(hd:lo+d<=src):K5 xs (bubble ys src d) lo:=
 ⟨(Zx.mp (bubble_perm ..)).trans h.pm,λx hx=>by rw[getElem?_bubble hs _ (by lia),qE (by lia),qE (by lia)];exact h.ot x hx⟩
theorem GC(hj:j<=xs.size)(x:Nat):ky κ (mirror xs i j ((j-i)/2)) x=if i<=x/\x<j then ky κ xs (i+j-1-x) else ky κ xs x:=by
 have e:=getElem?_mirror_all (i:=i) hj x;split
 ·rw[qF ‹_›]at e;exact B4 e
 ·rw[qE ‹_›]at e;exact B4 e
theorem CM(hj:j<=xs.size)(h:∀x,i<=x->x<j->ky κ xs x=ky κ xs (j-1))(x:Nat):ky κ (mirror xs i j ((j-i)/2)) x=ky κ xs x:=by
 rw[GC hj];split
 ·rw[h _ (by lia) (by lia),h x (by lia) (by lia)]
 ·rfl
end
section
variable{prog:Program}{w:World}{A:Around}{k:SortKind}{a₀ xs ys:Array Keyed}{p:Array (Nat×Nat×Nat)}{κ:Keyed->Int}{st:SortSt}{lo:Nat}
theorem Et(hc:Gc prog w A s k a₀ κ)(X:SX k ys p st)(my:∀x∈ys.toList,x∈a₀.toList)(hi:i<ys.size)(hj:j<ys.size){Q:Option Bool->SortSt->Prop}(h1:ky κ ys i<ky κ ys j->Q (some true) st)(h2:ky κ ys j<=ky κ ys i->Q (some false) st):wpS (model prog w) A E s (ltAt' i j) Q st:=by
 rw[ltAt'_eq];refine wpS_bind (wpS_get ?_);dsimp only;rw[X.ar];refine wpS_bind (Bb hi (wpS_bind (Bb hj (Py hc X (my _ (by simp)) (my _ (by simp)) ?_ ?_))))
 ·rw[<-A9 (κ:=κ),<-A9 (κ:=κ)];exact h1
 ·rw[<-A9 (κ:=κ),<-A9 (κ:=κ)];exact h2
theorem M9(X:SX k ys p st){Q:Unit->SortSt->Prop}(h:∀t,SX k (mirror ys i j ((j-i)/2)) p t->Q () t):wpS (model prog w) A E s (reverseSlice' i j) Q st:=by rw[reverseSlice'_eq];exact wpS_modify (h _ ⟨X.kd,by show mirror (arrOf st) _ _ _=_;rw[X.ar],X.pd,X.fl⟩)
theorem Ta(X:SX k ys p st){Q:Unit->SortSt->Prop}(h:∀t,SX k (bubble ys i (i-j)) p t->Q () t):wpS (model prog w) A E s (moveDown' i j) Q st:=by rw[moveDown'_eq];exact wpS_modify (h _ ⟨X.kd,by show bubble (arrOf st) _ _=_;rw[X.ar],X.pd,X.fl⟩)
theorem MS(hc:Gc prog w A s k a₀ κ)(X:SX k xs p st)(mx:∀x∈xs.toList,x∈a₀.toList){nrem:Nat}(h1:1<=nrem)(hz:lo+nrem<=xs.size){Q:Option Nat->SortSt->Prop}
  (h:∀r ys t,1<=r->r<=nrem->SX k ys p t->K5 xs ys lo->DM κ ys lo (lo+r)->Q (some r) t):wpS (model prog w) A E s (countRun' lo nrem) Q st:=by
 have one:∀{ys:Array Keyed},DM κ ys lo (lo+1):=λ{ys} x y h1 h2 h3=>by
  obtain rfl:x=y:=by lia
  exact Yu _
 have grow:∀{ys:Array Keyed} {n:Nat},1<=n->DM κ ys lo (lo+n)->ky κ ys (lo+n-1)<=ky κ ys (lo+n)->DM κ ys lo (lo+(n+1)):=λ{ys n} n1 hs hle x y q1 q2 q3=>by
  by_cases c:y<lo+n
  ·exact hs x y q1 q2 c
  ·obtain rfl:y=lo+n:=by lia
   by_cases c2:x=lo+n
   ·subst c2;exact Yu _
   ·exact Yi (hs x (lo+n-1) q1 (by lia) (by lia)) hle
 have K0:K5 xs xs lo:=⟨.refl _,λ_ _=>rfl⟩;refine wpS_bind (wpS_mono (wpS_forRange (I:=λn c t=>t=st/\c=(none,n)/\DM κ xs lo (lo+n)) (Q:=λc t=>t=st/\∃n,c=(none,n)/\1<=n/\n<=nrem/\DM κ xs lo (lo+n)/\(n=nrem\/ky κ xs (lo+n)<ky κ xs (lo+n-1))) ?_ ?_ ⟨rfl,rfl,one⟩) ?_)
 ·rintro n c t q1 q2 ⟨rfl,rfl,hs⟩;refine wpS_bind (Et hc X mx (show lo+n<xs.size by lia) (show lo+n-1<xs.size by lia) (λz=>?_) λz=>?_)
  ·exact AX (λ_=>wpS_pure ⟨rfl,n,rfl,q1,by lia,hs,.inr z⟩) λz=>qG rfl z
  ·exact AX (λz=>qG z (by decide)) λ_=>wpS_pure ⟨rfl,rfl,grow q1 hs z⟩
 ·rintro c t ⟨rfl,rfl,hs⟩;rw[show max 1 nrem=nrem by lia]at hs⊢;exact⟨rfl,nrem,rfl,h1,Xr _,hs,.inl rfl⟩
 rintro c t ⟨rfl,n,rfl,n1,nn,hs,hor⟩;refine AX (λz=>wpS_pure (h n xs _ n1 nn X K0 hs)) λz=>?_;have z:n≠nrem:=DJ z;have hlt:=hor.resolve_left z
 extract_lets n2 n3 jp
 have J:∀ys t,SX k ys p t->K5 xs ys lo->Uc κ ys lo (lo+(n+1))->wpS (model prog w) A E s (jp ()) Q t:=λys t X K D=>by
  refine wpS_bind (wpS_lift (wpAny_rule ⟨rfl,?_⟩));have zy:=K.size
  refine wpS_bind (wpS_mono (wpS_forRange (I:=λm c t=>∃q zs,c=(none,m,q)/\SX k zs p t/\K5 xs zs lo/\Uc κ zs lo (lo+m)/\q+1<=m/\∀x,lo+m-(q+1)<=x->x<lo+m->ky κ zs x=ky κ zs (lo+m-1))
   (Q:=λc t=>∃m q zs,c=(none,m,q)/\1<=m/\m<=nrem/\SX k zs p t/\K5 xs zs lo/\Uc κ zs lo (lo+m)/\q+1<=m/\∀x,lo+m-(q+1)<=x->x<lo+m->ky κ zs x=ky κ zs (lo+m-1)) ?_ ?_ ⟨0,ys,rfl,X,K,D,Nat.le_add_left _ _,λx q1 q2=>by
    have q1:lo+(n+1)-(0+1)<=x:=q1;have q2:x<lo+(n+1):=q2;show ky κ ys x=ky κ ys (lo+(n+1)-1)
    congr 1;lia⟩) ?_)
  ·rintro m c t (q1:n+1<=m) q2 ⟨q,zs,rfl,X,K,D,hq,he⟩;have zz:=K.size;have mz:∀x∈zs.toList,x∈a₀.toList:=λx hx=>mx x (K.pm.mem_iff.mp hx)
   refine wpS_bind (Et hc X mz (show lo+m<zs.size by lia) (show lo+m-1<zs.size by lia) (λz=>?_) λz=>?_)
   ·have dn:∀us:Array Keyed,(∀x,ky κ us x=ky κ zs x)->Uc κ us lo (lo+(m+1)):=λus hu x y r1 r2 r3=>by
     rw[hu,hu]
     by_cases c:y<lo+m
     ·exact D x y r1 r2 c
     ·obtain rfl:y=lo+m:=by lia
      by_cases c2:x=lo+m
      ·subst c2;exact Yu _
      ·exact Yi (YI z) (D x (lo+m-1) r1 (by lia) (by lia))
    have last:∀us:Array Keyed,∀x,lo+(m+1)-(0+1)<=x->x<lo+(m+1)->ky κ us x=ky κ us (lo+(m+1)-1):=λus x r1 r2=>by congr 1;lia
    refine AX (λ_=>AX (λg=>?_) λg=>?_) λz=>qG rfl z
    ·refine wpS_bind (M9 X λt X=>wpS_pure ⟨0,_,rfl,X,K.mirror (show lo<=lo+m-(q+1) by lia) (show lo+m<=zs.size by lia),dn _ (CM (show lo+m<=zs.size by lia) he),by lia,last _⟩)
    ·exact wpS_pure ⟨0,_,rfl,X,K,dn _ λ_=>rfl,by lia,last _⟩
   ·refine AX (λz=>qG z (by decide)) λ_=>?_;refine wpS_bind (Et hc X mz (show lo+m-1<zs.size by lia) (show lo+m<zs.size by lia) (λz2=>?_) λz2=>?_)
    ·exact AX (λ_=>wpS_pure ⟨m,q,zs,rfl,by lia,by lia,X,K,D,hq,he⟩) λz=>qG rfl z
    ·have ee:ky κ zs (lo+m)=ky κ zs (lo+m-1):=by lia
     refine AX (λz=>qG z (by decide)) λ_=>wpS_pure ⟨q+1,zs,rfl,X,K,λx y r1 r2 r3=>?_,by lia,λx r1 r2=>?_⟩
     ·by_cases c:y<lo+m
      ·exact D x y r1 r2 c
      ·obtain rfl:y=lo+m:=by lia
       by_cases c2:x=lo+m
       ·subst c2;exact Yu _
       ·rw[ee];exact D x (lo+m-1) r1 (by lia) (by lia)
     ·rw[show lo+(m+1)-1=lo+m by lia]
      by_cases c:x=lo+m
      ·subst c;rfl
      ·rw[ee];exact he x (by lia) (by lia)
  ·rintro c t ⟨q,zs,rfl,X,K,D,hq,he⟩;have em:max (n+1) nrem=nrem:=by lia
   have D:Uc κ zs lo (lo+max (n+1) nrem):=D;have hq:q+1<=max (n+1) nrem:=hq;have he:∀x,lo+max (n+1) nrem-(q+1)<=x->x<lo+max (n+1) nrem->ky κ zs x=ky κ zs (lo+max (n+1) nrem-1):=he;rw[em]at D hq he;exact⟨nrem,q,zs,by show (none,max (n+1) nrem,q)=_;rw[em],h1,Xr _,X,K,D,hq,he⟩
  rintro c t ⟨m,q,zs,rfl,m1,mn,X,K,D,hq,he⟩
  extract_lets c1 c2 c3 c4 jp2
  have J2:∀us t,SX k us p t->K5 xs us lo->Uc κ us lo (lo+m)->wpS (model prog w) A E s (jp2 ()) Q t:=λus t X K D=>by
   have zu:=K.size;refine wpS_bind (M9 X λt X=>?_);have K:=K.mirror (Xr lo) (show lo+m<=us.size by lia)
   have S:DM κ (mirror us lo (lo+m) ((lo+m-lo)/2)) lo (lo+m):=λx y r1 r2 r3=>by rw[GC (by lia),GC (by lia),qF (by lia),qF (by lia)];exact D _ _ (by lia) (by lia) (by lia)
   have zv:=K.size;have X:SX k (mirror us lo (lo+m) ((lo+m-lo)/2)) p t:=X;obtain⟨vs,hv⟩:∃vs,vs=mirror us lo (lo+m) ((lo+m-lo)/2):=⟨_,rfl⟩;rw[<-hv]at X K S zv;clear hv;have mv:∀x∈vs.toList,x∈a₀.toList:=λx hx=>mx x (K.pm.mem_iff.mp hx)
   refine wpS_bind (wpS_mono (wpS_forRange (I:=λn c u=>u=t/\c=(none,n)/\DM κ vs lo (lo+n)) (Q:=λc u=>u=t/\∃n,c=(none,n)/\1<=n/\n<=nrem/\DM κ vs lo (lo+n)) ?_ ?_ ⟨rfl,rfl,S⟩) ?_)
   ·rintro n c t (q1:m<=n) q2 ⟨rfl,rfl,hs⟩;refine wpS_bind (Et hc X mv (show lo+n<vs.size by lia) (show lo+n-1<vs.size by lia) (λz=>?_) λz=>?_)
    ·exact AX (λ_=>wpS_pure ⟨rfl,n,rfl,by lia,by lia,hs⟩) λz=>qG rfl z
    ·exact AX (λz=>qG z (by decide)) λ_=>wpS_pure ⟨rfl,rfl,grow (by lia) hs z⟩
   ·rintro c u ⟨rfl,rfl,hs⟩;have em:max m nrem=nrem:=by lia
    have hs:DM κ vs lo (lo+max m nrem):=hs;rw[em]at hs;exact⟨rfl,nrem,by show (none,max m nrem)=_;rw[em],h1,Xr _,hs⟩
   ·rintro c u ⟨rfl,n,rfl,q1,q2,hs⟩;exact wpS_pure (h n vs _ q1 q2 X K hs)
  have zz:=K.size;refine AX (λg=>?_) λg=>J2 _ _ X K D
  refine wpS_bind (M9 X λt X=>J2 _ _ X (K.mirror (show lo<=lo+m-(q+1) by lia) (show lo+m<=zs.size by lia)) λx y r1 r2 r3=>?_);rw[CM (by lia) he,CM (by lia) he];exact D x y r1 r2 r3
 refine AX (λg=>?_) λg=>?_
 ·have g:n>1:=g;refine wpS_bind (Et hc X mx (show lo<xs.size by lia) (show lo+n-1<xs.size by lia) (λz=>?_) λz=>?_)
  ·exact AX (λ_=>wpS_pure (h n xs _ n1 nn X K0 hs)) λz=>qG rfl z
  ·have al:∀x,lo<=x->x<lo+n->ky κ xs x=ky κ xs (lo+n-1):=λx q1 q2=>by
    have a1:=hs lo x (Xr _) q1 q2;have a2:=hs x (lo+n-1) q1 (by lia) (by lia);lia
   refine AX (λz=>qG z (by decide)) λ_=>wpS_bind (M9 X λt X=>J _ _ X (K0.mirror (Xr _) (show lo+n<=xs.size by lia)) λx y r1 r2 r3=>?_)
   rw[CM (by lia) al,CM (by lia) al]
   by_cases c:y<lo+n
   ·rw[al x r1 (by lia),al y (by lia) c];exact Yu _
   ·obtain rfl:y=lo+n:=by lia
    by_cases c2:x=lo+n
    ·subst c2;exact Yu _
    ·rw[al x r1 (by lia)];exact YI hlt
 ·have g:¬n>1:=g;obtain rfl:n=1:=by lia
  refine J xs _ X K0 λx y r1 r2 r3=>?_
  by_cases c2:x=y
  ·subst c2;exact Yu _
  ·obtain rfl:y=lo+1:=by lia
   obtain rfl:x=lo:=by lia
   exact YI hlt
end
noncomputable def Rl(κ:Keyed->Int)(xs:Array Keyed):Nat->List (Nat×Nat×Nat)->Nat->Prop
 |at',[],lo=>at'=lo
 |at',x::l,lo=>x.1=at'/\1<=x.2.1/\DM κ xs at' (at'+x.2.1)/\Rl κ xs (at'+x.2.1) l lo
section
variable{κ:Keyed->Int}{xs ys:Array Keyed}
theorem Rl.len:∀{l:List (Nat×Nat×Nat)} {at' lo:Nat},Rl κ xs at' l lo->at'+l.length<=lo
 |[],_,_,h=>Nat.le_of_eq h
 |x::l,at',lo,⟨_,h2,_,h4⟩=>by have z:=Rl.len h4;rw[YZ];lia
theorem Iy(h:∀x,i<=x->x<j->ys[x]?=xs[x]?)(s:DM κ xs i j):DM κ ys i j:=λx y h1 h2 h3=>by rw[B4 (h x h1 (by lia)),B4 (h y (by lia) h3)];exact s x y h1 h2 h3
theorem Rl.congr:∀{l:List (Nat×Nat×Nat)} {at' lo:Nat},(∀x,at'<=x->x<lo->ys[x]?=xs[x]?)->Rl κ xs at' l lo->Rl κ ys at' l lo
 |[],_,_,_,h=>h
 |x::l,at',lo,hx,⟨h1,h2,h3,h4⟩=>by have z:=Rl.len h4;exact⟨h1,h2,Iy (λy q1 q2=>hx y q1 (by lia)) h3,Rl.congr (λy q1 q2=>hx y (by lia) q2) h4⟩
theorem Rl.app:∀{l1 l2:List (Nat×Nat×Nat)} {at' lo:Nat},Rl κ xs at' (l1++l2) lo↔∃m,Rl κ xs at' l1 m/\Rl κ xs m l2 lo
 |[],l2,at',lo=>⟨λh=>⟨at',rfl,h⟩,λ⟨m,h1,h2⟩=>by rw[show at'=m from h1];exact h2⟩
 |x::l1,l2,at',lo=>⟨λ⟨h1,h2,h3,h4⟩=>by obtain⟨m,q1,q2⟩:=Rl.app.mp h4;exact⟨m,⟨h1,h2,h3,q1⟩,q2⟩,λ⟨m,⟨h1,h2,h3,h4⟩,q⟩=>⟨h1,h2,h3,Rl.app.mpr ⟨m,h4,q⟩⟩⟩
theorem Rl.same:∀{l l':List (Nat×Nat×Nat)} {at' lo:Nat},l'.map (λx=>(x.1,x.2.1))=l.map (λx=>(x.1,x.2.1))->Rl κ xs at' l lo->Rl κ xs at' l' lo
 |[],[],_,_,_,h=>h
 |x::l,y::l',at',lo,e,⟨h1,h2,h3,h4⟩=>by
  rw[Yj,Yj]at e
  injection e with e1 e2
  injection e1 with e3 e4
  refine⟨e3.trans h1,?_,?_,?_⟩
  ·rw[e4];exact h2
  ·rw[e4];exact h3
  ·rw[e4];exact Rl.same e2 h4
 |[],_::_,_,_,e,_=>by simp at e
 |_::_,[],_,_,e,_=>by simp at e
theorem Pz(p:Array (Nat×Nat×Nat))(i pw:Nat):(p.modify i λx=>(x.1,x.2.1,pw)).toList.map (λx=>(x.1,x.2.1))=p.toList.map (λx=>(x.1,x.2.1)):=by
 apply Zt;intro j;rw[Xu,Xu,Y3,Y3,Array.getElem?_modify];split
 ·cases p[j]?<;>rfl
 ·rfl
end
section
variable{prog:Program}{w:World}{A:Around}{k:SortKind}{a₀ xs ys:Array Keyed}{p:Array (Nat×Nat×Nat)}{κ:Keyed->Int}{st:SortSt}{lo:Nat}
theorem K6(hc:Gc prog w A s k a₀ κ)(X:SX k xs p st)(mx:∀x∈xs.toList,x∈a₀.toList)(R:Rl κ xs 0 p.toList lo)(hz:lo<=xs.size)(hi:i+1<p.size){Q:Bool->SortSt->Prop}
  (h:∀ys q t,SX k ys q t->ys.toList.Perm xs.toList->(∀j,lo<=j->ys[j]?=xs[j]?)->Rl κ ys 0 q.toList lo->q.size+1=p.size->Q true t):wpS (model prog w) A E s (mergeAt' i) Q st:=by
 have e0:p.toList=p.toList.take i++(p[i]::p[i+1]::p.toList.drop (i+2)):=by
  conv=>lhs;rw[<-Ye i p.toList]
  congr 1
  rw[List.drop_eq_getElem_cons (by simp;lia),List.drop_eq_getElem_cons (by simp;lia)];simp
 rw[e0]at R;obtain⟨m,R1,R2,R3,R4,R5,R6,R7,R8⟩:=Rl.app.mp R;have z1:=R1.len;have z2:=R8.len;rcases ep:p[i] with⟨sa,na,pw⟩;rcases ep2:p[i+1] with⟨sb,nb,pw2⟩;rw[ep]at R2 R3 R4 R5 R7 R8 z2;rw[ep2]at R5 R6 R7 R8 z2;dsimp only at R2 R3 R4 R5 R6 R7 R8 z2;subst R2;subst R5;refine OA hc X mx (by rw[getElem?_pos p i (by lia),ep]) (by rw[getElem?_pos p (i+1) hi,ep2]) R3 R6 (by lia) R4 R7 λys t sw T=>?_
 have e1:((p.setIfInBounds i (sa,na+nb,pw)).eraseIdxIfInBounds (i+1)).toList=p.toList.take i++((sa,na+nb,pw)::p.toList.drop (i+2)):=by
  rw[Array.toList_eraseIdxIfInBounds,Array.toList_setIfInBounds]
  conv=>lhs;rw[e0]
  have ll:(p.toList.take i).length=i:=by rw[YC,YF];lia
  rw[List.set_append_right _ _ (by lia),ll,Yq,List.set_cons_zero,List.eraseIdx_append_of_length_le (by lia),ll,show i+1-i=1 by lia];rfl
 refine h ys _ t T sw.pm (λj hj=>sw.ot j (.inr (by lia))) ?_ ?_
 ·rw[e1];refine Rl.app.mpr ⟨sa,R1.congr λx q1 q2=>sw.ot x (.inl q2),rfl,by show 1<=na+nb;lia,?_,?_⟩
  ·show DM κ ys sa (sa+(na+nb));rw[<-ao];exact sw.up
  ·show Rl κ ys (sa+(na+nb)) _ lo;rw[<-ao];exact R8.congr λx q1 q2=>sw.ot x (.inr q1)
 ·have z:=congrArg List.length e1;have z0:=congrArg List.length e0;simp only[Array.length_toList,List.length_append,List.length_cons]at z z0;lia
theorem P0(hc:Gc prog w A s k a₀ κ)(X:SX k xs p st)(mx:∀x∈xs.toList,x∈a₀.toList){n ok:Nat}(h1:1<=ok)(h2:ok<=n)(hz:lo+n<=xs.size)(hs:DM κ xs lo (lo+ok)){Q:Bool->SortSt->Prop}
  (h:∀ys t,SX k ys p t->K5 xs ys lo->DM κ ys lo (lo+n)->Q true t):wpS (model prog w) A E s (binarySort' lo n ok) Q st:=by
 refine wpS_bind (wpS_mono (wpS_forRange (I:=λx c t=>∃ys,c=(none,())/\SX k ys p t/\K5 xs ys lo/\DM κ ys lo (lo+x)) (Q:=λc t=>∃ys,c=(none,())/\SX k ys p t/\K5 xs ys lo/\DM κ ys lo (lo+n)) ?_ ?_ ⟨xs,rfl,X,⟨.refl _,λ_ _=>rfl⟩,by rw[show max ok 1=ok by lia];exact hs⟩) ?_)
 ·rintro x c t q1 q2 ⟨ys,rfl,X,K,S⟩;have zy:=K.size;have my:∀x∈ys.toList,x∈a₀.toList:=λx hx=>mx x (K.pm.mem_iff.mp hx)
  refine wpS_bind (wpS_mono (wpS_forRange (I:=λi c u=>u=t/\∃l r,c=(none,l,r)/\l<=r/\r<=x/\r-l<=x-i/\(∀j,j<l->ky κ ys (lo+j)<=ky κ ys (lo+x))/\(∀j,r<=j->j<x->ky κ ys (lo+x)<ky κ ys (lo+j)))
   (Q:=λc u=>u=t/\∃l r,c=(none,l,r)/\l<=x/\(∀j,j<l->ky κ ys (lo+j)<=ky κ ys (lo+x))/\(∀j,l<=j->j<x->ky κ ys (lo+x)<ky κ ys (lo+j))) ?_ ?_ ⟨rfl,0,x,rfl,by lia,by lia,by lia,λj hj=>by lia,λj a b=>by lia⟩) ?_)
  ·rintro i c u _ ix ⟨rfl,l,r,rfl,a1,a2,a3,a4,a5⟩;refine AX (λz=>?_) λz=>?_
   ·obtain rfl:l=r:=Nat.le_antisymm a1 z;exact wpS_pure ⟨rfl,l,l,rfl,a2,a4,a5⟩
   ·have z:¬l≥r:=z;refine wpS_bind (Et hc X my (show lo+x<ys.size by lia) (show lo+(l+r)/2<ys.size by lia) (λy=>?_) λy=>?_)
    ·have y:ky κ ys (lo+x)<ky κ ys (lo+(l+r)/2):=y;refine AX (λ_=>wpS_pure ⟨rfl,l,(l+r)/2,rfl,by lia,by lia,by lia,a4,λj b1 b2=>?_⟩) λz=>qG rfl z
     exact Int.lt_of_lt_of_le y (S _ _ (by lia) (by lia) (by lia))
    ·have y:ky κ ys (lo+(l+r)/2)<=ky κ ys (lo+x):=y;refine AX (λz=>qG z (by decide)) λ_=>wpS_pure ⟨rfl,(l+r)/2+1,r,rfl,by lia,by lia,by lia,λj b1=>?_,a5⟩
     exact Yi (S _ _ (by lia) (by lia) (by lia)) y
  ·rintro c u ⟨rfl,l,r,rfl,a1,a2,a3,a4,a5⟩;obtain rfl:l=r:=by lia
   exact⟨rfl,l,l,rfl,a2,a4,a5⟩
  ·rintro c u ⟨rfl,l,r,rfl,a1,a4,a5⟩;refine wpS_bind (Ta X λt X=>wpS_pure ⟨_,rfl,X,K.bubble (show lo+x<ys.size by lia) (show lo+(lo+x-(lo+l))<=lo+x by lia),?_⟩)
   have kb:∀j,ky κ (bubble ys (lo+x) (lo+x-(lo+l))) j=if j=lo+l then ky κ ys (lo+x) else if lo+l<j/\j<=lo+x then ky κ ys (j-1) else ky κ ys j:=λj=>by
    have e:=getElem?_bubble (xs:=ys) (show lo+x<ys.size by lia) (lo+x-(lo+l)) (by lia) j;rw[show lo+x-(lo+x-(lo+l))=lo+l by lia]at e;split
    ·rw[qF ‹_›]at e;exact B4 e
    ·rw[qE ‹_›]at e;split
     ·rw[qF ‹_›]at e;exact B4 e
     ·rw[qE ‹_›]at e;exact B4 e
   intro a b b1 b2 b3;show ky κ (bubble ys (lo+x) (lo+x-(lo+l))) a<=ky κ (bubble ys (lo+x) (lo+x-(lo+l))) b
   have a4':∀j,lo<=j->j<lo+l->ky κ ys j<=ky κ ys (lo+x):=λj q1 q2=>by have z:=a4 (j-lo) (by lia);rw[show lo+(j-lo)=j by lia]at z;exact z
   have a5':∀j,lo+l<=j->j<lo+x->ky κ ys (lo+x)<ky κ ys j:=λj q1 q2=>by have z:=a5 (j-lo) (by lia) (by lia);rw[show lo+(j-lo)=j by lia]at z;exact z
   rw[kb,kb]
   repeat' split
   all_goals first
    | (exfalso;lia)
    |exact Yu _
    |exact a4' _ (by lia) (by lia)
    |exact YI (a5' _ (by lia) (by lia))
    |exact S _ _ (by lia) (by lia) (by lia)
 ·rintro c t ⟨ys,rfl,X,K,S⟩;rw[show max (max ok 1) n=n by lia]at S;exact⟨ys,rfl,X,K,S⟩
 ·rintro c t ⟨ys,rfl,X,K,S⟩;exact wpS_pure (h ys t X K S)
end
section
variable{prog:Program}{w:World}{A:Around}{k:SortKind}{a₀ xs ys:Array Keyed}{p:Array (Nat×Nat×Nat)}{κ:Keyed->Int}{st:SortSt}{lo:Nat}
theorem P1{f:β->StateT SortSt Sem α}{m:StateT SortSt Sem α}{Q:α->SortSt->Prop}(R:β->SortSt->Prop)(J:∀x t,R x t->wpS (model prog w) A E s (f x) Q t)(h:(∀x t,R x t->wpS (model prog w) A E s (f x) Q t)->wpS (model prog w) A E s m Q st):wpS (model prog w) A E s m Q st:=h J
theorem RK(hc:Gc prog w A s k a₀ κ)(X:SX k a₀ #[] st){Q:Unit->SortSt->Prop}(h:∀ys q t,SX k ys q t->ys.toList.Perm a₀.toList->DM κ ys 0 a₀.size->Q () t):wpS (model prog w) A E s sortRuns' Q st:=by
 have sz:∀{ys:Array Keyed},ys.toList.Perm a₀.toList->ys.size=a₀.size:=λ{ys} z=>by have z:=z.length_eq;simpa using z
 refine wpS_bind (wpS_get ?_);have ea:(arrOf st).size=a₀.size:=by rw[X.ar]
 extract_lets n0 mr lo0
 obtain⟨n,hn⟩:∃n,n=n0:=⟨_,rfl⟩;have en:n=a₀.size:=hn.trans ea;clear_value mr;rw[<-hn];clear_value n0;refine wpS_bind (wpS_mono (wpS_forRange (I:=λi c t=>∃lo ys p,c=(none,lo)/\SX k ys p t/\ys.toList.Perm a₀.toList/\Rl κ ys 0 p.toList lo/\lo<=n/\i<=lo) (Q:=λc t=>∃ys p,c=(none,n)/\SX k ys p t/\ys.toList.Perm a₀.toList/\Rl κ ys 0 p.toList n) ?_ ?_ ⟨0,a₀,#[],rfl,X,.refl _,rfl,YS _,YS _⟩) ?_)
 ·rintro i c t _ hi ⟨lo,ys,p,rfl,X,P,R,ln,li⟩;have zy:=sz P;have my:∀x∈ys.toList,x∈a₀.toList:=λx hx=>P.mem_iff.mp hx
  refine AX (λz=>?_) λz=>?_
  ·have z:lo≥n:=z;obtain rfl:lo=n:=by lia
   exact wpS_pure ⟨ys,p,rfl,X,P,R⟩
  have z:¬lo≥n:=z;refine wpS_bind (MS hc X my (show 1<=n-lo by lia) (show lo+(n-lo)<=ys.size by lia) λr ys t r1 r2 X K S=>?_);dsimp (config:={zeta:=false,zetaHave:=false}) only
  extract_lets f jp fc
  have P:=K.pm.trans P;have R:=R.congr λx _ q=>K.ot x q
  have zy:=sz P;refine P1 (f:=jp ()) (λm t=>∃ys,1<=m/\lo+m<=n/\SX k ys p t/\ys.toList.Perm a₀.toList/\Rl κ ys 0 p.toList lo/\DM κ ys lo (lo+m)) (λm t ⟨ys,m1,m2,X,P,R,S⟩=>?_) λJ=>?_
  ·refine wpS_bind (wpS_get ?_)
   extract_lets lo1 jp2
   refine P1 (f:=jp2) (λ_ t=>∃ys p,SX k ys p t/\ys.toList.Perm a₀.toList/\Rl κ ys 0 p.toList lo/\DM κ ys lo (lo+m)) (λ_ t ⟨ys,p,X,P,R,S⟩=>?_) λJ2=>?_
   ·refine wpS_bind (wpS_modify (wpS_pure ⟨lo+m,ys,p.push (lo,m,0),rfl,⟨X.kd,X.ar,by show (pendingOf t).push _=_;rw[X.pd],X.fl⟩,P,?_,m2,by lia⟩));rw[Array.toList_push];exact Rl.app.mpr ⟨lo,R,rfl,m1,S,rfl⟩
   have ep:(sortPriv% PySem.Builtin.SortState.pending) t=p:=X.pd;rw[ep];rcases eb:p.back? with _|⟨s1,n1,w1⟩
   ·exact J2 () t ⟨ys,p,X,P,R,S⟩
   refine wpS_bind (wpS_mono (wpS_forRange (I:=λ_ c t=>∃ys p,c=(none,())/\SX k ys p t/\ys.toList.Perm a₀.toList/\Rl κ ys 0 p.toList lo/\DM κ ys lo (lo+m)) (Q:=λc t=>∃ys p,c=(none,())/\SX k ys p t/\ys.toList.Perm a₀.toList/\Rl κ ys 0 p.toList lo/\DM κ ys lo (lo+m)) ?_ (λ_ _ z=>z) ⟨ys,p,rfl,X,P,R,S⟩) ?_)
   ·rintro j c t _ _ ⟨ys,p,rfl,X,P,R,S⟩;refine wpS_bind (wpS_get ?_);have ep:(sortPriv% PySem.Builtin.SortState.pending) t=p:=X.pd;rw[ep]
    extract_lets p2
    by_cases c1:p.size>1
    ·rw[qF c1,getElem?_pos p (p.size-2) (by lia)];rcases p[p.size-2] with⟨a1,a2,a3⟩;refine AX (λ_=>wpS_pure ⟨ys,p,rfl,X,P,R,S⟩) λ_=>?_;have zy:=sz P;refine wpS_bind (K6 hc X (λx hx=>P.mem_iff.mp hx) R (by lia) (show p.size-2+1<p.size by lia) λzs q t X P' O R' _=>?_);exact AX (λz=>qG z (by decide)) λ_=>wpS_pure ⟨zs,q,rfl,X,P'.trans P,R',Iy (λx q1 _=>O x q1) S⟩
    ·rw[qE c1];exact wpS_pure ⟨ys,p,rfl,X,P,R,S⟩
   ·rintro c t ⟨ys,p,rfl,X,P,R,S⟩;exact wpS_bind (wpS_modify (J2 () _ ⟨ys,p.modify (p.size-1) λx=>(x.1,x.2.1,power' n (2*s1+n1) (2*s1+n1+n1+m) n),⟨X.kd,X.ar,congrArg (λz:Array (Nat×Nat×Nat)=>z.modify (z.size-1) λx=>(x.1,x.2.1,power' n (2*s1+n1) (2*s1+n1+n1+m) n)) X.pd,X.fl⟩,P,R.same (Pz p (p.size-1) _),S⟩))
  refine AX (λg=>?_) λg=>J r t ⟨ys,r1,by lia,X,P,R,S⟩
  have g:r<mr:=g;refine wpS_bind (wpS_lift (wpAny_rule ⟨rfl,?_⟩));refine wpS_bind (P0 hc X (λx hx=>P.mem_iff.mp hx) r1 (show r<=min (n-lo) mr by lia) (show lo+min (n-lo) mr<=ys.size by lia) S λzs t X K S=>?_);exact AX (λz=>qG z (by decide)) λ_=>J _ t ⟨zs,show 1<=min (n-lo) mr by lia,show lo+min (n-lo) mr<=n by lia,X,K.pm.trans P,R.congr λx _ q=>K.ot x q,S⟩
 ·rintro c t ⟨lo,ys,p,rfl,X,P,R,ln,li⟩;obtain rfl:lo=n:=by lia
  exact⟨ys,p,rfl,X,P,R⟩
 rintro c t ⟨ys,p,rfl,X,P,R⟩
 have fin:∀ys p t,SX k ys p t->ys.toList.Perm a₀.toList->Rl κ ys 0 p.toList n->p.size<=1->Q () t:=λys p t X P R h1=>by
  refine h ys p t X P ?_;rcases p with⟨l⟩;rw[<-en]
  match l,R,h1 with
  |[],R,_=>intro x y _ _ hy;have:0=n:=R;lia
  |[x],⟨_,_,S,R⟩,_ =>
   have e:0+x.2.1=n:=R;rw[e]at S;exact S
  |x::y::l,_,h1=>simp at h1
 have zp:=R.len;refine wpS_bind (wpS_mono (wpS_forRange (I:=λj c t=>∃ys p,c=(none,())/\SX k ys p t/\ys.toList.Perm a₀.toList/\Rl κ ys 0 p.toList n/\p.size+j<=n) (Q:=λc t=>c=(none,())/\Q () t) ?_ ?_ ⟨ys,p,rfl,X,P,R,by simp at zp;lia⟩) ?_)
 ·rintro j c t _ hj ⟨ys,p,rfl,X,P,R,pj⟩;refine wpS_bind (wpS_get ?_);have ep:(sortPriv% PySem.Builtin.SortState.pending) t=p:=X.pd;rw[ep];refine AX (λz=>?_) λz=>?_
  ·exact wpS_pure ⟨rfl,fin ys p t X P R z⟩
  have z:¬p.size<=1:=z;have zy:=sz P;refine wpS_bind (K6 hc X (λx hx=>P.mem_iff.mp hx) R (by lia) ?_ λzs q t X P' O R' e=>?_)
  ·(repeat' split)<;>lia
  ·exact AX (λz=>qG z (by decide)) λ_=>wpS_pure ⟨zs,q,rfl,X,P'.trans P,R',by lia⟩
 ·rintro c t ⟨ys,p,rfl,X,P,R,pj⟩;exact⟨rfl,fin ys p t X P R (by lia)⟩
 ·rintro c t ⟨rfl,q⟩;exact wpS_pure q
end
end L2
namespace PySem
open Sem (wp)
open PyProof.Rows
section
variable{prog:Program}{w:World}{K:Type}[DecidableEq K]{knd:KeyKind prog w K}{A:Around}{E:Value->Shared->Prop}{s:Shared}
theorem collect_dict{R:List Value->Shared->Prop}{d:Addr}{kvs:List (K×Value)}{ep:Nat}(hh:A.handled=none)(hm:(d==sysModules)=false)(hr:s.heap.DictAt knd d kvs ep)(hlen:kvs.length<=sizeLine)
  (q:∀h' tk acc,s.heap.objs.size<h'.objs.size->(∀b o,s.heap.get? b=some o->h'.get? b=some o)->ItemsOf (λi v=>∃k x,kvs[i]?=some (k,x)/\knd.is k v=true) acc kvs.length->R acc.toList {s with heap:=h',toks:=tk}):wpAny (model prog w) A (collect (.ref d)) R E s:=by
 unfold collect;apply qC;apply wpAny_runValue;refine codeAny_builtin F.entry_proto_collect ?_;rw[A.under_plainId F.plain_proto_collect];show wpAny _ A.in1 (newList [] >>= λz=>again (.builtin "list.__iadd__" ⟨[z,.ref d],[]⟩)) _ _ s;apply qC;refine wpAny_newObj_type ?_;apply qD;refine⟨plainId_quiet F.plain_list_iadd _,?_⟩;refine codeAny_builtin F.entry_list_iadd ?_;rw[A.under_plainId F.plain_list_iadd];generalize hS:s.heap.objs.size=S;generalize hG:s.heap.push {cls:=.type "list",data:=.seq ([]:List Value).toArray}=G;have gS:G.get? S=some {cls:=.type "list",data:=.seq #[] 0}:=by rw[<-hG,<-hS];exact Xz _ rfl
 have gk:∀b o,s.heap.get? b=some o->G.get? b=some o:=λb o e=>by rw[<-hG];exact Xn _ e
 show wpAny _ A.in1 (Builtin.List.listExtendWith (.ref S) (.ref d) (.ref S)) _ _ _;refine wpAny_mono (extend_dict (A:=A) (s:={s with heap:=G}) (knd:=knd) (R:=λx s'=>x=.ok (.ret (.ref S))/\∃(h':Heap) (tk:Nat) (acc:Array Value) (c':Nat),s'={s with heap:=h',toks:=tk}/\(∀b o,s.heap.get? b=some o->h'.get? b=some o)/\h'.get? S=some {cls:=.type "list",dict:=none,data:=.seq acc c',slots:=#[]}/\ItemsOf (λi v=>∃k x,kvs[i]?=some (k,x)/\knd.is k v=true) acc kvs.length) hh hm (hr.at' λo e=>gk d o e) hlen S (.ref S) 0 gS λh' tk acc c' hk hS' hacc=>⟨rfl,h',tk,acc,c',rfl,λb o e=>hk b o (λz=>?_) (gk b o e),hS',hacc⟩) (λfin s' h=>?_) (λe s' h=>?_)
 ·have:=Xt e;rw[z,hS]at this;exact YE _ this
 ·have last:∀(x:Result) (s':Shared),(x=.ok (.ret (.ref S))/\∃(h':Heap) (tk:Nat) (acc:Array Value) (c':Nat),s'={s with heap:=h',toks:=tk}/\(∀b o,s.heap.get? b=some o->h'.get? b=some o)/\h'.get? S=some {cls:=.type "list",dict:=none,data:=.seq acc c',slots:=#[]}/\ItemsOf (λi v=>∃k x,kvs[i]?=some (k,x)/\knd.is k v=true) acc kvs.length)->wpAny (model prog w) A (match Value.ref S with
    |Value.ref a=>do
     match (<-load a).data with
      |Data.seq xs _=>pure xs.toList
      |_=>unsupported "internal:collect"
    |_=>unsupported "internal:collect") R E s':=by
   rintro x s' ⟨rfl,h',tk,acc,c',rfl,hk,hS',hacc⟩;show wpAny _ A (load S >>= _) _ _ _;apply qC;refine wpAny_load hS' ?_;exact qD (q h' tk acc (by rw[hS];exact Xt hS') hk hacc)
  cases fin with
  |done f =>
   have e:=h.1;cases e;exact last _ _ h
  |again c'=>exact⟨h.1,codeAny_mono h.2 λx s2 hx=>by have e:=hx.1;subst e;exact last _ _ hx⟩
 ·exact nomatch h.1
end
end PySem
namespace L2
open PySem PySem.Spec PyProof.Rows
variable{E Q:Value->Shared->Prop}{X:Cx}{a d:Addr}{pos:Pos}{s:Shared}{ta:TA}{te:TE}
section
variable{prog:Program}{w:World}{A:Around}
theorem P2{a₀:Array Keyed}(h:∀x∈a₀.toList,∃n t,x.1=.int n t):Gc prog w A s oneType' a₀ (λx=>numOf x.1):=λx hx y hy E Q q=>by
 obtain⟨n,t,e⟩:=h x hx;obtain⟨m,u,e2⟩:=h y hy;have e3:(λx y:Keyed=>decide ((λx:Keyed=>numOf x.1) x<(λx:Keyed=>numOf x.1) y)) x y=decide (n<m):=by simp only[e,e2];rfl
 rw[e3]at q;rw[keyLt'_oneType,e,e2];exact oneLt_int q
theorem VW{xs:Array Keyed}(i:Nat):ky (λx=>numOf x.1) xs i=K xs i:=by unfold ky K;cases xs[i]?<;>rfl
theorem OB{vs:List Value}{ns:List Int}{n:Nat}{b:Bool}{P:Fin->Shared->Prop}(ho:s.heap.get? a=some (seqObj "list" vs.toArray n))(hI:IntsAre vs ns)(hz:vs.length<=sizeLine)
  (h:∀(out:Array Value) (ns':List Int),IntsAre out.toList ns'->ns'.Perm ns->Ordered b ns'->P (.done (.ret .none)) {s with heap:=sortedHeap s.heap a vs out}):wpAny (model prog w) A (Builtin.«list.sort» ⟨[.ref a],[(Str.ofString "reverse",.bool b)]⟩) P E s:=by
 rw[list_sort_rev];have ha:=Xt ho;obtain⟨e1,ho1⟩:∃e1,(s.heap.update a (Obj.mapSeq λ_=>#[])).get? a=some (seqObj "list" #[] e1):=⟨_,get?_update_seq ho (λ_=>#[])⟩;refine qC (listItems_at ho rfl (qC (listUpdate_at ho rfl (qC (seqEpoch_at ho1 rfl (qC (wpAny_newTuple (qC (wpAny_newList (wpAny_holding ?_))))))))));have hl:(((s.heap.update a (Obj.mapSeq λ_=>#[])).push (seqObj "tuple" vs.toArray 0)).push (seqObj "list" #[] 0)).get? a=some (seqObj "list" #[] e1):=Xn _ (Xn _ ho1);show wpAny (model prog w) A _ P E {s with heap:=((s.heap.update a (Obj.mapSeq λ_=>#[])).push (seqObj "tuple" vs.toArray 0)).push (seqObj "list" #[] 0)};have sz:vs.toArray.size=vs.length:=by simp
 have hstart:(if b=true then (vs.toArray.zip vs.toArray).reverse else vs.toArray.zip vs.toArray).toList.Perm (pairsOf vs).toList:=by
  cases b with
  |false=>exact .refl _
  |true=>rw[qF rfl,am];exact List.reverse_perm _
 dsimp only
 have step:∀t:Sem Fin,wpAny (model prog w) A t P E {s with heap:=((s.heap.update a (Obj.mapSeq λ_=>#[])).push (seqObj "tuple" vs.toArray 0)).push (seqObj "list" #[] 0)} ->
   wpAny (model prog w) A (if b=true then (do let _ <-rule "list.sort.reverse";t) else t) P E {s with heap:=((s.heap.update a (Obj.mapSeq λ_=>#[])).push (seqObj "tuple" vs.toArray 0)).push (seqObj "list" #[] 0)}:=λt ht=>by
  split
  ·exact qC (wpAny_rule ht)
  ·exact ht
 refine step _ ?_
 have low:∀xs:Array Keyed,xs.toList.Perm (pairsOf vs).toList->(if b=true then (xs.map (·.2)).reverse else xs.map (·.2)).size<=sizeLine+1:=λxs p=>by
  have z:=p.length_eq;rw[YF,YF,pairsOf_size]at z;split
  ·rw[Array.size_reverse,Array.size_map];lia
  ·rw[Array.size_map];lia
 have fin:∀xs:Array Keyed,xs.toList.Perm (pairsOf vs).toList->SortedTo xs (pairsOf vs).size->P (.done (.ret .none)) {s with heap:=sortedHeap s.heap a vs (if b then (xs.map (·.2)).reverse else xs.map (·.2))}:=λxs p hs=>by obtain⟨ns',h1,h2,h3⟩:=sorted_out_rev hI (Zx.mpr p) hs b;exact h _ ns' h1 h2 h3
 by_cases h2:vs.toArray.size<2
 ·rw[qF h2,qF h2];refine qC (qD ?_);rw[StateT.run_pure];refine qC (qD (qC (seqEpoch_at hl rfl (qC (listUpdate_at hl rfl ?_ (hsz2:=low _ hstart))))));simp only[bne_self_eq_false,Bool.false_eq_true,if_false];refine qD (fin _ hstart ?_);intro i j hij hj;have:i=j:=by rw[pairsOf_size]at hj;lia
  subst this;exact Yu _
 ·rw[qE h2,qE h2]
  obtain⟨v₁,v₂,rest,rfl⟩:∃v₁ v₂ rest,vs=v₁::v₂::rest:=by
   match vs,sz,h2 with
   |[],_,h2=>simp at h2
   |[_],_,h2=>simp at h2
   |v₁::v₂::rest,_,_=>exact⟨v₁,v₂,rest,rfl⟩
  rw[keyKind_ints hI];refine qC (qD ?_);obtain⟨a₀,ea⟩:∃a₀,a₀=(if b=true then ((v₁::v₂::rest).toArray.zip (v₁::v₂::rest).toArray).reverse else (v₁::v₂::rest).toArray.zip (v₁::v₂::rest).toArray):=⟨_,rfl⟩;rw[<-ea]at hstart⊢
  refine qC (wpAny_mono (RK (k:=oneType') (a₀:=a₀) (κ:=λx=>numOf x.1) (st:=SortSt.mk' oneType' a₀ #[] 7 none)
   (Q:=λ_ t=>(arrOf t).toList.Perm a₀.toList/\failedOf t=none/\DM (λx=>numOf x.1) (arrOf t) 0 a₀.size) (P2 λx hx=>hI.intKeys x (hstart.mem_iff.mp hx)) ⟨rfl,rfl,rfl,rfl⟩ λys q t X p S=>⟨by rw[X.ar];exact p,X.fl,by rw[X.ar];exact S⟩) ?_ λ_ _ e=>e)
  rintro⟨⟨⟩,t⟩ s' ⟨rfl,hp,hf,hs⟩;dsimp only;refine qC (seqEpoch_at hl rfl (qC (listUpdate_at hl rfl ?_ (hsz2:=low _ (hp.trans hstart)))));rw[hf];simp only[bne_self_eq_false,Bool.false_eq_true,if_false];refine qD (fin (arrOf t) (hp.trans hstart) λi j hij hj=>?_);have z:=hs i j (YS _) hij (by have y:=hstart.length_eq;rw[YF,YF]at y;lia);rw[VW,VW]at z;exact z
theorem MT{w:World}{P:Program}{kvs:List (CN×Value)}{A:List Int}{acc:Array Value}(hA:kvs.map (·.1)=A.map Sum.inl)(h:ItemsOf (λi v=>∃k x,kvs[i]?=some (k,x)/\(BK P w).is k v=true) acc kvs.length):IntsAre acc.toList A:=by
 have ln:A.length=kvs.length:=by have z:=congrArg List.length hA;simpa using z.symm
 have vl:Ao (A.map V.int) acc.toList:=by refine Mk (by have z:=h.1;rw[List.length_map,ln];simp only[Array.length_toList];lia) λi x u e1 e2=>?_;obtain⟨k,x',hk,is⟩:=h.2 i u (by simpa using e2);rw[Xu]at e1;obtain⟨a,ha,rfl⟩:=Ys.mp e1;have z:=congrArg (λl=>l[i]?) hA;simp only[List.getElem?_map,hk,ha,Option.map_some]at z;rw[show k=Sum.inl a from Option.some.inj z]at is;exact R9 is
 exact Fg vl
theorem Fj:∀{vs:List Value} {ns:List Int},IntsAre vs ns->Ao (ns.map V.int) vs
 |_,_,.nil=>.nil
 |_,_,.cons n t h=>.cons ⟨t,rfl⟩ (Fj h)
theorem OC{kvs:List (CN×Value)}{ep:Nat}{A':List Int}{b:Bool}(hh:A.handled=none)(hm:(d==sysModules)=false)(hr:s.heap.DictAt (BK prog w) d kvs ep)(hA:kvs.map (·.1)=A'.map Sum.inl)(hlen:kvs.length<=sizeLine)
  (h:∀(D:Addr) (h':Heap) (tk:Nat) (out:Array Value) (ns:List Int) (e:Nat),s.heap.objs.size<=D->(∀b o,s.heap.get? b=some o->h'.get? b=some o)->h'.get? D=some (seqObj "list" out e)->IntsAre out.toList ns->ns.Perm A'->Ordered b ns->Q (.ref D) {s with heap:=h',toks:=tk}):wpAny (model prog w) A (call (.builtin "sorted") [.ref d] [(Str.ofString "reverse",.bool b)]) Q E s:=by
 refine call_function_entry_kw kind_sorted plain_sorted entry_sorted (args_sorted_rev _ _) ?_;unfold Builtin.«sorted»;refine qC (m:=checkCount "sorted" 1 1 _) (qD (qC (collect_dict (A:=A.in1) hh hm hr hlen λh' tk acc sl kp hacc=>?_)));have hI:=MT hA hacc;have zl:acc.toList.length<=sizeLine:=by rw[YF,hacc.1];exact hlen
 refine qC (wpAny_newList ?_);have gL:(h'.push (seqObj "list" acc.toList.toArray 0)).get? h'.objs.size=some (seqObj "list" acc.toList.toArray 0):=Xz _ rfl;show wpAny _ _ _ _ _ {s with heap:=h'.push (seqObj "list" acc.toList.toArray 0),toks:=tk};refine qC (wpAny_holding (wpAny_call_entry_kw slot_list_sort ⟨_,gL,rfl⟩ entry_list_sort (OB gL hI zl λout ns' a1 a2 a3=>⟨_,rfl,?_⟩) (args_list_sort_rev _ _)));obtain⟨e,he⟩:=sortedHeap_at (out:=out) gL;refine qD ⟨_,rfl,h _ _ _ out ns' e ?_ (λc o z=>?_) he a1 a2 a3⟩
 ·exact ZF sl
 ·have lt:=Xt (kp c o z);rw[sortedHeap_old (YW lt) (by rw[size_push'];exact ZC lt)];exact Xn _ (kp c o z)
end
section
variable{tv:TE}{e v:Expr}{p kpos:Pos}
def Tb(ta tk:TA):TE:=λσ H Q=>ta σ H λvs H1=>tk σ H1 λws H2=>∃(d:Addr) (kvs:List (CN×V)) (A:List Int) (b:Bool),vs=[.ref d]/\ws=[.bl b]/\Rd H2 d (.dK kvs)/\kvs.map (·.1)=A.map Sum.inl/\∀l zs,H2 l=none->zs.Perm A->Ordered b zs->Q (.ref l) (Aj H2 l (.lst (zs.map V.int)))
theorem P3{tk:TA}(hc:X.calm=true)(hg:Gl X "sorted")(hm:X.mg "sorted"=none)(ha:PA X [e] ta)(hk:PK X [⟨some "reverse",v,kpos⟩] tk)(hs:backTo pos (starEach [e] X.env)=(false,eval e X.env)::backTo pos (starEach [] X.env):=by rfl)(hs2:(backTo pos (starEach [e] X.env)).any (·.1)=false:=by rfl)(hall:(backToKw pos (keywordEach [⟨some "reverse",v,kpos⟩] X.env)).all (·.1.isSome)=true:=by rfl)(hks:(backToKw pos (keywordEach [⟨some "reverse",v,kpos⟩] X.env)).filterMap (·.1)=[Str.ofString "reverse"]:=by rfl)
  (hkw:(backToKw pos (keywordEach [⟨some "reverse",v,kpos⟩] X.env)).any (·.1.isNone)=false:=by rfl):PE X (.Call (.Name "sorted" p) [e] [⟨some "reverse",v,kpos⟩] pos) (Tb ta tk):=by
 intro pins s σ H Q I h;refine wpAny_Call_Name_kw (CD I hg hm PyProof.Rows.boot_sorted ?_);refine callWith_kw (BX (ha pos pins s σ H _ I h) λus s1 z9=>?_) hs hs2 hall hkw;obtain⟨vs,H1,I1,r1,q1⟩:=z9;refine BX (hk pos pins s1 σ H1 _ I1 q1) λws s2 z9=>?_;obtain⟨zs,H2,I2,rz,q2⟩:=z9;rw[hks];obtain⟨d,kvs,A,b,rfl,rfl,hd,hA,q⟩:=q2;obtain⟨u,rfl,ru⟩:=Gx r1;cases ru;obtain⟨u2,rfl,ru2⟩:=Gx rz;cases ru2;obtain⟨z,hd,vs,rel,dd⟩:=GQ I2.hok hd;obtain⟨ep,da⟩:=dd.dictAt;have hl:=rel.length;refine OC (A':=A) (I.ok.hd hc) hd da ?_ (by lia) λD h' tk out ns e hD kp he hI hp ho=>?_
 ·rw[<-hA];apply Zt;intro i;rw[Xu,Xu];rcases e1:kvs[i]? with _|⟨k,v'⟩
  ·have:vs[i]?=none:=by rw[List.getElem?_eq_none_iff]at e1⊢;lia
   rw[this];rfl
  ·obtain⟨y,hy,ry⟩:=FM rel e1;rw[hy,Option.map_some,Option.map_some,show k=y.1 from ry.1]
 ·have ln:=hI.length;refine⟨.ref D,_,I2.laid (t':=tk) kp hD (show Aw X.prog X.w _ h' _ (.lst (ns.map V.int)) from⟨?_,out.toList,e,?_,by rw[Array.toArray_toList];exact he⟩),rfl,q D ns (I2.hok.fresh hD) hp ho⟩
  ·have y:=congrArg List.length hA;rw[Xk,Xk]at y;rw[Xk,hp.length_eq,<-y];exact z
  ·exact Fj hI
end
end L2
namespace L2
open PySem PySem.Spec PyProof.Rows RW
variable{G m':Nat}{g lo':Int}{row tab tab' tf:List Int}
noncomputable def DL(G:Nat):Nat->(List Int->Int)->Int
 |0,f=>f []
 |l+1,f=>Am G λs=>DL G l λc=>f ((s:Int)::c)
theorem Hr:∀{l:Nat} {f h:List Int->Int},(∀c,(∀n∈c,0<=n/\n<(G:Int))->f c=h c)->DL G l f=DL G l h
 |0,_,_,e=>e [] λn hn=>by cases hn
 |l+1,f,h,e=>Ae λs hs=>Hr λc hc=>e _ λn hn=>by
  rcases YA.mp hn with z|z
  ·rw[z];lia
  ·exact hc n z
theorem FN(G:Nat)(p:Int):∀l:Nat,DL G l (λ_=>p)=((G^l:Nat):Int)*p
 |0=>by show p=((1:Nat):Int)*p;lia
 |l+1=>by show Am G (λ_=>DL G l λ_=>p)=_;rw[Bn,FN G p l,Nat.pow_succ,Yh,Yn,Int.mul_assoc]
theorem Eu(n:Nat):∀{l:Nat} {f:Nat->List Int->Int},DL G l (λc=>Am n λj=>f j c)=Am n λj=>DL G l (f j)
 |0,_=>rfl
 |l+1,f=>by
  show Am G (λs=>DL G l λc=>Am n λj=>f j ((s:Int)::c))=Am n λj=>Am G λs=>DL G l λc=>f j ((s:Int)::c)
  rw[C6 n G];exact Ae λs _=>Eu n (f:=λj c=>f j ((s:Int)::c))
theorem K7(b:Bool):∀{l:Nat} {f:List Int->Int},DL G l (λc=>D0 b (f c))=D0 b (DL G l f):=λ{l f}=>by
 cases b
 ·show DL G l (λ_=>(0:Int))=0;rw[FN,aw]
 ·rfl
theorem K8(G2:2<=G)(hb:∀n∈tab,0<=n/\n<(G:Int))(w:List Int):∀(l u:Nat),DL G l (λc=>Cs G tab (c++w) u)=(Am (G^l) λe=>Cs G tab w ((u*G^l+e)%(tab.length/G)))\/l=0
 |0,u=>.inr rfl
 |l+1,u=>.inl (by
  have step:DL G (l+1) (λc=>Cs G tab (c++w) u)=Am G λj=>DL G l λc=>Cs G tab (c++w) ((u*G+j)%(tab.length/G)):=by
   show Am G (λs=>DL G l λc=>Am G λj=>D0 (decide (tab.getD (u*G+j) 0=(s:Int))) (Cs G tab (c++w) ((u*G+j)%(tab.length/G))))=_
   rw[Ae (g:=λs=>Am G λj=>D0 (decide (tab.getD (u*G+j) 0=(s:Int))) (DL G l λc=>Cs G tab (c++w) ((u*G+j)%(tab.length/G)))) λs _=>by rw[Eu];exact Ae λj _=>K7 _]
   rw[C6];refine Ae λj _=>?_;have b:0<=tab.getD (u*G+j) 0/\tab.getD (u*G+j) 0<(G:Int):=C0 (by lia) hb _;exact Ii b.1 b.2 _
  rw[step];have md:∀a b N:Nat,(a%N*b)%N=(a*b)%N:=λa b N=>by rw[Nat.mul_mod,Nat.mod_mod,<-Nat.mul_mod]
  have e2:∀j,j<G->DL G l (λc=>Cs G tab (c++w) ((u*G+j)%(tab.length/G)))=Am (G^l) λe=>Cs G tab w ((u*G^(l+1)+(j*G^l+e))%(tab.length/G)):=λj _=>by
   rcases K8 G2 hb w l ((u*G+j)%(tab.length/G)) with z|z
   ·rw[z];refine Ae λe _=>?_
    congr 1
    rw[Nat.add_mod,md,<-Nat.add_mod,Nat.add_mul,Nat.mul_assoc,Nat.pow_succ,Yh G (G^l),ao]
   ·subst z;show Cs G tab ([]++w) _=Am 1 λe=>Cs G tab w ((u*G^1+(j*1+e))%_)
    rw[A3,CZ,YX,Nat.pow_one,Nat.mul_one,ax];rfl
  rw[Ae e2,Nat.pow_succ,Yh (G^l) G,<-Ih G (G^l) (λn=>Cs G tab w ((u*(G*G^l)+n)%(tab.length/G)))])
theorem RL(G2:2<=G)(hb:∀n∈tab,0<=n/\n<(G:Int)){l:Nat}(hN:tab.length/G=G^l)(w:List Int)(u:Nat)(hu:u<tab.length/G):DL G l (λc=>Cs G tab (c++w) u)=B5 G tab w:=by
 rcases K8 G2 hb w l u with z|z
 ·rw[z];unfold B5;rw[<-hN];refine Ae λe he=>?_;rw[Yh,Nat.mul_add_mod,Y7 he]
 ·subst z;have e:tab.length/G=1:=hN;unfold B5;rw[e,A3,CZ,YX];obtain rfl:u=0:=by lia
  rfl
theorem NA(G2:2<=G)(hb:∀n∈tab,0<=n/\n<(G:Int)){l:Nat}(hN:tab.length/G=G^l)(w:List Int):∀(r:List Int) (u:Nat),u<tab.length/G->DL G l (λc=>Cs G tab (r++(c++w)) u)=Cs G tab r u*B5 G tab w
 |[],u,hu=>by rw[show Cs G tab [] u=1 from rfl,Yg];exact RL G2 hb hN w u hu
 |s::r,u,hu=>by
  show DL G l (λc=>Am G λj=>D0 (decide (tab.getD (u*G+j) 0=s)) (Cs G tab (r++(c++w)) ((u*G+j)%(tab.length/G))))=(Am G λj=>D0 (decide (tab.getD (u*G+j) 0=s)) (Cs G tab r ((u*G+j)%(tab.length/G))))*B5 G tab w;rw[Eu,<-Dl];refine Ae λj _=>?_;rw[K7,NA G2 hb hN w r _ (ZW _ (by lia))];unfold D0;split
  ·rfl
  ·rw[Y6]
theorem RM(G2:2<=G)(hb:∀n∈tab,0<=n/\n<(G:Int)){l:Nat}(hN:tab.length/G=G^l)(r w:List Int):DL G l (λc=>B5 G tab (r++(c++w)))=B5 G tab r*B5 G tab w:=by show DL G l (λc=>Am (tab.length/G) λu=>Cs G tab (r++(c++w)) u)=_;rw[Eu];show _=Am (tab.length/G) (Cs G tab r)*_;rw[<-Dl];exact Ae λu hu=>NA G2 hb hN w r u hu
theorem OD{n:Nat}{f:Nat->Int}{M:Int}(h:∀k,k<n->M<=f k)(e:Am n f=M*(n:Int)):∀k,k<n->f k=M:=by
 induction n with
 |zero=>intro k hk;lia
 |succ n ih =>
  rw[A3]at e
  have a:(n:Int)*M<=Am n f:=by
   have z:=DS (n:=n) (f:=λk=>f k+(-M)) λk hk=>by have:=h k (by lia);lia
   rw[Ki,Bn,Int.mul_neg]at z;lia
  have b:=h n (by lia);have c:M*((n+1:Nat):Int)=(n:Int)*M+M:=by rw[aH,Int.mul_add,Yf];lia
  have d:M*(n:Int)=(n:Int)*M:=Yf ..;intro k hk
  by_cases z:k=n
  ·subst z;lia
  ·exact ih (λk hk=>h k (by omega)) (by omega) k (by omega)
abbrev Sg(G:Nat)(r:List Int):Prop:=∀n∈r,0<=n/\n<(G:Int)
theorem Sg.snoc{r:List Int}(h:Sg G r){s:Nat}(hs:s<G):Sg G (r++[(s:Int)]):=λn hn=>by
 rcases Xq.mp hn with z|z
 ·exact h n z
 ·rw[Xl.mp z];lia
theorem Hs:∀n:Nat,∀w,Sg G w->B5 G tab w<=(n:Int)->∃w,Sg G w/\∀r,Sg G r->B5 G tab w<=B5 G tab r
 |0,w,hw,h=>⟨w,hw,λr _=>Yi h (DC G tab r)⟩
 |n+1,w,hw,h=>by
  by_cases z:∃r,Sg G r/\B5 G tab r<=(n:Int)
  ·obtain⟨r,hr,q⟩:=z;exact Hs n r hr q
  ·refine⟨w,hw,λr hr=>?_⟩;rcases Int.lt_or_le (B5 G tab r) (B5 G tab w) with y|y
   ·exact qG ⟨r,hr,by lia⟩ z
   ·exact y
theorem P4(G2:2<=G)(hb:∀n∈tab,0<=n/\n<(G:Int)){l:Nat}(hN:tab.length/G=G^l)(on:∀r,Sg G r->1<=B5 G tab r):∀r,Sg G r->B5 G tab r=((tab.length/G:Nat):Int):=by
 obtain⟨w,hw,lw⟩:=Hs (G:=G) (tab:=tab) (B5 G tab []).toNat [] (λn hn=>by cases hn) (by have:=DC G tab [];lia)
 have ext:∀(r c:List Int),Sg G r->Sg G c->B5 G tab r=B5 G tab w->B5 G tab (r++c)=B5 G tab w:=by
  intro r c
  induction c generalizing r with
  |nil=>intro _ _ e;rw[Yd];exact e
  |cons s c ih =>
   intro hr hc e;have hs:=hc s X6;have z:=OD (λk hk=>by rw[e];exact lw _ (hr.snoc hk)) (Lu G2 hb r) s.toNat (by lia);rw[show ((s.toNat:Nat):Int)=s by lia]at z
   have hr2:Sg G (r++[s]):=λn hn=>by
    rcases Xq.mp hn with y|y
    ·exact hr n y
    ·rw[Xl.mp y];exact hs
   have y:=ih (r++[s]) hr2 (λn hn=>hc n (X0 _ hn)) (z.trans e);rw[YG]at y;exact y
 have g1:=RM G2 hb hN w w;rw[Hr (h:=λ_=>B5 G tab w) λc hc=>ext w (c++w) hw (λn hn=>(Xq.mp hn).elim (hc n) (hw n)) rfl,FN,<-hN]at g1;have p1:=on w hw;have e1:((tab.length/G:Nat):Int)=B5 G tab w:=Int.eq_of_mul_eq_mul_right (by lia) g1
 have all:∀(c r:List Int),Sg G r->Sg G c->B5 G tab r=((tab.length/G:Nat):Int)->B5 G tab (r++c)=((tab.length/G:Nat):Int):=λc r hr hc e=>by rw[e1]at e⊢;exact ext r c hr hc e
 intro r hr
 have e0:B5 G tab []=((tab.length/G:Nat):Int):=by show Am (tab.length/G) (λ_=>(1:Int))=_;rw[Bn,Zn]
 exact all r [] (λn hn=>by cases hn) hr e0
theorem NB(x:Int->Int){lo:Int}{k m n:Nat}(h:k+m<=n):Bj x (lo+(k:Int)) m=((Bj x lo n).drop k).take m:=by rw[<-PB x (lo:=lo+(k:Int)) (low:=lo) (M:=n) (by lia) (by lia),show lo+(k:Int)-lo=(k:Int) by lia,Lr (by rw[BU];exact h)]
theorem Ev(hg:2<=g)(lo:Int){m:Nat}(hl:(tab.length:Int)=g^m)(hm:1<=m):1<=B5 g.toNat tab row↔∃x,Nq g x/\∀k:Nat,k<row.length->Gb g (lo+(k:Int)) tab m x=row.getD k 0:=by
 constructor
 ·intro h;have ne:PX g tab m row≠[]:=λz=>by rw[<-Q9 tab m row,z]at h;simp at h
  obtain⟨w,hw⟩:=List.exists_mem_of_ne_nil _ ne;rw[<-Ny hg hl hm]at hw;obtain⟨h1,h2⟩:=Ya.mp hw;have h2:=of_decide_eq_true h2;obtain⟨wl,wb⟩:=(Iq hg).mp h1;refine⟨GP w lo,F2 hg wb lo,λk hk=>?_⟩;have hl2:=congrArg List.length h2;rw[Ka]at hl2;rw[<-h2];unfold CO;rw[AM (by lia)];unfold Gb KZ
  congr 3
  rw[NB (GP w lo) (show k+m<=w.length by lia),EV]
 ·rintro⟨x,hx,h⟩
  have e:CO g tab m (Bj x lo (row.length+m-1))=row:=by
   have ll:(CO g tab m (Bj x lo (row.length+m-1))).length=row.length:=by rw[Ka,BU];lia
   refine List.ext_getElem ll λk h1 h2=>?_;have z:=h k h2;rw[Xm,Xs h2,Option.getD_some]at z;rw[<-z]
   have e2:(CO g tab m (Bj x lo (row.length+m-1))).getD k 0=Gb g (lo+(k:Int)) tab m x:=by unfold CO;rw[AM (by rw[BU];lia)];unfold Gb KZ;rw[NB x (show k+m<=row.length+m-1 by lia)]
   rw[Xm,Xs h1,Option.getD_some]at e2;exact e2
  rw[<-e];exact Qx hg hl hm (C3 hx _ _)
theorem GS(hg:2<=g){lo:Int}{m:Nat}(hl:(tab.length:Int)=g^m)(hm:1<=m)(hl':(tab'.length:Int)=g^m')(hm':1<=m')(al:Ba g lo tab m lo' tab' m')(h:1<=B5 g.toNat tab row):1<=B5 g.toNat tab' row:=by
 obtain⟨x,hx,q⟩:=(Ev hg lo hl hm).mp h;refine (Ev hg lo' hl' hm').mpr ⟨x,hx,λk hk=>?_⟩;rw[<-q k hk];have z:=al (λz=>x (z+(k:Int))) λz=>hx _
 have e:∀(lo:Int) (tab:List Int) (m:Nat),Gb g lo tab m (λz=>x (z+(k:Int)))=Gb g (lo+(k:Int)) tab m x:=λlo tab m=>by
  unfold Gb Bj
  congr 4
  funext j
  show x (lo+(j:Int)+(k:Int))=x (lo+(k:Int)+(j:Int))
  congr 1
  lia
 rw[e,e]at z;exact z.symm
noncomputable def Ud:Option Nat->V
 |none=>.non
 |some n=>.int ((n:Nat):Int)
def VX(H:Hp)(p:Addr)(Z:List Int)(F:Int->List Int)(fo:Int->Option Nat):Prop:=∃ts:List Addr,H p=some (.lst (ts.map V.ref))/\ts.length=Z.length/\∀(i:Nat) (t:Addr) (z:Int),ts[i]?=some t->Z[i]?=some z->∃l,H t=some (.tup [.int z,.ref l,Ud (fo z)])/\H l=some (.lst ((F z).map V.int))
inductive Gr(CT:Addr)(pos:Pos)(Pt:Addr)(vs:List V)(H:Hp)(Q:VK)(E:XK):Prop
 |m (r:Addr) (g lo:Int) (tab:List Int) (m:Nat) (lf:Int) (tf:List Int) (mf:Nat):vs=[.ref r]->Ay H r g lo tab m->BD g lo tab m lf tf mf->BQ pos (E1 "sets_reached") Pt H->(g^(mf-1)<=9->∀A M f Z,Db [AS g tf] (AQ g tf) A->Ee A (AQ g tf) [0] M f->Z.Perm A->Ordered true Z->∀p H',Bf Pt H H'->BQ pos (E1 "sets_reached") Pt H'->H p=none->VX H' p Z (AQ g tf) (C9 M f)->Q (.ref p) H')->(9<g^(mf-1)->∀H',AG H H'->E (.ref CT) none H')->Gr CT pos Pt vs H Q E
inductive MU(CT:Addr)(pos:Pos)(Pt:Addr)(vs:List V)(H:Hp)(Q:VK)(E:XK):Prop
 |m (r:Addr) (g lo:Int) (tab:List Int) (m:Nat) (lf:Int) (tf:List Int) (mf:Nat):vs=[.ref r]->Ay H r g lo tab m->BD g lo tab m lf tf mf->BQ pos (E1 "sets_reached") Pt H->(g^(mf-1)<=9->∀A M f,Db [AS g tf] (AQ g tf) A->Ee A (AQ g tf) [0] M f->∀H',Bf Pt H H'->BQ pos (E1 "sets_reached") Pt H'->Q (.bl (decide (AS g tf∉M))) H')->(9<g^(mf-1)->∀H',AG H H'->E (.ref CT) none H')->MU CT pos Pt vs H Q E
section
variable{A M:List Int}{f:Int->Nat}
theorem Iz{x y:Int}:y∈AQ g tf x↔∃s:Nat,s<g.toNat/\y=Cw g.toNat tf (tf.length/g.toNat) x (s:Int):=by unfold AQ;rw[YH];exact⟨λ⟨s,h1,h2⟩=>⟨s,YD.mp h1,h2.symm⟩,λ⟨s,h1,h2⟩=>⟨s,YD.mpr h1,h2.symm⟩⟩
theorem OE(x s:Int)(row:List Int):A4 g tf x (s::row)=A4 g tf (Cw g.toNat tf (tf.length/g.toNat) x s) row:=rfl
theorem Ht(cl:∀a∈A,∀b∈AQ g tf a,b∈A)(w:Ee A (AQ g tf) [0] M f):∀(row:List Int) (x:Int),x∈A->(∀n∈row,0<=n/\n<g)->A4 g tf x row=0->x∈M/\f x<=row.length
 |[],x,_,_,h=>by have z:=w.ends 0 (Xl.mpr rfl);rw[show x=0 from h];exact⟨z.1,Nat.le_of_eq z.2⟩
 |s::row,x,hx,hr,h=>by have hs:=hr s X6;have m:Cw g.toNat tf (tf.length/g.toNat) x s∈AQ g tf x:=Iz.mpr ⟨s.toNat,by lia,by rw[show ((s.toNat:Nat):Int)=s by lia]⟩;obtain⟨h1,h2⟩:=Ht cl w row _ (cl x hx _ m) (λn hn=>hr n (X0 _ hn)) h;obtain⟨h3,h4⟩:=w.up x hx _ m h1;exact⟨h3,by rw[YZ];lia⟩
theorem GD(w:Ee A (AQ g tf) [0] M f):∀(n:Nat) (x:Int),C9 M f x=some n->A4 g tf x (Cp (AQ g tf) (C9 M f) n x)=0
 |0,x,e=>by
  unfold C9 at e
  split at e
  ·rename_i hx
   have z:=w.zero x hx (Option.some.inj e);exact Xl.mp z
  ·cases e
 |n+1,x,e=>by
  obtain⟨y,hy,ey⟩:=w.down' x n e;obtain⟨z,h1,h2,h3,h4,_⟩:=MO hy ey;show A4 g tf x (((C5 (AQ g tf) (C9 M f) n x:Nat):Int)::Cp (AQ g tf) (C9 M f) n ((AQ g tf x).getD (C5 (AQ g tf) (C9 M f) n x) 0))=0
  have ez:Cw g.toNat tf (tf.length/g.toNat) x ((C5 (AQ g tf) (C9 M f) n x:Nat):Int)=z:=by rw[<-h3];rw[Bq]at h4;show _=((List.range g.toNat).map λs:Nat=>Cw g.toNat tf (tf.length/g.toNat) x (s:Int)).getD _ 0;rw[AM h4]
  rw[OE,ez,h3];exact GD w n z h2
theorem P5(h:1<=tf.length/g.toNat):1<=AS g tf:=by
 unfold AS;have z:2^1<=2^(tf.length/g.toNat):=aj (by decide) h;have y:(2:Int)^(tf.length/g.toNat)=((2^(tf.length/g.toNat):Nat):Int):=by rw[ZY];rfl
 lia
theorem K9(g2:2<=g)(rA:Db [AS g tf] (AQ g tf) A)(w:Ee A (AQ g tf) [0] M f):AS g tf∉M↔∀row,(∀n∈row,0<=n/\n<g)->B5 g.toNat tf row≠0:=by
 have hf:=rA.st _ (Xl.mpr rfl);constructor
 ·intro h row hr z;exact h (Ht rA.cl w row _ hf hr ((Eg g2 row).mpr z)).1
 ·intro h m;have e:C9 M f (AS g tf)=some (f (AS g tf)):=by unfold C9;rw[qF m]
  obtain⟨_,low⟩:=GB (G:=g.toNat) (λx=>Bq g tf x) w.down' _ _ e;exact h _ (λn hn=>by have:=low n hn;lia) ((Eg g2 _).mp (GD w _ _ e))
theorem RN(g2:2<=g)(h1:1<=tf.length/g.toNat)(rA:Db [AS g tf] (AQ g tf) A)(w:Ee A (AQ g tf) [0] M f)(m:AS g tf∈M){ws:List Int}(hw:ws=Cp (AQ g tf) (C9 M f) (f (AS g tf)) (AS g tf)):
  (∀n∈ws,0<=n/\n<g)/\ws≠[]/\B5 g.toNat tf ws=0/\B5 g.toNat tf ws.dropLast≠0/\ws.length=f (AS g tf):=by
 have e:C9 M f (AS g tf)=some (f (AS g tf)):=by unfold C9;rw[qF m]
 obtain⟨len,low⟩:=GB (G:=g.toNat) (λx=>Bq g tf x) w.down' _ _ e;rw[<-hw]at len low;have hf:=rA.st _ (Xl.mpr rfl)
 have f1:1<=f (AS g tf):=by
  rcases ZS (f (AS g tf)) with z|z
  ·have:=Xl.mp (w.zero _ m z);have:=P5 (g:=g) h1;lia
  ·exact z
 refine⟨λn hn=>by have:=low n hn;lia,λz=>by rw[z]at len;simp at len;lia,?_,λz=>?_,len⟩
 ·rw[hw];exact (Eg g2 _).mp (GD w _ _ e)
 ·have y:=(Ht rA.cl w ws.dropLast _ hf (λn hn=>by have:=low n ((List.dropLast_sublist ws).subset hn);lia) ((Eg g2 _).mpr z)).2;rw[List.length_dropLast,len]at y;lia
theorem MV(g2:2<=g)(rA:Db [AS g tf] (AQ g tf) A)(lw:∀a∈A,0<=a/\a<=AS g tf){Z:List Int}(p:Z.Perm A)(o:Ordered true Z):∃Z',Z=AS g tf::Z':=by
 have hf:=p.mem_iff.mpr (rA.st _ (Xl.mpr rfl));cases Z with
 |nil=>cases hf
 |cons a Z' =>
  have o:(a::Z').Pairwise (·≥·):=o;rcases YA.mp hf with z|z
  ·exact⟨Z',by rw[z]⟩
  ·have y:=(aE.mp o).1 _ z;have x:=(lw a (p.mem_iff.mp X6)).2;exact⟨Z',by rw[show a=AS g tf by lia]⟩
end
theorem LA:∀{A:List Int} {vs:List V},vs.length=A.length->(Au A vs).map (·.1)=A.map Sum.inl
 |[],[],_=>rfl
 |a::A,v::vs,h=>by show Sum.inl a::(Au A vs).map (·.1)=Sum.inl a::A.map Sum.inl;rw[LA (by simpa using h)]
 |[],_::_,h=>by simp at h
 |_::_,[],h=>by simp at h
theorem RO{M:List Int}{f:Int->Nat}(nd:M.Nodup)(x:Int):(Cb (Dc M f) (Sum.inl x)).getD .non=Ud (C9 M f x):=by
 rw[Hl nd];unfold C9
 split<;>rfl
theorem OF(hg:2<=g){m:Nat}(hl:(tab.length:Int)=g^m)(hm:1<=m){a w b:List Int}(h:1<=B5 g.toNat tab (a++w++b)):1<=B5 g.toNat tab w:=by obtain⟨x,hx,q⟩:=(Ev hg 0 hl hm).mp h;refine (Ev hg (0+(a.length:Int)) hl hm).mpr ⟨x,hx,λk hk=>?_⟩;have z:=q (a.length+k) (by rw[Xp,Xp];lia);rw[show (0:Int)+((a.length+k:Nat):Int)=0+(a.length:Int)+(k:Int) by lia]at z;rw[z,Xm,Xm,YL (by rw[Xp];lia),X4 (by lia),Nat.add_sub_cancel_left]
end L2
namespace PySem
namespace F
theorem sub_rgi_reversed:isSubtype (.type "range_iterator") (.type "reversed")=pure false:=by rw[isSubtype_type];kernel_rfl
end F
section
variable{prog:Program}{w:World}{A:Around}{E:Value->Shared->Prop}{s:Shared}
noncomputable def rgiObj(a n c:Int):Obj:={cls:=.type "range_iterator",data:=.fields #[rawInt a,rawInt n,rawInt c]}
theorem call_range_rev{r:Addr}{n:Int}{t u v:Tok}{Q:Value->Shared->Prop}(hr:IsRange s.heap r 0 n 1 t u v)(n0:0<=n)(n1:n<2^29)
  (h:Q (.ref s.heap.objs.size) {s with heap:=s.heap.push (rgiObj (n-1) n (-1))}):wpAny (model prog w) A (call (.builtin "range.__reversed__") [.ref r]) Q E s:=by
 refine wpAny_call_entry F.slot_range_reversed ⟨_,hr,rfl⟩ F.entry_range_reversed ?_ (F.args_range_reversed_1 _);unfold Builtin.«range.__reversed__»;refine qC (wpAny_of_eq (a:=Value.ref r) rfl ?_);refine qC ?_;unfold Builtin.Range.rangeFields;refine qC (wpAny_field hr rfl (x:=.int 0 t) rfl (qC (wpAny_of_eq (a:=some 0) rfl ?_)));refine qC (wpAny_field hr rfl (x:=.int n u) rfl (qC (wpAny_of_eq (a:=some n) rfl ?_)));refine qC (wpAny_field hr rfl (x:=.int 1 v) rfl (qC (wpAny_of_eq (a:=some 1) rfl ?_)));refine qD ?_;dsimp only;have sz:Builtin.Range.rangeSize 0 n 1=n:=by rw[rangeSize_one];split<;>lia
 rw[sz]
 have sm:(Builtin.Range.rangeFitsLong 0&&Builtin.Range.rangeFitsLong n&&Builtin.Range.rangeFitsLong 1&&Builtin.Range.rangeFitsLong (-1)&&Builtin.Range.rangeFitsLong (0-1)&&Builtin.Range.rangeFitsLong n)=true:=by simp only[Builtin.Range.rangeFitsLong,Bool.and_eq_true,decide_eq_true_eq];lia
 rw[sm];simp only[Bool.not_true,Bool.false_eq_true,if_false,if_true];refine qC (wpAny_newObj_type ?_);rw[show (0:Int)+(n-1)*1=n-1 by lia];exact qD ⟨_,rfl,h⟩
theorem code_reversed_rng{r:Addr}{n:Int}{t u v:Tok}{Q₁:Value->Shared->Prop}(hr:IsRange s.heap r 0 n 1 t u v)(n0:0<=n)(n1:n<2^29)
  (h:Q₁ (.ref s.heap.objs.size) {s with heap:=s.heap.push (rgiObj (n-1) n (-1))}):
  codeAny (model prog w) A (.call (.builtin "reversed.__new__") ⟨[.type "reversed",.ref r],[]⟩) (wants Q₁ E) s:=by
 refine codeAny_of_tree ?_;show wpAny _ A.in1 (do checkBuiltinCall "reversed.__new__" ⟨[.type "reversed",.ref r],[]⟩;again (.builtin "reversed.__new__" ⟨[.type "reversed",.ref r],[]⟩)) _ _ s;refine qC (wpAny_of_eq (F.newCall_reversed_1 _) (qD ⟨plainId_quiet F.plain_reversed_new _,codeAny_builtin F.entry_reversed_new ?_⟩));rw[Around.under_plainId F.plain_reversed_new _];unfold Builtin.«reversed.__new__»;refine qC (wpAny_of_eq (newClass_reversed _) ?_)
 try dsimp only
 refine qC (wpAny_of_eq (a:=()) (by first|rfl|kernel_rfl) (qC (wpAny_of_eq (a:=()) (by first|rfl|kernel_rfl) ?_)))
 try dsimp only
 refine qC (wpAny_specialOf (T:="range") ⟨_,hr,rfl⟩ F.slot_range_reversed.lookup ?_)
 try dsimp only
 refine qC (wpAny_of_eq (F.slot_range_reversed.bind _) ?_)
 try dsimp only
 rw[qE (show ¬((Value.builtin "range.__reversed__"==Value.none)=true) from X1)];refine qC (wpAny_rule ?_);refine qC (m:=runValue (.call (.builtin "range.__reversed__") ⟨[.ref r],[]⟩)) (show wpAny _ _ (call (.builtin "range.__reversed__") [.ref r]) _ _ _ from call_range_rev hr n0 n1 ?_)
 first
 |exact qD h
 |exact qC (qD (qD h))
theorem call_reversed_rng{r:Addr}{n:Int}{t u v:Tok}{Q:Value->Shared->Prop}(hr:IsRange s.heap r 0 n 1 t u v)(n0:0<=n)(n1:n<2^29)
  (h:Q (.ref s.heap.objs.size) {s with heap:=s.heap.push (rgiObj (n-1) n (-1))}):wpAny (model prog w) A (call (.type "reversed") [.ref r]) Q E s:=by
 refine callType_other (U:="range_iterator") (Q₁:=λobj s₁=>obj=.ref s.heap.objs.size/\s₁={s with heap:=s.heap.push (rgiObj (n-1) n (-1))}) (by decide +kernel) F.create_reversed ⟨_,_,F.mro_reversed⟩ F.made_reversed F.sub_rgi_reversed (F.typeCall_reversed_1 _) (code_reversed_rng hr n0 n1 ⟨rfl,rfl⟩) ?_;rintro obj s₁ ⟨rfl,rfl⟩;exact⟨⟨_,Xz _ rfl,rfl⟩,h⟩
end
end PySem
namespace L2
open PySem PySem.Spec PyProof.Rows RW
variable{X:Cx}{ta:TA}{tg:Expr}
def VY(ta:TA):TI:=λσ H R=>ta σ H λvs H1=>∃n:Int,vs=[.int n]/\0<=n/\n<2^29/\R (Le (n-1) (-1) n.toNat) H1
theorem RP{l:Expr}{p1 p2 pos1 pos2:Pos}(hg:Gl X "range")(hm:X.mg "range"=none)(hg2:Gl X "reversed")(hm2:X.mg "reversed"=none)(ha:PA X [l] ta)(hs:starEach [l] X.env=[(false,eval l X.env)]:=by rfl)
  (hs2:starEach [.Call (.Name "range" p1) [l] [] pos1] X.env=[(false,eval (.Call (.Name "range" p1) [l] [] pos1) X.env)]:=by rfl):
  PI X tg (.Call (.Name "reversed" p2) [.Call (.Name "range" p1) [l] [] pos1] [] pos2) (VY ta):=by
 intro pins s σ H R I h;refine Call_ (CD I hg2 hm2 boot_reversed (YR (T:="reversed") ?_ hs2 rfl));rw[hs2];show wpAny _ _ (spliced ((false,eval (.Call (.Name "range" p1) [l] [] pos1) X.env)::[])) _ _ s;refine Calls.spliced_cons (Call_ (CD I hg hm boot_range (YR (BX (ha pos1 pins s σ H _ I h) λus s1 z9=>?_) hs rfl)));obtain⟨vs,H1,I1,r1,q1⟩:=z9;obtain⟨n,e,n0,n1,q⟩:=q1;subst e;cases r1 with
 |cons r rr =>
  cases rr;obtain⟨t,rfl⟩:=r;refine call_range_1 (Calls.spliced_nil ?_);refine call_reversed_rng (IsRange.new ..) n0 n1 ?_;dsimp only;have J:AY X pins σ H1 {s1 with heap:=s1.heap.push {cls:=.type "range",data:=.fields #[.int 0 s1.toks,.int n t,.int 1 (s1.toks+1)]},toks:=s1.toks+1+1}:=I1.kept λb o e=>Xn _ e
  generalize hG:s1.heap.push {cls:=.type "range",data:=.fields #[.int 0 s1.toks,.int n t,.int 1 (s1.toks+1)]}=G at J⊢
  have st:IsRangeIter (G.push (rgiObj (n-1) n (-1))) G.objs.size (n-1+((0:Nat):Int)*(-1)) ((n.toNat:Int)-((0:Nat):Int)) (-1):=by rw[show n-1+((0:Nat):Int)*(-1)=n-1 by lia,show (n.toNat:Int)-((0:Nat):Int)=n by lia];exact Xz _ rfl
  refine wpAny_pyIter_rangeiter st ?_;refine⟨G.objs.size,[G.objs.size],_,_,H1,rfl,J.kept (t':=s1.toks+1+1) λb o e=>Xn _ e,GM _ (n-1) (-1) n.toNat,st,λb hb=>?_,q⟩;cases Xl.mp hb;exact J.fpOk (Xr _) (J.hok.fresh (Xr _))
end L2
local macro_rules|`(tactic|walk_at "rd")=>`(tactic|try simp only[L2.Sm,L2.ON,L2.OM,L2.SQ,L2.Re,L2.UX,L2.XW,L2.SN,L2.tC,L2.Od,L2.Az,L2.DN,L2.QW,L2.EK,L2.LN,L2.FR,L2.Ra,L2.Xb,L2.Wc,L2.Mg,L2.Uj,L2.Ri,L2.VI,L2.Oq,L2.E6,Option.join_some,L2.Uu,L2.G6,L2.KI,L2.JN,L2.Rm,L2.U4,L2.Om,L2.Lc,L2.U2,
 L2.Ui,L2.Uh,L2.XU,L2.tB,L2.RY,L2.RZ,L2.rI,L2.OR,L2.rU,L2.Sk,L2.Qf,L2.Xa,L2.Rg,L2.JG,L2.Ci,L2.Us,L2.QU,L2.SY,L2.XX,L2.XY,L2.Sb,
 Yj,aU,YZ,aC,Z6,ap,List.replicate,List.getElem?_cons_zero,List.getElem?_cons_succ,List.set_cons_zero,List.set_cons_succ,Nat.reduceAdd,Nat.reduceSub,
 Option.some.injEq,L2.V.int.injEq,L2.V.bl.injEq,L2.V.ref.injEq,L2.V.str.injEq,List.cons.injEq,and_true,true_and,exists_eq_left',exists_eq_left,exists_eq_right,exists_and_left,exists_and_right,exists_eq,and_assoc,if_true,if_false,reduceIte,reduceCtorEq,not_true_eq_false,not_false_eq_true,Bool.false_eq_true,Bool.not_true,Bool.not_false,decide_eq_true_eq,Bool.not_eq_true',decide_eq_false_iff_not])
namespace K45
open PySem L2 RW
def Cf(i:Nat):Stmt:=PySem.Challenge.pw_rowrules_k45_whole_reached_and_balanced.main.body.getD i (.Pass ⟨0,0,0,0⟩)
abbrev W0:Stmt:=Qb (Cf 3) 0
abbrev Tc:Stmt:=Cf 8
abbrev Td:Stmt:=Cf 9
abbrev Te:Stmt:=Cf 10
abbrev W1:Stmt:=Cf 11
abbrev Tf:Stmt:=Cf 12
abbrev Tg:Stmt:=Cf 13
abbrev Th:Stmt:=Cf 16
abbrev Ti:Stmt:=Cf 17
abbrev W2:Stmt:=Cf 18
abbrev Tj:Stmt:=Cf 19
abbrev Tk:Stmt:=Cf 20
abbrev Tl:Stmt:=Cf 21
abbrev Tn:Stmt:=Cf 22
abbrev To:Stmt:=Cf 23
abbrev Tp:Stmt:=Cf 24
abbrev Tq:Stmt:=Cf 26
abbrev Tr:Stmt:=Cf 27
abbrev W3:Stmt:=Cf 28
abbrev Ts:Stmt:=Cf 29
abbrev Tt:Stmt:=Cf 30
abbrev Tu:Stmt:=Cf 31
abbrev Tv:Stmt:=Cf 34
abbrev Tw:Stmt:=Cf 35
abbrev Tx:Stmt:=Cf 36
abbrev Tz:Stmt:=Cf 37
abbrev W6:Stmt:=Cf 38
abbrev T0:Stmt:=Cf 39
abbrev T1:Stmt:=Cf 41
abbrev T3:Stmt:=Cf 42
abbrev W7:Stmt:=Cf 43
abbrev W8:Stmt:=Cf 45
abbrev T4:Stmt:=Cf 46
abbrev T5:Stmt:=Cf 47
abbrev T6:Stmt:=Cf 48
abbrev T7:Stmt:=Cf 50
abbrev T8:Stmt:=Cf 51
abbrev T9:Stmt:=Cf 52
abbrev UA:Stmt:=Cf 54
abbrev W9:Stmt:=Cf 55
abbrev XB:Stmt:=Cf 56
abbrev UB:Stmt:=Cf 57
abbrev UC:Stmt:=Cf 58
abbrev UD:Stmt:=Cf 59
abbrev UE:Stmt:=Cf 60
abbrev UF:Stmt:=Cf 61
abbrev UG:Stmt:=Cf 62
abbrev UH:Stmt:=Cf 63
abbrev UI:Stmt:=Cf 64
abbrev UJ:Stmt:=Cf 65
abbrev UK:Stmt:=Cf 66
abbrev UL:Stmt:=Cf 67
abbrev XC:Stmt:=Cf 68
abbrev UM:Stmt:=Cf 69
abbrev RQ:Stmt:=Cf 70
set_option genInjectivity false
structure Xh where
 (c_35 c_47 c_53 c_48 c_34 c_39:Addr)
 (f_1 f_38 f_41 f_22 f_4 f_32 f_46 f_21 f_24 f_8 f_11 f_59 f_51 f_31 f_33 f_55 f_49 f_37 f_0 f_30 f_50 f_45 f_54 f_56 f_23 f_40 f_7 f_43 f_42 f_14 f_5 f_6 f_13 f_58 f_57 f_52 f_44 f_12 f_20 f_3 f_9 f_18 f_28 f_10 f_19 f_26 f_15 f_16 f_36 f_27 f_25 f_17 f_2 f_29 f_60:Addr)
 (cc_6 p_6:Addr)
structure CU(K:qJ)(mg:Str->Option Value)(t:Xh):Prop where
 m_35:mg "RowError"=some (.ref t.c_35)
 m_47:mg "NoRule"=some (.ref t.c_47)
 m_53:mg "NoRow"=some (.ref t.c_53)
 m_48:mg "NoSuch"=some (.ref t.c_48)
 m_34:mg "NoWindow"=some (.ref t.c_34)
 m_39:mg "TooWide"=some (.ref t.c_39)
 d_1:∃fd,B1 K "__init__" "NoRow.__init__" W0 t.f_1 fd
 m_38:mg "is_whole"=some (.ref t.f_38)
 d_38:∃fd,B1 K "is_whole" "is_whole" Tc t.f_38 fd
 m_41:mg "is_sign"=some (.ref t.f_41)
 d_41:∃fd,B1 K "is_sign" "is_sign" Td t.f_41 fd
 m_22:mg "check_word"=some (.ref t.f_22)
 d_22:∃fd,B1 K "check_word" "check_word" Te t.f_22 fd
 m_4:mg "check_length"=some (.ref t.f_4)
 d_4:∃fd,B1 K "check_length" "check_length" W1 t.f_4 fd
 m_32:mg "number_of"=some (.ref t.f_32)
 d_32:∃fd,B1 K "number_of" "number_of" Tf t.f_32 fd
 m_46:mg "word_of"=some (.ref t.f_46)
 d_46:∃fd,B1 K "word_of" "word_of" Tg t.f_46 fd
 m_21:mg "check_head"=some (.ref t.f_21)
 d_21:∃fd,B1 K "check_head" "check_head" Th t.f_21 fd
 m_24:mg "places_for"=some (.ref t.f_24)
 d_24:∃fd,B1 K "places_for" "places_for" Ti t.f_24 fd
 m_8:mg "table_length"=some (.ref t.f_8)
 d_8:∃fd,B1 K "table_length" "table_length" W2 t.f_8 fd
 m_11:mg "check_table"=some (.ref t.f_11)
 d_11:∃fd,B1 K "check_table" "check_table" Tj t.f_11 fd
 m_59:mg "rule"=some (.ref t.f_59)
 d_59:∃fd,B1 K "rule" "rule" Tk t.f_59 fd
 m_51:mg "places"=some (.ref t.f_51)
 d_51:∃fd,B1 K "places" "places" Tl t.f_51 fd
 m_31:mg "next_sign"=some (.ref t.f_31)
 d_31:∃fd,B1 K "next_sign" "next_sign" Tn t.f_31 fd
 m_33:mg "told_from"=some (.ref t.f_33)
 d_33:∃fd,B1 K "told_from" "told_from" To t.f_33 fd
 m_55:mg "heads"=some (.ref t.f_55)
 d_55:∃fd,B1 K "heads" "heads" Tp t.f_55 fd
 m_49:mg "counts"=some (.ref t.f_49)
 d_49:∃fd,B1 K "counts" "counts" Tq t.f_49 fd
 m_37:mg "counting"=some (.ref t.f_37)
 d_37:∃fd,B1 K "counting" "counting" Tr t.f_37 fd
 m_0:mg "sign_or_nought"=some (.ref t.f_0)
 d_0:∃fd,B1 K "sign_or_nought" "sign_or_nought" W3 t.f_0 fd
 m_30:mg "by_window"=some (.ref t.f_30)
 d_30:∃fd,B1 K "by_window" "by_window" Ts t.f_30 fd
 m_50:mg "narrow"=some (.ref t.f_50)
 d_50:∃fd,B1 K "narrow" "narrow" Tt t.f_50 fd
 m_45:mg "widened"=some (.ref t.f_45)
 d_45:∃fd,B1 K "widened" "widened" Tu t.f_45 fd
 m_54:mg "frame"=some (.ref t.f_54)
 d_54:∃fd,B1 K "frame" "frame" Tv t.f_54 fd
 m_56:mg "nodes"=some (.ref t.f_56)
 d_56:∃fd,B1 K "nodes" "nodes" Tw t.f_56 fd
 m_23:mg "everything"=some (.ref t.f_23)
 d_23:∃fd,B1 K "everything" "everything" Tx t.f_23 fd
 m_40:mg "ends_of"=some (.ref t.f_40)
 d_40:∃fd,B1 K "ends_of" "ends_of" Tz t.f_40 fd
 m_7:mg "single_steps"=some (.ref t.f_7)
 d_7:∃fd,B1 K "single_steps" "single_steps" W6 t.f_7 fd
 m_43:mg "step_by"=some (.ref t.f_43)
 d_43:∃fd,B1 K "step_by" "step_by" T0 t.f_43 fd
 m_42:mg "reached"=some (.ref t.f_42)
 d_42:∃fd,B1 K "reached" "reached" T1 t.f_42 fd
 m_14:mg "turned_back"=some (.ref t.f_14)
 d_14:∃fd,B1 K "turned_back" "turned_back" T3 t.f_14 fd
 m_5:mg "fewest_steps"=some (.ref t.f_5)
 d_5:∃fd,B1 K "fewest_steps" "fewest_steps" W7 t.f_5 fd
 m_6:mg "sets_reached"=some (.ref t.f_6)
 d_6:∃fd,TU K "sets_reached" "sets_reached" W8 t.f_6 t.cc_6 t.p_6 fd
 hd_6:PySem.W.codeHdIn K t.cc_6 t.p_6=true
 m_13:mg "reach_paper"=some (.ref t.f_13)
 d_13:∃fd,B1 K "reach_paper" "reach_paper" T4 t.f_13 fd
 m_58:mg "onto"=some (.ref t.f_58)
 d_58:∃fd,B1 K "onto" "onto" T5 t.f_58 fd
 m_57:mg "lost"=some (.ref t.f_57)
 d_57:∃fd,B1 K "lost" "lost" T6 t.f_57 fd
 m_52:mg "shares"=some (.ref t.f_52)
 d_52:∃fd,B1 K "shares" "shares" T7 t.f_52 fd
 m_44:mg "ways_on"=some (.ref t.f_44)
 d_44:∃fd,B1 K "ways_on" "ways_on" T8 t.f_44 fd
 m_12:mg "many_before"=some (.ref t.f_12)
 d_12:∃fd,B1 K "many_before" "many_before" T9 t.f_12 fd
 m_20:mg "_law_whole"=some (.ref t.f_20)
 d_20:∃fd,B1 K "_law_whole" "_law_whole" UA t.f_20 fd
 m_3:mg "_law_cell_at"=some (.ref t.f_3)
 d_3:∃fd,B1 K "_law_cell_at" "_law_cell_at" W9 t.f_3 fd
 m_9:mg "_law_stream"=some (.ref t.f_9)
 d_9:∃fd,B1 K "_law_stream" "_law_stream" XB t.f_9 fd
 m_18:mg "_law_power"=some (.ref t.f_18)
 d_18:∃fd,B1 K "_law_power" "_law_power" UB t.f_18 fd
 m_28:mg "_law_sums"=some (.ref t.f_28)
 d_28:∃fd,B1 K "_law_sums" "_law_sums" UC t.f_28 fd
 m_10:mg "_law_tracks"=some (.ref t.f_10)
 d_10:∃fd,B1 K "_law_tracks" "_law_tracks" UD t.f_10 fd
 m_19:mg "_law_table"=some (.ref t.f_19)
 d_19:∃fd,B1 K "_law_table" "_law_table" UE t.f_19 fd
 m_26:mg "_law_rule"=some (.ref t.f_26)
 d_26:∃fd,B1 K "_law_rule" "_law_rule" UF t.f_26 fd
 m_15:mg "_law_count"=some (.ref t.f_15)
 d_15:∃fd,B1 K "_law_count" "_law_count" UG t.f_15 fd
 m_16:mg "_law_frame"=some (.ref t.f_16)
 d_16:∃fd,B1 K "_law_frame" "_law_frame" UH t.f_16 fd
 m_36:mg "_law_has"=some (.ref t.f_36)
 d_36:∃fd,B1 K "_law_has" "_law_has" UI t.f_36 fd
 m_27:mg "_law_sets"=some (.ref t.f_27)
 d_27:∃fd,B1 K "_law_sets" "_law_sets" UJ t.f_27 fd
 m_25:mg "_law_back"=some (.ref t.f_25)
 d_25:∃fd,B1 K "_law_back" "_law_back" UK t.f_25 fd
 m_17:mg "_law_leads"=some (.ref t.f_17)
 d_17:∃fd,B1 K "_law_leads" "_law_leads" UL t.f_17 fd
 m_2:mg "_law_balanced"=some (.ref t.f_2)
 d_2:∃fd,B1 K "_law_balanced" "_law_balanced" XC t.f_2 fd
 m_29:mg "_law_told"=some (.ref t.f_29)
 d_29:∃fd,B1 K "_law_told" "_law_told" UM t.f_29 fd
 m_60:mg "law"=some (.ref t.f_60)
 d_60:∃fd,B1 K "law" "law" RQ t.f_60 fd
 z_len:mg "len"=none
 z_list:mg "list"=none
 z_reversed:mg "reversed"=none
 z_isinstance:mg "isinstance"=none
 z_range:mg "range"=none
 z_int:mg "int"=none
 z_bool:mg "bool"=none
 z_ValueError:mg "ValueError"=none
 z_tuple:mg "tuple"=none
 z_enumerate:mg "enumerate"=none
 z_min:mg "min"=none
 z_sum:mg "sum"=none
 z_sorted:mg "sorted"=none
 g_LONGEST_TABLE:∃k,mg "LONGEST_TABLE"=some (.int 256 k)
 g_MOST_NODES:∃k,mg "MOST_NODES"=some (.int 9 k)
 x_47:PySem.W.excIn K t.c_47 Ft "ValueError.__new__"=true
 x_48:PySem.W.excIn K t.c_48 Ft "ValueError.__new__"=true
 x_34:PySem.W.excIn K t.c_34 Ft "ValueError.__new__"=true
 x_39:PySem.W.excIn K t.c_39 Ft "ValueError.__new__"=true
 xm_53:We K t.c_53 t.f_1
 ek_53:KD K t.c_53
 xa_NoRow_at:XA K t.c_53 t.c_35 "at"
abbrev LP:Pos:=⟨196,41,196,113⟩
inductive GF(vs:List V)(H:Hp)(Q:VK)(z3_:XK):Prop
 |m (r:Addr) (g lo:Int) (tab:List Int) (m:Nat):vs=[.ref r]->Ay H r g lo tab m->(∀(p:Addr) (lf:Int) (tf:List Int) (mf:Nat) (H':Hp),AG H H'->BD g lo tab m lf tf mf->H' p=some (.lst (tf.map V.int))->(tf.length:Int)=g^mf->mf<=8->Q (.ref p) H')->GF vs H Q z3_
def GU(g:Int)(i:Nat)(acc:List V):Prop:=∃us:List Int,acc=us.map V.int/\us.length=i/\∀n∈us,0<=n/\n<g
theorem GU.nil{g:Int}:GU g 0 []:=⟨[],rfl,rfl,λn hn=>by cases hn⟩
theorem GU.put{g:Int}{i:Nat}{acc:List V}(h:GU g i acc){v:Int}(v0:0<=v)(v1:v<g):GU g (i+1) (acc++[V.int v]):=by
 obtain⟨us,rfl,ul,ub⟩:=h;refine⟨us++[v],by rw[Xv];rfl,by rw[Xp,ul];rfl,λn hn=>?_⟩;rcases Xq.mp hn with z|z
 ·exact ub n z
 ·rw[Xl.mp z];exact⟨v0,v1⟩
theorem GU.snoc{g:Int}(g2:2<=g){i:Nat}{acc:List V}(h:GU g i acc)(v:Int):GU g (i+1) (acc++[V.int (v%g)]):=h.put (YY _ (by lia)) (YQ _ (by lia))
theorem GU.len{g:Int}{i:Nat}{acc:List V}(h:GU g i acc)(hi:i<=900):acc.length<sizeLine:=by obtain⟨us,rfl,ul,_⟩:=h;rw[Xk];exact AZ (by lia)
inductive Ew(vs:List V)(H:Hp)(Q:VK)(z3_:XK):Prop
 |m (c m:Int):vs=[.int c,.int m]->0<=m->m<=300->(∀(r:Addr) (H':Hp) (l:List Int),l.length=m.toNat->(∀x∈l,0<=x/\x<2147483647)->AG H H'->H r=none->H' r=some (.lst (l.map V.int))->Q (.ref r) H')->Ew vs H Q z3_
noncomputable def EF(x:Int)(k:Nat):Bool:=decide (x/2^k%2=1)
inductive Jx(vs:List V)(H:Hp)(Q:VK)(z3_:XK):Prop
 |m (x:Int) (k:Nat):vs=[.int x,.int ((k:Nat):Int)]->0<=x->k<=9->Q (.bl (EF x k)) H->Jx vs H Q z3_
inductive Hu(vs:List V)(H:Hp)(Q:VK)(z3_:XK):Prop
 |m (r a:Addr) (g lo:Int) (tab:List Int) (m:Nat) (ns:List Int):vs=[.ref r,.ref a,.int (B5 g.toNat tab ns)]->Ay H r g lo tab m->H a=some (.lst (ns.map V.int))->(∀n∈ns,0<=n/\n<g)->ns.length<=900->(∀H',AG H H'->Q (.bl true) H')->Hu vs H Q z3_
inductive Hv(vs:List V)(H:Hp)(Q:VK)(z3_:XK):Prop
 |m (g:Int) (m:Nat) (a:Addr) (xs:List Int):vs=[.int g,.int ((m:Nat):Int),.ref a]->2<=g->g<=9->m<=4->g^m<=81->H a=some (.lst (xs.map V.int))->xs.length=90->(∀x∈xs,0<=x/\x<2147483647)->(∀(p:Addr) (tab:List Int) (H':Hp),Fw H H' p tab->tab.length=(g^m).toNat->(∀n∈tab,0<=n/\n<g)->Q (.ref p) H')->Hv vs H Q z3_
inductive FO(vs:List V)(H:Hp)(Q:VK)(z3_:XK):Prop
 |m (g:Int) (a:Addr) (xs:List Int):vs=[.int g,.ref a]->(g=4\/g=6\/g=8\/g=9)->H a=some (.lst (xs.map V.int))->xs.length=90->(∀(p:Addr) (tab:List Int) (H':Hp),Fw H H' p tab->tab.length=(g^2).toNat->(∀n∈tab,0<=n/\n<g)->Q (.ref p) H')->FO vs H Q z3_
theorem OG{K:qJ}{C:Addr}{H:Hp}{r a:Addr}{g lo:Int}{tab:List Int}{m:Nat}{ns:List Int}{Q:VK}{E:_}(ok:Ay H r g lo tab m)(h:H a=some (.lst (ns.map V.int)))(hb:∀n∈ns,0<=n/\n<g)(hn:ns.length<=900)(q:∀H',AG H H'->Q (.int (B5 g.toNat tab ns)) H'):Jj K C [.ref r,.ref a] H Q E:=
 ⟨r,a,g,lo,tab,m,_,rfl,ok,Ad.of h,Ge,by rw[Xk];exact hn,by rw[FD hb];exact λns' e H' s=>by rw[<-FZ e];exact q H' s⟩
noncomputable def Hw(G:Nat)(tab:List Int)(s:Int)(F:Nat->Int)(k v:Nat):Int:=Am k λa=>D0 (decide (tab.getD a 0=s)&&decide (a%(tab.length/G)=v)) (F (a/G))
theorem RS{G:Nat}{tab:List Int}{s:Int}{F:Nat->Int}{k:Nat}(h:¬tab.getD k 0=s):Hw G tab s F (k+1)=Hw G tab s F k:=by
 funext v
 unfold Hw;rw[A3,qI h,aR];show _+(0:Int)=_;rw[aY]
theorem P6{G:Nat}{tab:List Int}{s:Int}{F:Nat->Int}{k:Nat}(h:tab.getD k 0=s):
  ((List.range (tab.length/G)).map (Hw G tab s F k)).set (k%(tab.length/G)) (Hw G tab s F k (k%(tab.length/G))+F (k/G))=(List.range (tab.length/G)).map (Hw G tab s F (k+1)):=by
 apply List.ext_getElem
 ·rw[Zo,Xk,Xk]
 ·intro v h1 h2;rw[List.getElem_set,List.getElem_map,List.getElem_map,List.getElem_range];unfold Hw;rw[A3,qH h,Bool.true_and];split
  ·rename_i e
   rw[e,qH rfl];rfl
  ·rename_i e
   rw[qI e];show _=_+(0:Int);rw[aY]
theorem OH(G:Nat)(tab:List Int)(s:Int)(F:Nat->Int)(n:Nat):(List.range n).map (Hw G tab s F 0)=List.replicate n 0:=by rw[Zp];refine⟨by rw[Xk,Xx],λb hb=>?_⟩;obtain⟨x,_,e⟩:=YH.mp hb;rw[<-e];rfl
inductive GG(K:qJ)(vs:List V)(H:Hp)(Q:VK)(z3_:XK):Prop
 |m (r a:Addr) (g lo:Int) (tab:List Int) (m:Nat) (ns:List Int):vs=[.ref r,.ref a]->Ay H r g lo tab m->Ad K H a (ns.map V.int)->(∀H',AG H H'->Q (.int (B5 g.toNat tab ns)) H')->GG K vs H Q z3_
inductive GH(vs:List V)(H:Hp)(Q:VK)(z3_:XK):Prop
 |m (g:Int) (m:Nat) (way:Int) (a:Addr) (xs:List Int):vs=[.int g,.int ((m:Nat):Int),.int way,.ref a]->2<=g->g<=9->1<=m->m<=4->g^m<=81->0<=way->H a=some (.lst (xs.map V.int))->xs.length=90->(∀x∈xs,0<=x/\x<2147483647)->(∀(p:Addr) (tab:List Int) (H':Hp),Fw H H' p tab->tab.length=(g^m).toNat->(∀n∈tab,0<=n/\n<g)->Q (.ref p) H')->GH vs H Q z3_
def VZ(g lo:Int)(tab:List Int)(m:Nat):Prop:=∀lf tf mf,BD g lo tab m lf tf mf->g^(mf-1)<=9
inductive Hy(K:qJ)(vs:List V)(H:Hp)(Q:VK)(z3_:XK):Prop
 |m (a:Addr) (ns:List Int):vs=[.ref a]->Ad K H a (ns.map V.int)->ns.length<=63->(∀(r:Addr) (g lo:Int) (tab:List Int) (m:Nat) (H':Hp),AG H H'->Ay H' r g lo tab m->VZ g lo tab m->Q (.ref r) H')->Hy K vs H Q z3_
abbrev Va(g:Int):Prop:=g=4\/g=6\/g=8\/g=9
theorem LB{g:Int}(g2:2<=g)(g9:g<=9):Ua (V.int g) [V.int 4,V.int 6,V.int 8,V.int 9]=true↔Va g:=by
 obtain rfl|rfl|rfl|rfl|rfl|rfl|rfl|rfl:g=2\/g=3\/g=4\/g=5\/g=6\/g=7\/g=8\/g=9:=by lia
 all_goals decide
theorem UN{g x:Int}(g2:2<=g)(x0:0<x):x<=x*g:=by have z:=Y1 (show 1<=g by lia) (show 0<=x by lia);rw[Zn]at z;exact z
theorem D8{ns:List Int}(k:Nat)(k1:1<=k)(h:k<=ns.length):G0 (ns.map V.int) (-(k:Int))=some (.int (ns.getD (ns.length-k) 0)):=by
 have e:=B9 (ns:=ns) (k:=ns.length-k) (by lia)
 have z:J7 (ns.map V.int).length (-(k:Int))=some (ns.length-k):=by
  unfold J7;rw[Xk];rw[qE (by lia),qF (by lia)]
  congr 1
  lia
 have y:J7 (ns.map V.int).length (((ns.length-k:Nat)):Int)=some (ns.length-k):=by rw[Xk];exact Fa (by lia)
 unfold G0 at e⊢;rw[y]at e;rw[z];exact e
theorem P7{xs:List Int}{z:Int}(z0:0<=z)(h:z<=(xs.length:Int)):(DO xs none (some z)).length=z.toNat:=by have ea:HT.FU xs.length 0 none=0:=rfl;have eb:HT.FU xs.length xs.length (some z)=min z.toNat xs.length:=qE (by lia);unfold DO;rw[ea,eb,YC,Yw];lia
theorem P8{g:Int}{tab:List Int}(tb:∀n∈tab,0<=n/\n<g){k:Nat}{v:Int}(hv:0<=v/\v<g):∀n∈tab.set k v,0<=n/\n<g:=λn hn=>by
 rcases List.mem_or_eq_of_mem_set hn with z|rfl
 ·exact tb n z
 ·exact hv
noncomputable def LC:List (List Int):=[[2,3],[2,4],[3,2],[2,4],[4,2],[3,3],[5,2],[2,2],[6,2],[3,1],[7,2],[8,2]]
def Bg(g:Int)(m:Nat):Prop:=2<=g/\g<=9/\1<=m/\m<=4/\g^m<=81/\g^(m-1)<=9
theorem LF:∀k,k<12->∃(g:Int) (m:Nat),LC[k]?=some [g,(m:Int)]/\Bg g m
 |0,_=>⟨2,3,rfl,by unfold Bg;decide⟩
 |1,_=>⟨2,4,rfl,by unfold Bg;decide⟩
 |2,_=>⟨3,2,rfl,by unfold Bg;decide⟩
 |3,_=>⟨2,4,rfl,by unfold Bg;decide⟩
 |4,_=>⟨4,2,rfl,by unfold Bg;decide⟩
 |5,_=>⟨3,3,rfl,by unfold Bg;decide⟩
 |6,_=>⟨5,2,rfl,by unfold Bg;decide⟩
 |7,_=>⟨2,2,rfl,by unfold Bg;decide⟩
 |8,_=>⟨6,2,rfl,by unfold Bg;decide⟩
 |9,_=>⟨3,1,rfl,by unfold Bg;decide⟩
 |10,_=>⟨7,2,rfl,by unfold Bg;decide⟩
 |11,_=>⟨8,2,rfl,by unfold Bg;decide⟩
 |n+12,h=>qG h (by lia)
theorem RT{g:Int}{m:Nat}(s:Bg g m){lo lo':Int}{tab tab':List Int}{m':Nat}(tl:(tab.length:Int)=g^m)(tl':(tab'.length:Int)=g^m')(al:Ba g lo' tab' m' lo tab m):VZ g lo' tab' m':=λlf tf mf fw=>by
 obtain⟨g2,g9,m1,m4,_,s9⟩:=s;have:=fw.le g2 tl' tl al
 by_cases y:mf<=m
 ·exact Yi (Bu g2 (show mf-1<=m-1 by lia)) s9
 ·rw[show mf-1=0+1 by have:=fw.two;lia,X9,YJ,Yg];lia
theorem Er{tab:List Int}:∀(n k:Nat),k<n*tab.length->(List.replicate n tab).flatten.getD k 0=tab.getD (k%tab.length) 0
 |0,k,h=>by lia
 |n+1,k,h=>by
  rw[Yk,ZA,Xm]
  by_cases z:k<tab.length
  ·rw[YL z,Y7 z,Xm]
  ·rw[X4 (by lia),<-Xm,Er n (k-tab.length) (by rw[av]at h;lia),Nat.mod_eq_sub_mod (show k≥tab.length by lia)]
theorem Gk(tab:List Int)(n:Nat):(List.replicate n tab).flatten.length=n*tab.length:=by simp
theorem Hz{g:Int}(g2:2<=g)(lo:Int){tab:List Int}{m:Nat}(tl:(tab.length:Int)=g^m):(((List.replicate g.toNat tab).flatten.length:Nat):Int)=g^(m+1)/\Ba g lo (List.replicate g.toNat tab).flatten (m+1) (lo+1) tab m:=by
 have gp:=RW.Ah g2 m;have hl:(((List.replicate g.toNat tab).flatten.length:Nat):Int)=g^(m+1):=by rw[Gk,Yn,tl,show ((g.toNat:Nat):Int)=g by lia,X9,Yf]
 have a:=Im g2 lo hl tl λk hk=>by rw[Gk]at hk;rw[Er _ _ hk,Er _ _ (Y4 (ay ..) hk),Nat.mod_mod]
 have z:(List.replicate g.toNat tab).flatten.take tab.length=tab:=by obtain⟨n,hn⟩:∃n,g.toNat=n+1:=⟨g.toNat-1,by lia⟩;rw[hn,Yk,ZA,List.take_left]
 rw[z]at a;exact⟨hl,a.symm⟩
theorem I0{g:Int}(g2:2<=g)(lo:Int){tab:List Int}{m:Nat}(tl:(tab.length:Int)=g^m):((((List.range (tab.length*g.toNat)).map λk=>tab.getD (k/g.toNat) 0).length:Nat):Int)=g^(m+1)/\Ba g lo ((List.range (tab.length*g.toNat)).map λk=>tab.getD (k/g.toNat) 0) (m+1) lo tab m:=by
 have gn:((g.toNat:Nat):Int)=g:=by lia
 have G1:0<g.toNat:=by lia
 have hl:((((List.range (tab.length*g.toNat)).map λk=>tab.getD (k/g.toNat) 0).length:Nat):Int)=g^(m+1):=by rw[Xk,Xx,Yn,tl,gn,X9]
 have a:=Kp g2 lo hl tl gn λk hk=>by
  rw[Xk,Xx]at hk;have:=ay k g.toNat;rw[AM hk,AM (by lia)]
  congr 1
  have e:k-k%g.toNat=k/g.toNat*g.toNat:=by have:=au k g.toNat;rw[Yh]at this;lia
  rw[e,Nat.mul_div_cancel _ G1]
 have z:((List.range tab.length).map λi=>((List.range (tab.length*g.toNat)).map λk=>tab.getD (k/g.toNat) 0).getD (i*g.toNat) 0)=tab:=by refine Ar (by rw[Xk,Xx]) λk hk=>?_;rw[Xk,Xx]at hk;rw[AM hk,AM (Nat.mul_lt_mul_of_pos_right hk G1),Nat.mul_div_cancel _ G1]
 rw[z]at a;exact⟨hl,a.symm⟩
def P9(g:Int)(tab:List Int)(m:Nat)(tab':List Int)(m':Nat):Prop:=(tab'.length:Int)=g^m'/\m'<=6/\1<=m'/\g^m'<=81/\(∀n∈tab',0<=n/\n<g)/\∀lo,∃lo',Ba g lo tab' m' lo' tab m
noncomputable def EE(g:Int)(tf row:List Int):List Int:=(List.range (row.length+1)).map λi=>A4 g tf (AS g tf) (row.take i)
inductive IA(vs:List V)(H:Hp)(Q:VK)(z3_:XK):Prop
 |m (p b:Addr) (g:Int) (tf row Z:List Int) (fo:Int->Option Nat):vs=[.ref p,.int ((tf.length/g.toNat:Nat):Int),.ref b]->VX H p Z (AQ g tf) fo->Z.Nodup->Z.length<=600->tf.length/g.toNat<=9->H b=some (.lst (row.map V.int))->(∀n∈row,0<=n/\n<g)->row.length<=100->AS g tf∈Z->(∀a∈Z,∀y∈AQ g tf a,y∈Z)->(∀i,i<=row.length->1<=A4 g tf (AS g tf) (row.take i))->(∀(s:Addr) (H':Hp),AG H H'->H' s=some (.lst ((EE g tf row).map V.int))->Q (.ref s) H')->IA vs H Q z3_
inductive GI(vs:List V)(H:Hp)(Q:VK)(z3_:XK):Prop
 |m (a w b:Addr) (g:Int) (tf:List Int) (mf:Nat) (ws row:List Int):vs=[.ref a,.int g,.ref w,.ref b]->H a=some (.lst (tf.map V.int))->H w=some (.lst (ws.map V.int))->H b=some (.lst (row.map V.int))->2<=g->g<=9->1<=mf->mf<=8->(tf.length:Int)=g^mf->(∀n∈ws,0<=n/\n<g)->ws.length=row.length+mf-1->row.length<=100->CO g tf mf ws=row->(∀H',AG H H'->Q (.bl true) H')->GI vs H Q z3_
inductive IB(vs:List V)(H:Hp)(Q:VK)(z3_:XK):Prop
 |m (a s b:Addr) (g:Int) (tf:List Int) (mf:Nat) (row:List Int):vs=[.ref a,.int g,.ref s,.ref b]->H a=some (.lst (tf.map V.int))->H s=some (.lst ((EE g tf row).map V.int))->H b=some (.lst (row.map V.int))->2<=g->g<=9->2<=mf->mf<=8->(tf.length:Int)=g^mf->(∀n∈tf,0<=n/\n<g)->tf.length/g.toNat<=9->(∀n∈row,0<=n/\n<g)->row.length<=100->1<=A4 g tf (AS g tf) row->(∀(w:Addr) (ws:List Int) (H':Hp),AG H H'->H' w=some (.lst (ws.map V.int))->(∀n∈ws,0<=n/\n<g)->ws.length=row.length+mf-1->CO g tf mf ws=row->Q (.ref w) H')->IB vs H Q z3_
inductive D9(pos:Pos)(Pt:Addr)(vs:List V)(H:Hp)(Q:VK)(z3_:XK):Prop
 |m (r b:Addr) (g lo:Int) (tab:List Int) (m:Nat) (row:List Int) (lf:Int) (tf:List Int) (mf:Nat):vs=[.ref r,.ref b,.int ((tab.length/g.toNat:Nat):Int)]->Ay H r g lo tab m->BD g lo tab m lf tf mf->g^(mf-1)<=9->BQ pos (E1 "sets_reached") Pt H->H b=some (.lst (row.map V.int))->(∀n∈row,0<=n/\n<g)->row.length<=100->(∀r,(∀n∈r,0<=n/\n<g)->B5 g.toNat tf r≠0)->(∀H',Bf Pt H H'->BQ pos (E1 "sets_reached") Pt H'->Q (.bl true) H')->D9 pos Pt vs H Q z3_
theorem IC{g:Int}(g9:g<=9)(tf:List Int):∀(row:List Int) (x:Int),0<=x->x<((2^(tf.length/g.toNat):Nat):Int)->(∀n∈row,0<=n/\n<g)->0<=A4 g tf x row/\A4 g tf x row<((2^(tf.length/g.toNat):Nat):Int)
 |[],x,h0,h1,_=>⟨h0,h1⟩
 |s::row,x,h0,h1,hr=>by have hs:=hr s X6;have z:=(DG g9 tf x h0 h1).2 (Cw g.toNat tf (tf.length/g.toNat) x s) (Iz.mpr ⟨s.toNat,by lia,by rw[show ((s.toNat:Nat):Int)=s by lia]⟩);exact IC g9 tf row _ z.1 z.2 λn hn=>hr n (X0 _ hn)
theorem QC{p:Nat->Bool}{i:Nat}(h:p i=true):Bh ((List.range (i+1)).filter p)=Bh ((List.range i).filter p)++[(i:Int)]:=by unfold Bh;rw[Ym,Yy,ZN,qF h,Xv];rfl
theorem QD{p:Nat->Bool}{i:Nat}(h:p i=false):Bh ((List.range (i+1)).filter p)=Bh ((List.range i).filter p):=by unfold Bh;rw[Ym,Yy,ZN,qE (by rw[h];decide)];simp
theorem QE(p:Nat->Bool)(i:Nat):(Bh ((List.range i).filter p)).length<=i:=by unfold Bh;rw[Xk];exact YK (ZH ..) (by rw[Xx];exact Xr _)
theorem UO{x:Int}{h:Nat}(x0:0<=x)(x1:x<((2^h:Nat):Int))(p:1<=x):∃k,k<h/\EF x k=true:=by
 have z:=RA (n:=h) x0 (by rw[ZY]at x1;exact x1)
 by_cases e:∃k,k<h/\EF x k=true
 ·exact e
 ·have y:BY h (λi=>decide (x/2^i%2=1))=0:=Iv.mpr λi hi=>by
   cases c:decide (x/2^i%2=1)
   ·rfl
   ·exact qG ⟨i,hi,c⟩ e
  lia
theorem RU{G:Nat}(G1:1<=G){tf:List Int}{h:Nat}{x s:Int}{v:Nat}(hv:v<h)(b:EF (Cw G tf h x s) v=true):∃k,k<h*G/\tf.getD k 0=s/\EF x (k/G)=true/\k%h=v:=by
 have z:=of_decide_eq_true b;unfold L2.Cw at z;rw[Fe hv]at z
 have y:Co G tf h x s h v=true:=by
  by_cases c:Co G tf h x s h v=true
  ·exact c
  ·rw[qE c]at z;cases z
 rw[<-TH G1]at y;unfold TF at y;obtain⟨k,hk,q⟩:=Y2.mp y;obtain⟨q1,q2,q3⟩:=of_decide_eq_true q;exact⟨k,YD.mp hk,q1,qH q2,q3⟩
theorem OI{g:Int}{tf:List Int}(x:Int){row:List Int}{k:Nat}(hk:k<row.length):A4 g tf x (row.take (k+1))=Cw g.toNat tf (tf.length/g.toNat) (A4 g tf x (row.take k)) row[k]:=by rw[ZI,Xs hk];unfold A4;rw[Option.toList_some,Zu];rfl
theorem UP{g:Int}(g2:2<=g){tf:List Int}{m:Nat}(tl:(tf.length:Int)=g^m)(hm:1<=m){row c:List Int}{v:Nat}(hv:v<tf.length/g.toNat)(on:c∈OJ g.toNat tf row v):(∀n∈c,0<=n/\n<g)/\c.length=row.length/\CO g tf m (BS g (v:Int) (m-1)++c)=row:=by have hd:=BP g2 tl hm;have e:BJ g (BS g (v:Int) (m-1))=(v:Int):=Dj g2 (by lia) (by lia);have z:=Ha g2 tl hm row (BS g (v:Int) (m-1)) (CC ..) (CJ g2 _ _);rw[e,Xy]at z;rw[<-z]at on;obtain⟨h1,h2⟩:=Ya.mp on;obtain⟨h3,h4⟩:=(Iq g2).mp h1;exact⟨h4,h3,of_decide_eq_true h2⟩
theorem NC{ks:List Nat}{j x:Nat}(h:ks[j]?=some x)(p:Nat->Bool):(ks.take (j+1)).filter p=(ks.take j).filter p++[x].filter p:=by rw[ZI,h,Option.toList_some,Yy]
theorem UQ{ks:List Nat}{j x:Nat}(h:ks[j]?=some x){p:Nat->Bool}(hp:p x=true):Bh ((ks.take (j+1)).filter p)=Bh ((ks.take j).filter p)++[(x:Int)]:=by rw[NC h,ZN,qF hp];unfold Bh;rw[Xv];rfl
theorem Vb{ks:List Nat}{j x:Nat}(h:ks[j]?=some x){p:Nat->Bool}(hp:p x=false):Bh ((ks.take (j+1)).filter p)=Bh ((ks.take j).filter p):=by rw[NC h,ZN,qE (by rw[hp];decide),List.filter_nil,Yd]
theorem UR(ks:List Nat)(j:Nat)(p:Nat->Bool):(Bh ((ks.take j).filter p)).length<=ks.length:=by unfold Bh;rw[Xk];exact YK (ZH ..) (by rw[YC];lia)
theorem US{xs:List Int}{z:Int}(z0:0<=z)(h:z<=(xs.length:Int)):(DO xs (some z) none).length=xs.length-z.toNat:=by have ea:HT.FU xs.length 0 (some z)=min z.toNat xs.length:=qE (by lia);have eb:HT.FU xs.length xs.length none=xs.length:=rfl;unfold DO;rw[ea,eb,YC,Yw];lia
theorem ND{xs:List Int}{u v:Option Int}{n:Int}(h:n∈DO xs u v):n∈xs:=by unfold DO at h;exact ZU (Yp h)
theorem QF{xs:List Int}:DO xs none (some (-1))=xs.dropLast:=by
 have ea:HT.FU xs.length 0 none=0:=rfl
 have eb:HT.FU xs.length xs.length (some (-1))=xs.length-1:=by show (if (-1:Int)<0 then ((-1:Int)+(xs.length:Int)).toNat else min (-1:Int).toNat xs.length)=_;rw[qF (by decide)];lia
 unfold DO;rw[ea,eb,aS,ZQ,List.dropLast_eq_take]
section
variable{P:Program}{w:World}{K:qJ}{mg:Str->Option Value}{base:Heap}{t:Xh}
theorem XD:AL ["self","at"] ["self","at"] (AH W0):=Cc (by decide +kernel)
theorem XE(T:CU K mg t) :A5 P w K mg base 1 t.f_1 ["self","at"] (JR K t.c_53 t.c_35):=by refine BH T.d_1 XD (λ_ _ _ _ _ _=>b2 λ_ _=>rfl) λvs H Q E h=>?_;obtain⟨a,n,y,rfl,ea,q⟩:=h;refine⟨rfl,λcdv A outer s hr=>?_⟩;refine⟨_,(AE (Sn (pv 0) (pv 1))),?_⟩;walk_at "rd";exact⟨_,_,n,ea,T.xa_NoRow_at,q⟩
theorem Vc:AL ["thing"] ["thing"] (AH Tc):=Cc (by decide +kernel)
theorem Vd(T:CU K mg t) :A5 P w K mg base 1 t.f_38 ["thing"] (Du):=by
 refine BH T.d_38 Vc (λ_ _ _ _ _ _=>b1 λ_=>rfl) λvs H Q E h=>?_;obtain⟨x,rfl,kd,q⟩:=h;refine⟨rfl,λcdv A outer s hr=>?_⟩;refine⟨_,(AE (AO (Fn (Fu rfl T.z_isinstance (pv 0) (GK rfl T.z_int PyProof.Rows.boot_int)) (Gv (OL (Fu rfl T.z_isinstance (pv 0) (GK rfl T.z_bool PyProof.Rows.boot_bool))))))),?_⟩;walk_at "rd";cases x with
 |int i =>
  refine⟨_,.of (.int i),_,Rn,?_⟩;rw[qF rfl];exact⟨_,.of (.int i),_,Ro,q⟩
 |bl b =>
  refine⟨_,.of (.bl b),_,Rp,?_⟩;rw[qF rfl];exact⟨_,.of (.bl b),_,On,q⟩
 |non =>
  refine⟨_,.of .non,_,Rq,?_⟩;rw[qE (by decide)];exact q
 |str y =>
  refine⟨_,.of (.str y),_,Rr,?_⟩;rw[qE (by decide)];exact q
 |ref a =>
  obtain⟨xs,z|z⟩:=kd
  ·refine⟨_,.of (.lst z),_,Rs,?_⟩;rw[qE (by decide)];exact q
  ·refine⟨_,.of (.tup z),_,Ru,?_⟩;rw[qE (by decide)];exact q
 |byt _=>exact kd.elim
 |flt _=>exact kd.elim
 |ty _=>exact kd.elim
theorem Ve:AL ["thing","signs"] ["thing","signs"] (AH Td):=Cc (by decide +kernel)
theorem Vf(T:CU K mg t)(G_38:A5 P w K mg base 1 t.f_38 ["thing"] (Du)):A5 P w K mg base 2 t.f_41 ["thing","signs"] (JQ):=by
 refine BH T.d_41 Ve (λ_ _ _ _ _ _=>b2 λ_ _=>rfl) λvs H Q E h=>?_;obtain⟨x,g,rfl,kd,q⟩:=h;refine⟨rfl,λcdv A outer s hr=>?_⟩;refine⟨_,(AE (AO (Fn (Aa hr G_38 T.m_38 (AA (pv 0) AB)) (Fn (Ej J4 AF (pv 0) (AU _)) (Gv (Ej EJ (pv 0) (pv 1) (AU _))))))),?_⟩;walk_at "rd";refine⟨x,rfl,kd,?_⟩;cases x with
 |int i =>
  walk_at "rd";simp only[Oo]at q
  by_cases h:0<=i
  ·rw[qH h,Bool.true_and]at q;rw[qF h];exact q
  ·rw[qI h,aR]at q;rw[qE h];exact q
 |_=>exact⟨false,rfl,OZ q⟩
theorem QG:AL ["word","signs","at","thing"] ["word","signs"] (AH Te):=Cc (by decide +kernel)
theorem Vg(T:CU K mg t)(G_41:A5 P w K mg base 2 t.f_41 ["thing","signs"] (JQ))(G_1:A5 P w K mg base 1 t.f_1 ["self","at"] (JR K t.c_53 t.c_35)):A5 P w K mg base 3 t.f_22 ["word","signs"] (FY K t.c_53):=by
 refine DD T.d_22 QG (λ_ _ _ _ _ _=>b2 λ_ _=>rfl) λvs H Q E h=>?_;obtain⟨a,xs,g,rfl,hS,kd,h⟩:=h;refine⟨rfl,λcdv A outer s hr=>?_⟩;refine⟨_,(AE (BM PassesOwn.leaving rfl (Mj rfl T.z_enumerate (AA (pv 0) AB)) (LM rfl (De (Be 2 QG) (De (Be 3 QG) JE))) (AE (BE (DW (CF (Aa hr G_41 T.m_41 (AA (pv 3) (AA (pv 1) AB))))) (AE (Ia rfl T.xm_53 G_1 (hr.mono (by decide)) rfl T.m_53 FX (AA (pv 2) AB))) Af)))),?_⟩;refine⟨_,rfl,a,xs,rfl,hS,?_⟩;refine KJ (xs:=xs) (λi σ H1=>B3 g (xs.take i)=none/\(∃x2 x3,σ=[some (.ref a),some (.int g),x2,x3])/\AG H H1) ⟨rfl,⟨none,none,rfl⟩,AG.refl _⟩ (λi σ H1 _ z=>z.2.2.seq hS) ?_ ?_
 ·rintro i x p σ H1 hx ⟨hb,⟨x2,x3,rfl⟩,e⟩ hp;have e2:AG H (Aj H1 p (.tup [.int ((i:Nat):Int),x])):=e.trans (AG.new hp _);refine⟨p,_,rfl,Bi.of AC,rfl,_,_,rfl,_,_,rfl,rfl,?_⟩;walk_at "rd";refine⟨x,g,rfl,(kd x (X3 hx)).same e2,?_⟩;cases hs:Oo g x with
  |true =>
   walk_at "rd";exact⟨FE hb hx hs,⟨_,rfl⟩,e2⟩
  |false =>
   walk_at "rd";refine⟨by decide,λea hea=>⟨ea,true,_,rfl,AC,λdx hdx=>⟨rfl,some dx,?_,?_⟩⟩⟩
   ·rw[AK (Ne.symm (Dg hdx).1),AC]
   ·rw[FF hb hx hs]at h;exact h _ dx (G9 e2 hea hdx) (by rw[Ch (Dg hdx).1,AC])
 ·rintro σ H1 ⟨hb,_,e⟩;rw[YT]at hb;rw[hb]at h;exact h H1 e
theorem XF:AL ["word","signs","many"] ["word","signs","many"] (AH W1):=Cc (by decide +kernel)
theorem XG(T:CU K mg t)(G_22:A5 P w K mg base 3 t.f_22 ["word","signs"] (FY K t.c_53))(G_1:A5 P w K mg base 1 t.f_1 ["self","at"] (JR K t.c_53 t.c_35)):A5 P w K mg base 4 t.f_4 ["word","signs","many"] (FG K t.c_53):=by
 refine DD T.d_4 XF (λ_ _ _ _ _ _=>b3 λ_ _ _=>rfl) λvs H Q E h=>?_;obtain⟨a,xs,g,m,rfl,hS,kd,h⟩:=h;refine⟨rfl,λcdv A outer s hr=>?_⟩
 refine⟨_,(AD (BF (BO G_22 (hr.mono (by decide)) rfl T.m_22 Ax (AA (CI Cy (pv 0) Ds (CH (pv 2))) (AA (pv 1) AB))))
  (AE (BE (AN IR (AV AJ rfl T.z_len X5 (AA (pv 0) AB)) (pv 2) (AU _)) (AE (Ia rfl T.xm_53 G_1 (hr.mono (by decide)) rfl T.m_53 FX (AA (AV (NU rfl) rfl T.z_min PyProof.Rows.boot_min (AA (AV AJ rfl T.z_len X5 (AA (pv 0) AB)) (AA (pv 2) AB))) AB))) Af))),?_⟩
 walk_at "rd";refine Dx hS λp H1 e1 _ h1=>?_;rw[JY]at h1;refine⟨p,_,g,rfl,Ad.of h1,λx hx=>(kd x (Yp hx)).same e1,?_⟩;unfold EU at h;cases hb:B3 g (xs.take m) with
 |some i =>
  rw[hb]at h;exact Qo.same e1 h
 |none =>
  rw[hb]at h;dsimp only at h;intro H2 e2;refine⟨xs,.inl ((e1.trans e2).seq hS),?_⟩
  by_cases hl:xs.length=m
  ·rw[qF hl]at h;rw[qE (by lia)];exact h _ (e1.trans e2)
  ·rw[qE hl]at h;rw[qF (by lia)];refine⟨xs,.inl ((e1.trans e2).seq hS),by decide,λea hea=>⟨ea,true,_,rfl,AC,λdx hdx=>⟨rfl,some dx,?_,?_⟩⟩⟩
   ·rw[AK (Ne.symm (Dg hdx).1),AC]
   ·refine h _ dx (G9 (e1.trans e2) hea hdx) ?_;rw[Ch (Dg hdx).1,AC];have e:(if (m:Int)<(xs.length:Int) then (m:Int) else (xs.length:Int))=((min xs.length m:Nat):Int):=by split<;>lia
    rw[e]
theorem NE:AL ["word","signs","number","sign"] ["word","signs"] (AH Tf):=Cc (by decide +kernel)
theorem Vh(T:CU K mg t)(G_22:A5 P w K mg base 3 t.f_22 ["word","signs"] (FY K t.c_53)):A5 P w K mg base 4 t.f_32 ["word","signs"] (G8 K t.c_53):=by
 refine DD T.d_32 NE (λ_ _ _ _ _ _=>b2 λ_ _=>rfl) λvs H Q E h=>?_;obtain⟨a,xs,g,rfl,g2,g9,hS,kd,h⟩:=h;refine⟨rfl,λcdv A outer s hr=>?_⟩
 refine⟨_,(AD (BF (BO G_22 (hr.mono (by decide)) rfl T.m_22 Ax (AA (pv 0) (AA (pv 1) AB))))
  (AD (AR 2 NE AF)
  (AD (PS.nox (BM PassesOwn.never rfl (BZ (pv 0)) (Be 3 NE) (AE (AR 2 NE (AI A8 (AI Bx (pv 2) (pv 1)) (pv 3))))))
  (AE (AO (pv 2)))))),?_⟩
 walk_at "rd";refine⟨a,xs,g,rfl,hS,kd,?_⟩;cases hb:B3 g xs with
 |some i =>
  rw[hb]at h;exact h
 |none =>
  rw[hb]at h;obtain⟨ns,rfl,hns⟩:=Dv hb;intro H1 e;refine⟨_,rfl,a,rfl,⟨_,e.seq hS⟩,?_⟩;refine B8 (xs:=ns.map V.int) (λi σ H2=>(∃x3,σ=[some (.ref a),some (.int g),some (.int (BJ g (ns.take i))),x3])/\H2=H1) ⟨⟨none,rfl⟩,rfl⟩ (λi σ H2 _ z=>by rw[z.2];exact e.seq hS) ?_ ?_
  ·rintro i x σ H2 hx ⟨⟨x3,rfl⟩,rfl⟩;obtain⟨n,hn,rfl⟩:=By hx;walk_at "rd";refine⟨.inr ⟨by lia,by lia⟩,?_⟩;rw[KM hn];exact⟨rfl,_,rfl⟩
  ·rintro σ H2 ⟨⟨x3,rfl⟩,rfl⟩;walk_at "rd";rw[Xk,YT];exact h ns rfl _ e
theorem NF:AL ["number","signs","many","backwards","rest"] ["number","signs","many"] (AH Tg):=Cc (by decide +kernel)
theorem Vi(T:CU K mg t) :Qr P w K mg base 1 t.f_46 ["number","signs","many"] (Ll t.c_48):=by
 refine Qs T.d_46 NF (λ_ _ _ _ _ _ us hl=>match us,hl with|[_,_,_],_=>rfl) (λvs H Q E h=>?_) (λcdv A outer s H vs Q E hr h=>?_)
 ·obtain⟨n,g,m,rfl,g2,g9,m0,m3,hbad,hgood⟩:=h;rfl
 obtain⟨n,g,m,rfl,g2,g9,m0,m3,hbad,hgood⟩:=h
 refine⟨_,(AD (BE (AN EJ (pv 0) AF (AU _)) (AE (B2 rfl T.x_48 rfl T.m_48 BN (AA DA AB))) Af)
  (AD (AR 3 NF (BV AB))
  (AD (AR 4 NF (pv 0))
  (AD (PS.nox (CG PassesOwn.never (AN EJ (AV AJ rfl T.z_len X5 (AA (pv 3) AB)) (pv 2) (AU _)) (AD (BF (CQ YB YM YN BR (pv 3) (AA (AI Ak (pv 4) (pv 1)) AB)))
  (AE (AR 4 NF (AI Av (pv 4) (pv 1)))))))
  (AD (BE (AN EB (pv 4) AF (AU _)) (AE (B2 rfl T.x_48 rfl T.m_48 BN (AA DA AB))) Af)
  (AE (AO (JM rfl rfl T.z_reversed rfl T.z_list (AA (pv 3) AB))))))))),?_⟩
 walk_at "rd"
 by_cases hn:n<0
 ·rw[qF hn];exact⟨by decide,hbad (.inl hn) H (AG.refl H)⟩
 rw[qE hn];refine⟨YS _,λp hp=>?_⟩
 refine EI (λσ H1=>∃i:Nat,i<=m.toNat/\σ=[some (.int n),some (.int g),some (.int m),some (.ref p),some (.int (dr g n i))]/\H1=Aj H p (.lst ((CV g n i).map V.int)))
  (λσ H1=>match H1 p with|some (.lst xs)=>m.toNat-xs.length|_=>0) ⟨0,YS _,rfl,rfl⟩ ?_ ?_
 ·rintro σ H1 ⟨i,hi,rfl,rfl⟩;walk_at "rd";have hl:((CV g n i).map V.int).length=i:=by rw[Xk,Cm]
  refine⟨_,.inl (Ad.of AC),?_⟩;rw[hl]
  by_cases hlt:(i:Int)<m
  ·rw[qF hlt];refine⟨.inl ⟨_,Ad.of AC⟩,by lia,_,AC,by rw[hl];exact AZ (by lia),by lia,by lia,⟨i+1,by lia,rfl,?_⟩,?_⟩
   ·rw[FP,CV,Xv];rfl
   ·rw[AC,AC];show m.toNat-(List.map V.int (CV g n i)++[V.int (dr g n i%g)]).length<m.toNat-(List.map V.int (CV g n i)).length;rw[Xp,hl];simp only[List.length_cons,List.length_nil];lia
  ·rw[qE hlt];have ei:i=m.toNat:=by lia
   by_cases hd:0<dr g n i
   ·rw[qF hd];refine⟨by decide,hbad (.inr (Int.not_lt.mp λz=>?_)) _ (AG.new hp _)⟩;rw[ei,Mo g2 (by lia) z]at hd;lia
   ·rw[qE hd];refine⟨_,Ad.of AC,λr hr'=>hgood (by lia) (Int.not_le.mp λz=>?_) r _ ⟨(AG.new hp _).trans (AG.new hr' _),(Dg hr').2,?_⟩⟩
    ·rw[ei]at hd;exact hd (Sw g2 z)
    ·rw[AC,ei,ag]
 ·intro σ H1 Q1 Q2 hq;walk_at "rd";rintro⟨v,h1,p,h2,x,h3,v2,h4,x1,h5,h6⟩;exact⟨v,h1,p,h2,x,h3,v2,h4,x1,h5,hq _ _ h6⟩
theorem Vj:AL ["signs","low"] ["signs","low"] (AH Th):=Cc (by decide +kernel)
theorem Vk(T:CU K mg t)(G_38:A5 P w K mg base 1 t.f_38 ["thing"] (Du)):A5 P w K mg base 2 t.f_21 ["signs","low"] (Lk t.c_47):=by
 refine DD T.d_21 Vj (λ_ _ _ _ _ _=>b2 λ_ _=>rfl) λvs H Q E h=>?_;obtain⟨x,y,rfl,kx,ky,hg,hbad⟩:=h;refine⟨rfl,λcdv A outer s hr=>?_⟩
 refine⟨_,(AD (BE (PW.pt (E2 (DW (CF (Aa hr G_38 T.m_38 (AA (pv 0) AB)))) (E2 (AN EJ (pv 0) AF (AU _)) (E8 (AN EB (pv 0) AF (AU _)))))) (AE (B2 rfl T.x_47 rfl T.m_47 BN (AA DA AB))) Af)
  (AE (BE (DW (CF (Aa hr G_38 T.m_38 (AA (pv 1) AB)))) (AE (B2 rfl T.x_47 rfl T.m_47 BN (AA DA AB))) Af))),?_⟩
 walk_at "rd";refine⟨x,rfl,kx,Lc x,rfl,?_⟩;cases x with
 |int g =>
  show if true=false then _ else _;rw[qE (by decide)];refine⟨g,rfl,?_⟩
  by_cases h2:g<2
  ·rw[qF h2];exact⟨by decide,hbad (by show ((decide (2<=g)&&decide (g<=9))&&Lc y)=false;rw[qI (p:=2<=g) (by lia)];rfl)⟩
  rw[qE h2];refine⟨g,rfl,?_⟩
  by_cases h9:9<g
  ·rw[qF h9];exact⟨by decide,hbad (by show ((decide (2<=g)&&decide (g<=9))&&Lc y)=false;rw[qI (p:=g<=9) (by lia),Bool.and_false];rfl)⟩
  rw[qE h9]
  have e:DB (.int g) y=Lc y:=by show ((decide (2<=g)&&decide (g<=9))&&Lc y)=Lc y;rw[qH (p:=2<=g) (by lia),qH (p:=g<=9) (by lia)];rfl
  rw[e]at hg hbad;refine⟨y,rfl,ky,Lc y,rfl,?_⟩;cases hy:Lc y with
  |false =>
   rw[qF rfl];exact⟨by decide,hbad hy⟩
  |true =>
   rw[qE (by decide)];exact hg hy
 |_ =>
  show if false=false then _ else _;rw[qF rfl];exact⟨by decide,hbad rfl⟩
theorem LG:AL ["signs","length","many","words"] ["signs","length"] (AH Ti):=Cc (by decide +kernel)
theorem Vl(T:CU K mg t) :A5 P w K mg base 1 t.f_24 ["signs","length"] (DR):=by
 refine BH T.d_24 LG (λ_ _ _ _ _ _=>b2 λ_ _=>rfl) λvs H Q E h=>?_;obtain⟨g,n,rfl,g2,g9,hy,hn⟩:=h;refine⟨rfl,λcdv A outer s hr=>?_⟩
 refine⟨_,(AD (AR 2 LG AF)
  (AD (AR 3 LG AF)
  (AD (CG PassesOwn.never (AN EJ (pv 3) (pv 1) (AU _)) (AD (AR 3 LG (AI Bx (pv 3) (pv 0)))
  (AE (AR 2 LG (AI A8 (pv 2) AF)))))
  (AD (BE (AN B0 (pv 3) (pv 1) (AU _)) (AE (AO (pv 2))) Af)
  (AE (AO AF)))))),?_⟩
 walk_at "rd"
 refine EI (λσ H1=>∃i:Nat,σ=[some (.int g),some (.int n),some (.int ((i:Nat):Int)),some (.int (g^i))]/\H1=H/\∀j,j<i->g^j<n)
  (λ(σ:St) (H1:Hp)=>match σ[3]? with|some (some (V.int x))=>(n-x).toNat|_=>0) ⟨0,by rw[YJ];rfl,rfl,λj hj=>qG hj (aG _)⟩ ?_ ?_
 ·rintro σ H1 ⟨i,rfl,rfl,hj⟩;have gp:=RW.Ah g2 i;walk_at "rd"
  by_cases hlt:g^i<n
  ·rw[qF hlt];refine⟨.inr ⟨by lia,by lia⟩,⟨i+1,rfl,?_,λj hj2=>?_⟩,?_⟩
   ·rw[X9]
   ·by_cases z:j=i
    ·rw[z];exact hlt
    ·exact hj j (by lia)
   ·have:g^i<g^i*g:=by
     have:=Y1 g2 (YI gp);lia
    lia
  ·rw[qE hlt]
   by_cases he:g^i=n
   ·rw[qF he];exact hy i he.symm
   ·rw[qE he];refine hn λm z=>?_
    by_cases hm:m<i
    ·have:=hj m hm;lia
    ·have:=Bu g2 (Nat.le_of_not_lt hm);lia
 ·intro σ H1 Q1 Q2 hq;walk_at "rd";rintro⟨v,h1,v2,h2,i,h3,x,h4,h5⟩;exact⟨v,h1,v2,h2,i,h3,x,h4,hq _ _ h5⟩
theorem QH:AL ["signs","many","length","done"] ["signs","many"] (AH W2):=Cc (by decide +kernel)
theorem XH(T:CU K mg t) :A5 P w K mg base 1 t.f_8 ["signs","many"] (Jc):=by
 refine BH T.d_8 QH (λ_ _ _ _ _ _=>b2 λ_ _=>rfl) λvs H Q E h=>?_;obtain⟨g,m,rfl,g2,g9,m1,hy,hn⟩:=h;refine⟨rfl,λcdv A outer s hr=>?_⟩
 refine⟨_,(AD (AR 2 QH AF)
  (AD (AR 3 QH AF)
  (AD (CG PassesOwn.never (PW.pt (Do (AN EJ (pv 3) (pv 1) (AU _)) (DP (AN J4 (pv 2) (El rfl T.g_LONGEST_TABLE) (AU _))))) (AD (AR 2 QH (AI Bx (pv 2) (pv 0)))
  (AE (AR 3 QH (AI A8 (pv 3) AF)))))
  (AE (AO (pv 2)))))),?_⟩
 walk_at "rd"
 refine EI (λσ H1=>∃i:Nat,i<=m.toNat/\σ=[some (.int g),some (.int m),some (.int (g^i)),some (.int ((i:Nat):Int))]/\H1=H)
  (λ(σ:St) (H1:Hp)=>match σ[3]? with|some (some (V.int x))=>(m-x).toNat|_=>0) ⟨0,YS _,by rw[YJ];rfl,rfl⟩ ?_ ?_
 ·rintro σ H1 ⟨i,hi,rfl,rfl⟩;have gp:=RW.Ah g2 i;walk_at "rd"
  by_cases hlt:(i:Int)<m
  ·rw[qF hlt]
   by_cases hle:g^i<=256
   ·rw[qF hle];exact⟨.inr ⟨by lia,by lia⟩,⟨i+1,by lia,by rw[X9],by lia⟩,by lia⟩
   ·rw[qE hle];have:=Bu g2 hi;exact hn (by lia) _ (by lia)
  ·rw[qE hlt];have ei:i=m.toNat:=by lia
   subst ei
   by_cases hle:g^m.toNat<=256
   ·exact hy hle
   ·exact hn (by lia) _ (by lia)
 ·intro σ H1 Q1 Q2 hq;walk_at "rd";rintro⟨v,h1,v2,h2,i,h3,x,h4,h5⟩;refine⟨v,h1,v2,h2,i,h3,x,h4,?_⟩
  by_cases z:i<x
  ·rw[qF z]at h5⊢;obtain⟨v3,h6,j,h7,h8⟩:=h5;exact⟨v3,h6,j,h7,hq _ _ h8⟩
  ·rw[qE z]at h5⊢;exact hq _ _ h5
theorem SC:AL ["signs","table","told"] ["signs","table"] (AH Tj):=Cc (by decide +kernel)
theorem Vm(T:CU K mg t)(G_24:A5 P w K mg base 1 t.f_24 ["signs","length"] (DR))(G_41:A5 P w K mg base 2 t.f_41 ["thing","signs"] (JQ)):A5 P w K mg base 3 t.f_11 ["signs","table"] (Ja t.c_47):=by
 refine DD T.d_11 SC (λ_ _ _ _ _ _=>b2 λ_ _=>rfl) λvs H Q E h=>?_;obtain⟨g,z,rfl,g2,g9,kz,hg,hbad⟩:=h;refine⟨rfl,λcdv A outer s hr=>?_⟩
 refine⟨_,(AD (BE (DW (CF (Ql rfl T.z_isinstance (pv 1) (AA (GK rfl T.z_list PyProof.Rows.boot_list) (AA (GK rfl T.z_tuple PyProof.Rows.boot_tuple) AB))))) (AE (B2 rfl T.x_47 rfl T.m_47 BN (AA DA AB))) Af)
  (AD (BE (PW.pt (E2 (AN EB (AV AJ rfl T.z_len X5 (AA (pv 1) AB)) (El rfl T.g_LONGEST_TABLE) (AU _)) (E8 (AN B0 (Aa hr G_24 T.m_24 (AA (pv 0) (AA (AV AJ rfl T.z_len X5 (AA (pv 1) AB)) AB))) AF (AU _))))) (AE (B2 rfl T.x_47 rfl T.m_47 BN (AA DA AB))) Af)
  (AE (BM PassesOwn.leaving rfl (U9 (BZ (pv 1)) (SU (pv 1))) (Be 2 SC) (AE (BE (DW (CF (Aa hr G_41 T.m_41 (AA (pv 2) (AA (pv 0) AB))))) (AE (B2 rfl T.x_47 rfl T.m_47 BN (AA DA AB))) Af)))))),?_⟩
 walk_at "rd";refine⟨by decide,λp hp=>?_⟩;have e1:=AG.new hp (.tup [V.ty "list",V.ty "tuple"]);have h1:Aj H p (.tup [V.ty "list",V.ty "tuple"]) p=some (.tup [V.ty "list",V.ty "tuple"]):=AC;generalize Aj H p (HO.tup [V.ty "list",V.ty "tuple"])=H1 at e1 h1⊢;cases z with
 |ref a =>
  obtain⟨xs,hs,kx⟩:=kz;have hs1:=hs.same e1
  have notk:¬Mp g xs->¬Gf H g (.ref a):=by rintro h ⟨b,ys,e,hs2,ok⟩;cases e;have:=hs.inj hs2;subst this;exact h ok
  obtain⟨tt,ty,hk⟩:∃tt,Ub K H1 (.ref a) tt/\PySem.W.kitAny K tt [.type "list",.type "tuple"]=some true:=hs1.elim (λq=>⟨_,.of (.lst q),Xc Rt _⟩) λq=>⟨_,.of (.tup q),Qq U8 (Xc U7 _)⟩
  refine⟨tt,ty,_,h1,[.type "list",.type "tuple"],rfl,true,hk,?_⟩;rw[qE (by decide)];refine⟨a,rfl,xs,hs1.sq,?_⟩
  by_cases h256:(256:Int)<xs.length
  ·rw[qF h256];exact⟨by decide,hbad (notk λok=>by have:=ok.1;lia) _ e1⟩
  rw[qE h256];refine⟨a,rfl,xs,hs1.sq,g,_,rfl,g2,g9,λm hm=>⟨rfl,?_⟩,λhno=>⟨rfl,?_⟩⟩
  ·by_cases hm0:m=0
   ·subst hm0;rw[qF (show V.int ((0:Nat):Int)=V.int 0 from rfl)];refine⟨by decide,hbad (notk λok=>?_) _ e1⟩;obtain⟨m',hm1,hl⟩:=ok.2.1;have:=Cz g2 (hm.symm.trans hl);lia
   rw[qE (by intro z;injection z with z;lia)];rcases hs1 with hL|hT
   ·refine Or.inl ⟨_,rfl,a,rfl,⟨_,Ad.of hL⟩,?_⟩;refine B8 (xs:=xs) (λi σ H2=>B3 g (xs.take i)=none/\(∃x2,σ=[some (.int g),some (.ref a),x2])/\H2=H1) ⟨rfl,⟨none,rfl⟩,rfl⟩ (λi σ H2 _ z=>by rw[z.2.2];exact Ad.of hL) ?_ ?_
    ·rintro i x σ H2 hx ⟨hb,⟨x2,rfl⟩,rfl⟩;walk_at "rd";refine⟨x,g,rfl,(kx x (X3 hx)).same e1,?_⟩;cases hsg:Oo g x with
     |true =>
      walk_at "rd";exact⟨FE hb hx hsg,_,rfl⟩
     |false =>
      walk_at "rd";exact⟨by decide,hbad (notk λok=>by have z:=ok.2.2;rw[FF hb hx hsg]at z;cases z) _ e1⟩
    ·rintro σ H2 ⟨hb,_,rfl⟩;rw[YT]at hb;exact hg ⟨a,xs,rfl,hs,by lia,⟨m,by lia,hm⟩,hb⟩ _ e1
   ·refine Or.inr ⟨_,rfl,a,rfl,⟨_,Bi.of hT⟩,?_⟩;refine QR (xs:=xs) (λi σ H2=>B3 g (xs.take i)=none/\(∃x2,σ=[some (.int g),some (.ref a),x2])/\H2=H1) ⟨rfl,⟨none,rfl⟩,rfl⟩ (λi σ H2 _ z=>by rw[z.2.2];exact Bi.of hT) ?_ ?_
    ·rintro i x σ H2 hx ⟨hb,⟨x2,rfl⟩,rfl⟩;walk_at "rd";refine⟨x,g,rfl,(kx x (X3 hx)).same e1,?_⟩;cases hsg:Oo g x with
     |true =>
      walk_at "rd";exact⟨FE hb hx hsg,_,rfl⟩
     |false =>
      walk_at "rd";exact⟨by decide,hbad (notk λok=>by have z:=ok.2.2;rw[FF hb hx hsg]at z;cases z) _ e1⟩
    ·rintro σ H2 ⟨hb,_,rfl⟩;rw[YT]at hb;exact hg ⟨a,xs,rfl,hs,by lia,⟨m,by lia,hm⟩,hb⟩ _ e1
  ·rw[qF rfl];refine⟨by decide,hbad (notk λok=>?_) _ e1⟩;obtain⟨m',_,hl⟩:=ok.2.1;exact hno m' hl
 |non =>
  refine⟨_,.of .non,_,h1,[.type "list",.type "tuple"],rfl,false,Qq VA (Qq VB rfl),?_⟩;rw[qF rfl];exact⟨by decide,hbad (λ⟨_,_,e,_⟩=>nomatch e) _ e1⟩
 |str y =>
  refine⟨_,.of (.str y),_,h1,[.type "list",.type "tuple"],rfl,false,Qq VC (Qq VD rfl),?_⟩;rw[qF rfl];exact⟨by decide,hbad (λ⟨_,_,e,_⟩=>nomatch e) _ e1⟩
 |int y =>
  refine⟨_,.of (.int y),_,h1,[.type "list",.type "tuple"],rfl,false,Qq VE (Qq VF rfl),?_⟩;rw[qF rfl];exact⟨by decide,hbad (λ⟨_,_,e,_⟩=>nomatch e) _ e1⟩
 |bl y =>
  refine⟨_,.of (.bl y),_,h1,[.type "list",.type "tuple"],rfl,false,Qq VG (Qq VH rfl),?_⟩;rw[qF rfl];exact⟨by decide,hbad (λ⟨_,_,e,_⟩=>nomatch e) _ e1⟩
 |byt _=>exact kz.elim
 |flt _=>exact kz.elim
 |ty _=>exact kz.elim
theorem Vn:AL ["signs","low","table"] ["signs","low","table"] (AH Tk):=Cc (by decide +kernel)
theorem Vo(T:CU K mg t)(G_21:A5 P w K mg base 2 t.f_21 ["signs","low"] (Lk t.c_47))(G_11:A5 P w K mg base 3 t.f_11 ["signs","table"] (Ja t.c_47)):A5 P w K mg base 4 t.f_59 ["signs","low","table"] (Jb t.c_47):=by
 refine DD T.d_59 Vn (λ_ _ _ _ _ _=>b3 λ_ _ _=>rfl) λvs H Q E h=>?_;obtain⟨x,y,z,rfl,kx,ky,kz,hg,hbad⟩:=h;refine⟨rfl,λcdv A outer s hr=>?_⟩
 refine⟨_,(AD (BF (BO G_21 (hr.mono (by decide)) rfl T.m_21 Ax (AA (pv 0) (AA (pv 1) AB))))
  (AD (BF (BO G_11 (hr.mono (by decide)) rfl T.m_11 Ax (AA (pv 0) (AA (pv 2) AB))))
  (AE (AO (Fp (AA (pv 0) (AA (pv 1) (AA (Df E4 rfl T.z_tuple PyProof.Rows.boot_tuple (AA (pv 2) AB)) AB)))))))),?_⟩
 walk_at "rd";refine⟨x,y,rfl,kx,ky,λhgood=>?_,λhb=>hbad (λh=>by rw[h.1]at hb;cases hb) _ (AG.refl _)⟩;obtain⟨g,lo,rfl,rfl,g2,g9⟩:=JZ hgood;refine⟨g,z,rfl,g2,g9,kz,λok H1 e1=>?_,λnok H1 e1=>hbad (λh=>?_) _ e1⟩
 ·obtain⟨a,xs,rfl,hs,ok⟩:=ok;obtain⟨tab,rfl,htab⟩:=Dv ok.2.2;refine⟨a,rfl,tab.map V.int,?_⟩;rcases hs with hL|hT
  ·refine .inl ⟨Ad.of (e1 _ _ hL),λl hl=>⟨by decide,λp hp=>?_⟩⟩;have e2:=AG.new hl (.tup (tab.map V.int));have e3:=AG.new hp (.tup [.int g,.int lo,.ref l]);exact hg g lo tab a rfl rfl rfl (.inl hL) g2 g9 ok htab p _ ((e1.trans e2).trans e3) ⟨l,AC,e3 _ _ AC⟩
  ·refine .inr ⟨Bi.of (e1 _ _ hT),by decide,λp hp=>?_⟩;have e3:=AG.new hp (.tup [.int g,.int lo,.ref a]);exact hg g lo tab a rfl rfl rfl (.inr hT) g2 g9 ok htab p _ (e1.trans e3) ⟨a,AC,e3 _ _ (e1 _ _ hT)⟩
 ·obtain⟨_,g',e,h'⟩:=h;cases e;exact nok h'
theorem Vp:AL ["one"] ["one"] (AH Tl):=Cc (by decide +kernel)
theorem Vq(T:CU K mg t)(G_24:A5 P w K mg base 1 t.f_24 ["signs","length"] (DR)):A5 P w K mg base 2 t.f_51 ["one"] (Di):=by
 refine BH T.d_51 Vp (λ_ _ _ _ _ _=>b1 λ_=>rfl) λvs H Q E h=>?_;obtain⟨r,g,lo,tab,m,rfl,g2,g9,⟨tb,h1,h2⟩,hl,q⟩:=h;refine⟨rfl,λcdv A outer s hr=>?_⟩;refine⟨_,(AE (AO (Aa hr G_24 T.m_24 (AA (AT Ai (pv 0) AF (λ_ _=>rfl)) (AA (AV AJ rfl T.z_len X5 (AA (AT Ai (pv 0) AF (λ_ _=>rfl)) AB)) AB))))),?_⟩;walk_at "rd";refine⟨r,_,0,.int g,rfl,rfl,Bi.of h1,Cg rfl,r,_,2,.ref tb,rfl,rfl,Bi.of h1,Cg rfl,?_⟩;walk_at "rd";refine⟨_,.inr (Bi.of h2),g,_,rfl,g2,g9,λm' e=>?_,λz=>?_⟩
 ·rw[Xk,hl]at e;rw[<-Cz g2 e];exact q
 ·exact qG (by rw[Xk,hl]) (z m)
theorem Vr:AL ["one","word"] ["one","word"] (AH Tn):=Cc (by decide +kernel)
theorem Vs(T:CU K mg t)(G_4:A5 P w K mg base 4 t.f_4 ["word","signs","many"] (FG K t.c_53))(G_51:A5 P w K mg base 2 t.f_51 ["one"] (Di))(G_32:A5 P w K mg base 4 t.f_32 ["word","signs"] (G8 K t.c_53)):A5 P w K mg base 5 t.f_31 ["one","word"] (Lj K t.c_53):=by
 refine DD T.d_31 Vr (λ_ _ _ _ _ _=>b2 λ_ _=>rfl) λvs H Q E h=>?_;obtain⟨r,a,g,lo,tab,m,xs,rfl,g2,g9,hR,hl,hS,kd,h⟩:=h;refine⟨rfl,λcdv A outer s hr=>?_⟩
 refine⟨_,(AD (BF (BO G_4 (hr.mono (by decide)) rfl T.m_4 Ax (AA (pv 1) (AA (AT Ai (pv 0) AF (λ_ _=>rfl)) (AA (Aa hr G_51 T.m_51 (AA (pv 0) AB)) AB)))))
  (AE (AO (AT Ai (AT Ai (pv 0) AF (λ_ _=>rfl)) (BO G_32 (hr.mono (by decide)) rfl T.m_32 Ax (AA (pv 1) (AA (AT Ai (pv 0) AF (λ_ _=>rfl)) AB))) (λ_ _=>rfl))))),?_⟩
 obtain⟨tb,h1,h2⟩:=id hR;walk_at "rd";refine⟨r,_,0,_,rfl,rfl,Bi.of h1,rfl,r,g,lo,tab,m,rfl,g2,g9,hR,hl,a,xs,g,m,rfl,hS,kd,?_⟩;cases hb:EU g m xs with
 |some i =>
  rw[hb]at h;exact h
 |none =>
  rw[hb]at h;obtain⟨hlen,hbi⟩:=KS hb;obtain⟨ns,rfl,hns⟩:=Dv hbi;rw[Xk]at hlen;intro H1 e1;refine⟨r,_,2,_,rfl,rfl,Bi.of (e1 _ _ h1),rfl,r,_,0,_,rfl,rfl,Bi.of (e1 _ _ h1),rfl,a,_,g,rfl,g2,g9,e1.seq hS,Ge,?_⟩;rw[hbi];intro ms hms H2 e2;have:=FZ hms;subst this;have nb:=B7 g2 hns;rw[hlen,<-hl]at nb;refine⟨tb,_,_,.int (tab.getD (BJ g ns).toNat 0),rfl,rfl,Bi.of (e2 _ _ (e1 _ _ h2)),?_,h ns rfl _ (e1.trans e2)⟩;have z:=B9 (ns:=tab) (k:=(BJ g ns).toNat) (by lia);rw[show (((BJ g ns).toNat:Nat):Int)=BJ g ns by lia]at z;exact z
theorem SD:AL ["one","head","sign","first"] ["one","head","sign"] (AH To):=Cc (by decide +kernel)
theorem Vt(T:CU K mg t) :A5 P w K mg base 1 t.f_33 ["one","head","sign"] (Ji):=by
 refine BH T.d_33 SD (λ_ _ _ _ _ _=>b3 λ_ _ _=>rfl) λvs H Q E h=>?_;obtain⟨r,g,lo,tab,m,h,s',rfl,ok,hh,q⟩:=h;refine⟨rfl,λcdv A outer s hr=>?_⟩
 refine⟨_,(AD (AR 3 SD (AI Bx (pv 1) (AT Ai (pv 0) AF (λ_ _=>rfl))))
  (AE (AO (DE [(2,"sign"),(0,"one")] [("sign",_),("one",_)] (NR rfl T.z_range (AA (pv 3) (AA (AI A8 (pv 3) (AT Ai (pv 0) AF (λ_ _=>rfl))) AB))) (λ_ _ _ _=>(JU (AN B0 (AT (Mm (K:=K) rfl) (AT (Mm (K:=K) rfl) (pv 2) AF (λ_ _=>rfl)) (pv 0) (λ_ _=>rfl)) (pv 1) (AU _)))) (λ_ _ _ _=>(pv 0)))))),?_⟩
 obtain⟨tb,h1,h2⟩:=id ok.v;have g2:=ok.g2;have g9:=ok.g9;have m1:=ok.m1;have m8:=ok.m8;have hl:=ok.len;have sz:=ok.sz;have hlm:(tab.map V.int).length=tab.length:=Xk ..;have hd:=BP g2 hl m1;walk_at "rd";have gn:((g.toNat:Nat):Int)=g:=by lia
 have hb2:h*g.toNat+g.toNat<=tab.length:=by have:=Nat.mul_le_mul_right g.toNat (show h+1<=tab.length/g.toNat from hh);rw[Nat.add_mul,Nat.one_mul]at this;lia
 refine⟨r,_,0,_,rfl,rfl,Bi.of h1,rfl,g,rfl,.inr ⟨by lia,by lia⟩,?_⟩;refine⟨_,rfl,_,rfl,_,rfl,r,_,0,_,rfl,rfl,Bi.of h1,rfl,_,_,rfl,rfl,_,_,rfl,?_⟩;have eh:(h:Int)*g=((h*g.toNat:Nat):Int):=by rw[Yn,gn]
 rw[eh];refine⟨⟨by lia,by lia,by lia,by lia⟩,λD hD=>?_⟩;rw[show (((h*g.toNat:Nat):Int)+g-((h*g.toNat:Nat):Int)).toNat=g.toNat by lia];refine BI (lo:=((h*g.toNat:Nat):Int)) (n:=g.toNat) (λi acc Hx=>acc=(Bh (((List.range i).filter λj=>decide (tab.getD (h*g.toNat+j) 0=s')).map λj=>h*g.toNat+j)).map V.int/\Hx=Aj H D (.lst acc)) ⟨rfl,rfl⟩ ?_ ?_
 ·rintro i acc Hx hi ⟨rfl,rfl⟩;have en:=AG.new hD (.lst ((Bh (((List.range i).filter λj=>decide (tab.getD (h*g.toNat+j) 0=s')).map λj=>h*g.toNat+j)).map V.int));have ei:((h*g.toNat:Nat):Int)+(i:Int)=((h*g.toNat+i:Nat):Int):=by lia
  have fl:((List.range i).filter λj=>decide (tab.getD (h*g.toNat+j) 0=s')).length<=i:=by have:=ZH (λj=>decide (tab.getD (h*g.toNat+j) 0=s')) (List.range i);rw[Xx]at this;exact this
  rw[ei];walk_at "rd";refine⟨r,_,2,_,rfl,rfl,Bi.of (en _ _ h1),rfl,tb,_,_,_,rfl,rfl,Bi.of (en _ _ h2),B9 (by lia),rfl,?_⟩
  by_cases hc:tab.getD (h*g.toNat+i) 0=s'
  ·rw[qF (by rw[hc])];refine⟨AC,?_,?_,by rw[FP]⟩
   ·unfold Bh;rw[Xk,Xk,Xk];exact AZ (by lia)
   ·unfold Bh;have f1:([i]:List Nat).filter (λj=>decide (tab.getD (h*g.toNat+j) 0=s'))=[i]:=by rw[ZN,qF (qH hc)];rfl
    rw[Ym,Yy,f1,Xv,Xv,Xv];rfl
  ·rw[qE (by intro z;exact hc (V.int.inj z))];have f1:([i]:List Nat).filter (λj=>decide (tab.getD (h*g.toNat+j) 0=s'))=[]:=by rw[ZN,qE (by rw[qI hc];decide)];rfl
   rw[Ym,Yy,f1,Yd];exact⟨rfl,rfl⟩
 ·rintro acc Hx ⟨rfl,rfl⟩;exact q D _ ⟨AG.new hD _,hD,AC⟩
theorem Vu:AL ["one"] ["one"] (AH Tp):=Cc (by decide +kernel)
theorem Vv(T:CU K mg t) :A5 P w K mg base 1 t.f_55 ["one"] (DT):=by
 refine BH T.d_55 Vu (λ_ _ _ _ _ _=>b1 λ_=>rfl) λvs H Q E h=>?_;obtain⟨r,g,lo,tab,m,rfl,ok,q⟩:=h;refine⟨rfl,λcdv A outer s hr=>?_⟩;refine⟨_,(AE (AO (AI Av (AV AJ rfl T.z_len X5 (AA (AT Ai (pv 0) AF (λ_ _=>rfl)) AB)) (AT Ai (pv 0) AF (λ_ _=>rfl))))),?_⟩;obtain⟨tb,h1,h2⟩:=id ok.v;have g2:=ok.g2;have g9:=ok.g9;have m1:=ok.m1;have m8:=ok.m8;have hl:=ok.len;have sz:=ok.sz;have hlm:(tab.map V.int).length=tab.length:=Xk ..;walk_at "rd";refine⟨r,_,2,_,rfl,rfl,Bi.of h1,rfl,?_⟩;walk_at "rd";refine⟨_,.inr (Bi.of h2),r,_,0,_,rfl,rfl,Bi.of h1,rfl,g,rfl,by lia,by lia,?_⟩
 have e:(((tab.map V.int).length:Nat):Int)/g=((tab.length/g.toNat:Nat):Int):=by rw[hlm,Yo,X8 (by lia)]
 rw[e];exact q
theorem LH:AL ["one","weight","table","number","told","there"] ["one","weight"] (AH Tq):=Cc (by decide +kernel)
theorem Vw(T:CU K mg t) :A5 P w K mg base 1 t.f_49 ["one","weight"] (HD):=by
 refine BH T.d_49 LH (λ_ _ _ _ _ _=>b2 λ_ _=>rfl) λvs H Q E h=>?_;obtain⟨r,g,lo,tab,wt,rfl,g2,g9,hR,w0,w3,tl,q⟩:=h;refine⟨rfl,λcdv A outer s hr=>?_⟩
 refine⟨_,(AD (AR 2 LH (AT Ai (pv 0) AF (λ_ _=>rfl)))
  (AD (BM PassesOwn.never rfl (Ov rfl T.z_enumerate (AA (pv 2) AB)) (LM rfl (De (Be 3 LH) (De (Be 4 LH) JE))) (AD (AR 5 LH (AI Ak (AI Av (pv 3) (pv 1)) (AT Ai (pv 0) AF (λ_ _=>rfl))))
  (AE (BE (AN IR (pv 4) (AT Ai (pv 2) (AI CA (pv 3) (AI Bx (pv 5) (pv 1))) (λ_ _=>rfl)) (AU _)) (AE (AO EG)) Af))))
  (AE (AO EG)))),?_⟩
 obtain⟨tb,h1,h2⟩:=id hR;walk_at "rd";refine⟨r,_,2,_,rfl,rfl,Bi.of h1,rfl,?_⟩;walk_at "rd";refine⟨_,rfl,tb,_,rfl,Bi.of h2,?_⟩;refine Nj (xs:=tab.map V.int) (λi σ H1=>(∃x3 x4 x5,σ=[some (.ref r),some (.int wt),some (.ref tb),x3,x4,x5])/\AG H H1/\∀k,k<i->tab.getD k 0=tab.getD ((k:Int)-(k:Int)/wt%g*wt).toNat 0) ⟨⟨none,none,none,rfl⟩,AG.refl _,λk hk=>qG hk (aG _)⟩ (λi σ H1 _ z=>Bi.of (z.2.1 _ _ h2)) ?_ ?_
 ·rintro i x p2 σ H1 hx ⟨⟨x3,x4,x5,rfl⟩,e,hall⟩ hp2;obtain⟨n,hn,rfl⟩:=By hx;have hi:i<tab.length:=(Xo.mp hn).1;have e2:AG H (Aj H1 p2 (.tup [.int ((i:Nat):Int),.int n])):=e.trans (AG.new hp2 _);refine⟨p2,_,rfl,Bi.of AC,rfl,_,_,rfl,_,_,rfl,rfl,?_⟩;walk_at "rd";have ix:=Sz (k:=(i:Int)) (w:=wt) (g:=g) (by lia) w0 g2;have gA:=Cr (ns:=tab) ix.1 (by lia);have ng:n=tab.getD i 0:=by rw[Xm,hn];rfl
  refine⟨w0,by lia,r,_,0,_,rfl,rfl,Bi.of (e2 _ _ h1),rfl,g,rfl,by lia,.inr ⟨by lia,by lia⟩,tb,_,_,_,rfl,rfl,Bi.of (e2 _ _ h2),gA,rfl,?_⟩
  by_cases hd:V.int n=V.int (tab.getD ((i:Int)-(i:Int)/wt%g*wt).toNat 0)
  ·rw[qE (λz=>z hd)];refine⟨⟨_,rfl⟩,e2,λk hk=>?_⟩
   by_cases z:k=i
   ·subst z;rw[<-ng];exact V.int.inj hd
   ·exact hall k (by lia)
  ·rw[qF hd];have z:BC g tab wt=true:=Dk.mpr ⟨i,hi,λy=>hd (by rw[ng,y])⟩;rw[z]at q;exact q _ e2
 ·rintro σ H1 ⟨⟨x3,x4,x5,rfl⟩,e,hall⟩;walk_at "rd";rw[Xk]at hall
  have z:BC g tab wt=false:=by
   cases z:BC g tab wt with
   |false=>rfl
   |true =>
    obtain⟨k,hk,h⟩:=Dk.mp z;exact qG (hall k hk) h
  rw[z]at q;exact q H1 e
theorem LI:AL ["one","found","weight","at"] ["one"] (AH Tr):=Cc (by decide +kernel)
theorem Vx(T:CU K mg t)(G_51:A5 P w K mg base 2 t.f_51 ["one"] (Di))(G_49:A5 P w K mg base 1 t.f_49 ["one","weight"] (HD)):A5 P w K mg base 3 t.f_37 ["one"] (Dy):=by
 refine BH T.d_37 LI (λ_ _ _ _ _ _=>b1 λ_=>rfl) λvs H Q E h=>?_;obtain⟨r,g,lo,tab,m,rfl,g2,g9,hR,hl,m1,m8,gm,q⟩:=h;refine⟨rfl,λcdv A outer s hr=>?_⟩
 refine⟨_,(AD (AR 1 LI (BV AB))
  (AD (AR 2 LI (AV AJ rfl T.z_len X5 (AA (AT Ai (pv 0) AF (λ_ _=>rfl)) AB)))
  (AD (BM PassesOwn.never rfl (Ap rfl T.z_range (AA (Aa hr G_51 T.m_51 (AA (pv 0) AB)) AB)) (Be 3 LI) (AD (AR 2 LI (AI Av (pv 2) (AT Ai (pv 0) AF (λ_ _=>rfl))))
  (AE (BE (CF (Aa hr G_49 T.m_49 (AA (pv 0) (AA (pv 2) AB)))) (AE (BF (CQ YB YM YN BR (pv 1) (AA (AI A8 (AT Ai (pv 0) AF (λ_ _=>rfl)) (pv 3)) AB)))) Af))))
  (AE (AO (pv 1)))))),?_⟩
 obtain⟨tb,h1,h2⟩:=id hR;walk_at "rd";refine⟨YS _,λp hp=>?_⟩;have e0:=AG.new hp (.lst []);refine⟨r,_,2,_,rfl,rfl,Bi.of (e0 _ _ h1),rfl,?_⟩;walk_at "rd";refine⟨_,.inr (Bi.of (e0 _ _ h2)),?_⟩;rw[Xk];refine⟨_,rfl,r,g,lo,tab,m,rfl,g2,g9,hR.same e0,hl,_,rfl,by lia,by lia,?_⟩;refine Bv (n:=m) (λi σ H1=>∃x3,σ=[some (.ref r),some (.ref p),some (.int (g^(m-i))),x3]/\AG H H1/\H1 p=some (.lst ((((List.range i).filter λj=>BC g tab (g^(m-1-j))).map λj:Nat=>lo+(j:Int)).map V.int))) ⟨none,by rw[hl,ZQ],e0,AC⟩ ?_ ?_
 ·rintro i σ H1 hi ⟨x3,rfl,e,hp1⟩;have dv:g^(m-i)/g=g^(m-1-i):=by rw[show m-i=(m-1-i)+1 by lia,X9,Int.mul_ediv_cancel _ (by lia)]
  have gp:=RW.Ah g2 (m-1-i);have gb:=Bu g2 (show m-1-i<=m by lia);walk_at "rd";refine⟨r,_,0,_,rfl,rfl,Bi.of (e _ _ h1),rfl,?_⟩;walk_at "rd";rw[dv];refine⟨by lia,by lia,r,g,lo,tab,_,rfl,g2,g9,hR.same e,gp,by lia,by lia,λH2 e2=>?_⟩;have e3:=e.trans e2;refine⟨_,rfl,?_⟩;cases hc:BC g tab (g^(m-1-i)) with
  |true =>
   rw[qF rfl];refine⟨.inl ⟨_,Ad.of (e2 _ _ hp1)⟩,r,_,1,_,rfl,rfl,Bi.of (e3 _ _ h1),rfl,lo,rfl,_,e2 _ _ hp1,?_,by rw[show m-(i+1)=m-1-i by lia],e3.into hp,?_⟩
   ·rw[Xk,Xk];have:=ZH (λj=>BC g tab (g^(m-1-j))) (List.range i);rw[Xx]at this;exact AZ (by lia)
   ·rw[AC,Ym,Yy,Xv,Xv,YX];simp[List.filter,hc]
  |false =>
   rw[qE (by decide)];refine⟨by rw[show m-(i+1)=m-1-i by lia],e3,?_⟩;rw[e2 _ _ hp1,Ym,Yy];simp[List.filter,hc]
 ·rintro σ H1 ⟨x3,rfl,e,hp1⟩;walk_at "rd";exact q p H1 ⟨e,hp,hp1⟩
theorem XI:AL ["word","at"] ["word","at"] (AH W3):=Cc (by decide +kernel)
theorem XJ(T:CU K mg t) :A5 P w K mg base 1 t.f_0 ["word","at"] (HM K):=by
 refine BH T.d_0 XI (λ_ _ _ _ _ _=>b2 λ_ _=>rfl) λvs H Q E h=>?_;obtain⟨a,v,z,rfl,hS,q⟩:=h;refine⟨rfl,λcdv A outer s hr=>?_⟩
 refine⟨_,(AD (BE (PW.pt (E2 (AN EJ (pv 1) AF (AU _)) (E8 (AN Ut (pv 1) (AV AJ rfl T.z_len X5 (AA (pv 0) AB)) (AU _))))) (AE (AO AF)) Af)
  (AE (AO (AT An (pv 0) (pv 1) (λ_ _=>rfl))))),?_⟩
 have hlm:(v.map V.int).length=v.length:=Xk ..;unfold sn at q;walk_at "rd"
 by_cases h0:z<0
 ·rw[qF (.inl h0)]at q;rw[qF h0];exact q
 rw[qE h0];refine⟨_,.inl hS,?_⟩;rw[hlm]
 by_cases h1:(v.length:Int)<=z
 ·rw[qF (.inr h1)]at q;rw[qF h1];exact q
 rw[qE h1];rw[qE (by lia)]at q;exact⟨a,_,_,_,rfl,rfl,hS,Cr (by lia) (by lia),q⟩
theorem LJ:AL ["one","low","many","ahead","table","number","word"] ["one","low","many"] (AH Ts):=Cc (by decide +kernel)
theorem Vy(T:CU K mg t)(G_59:A5 P w K mg base 4 t.f_59 ["signs","low","table"] (Jb t.c_47))(G_8:A5 P w K mg base 1 t.f_8 ["signs","many"] (Jc))(G_46:Qr P w K mg base 1 t.f_46 ["number","signs","many"] (Ll t.c_48))(G_31:A5 P w K mg base 5 t.f_31 ["one","word"] (Lj K t.c_53))(G_0:A5 P w K mg base 1 t.f_0 ["word","at"] (HM K))(G_51:A5 P w K mg base 2 t.f_51 ["one"] (Di)):A5 P w K mg base 6 t.f_30 ["one","low","many"] (Gi):=by
 refine BH T.d_30 LJ (λ_ _ _ _ _ _=>b3 λ_ _ _=>rfl) λvs H Q E h=>?_;obtain⟨r,g,lo,tab,m,low,M,rfl,ok,M1,gM,q⟩:=h;refine⟨rfl,λcdv A outer s hr=>?_⟩
 refine⟨_,(AD (AR 3 LJ (AI CA (AT Ai (pv 0) AF (λ_ _=>rfl)) (pv 1)))
  (AD (AR 4 LJ (BV AB))
  (AD (BM PassesOwn.never rfl (Ap rfl T.z_range (AA (Aa hr G_8 T.m_8 (AA (AT Ai (pv 0) AF (λ_ _=>rfl)) (AA (pv 2) AB))) AB)) (Be 5 LJ) (AD (AR 6 LJ (Op G_46 (hr.mono (by decide)) rfl T.m_46 S0 (AA (pv 5) (AA (AT Ai (pv 0) AF (λ_ _=>rfl)) (AA (pv 2) AB)))))
  (AE (BF (CQ YB YM YN BR (pv 4) (AA (Aa hr G_31 T.m_31 (AA (pv 0) (AA (DE [(6,"word"),(3,"ahead")] [("word",_),("ahead",_)] (Ap rfl T.z_range (AA (Aa hr G_51 T.m_51 (AA (pv 0) AB)) AB)) (λ_ _ _ _=>Bz) (λ_ _ _ _=>(Aa hr G_0 T.m_0 (AA (pv 1) (AA (AI A8 (pv 2) (pv 0)) AB))))) AB))) AB))))))
  (AE (AO (Aa hr G_59 T.m_59 (AA (AT Ai (pv 0) AF (λ_ _=>rfl)) (AA (pv 1) (AA (pv 4) AB))))))))),?_⟩
 obtain⟨tb,h1,h2⟩:=id ok.v;have g2:=ok.g2;have g9:=ok.g9;have m8:=ok.m8;have hl:=ok.len;have gp:=RW.Ah g2 M;have M8:=Fb g2 gM;walk_at "rd";refine⟨r,_,1,_,rfl,rfl,Bi.of h1,rfl,lo,rfl,YS _,λp hp=>?_⟩;have e0:=AG.new hp (.lst []);refine⟨_,rfl,r,_,0,_,rfl,rfl,Bi.of (e0 _ _ h1),rfl,_,rfl,?_⟩;refine⟨g,_,rfl,g2,g9,by lia,λ_=>?_,λz=>qG z (by rw[Xy];lia)⟩;rw[Xy];refine⟨_,rfl,by lia,by lia,?_⟩;refine Bv (n:=(g^M).toNat) (λi σ H1=>∃x5 x6,σ=[some (.ref r),some (.int low),some (.int ((M:Nat):Int)),some (.int (lo-low)),some (.ref p),x5,x6]/\AG H H1/\H1 p=some (.lst (((List.range i).map λn:Nat=>tab.getD (BJ g (Ke (BS g (n:Int) M) (lo-low) m)).toNat 0).map V.int))) ⟨none,none,rfl,e0,AC⟩ ?_ ?_
 ·rintro i σ H1 hi ⟨x5,x6,rfl,e,hp1⟩;walk_at "rd";refine⟨r,_,0,_,rfl,rfl,Bi.of (e _ _ h1),rfl,_,g,_,rfl,g2,g9,by lia,by lia,λz=>qG z (by rw[Xy];lia),λ_ _ pw H2 hN2=>?_⟩;rw[Xy,YX]at hN2;have e2:=e.trans hN2.1;have hp2:=hN2.1 _ _ hp1;refine⟨.inl ⟨_,Ad.of hp2⟩,?_⟩;refine⟨_,rfl,r,g,lo,tab,m,rfl,g2,g9,ok.v.same e2,hl,_,rfl,by lia,by lia,λD hD=>?_⟩;rw[Xy];have hw2:H2 pw=some (.lst ((BS g (i:Int) M).map V.int)):=hN2.2.2;refine BI (n:=m) (λj acc Hx=>acc=((List.range j).map λk:Nat=>sn (BS g (i:Int) M) (lo-low+(k:Int))).map V.int/\Hx=Aj H2 D (.lst acc)) ⟨rfl,rfl⟩ ?_ ?_
  ·rintro j acc Hx hj ⟨rfl,rfl⟩;walk_at "rd";rw[YX];refine⟨pw,_,_,rfl,Ad.of (AG.new hD _ _ _ hw2),AC,?_,?_,by rw[FP]⟩
   ·rw[Xk,Xk,Xx];exact AZ (by lia)
   ·rw[A6,Xv];rfl
  ·rintro acc Hx ⟨rfl,rfl⟩;have en:=AG.new hD (.lst ((Ke (BS g (i:Int) M) (lo-low) m).map V.int));have bb:=Ln g2 (CJ g2 (i:Int) M) (lo-low) m;have bl:=KU bb;rw[C1]at bl;refine⟨r,D,g,lo,tab,m,(Ke (BS g (i:Int) M) (lo-low) m).map V.int,rfl,g2,g9,(ok.v.same e2).same en,hl,Ad.of AC,Ge,?_⟩;rw[bl];intro ms hms H4 e4;have:=FZ hms;subst this;have e24:=en.trans e4;refine⟨_,e24 _ _ hp2,?_,(e2.trans e24).into hp,?_⟩
   ·rw[Xk,Xk,Xx];exact AZ (by lia)
   ·rw[AC,A6,Xv];rfl
 ·rintro σ H1 ⟨x5,x6,rfl,e,hp1⟩;walk_at "rd";refine⟨r,_,0,_,rfl,rfl,Bi.of (e _ _ h1),rfl,?_⟩;exact Nn (tab:=Ey g lo tab m low M) g2 g9 M1 (BG g2 _ _ _ _ _) gM (O0 g2 _ ok.tb _ _ _) (.inl hp1) λr' H' e' hR=>q r' H' (e.trans e') (ok.bw M1 gM hR)
theorem SE:AL ["one","found"] ["one"] (AH Tt):=Cc (by decide +kernel)
theorem Vz(T:CU K mg t)(G_37:A5 P w K mg base 3 t.f_37 ["one"] (Dy))(G_30:A5 P w K mg base 6 t.f_30 ["one","low","many"] (Gi)):A5 P w K mg base 7 t.f_50 ["one"] (HN):=by
 refine BH T.d_50 SE (λ_ _ _ _ _ _=>b1 λ_=>rfl) λvs H Q E h=>?_;obtain⟨r,g,lo,tab,m,rfl,ok,q⟩:=h;refine⟨rfl,λcdv A outer s hr=>?_⟩
 refine⟨_,(AD (AR 1 SE (Aa hr G_37 T.m_37 (AA (pv 0) AB)))
  (AD (BE (AN B0 (AV AJ rfl T.z_len X5 (AA (pv 1) AB)) AF (AU _)) (AE (AO (Aa hr G_30 T.m_30 (AA (pv 0) (As (As AB)))))) Af)
  (AE (AO (Aa hr G_30 T.m_30 (AA (pv 0) (AA (AT An (pv 1) AF (λ_ _=>rfl)) (AA (AI A8 (AI CA (AT An (pv 1) (FS Dr AF) (λ_ _=>rfl)) (AT An (pv 1) AF (λ_ _=>rfl))) AF) AB)))))))),?_⟩
 have g2:=ok.g2;have g9:=ok.g9;have m1:=ok.m1;have m8:=ok.m8;have sz:=ok.sz;walk_at "rd";refine⟨r,g,lo,tab,m,rfl,g2,g9,ok.v,ok.len,m1,m8,sz,λp H1 hN1=>?_⟩;have hcl:((Bk g lo tab m).map V.int).length=(Bk g lo tab m).length:=Xk ..;walk_at "rd";refine⟨_,.inl (Ad.of hN1.2.2),?_⟩;rw[hcl]
 by_cases hc:Bk g lo tab m=[]
 ·rw[qF (by rw[hc];rfl)];have g1:g^1=g:=by rw[X9,YJ,Yg]
  exact⟨r,g,lo,tab,m,0,1,rfl,ok.same hN1.1,Xr _,by lia,λr' H' e' ok'=>q 0 1 (Kh hc) r' H' (hN1.1.trans e') ok'⟩
 ·obtain⟨M,hM,hMm,hW⟩:=Ig hc;have hp0:0<(Bk g lo tab m).length:=List.length_pos_iff.mpr hc;rw[qE (by lia)];have gM:=Bu g2 hMm;refine⟨p,_,0,_,rfl,rfl,Ad.of hN1.2.2,Cr (by decide) (by show 0<_;lia),p,_,_,_,rfl,rfl,Ad.of hN1.2.2,No hp0,p,_,0,_,rfl,rfl,Ad.of hN1.2.2,Cr (by decide) (by show 0<_;lia),_,rfl,_,rfl,?_⟩;refine⟨r,g,lo,tab,m,(Bk g lo tab m).getD 0 0,M,?_,ok.same hN1.1,hW.one,by lia,λr' H' e' ok'=>q _ M hW r' H' (hN1.1.trans e') ok'⟩;rw[hM];rfl
theorem SG:AL ["one","low","high","place"] ["one","low","high"] (AH Tu):=Cc (by decide +kernel)
theorem V0(T:CU K mg t)(G_37:A5 P w K mg base 3 t.f_37 ["one"] (Dy))(G_30:A5 P w K mg base 6 t.f_30 ["one","low","many"] (Gi))(G_8:A5 P w K mg base 1 t.f_8 ["signs","many"] (Jc)):A5 P w K mg base 7 t.f_45 ["one","low","high"] (F1 t.c_34 t.c_39):=by
 refine DD T.d_45 SG (λ_ _ _ _ _ _=>b3 λ_ _ _=>rfl) λvs H Q E h=>?_;obtain⟨r,g,lo,tab,m,low,high,rfl,ok,hout,hwide,hok⟩:=h;refine⟨rfl,λcdv A outer s hr=>?_⟩
 refine⟨_,(AD (BE (AN EB (pv 1) (pv 2) (AU _)) (AE (B2 rfl T.x_34 rfl T.m_34 BN (AA DA AB))) Af)
  (AD (BM PassesOwn.leaving rfl (BZ (Aa hr G_37 T.m_37 (AA (pv 0) AB))) (Be 3 SG) (AE (BE (PW.pt (E2 (AN EJ (pv 3) (pv 1) (AU _)) (E8 (AN EB (pv 3) (pv 2) (AU _))))) (AE (B2 rfl T.x_34 rfl T.m_34 BN (AA DA AB))) Af)))
  (AD (BE (AN EB (Aa hr G_8 T.m_8 (AA (AT Ai (pv 0) AF (λ_ _=>rfl)) (AA (AI A8 (AI CA (pv 2) (pv 1)) AF) AB))) (El rfl T.g_LONGEST_TABLE) (AU _)) (AE (B2 rfl T.x_39 rfl T.m_39 BN (AA DA AB))) Af)
  (AE (AO (Aa hr G_30 T.m_30 (AA (pv 0) (AA (pv 1) (AA (AI A8 (AI CA (pv 2) (pv 1)) AF) AB))))))))),?_⟩
 obtain⟨tb,h1,h2⟩:=id ok.v;have g2:=ok.g2;have g9:=ok.g9;have m1:=ok.m1;have m8:=ok.m8;walk_at "rd"
 by_cases hlh:high<low
 ·rw[qF hlh];exact⟨by decide,hout (.inl hlh) _ (AG.refl _)⟩
 rw[qE hlh];refine⟨_,rfl,r,g,lo,tab,m,rfl,g2,g9,ok.v,ok.len,m1,m8,ok.sz,λp H1 hN1=>?_⟩;refine⟨p,rfl,⟨_,Ad.of hN1.2.2⟩,?_⟩;refine B8 (xs:=(Bk g lo tab m).map V.int) (λi σ H2=>(∃x3,σ=[some (.ref r),some (.int low),some (.int high),x3])/\H2=H1/\∀z∈(Bk g lo tab m).take i,low<=z/\z<=high) ⟨⟨none,rfl⟩,rfl,λz hz=>qG hz (by simp)⟩ (λi σ H2 _ z=>by rw[z.2.1];exact Ad.of hN1.2.2) ?_ ?_
 ·rintro i x σ H2 hx ⟨⟨x3,rfl⟩,rfl,hall⟩;obtain⟨n,hn,rfl⟩:=By hx;have nm:=X3 hn;walk_at "rd"
  by_cases c1:n<low
  ·rw[qF c1];exact⟨by decide,hout (.inr ⟨n,nm,.inl c1⟩) _ hN1.1⟩
  rw[qE c1]
  by_cases c2:high<n
  ·rw[qF c2];exact⟨by decide,hout (.inr ⟨n,nm,.inr c2⟩) _ hN1.1⟩
  rw[qE c2];refine⟨⟨_,rfl⟩,λz hz=>?_⟩;rw[ZI,hn]at hz;rcases Xq.mp hz with y|y
  ·exact hall z y
  ·have:z=n:=by simpa using y
   lia
 ·rintro σ H2 ⟨⟨x3,rfl⟩,rfl,hall⟩;rw[Xk,YT]at hall
  have nout:¬Qy g lo tab m low high:=by
   rintro (z|⟨z,hz,y⟩)
   ·exact hlh z
   ·have:=hall z hz;lia
  walk_at "rd";refine⟨r,_,0,_,rfl,rfl,Bi.of (hN1.1 _ _ h1),rfl,g,_,rfl,g2,g9,by lia,λhle=>?_,λhgt rr hrr=>?_⟩
  ·refine⟨_,rfl,?_⟩;rw[qE (by lia)];exact⟨r,g,lo,tab,m,low,(high-low+1).toNat,by rw[show (((high-low+1).toNat:Nat):Int)=high-low+1 by lia],ok.same hN1.1,by lia,hle,λr' H' e' ok'=>hok nout hle r' H' (hN1.1.trans e') ok'⟩
  ·refine⟨_,rfl,?_⟩;rw[qF hrr];exact⟨by decide,hwide nout hgt _ hN1.1⟩
theorem SH:AL ["one","least"] ["one"] (AH Tv):=Cc (by decide +kernel)
theorem V1(T:CU K mg t)(G_50:A5 P w K mg base 7 t.f_50 ["one"] (HN))(G_51:A5 P w K mg base 2 t.f_51 ["one"] (Di))(G_45:A5 P w K mg base 7 t.f_45 ["one","low","high"] (F1 t.c_34 t.c_39))(G_55:A5 P w K mg base 1 t.f_55 ["one"] (DT)):A5 P w K mg base 8 t.f_54 ["one"] (Gm t.c_39):=by
 refine DD T.d_54 SH (λ_ _ _ _ _ _=>b1 λ_=>rfl) λvs H Q E h=>?_;obtain⟨r,g,lo,tab,m,lf,tf,mf,rfl,ok,fw,hok,hex⟩:=h;refine⟨rfl,λcdv A outer s hr=>?_⟩
 refine⟨_,(AD (AR 1 SH (Aa hr G_50 T.m_50 (AA (pv 0) AB)))
  (AD (BE (AN B0 (Aa hr G_51 T.m_51 (AA (pv 1) AB)) AF (AU _)) (AE (AO (BO G_45 (hr.mono (by decide)) rfl T.m_45 Ax (AA (pv 1) (AA (AT Ai (pv 1) AF (λ_ _=>rfl)) (AA (AI A8 (AT Ai (pv 1) AF (λ_ _=>rfl)) AF) AB)))))) Af)
  (AD (BE (AN EB (Aa hr G_55 T.m_55 (AA (pv 1) AB)) (El rfl T.g_MOST_NODES) (AU _)) (AE (B2 rfl T.x_39 rfl T.m_39 BN (AA DA AB))) Af)
  (AE (AO (pv 1)))))),?_⟩
 have g2:=ok.g2;have g9:=ok.g9;refine A7 λN hN=>?_;walk_at "rd";refine⟨r,g,lo,tab,m,rfl,ok,λlow M hW r1 H1 e1 ok1=>hN _ _ ?_⟩;clear hN N;walk_at "rd";refine⟨r1,g,low,_,M,rfl,g2,g9,ok1.v,ok1.len,rfl,?_⟩;obtain⟨low',M',hW',elf,hc⟩:=id fw;obtain⟨rfl,rfl⟩:=Ks g2 ok.len hW hW';subst elf;obtain⟨tb,h1,h2⟩:=id ok1.v;rcases hc with⟨rfl,rfl,rfl⟩|⟨hM,rfl,rfl⟩
 ·rw[qF (show V.int ((1:Nat):Int)=V.int 1 from rfl)];have g1:g^(2-1)=g:=by show g^(0+1)=g;rw[X9,YJ,Yg]
  have e2:(lf+1-lf+1).toNat=2:=by lia
  refine⟨r1,_,1,_,rfl,rfl,Bi.of h1,rfl,r1,_,1,_,rfl,rfl,Bi.of h1,rfl,lf,rfl,?_⟩;refine⟨r1,g,lf,_,1,lf,lf+1,rfl,ok1,λho=>?_,λ_ hw=>?_,λ_ _ r2 H2 f2 ok2=>?_⟩
  ·exfalso;rcases ho with z|⟨z,hz,y⟩
   ·lia
   ·unfold Bk at hz;obtain⟨j,hj,rfl⟩:=YH.mp hz;have:=YD.mp (Ya.mp hj).1;lia
  ·exfalso;rw[e2]at hw;have:g^2<=9*9:=by rw[show (2:Nat)=(2-1)+1 from rfl,X9,g1];exact Z5 g9 g9 (by lia) (by lia)
   lia
  ·rw[e2]at ok2;exact hok (by lia) r2 H2 (e1.trans f2) ok2
 ·rw[qE (λz=>by have:=V.int.inj z;lia)];refine⟨r1,g,lf,_,mf,rfl,ok1,_,rfl,?_⟩;rw[(BP g2 ok1.len ok1.m1).1]
  by_cases h9:9<g^(mf-1)
  ·rw[qF h9];exact⟨by decide,hex h9 _ e1⟩
  ·rw[qE h9];exact hok (by lia) r1 H1 e1 ok1
theorem V2:AL ["one"] ["one"] (AH Tw):=Cc (by decide +kernel)
theorem V3(T:CU K mg t)(G_55:A5 P w K mg base 1 t.f_55 ["one"] (DT))(G_54:A5 P w K mg base 8 t.f_54 ["one"] (Gm t.c_39)):A5 P w K mg base 9 t.f_56 ["one"] (Jn t.c_39):=by refine DD T.d_56 V2 (λ_ _ _ _ _ _=>b1 λ_=>rfl) λvs H Q E h=>?_;obtain⟨r,g,lo,tab,m,lf,tf,mf,rfl,ok,fw,hok,hex⟩:=h;refine⟨rfl,λcdv A outer s hr=>?_⟩;refine⟨_,(AE (AO (Aa hr G_55 T.m_55 (AA (BO G_54 (hr.mono (by decide)) rfl T.m_54 Ax (AA (pv 0) AB)) AB)))),?_⟩;walk_at "rd";refine⟨r,g,lo,tab,m,lf,tf,mf,rfl,ok,fw,λh9 r1 H1 e1 ok1=>⟨r1,g,lf,tf,mf,rfl,ok1,?_⟩,hex⟩;rw[(BP ok1.g2 ok1.len ok1.m1).1];exact hok h9 _ e1
theorem V4:AL ["one"] ["one"] (AH Tx):=Cc (by decide +kernel)
theorem V5(T:CU K mg t)(G_56:A5 P w K mg base 9 t.f_56 ["one"] (Jn t.c_39)):A5 P w K mg base 10 t.f_23 ["one"] (Gn t.c_39):=by refine DD T.d_23 V4 (λ_ _ _ _ _ _=>b1 λ_=>rfl) λvs H Q E h=>?_;obtain⟨r,g,lo,tab,m,lf,tf,mf,rfl,ok,fw,hok,hex⟩:=h;refine⟨rfl,λcdv A outer s hr=>?_⟩;refine⟨_,(AE (AO (AI CA (AI OT AF (BO G_56 (hr.mono (by decide)) rfl T.m_56 Ax (AA (pv 0) AB))) AF))),?_⟩;walk_at "rd";refine⟨r,g,lo,tab,m,lf,tf,mf,rfl,ok,fw,λh9 H1 e1=>⟨_,rfl,YI (RW.Ah ok.g2 _),by lia,by decide,?_⟩,hex⟩;rw[Yg];exact hok h9 _ e1
theorem NG:AL ["framed","fitting","some","number"] ["framed","fitting"] (AH Tz):=Cc (by decide +kernel)
theorem V6(T:CU K mg t)(G_55:A5 P w K mg base 1 t.f_55 ["one"] (DT)):A5 P w K mg base 2 t.f_40 ["framed","fitting"] (MG):=by
 refine BH T.d_40 NG (λ_ _ _ _ _ _=>b2 λ_ _=>rfl) λvs H Q E h=>?_;obtain⟨r,f,g,lo,tab,m,ks,rfl,ok,hf,q⟩:=h;refine⟨rfl,λcdv A outer s hr=>?_⟩
 refine⟨_,(AD (AR 2 NG AF)
  (AD (BM PassesOwn.never rfl (BZ (pv 1)) (Be 3 NG) (AE (AR 2 NG (AI Rc (pv 2) (AI OT AF (AI Ak (pv 3) (Aa hr G_55 T.m_55 (AA (pv 0) AB))))))))
  (AE (AO (pv 2))))),?_⟩
 have g2:=ok.g2;have hd:=BP g2 ok.len ok.m1
 have h1:1<=tab.length/g.toNat:=by have:=RW.Ah g2 (m-1);lia
 obtain⟨h,hh⟩:∃h,h=tab.length/g.toNat:=⟨_,rfl⟩;rw[<-hh]at h1 q;refine A7 λN hN=>?_;walk_at "rd";refine hN _ _ ?_;clear hN N;refine Ck (λσ HX=>(∃x3,σ=[some (.ref r),some (.ref f),some (.int (BY h (EZ h ks))),x3])/\HX=H) (λN hN=>?_) ?_
 ·refine⟨_,rfl,f,rfl,⟨_,Ad.of hf⟩,?_⟩;refine B8 (xs:=(Bh ks).map V.int) (λi σ HX=>(∃x3,σ=[some (.ref r),some (.ref f),some (.int (BY h (EZ h (ks.take i)))),x3])/\HX=H) ⟨⟨none,by rw[List.take_zero,show EZ h []=λ_=>false from rfl,Es]⟩,rfl⟩ (λi σ HX _ z=>by rw[z.2];exact Ad.of hf) ?_ ?_
  ·rintro i x σ HX hx ⟨⟨x3,rfl⟩,rfl⟩;obtain⟨v,hv,rfl⟩:=By hx
   obtain⟨n,hn,rfl⟩:∃n:Nat,ks[i]?=some n/\v=(n:Int):=by
    unfold Bh at hv;rw[Xu]at hv;cases z:ks[i]? with
    |none=>rw[z]at hv;cases hv
    |some n=>rw[z]at hv;exact⟨n,rfl,(Option.some.inj hv).symm⟩
   walk_at "rd";have md:(n:Int)%((h:Nat):Int)=((n%h:Nat):Int):=(Yx ..).symm;have lt:=ZW n h1;have hle:tab.length/g.toNat<=tab.length:=aJ ..;have sz:=ok.sz;have tl:=ok.len;refine⟨r,g,lo,tab,m,rfl,ok,_,rfl,?_⟩;rw[<-hh,md,Xy,Yg];refine⟨by lia,by lia,by lia,by decide,?_,⟨_,rfl⟩,rfl⟩;rw[PZ h1,ZI,hn];rfl
  ·rintro σ HX ⟨⟨x3,rfl⟩,rfl⟩;have lf:((Bh ks).map V.int).length=ks.length:=by unfold Bh;rw[List.length_map,List.length_map]
   rw[lf,YT];exact hN _ _ ⟨⟨_,rfl⟩,rfl⟩
 rintro σ HX ⟨⟨x3,rfl⟩,rfl⟩;walk_at "rd";exact q
theorem UT:AL ["framed","singles","node"] ["framed"] (AH W6):=Cc (by decide +kernel)
theorem XM(T:CU K mg t)(G_55:A5 P w K mg base 1 t.f_55 ["one"] (DT))(G_40:A5 P w K mg base 2 t.f_40 ["framed","fitting"] (MG))(G_33:A5 P w K mg base 1 t.f_33 ["one","head","sign"] (Ji)):A5 P w K mg base 3 t.f_7 ["framed"] (F7):=by
 refine BH T.d_7 UT (λ_ _ _ _ _ _=>b1 λ_=>rfl) λvs H Q E h=>?_;obtain⟨r,g,lo,tab,m,rfl,ok,h9,q⟩:=h;refine⟨rfl,λcdv A outer s hr=>?_⟩
 refine⟨_,(AD (AR 1 UT (BV AB))
  (AD (BM PassesOwn.never rfl (Ap rfl T.z_range (AA (Aa hr G_55 T.m_55 (AA (pv 0) AB)) AB)) (Be 2 UT) (AE (BF (CQ YB YM YN BR (pv 1) (AA (DE [(2,"node"),(0,"framed")] [("node",_),("framed",_)] (Ap rfl T.z_range (AA (AT Ai (pv 0) AF (λ_ _=>rfl)) AB)) (λ_ _ _ _=>Bz) (λ_ _ _ _=>(Aa hr G_40 T.m_40 (AA (pv 2) (AA (Aa hr G_33 T.m_33 (AA (pv 2) (AA (pv 1) (AA (pv 0) AB)))) AB))))) AB)))))
  (AE (AO (pv 1))))),?_⟩
 obtain⟨tb,h1,h2⟩:=id ok.v;have g2:=ok.g2;have g9:=ok.g9;have hd:=BP g2 ok.len ok.m1;obtain⟨h,hh⟩:∃h,h=tab.length/g.toNat:=⟨_,rfl⟩;rw[<-hh]at h9 q;refine A7 λN hN=>?_;walk_at "rd";refine⟨YS _,λp hp=>hN _ _ ?_⟩;clear hN N;refine Ck (λσ HX=>(∃x2,σ=[some (.ref r),some (.ref p),x2])/\AG H HX/\∃ps,QN HX p ps (ED g.toNat tab h h)/\p∉ps) (λN hN=>?_) ?_
 ·refine⟨_,rfl,r,g,lo,tab,m,rfl,ok.same (AG.new hp _),_,rfl,by lia,by lia,?_⟩;rw[<-hh,Xy];refine Bv (n:=h) (λi σ HX=>(∃x2,σ=[some (.ref r),some (.ref p),x2])/\AG H HX/\∃ps,QN HX p ps (ED g.toNat tab h i)/\p∉ps) ⟨⟨none,rfl⟩,AG.new hp _,[],⟨AC,rfl,λi q w hq=>qG hq (by simp)⟩,by simp⟩ ?_ λσ HX z=>hN _ _ z
  rintro i σ HX hi ⟨⟨x2,rfl⟩,eX,ps,hs,np⟩;walk_at "rd";have npH:H p=none:=hp;refine⟨.inl ⟨_,Ad.of hs.l⟩,?_⟩;refine⟨_,rfl,r,_,0,_,rfl,rfl,Bi.of (eX _ _ h1),rfl,_,rfl,by lia,by lia,λD hD=>?_⟩;refine BI (n:=g.toNat) (λs acc Hx=>acc=((List.range s).map λs:Nat=>BY h (EZ h (CS g.toNat tab i (s:Int)))).map V.int/\AG HX Hx/\Hx D=some (.lst acc)) ⟨rfl,AG.new hD _,AC⟩ ?_ ?_
  ·rintro s acc Hx hs' ⟨rfl,ex,hDx⟩;walk_at "rd";simp only[Int.zero_add];refine⟨r,g,lo,tab,m,i,_,rfl,ok.same (eX.trans ex),by lia,λp2 H2 n2=>?_⟩;refine⟨r,p2,g,lo,tab,m,_,rfl,ok.same ((eX.trans ex).trans n2.1),n2.2.2,?_⟩;rw[<-hh];refine⟨n2.1 _ _ hDx,?_,?_,(ex.trans n2.1).into hD,AC⟩
   ·rw[Xk,Xk,Xx];exact AZ (by lia)
   ·rw[A6,Xv];rfl
  rintro acc H5 ⟨rfl,e5,h5⟩
  have Dp:D≠p:=λz=>by rw[z,hs.l]at hD;cases hD
  have sl:(ED g.toNat tab h i).length=i:=by unfold ED;rw[List.length_map,List.length_range]
  have ss:ED g.toNat tab h (i+1)=ED g.toNat tab h i++[Hc g.toNat tab h i]:=by unfold ED;rw[List.range_succ,List.map_append];rfl
  have pl:ps.length=i:=by rw[hs.n,sl]
  refine⟨_,e5 _ _ hs.l,?_,⟨_,rfl⟩,(eX.trans e5).into npH,ps++[D],⟨?_,?_,λk q' w hq hw=>?_⟩,?_⟩
  ·rw[Xk];exact AZ (by lia)
  ·rw[AC,Xv];rfl
  ·rw[ss,Xp,Xp,hs.n];rfl
  ·have qp:q'≠p:=λz=>by
    have:=X3 hq;rw[z]at this;rcases Xq.mp this with y|y
    ·exact np y
    ·exact Dp (Xl.mp y).symm
   rw[AK qp];rw[ss]at hw
   by_cases kl:k<i
   ·rw[YL (by lia)]at hq hw;exact e5 _ _ (hs.e k q' w hq hw)
   ·rw[X4 (by lia)]at hq hw;have k0:k-i=0:=by rw[pl]at hq;have:=(Xo.mp hq).1;rw[YO]at this;lia
    rw[pl,k0]at hq;rw[sl,k0]at hw;cases hq;cases hw;exact h5
  ·intro z;rcases Xq.mp z with y|y
   ·exact np y
   ·exact Dp (Xl.mp y).symm
 rintro σ HX ⟨⟨x2,rfl⟩,eX,ps,hs,np⟩;walk_at "rd";exact q p ps _ eX hs
theorem LK:AL ["singles","some","sign","come","node","steps"] ["singles","some","sign"] (AH T0):=Cc (by decide +kernel)
theorem V7(T:CU K mg t) :A5 P w K mg base 1 t.f_43 ["singles","some","sign"] (Hd):=by
 refine BH T.d_43 LK (λ_ _ _ _ _ _=>b3 λ_ _ _=>rfl) λvs H Q E h=>?_;obtain⟨p,ps,G,tab,h,x,s',rfl,hs,x0,sG,q⟩:=h;refine⟨rfl,λcdv A outer s hr=>?_⟩
 refine⟨_,(AD (AR 3 LK AF)
  (AD (BM PassesOwn.never rfl (Mj rfl T.z_enumerate (AA (pv 0) AB)) (LM rfl (De (Be 4 LK) (De (Be 5 LK) JE))) (AE (BE (AN B0 (AI Sa (AI SZ (pv 1) (pv 4)) AF) AF (AU _)) (AE (AR 3 LK (AI Rc (pv 3) (AT An (pv 5) (pv 2) (λ_ _=>rfl))))) Af)))
  (AE (AO (pv 3))))),?_⟩
 refine A7 λN hN=>?_;walk_at "rd";refine hN _ _ ?_;clear hN N;have sn:(ED G tab h h).length=h:=by unfold ED;rw[List.length_map,List.length_range]
 refine Ck (λσ HX=>(∃x4 x5,σ=[some (.ref p),some (.int x),some (.int ((s':Nat):Int)),some (.int (Cw G tab h x (s':Int))),x4,x5])/\AG H HX) (λN hN=>?_) ?_
 ·refine⟨_,rfl,p,_,rfl,Ad.of hs.l,?_⟩;refine KJ (xs:=ps.map V.ref) (λi σ HX=>(∃x4 x5,σ=[some (.ref p),some (.int x),some (.int ((s':Nat):Int)),some (.int (BY h (Co G tab h x (s':Int) i))),x4,x5])/\AG H HX) ⟨⟨none,none,by rw[show Co G tab h x (s':Int) 0=λ_=>false from rfl,Es]⟩,AG.refl _⟩ (λi σ HX _ z=>Ad.of (z.2 _ _ hs.l)) ?_ ?_
  ·rintro i y p2 σ HX hy ⟨⟨x4,x5,rfl⟩,eX⟩ hp2
   obtain⟨pk,hpk,rfl⟩:∃pk,ps[i]?=some pk/\y=.ref pk:=by
    rw[Xu]at hy;cases z:ps[i]? with
    |none=>rw[z]at hy;cases hy
    |some pk=>rw[z]at hy;exact⟨pk,rfl,(Option.some.inj hy).symm⟩
   have e2:=eX.trans (AG.new hp2 (.tup [.int ((i:Nat):Int),.ref pk]));have il:i<h:=by rw[<-sn,<-hs.n];exact (Xo.mp hpk).1
   have hw:=e2 _ _ (hs.e i pk (Hc G tab h i) hpk (by unfold ED;rw[List.getElem?_map,List.getElem?_range il];rfl));refine⟨p2,_,rfl,Bi.of AC,rfl,_,_,rfl,_,_,rfl,rfl,?_⟩;generalize Aj HX p2 (.tup [.int ((i:Nat):Int),.ref pk])=HT at e2 hw⊢;walk_at "rd";refine⟨by lia,?_⟩;rw[Xy,RB (ZK x0 (YI (Int.pow_pos (by decide))))]
   by_cases z:x/2^i%2=1
   ·rw[qF z];have gl:s'<(Hc G tab h i).length:=by unfold Hc;rw[List.length_map,List.length_range];exact sG
    refine⟨pk,_,_,_,rfl,rfl,Ad.of hw,B9 gl,_,rfl,?_,⟨_,rfl⟩,e2⟩;rw[show (Hc G tab h i).getD s' 0=BY h (EZ h (CS G tab i (s':Int))) by unfold Hc;rw[AM sG]];exact RC z
   ·rw[qE z];exact⟨Pa z,⟨_,rfl⟩,e2⟩
  ·rintro σ HX ⟨⟨x4,x5,rfl⟩,eX⟩;rw[Xk,hs.n,sn];exact hN _ _ ⟨⟨_,_,rfl⟩,eX⟩
 rintro σ HX ⟨⟨x4,x5,rfl⟩,eX⟩;walk_at "rd";exact q _ eX
theorem NH:AL ["starts","nexts_of","nexts","waiting","here"] ["starts","nexts_of"] (AH T1):=Cc (by decide +kernel)
theorem V8(T:CU K mg t) :A5 P w K mg base 3 t.f_42 ["starts","nexts_of"] (GA P w K mg base 2):=by
 refine BH T.d_42 NH (λ_ _ _ _ _ _=>b2 λ_ _=>rfl) λvs H Q E h=>?_;obtain⟨a,f,S,N,F,rfl,hS,sl,n5,lS,lF,⟨fd,ps,sp,oc,od,fd',sl',fok,fb,hf,hsp⟩,q⟩:=h;refine⟨rfl,λcdv A outer s hr=>?_⟩
 refine⟨_,(AD (AR 2 NH Fd)
  (AD (AR 3 NH (Df Dt rfl T.z_list Zi (AA (pv 0) AB)))
  (AD (CG PassesOwn.never (AN EB (AV AJ rfl T.z_len X5 (AA (pv 3) AB)) AF (AU _)) (AD (AR 4 NH (Sf YB PySem.F.slot_list_pop PySem.F.type_list_pop Sh (pv 3)))
  (AE (BE (JD (Ep (Cj hr) (pv 4) (pv 2))) (AD (Jm (Cj hr) (pv 2) (pv 4) (Pm (k:=2) 1 (hr.mono (by decide)) (AA (pv 4) AB)) rfl)
  (AE (BF (CQ YB PySem.F.slot_list_extend PySem.F.type_list_extend IV (pv 3) (AA (D3 (Cj hr) (pv 2) (pv 4) (λ_ _=>rfl)) AB))))) Af))))
  (AE (AO (pv 2)))))),?_⟩
 refine A7 λN1 hN=>?_;intro d hd;refine hN _ _ ?_;clear hN N1;have e0:=AG.new hd (.dK []);refine A7 λN1 hN=>?_;walk_at "rd";refine⟨_,.inl (e0.seq hS),λp hp=>hN _ _ ?_⟩;clear hN N1;have pd:d≠p:=λz=>by rw[<-z,AC]at hp;cases hp
 have dw:Jp S F=Jp S F:=rfl;have low:∀{A W:List Int},F9 S F A W->(∀a∈A,0<=a/\a<(N:Int))/\(∀a∈W,0<=a/\a<(N:Int)):=λr=>⟨λa ha=>(r.co a (.inl ha)).low lS λx h0 h1=>(lF x h0 h1).2,λa ha=>(r.co a (.inr ha)).low lS λx h0 h1=>(lF x h0 h1).2⟩
 refine Ck (λσ HX=>∃x4,σ=[some (.ref a),some (.ref f),some (.ref d),some (.ref p),x4]/\∃A,Wy H HX d p S F A []) (λN1 hN=>?_) ?_
 ·refine⟨λm σ HX=>(∃x4,σ=[some (.ref a),some (.ref f),some (.ref d),some (.ref p),x4])/\∃A W,Wy H HX d p S F A W/\m=(512-A.length)*10+W.length/\m<=5220,⟨_,⟨none,rfl⟩,[],S,⟨[],(e0.trans (AG.new hp _)),λl hl=>qG hl X7,?_,Ed.nil,AC,X7,F9.start⟩,rfl,by rw[aC];lia⟩,?_⟩
  ·rw[AK pd];exact AC
  rintro m σ HX ⟨⟨x4,rfl⟩,A,W,⟨ls,eX,ln,hdX,gX,hpX,np,rc⟩,rfl,m5⟩;obtain⟨lA,lW⟩:=low rc;have cA:=C8 rc.nd lA;refine⟨_,rfl,p,_,rfl,.inl (Ad.of hpX),_,_,rfl,rfl,_,rfl,?_⟩;rw[Xk]
  by_cases z:W=[]
  ·subst z;rw[qE (by decide)];exact hN _ _ ⟨_,rfl,A,ls,eX,ln,hdX,gX,hpX,np,rc⟩
  obtain⟨W',x,rfl⟩:=MM z;rw[qF (by rw[Xp,YO];exact qH (by lia))];refine⟨λσ' H'=>∃m',m'<(512-A.length)*10+(W'++[x]).length/\((∃x4,σ'=[some (.ref a),some (.ref f),some (.ref d),some (.ref p),x4])/\∃A W,Wy H H' d p S F A W/\m'=(512-A.length)*10+W.length/\m'<=5220),λ_ _ h=>h,?_⟩;obtain⟨x0,x1⟩:=lW x (Xq.mpr (.inr (Xl.mpr rfl)));obtain⟨fx9,fxl⟩:=lF x x0 x1;refine A7 λN2 hN2=>?_;refine⟨_,rfl,.inl ⟨rfl,_,Ad.of hpX⟩,p,_,.int x,rfl,rfl,hpX,?_,?_⟩
  ·rw[Xk,Xp,YO,ZR,Xu,X4 (Xr _),Yq];rfl
  rw[show ((W'++[x]).map V.int).dropLast=W'.map V.int by rw[Xv,Yj,aU,List.dropLast_concat]];refine hN2 _ _ ?_;clear hN2 N2;have pn:H p=none:=e0.free hp;have dX2:Aj HX p (.lst (W'.map V.int)) d=some (.dK (Au A (ls.map V.ref))):=by rw[AK pd];exact hdX
  have eX2:AG H (Aj HX p (.lst (W'.map V.int))):=eX.into pn;have gX2:=gX.keep np (.lst (W'.map V.int));have pX2:Aj HX p (.lst (W'.map V.int)) p=some (.lst (W'.map V.int)):=AC;generalize Aj HX p (.lst (W'.map V.int))=HY at dX2 eX2 gX2 pX2⊢;clear hdX eX gX hpX HX hp;have rl:(ls.map V.ref).length=A.length:=by rw[Xk];exact gX2.n
  refine⟨_,rfl,_,rfl,d,_,rfl,DZ.k (k:=Sum.inl x) dX2,_,rfl,?_⟩;rw[Ec rl rc.nd]
  by_cases m:x∈A
  ·rw[qH m];rw[Xp,YO]at m5⊢;exact OZ ⟨_,by lia,⟨_,rfl⟩,A,W',⟨ls,eX2,ln,dX2,gX2,pX2,np,rc.old m⟩,rfl,by lia⟩
  rw[qI m];refine Sj ?_;refine A7 λN2 hN2=>?_;refine⟨f,fd,ps,sp,oc,od,fd',sl',rfl,fok,fb,eX2 _ _ hf,_,rfl,eX2 _ _ hf,hsp x x0 x1 HY _ eX2 λl HZ eZ hl hlZ=>?_⟩
  have cA2:A.length<512:=by have nd2:=rc.next m;have:=C8 nd2.nd (low nd2).1;rw[Xp,YO]at this;lia
  refine⟨_,rfl,_,rfl,d,_,rfl,Lz.k (k:=Sum.inl x) (eZ _ _ dX2) (by rw[C7 rl];exact AZ (by lia)),hN2 _ _ ?_⟩;clear hN2 N2;rw[Ff rl m];have nl:=gX2.new hl;have ld:l≠d:=λz=>by rw[z,dX2]at hl;cases hl
  have lp:l≠p:=λz=>by rw[z,pX2]at hl;cases hl
  have dn:d∉ls:=gX2.out λxs z=>by rw[dX2]at z;cases z
  have gQ:=(gX2.same eZ).keep dn (.dK (Au (A++[x]) (ls.map V.ref++[V.ref l])));have lQ:Aj HZ d (.dK (Au (A++[x]) (ls.map V.ref++[V.ref l]))) l=some (.lst ((F x).map V.int)):=by rw[AK ld];exact hlZ
  have pQ:Aj HZ d (.dK (Au (A++[x]) (ls.map V.ref++[V.ref l]))) p=some (.lst (W'.map V.int)):=by rw[AK (Ne.symm pd)];exact eZ _ _ pX2
  have eQ:AG H (Aj HZ d (.dK (Au (A++[x]) (ls.map V.ref++[V.ref l])))):=(eX2.trans eZ).into hd;have dQ:Aj HZ d (.dK (Au (A++[x]) (ls.map V.ref++[V.ref l]))) d=some (.dK (Au (A++[x]) ((ls++[l]).map V.ref))):=by rw[AC,Xv];rfl
  generalize Aj HZ d (.dK (Au (A++[x]) (ls.map V.ref++[V.ref l])))=HQ at gQ lQ pQ eQ dQ⊢;have gQ2:=gQ.snoc nl lQ;have rl2:((ls++[l]).map V.ref).length=(A++[x]).length:=by rw[Xk];exact gQ2.n
  refine⟨_,rfl,.inl ⟨rfl,_,Ad.of pQ⟩,_,rfl,_,rfl,d,_,rfl,?_,p,l,_,_,rfl,rfl,pQ,lQ,?_,?_⟩
  ·have:=DZ.k (k:=Sum.inl x) dQ;rw[Bw (rc.next m).nd (i:=A.length) (by rw[X4 (Xr _),Yq];rfl) (v:=.ref l) (by rw[Xu,X4 (by rw[gQ.n];exact Xr _),gQ.n,Yq];rfl)]at this;exact this
  ·rw[Xp,YO]at m5;rw[Xk,Xk,sizeLine_eq];lia
  ·rw[<-Xv];rw[Xp,YO]at m5⊢;have pl:p∉ls++[l]:=λz=>(Xq.mp z).elim np λz=>lp (Xl.mp z).symm
   refine⟨_,?_,⟨_,rfl⟩,A++[x],W'++F x,⟨ls++[l],eQ.into pn,λy hy=>?_,?_,gQ2.keep pl _,AC,pl,rc.next m⟩,rfl,?_⟩
   ·rw[Xp,Xp,YO];lia
   ·rcases Xq.mp hy with z|z
    ·exact ln y z
    ·rw[Xl.mp z];exact eX2.free hl
   ·rw[AK pd];exact dQ
   ·rw[Xp,Xp,YO];lia
 rintro σ HX ⟨x4,rfl,A,ls,eX,ln,hdX,gX,hpX,np,rc⟩;walk_at "rd";exact q d HX ls A eX hd ln hdX gX rc.done (low rc).1
theorem NJ:AL ["nexts","ahead","here","come"] ["nexts"] (AH T3):=Cc (by decide +kernel)
theorem V9(T:CU K mg t) :A5 P w K mg base 1 t.f_14 ["nexts"] (Js):=by
 refine BH T.d_14 NJ (λ_ _ _ _ _ _=>b1 λ_=>rfl) λvs H Q E h=>?_;obtain⟨d,ls,A0,F,rfl,dr,gr,nd,cl,lA,lF,q⟩:=h;refine⟨rfl,λcdv A outer s hr=>?_⟩
 refine⟨_,(AD (AR 1 NJ Fd)
  (AD (BM PassesOwn.never rfl (Pg (pv 0)) (Be 2 NJ) (AD (BF (CQ Ze Zl PySem.F.type_dict_setdefault He (pv 1) (AA (pv 2) (AA (BV AB) AB))))
  (AE (BM PassesOwn.never rfl (BZ (D3 (Cj hr) (pv 0) (pv 2) (λ_ _=>rfl))) (Be 3 NJ) (AE (BF (CQ YB YM YN BR (CQ Ze Zl PySem.F.type_dict_setdefault He (pv 1) (AA (pv 3) (AA (BV AB) AB))) (AA (pv 2) AB))))))))
  (AE (AO (pv 1))))),?_⟩
 refine A7 λN hN=>?_;intro d2 hd2;refine hN _ _ ?_;clear hN N;have e0:=AG.new hd2 (.dK []);obtain⟨u0,hu0,nu0⟩:=dr.is;have nd2:d≠d2:=λe=>by rw[e,hd2]at hu0;cases hu0
 refine Ck (λσ HX=>(∃x2 x3,σ=[some (.ref d),some (.ref d2),x2,x3])/\∃o A2 B,AG (Aj H d (.frz o (.dK (Au A0 (ls.map V.ref))))) HX/\RG H HX d2 A2 B/\Jq A0 F A2 B) (λN hN=>?_) ?_
 ·have dr0:Rd (Aj H d2 (.dK [])) d (.dK (Au A0 (ls.map V.ref))):=by
   rcases dr with r|⟨o,r⟩
   ·exact .inl (e0 _ _ r)
   ·exact .inr ⟨o,e0 _ _ r⟩
  refine⟨_,rfl,d,_,rfl,dr0,λo=>?_⟩;obtain⟨U,hU⟩:∃U,U=HO.frz o (.dK (Au A0 (ls.map V.ref))):=⟨_,rfl⟩;rw[<-hU];have eF:=e0.bothI d U;have dF:Aj (Aj H d2 (.dK [])) d U d=some U:=AC;have dn:d∉ls:=gr.out λxs z=>by rw[hu0]at z;exact nu0 xs (Option.some.inj z)
  have gF:=(gr.same e0).keep dn U;have aF:RG H (Aj (Aj H d2 (.dK [])) d U) d2 [] (λ_=>[]):=⟨[],λl hl=>qG hl X7,by rw[AK (Ne.symm nd2)];exact AC,Ed.nil⟩;generalize Aj (Aj H d2 (.dK [])) d U=HF at eF dF gF aF⊢;have uU:∀{HX:Hp},AG (Aj H d U) HX->HX d=some U:=λe=>e _ _ AC
  refine N4 (d:=d) (o:=o) (kvs:=Au A0 (ls.map V.ref)) (λi σ HX=>(∃x2 x3,σ=[some (.ref d),some (.ref d2),x2,x3])/\AG (Aj H d U) HX/\Ed HX ls A0 F/\∃A2 B,RG H HX d2 A2 B/\Hk A0 F i (λ_ _=>False) (i*9) A2 B) ⟨⟨none,none,rfl⟩,eF,gF,[],λ_=>[],aF,Hk.start⟩ (λi σ HX _ z=>by rw[<-hU];exact uU z.2.1) ?_ ?_
  ·rintro i k v σ HX hk ⟨⟨x2,x3,rfl⟩,eX,gX,A2,B,aX,tX⟩;obtain⟨a,ha,hv,rfl⟩:=RF hk;rw[Xu]at hv;obtain⟨l,hl,rfl⟩:=Ys.mp hv;have aA:a∈A0:=X3 ha;have i5:i<=512:=by have:=(Xo.mp ha).1;lia
   have lA2:∀{A2:List Int} {B:Int->List Int} {D:Int->Int->Prop} {n:Nat},Hk A0 F i D n A2 B->A2.length<=512:=λt=>YK (t.nd.length_le_of_subset t.sub) lA
   have Hn:∀{HX:Hp} {l:Addr},AG (Aj H d U) HX->HX l=none->H l=none:=λ{HX l} e z=>by have y:=e.free z;rw[AK λx=>by rw[x,AC]at y;cases y]at y;exact y
   have hd2':Aj H d U d2=none:=by rw[AK (Ne.symm nd2)];exact hd2
   have frn:∀{l:Addr},H l=none->Aj H d U l=none:=λ{l} h=>by rw[AK λz=>by rw[z,hu0]at h;cases h];exact h
   refine Ck (λσ HY=>(∃x3,σ=[some (.ref d),some (.ref d2),some (.int a),x3])/\AG (Aj H d U) HY/\Ed HY ls A0 F/\∃A2 B,RG H HY d2 A2 B/\Hk A0 F i (λ_ _=>False) (i*9) A2 B/\a∈A2) (λN2 hN2=>?_) ?_
   ·obtain⟨ls2,ln,wX,g2⟩:=aX;have rl:(Au A2 (ls2.map V.ref)).length=A2.length:=C7 (by rw[Xk];exact g2.n);refine⟨_,rfl,.inr (.inr (.inl ⟨rfl,.inl ⟨_,wX⟩⟩)),_,rfl,by decide,λl' hl'=>?_⟩;have f1:=AG.new hl' (.lst []);have h0:=Hn eX hl';have nl:=g2.new hl';have lY:Aj HX l' (.lst []) l'=some (.lst []):=AC;have eY:=eX.trans f1;have gY:=gX.same f1;have wY:=f1 _ _ wX;have g2Y:=g2.same f1;generalize Aj HX l' (.lst [])=HY at lY eY gY wY g2Y⊢;refine⟨d2,_,Sum.inl a,.ref l',rfl,rfl,wY,by rw[rl];have:=lA2 tX;exact AZ (by lia),λz hz=>hN2 _ _ ⟨⟨_,rfl⟩,eY,gY,A2,B,⟨ls2,ln,wY,g2Y⟩,tX,?_⟩,λhz=>hN2 _ _ ?_⟩
    ·by_cases m:a∈A2
     ·exact m
     ·rw[Ce m]at hz;cases hz
    ·have m:a∉A2:=λm=>by
      have y:=Ec (a:=a) (vs:=ls2.map V.ref) (by rw[Xk];exact g2.n) tX.nd;rw[hz,qH m]at y;cases y
     have d2n:d2∉ls:=gY.out λxs z=>by rw[wY]at z;cases z
     exact⟨⟨_,rfl⟩,eY.into hd2',gY.keep d2n _,A2++[a],B,⟨_,RG.put ln wY g2Y lY nl h0 m (tX.no a m)⟩,tX.key m aA,Xq.mpr (.inr (Xl.mpr rfl))⟩
   clear tX aX eX gX;rintro σ HY ⟨⟨x3,rfl⟩,eX,gX,A2,B,aX,tX,mA⟩;have hps:=gX.e i a l ha hl;have fa:=lF a aA;refine⟨_,rfl,_,rfl,d,.ref l,rfl,.inl ⟨_,Sum.inl a,.inr ⟨o,by rw[<-hU];exact uU eX⟩,rfl,?_⟩,l,rfl,⟨_,Ad.of hps⟩,?_⟩
   ·rw[Bw nd ha (by rw[Xu,hl];rfl)]
   refine B8 (xs:=(F a).map V.int) (λj σ HZ=>(∃x3,σ=[some (.ref d),some (.ref d2),some (.int a),x3])/\AG (Aj H d U) HZ/\Ed HZ ls A0 F/\∃A2 B,RG H HZ d2 A2 B/\Hk A0 F i (λp q=>q=a/\p∈(F a).take j) (i*9+j) A2 B/\a∈A2) ⟨⟨_,rfl⟩,eX,gX,A2,B,aX,tX.inner a,mA⟩ (λj σ HZ _ z=>Ad.of (z.2.2.1.e i a l ha hl)) ?_ ?_
   ·clear tX aX eX gX mA hps;rintro j x σ HZ hx ⟨⟨x3,rfl⟩,eX,gX,A2,B,⟨ls2,ln,wX,g2⟩,tX,mA⟩;obtain⟨p0,hp0,rfl⟩:=By hx;have p0A:p0∈A0:=cl a aA p0 (X3 hp0);have j9:j<9:=by have:=(Xo.mp hp0).1;lia
    have rl:(Au A2 (ls2.map V.ref)).length=A2.length:=C7 (by rw[Xk];exact g2.n)
    have app:∀(HQ:Hp) (A2:List Int) (ls2:List Addr) (j2:Nat) (l2:Addr),AG (Aj H d U) HQ->Ed HQ ls A0 F->(∀l∈ls2,H l=none)->HQ d2=some (.dK (Au A2 (ls2.map V.ref)))->Ed HQ ls2 A2 B->Hk A0 F i (λp q=>q=a/\p∈(F a).take j) (i*9+j) A2 B->a∈A2->A2[j2]?=some p0->ls2[j2]?=some l2 ->
      HQ l2=some (.lst ((B p0).map V.int))/\((B p0).map V.int).length<sizeLine/\∃HW,HW=Aj HQ l2 (.lst ((B p0).map V.int++[V.int a]))/\AG (Aj H d U) HW/\Ed HW ls A0 F/\∃A2 B,RG H HW d2 A2 B/\Hk A0 F i (λp q=>q=a/\p∈(F a).take (j+1)) (i*9+(j+1)) A2 B/\a∈A2:=by
     intro HQ A2 ls2 j2 l2 e h4 ln w2 g2 t m hj2 hl2;have hq:=g2.e j2 p0 l2 hj2 hl2;have ml:=X3 hl2;have h0:=ln l2 ml;have nl:l2∉ls:=gr.new h0;have lb:=t.len p0;have tp:=t.push hp0 (X3 hj2);rw[ao]at tp;refine⟨hq,by rw[Xk,sizeLine_eq];lia,_,rfl,?_⟩;rw[show (B p0).map V.int++[V.int a]=(B p0++[a]).map V.int by rw[Xv];rfl];refine⟨e.into (frn h0),h4.keep nl _,A2,_,⟨ls2,ln,?_,g2.push t.nd hj2 hl2⟩,tp,m⟩;rw[AK (MW w2 hq λz=>by cases z)];exact w2
    refine⟨_,rfl,.inr (.inr (.inl ⟨rfl,.inl ⟨_,wX⟩⟩)),_,rfl,by decide,λl' hl'=>?_⟩;have f1:=AG.new hl' (.lst []);have h0:=Hn eX hl';have nl:=g2.new hl';have lY:Aj HZ l' (.lst []) l'=some (.lst []):=AC;have eY:=eX.trans f1;have gY:=gX.same f1;have wY:=f1 _ _ wX;have g2Y:=g2.same f1;generalize Aj HZ l' (.lst [])=HY at lY eY gY wY g2Y⊢;refine⟨d2,_,Sum.inl p0,.ref l',rfl,rfl,wY,by rw[rl];have:=lA2 tX;exact AZ (by lia),λz hz=>?_,λhz=>?_⟩
    ·have m:p0∈A2:=by
      by_cases m:p0∈A2
      ·exact m
      ·rw[Ce m]at hz;cases hz
     obtain⟨j2,hj2⟩:=Eb m;obtain⟨l2,hl2⟩:=Hj g2Y.n hj2;rw[Bw tX.nd hj2 (v:=.ref l2) (by rw[Xu,hl2];rfl)]at hz;cases hz;obtain⟨h1,h2,HW,hW,h3⟩:=app HY A2 ls2 j2 l2 eY gY ln wY g2Y tX mA hj2 hl2;refine⟨.inl ⟨rfl,_,Ad.of h1⟩,_,rfl,l2,_,_,rfl,rfl,h1,h2,⟨_,rfl⟩,?_⟩;rw[<-hW];exact h3
    ·have m:p0∉A2:=λm=>by
      have y:=Ec (a:=p0) (vs:=ls2.map V.ref) (by rw[Xk];exact g2.n) tX.nd;rw[hz,qH m]at y;cases y
     have d2n:d2∉ls:=gY.out λxs z=>by rw[wY]at z;cases z
     obtain⟨k1,k2,k3⟩:=RG.put ln wY g2Y lY nl h0 m (tX.no p0 m);obtain⟨h1,h2,HW,hW,h3⟩:=app _ (A2++[p0]) (ls2++[l']) A2.length l' (eY.into hd2') (gY.keep d2n _) k1 k2 k3 (tX.key m p0A) (Xq.mpr (.inl mA)) (by rw[X4 (Xr _),Yq];rfl) (by rw[X4 (by rw[g2.n];exact Xr _),g2.n,Yq];rfl);refine⟨.inl ⟨rfl,_,Ad.of h1⟩,_,rfl,l',_,_,rfl,rfl,h1,h2,⟨_,rfl⟩,?_⟩;rw[<-hW];exact h3
   ·rintro σ HZ ⟨⟨x3,rfl⟩,eX,gX,A2,B,aX,tX,mA⟩;rw[Xk]at tX;exact⟨⟨_,_,rfl⟩,eX,gX,A2,B,aX,tX.outer ha mA (by lia)⟩
  ·rintro σ HX ⟨⟨x2,x3,rfl⟩,eX,gX,A2,B,aX,tX⟩;rw[C7 (by rw[Xk];exact gr.n)]at tX;exact hN _ _ ⟨⟨_,_,rfl⟩,o,A2,B,by rw[<-hU];exact eX,aX,tX.done (by lia)⟩
 rintro σ HX ⟨⟨x2,x3,rfl⟩,o,A2,B,eX,⟨ls2,ln,wX,g2⟩,tI⟩;walk_at "rd";exact q o HX d2 ls2 A2 B eX hd2 ln wX g2 tI
theorem Jy:AL ["nexts","ends","ahead","left","found","steps","further","come"] ["nexts","ends"] (AH W7):=Cc (by decide +kernel)
theorem XN(T:CU K mg t)(G_14:A5 P w K mg base 1 t.f_14 ["nexts"] (Js)):A5 P w K mg base 2 t.f_5 ["nexts","ends"] (Jt):=by
 refine BH T.d_5 Jy (λ_ _ _ _ _ _=>b2 λ_ _=>rfl) λvs H Q E h=>?_;obtain⟨d,e,ls,A0,F,E0,rfl,dr,gr,nd,cl,lA,lF,he,lE,q⟩:=h;refine⟨rfl,λcdv A outer s hr=>?_⟩
 refine⟨_,(AD (AR 2 Jy (Aa hr G_14 T.m_14 (AA (pv 0) AB)))
  (AD (AR 3 Jy Fd)
  (AD (AR 4 Jy (pv 1))
  (AD (AR 5 Jy AF)
  (AD (CG PassesOwn.never (AN EB (AV AJ rfl T.z_len X5 (AA (pv 4) AB)) AF (AU _)) (AD (AR 6 Jy (BV AB))
  (AD (BM PassesOwn.never rfl (BZ (pv 4)) (Be 7 Jy) (AE (BE (JD (Ep (Cj hr) (pv 7) (pv 3))) (AD (Jm (Cj hr) (pv 3) (pv 7) (pv 5) rfl)
  (AE (BF (CQ YB PySem.F.slot_list_extend PySem.F.type_list_extend IV (pv 6) (AA (PP (Cj hr) (pv 2) (pv 7) (BV AB) ⟨rfl,rfl,rfl,rfl⟩) AB))))) Af)))
  (AD (AR 4 Jy (pv 6))
  (AE (AR 5 Jy (AI A8 (pv 5) AF)))))))
  (AE (AO (pv 3)))))))),?_⟩
 refine A7 λN hN=>?_;walk_at "rd";refine⟨d,ls,A0,F,rfl,dr,gr,nd,cl,lA,lF,λo H1 d1 ls1 A1 B e1 hd1 hls1 w1 g1 ti=>hN _ _ ?_⟩;clear hN N;obtain⟨u0,hu0,nu0⟩:=dr.is;have he1:H1 e=some (.lst (E0.map V.int)):=e1 _ _ (by rw[AK λz=>by rw[z,hu0]at he;exact nu0 _ (Option.some.inj he)];exact he)
 have fr1:∀{l:Addr},H1 l=none->H l=none:=λ{l} h=>by have y:=e1.free h;rw[AK λx=>by rw[x,AC]at y;cases y]at y;exact y
 refine A7 λN hN=>?_;intro d2 hd2;refine hN _ _ ?_;clear hN N;have e2:=AG.new hd2 (.dK (Dc [] λ_=>0));refine A7 λN hN=>?_;walk_at "rd";refine hN _ _ ?_;clear hN N;refine A7 λN hN=>?_;walk_at "rd";refine hN _ _ ?_;clear hN N;refine Ck (λσ HX=>(∃x4 x5 x6 x7,σ=[some (.ref d),some (.ref e),some (.ref d1),some (.ref d2),x4,x5,x6,x7])/\AG H1 HX/\∃M f,HX d2=some (.dK (Dc M f))/\Ee A0 F E0 M f) (λN hN=>?_) ?_
 ·refine⟨λm σ HX=>∃(p:Addr) (n:Nat) (L M:List Int) (f:Int->Nat),(∃x6 x7,σ=[some (.ref d),some (.ref e),some (.ref d1),some (.ref d2),some (.ref p),some (.int ((n:Nat):Int)),x6,x7])/\AG H1 HX/\HX d2=some (.dK (Dc M f))/\HX p=some (.lst (L.map V.int))/\Jr A0 F E0 M f n L []/\m=2*(A0.length+E0.length-M.length)+(if L=[] then 0 else 1),⟨_,e,0,E0,[],λ_=>0,⟨none,none,rfl⟩,e2,AC,e2 _ _ he1,Jr.start,rfl⟩,?_⟩;rintro m σ HX ⟨p,n,L,M,f,⟨x6,x7,rfl⟩,eX,hX,hpX,fw,rfl⟩;refine⟨_,rfl,p,_,rfl,.inl (Ad.of hpX),_,_,rfl,rfl,_,rfl,?_⟩;rw[Xk]
  by_cases z:L=[]
  ·subst z;rw[qE (by decide)];exact hN _ _ ⟨⟨_,_,_,_,rfl⟩,eX,M,f,hX,fw.done⟩
  dsimp only;rw[qF (qH (by have:=List.length_pos_iff.mpr z;lia)),qE z];refine⟨λσ' H'=>∃m',m'<2*(A0.length+E0.length-M.length)+1/\∃(p:Addr) (n:Nat) (L M:List Int) (f:Int->Nat),(∃x6 x7,σ'=[some (.ref d),some (.ref e),some (.ref d1),some (.ref d2),some (.ref p),some (.int ((n:Nat):Int)),x6,x7])/\AG H1 H'/\H' d2=some (.dK (Dc M f))/\H' p=some (.lst (L.map V.int))/\Jr A0 F E0 M f n L []/\m'=2*(A0.length+E0.length-M.length)+(if L=[] then 0 else 1),λ_ _ h=>h,?_⟩;refine A7 λN2 hN2=>?_;walk_at "rd";refine⟨by decide,λr hr'=>hN2 _ _ ?_⟩;clear hN2 N2;have e3:=AG.new hr' (.lst []);have rp:p≠r:=λz=>by rw[<-z,hpX]at hr';cases hr'
  have rd2:d2≠r:=λz=>by rw[<-z,hX]at hr';cases hr'
  have rH:H1 r=none:=eX.free hr';refine Ck (λσ HY=>(∃x7,σ=[some (.ref d),some (.ref e),some (.ref d1),some (.ref d2),some (.ref p),some (.int ((n:Nat):Int)),some (.ref r),x7])/\Wz H1 HY d2 r A0 F E0 M n []) (λN2 hN2=>?_) ?_
  ·refine⟨_,rfl,p,rfl,⟨_,Ad.of (e3 _ _ hpX)⟩,?_⟩;refine B8 (xs:=L.map V.int) (λi σ HY=>(∃x7,σ=[some (.ref d),some (.ref e),some (.ref d1),some (.ref d2),some (.ref p),some (.int ((n:Nat):Int)),some (.ref r),x7])/\HY p=some (.lst (L.map V.int))/\Wz H1 HY d2 r A0 F E0 M n (L.drop i)) ⟨⟨_,rfl⟩,e3 _ _ hpX,M,f,[],eX.trans e3,e3 _ _ hX,AC,YS _,.inl rfl,Xr _,fw⟩ (λi σ HY _ z=>Ad.of z.2.1) ?_ ?_
   ·rintro i x σ HY hx ⟨⟨x7,rfl⟩,hpY,M1,f1,R,eY,hY,hrY,lR,nR,mM,fw1⟩;obtain⟨x,hxi,rfl⟩:=By hx;have hdr:L.drop i=x::L.drop (i+1):=by have:=(Xo.mp hxi);rw[Y0 this.1,this.2]
    rw[hdr]at fw1;dsimp only[FR];refine⟨_,rfl,_,rfl,d2,_,rfl,DZ.k (k:=Sum.inl x) hY,_,rfl,?_⟩;rw[Ec (by rw[Xk]) fw1.nd]
    by_cases m:x∈M1
    ·rw[qH m];exact OZ ⟨⟨_,rfl⟩,hpY,M1,f1,R,eY,hY,hrY,lR,nR,mM,fw1.skip m⟩
    rw[qI m];refine Sj ?_;have few:=fw1.few;refine A7 λN3 hN3=>?_;refine⟨_,rfl,_,rfl,_,rfl,d2,_,rfl,Lz.k (k:=Sum.inl x) hY (by rw[Pq,sizeLine_eq];lia),hN3 _ _ ?_⟩;clear hN3 N3;rw[Pr m];have fw2:=fw1.take m (B:=B) λq=>ti.on x q
    have few2:=fw2.few;have pd2:p≠d2:=MW hpY hY λz=>by cases z
    have eQ:AG H1 (Aj HY d2 (.dK (Dc (M1++[x]) (λp=>if p∈M1 then f1 p else n)))):=eY.into hd2;have dQ:Aj HY d2 (.dK (Dc (M1++[x]) (λp=>if p∈M1 then f1 p else n))) d2=some (.dK (Dc (M1++[x]) (λp=>if p∈M1 then f1 p else n))):=AC;have pQ:Aj HY d2 (.dK (Dc (M1++[x]) (λp=>if p∈M1 then f1 p else n))) p=some (.lst (L.map V.int)):=by rw[AK pd2];exact hpY
    have rQ:Aj HY d2 (.dK (Dc (M1++[x]) (λp=>if p∈M1 then f1 p else n))) r=some (.lst (R.map V.int)):=by rw[AK (Ne.symm rd2)];exact hrY
    generalize Aj HY d2 (.dK (Dc (M1++[x]) (λp=>if p∈M1 then f1 p else n)))=HQ at eQ dQ pQ rQ⊢;refine⟨_,rfl,.inl ⟨rfl,_,Ad.of rQ⟩,_,rfl,d1,rfl,.inl ⟨_,.inl (eQ _ _ w1)⟩,_,rfl,by decide,λz hz=>?_⟩;have f4:=AG.new hz (.lst []);have zr:Aj HQ z (.lst []) z=some (.lst ([].map V.int)):=AC;have eZ:=eQ.trans f4;have rl:(ls1.map V.ref).length=A1.length:=by rw[Xk];exact g1.n
    have fin:∀(l2:Addr),Aj HQ z (.lst []) l2=some (.lst ((B x).map V.int))->∃(l b:Addr) (xs zs:List V),V.ref r=.ref l/\[V.ref l2]=[.ref b]/\Aj HQ z (.lst []) l=some (.lst xs)/\Aj HQ z (.lst []) b=some (.lst zs)/\xs.length+zs.length<=sizeLine/\((∃x7,[some (V.ref d),some (.ref e),some (.ref d1),some (.ref d2),some (.ref p),some (.int ((n:Nat):Int)),some (.ref r),some (.int x)]=[some (.ref d),some (.ref e),some (.ref d1),some (.ref d2),some (.ref p),some (.int ((n:Nat):Int)),some (.ref r),x7])/\Aj (Aj HQ z (.lst [])) l (.lst (xs++zs)) p=some (.lst (L.map V.int))/\Wz H1 (Aj (Aj HQ z (.lst [])) l (.lst (xs++zs))) d2 r A0 F E0 M n (L.drop (i+1))):=by
     intro l2 h2;have lb:=ti.len x;refine⟨r,l2,_,_,rfl,rfl,f4 _ _ rQ,h2,by rw[Xk,Xk,sizeLine_eq];lia,⟨_,rfl⟩,by rw[AK rp];exact f4 _ _ pQ,M1++[x],_,R++B x,eZ.into rH,by rw[AK rd2];exact f4 _ _ dQ,by rw[AC,Xv],?_,.inr ?_,?_,fw2⟩
     ·rw[Xp,Xp,YO];lia
     ·rw[Xp,YO];lia
     ·rw[Xp];lia
    by_cases mA:x∈A1
    ·obtain⟨j,hj⟩:=Eb mA;obtain⟨l2,hl2⟩:=Hj g1.n hj;refine⟨some (.ref l2),.inl ⟨_,Sum.inl x,.inl (eZ _ _ w1),rfl,?_⟩,?_⟩
     ·rw[Bw ti.nd hj (by rw[Xu,hl2];rfl)]
     ·exact fin l2 (eZ _ _ (g1.e j x l2 hj hl2))
    ·refine⟨none,.inl ⟨_,Sum.inl x,.inl (eZ _ _ w1),rfl,?_⟩,?_⟩
     ·rw[Ce mA]
     ·refine fin z ?_;have bn:B x=[]:=List.eq_nil_iff_forall_not_mem.mpr λy hy=>by obtain⟨h1,h2⟩:=(ti.on x y).mp hy;exact mA ((ti.all x).mpr (cl y h1 x h2))
      rw[bn];exact zr
   ·rintro σ HY ⟨⟨x7,rfl⟩,_,fv⟩;rw[Xk,ah]at fv;exact hN2 _ _ ⟨⟨_,rfl⟩,fv⟩
  rintro σ HY ⟨⟨x7,rfl⟩,M1,f1,R,eY,hY,hrY,lR,nR,mM,fw1⟩;have few:=fw1.few;refine A7 λN3 hN3=>?_;walk_at "rd";refine hN3 _ _ ?_;clear hN3 N3;refine⟨_,rfl,_,_,rfl,rfl,_,?_,r,n+1,R,M1,f1,⟨_,_,rfl⟩,eY,hY,hrY,fw1.round,rfl⟩
  by_cases z:R=[]
  ·rw[qF z];lia
  ·rw[qE z];have:=nR.resolve_left z;lia
 rintro σ HX ⟨⟨x4,x5,x6,x7,rfl⟩,eX,M,f,hX,fw⟩;walk_at "rd";exact q o HX d2 M f (e1.trans eX) (fr1 hd2) hX fw
theorem UU:AL ["one","framed","singles"] ["one"] (AH W8):=Cc (by decide +kernel)
theorem XO(T:CU K mg t)(hB:Hf mg base)(G_54:A5 P w K mg base 8 t.f_54 ["one"] (Gm t.c_39))(G_7:A5 P w K mg base 3 t.f_7 ["framed"] (F7))(G_42:A5 P w K mg base 3 t.f_42 ["starts","nexts_of"] (GA P w K mg base 2))(G_23:A5 P w K mg base 10 t.f_23 ["one"] (Gn t.c_39))(G_43:A5 P w K mg base 1 t.f_43 ["singles","some","sign"] (Hd)):A5 P w K mg base 11 t.f_6 ["one"] (Gp t.c_39 LP t.p_6):=by
 refine VT T.d_6 UU (λ_ _ _ _ _ _=>b1 λ_=>rfl) λvs H Q E h=>?_;obtain⟨r,g,lo,tab,m,lf,tf,mf,rfl,ok,fw,tb,hsm,hbig⟩:=h;refine⟨rfl,λA outer s hr=>?_⟩
 refine⟨_,(AD (AR 1 UU (BO G_54 (hr.mono (by decide)) rfl T.m_54 Ax (AA (pv 0) AB)))
  (AD (AR 2 UU (Aa hr G_7 T.m_7 (AA (pv 1) AB)))
  (AE (AO (Pn (cl:=[("singles",_),("framed",_)]) (is:=[2,1]) G_42 (hr.mono (by decide)) rfl T.m_42 (AA (BV (AA (BO G_23 (hr.mono (by decide)) rfl T.m_23 Ax (AA (pv 1) AB)) AB)) (AA (TM (clos:=[("singles",_),("framed",_)]) hB rfl T.hd_6 (by with_unfolding_all rfl) rfl) AB)) (.cons ⟨rfl,rfl,by with_unfolding_all rfl,rfl⟩ (.cons ⟨rfl,rfl,by with_unfolding_all rfl,rfl⟩ .nil))))))),?_⟩
 have g2:=ok.g2;have g9:=ok.g9;obtain⟨hn,hl⟩:=Cn g2 ok.len fw;refine A7 λN hN=>?_;walk_at "rd";refine⟨r,g,lo,tab,m,lf,tf,mf,rfl,ok,fw,λs9 r1 H1 e1 ok1=>hN _ _ ?_,hbig⟩;clear hN N;have h9:tf.length/g.toNat<=9:=by lia
 refine A7 λN hN=>?_;walk_at "rd";refine⟨r1,g,lf,tf,mf,rfl,ok1,h9,λp ps H2 e2 sl=>hN _ _ ?_⟩;clear hN N;have e12:=e1.trans e2;refine⟨[.ref p,.ref r1],.cons rfl (.cons rfl .nil),?_⟩;have fa:=Kx g2 ok.len fw;have hh:(g^(mf-1)).toNat=tf.length/g.toNat:=by rw[<-hn,Xy]
 refine⟨_,rfl,r1,g,lf,tf,mf,lf,tf,mf,rfl,ok1.same e2,fa,λ_ H3 e3=>⟨ZF (AZ (show 1<=1000 by decide)),λa ha=>?_⟩,λz=>by lia⟩;rw[hh];have e4:=AG.new ha (.lst [V.int (2^(tf.length/g.toNat)-1)]);have a4:Aj H3 a (.lst [V.int (2^(tf.length/g.toNat)-1)]) a=some (.lst ([AS g tf].map V.int)):=AC;have e24:=e3.trans e4;generalize Aj H3 a (.lst [V.int (2^(tf.length/g.toNat)-1)])=H4 at e4 a4 e24⊢;clear ha;have e14:=e12.trans e24;refine⟨tb.same e14,λf H5 s5 tb5 hf la=>?_⟩;obtain⟨pm,c',ctv,oc,l1,l2,l3⟩:=la;dsimp only[DN];intro H6 e6 n6 ck6 o6;have ab:=s5.get (tb.same e14) a4 (λ_ z=>by cases z);have ok5:=(ok1.same (e2.trans e24)).sameT s5 (tb.same e14);have sl5:=(sl.same e24).sameT s5 (tb.same e14);have ok6:=ok5.same e6;have sl6:=sl5.same e6;have s56:∀{HA:Hp},AG H6 HA->AG H5 (IF [("singles",s.heap.objs.size+1+1),("framed",s.heap.objs.size+1)] HA):=λeA=>Pk n6 (e6.trans eA)
 refine⟨a,f,[AS g tf],2^(tf.length/g.toNat),AQ g tf,rfl,Ad.of (e6 _ _ ab),(show 1<=100 by decide),Ef h9,λs hs=>by rw[Xl.mp hs];exact DI g tf,DG g9 tf,MN (k:=1) (x1:="some") (fns:=["singles","framed"]) (Ir.same ⟨pm,c',ctv,oc,l1,l2,l3⟩ e6) ck6 ⟨rfl,rfl,rfl,by decide,λx hx=>by rw[Xl.mp hx];exact .inr rfl,λx hx=>by rcases YA.mp hx with z|z;rw[z];rfl;rw[Xl.mp z];rfl,by decide +kernel,by decide +kernel⟩ rfl ?N (λ_ _ _=>b1 λ_=>rfl) λc2 A2 outer2 s2 HA x hr x0 x1 eA=>⟨_,(DE [(0,"some"),(1,"singles")] [("some",_),("singles",_)] (Ap rfl T.z_range (AA (AT Ai (pv 2) AF (λ_ _=>rfl)) AB)) (λ_ _ _ _=>Bz) (λ_ _ _ _=>(Aa hr G_43 T.m_43 (AA (pv 2) (AA (pv 1) (AA (pv 0) AB)))))),?B⟩,λd H7 ls A e7 hd hls hd7 g7 rp lA=>?_⟩
 case N=>exact Yl.mpr ⟨λz=>qG (Xl.mp z) (by show s.heap.objs.size+1+1≠s.heap.objs.size+1;lia),Yl.mpr ⟨X7,ZT⟩⟩
 case B =>
  intro QB qB;have eB:=s56 eA;obtain⟨tb',v1,v2⟩:=(ok5.same eB).v;have slB:=sl5.same eB;generalize IF [("singles",s.heap.objs.size+1+1),("framed",s.heap.objs.size+1)] HA=HB at eB v1 v2 slB qB⊢;refine⟨_,rfl,r1,_,0,_,rfl,rfl,Bi.of v1,rfl,_,rfl,by lia,by lia,λD hD=>?_⟩;refine BI (n:=g.toNat) (λi acc Hx=>acc=((List.range i).map λs:Nat=>Cw g.toNat tf (tf.length/g.toNat) x (s:Int)).map V.int/\AG HB Hx/\Hx D=some (.lst acc)) ⟨rfl,AG.new hD _,AC⟩ ?_ ?_
  ·rintro i acc Hx hi ⟨rfl,ex,hDx⟩;dsimp only[Oq];rw[qF rfl];refine⟨_,rfl,_,rfl,_,rfl,p,ps,g.toNat,tf,tf.length/g.toNat,x,i,?_,slB.same ex,x0,hi,λH8 e8=>⟨e8 _ _ hDx,?_,?_,(ex.trans e8).into hD,AC⟩⟩
   ·rw[YX];rfl
   ·rw[Xk,Xk,Xx];exact AZ (by lia)
   ·rw[A6,Xv];rfl
  ·rintro acc H8 ⟨rfl,e8,h8⟩;exact qB D _ e8 hD h8
 have e57:=s56 e7
 have out:∀{b:Addr},H6 b=none->b∉Bl [(("singles":Str),s.heap.objs.size+1+1),("framed",s.heap.objs.size+1)]:=λ{b} h z=>by obtain⟨_,_,_,y⟩:=ck6.at z;rw[h]at y;cases y
 have fr:∀{b:Addr},H6 b=none->H b=none:=λh=>e14.free (s5.free tb5 (e6.free h))
 exact hsm s9 d _ ls A ((e14.t.trans s5).trans e57.t) (tb5.same e57) (fr hd) (λl hl=>fr (hls l hl)) (by rw[Bp (out hd)];exact hd7) ⟨g7.n,g7.nd,λi b l h1 h2=>by rw[Bp (out (hls l (X3 h2)))];exact g7.e i b l h1 h2⟩ rp lA
theorem QI:AL ["one","nexts","left"] ["one"] (AH T4):=Cc (by decide +kernel)
theorem WA(T:CU K mg t)(G_6:A5 P w K mg base 11 t.f_6 ["one"] (Gp t.c_39 LP t.p_6))(G_5:A5 P w K mg base 2 t.f_5 ["nexts","ends"] (Jt)):A5 P w K mg base 12 t.f_13 ["one"] (Gr t.c_39 LP t.p_6):=by
 refine DD T.d_13 QI (λ_ _ _ _ _ _=>b1 λ_=>rfl) λvs H Q E h=>?_;obtain⟨r,g,lo,tab,m,lf,tf,mf,rfl,ok,fw,tb,hsm,hbig⟩:=h;refine⟨rfl,λcdv A outer s hr=>?_⟩
 refine⟨_,(AD (AR 1 QI (BO G_6 (hr.mono (by decide)) rfl T.m_6 Ax (AA (pv 0) AB)))
  (AD (AR 2 QI (Aa hr G_5 T.m_5 (AA (pv 1) (AA (BV (As AB)) AB))))
  (AE (AO (DE [(1,"nexts"),(2,"left")] [("nexts",_),("left",_)] (BZ (P3 rfl rfl T.z_sorted (AA (pv 1) AB) (QX EG Sd))) (λ_ _ _ _=>Bz) (λ_ _ _ _=>(Fp (AA (pv 0) (AA (D3 (Cj hr) (pv 1) (pv 0) (λ_ _=>rfl)) (AA (Ko (Cj hr) (pv 2) (pv 0) ⟨rfl,rfl,rfl,rfl⟩) AB)))))))))),?_⟩
 have g2:=ok.g2;have g9:=ok.g9;obtain⟨hn,hl⟩:=Cn g2 ok.len fw;refine A7 λN hN=>?_;walk_at "rd";refine⟨r,g,lo,tab,m,lf,tf,mf,rfl,ok,fw,tb,λs9 d H1 ls A s1 tb1 hd hls w1 g1 rp lA=>hN _ _ ?_,hbig⟩;clear hN N;have h9:tf.length/g.toNat<=9:=by lia
 have ok1:=ok.sameT s1 tb;have cA:A.length<=512:=YK (C8 rp.nd lA) (Ef h9);refine A7 λN hN=>?_;walk_at "rd";refine⟨by decide,λe he=>?_⟩;have e1:=AG.new he (.lst [V.int 0]);refine⟨d,e,ls,A,AQ g tf,[0],rfl,.inl (e1 _ _ w1),g1.same e1,rp.nd,rp.cl,cA,λa _=>by rw[Bq];lia,AC,by decide,λo H2 d2 M f e2 hd2 w2 fi=>hN _ _ ?_⟩;clear hN N;have s2:Bf t.p_6 H H2:=((s1.trans e1.t).into hd _).trans e2.t;have tb2:BQ LP (E1 "sets_reached") t.p_6 H2:=((tb1.same e1).into (e1 _ _ w1) (λ_ z=>by cases z) (λ_ z=>by cases z)).same e2;have dZ:H2 d=some (.frz o (.dK (Au A (ls.map V.ref)))):=e2 _ _ AC;have dn:d∉ls:=g1.out λxs z=>by rw[w1]at z;cases z
 have g2':=((g1.same e1).keep dn (.frz o (.dK (Au A (ls.map V.ref))))).same e2;walk_at "rd";refine⟨_,rfl,d,_,A,true,rfl,rfl,.inr ⟨o,dZ⟩,LA (by rw[Xk];exact g1.n),λl Z hl' pZ oZ=>⟨l,rfl,⟨_,Ad.of AC⟩,λD hD=>?_⟩⟩;have e3:=AG.new hl' (.lst (Z.map V.int));have z3:Aj H2 l (.lst (Z.map V.int)) l=some (.lst (Z.map V.int)):=AC;generalize Aj H2 l (.lst (Z.map V.int))=H3 at e3 z3 hD⊢;have s3:=s2.trans e3.t;have tb3:=tb2.same e3;have d3:=e3 _ _ dZ;have w3:=e3 _ _ w2;have g3:=g2'.same e3
 have nx:∀{HX:Hp} {x:Int},AG H3 HX->x∈A->∃l,DZ HX d (.int x) (some (.ref l))/\H3 l=some (.lst ((AQ g tf x).map V.int)):=λ{HX x} e hx=>by obtain⟨i,hi⟩:=Eb hx;obtain⟨l,hl⟩:=Hj g3.n hi;exact⟨l,.inl ⟨_,Sum.inl x,.inr ⟨o,e _ _ d3⟩,rfl,by rw[Bw rp.nd hi (by rw[Xu,hl];rfl)]⟩,g3.e i x l hi hl⟩
 have lZ:Z.length=A.length:=pZ.length_eq;refine CB (xs:=Z.map V.int) (λi acc Hx=>∃ts:List Addr,acc=ts.map V.ref/\ts.length=i/\AG H3 Hx/\Hx D=some (.lst acc)/\∀(j:Nat) (t:Addr) (z:Int),ts[j]?=some t->Z[j]?=some z->∃l,Hx t=some (.tup [.int z,.ref l,Ud (C9 M f z)])/\H3 l=some (.lst ((AQ g tf z).map V.int))) ⟨[],rfl,rfl,AG.new hD _,AC,λj t z h=>by simp at h⟩ (λi acc Hx _ z=>by obtain⟨_,_,_,e,_⟩:=z;exact Ad.of (e _ _ z3)) ?_ ?_
 ·rintro i v acc Hx hv ⟨ts,rfl,tl,ex,hDx,hts⟩;obtain⟨x,hx,rfl⟩:=By hv;have xi:=(Xo.mp hx).1;obtain⟨l2,dg,hl2⟩:=nx ex (pZ.mem_iff.mp (X3 hx));dsimp only[Oq];rw[qF rfl];refine⟨_,rfl,_,rfl,_,rfl,d,.ref l2,rfl,dg,_,rfl,d2,rfl,.inl ⟨_,.inl (ex _ _ w3)⟩,_,rfl,_,DZ.k (k:=Sum.inl x) (ex _ _ w3),ZF (AZ (show 3<=1000 by decide)),λt ht=>?_⟩;rw[RO fi.nd];have f4:=AG.new ht (.tup [V.int x,.ref l2,Ud (C9 M f x)]);have tD:D≠t:=λz=>by rw[<-z,hDx]at ht;cases ht
  refine⟨f4 _ _ hDx,by rw[Xk];exact AZ (by lia),ts++[t],by rw[Xv];rfl,by rw[Xp,tl];rfl,(ex.trans f4).into hD,AC,λj t' z h1 h2=>?_⟩
  by_cases jl:j<ts.length
  ·rw[YL jl]at h1;obtain⟨l,k1,k2⟩:=hts j t' z h1 h2;exact⟨l,by rw[AK λy=>by rw[y,hDx]at k1;cases k1];exact f4 _ _ k1,k2⟩
  ·rw[X4 (by lia)]at h1
   obtain⟨y1,y2⟩:j=ts.length/\t=t':=by
    rcases ZS (j-ts.length) with z|z
    ·rw[z]at h1;exact⟨by lia,Option.some.inj h1⟩
    ·rw[List.getElem?_eq_none (by simp only[List.length_singleton];lia)]at h1;cases h1
   subst y2;rw[y1,tl,hx]at h2;cases h2;exact⟨l2,by rw[AK (Ne.symm tD)];exact AC,hl2⟩
 ·rintro acc Hx ⟨ts,rfl,tl,ex,hDx,hts⟩;refine hsm s9 A M f Z rp fi pZ oZ D Hx (s3.trans ex.t) (tb3.same ex) (s3.free tb3 hD) ⟨ts,hDx,by rw[tl,Xk],λj t z h1 h2=>by obtain⟨l,k1,k2⟩:=hts j t z h1 h2;exact⟨l,k1,ex _ _ k2⟩⟩
theorem WB:AL ["one"] ["one"] (AH T5):=Cc (by decide +kernel)
theorem WC(T:CU K mg t)(G_13:A5 P w K mg base 12 t.f_13 ["one"] (Gr t.c_39 LP t.p_6)):A5 P w K mg base 13 t.f_58 ["one"] (MU t.c_39 LP t.p_6):=by
 refine DD T.d_58 WB (λ_ _ _ _ _ _=>b1 λ_=>rfl) λvs H Q E h=>?_;obtain⟨r,g,lo,tab,m,lf,tf,mf,rfl,ok,fw,tb,hsm,hbig⟩:=h;refine⟨rfl,λcdv A outer s hr=>?_⟩;refine⟨_,(AE (AO (Ej OV (AT Ai (AT An (BO G_13 (hr.mono (by decide)) rfl T.m_13 Ax (AA (pv 0) AB)) AF (λ_ _=>rfl)) AF (λ_ _=>rfl)) EH (AU _)))),?_⟩;walk_at "rd";refine⟨r,g,lo,tab,m,lf,tf,mf,rfl,ok,fw,tb,λs9 A M f Z rp fi pZ oZ p H1 s1 tb1 hp pv=>?_,hbig⟩;have g2:=ok.g2;have g9:=ok.g9
 obtain⟨Z',rfl⟩:=MV g2 rp (λa ha=>by
  have z:=(rp.co a ha).low (N:=2^(tf.length/g.toNat)) (λs hs=>by rw[Xl.mp hs];exact DI g tf) (λx h1 h2 y hy=>((DG g9 tf) x h1 h2).2 y hy);refine⟨z.1,?_⟩;unfold AS;have y:(2:Int)^(tf.length/g.toNat)=((2^(tf.length/g.toNat):Nat):Int):=by rw[ZY];rfl
  lia) pZ oZ
 obtain⟨ts,h1,h2,h3⟩:=pv
 obtain⟨t0,ts',rfl⟩:∃t0 ts',ts=t0::ts':=by
  cases ts with
  |nil=>simp at h2
  |cons a b=>exact⟨a,b,rfl⟩
 obtain⟨l,k1,k2⟩:=h3 0 t0 _ rfl rfl;refine⟨p,_,0,V.ref t0,rfl,rfl,Ad.of h1,(show G0 _ ((0:Nat):Int)=_ from Cg rfl),t0,_,2,_,rfl,rfl,Bi.of k1,rfl,?_⟩
 have e:decide (Ud (C9 M f (AS g tf))=V.non)=decide (AS g tf∉M):=by
  unfold C9
  by_cases z:AS g tf∈M
  ·rw[qF z,qI (λy=>by cases y),qI (λy=>y z)]
  ·rw[qE z,qH (show Ud none=V.non from rfl),qH z]
 dsimp only;rw[e];exact hsm s9 A M f rp fi H1 s1 tb1
theorem ID:AL ["one","nexts","left","some","stretch","sign"] ["one"] (AH T6):=Cc (by decide +kernel)
theorem WD(T:CU K mg t)(G_6:A5 P w K mg base 11 t.f_6 ["one"] (Gp t.c_39 LP t.p_6))(G_5:A5 P w K mg base 2 t.f_5 ["nexts","ends"] (Jt))(G_23:A5 P w K mg base 10 t.f_23 ["one"] (Gn t.c_39)):A5 P w K mg base 12 t.f_57 ["one"] (MP t.c_39 LP t.p_6):=by
 refine DD T.d_57 ID (λ_ _ _ _ _ _=>b1 λ_=>rfl) λvs H Q E h=>?_;obtain⟨r,g,lo,tab,m,lf,tf,mf,rfl,ok,fw,tb,hsm,hbig⟩:=h;refine⟨rfl,λcdv A outer s hr=>?_⟩
 refine⟨_,(AD (AR 1 ID (BO G_6 (hr.mono (by decide)) rfl T.m_6 Ax (AA (pv 0) AB)))
  (AD (AR 2 ID (Aa hr G_5 T.m_5 (AA (pv 1) (AA (BV (As AB)) AB))))
  (AD (AR 3 ID (BO G_23 (hr.mono (by decide)) rfl T.m_23 Ax (AA (pv 0) AB)))
  (AD (BE (JD (Ep (Cj hr) (pv 3) (pv 2))) (AE (AO EH)) Af)
  (AD (AR 4 ID (BV AB))
  (AD (PS.nox (CG PassesOwn.never (AN IR (pv 3) AF (AU _)) (AD (AR 5 ID (CQ YB PySem.F.slot_list_index PySem.F.type_list_index Ph (DE [(2,"left")] [("left",_)] (BZ (D3 (Cj hr) (pv 1) (pv 3) (λ_ _=>rfl))) (λ_ _ _ _=>Bz) (λ_ _ _ _=>(Ko (Cj hr) (pv 1) (pv 0) ⟨rfl,rfl,rfl,rfl⟩))) (AA (AI CA (D3 (Cj hr) (pv 2) (pv 3) (λ_ _=>rfl)) AF) AB)))
  (AD (BF (CQ YB YM YN BR (pv 4) (AA (pv 5) AB)))
  (AE (AR 3 ID (AT An (D3 (Cj hr) (pv 1) (pv 3) (λ_ _=>rfl)) (pv 5) (λ_ _=>rfl))))))))
  (AE (AO (pv 4))))))))),?_⟩
 have g2:=ok.g2;have g9:=ok.g9;obtain⟨hn,hl⟩:=Cn g2 ok.len fw;refine A7 λN hN=>?_;walk_at "rd";refine⟨r,g,lo,tab,m,lf,tf,mf,rfl,ok,fw,tb,λs9 d H1 ls A s1 tb1 hd hls w1 g1 rp lA=>hN _ _ ?_,hbig⟩;clear hN N;have h9:tf.length/g.toNat<=9:=by lia
 have ok1:=ok.sameT s1 tb;have cA:A.length<=512:=YK (C8 rp.nd lA) (Ef h9);refine A7 λN hN=>?_;walk_at "rd";refine⟨by decide,λe he=>?_⟩;have e1:=AG.new he (.lst [V.int 0]);refine⟨d,e,ls,A,AQ g tf,[0],rfl,.inl (e1 _ _ w1),g1.same e1,rp.nd,rp.cl,cA,λa _=>by rw[Bq];lia,AC,by decide,λo H2 d2 M f e2 hd2 w2 fi=>hN _ _ ?_⟩;clear hN N;have eD:H e=none:=s1.free tb1 he;have s2:Bf t.p_6 H H2:=((s1.trans e1.t).into hd _).trans e2.t;have tb2:BQ LP (E1 "sets_reached") t.p_6 H2:=((tb1.same e1).into (e1 _ _ w1) (λ_ z=>by cases z) (λ_ z=>by cases z)).same e2;have ok2:=ok.sameT s2 tb;have dZ:H2 d=some (.frz o (.dK (Au A (ls.map V.ref)))):=e2 _ _ AC;have dn:d∉ls:=g1.out λxs z=>by rw[w1]at z;cases z
 have g2':=((g1.same e1).keep dn (.frz o (.dK (Au A (ls.map V.ref))))).same e2;have hh:(g^(mf-1)).toNat=tf.length/g.toNat:=by rw[<-hn,Xy]
 refine A7 λN hN=>?_;walk_at "rd";refine⟨r,g,lo,tab,m,lf,tf,mf,rfl,ok2,fw,λ_ H3 e3=>hN _ _ ?_,λz=>by lia⟩;clear hN N;rw[hh];have s3:=s2.trans e3.t;have tb3:=tb2.same e3;have w3:=e3 _ _ w2;have d3:=e3 _ _ dZ;have g3:=g2'.same e3;obtain⟨qn,qs⟩:=hsm s9 A M f rp fi;have rdd:∀{HX:Hp},AG H3 HX->Rd HX d (.dK (Au A (ls.map V.ref))):=λe=>.inr ⟨o,e _ _ d3⟩
 have nx:∀{HX:Hp} {x:Int},AG H3 HX->x∈A->∃l,DZ HX d (.int x) (some (.ref l))/\HX l=some (.lst ((AQ g tf x).map V.int)):=λ{HX x} e hx=>by obtain⟨i,hi⟩:=Eb hx;obtain⟨l,hl⟩:=Hj g3.n hi;exact⟨l,.inl ⟨_,Sum.inl x,rdd e,rfl,by rw[Bw rp.nd hi (by rw[Xu,hl];rfl)]⟩,e _ _ (g3.e i x l hi hl)⟩
 refine Ck (λσ HX=>(∃x4 x5,σ=[some (.ref r),some (.ref d),some (.ref d2),some (.int (AS g tf)),x4,x5])/\HX=H3/\AS g tf∈M) (λN hN=>?_) ?_
 ·refine⟨_,rfl,_,rfl,d2,_,rfl,DZ.k (k:=Sum.inl (AS g tf)) w3,_,rfl,?_⟩;rw[Ec (by rw[Xk]) fi.nd]
  by_cases z:AS g tf∈M
  ·rw[qH z];exact OZ (hN _ _ ⟨⟨_,_,rfl⟩,rfl,z⟩)
  ·rw[qI z];exact Sj (qn z _ s3 tb3)
 rintro σ HX ⟨⟨x4,x5,rfl⟩,rfl,fm⟩;refine A7 λN hN=>?_;walk_at "rd";refine⟨by decide,λD hD=>hN _ _ ?_⟩;clear hN N;have DH:H D=none:=s3.free tb3 hD;refine Ck (λσ HY=>(∃x3 x5,σ=[some (.ref r),some (.ref d),some (.ref d2),x3,some (.ref D),x5])/\AG HX HY/\HY D=some (.lst ((Cp (AQ g tf) (C9 M f) (f (AS g tf)) (AS g tf)).map V.int))) (λN hN=>?_) ?_
 ·refine⟨λn σ HY=>∃(x:Int) (L:List Int),(∃x5,σ=[some (.ref r),some (.ref d),some (.ref d2),some (.int x),some (.ref D),x5])/\AG HX HY/\HY D=some (.lst (L.map V.int))/\x∈M/\f x=n/\L.length+n<=2000/\L++Cp (AQ g tf) (C9 M f) n x=Cp (AQ g tf) (C9 M f) (f (AS g tf)) (AS g tf),⟨_,AS g tf,[],⟨_,rfl⟩,AG.new hD _,AC,fm,rfl,?_,rfl⟩,?_⟩
  ·have:=fi.low fm;rw[aC,Nat.zero_add];simp only[List.length_cons,List.length_nil]at this;lia
  rintro n σ HY ⟨x,L,⟨x5,rfl⟩,eY,hY,xM,rfl,lL,eL⟩;refine⟨_,rfl,rfl,_,rfl,?_⟩;dsimp only
  by_cases x0:x=0
  ·rw[qE (by rw[x0];decide)];have f0:f x=0:=by rw[x0];exact (fi.ends 0 (Xl.mpr rfl)).2
   rw[f0,show Cp (AQ g tf) (C9 M f) 0 x=[] from rfl,Yd]at eL;exact hN _ _ ⟨⟨_,_,rfl⟩,eY,by rw[<-eL];exact hY⟩
  rw[qF (by rw[qI (λz=>x0 (V.int.inj z))];rfl)]
  obtain⟨n,hn1⟩:∃n,f x=n+1:=⟨f x-1,by
   have:f x≠0:=λz=>x0 (Xl.mp (fi.zero x xM z))
   lia⟩
  obtain⟨xA,q0,hq0,q0M,fq0⟩:=fi.down x xM n hn1;obtain⟨z,z1,z2,z3,z4,z5⟩:=MO (F:=AQ g tf) (fo:=C9 M f) hq0 (n:=n) (by unfold C9;rw[qF q0M,fq0])
  have zM:z∈M/\f z=n:=by
   unfold C9 at z2
   split at z2
   ·exact⟨‹_›,Option.some.inj z2⟩
   ·cases z2
  rw[hn1]at eL lL⊢;refine⟨λσ' H'=>∃m',m'<n+1/\∃(x:Int) (L:List Int),(∃x5,σ'=[some (.ref r),some (.ref d),some (.ref d2),some (.int x),some (.ref D),x5])/\AG HX H'/\H' D=some (.lst (L.map V.int))/\x∈M/\f x=m'/\L.length+m'<=2000/\L++Cp (AQ g tf) (C9 M f) m' x=Cp (AQ g tf) (C9 M f) (f (AS g tf)) (AS g tf),λ_ _ h=>h,?_⟩;refine Ck (λσ HZ=>σ=[some (.ref r),some (.ref d),some (.ref d2),some (.int x),some (.ref D),some (.int ((C5 (AQ g tf) (C9 M f) n x:Nat):Int))]/\AG HX HZ/\HZ D=some (.lst (L.map V.int))) (λN2 hN2=>?_) ?_
  ·obtain⟨l,dg,hl'⟩:=nx eY xA;refine⟨_,rfl,_,rfl,d,.ref l,rfl,dg,l,rfl,⟨_,Ad.of hl'⟩,λD2 hD2=>?_⟩;refine CB (xs:=(AQ g tf x).map V.int) (λi acc Hx=>acc=((AQ g tf x).take i).map (λy=>(Cb (Dc M f) (Sum.inl y)).getD .non)/\AG HY Hx/\Hx D2=some (.lst acc)) ⟨rfl,AG.new hD2 _,AC⟩ (λi acc Hx _ z=>Ad.of (z.2.1 _ _ hl')) ?_ ?_
   ·rintro i y acc Hx hy ⟨rfl,ex,h2⟩;obtain⟨y,hyi,rfl⟩:=By hy;dsimp only[Oq];rw[qF rfl];have w4:=ex _ _ (eY _ _ w3);refine⟨_,rfl,d2,rfl,.inl ⟨_,.inl w4⟩,_,rfl,_,DZ.k (k:=Sum.inl y) w4,h2,?_,?_,ex.into hD2,AC⟩
    ·rw[Xk,YC,Bq];exact AZ (by lia)
    ·rw[Zv,hyi,Xv];rfl
   ·rintro acc Hx ⟨rfl,ex,h2⟩;rw[Xk,YT]at h2
    have get:∀y,(Cb (Dc M f) (Sum.inl y)).getD .non=match C9 M f y with|some k=>V.int ((k:Nat):Int)|none=>.non:=λy=>by
     rw[Hl fi.nd];unfold C9
     split<;>rfl
    have w4:=ex _ _ (eY _ _ w3);refine⟨.inl ⟨rfl,_,Ad.of h2⟩,_,rfl,_,rfl,d2,.int ((f x:Nat):Int),rfl,?_,_,_,rfl,rfl,D2,_,((n:Nat):Int),C5 (AQ g tf) (C9 M f) n x,rfl,?_,h2,?_,?_,?_,?_⟩
    ·have:=DZ.k (k:=Sum.inl x) w4;rw[Hl fi.nd,qF xM]at this;exact this
    ·rw[hn1];show[V.int (((n+1:Nat):Int)-1)]=_;rw[show ((n+1:Nat):Int)-1=(n:Int) by lia]
    ·intro y hy;obtain⟨k,_,rfl⟩:=YH.mp hy;rw[get]
     split<;>trivial
    ·rw[Xu,z1];show some ((Cb (Dc M f) (Sum.inl z)).getD .non)=_;rw[get,z2]
    ·intro k hk y hy;rw[Xu]at hy;obtain⟨y',h1,rfl⟩:=Ys.mp hy;rw[get];have:=z5 k hk y' h1;split
     ·rename_i k' hk'
      show (((k':Nat):Int)==(n:Int))=false;rw[beq_eq_false_iff_ne];intro z;exact this (by rw[hk',show k'=n by lia])
     ·rfl
    ·exact hN2 _ _ ⟨rfl,eY.trans ex,ex _ _ hY⟩
  rintro σ HZ ⟨rfl,eZ,hZ⟩;refine A7 λN2 hN2=>?_;walk_at "rd";refine⟨.inl ⟨_,Ad.of hZ⟩,_,hZ,by rw[Xk];exact Y4 (YK (af ..) lL) (by decide),hN2 _ _ ?_⟩;clear hN2 N2;have eW:AG HX (Aj HZ D (.lst (L.map V.int++[V.int ((C5 (AQ g tf) (C9 M f) n x:Nat):Int)]))):=eZ.into hD;have hW:Aj HZ D (.lst (L.map V.int++[V.int ((C5 (AQ g tf) (C9 M f) n x:Nat):Int)])) D=some (.lst ((L++[((C5 (AQ g tf) (C9 M f) n x:Nat):Int)]).map V.int)):=by rw[AC,Xv];rfl
  generalize Aj HZ D (.lst (L.map V.int++[V.int ((C5 (AQ g tf) (C9 M f) n x:Nat):Int)]))=HW at eW hW⊢;obtain⟨l,dg,hl'⟩:=nx eW xA;refine⟨_,rfl,_,rfl,d,.ref l,rfl,dg,_,rfl,l,_,_,_,rfl,rfl,Ad.of hl',Cg (by rw[Xu,z1];rfl),n,Zg n,z,L++[((C5 (AQ g tf) (C9 M f) n x:Nat):Int)],⟨_,rfl⟩,eW,hW,zM.1,zM.2,?_,?_⟩
  ·rw[Xp,YO];lia
  ·rw[<-eL,YG];show L++([((C5 (AQ g tf) (C9 M f) n x:Nat):Int)]++Cp (AQ g tf) (C9 M f) n z)=L++(((C5 (AQ g tf) (C9 M f) n x:Nat):Int)::Cp (AQ g tf) (C9 M f) n ((AQ g tf x).getD (C5 (AQ g tf) (C9 M f) n x) 0));rw[z3];rfl
 rintro σ HY ⟨⟨x3,x5,rfl⟩,eY,hY⟩;walk_at "rd";exact qs fm D HY (s3.trans eY.t) (tb3.same eY) DH hY
theorem WE:AL ["one","fitting","ways"] ["one","fitting","ways"] (AH T7):=Cc (by decide +kernel)
theorem WF(T:CU K mg t)(G_55:A5 P w K mg base 1 t.f_55 ["one"] (DT)):A5 P w K mg base 2 t.f_52 ["one","fitting","ways"] (HL):=by
 refine BH T.d_52 WE (λ_ _ _ _ _ _=>b3 λ_ _ _=>rfl) λvs H Q E h=>?_;obtain⟨r,f,w',g,lo,tab,m,fs,ws,rfl,ok,hf,fl,hw,wl,q⟩:=h;refine⟨rfl,λcdv A outer s hr=>?_⟩;refine⟨_,(AE (AO (DE [(2,"ways"),(0,"one")] [("ways",_),("one",_)] (BZ (pv 1)) (λ_ _ _ _=>Bz) (λ_ _ _ _=>(AT (Bt (K:=K) rfl) (pv 1) (AI Ak (pv 0) (Aa hr G_55 T.m_55 (AA (pv 2) AB))) (λ_ _=>rfl)))))),?_⟩;obtain⟨tb,h1,h2⟩:=id ok.v;have g2:=ok.g2;have g9:=ok.g9;have m1:=ok.m1;have m8:=ok.m8;have hl:=ok.len;have sz:=ok.sz;have hlm:(tab.map V.int).length=tab.length:=Xk ..;have hd:=BP g2 hl m1;have hp:=RW.Ah g2 (m-1);have hp2:0<tab.length/g.toNat:=by lia
 walk_at "rd";refine⟨_,rfl,f,rfl,⟨_,Ad.of hf⟩,λD hD=>?_⟩;refine CB (xs:=(Bh fs).map V.int) (λi acc Hx=>acc=((fs.take i).map λn=>ws.getD (n%(tab.length/g.toNat)) 0).map V.int/\Hx=Aj H D (.lst acc)) ⟨rfl,rfl⟩ (λi acc Hx _ z=>by rw[z.2];exact Ad.of (AG.new hD _ _ _ hf)) ?_ ?_
 ·rintro i x acc Hx hx ⟨rfl,rfl⟩;obtain⟨v,hv,rfl⟩:=By hx
  obtain⟨n,hn,rfl⟩:∃n:Nat,fs[i]?=some n/\v=(n:Int):=by
   unfold Bh at hv;rw[Xu]at hv;cases z:fs[i]? with
   |none=>rw[z]at hv;cases hv
   |some n=>rw[z]at hv;exact⟨n,rfl,(Option.some.inj hv).symm⟩
  have en:=AG.new hD (.lst (((fs.take i).map λn=>ws.getD (n%(tab.length/g.toNat)) 0).map V.int));have md:(n:Int)%((tab.length/g.toNat:Nat):Int)=((n%(tab.length/g.toNat):Nat):Int):=(Yx ..).symm;have lt:=ZW n hp2;walk_at "rd";refine⟨r,g,lo,tab,m,rfl,ok.same en,_,rfl,by lia,?_⟩;rw[md];refine⟨w',_,_,_,rfl,rfl,Ad.of (en _ _ hw),B9 (by lia),AC,?_,?_,by rw[FP]⟩
  ·rw[Xk,Xk,YC];exact AZ (by lia)
  ·rw[ZI,hn];simp
 rintro acc Hx ⟨rfl,rfl⟩;have lf:((Bh fs).map V.int).length=fs.length:=by unfold Bh;rw[List.length_map,List.length_map]
 rw[lf,YT];exact q D _ ⟨AG.new hD _,hD,AC⟩
theorem NK:AL ["one","row","ways","sign","ends"] ["one","row"] (AH T8):=Cc (by decide +kernel)
theorem WG(T:CU K mg t)(G_55:A5 P w K mg base 1 t.f_55 ["one"] (DT))(G_52:A5 P w K mg base 2 t.f_52 ["one","fitting","ways"] (HL))(G_33:A5 P w K mg base 1 t.f_33 ["one","head","sign"] (Ji)):A5 P w K mg base 3 t.f_44 ["one","row"] (Lw K):=by
 refine BH T.d_44 NK (λ_ _ _ _ _ _=>b2 λ_ _=>rfl) λvs H Q E h=>?_;obtain⟨r,a,g,lo,tab,m,ns,rfl,ok,hS,hn,q⟩:=h;refine⟨rfl,λcdv A outer s hr=>?_⟩
 refine⟨_,(AD (AR 2 NK (BV (AA (AI G4 (BV (As AB)) (Aa hr G_55 T.m_55 (AA (pv 0) AB))) AB)))
  (AD (BM PassesOwn.never rfl (Sl rfl T.z_reversed (AA (pv 1) AB)) (Be 3 NK) (AD (AR 4 NK (AT An (pv 2) (FS Dr AF) (λ_ _=>rfl)))
  (AE (BF (CQ YB YM YN BR (pv 2) (AA (DE [(3,"sign"),(0,"one"),(4,"ends")] [("sign",_),("one",_),("ends",_)] (Ap rfl T.z_range (AA (Aa hr G_55 T.m_55 (AA (pv 0) AB)) AB)) (λ_ _ _ _=>Bz) (λ_ _ _ _=>(AV (Lx (K:=K) rfl rfl) rfl T.z_sum aZ (AA (Aa hr G_52 T.m_52 (AA (pv 2) (AA (Aa hr G_33 T.m_33 (AA (pv 2) (AA (pv 0) (AA (pv 1) AB)))) (AA (pv 3) AB)))) AB)))) AB))))))
  (AE (AO (JM rfl rfl T.z_reversed rfl T.z_list (AA (pv 2) AB)))))),?_⟩
 obtain⟨tb,h1,h2⟩:=id ok.v;have g2:=ok.g2;have g9:=ok.g9;have m1:=ok.m1;have m8:=ok.m8;have hl:=ok.len;have sz:=ok.sz;have hlm:(tab.map V.int).length=tab.length:=Xk ..;have hd:=BP g2 hl m1;have hp:=RW.Ah g2 (m-1);have hm1:=Bu g2 (show m-1<=m by lia);walk_at "rd";refine⟨by decide,λp1 hp1=>?_⟩;have f1:=AG.new hp1 (.lst [V.int 1]);refine⟨r,g,lo,tab,m,rfl,ok.same f1,?_⟩;refine JX AC (by lia) (by lia) λp2 H2 f2 n2 h2'=>⟨by decide,λpw hpw=>?_⟩
 rw[Xy]at h2';have f3:=AG.new hpw (.lst [.ref p2])
 have c0:H2 p2=some (.lst ((F0 g.toNat tab []).map V.int)):=by
  rw[h2']
  congr 2
  unfold F0;rw[Za]
  symm
  rw[Zp];refine⟨by rw[Xk,Xx],λb hb=>?_⟩;obtain⟨x,_,e⟩:=YH.mp hb;rw[<-e];rfl
 have sA:AG H (Aj H2 pw (.lst [.ref p2])):=(f1.trans f2).trans f3;have npw:H pw=none:=(f1.trans f2).free hpw;refine⟨_,rfl,a,_,rfl,sA.seq hS,?_⟩;refine Qg (xs:=ns.map V.int) (λi σ H3=>∃(ps:List Addr) (x3 x4:Option V),σ=[some (.ref r),some (.ref a),some (.ref pw),x3,x4]/\AG H H3/\H3 pw=some (.lst (ps.map V.ref))/\ps.length=i+1/\∀(j:Nat) (q':Addr),ps[j]?=some q'->H3 q'=some (.lst ((F0 g.toNat tab (ns.drop (ns.length-j))).map V.int))) ⟨[p2],none,none,rfl,sA,AC,rfl,λj q' hq=>?_⟩ (λi σ H3 _ z=>by obtain⟨_,_,_,_,e,_⟩:=z;exact e.seq hS) ?_ ?_
 ·have hj:j=0:=by
   have:=(Xo.mp hq).1;simpa using this
  subst hj;have:q'=p2:=by simpa using hq.symm
  subst this;rw[ZQ,ah];exact f3 _ _ c0
 ·rintro i x σ H3 hx ⟨ps,x3,x4,rfl,e3,hpw3,pl,hps⟩;rw[<-ag]at hx;obtain⟨sg,hsg,rfl⟩:=By hx;walk_at "rd";have il:i<ns.length:=by have:=(Xo.mp hsg).1;rw[ZB]at this;exact this
  have dr:ns.drop (ns.length-(i+1))=sg::ns.drop (ns.length-i):=by rw[aV il]at hsg;obtain⟨hlt,hget⟩:=Xo.mp hsg;rw[show ns.length-(i+1)=ns.length-1-i by lia,Y0 hlt,hget,show ns.length-1-i+1=ns.length-i by lia]
  obtain⟨q0,hq0⟩:∃q0,ps[i]?=some q0:=⟨ps[i],Xs (by lia)⟩;have hv0:=hps i q0 hq0
  have la:G0 (ps.map V.ref) (-1)=some (V.ref q0):=by
   have z:J7 (ps.map V.ref).length (-1)=some i:=by
    unfold J7;rw[Xk,qE (by decide),qF (by lia)]
    congr 1
    lia
   unfold G0;rw[z];show (ps.map V.ref)[i]?=_;rw[Xu,hq0];rfl
  refine⟨pw,_,_,_,rfl,rfl,Ad.of hpw3,la,.inl ⟨_,Ad.of hpw3⟩,?_⟩;refine⟨_,rfl,r,g,lo,tab,m,rfl,ok.same e3,_,rfl,by lia,by lia,λD hD=>?_⟩;rw[Xy]
  have hne:D≠pw:=λz=>by rw[z,hpw3]at hD;cases hD
  refine BI (n:=tab.length/g.toNat) (λk acc Hx=>acc=((List.range k).map (Cs g.toNat tab (sg::ns.drop (ns.length-i)))).map V.int/\AG H3 Hx/\Hx D=some (.lst acc)) ⟨rfl,AG.new hD _,AC⟩ ?_ ?_
  ·rintro k acc Hx hk ⟨rfl,ex,hDx⟩;walk_at "rd";refine⟨r,g,lo,tab,m,k,sg,by rw[YX],ok.same (e3.trans ex),hk,λp5 H5 hN5=>?_⟩;have fl:(CS g.toNat tab k sg).length<=9:=by unfold CS;rw[Xk];have:=ZH (λj=>decide (tab.getD (k*g.toNat+j) 0=sg)) (List.range g.toNat);rw[Xx]at this;lia
   refine⟨r,p5,q0,g,lo,tab,m,CS g.toNat tab k sg,F0 g.toNat tab (ns.drop (ns.length-i)),rfl,ok.same ((e3.trans ex).trans hN5.1),hN5.2.2,by lia,hN5.1 _ _ (ex _ _ hv0),O6 ..,λp6 H6 hN6=>?_⟩
   have sumE:((CS g.toNat tab k sg).map λn=>(F0 g.toNat tab (ns.drop (ns.length-i))).getD (n%(tab.length/g.toNat)) 0).sum=Cs g.toNat tab (sg::ns.drop (ns.length-i)) k:=by
    rw[<-Kl]
    congr 1
    refine Yv λn _=>O8 (ZW _ (by lia))
   refine⟨p6,rfl,_,Ad.of hN6.2.2,hN6.1 _ _ (hN5.1 _ _ hDx),?_,?_,((ex.trans hN5.1).trans hN6.1).into hD,AC⟩
   ·rw[Xk,Xk,Xx];exact AZ (by lia)
   ·rw[sumE,A6,Xv];rfl
  ·rintro acc Hx ⟨rfl,ex,hDx⟩;refine⟨_,ex _ _ hpw3,?_,(e3.trans ex).into npw,ps++[D],?_,?_,λj q' hq=>?_⟩
   ·rw[Xk];exact AZ (by lia)
   ·rw[AC,Xv];rfl
   ·rw[Xp,pl];rfl
   ·by_cases hj:j<ps.length
    ·rw[YL hj]at hq;have hh:=hps j q' hq
     have:q'≠pw:=λz=>by
      rw[z,hpw3]at hh;have z2:=HO.lst.inj (Option.some.inj hh);have e1:(ps.map V.ref)[i]?=some (V.ref q0):=by rw[Xu,hq0];rfl
      rw[z2,Xu]at e1;cases hz:(F0 g.toNat tab (ns.drop (ns.length-j)))[i]? with
      |none=>rw[hz]at e1;cases e1
      |some c=>rw[hz]at e1;cases e1
     rw[AK this];exact ex _ _ hh
    ·have hj2:=(Xo.mp hq).1;rw[Xp]at hj2;have hj3:j=i+1:=by simp only[List.length_cons,List.length_nil]at hj2;lia
     subst hj3;rw[X4 (by lia),pl,Yq]at hq;have:q'=D:=(Option.some.inj hq).symm;subst this;rw[AK hne,hDx,dr];rfl
 ·rintro σ H3 ⟨ps,x3,x4,rfl,e3,hpw3,pl,hps⟩;walk_at "rd";refine⟨_,Ad.of hpw3,λp9 hp9=>?_⟩;have f9:=AG.new hp9 (.lst (ps.map V.ref).reverse);rw[Xk]at pl;refine q p9 _ (e3.trans f9) (e3.free hp9) ⟨ps.reverse,by rw[AC,ag],by rw[ZB,pl],λk q' hq=>?_⟩;have kl:=(Xo.mp hq).1;rw[ZB]at kl;rw[aV kl]at hq;have hh:=hps _ q' hq;rw[show ns.length-(ps.length-1-k)=k by lia]at hh;exact f9 _ _ hh
theorem WH:AL ["one","row"] ["one","row"] (AH T9):=Cc (by decide +kernel)
theorem WI(T:CU K mg t)(G_22:A5 P w K mg base 3 t.f_22 ["word","signs"] (FY K t.c_53))(G_44:A5 P w K mg base 3 t.f_44 ["one","row"] (Lw K)):A5 P w K mg base 4 t.f_12 ["one","row"] (Jj K t.c_53):=by
 refine DD T.d_12 WH (λ_ _ _ _ _ _=>b2 λ_ _=>rfl) λvs H Q E h=>?_;obtain⟨r,a,g,lo,tab,m,xs,rfl,ok,hS,kd,hn,h⟩:=h;refine⟨rfl,λcdv A outer s hr=>?_⟩
 refine⟨_,(AD (BF (BO G_22 (hr.mono (by decide)) rfl T.m_22 Ax (AA (pv 1) (AA (AT Ai (pv 0) AF (λ_ _=>rfl)) AB))))
  (AE (AO (AV (ER rfl) rfl T.z_sum aZ (AA (AT An (Aa hr G_44 T.m_44 (AA (pv 0) (AA (pv 1) AB))) AF (λ_ _=>rfl)) AB))))),?_⟩
 obtain⟨tb,h1,h2⟩:=id ok.v;walk_at "rd";refine⟨r,_,0,_,rfl,rfl,Bi.of h1,rfl,a,xs,g,rfl,hS,kd,?_⟩;cases hb:B3 g xs with
 |some i =>
  rw[hb]at h;exact h
 |none =>
  rw[hb]at h;obtain⟨ns,rfl,hns⟩:=Dv hb;rw[Xk]at hn;intro H1 e1;refine⟨r,a,g,lo,tab,m,ns,rfl,ok.same e1,e1.seq hS,hn,λp H2 e2 hp hW=>?_⟩;obtain⟨ps,hp2,pl,hps⟩:=hW;obtain⟨q0,hq0⟩:∃q0,ps[0]?=some q0:=⟨ps[0],Xs (by lia)⟩;have hv:=hps 0 q0 hq0;rw[aS]at hv;refine⟨p,_,0,.ref q0,rfl,rfl,Ad.of hp2,?_,q0,rfl,F0 g.toNat tab ns,Ad.of hv,?_⟩
  ·exact Cg (by rw[Xu,hq0];rfl)
  ·rw[O7];exact h ns rfl H2 (e1.trans e2)
theorem WJ:AL ["_law_found"] ["_law_found"] (AH UA):=Cc (by decide +kernel)
theorem WK(T:CU K mg t) :A5 P w K mg base 1 t.f_20 ["_law_found"] (Du):=by
 refine BH T.d_20 WJ (λ_ _ _ _ _ _=>b1 λ_=>rfl) λvs H Q E h=>?_;obtain⟨x,rfl,kd,q⟩:=h;refine⟨rfl,λcdv A outer s hr=>?_⟩;refine⟨_,(AE (AO (Fn (Fu rfl T.z_isinstance (pv 0) (GK rfl T.z_int PyProof.Rows.boot_int)) (Gv (OL (Fu rfl T.z_isinstance (pv 0) (GK rfl T.z_bool PyProof.Rows.boot_bool))))))),?_⟩;walk_at "rd";cases x with
 |int i =>
  refine⟨_,.of (.int i),_,Rn,?_⟩;rw[qF rfl];exact⟨_,.of (.int i),_,Ro,q⟩
 |bl b =>
  refine⟨_,.of (.bl b),_,Rp,?_⟩;rw[qF rfl];exact⟨_,.of (.bl b),_,On,q⟩
 |non =>
  refine⟨_,.of .non,_,Rq,?_⟩;rw[qE (by decide)];exact q
 |str y =>
  refine⟨_,.of (.str y),_,Rr,?_⟩;rw[qE (by decide)];exact q
 |ref a =>
  obtain⟨xs,z|z⟩:=kd
  ·refine⟨_,.of (.lst z),_,Rs,?_⟩;rw[qE (by decide)];exact q
  ·refine⟨_,.of (.tup z),_,Ru,?_⟩;rw[qE (by decide)];exact q
 |byt _=>exact kd.elim
 |flt _=>exact kd.elim
 |ty _=>exact kd.elim
theorem XQ:AL ["_law_script","_law_k"] ["_law_script","_law_k"] (AH W9):=Cc (by decide +kernel)
theorem XR(T:CU K mg t) :A5 P w K mg base 1 t.f_3 ["_law_script","_law_k"] (JP K):=by
 refine BH T.d_3 XQ (λ_ _ _ _ _ _=>b2 λ_ _=>rfl) λvs H Q E h=>?_;obtain⟨a,ns,k,rfl,hS,h63,q⟩:=h;refine⟨rfl,λcdv A outer s hr=>?_⟩
 refine⟨_,(AD (BE (AN EJ (pv 1) (AV AJ rfl T.z_len X5 (AA (pv 0) AB)) (AU _)) (AE (AO (AT An (pv 0) (pv 1) (λ_ _=>rfl)))) Af)
  (AE (AO AF))),?_⟩
 walk_at "rd";refine⟨_,.inl hS,?_⟩;rw[Xk]
 by_cases h:(k:Int)<(ns.length:Int)
 ·rw[qF h];have hk:k<ns.length:=by lia
  refine⟨a,_,k,.int (ns.getD k 0),rfl,rfl,hS,Cg ?_,q⟩;rw[Xu,Xs hk,Xm,Xs hk];rfl
 ·rw[qE h];have e:ns.getD k 0=0:=by rw[Xm,ZP (by lia)];rfl
  rw[e]at q;exact q
theorem QJ:AL ["_law_cell","_law_many","_law_found","_law_number","_law_k"] ["_law_cell","_law_many"] (AH XB):=Cc (by decide +kernel)
theorem XS(T:CU K mg t) :A5 P w K mg base 1 t.f_9 ["_law_cell","_law_many"] (Ew):=by
 refine BH T.d_9 QJ (λ_ _ _ _ _ _=>b2 λ_ _=>rfl) λvs H Q E h=>?_;obtain⟨c,m,rfl,m0,m3,q⟩:=h;refine⟨rfl,λcdv A outer s hr=>?_⟩
 refine⟨_,(AD (AR 2 QJ (BV AB))
  (AD (AR 3 QJ (AI A8 (AI Ak (pv 0) AF) AF))
  (AD (BM PassesOwn.never rfl (Ap rfl T.z_range (AA (pv 1) AB)) (Be 4 QJ) (AD (AR 3 QJ (AI Ak (AI A8 (AI A8 (AI Bx (pv 3) AF) (AI Bx (pv 4) (pv 4))) AF) AF))
  (AE (BF (CQ YB YM YN BR (pv 2) (AA (AI Av (pv 3) AF) AB))))))
  (AE (AO (pv 2)))))),?_⟩
 walk_at "rd";refine⟨YS _,λp hp=>⟨by decide,?_⟩⟩;refine⟨_,rfl,m,rfl,by lia,by lia,?_⟩;refine Bv (n:=m.toNat) (λi σ H1=>∃(l:List Int) (x3:Int) (x4:Option V),(l.length=i/\∀x∈l,0<=x/\x<2147483647)/\σ=[some (.int c),some (.int m),some (.ref p),some (.int x3),x4]/\H1=Aj H p (.lst (l.map V.int))) ⟨[],_,none,⟨rfl,λx h=>by cases h⟩,rfl,rfl⟩ ?_ ?_
 ·rintro i σ H1 hi ⟨l,x3,x4,⟨hl,hb⟩,rfl,rfl⟩;walk_at "rd";refine⟨.inr ⟨by decide,by decide⟩,.inl ⟨by lia,by lia⟩,by decide,.inl ⟨_,Ad.of AC⟩,by decide,by decide,_,AC,?_,l++[(x3*48271+(0+(i:Int))*(0+(i:Int))+11)%2147483647/7],?_,λx hx=>?_,?_⟩
  ·rw[Xk];exact AZ (by lia)
  ·rw[Xp,hl];rfl
  ·rcases Xq.mp hx with y|y
   ·exact hb x y
   ·rw[Xl.mp y];generalize x3*48271+(0+(i:Int))*(0+(i:Int))+11=u;lia
  ·rw[FP,Xv];rfl
 ·rintro σ H1 ⟨l,x3,x4,⟨hl,hb⟩,rfl,rfl⟩;walk_at "rd";exact q p _ l hl hb (AG.new hp _) hp AC
theorem NL:AL ["_law_signs","_law_many","_law_size","_law_k"] ["_law_signs","_law_many"] (AH UB):=Cc (by decide +kernel)
theorem WL(T:CU K mg t) :A5 P w K mg base 1 t.f_18 ["_law_signs","_law_many"] (Em):=by
 refine BH T.d_18 NL (λ_ _ _ _ _ _=>b2 λ_ _=>rfl) λvs H Q E h=>?_;obtain⟨g,m,rfl,g2,g9,m0,m3,q⟩:=h;refine⟨rfl,λcdv A outer s hr=>?_⟩
 refine⟨_,(AD (AR 2 NL AF)
  (AD (BM PassesOwn.never rfl (Ap rfl T.z_range (AA (pv 1) AB)) (Be 3 NL) (AE (AR 2 NL (AI Bx (pv 2) (pv 0)))))
  (AE (AO (pv 2))))),?_⟩
 walk_at "rd";refine⟨_,rfl,m,rfl,by lia,by lia,?_⟩;refine Bv (n:=m.toNat) (λi σ H1=>∃x,σ=[some (.int g),some (.int m),some (.int (g^i)),x]/\H1=H) ⟨none,by rw[YJ],rfl⟩ ?_ ?_
 ·rintro i σ H1 hi ⟨x,rfl,rfl⟩;walk_at "rd";refine⟨.inr ⟨by lia,by lia⟩,?_⟩;rw[X9];exact⟨rfl,_,rfl⟩
 ·rintro σ H1 ⟨x,rfl,rfl⟩;walk_at "rd";exact q
theorem GV:AL ["_law_signs","_law_many","_law_xs","_law_table_here","_law_at","_law_left","_law_told_here","_law_k"] ["_law_signs","_law_many","_law_xs"] (AH UC):=Cc (by decide +kernel)
theorem WM(T:CU K mg t)(G_18:A5 P w K mg base 1 t.f_18 ["_law_signs","_law_many"] (Em)):A5 P w K mg base 2 t.f_28 ["_law_signs","_law_many","_law_xs"] (Hv):=by
 refine BH T.d_28 GV (λ_ _ _ _ _ _=>b3 λ_ _ _=>rfl) λvs H Q E h=>?_;obtain⟨g,m,a,xs,rfl,g2,g9,m4,sz,ha,xl,xb,q⟩:=h;refine⟨rfl,λcdv A outer s hr=>?_⟩
 refine⟨_,(AD (AR 3 GV (BV AB))
  (AD (BM PassesOwn.never rfl (Ap rfl T.z_range (AA (Aa hr G_18 T.m_18 (AA (pv 0) (AA (pv 1) AB))) AB)) (Be 4 GV) (AD (AR 5 GV (pv 4))
  (AD (AR 6 GV (AT An (pv 2) AF (λ_ _=>rfl)))
  (AD (BM PassesOwn.never rfl (Ap rfl T.z_range (AA (pv 1) AB)) (Be 7 GV) (AD (AR 6 GV (AI A8 (pv 6) (AI Bx (AT An (pv 2) (AI A8 AF (pv 7)) (λ_ _=>rfl)) (AI Ak (pv 5) (pv 0)))))
  (AE (AR 5 GV (AI Av (pv 5) (pv 0))))))
  (AE (BF (CQ YB YM YN BR (pv 3) (AA (AI Ak (pv 6) (pv 0)) AB))))))))
  (AE (AO (pv 3))))),?_⟩
 have gp:=RW.Ah g2 m;refine A7 λN hN=>?_;walk_at "rd";refine⟨by decide,λp hp=>hN _ _ ?_⟩;clear hN N;have e1:=AG.new hp (.lst []);refine Ck (λσ HX=>(∃x4 x5 x6 x7,σ=[some (.int g),some (.int ((m:Nat):Int)),some (.ref a),some (.ref p),x4,x5,x6,x7])/\∃tab,Fw H HX p tab/\tab.length=(g^m).toNat/\∀n∈tab,0<=n/\n<g) (λN hN=>?_) ?_
 ·refine⟨_,rfl,_,rfl,g,_,rfl,g2,by lia,by lia,by lia,_,rfl,?_⟩;rw[Xy];refine⟨by lia,by lia,?_⟩;refine Bv (n:=(g^m).toNat) (λi σ HX=>(∃x4 x5 x6 x7,σ=[some (.int g),some (.int ((m:Nat):Int)),some (.ref a),some (.ref p),x4,x5,x6,x7])/\∃acc,GU g i acc/\AG H HX/\HX p=some (.lst acc)) ⟨⟨_,_,_,_,rfl⟩,[],GU.nil,e1,AC⟩ ?_ ?_
  ·rintro i σ HX hi ⟨⟨x4,x5,x6,x7,rfl⟩,acc,sg,eX,hX⟩;have haX:=eX _ _ ha;refine A7 λN2 hN2=>?_;walk_at "rd";refine hN2 _ _ ?_;clear hN2 N2;refine A7 λN2 hN2=>?_;walk_at "rd";refine⟨a,_,0,_,rfl,rfl,Ad.of haX,Cr (z:=0) (by lia) (by rw[xl];decide),hN2 _ _ ?_⟩;clear hN2 N2;refine Ck (λσ HY=>HY=HX/\∃(y:Int) (z:Int) (x7:Option V),σ=[some (.int g),some (.int ((m:Nat):Int)),some (.ref a),some (.ref p),some (.int (0+(i:Int))),some (.int z),some (.int y),x7]) (λN2 hN2=>?_) ?_
   ·refine⟨_,rfl,_,rfl,by lia,by lia,?_⟩;refine Bv (n:=m) (λj σ HY=>HY=HX/\∃(y z:Int) (x7:Option V),0<=z/\z<=256/\σ=[some (.int g),some (.int ((m:Nat):Int)),some (.ref a),some (.ref p),some (.int (0+(i:Int))),some (.int z),some (.int y),x7]) ⟨rfl,_,_,_,by lia,by lia,rfl⟩ ?_ ?_
    ·rintro j σ HY hj ⟨rfl,y,z,x7,z0,z1,rfl⟩;have d0:0<=z/g:=ZK z0 (by lia);have d1:z/g<=z:=Int.ediv_le_self g z0;have m0:=YY z (show g≠0 by lia);have m1:=YQ z (show 0<g by lia);walk_at "rd";refine⟨a,_,_,_,rfl,rfl,Ad.of haX,Cr (z:=1+(0+(j:Int))) (by lia) (by rw[xl];lia),by lia,_,rfl,.inr ⟨by lia,by lia⟩,by lia,by lia,rfl,_,_,d0,by lia,rfl,rfl,_,rfl⟩
    ·rintro σ HY ⟨rfl,y,z,x7,z0,z1,rfl⟩;exact hN2 _ _ ⟨rfl,y,z,x7,rfl⟩
   rintro σ HY ⟨rfl,y,z,x7,rfl⟩;walk_at "rd";exact⟨.inl ⟨_,Ad.of hX⟩,by lia,_,hX,sg.len (by lia),⟨_,rfl⟩,_,sg.snoc g2 y,eX.into hp,AC⟩
  ·rintro σ HX ⟨hσ,acc,⟨us,rfl,ul,ub⟩,eX,hX⟩;exact hN _ _ ⟨hσ,us,⟨eX,hp,hX⟩,ul,ub⟩
 rintro σ HX ⟨⟨x4,x5,x6,x7,rfl⟩,tab,n,l,b⟩;walk_at "rd";exact q p tab HX n l b
theorem Fk:AL ["_law_signs","_law_xs","_law_low","_law_high","_law_table_here","_law_at","_law_here","_law_there","_law_above","_law_below"] ["_law_signs","_law_xs"] (AH UD):=Cc (by decide +kernel)
theorem WN(T:CU K mg t) :A5 P w K mg base 1 t.f_10 ["_law_signs","_law_xs"] (FO):=by
 refine BH T.d_10 Fk (λ_ _ _ _ _ _=>b2 λ_ _=>rfl) λvs H Q E h=>?_;obtain⟨g,a,xs,rfl,g4,ha,xl,q⟩:=h;refine⟨rfl,λcdv A outer s hr=>?_⟩
 refine⟨_,(FK.out (Ag (BL (i:=2) Fk.nd rfl (Or.inl rfl) (S5 An (Jk (AW (AW (AW (AW (AW (AW (AW (AW (AW (AW Bo))))))))))) (.of (pv 0)) (λ_ _=>rfl)) rfl (by first|exact .inl rfl|exact .inr rfl))
  (Ag (BL (i:=3) Fk.nd rfl (Or.inl rfl) (.of (AI Av (pv 0) (pv 2))) rfl (by first|exact .inl rfl|exact .inr rfl))
  (Ag (BL (i:=4) Fk.nd rfl (Or.inl rfl) (Jk Bo) rfl (by first|exact .inl rfl|exact .inr rfl))
  (Ag (.of (BM PassesOwn.never rfl (Ap rfl T.z_range (AA (AI Bx (pv 0) (pv 0)) AB)) (Be 5 Fk) (AD (AR 6 Fk (AI Av (pv 5) (pv 0)))
  (AD (AR 7 Fk (AI Ak (pv 5) (pv 0)))
  (AD (AR 8 Fk (AI Ak (AI A8 (AI Av (pv 7) (pv 2)) (AT An (pv 1) (pv 6) (λ_ _=>rfl))) (pv 3)))
  (AD (AR 9 Fk (AI Ak (AI A8 (AI Ak (pv 6) (pv 2)) (AT An (pv 1) (AI A8 AF (AI Ak (pv 7) (pv 2))) (λ_ _=>rfl))) (pv 2)))
  (AE (BF (CQ YB YM YN BR (pv 4) (AA (AI A8 (AI Bx (pv 8) (pv 2)) (pv 9)) AB))))))))))
  (B6 (.of (AO (pv 4))))))))),?_⟩
 refine A7 λN hN=>?_;walk_at "rd";refine⟨by decide,λp0 hp0=>?_⟩;have e0:=AG.new hp0 (.lst [V.int 0,V.int 0,V.int 0,V.int 0,V.int 2,V.int 0,V.int 3,V.int 0,V.int 4,V.int 3])
 obtain⟨b,hb,b2,b4,c2,bc⟩:∃b:Int,G0 [V.int 0,V.int 0,V.int 0,V.int 0,V.int 2,V.int 0,V.int 3,V.int 0,V.int 4,V.int 3] g=some (V.int b)/\2<=b/\b<=4/\2<=g/b/\g/b*b=g:=by
  rcases g4 with rfl|rfl|rfl|rfl
  ·exact⟨2,rfl,by decide,by decide,by decide,by decide⟩
  ·exact⟨3,rfl,by decide,by decide,by decide,by decide⟩
  ·exact⟨4,rfl,by decide,by decide,by decide,by decide⟩
  ·exact⟨3,rfl,by decide,by decide,by decide,by decide⟩
 refine⟨p0,_,_,_,rfl,rfl,Ad.of AC,hb,hN _ _ ?_⟩;clear hN N;have g9:4<=g/\g<=9:=by lia
 refine A7 λN hN=>?_;walk_at "rd";refine⟨by lia,by lia,hN _ _ ?_⟩;clear hN N;have ha1:=e0 _ _ ha;generalize Aj H p0 (.lst [V.int 0,V.int 0,V.int 0,V.int 0,V.int 2,V.int 0,V.int 3,V.int 0,V.int 4,V.int 3])=H1 at e0 ha1⊢;obtain⟨c,hc⟩:∃c:Int,c=g/b:=⟨_,rfl⟩;rw[<-hc]at c2 bc⊢;refine A7 λN hN=>?_;walk_at "rd";refine⟨by decide,λp hp=>hN _ _ ?_⟩;clear hN N;have e1:=AG.new hp (.lst []);have gg:g*g=g^2:=by rw[X9,X9,YJ,Yg]
 have gs:g^2<=81/\16<=g^2:=by rcases g4 with rfl|rfl|rfl|rfl<;>decide
 refine Ck (λσ HX=>(∃x5 x6 x7 x8 x9,σ=[some (.int g),some (.ref a),some (.int b),some (.int c),some (.ref p),x5,x6,x7,x8,x9])/\∃tab,Fw H HX p tab/\tab.length=(g^2).toNat/\∀n∈tab,0<=n/\n<g) (λN hN=>?_) ?_
 ·refine⟨_,rfl,_,rfl,_,_,rfl,rfl,.inl ⟨by lia,by lia⟩,_,rfl,by lia,by lia,?_⟩;rw[gg];refine Bv (n:=(g^2).toNat) (λi σ HX=>(∃x5 x6 x7 x8 x9,σ=[some (.int g),some (.ref a),some (.int b),some (.int c),some (.ref p),x5,x6,x7,x8,x9])/\∃acc,GU g i acc/\AG H1 HX/\HX p=some (.lst acc)) ⟨⟨_,_,_,_,_,rfl⟩,[],GU.nil,e1,AC⟩ ?_ ?_
  ·rintro i σ HX hi ⟨⟨x5,x6,x7,x8,x9,rfl⟩,acc,sg,eX,hX⟩;have haX:=eX _ _ ha1;have d0:0<=(0+(i:Int))/g:=ZK (by lia) (by lia);have d1:(0+(i:Int))/g<g:=Int.ediv_lt_of_lt_mul (by lia) (by rw[gg];lia);have m0:=YY (0+(i:Int)) (show g≠0 by lia);have m1:=YQ (0+(i:Int)) (show 0<g by lia);have n0:=YY ((0+(i:Int))%g) (show b≠0 by lia);have n1:=YQ ((0+(i:Int))%g) (show 0<b by lia);refine A7 λN2 hN2=>?_;walk_at "rd";refine⟨by lia,by lia,hN2 _ _ ?_⟩;clear hN2 N2;refine A7 λN2 hN2=>?_;walk_at "rd";refine⟨by lia,hN2 _ _ ?_⟩;clear hN2 N2;refine A7 λN2 hN2=>?_;walk_at "rd";refine⟨by lia,by lia,a,_,_,_,rfl,rfl,Ad.of haX,Cr d0 (by rw[xl];lia),_,rfl,by lia,hN2 _ _ ?_⟩;clear hN2 N2;refine A7 λN2 hN2=>?_;walk_at "rd";refine⟨by lia,by lia,a,_,_,_,rfl,rfl,Ad.of haX,Cr (z:=20+(0+(i:Int))%g%b) (by lia) (by rw[xl];lia),_,rfl,by lia,hN2 _ _ ?_⟩;clear hN2 N2;obtain⟨u,hu⟩:∃u:Int,u=((0+(i:Int))%g/b+xs.getD ((0+(i:Int))/g).toNat 0)%c:=⟨_,rfl⟩;obtain⟨v,hv⟩:∃v:Int,v=((0+(i:Int))/g%b+xs.getD (20+(0+(i:Int))%g%b).toNat 0)%b:=⟨_,rfl⟩;rw[<-hu,<-hv];have u0:0<=u:=by rw[hu];exact YY _ (by lia)
   have u1:u<c:=by rw[hu];exact YQ _ (by lia)
   have v0:0<=v:=by rw[hv];exact YY _ (by lia)
   have v1:v<b:=by rw[hv];exact YQ _ (by lia)
   have w0:0<=u*b:=Zh u0 (by lia);have w1:(u+1)*b<=c*b:=ZZ (by lia) (by lia);rw[Int.add_mul,Yg,bc]at w1;walk_at "rd";refine⟨.inl ⟨_,Ad.of hX⟩,.inr ⟨by lia,by lia⟩,_,hX,sg.len (by lia),⟨_,rfl⟩,_,sg.put (by lia) (by lia),eX.into hp,AC⟩
  ·rintro σ HX ⟨hσ,acc,⟨us,rfl,ul,ub⟩,eX,hX⟩;exact hN _ _ ⟨hσ,us,⟨e0.trans eX,e0.free hp,hX⟩,ul,ub⟩
 rintro σ HX ⟨⟨x5,x6,x7,x8,x9,rfl⟩,tab,n,l,b⟩;walk_at "rd";exact q p tab HX n l b
theorem JA:AL ["_law_signs","_law_many","_law_way","_law_xs","_law_size","_law_part","_law_table_here","_law_at"] ["_law_signs","_law_many","_law_way","_law_xs"] (AH UE):=Cc (by decide +kernel)
theorem WO(T:CU K mg t)(G_18:A5 P w K mg base 1 t.f_18 ["_law_signs","_law_many"] (Em))(G_10:A5 P w K mg base 1 t.f_10 ["_law_signs","_law_xs"] (FO))(G_28:A5 P w K mg base 2 t.f_28 ["_law_signs","_law_many","_law_xs"] (Hv)):A5 P w K mg base 3 t.f_19 ["_law_signs","_law_many","_law_way","_law_xs"] (GH):=by
 refine BH T.d_19 JA (λ_ _ _ _ _ _=>b4 λ_ _ _ _=>rfl) λvs H Q E h=>?_;obtain⟨g,m,way,a,xs,rfl,g2,g9,m1,m4,sz,w0,ha,xl,xb,q⟩:=h;refine⟨rfl,λcdv A outer s hr=>?_⟩
 refine⟨_,(AD (AR 4 JA (Aa hr G_18 T.m_18 (AA (pv 0) (AA (pv 1) AB))))
  (AD (AR 5 JA (AI Av (pv 4) (pv 0)))
  (AD (BE (PW.pt (Do (AN B0 (pv 2) AF (AU _)) (Do (AN B0 (pv 1) AF (AU _)) (DP (AN NY (pv 0) (Fp (As (As (As (As AB))))) (by with_unfolding_all rfl)))))) (AE (AO (Aa hr G_10 T.m_10 (AA (pv 0) (AA (pv 3) AB))))) Af)
  (AD (BE (AN B0 (pv 2) AF (AU _)) (AE (AO (Aa hr G_28 T.m_28 (AA (pv 0) (AA (pv 1) (AA (pv 3) AB)))))) Af)
  (AD (BE (AN B0 (pv 2) AF (AU _)) (AE (AO (DE [(0,"_law_signs")] [("_law_signs",_)] (BZ (CI Cy (pv 3) Ds (CH (pv 4)))) (λ_ _ _ _=>Bz) (λ_ _ _ _=>(AI Ak (pv 0) (pv 1)))))) Af)
  (AD (BE (AN B0 (AI Ak (pv 2) AF) AF (AU _)) (AE (Dw (iy:=6) (fv:=[(3,"_law_xs"),(0,"_law_signs")]) (cl:=[("_law_xs",_),("_law_signs",_)]) rfl JA.nd rfl (Or.inl rfl) (Ap rfl T.z_range (AA (pv 4) AB)) (by with_unfolding_all rfl) (by with_unfolding_all rfl) (by decide +kernel) rfl (by decide +kernel) rfl ⟨(by with_unfolding_all rfl),⟨(by with_unfolding_all rfl),trivial⟩⟩ (by with_unfolding_all rfl) ⟨⟨rfl,rfl,(by with_unfolding_all rfl),rfl⟩,⟨⟨rfl,rfl,(by with_unfolding_all rfl),rfl⟩,trivial⟩⟩ (by decide) (λ_ _ _ _=>Bz) (λ_ _ _ _=>(AI Ak (AI A8 (AT (Bt (K:=K) rfl) (pv 1) (AI Av (pv 0) (pv 2)) (λ_ _=>rfl)) (AI Ak (pv 0) (pv 2))) (pv 2))))) (AE (Dw (iy:=6) (fv:=[(3,"_law_xs"),(0,"_law_signs"),(5,"_law_part")]) (cl:=[("_law_xs",_),("_law_signs",_),("_law_part",_)]) rfl JA.nd rfl (Or.inl rfl) (Ap rfl T.z_range (AA (pv 4) AB)) (by with_unfolding_all rfl) (by with_unfolding_all rfl) (by decide +kernel) rfl (by decide +kernel) rfl ⟨(by with_unfolding_all rfl),⟨(by with_unfolding_all rfl),⟨(by with_unfolding_all rfl),trivial⟩⟩⟩ (by with_unfolding_all rfl) ⟨⟨rfl,rfl,(by with_unfolding_all rfl),rfl⟩,⟨⟨rfl,rfl,(by with_unfolding_all rfl),rfl⟩,⟨⟨rfl,rfl,(by with_unfolding_all rfl),rfl⟩,trivial⟩⟩⟩ (by decide) (λ_ _ _ _=>Bz) (λ_ _ _ _=>(AI Ak (AI A8 (AT (Bt (K:=K) rfl) (pv 1) (AI Ak (pv 0) (pv 3)) (λ_ _=>rfl)) (AI Av (pv 0) (pv 3))) (pv 2))))))
  (AD (BE (PW.pt (E2 (AN B0 (pv 2) AF (AU _)) (E8 (AN B0 (pv 2) AF (AU _))))) (AD (AR 7 JA (AI Ak (AT An (pv 3) (FS Dr AF) (λ_ _=>rfl)) (pv 4)))
  (AE (OP (AI Ak (AI A8 (AI A8 (AT An (pv 6) (pv 7) (λ_ _=>rfl)) AF) (AI Ak (AT An (pv 3) (FS Dr AF) (λ_ _=>rfl)) (AI CA (pv 0) AF))) (pv 0)) (OO (pv 6) (pv 7) J8)))) Af)
  (AE (AO (pv 6)))))))))),?_⟩
 have gp:=RW.Ah g2 m;have gp1:=RW.Ah g2 (m-1);have gm:g^(m-1)*g=g^m:=by rw[<-X9,show (m-1).succ=m by lia]
 have szn:((g^m).toNat:Int)=g^m:=by lia
 refine A7 λN hN=>?_;walk_at "rd";refine⟨g,_,rfl,g2,by lia,by lia,by lia,hN _ _ ?_⟩;clear hN N;rw[Xy];refine A7 λN hN=>?_;walk_at "rd";refine⟨by lia,by lia,hN _ _ ?_⟩;clear hN N;rw[<-gm,Int.mul_ediv_cancel _ (show g≠0 by lia),gm];refine Ck (λσ HX=>σ=[some (.int g),some (.int ((m:Nat):Int)),some (.int way),some (.ref a),some (.int (g^m)),some (.int (g^(m-1))),none,none]/\AG H HX) (λN hN=>?_) ?_
 ·have stay:=λH' (e':AG H H')=>hN _ H' ⟨rfl,e'⟩
  walk_at "rd"
  by_cases w5:way=5
  ·rw[qF w5]
   by_cases m2:(m:Int)=2
   ·rw[qF m2];refine⟨by decide,λp1 hp1=>⟨p1,_,rfl,.inr (Bi.of AC),rfl,rfl,_,rfl,?_⟩⟩;have f1:=AG.new hp1 (.tup [V.int 4,V.int 6,V.int 8,V.int 9]);rw[show (if false=true then !Ua (V.int g) [V.int 4,V.int 6,V.int 8,V.int 9] else Ua (V.int g) [V.int 4,V.int 6,V.int 8,V.int 9])=Ua (V.int g) [V.int 4,V.int 6,V.int 8,V.int 9] from rfl]
    by_cases z:Va g
    ·rw[qF ((LB g2 g9).mpr z)];refine⟨g,a,xs,rfl,z,f1 _ _ ha,xl,λp tab H2 n tl tb=>q p tab H2 ⟨f1.trans n.1,f1.free n.2.1,n.2.2⟩ ?_ tb⟩;rw[tl,show m=2 by lia]
    ·rw[qE (λw=>z ((LB g2 g9).mp w))];exact stay _ f1
   ·rw[qE m2];exact stay _ (AG.refl _)
  ·rw[qE w5];exact stay _ (AG.refl _)
 rintro σ H1 ⟨rfl,e1⟩;have ha1:=e1 _ _ ha;have fin:∀{HX:Hp} {p:Addr} {tab:List Int},Fw H1 HX p tab->tab.length=(g^m).toNat->(∀n∈tab,0<=n/\n<g)->Q (.ref p) HX:=λn tl tb=>q _ _ _ ⟨e1.trans n.1,e1.free n.2.1,n.2.2⟩ tl tb
 refine Ck (λσ HX=>σ=[some (.int g),some (.int ((m:Nat):Int)),some (.int way),some (.ref a),some (.int (g^m)),some (.int (g^(m-1))),none,none]/\HX=H1) (λN hN=>?_) ?_
 ·walk_at "rd"
  by_cases w6:way=6
  ·rw[qF w6];exact⟨g,m,a,xs,rfl,g2,g9,m4,sz,ha1,xl,xb,λp tab H2 n tl tb=>fin n tl tb⟩
  ·rw[qE w6];exact hN _ _ ⟨rfl,rfl⟩
 rintro σ HX ⟨rfl,rfl⟩;refine Ck (λσ HY=>σ=[some (.int g),some (.int ((m:Nat):Int)),some (.int way),some (.ref a),some (.int (g^m)),some (.int (g^(m-1))),none,none]/\HY=HX) (λN hN=>?_) ?_
 ·walk_at "rd"
  by_cases w6:way=0
  ·rw[qF w6];refine⟨_,rfl,?_⟩;dsimp only[JG];refine⟨_,rfl,_,rfl,?_⟩;refine Dx (Ad.of ha1) λp2 H2 e2 n2 h2=>⟨p2,rfl,⟨_,Ad.of h2⟩,λD hD=>?_⟩
   rw[EO]at h2;have cl:(DO xs none (some (g^m))).length=(g^m).toNat:=P7 (by lia) (by lia);refine CB (xs:=(DO xs none (some (g^m))).map V.int) (λi acc Hx=>GU g i acc/\AG H2 Hx/\Hx D=some (.lst acc)) ⟨GU.nil,AG.new hD _,AC⟩ (λi acc Hx _ z=>Ad.of (z.2.1 _ _ h2)) ?_ ?_
   ·rintro i v acc Hx hv ⟨sg,ex,hDx⟩;obtain⟨x,hx,rfl⟩:=By hv;have xi:=(Xo.mp hx).1;walk_at "rd";exact⟨by lia,hDx,sg.len (by lia),sg.snoc g2 _,ex.into hD,AC⟩
   ·rintro acc H3 ⟨⟨us,rfl,ul,ub⟩,e3,h3⟩;exact fin ⟨e2.trans e3,e2.free hD,h3⟩ (by rw[ul,Xk,cl]) ub
  ·rw[qE w6];exact hN _ _ ⟨rfl,rfl⟩
 rintro σ HY ⟨rfl,rfl⟩;refine Ck (λσ HZ=>∃p tab,σ=[some (.int g),some (.int ((m:Nat):Int)),some (.int way),some (.ref a),some (.int (g^m)),some (.int (g^(m-1))),some (.ref p),none]/\Fw HY HZ p tab/\tab.length=(g^m).toNat/\∀n∈tab,0<=n/\n<g) (λN hN=>?_) ?_
 ·walk_at "rd";refine⟨by decide,?_⟩
  by_cases w1:way%2=1
  ·rw[qF w1];refine⟨_,rfl,_,rfl,by lia,by lia,λD hD=>?_⟩;refine BI (n:=(g^m).toNat) (λi acc Hx=>GU g i acc/\AG HY Hx/\Hx D=some (.lst acc)) ⟨GU.nil,AG.new hD _,AC⟩ ?_ ?_
   ·rintro i acc Hx hi ⟨sg,ex,hDx⟩;have d0:0<=(i:Int)/g:=ZK (by lia) (by lia);have d1:(i:Int)/g<=i:=Int.ediv_le_self g (by lia);walk_at "rd";rw[YX];exact⟨by lia,by lia,a,_,_,_,rfl,rfl,Ad.of (ex _ _ ha1),Cr d0 (by lia),by lia,_,rfl,by lia,hDx,sg.len (by lia),sg.snoc g2 _,ex.into hD,AC⟩
   ·rintro acc H2 ⟨⟨us,rfl,ul,ub⟩,e2,h2⟩;exact hN _ _ ⟨D,us,rfl,⟨e2,hD,h2⟩,ul,ub⟩
  rw[qE w1];refine⟨_,rfl,_,rfl,by lia,by lia,λD hD=>?_⟩;refine BI (n:=(g^m).toNat) (λi acc Hx=>GU g i acc/\AG HY Hx/\Hx D=some (.lst acc)) ⟨GU.nil,AG.new hD _,AC⟩ ?_ ?_
  ·rintro i acc Hx hi ⟨sg,ex,hDx⟩;have d0:=YY (i:Int) (show g^(m-1)≠0 by lia);have d1:=YQ (i:Int) gp1;have d2:g^(m-1)<=g^m:=by rw[<-gm];exact UN g2 gp1
   walk_at "rd";rw[YX];exact⟨by lia,a,_,_,_,rfl,rfl,Ad.of (ex _ _ ha1),Cr d0 (by lia),by lia,by lia,_,rfl,by lia,hDx,sg.len (by lia),sg.snoc g2 _,ex.into hD,AC⟩
  ·rintro acc H2 ⟨⟨us,rfl,ul,ub⟩,e2,h2⟩;exact hN _ _ ⟨D,us,rfl,⟨e2,hD,h2⟩,ul,ub⟩
 rintro σ H2 ⟨p,tab,rfl,n2,tl,tb⟩;have hx2:=n2.1 _ _ ha1;refine Ck (λσ HX=>∃x8 tab,σ=[some (.int g),some (.int ((m:Nat):Int)),some (.int way),some (.ref a),some (.int (g^m)),some (.int (g^(m-1))),some (.ref p),x8]/\Fw HY HX p tab/\tab.length=(g^m).toNat/\∀n∈tab,0<=n/\n<g) (λN hN=>?_) ?_
 ·walk_at "rd"
  by_cases w3:way=3
  ·rw[qF w3];have d0:=YY (xs.getD (xs.length-1) 0) (show g^m≠0 by lia);have d1:=YQ (xs.getD (xs.length-1) 0) gp;refine⟨a,_,-1,_,rfl,rfl,Ad.of hx2,D8 1 (by decide) (by lia),_,rfl,gp,?_⟩;generalize xs.getD (xs.length-1) 0%g^m=j at d0 d1⊢;obtain⟨k,rfl⟩:∃k:Nat,j=(k:Int):=⟨j.toNat,by lia⟩;have kl:k<tab.length:=by lia
   refine⟨p,_,_,_,rfl,rfl,Ad.of n2.2.2,B9 kl,_,rfl,a,_,-2,_,rfl,rfl,Ad.of hx2,D8 2 (by decide) (by lia),_,rfl,by lia,by lia,?_⟩;refine⟨_,rfl,_,rfl,p,_,_,k,rfl,rfl,n2.2.2,(by rw[Xk];exact Fa kl),hN _ _ ⟨_,_,rfl,⟨n2.1.into n2.2.1,n2.2.1,by rw[AC,<-List.map_set]⟩,by rw[Zo];exact tl,P8 tb ⟨YY _ (by lia),YQ _ (by lia)⟩⟩⟩
  rw[qE w3]
  by_cases w4:way=4
  ·rw[qF w4];have d0:=YY (xs.getD (xs.length-1) 0) (show g^m≠0 by lia);have d1:=YQ (xs.getD (xs.length-1) 0) gp;refine⟨a,_,-1,_,rfl,rfl,Ad.of hx2,D8 1 (by decide) (by lia),_,rfl,gp,?_⟩;generalize xs.getD (xs.length-1) 0%g^m=j at d0 d1⊢;obtain⟨k,rfl⟩:∃k:Nat,j=(k:Int):=⟨j.toNat,by lia⟩;have kl:k<tab.length:=by lia
   refine⟨p,_,_,_,rfl,rfl,Ad.of n2.2.2,B9 kl,_,rfl,a,_,-2,_,rfl,rfl,Ad.of hx2,D8 2 (by decide) (by lia),_,rfl,by lia,by lia,?_⟩;refine⟨_,rfl,_,rfl,p,_,_,k,rfl,rfl,n2.2.2,(by rw[Xk];exact Fa kl),hN _ _ ⟨_,_,rfl,⟨n2.1.into n2.2.1,n2.2.1,by rw[AC,<-List.map_set]⟩,by rw[Zo];exact tl,P8 tb ⟨YY _ (by lia),YQ _ (by lia)⟩⟩⟩
  rw[qE w4];exact hN _ _ ⟨_,tab,rfl,n2,tl,tb⟩
 rintro σ HX ⟨x8,tab',rfl,n3,tl3,tb3⟩;walk_at "rd";exact fin n3 tl3 tb3
theorem DV:AL ["_law_script","_law_first","_law_some","_law_signs","_law_many","_law_xs","_law_table_here","_law_turn","_law_wider"] ["_law_script"] (AH UF):=Cc (by decide +kernel)
theorem WP(T:CU K mg t)(G_3:A5 P w K mg base 1 t.f_3 ["_law_script","_law_k"] (JP K))(G_9:A5 P w K mg base 1 t.f_9 ["_law_cell","_law_many"] (Ew))(G_19:A5 P w K mg base 3 t.f_19 ["_law_signs","_law_many","_law_way","_law_xs"] (GH)):A5 P w K mg base 4 t.f_26 ["_law_script"] (Hy K):=by
 refine BH T.d_26 DV (λ_ _ _ _ _ _=>b1 λ_=>rfl) λvs H Q E h=>?_;obtain⟨a,ns,rfl,hS,h63,q⟩:=h;refine⟨rfl,λcdv A outer s hr=>?_⟩
 refine⟨_,(FK.out (Ag (BL (i:=1) DV.nd rfl (Or.inl rfl) (.of (Aa hr G_3 T.m_3 (AA (pv 0) (As AB)))) rfl (by first|exact .inl rfl|exact .inr rfl))
  (Ag (BL (i:=2) DV.nd rfl (Or.inl rfl) (Jk (Bc (AW (AW Bo)) (Bc (AW (AW Bo)) (Bc (AW (AW Bo)) (Bc (AW (AW Bo)) (Bc (AW (AW Bo)) (Bc (AW (AW Bo)) (Bc (AW (AW Bo)) (Bc (AW (AW Bo)) (Bc (AW (AW Bo)) (Bc (AW (AW Bo)) (Bc (AW (AW Bo)) (Bc (AW (AW Bo)) Bo))))))))))))) rfl (by first|exact .inl rfl|exact .inr rfl))
  (Ag (BL (i:=3) DV.nd rfl (Or.inr rfl) (.of (AT Ai (AT An (pv 2) (AI Ak (pv 1) AF) (λ_ _=>rfl)) AF (λ_ _=>rfl))) rfl (by first|exact .inl rfl|exact .inr rfl))
  (Ag (BL (i:=4) DV.nd rfl (Or.inl rfl) (.of (AT Ai (AT An (pv 2) (AI Ak (pv 1) AF) (λ_ _=>rfl)) AF (λ_ _=>rfl))) rfl (by first|exact .inl rfl|exact .inr rfl))
  (Ag (D1 (AN B0 (AI Ak (pv 1) AF) AF (AU _)) (B6 (BL (i:=3) DV.nd rfl (Or.inr rfl) (.of (AI A8 AF (AI Ak (AI Av (pv 1) AF) AF))) rfl (by first|exact .inl rfl|exact .inr rfl))) DU)
  (Ag (BL (i:=5) DV.nd rfl (Or.inl rfl) (.of (Aa hr G_9 T.m_9 (AA (Aa hr G_3 T.m_3 (AA (pv 0) (As AB))) (As AB)))) rfl (by first|exact .inl rfl|exact .inr rfl))
  (Ag (BL (i:=6) DV.nd rfl (Or.inr rfl) (.of (Aa hr G_19 T.m_19 (AA (pv 3) (AA (pv 4) (AA (AI Ak (AI Av (pv 1) AF) AF) (AA (pv 5) AB)))))) rfl (by first|exact .inl rfl|exact .inr rfl))
  (Ag (BL (i:=7) DV.nd rfl (Or.inr rfl) (.of (AI Ak (AT An (pv 5) (FS Dr AF) (λ_ _=>rfl)) (AI Bx AF (pv 3)))) rfl (by first|exact .inl rfl|exact .inr rfl))
  (Ag (D1 (AN EJ (pv 7) (pv 3) (AU _)) (B6 (.of (E9 (i:=6) DV.nd rfl (Or.inr rfl) (DE [(7,"_law_turn"),(3,"_law_signs")] [("_law_turn",_),("_law_signs",_)] (BZ (pv 6)) (λ_ _ _ _=>Bz) (λ_ _ _ _=>(AI Ak (AI A8 (pv 0) (pv 1)) (pv 2)))) (hs:=by with_unfolding_all rfl)))) (B6 (.of (E9 (i:=6) DV.nd rfl (Or.inr rfl) (DE [(7,"_law_turn"),(3,"_law_signs")] [("_law_turn",_),("_law_signs",_)] (BZ (pv 6)) (λ_ _ _ _=>Bz) (λ_ _ _ _=>(AI Ak (AI CA (pv 1) (pv 0)) (pv 2)))) (hs:=by with_unfolding_all rfl)))))
  (Ag (BL (i:=8) DV.nd rfl (Or.inl rfl) (.of (AI Ak (Aa hr G_3 T.m_3 (AA (pv 0) (As AB))) AF)) rfl (by first|exact .inl rfl|exact .inr rfl))
  (Ag (D1 (PW.pt (Do (AN B0 (pv 8) AF (AU _)) (DP (AN J4 (AI Bx (AV AJ rfl T.z_len X5 (AA (pv 6) AB)) (pv 3)) AF (AU _))))) (B6 (BL (i:=6) DV.nd rfl (Or.inr rfl) (.of (AI G4 (pv 6) (pv 3))) rfl (by first|exact .inl rfl|exact .inr rfl))) DU)
  (Ag (D1 (PW.pt (Do (AN B0 (pv 8) AF (AU _)) (DP (AN J4 (AI Bx (AV AJ rfl T.z_len X5 (AA (pv 6) AB)) (pv 3)) AF (AU _))))) (B6 (.of (E9 (i:=6) DV.nd rfl (Or.inr rfl) (DE [(6,"_law_table_here"),(3,"_law_signs")] [("_law_table_here",_),("_law_signs",_)] (Ap rfl T.z_range (AA (AI Bx (AV AJ rfl T.z_len X5 (AA (pv 6) AB)) (pv 3)) AB)) (λ_ _ _ _=>Bz) (λ_ _ _ _=>(AT (Bt (K:=K) rfl) (pv 1) (AI Av (pv 0) (pv 2)) (λ_ _=>rfl)))) (hs:=by with_unfolding_all rfl)))) DU)
  (B6 (.of (AO (Fp (AA (pv 3) (AA (AI A8 (AI CA (AI Ak (AI Av (Aa hr G_3 T.m_3 (AA (pv 0) (As AB))) AF) (AI CA (AI Bx AF (AI OS AF AF)) AF)) (AI OS AF AF)) AF) (AA (Df E4 rfl T.z_tuple PyProof.Rows.boot_tuple (AA (pv 6) AB)) AB)))))))))))))))))))),?_⟩
 refine A7 λN hN=>?_;walk_at "rd";refine⟨a,ns,0,rfl,hS,h63,hN _ _ ?_⟩;clear hN N;obtain⟨c0,hc0⟩:∃c:Int,c=ns.getD 0 0:=⟨_,rfl⟩;rw[<-hc0];have z0:=YY c0 (show (12:Int)≠0 by decide);have z1:=YQ c0 (show (0:Int)<12 by decide);refine A7 λN hN=>?_;have eT:((Az (EK (Az (tC (V.int 2)) (Az (tC (V.int 3)) DN))) (Az (EK (Az (tC (V.int 2)) (Az (tC (V.int 4)) DN))) (Az (EK (Az (tC (V.int 3)) (Az (tC (V.int 2)) DN))) (Az (EK (Az (tC (V.int 2)) (Az (tC (V.int 4)) DN))) (Az (EK (Az (tC (V.int 4)) (Az (tC (V.int 2)) DN))) (Az (EK (Az (tC (V.int 3)) (Az (tC (V.int 3)) DN))) (Az (EK (Az (tC (V.int 5)) (Az (tC (V.int 2)) DN))) (Az (EK (Az (tC (V.int 2)) (Az (tC (V.int 2)) DN))) (Az (EK (Az (tC (V.int 6)) (Az (tC (V.int 2)) DN))) (Az (EK (Az (tC (V.int 3)) (Az (tC (V.int 1)) DN))) (Az (EK (Az (tC (V.int 7)) (Az (tC (V.int 2)) DN))) (Az (EK (Az (tC (V.int 8)) (Az (tC (V.int 2)) DN))) DN)))))))))))):TA)=Mw LC:=rfl;rw[eT];refine TJ (Pd (by decide) (by decide) λqs H0 e0 hv ps hps=>hN _ _ ?_);clear hN N eT;obtain⟨k,hk⟩:∃k:Nat,(k:Int)=c0%12:=⟨(c0%12).toNat,by lia⟩;have kl:k<12:=by lia
 have e01:=AG.new hps (.lst (qs.map V.ref));obtain⟨sh,hqs⟩:∃b,qs[k]?=some b:=⟨_,Xs (by rw[hv.n];exact kl)⟩;obtain⟨g,m,hw,shp⟩:=LF k kl;have hsh:Aj H0 ps (.lst (qs.map V.ref)) sh=some (.tup [.int g,.int ((m:Nat):Int)]):=e01 _ _ (hv.e k sh _ hqs hw);have hpsv:Aj H0 ps (.lst (qs.map V.ref)) ps=some (.lst (qs.map V.ref)):=AC;have e1:=e0.trans e01;generalize Aj H0 ps (.lst (qs.map V.ref))=H1 at e1 hsh hpsv⊢;have at1:G0 (qs.map V.ref) (c0%12)=some (.ref sh):=by rw[<-hk];exact Cg (by rw[Xu,hqs];rfl)
 refine A7 λN hN=>?_;walk_at "rd";refine⟨by decide,ps,_,_,.ref sh,rfl,rfl,Ad.of hpsv,at1,sh,_,0,_,rfl,rfl,Bi.of hsh,rfl,hN _ _ ?_⟩;clear hN N;refine A7 λN hN=>?_;walk_at "rd";refine⟨by decide,ps,_,_,.ref sh,rfl,rfl,Ad.of hpsv,at1,sh,_,1,_,rfl,rfl,Bi.of hsh,rfl,hN _ _ ?_⟩;clear hN N;refine Ck (λσ HX=>∃(g:Int) (m:Nat),σ=[some (.ref a),some (.int c0),some (.ref ps),some (.int g),some (.int ((m:Nat):Int)),none,none,none,none]/\HX=H1/\Bg g m) (λN hN=>?_) ?_
 ·walk_at "rd";refine⟨by decide,?_⟩
  by_cases k11:c0%12=11
  ·rw[qF k11];have y0:=YY (c0/12) (show (2:Int)≠0 by decide);have y1:=YQ (c0/12) (show (0:Int)<2 by decide);refine⟨by decide,by decide,by decide,hN _ _ ⟨8+c0/12%2,m,rfl,rfl,?_⟩⟩;obtain rfl:k=11:=by lia
   cases hw;obtain z|z:c0/12%2=0\/c0/12%2=1:=by lia
   ·rw[z];unfold Bg;decide
   ·rw[z];unfold Bg;decide
  ·rw[qE k11];exact hN _ _ ⟨g,m,rfl,rfl,shp⟩
 clear shp hw hsh at1 hqs hk kl g m;rintro σ HX ⟨g,m,rfl,rfl,g2,g9,m1,m4,s81,s9⟩;have gp:=RW.Ah g2 m;refine A7 λN hN=>?_;walk_at "rd";refine⟨a,ns,1,rfl,e1.seq hS,h63,_,_,rfl,by decide,by decide,λpx H2 xs xl xb e2 n2 h2=>hN _ _ ?_⟩;clear hN N;have xl90:xs.length=90:=xl;have w0:=YY (c0/24) (show (8:Int)≠0 by decide);refine A7 λN hN=>?_;walk_at "rd";refine⟨by decide,by decide,by decide,g,m,_,px,xs,rfl,g2,g9,m1,m4,s81,w0,h2,xl90,xb,λpt tab H3 n3 tl tb=>hN _ _ ?_⟩;clear hN N;have h23:=n3.1 _ _ h2;refine A7 λN hN=>?_;walk_at "rd";refine⟨px,_,-3,_,rfl,rfl,Ad.of h23,D8 3 (by decide) (by lia),?_⟩;refine⟨.inl ⟨by decide,by decide⟩,_,rfl,by lia,hN _ _ ?_⟩;clear hN N;obtain⟨tn,htn⟩:∃t:Int,t=xs.getD (xs.length-3) 0%(2*g):=⟨_,rfl⟩;rw[<-htn];have n3t:=n3.2.2;have szn:((g^m).toNat:Int)=g^m:=by lia
 refine Ck (λσ HX=>∃pt tab,σ=[some (.ref a),some (.int c0),some (.ref ps),some (.int g),some (.int ((m:Nat):Int)),some (.ref px),some (.ref pt),some (.int tn),none]/\Fw H2 HX pt tab/\tab.length=(g^m).toNat/\∀n∈tab,0<=n/\n<g) (λN hN=>?_) ?_
 ·walk_at "rd"
  by_cases t0:tn<g
  ·rw[qF t0];refine⟨_,rfl,pt,rfl,⟨_,Ad.of n3t⟩,λD hD=>?_⟩;refine CB (xs:=tab.map V.int) (λi acc Hx=>GU g i acc/\AG H3 Hx/\Hx D=some (.lst acc)) ⟨GU.nil,AG.new hD _,AC⟩ (λi acc Hx _ z=>Ad.of (z.2.1 _ _ n3t)) ?_ ?_
   ·rintro i v acc Hx hv ⟨sg,ex,hDx⟩;obtain⟨x,hx,rfl⟩:=By hv;have xi:=(Xo.mp hx).1;walk_at "rd";exact⟨by lia,hDx,sg.len (by lia),sg.snoc g2 _,ex.into hD,AC⟩
   ·rintro acc H4 ⟨⟨us,rfl,ul,ub⟩,e4,h4⟩;exact hN _ _ ⟨D,us,rfl,⟨n3.1.trans e4,n3.1.free hD,h4⟩,by rw[ul,Xk,tl],ub⟩
  ·rw[qE t0];refine⟨_,rfl,pt,rfl,⟨_,Ad.of n3t⟩,λD hD=>?_⟩;refine CB (xs:=tab.map V.int) (λi acc Hx=>GU g i acc/\AG H3 Hx/\Hx D=some (.lst acc)) ⟨GU.nil,AG.new hD _,AC⟩ (λi acc Hx _ z=>Ad.of (z.2.1 _ _ n3t)) ?_ ?_
   ·rintro i v acc Hx hv ⟨sg,ex,hDx⟩;obtain⟨x,hx,rfl⟩:=By hv;have xi:=(Xo.mp hx).1;walk_at "rd";exact⟨by lia,hDx,sg.len (by lia),sg.snoc g2 _,ex.into hD,AC⟩
   ·rintro acc H4 ⟨⟨us,rfl,ul,ub⟩,e4,h4⟩;exact hN _ _ ⟨D,us,rfl,⟨n3.1.trans e4,n3.1.free hD,h4⟩,by rw[ul,Xk,tl],ub⟩
 clear n3t tb tl n3;rintro σ HX ⟨pt,tab,rfl,n3,tl,tb⟩;refine A7 λN hN=>?_;walk_at "rd";refine⟨a,ns,2,rfl,(e1.trans (e2.trans n3.1)).seq hS,h63,_,rfl,by decide,hN _ _ ?_⟩;clear hN N;have tlm:(tab.length:Int)=g^m:=by lia
 obtain⟨wd,hwd⟩:∃w:Int,w=ns.getD 2 0%6:=⟨_,rfl⟩;rw[<-hwd];refine Ck (λσ HY=>∃pt tab' m',σ=[some (.ref a),some (.int c0),some (.ref ps),some (.int g),some (.int ((m:Nat):Int)),some (.ref px),some (.ref pt),some (.int tn),some (.int wd)]/\AG H2 HY/\HY pt=some (.lst (tab'.map V.int))/\P9 g tab m tab' m'/\(wd=1\/tab'=tab)) (λN hN=>?_) ?_
 ·have stay:=hN _ HX ⟨pt,tab,m,rfl,n3.1,n3.2.2,⟨tlm,by lia,m1,s81,tb,λlo=>⟨lo,λ_ _=>rfl⟩⟩,.inr rfl⟩;walk_at "rd"
  by_cases w1:wd=1
  ·rw[qF w1];refine⟨_,.inl (Ad.of n3.2.2),.inr ⟨by lia,by lia⟩,?_⟩;rw[Xk,tlm]
   by_cases y:g^m*g<=64
   ·rw[qF y];refine KW n3.2.2 (by lia) (by lia) (YK (Nat.mul_le_mul (show _<=81 by rw[Xk];lia) (show g.toNat<=9 by lia)) (by decide)) λp4 H4 e4 _ h4=>hN _ _ ⟨p4,(List.replicate g.toNat tab).flatten,m+1,rfl,n3.1.trans e4,by rw[h4,List.map_flatten,aI],⟨(Hz g2 0 tlm).1,by lia,by lia,by rw[X9];lia,λn hn=>?_,λlo=>⟨_,(Hz g2 lo tlm).2⟩⟩,.inl w1⟩
    obtain⟨l,hl,hn⟩:=List.mem_flatten.mp hn;rw[(List.mem_replicate.mp hl).2]at hn;exact tb n hn
   ·rw[qE y];exact stay
  ·rw[qE w1];exact stay
 rintro σ HY ⟨p4,tab4,m4',rfl,e4,h4,W4,o4⟩;refine Ck (λσ HZ=>∃pt tab' m',σ=[some (.ref a),some (.int c0),some (.ref ps),some (.int g),some (.int ((m:Nat):Int)),some (.ref px),some (.ref pt),some (.int tn),some (.int wd)]/\AG H2 HZ/\HZ pt=some (.lst (tab'.map V.int))/\P9 g tab m tab' m') (λN hN=>?_) ?_
 ·have stay:=hN _ HY ⟨p4,tab4,m4',rfl,e4,h4,W4⟩;walk_at "rd"
  by_cases w1:wd=2
  ·rw[qF w1];obtain rfl:tab4=tab:=o4.resolve_left (by lia);refine⟨_,.inl (Ad.of h4),.inr ⟨by lia,by lia⟩,?_⟩;rw[Xk,tlm]
   by_cases y:g^m*g<=64
   ·rw[qF y];have lg:0<g^m*g:=Int.mul_pos gp (by lia)
    have ln:tab4.length*g.toNat=(g^m*g).toNat:=by
     have z:((tab4.length*g.toNat:Nat):Int)=g^m*g:=by rw[Yn,tlm,show ((g.toNat:Nat):Int)=g by lia]
     lia
    refine⟨_,rfl,p4,rfl,_,.inl (Ad.of h4),_,rfl,_,_,rfl,rfl,.inr ⟨by lia,by lia⟩,_,rfl,?_⟩;rw[Xk,tlm];refine⟨by lia,by lia,λD hD=>?_⟩;refine BI (n:=(g^m*g).toNat) (λi acc Hx=>acc=((List.range i).map λk=>tab4.getD (k/g.toNat) 0).map V.int/\AG HY Hx/\Hx D=some (.lst acc)) ⟨rfl,AG.new hD _,AC⟩ ?_ ?_
    ·rintro i acc Hx hi ⟨rfl,ex,hDx⟩;have d0:(i:Int)/g=((i/g.toNat:Nat):Int):=by rw[Yo,X8 (by lia)]
     have d1:i/g.toNat<tab4.length:=by rw[Zs (by lia),ln];exact hi
     walk_at "rd";rw[YX,d0];refine⟨by lia,by lia,p4,_,_,_,rfl,rfl,Ad.of (ex _ _ h4),B9 d1,hDx,by rw[Xk,Xk,Xx];exact AZ (by lia),?_,ex.into hD,AC⟩;rw[A6,Xv];rfl
    ·rintro acc H5 ⟨rfl,e5,h5⟩;have wl:=I0 g2 0 tlm;refine hN _ _ ⟨D,(List.range (tab4.length*g.toNat)).map λk=>tab4.getD (k/g.toNat) 0,m+1,rfl,e4.trans e5,by rw[h5,ln],⟨wl.1,by lia,by lia,by rw[X9];lia,λn hn=>?_,λlo=>⟨_,(I0 g2 lo tlm).2⟩⟩⟩;obtain⟨k,_,rfl⟩:=YH.mp hn;exact C0 (by lia) tb _
   ·rw[qE y];exact stay
  ·rw[qE w1];exact stay
 rintro σ HZ ⟨p5,tab5,m5,rfl,e5,h5,W5⟩;obtain⟨l5,m56,m51,s5,b5,al5⟩:=W5;have e5':=e2.trans e5;walk_at "rd";refine⟨a,ns,2,rfl,(e1.trans e5').seq hS,h63,_,rfl,by decide,by decide,by decide,by decide,by decide,.inl ⟨by decide,by decide⟩,by decide,by decide,by decide,by decide,_,.inl ⟨Ad.of h5,λl8 hl8=>⟨by decide,λp9 hp9=>?_⟩⟩⟩;have f8:=AG.new hl8 (.tup (tab5.map V.int));obtain⟨lo,hlo⟩:∃lo:Int,lo=ns.getD 2 0/6%(2*10^Int.toNat 60-1)-10^Int.toNat 60+1:=⟨_,rfl⟩;rw[<-hlo];have f9:=AG.new hp9 (.tup [.int g,.int lo,.ref l8]);obtain⟨lo',al⟩:=al5 lo;exact q p9 g lo tab5 m5 _ (((e1.trans e5').trans f8).trans f9) ⟨⟨l8,AC,f9 _ _ AC⟩,g2,g9,m51,by lia,l5,by lia,b5⟩ (RT ⟨g2,g9,m1,m4,s81,s9⟩ tlm l5 al)
theorem GW:AL ["_law_one","_law_row","_law_signs","_law_part","_law_counts","_law_sign","_law_ahead","_law_at"] ["_law_one","_law_row"] (AH UG):=Cc (by decide +kernel)
theorem WQ(T:CU K mg t) :A5 P w K mg base 1 t.f_15 ["_law_one","_law_row"] (GG K):=by
 refine BH T.d_15 GW (λ_ _ _ _ _ _=>b2 λ_ _=>rfl) λvs H Q E h=>?_;obtain⟨r,a,g,lo,tab,m,ns,rfl,ok,hS,q⟩:=h;refine⟨rfl,λcdv A outer s hr=>?_⟩
 refine⟨_,(AD (AR 2 GW (AT Ai (pv 0) AF (λ_ _=>rfl)))
  (AD (AR 3 GW (AI Av (AV AJ rfl T.z_len X5 (AA (AT Ai (pv 0) AF (λ_ _=>rfl)) AB)) (pv 2)))
  (AD (AR 4 GW (AI G4 (BV (As AB)) (pv 3)))
  (AD (BM PassesOwn.never rfl (BZ (pv 1)) (Be 5 GW) (AD (AR 6 GW (AI G4 (BV (As AB)) (pv 3)))
  (AD (BM PassesOwn.never rfl (Ap rfl T.z_range (AA (AV AJ rfl T.z_len X5 (AA (AT Ai (pv 0) AF (λ_ _=>rfl)) AB)) AB)) (Be 7 GW) (AE (BE (AN B0 (AT Ai (AT Ai (pv 0) AF (λ_ _=>rfl)) (pv 7) (λ_ _=>rfl)) (pv 5) (AU _)) (AE (OP (AI A8 (AT An (pv 6) (AI Ak (pv 7) (pv 3)) (λ_ _=>rfl)) (AT An (pv 4) (AI Av (pv 7) (pv 2)) (λ_ _=>rfl))) (OO (pv 6) (AI Ak (pv 7) (pv 3)) J8))) Af)))
  (AE (AR 4 GW (pv 6))))))
  (AE (AO (AV (ER rfl) rfl T.z_sum aZ (AA (pv 4) AB)))))))),?_⟩
 obtain⟨tb,h1,h2⟩:=id ok.v;have g2:=ok.g2;have g9:=ok.g9;have m1:=ok.m1;have m8:=ok.m8;have hl:=ok.len;have sz:=ok.sz;have hlm:(tab.map V.int).length=tab.length:=Xk ..;have hd:=BP g2 hl m1;have hp:=RW.Ah g2 (m-1);have hw1:0<tab.length/g.toNat:=by lia
 have hw2:=aJ tab.length g.toNat;refine A7 λN hN=>?_;walk_at "rd";refine⟨r,_,0,_,rfl,rfl,Bi.of h1,rfl,hN _ _ ?_⟩;clear hN N;refine A7 λN hN=>?_;walk_at "rd";refine⟨r,_,2,_,rfl,rfl,Bi.of h1,rfl,tb,rfl,_,.inr (Bi.of h2),by lia,by lia,hN _ _ ?_⟩;clear hN N;rw[hlm,show (tab.length:Int)/g=((tab.length/g.toNat:Nat):Int) by rw[Yo,X8 (by lia)]];refine A7 λN hN=>?_;walk_at "rd";refine⟨by decide,λp1 hp1=>?_⟩;have e1:=AG.new hp1 (.lst [V.int 1]);refine JX AC (by lia) (by lia) λp2 H2 e2 n2 hp2=>hN _ _ ?_
 clear hN N;rw[Xy]at hp2;have eA:=e1.trans e2
 have c0:H2 p2=some (.lst (((List.range (tab.length/g.toNat)).map λ_=>(1:Int)).map V.int)):=by
  rw[hp2,Za]
  congr 2
  symm
  rw[Zp];refine⟨by rw[Xk,Xx],λb hb=>?_⟩;obtain⟨x,_,e⟩:=YH.mp hb;exact e.symm
 refine Ck (λσ HX=>∃(d:Addr) (F:Nat->Int) (x4 x5 x6:Option V),σ=[some (.ref r),some (.ref a),some (.int g),some (.int ((tab.length/g.toNat:Nat):Int)),some (.ref d),x4,x5,x6]/\AG H HX/\HX d=some (.lst (((List.range (tab.length/g.toNat)).map F).map V.int))/\Am (tab.length/g.toNat) F=B5 g.toNat tab ns) (λN hN=>?_) ?_
 ·refine⟨_,rfl,a,rfl,⟨_,eA.seq hS⟩,?_⟩;refine B8 (xs:=ns.map V.int) (λi σ HX=>∃(d:Addr) (F:Nat->Int) (x4 x5 x6:Option V),σ=[some (.ref r),some (.ref a),some (.int g),some (.int ((tab.length/g.toNat:Nat):Int)),some (.ref d),x4,x5,x6]/\AG H HX/\HX d=some (.lst (((List.range (tab.length/g.toNat)).map F).map V.int))/\Am (tab.length/g.toNat) (λv=>F v*Cs g.toNat tab (ns.drop i) v)=B5 g.toNat tab ns) ⟨p2,λ_=>1,none,none,none,rfl,eA,c0,?_⟩ (λi σ HX _ z=>by obtain⟨_,_,_,_,_,_,e,_⟩:=z;exact e.seq hS) ?_ ?_
  ·unfold B5;refine Ae λk _=>?_;rw[Yg,aS]
  ·rintro i x σ HX hx ⟨d,F,x4,x5,x6,rfl,eX,hd1,inv⟩;obtain⟨s,hs,rfl⟩:=By hx;refine A7 λN2 hN2=>?_;walk_at "rd";refine⟨by decide,λp3 hp3=>?_⟩;have e3:=AG.new hp3 (.lst [V.int 0]);refine JX AC (by lia) (by lia) λp4 H4 e4 n4 hp4=>hN2 _ _ ?_
   clear hN2 N2;rw[Xy]at hp4;have eB:=e3.trans e4;have n4':HX p4=none:=e3.free n4;have hz:H4 p4=some (.lst (((List.range (tab.length/g.toNat)).map (Hw g.toNat tab s F 0)).map V.int)):=by rw[hp4,OH,aI]
   refine Ck (λσ HY=>(∃x6,σ=[some (.ref r),some (.ref a),some (.int g),some (.int ((tab.length/g.toNat:Nat):Int)),some (.ref d),some (.int s),some (.ref p4),x6])/\AG HX HY/\HY p4=some (.lst (((List.range (tab.length/g.toNat)).map (Hw g.toNat tab s F tab.length)).map V.int))) (λN2 hN2=>?_) ?_
   ·refine⟨_,rfl,r,_,2,_,rfl,rfl,Bi.of (eB _ _ (eX _ _ h1)),rfl,tb,_,rfl,.inr (Bi.of (eB _ _ (eX _ _ h2))),_,rfl,by lia,by lia,?_⟩;rw[hlm];refine Bv (n:=tab.length) (λk σ HY=>(∃x6,σ=[some (.ref r),some (.ref a),some (.int g),some (.int ((tab.length/g.toNat:Nat):Int)),some (.ref d),some (.int s),some (.ref p4),x6])/\AG HX HY/\HY p4=some (.lst (((List.range (tab.length/g.toNat)).map (Hw g.toNat tab s F k)).map V.int))) ⟨⟨_,rfl⟩,eB,hz⟩ ?_ λσ HY z=>hN2 _ _ z
    rintro k σ HY hk ⟨⟨x6,rfl⟩,eY,hy⟩;walk_at "rd";rw[YX];have k1:=eY _ _ (eX _ _ h1);have k2:=eY _ _ (eX _ _ h2);refine⟨r,_,2,_,rfl,rfl,Bi.of k1,rfl,tb,_,_,_,rfl,rfl,Bi.of k2,B9 hk,rfl,?_⟩
    by_cases es:tab.getD k 0=s
    ·rw[qF (by rw[es])];have km:(k:Int)%((tab.length/g.toNat:Nat):Int)=((k%(tab.length/g.toNat):Nat):Int):=(Yx ..).symm;have kd:(k:Int)/g=((k/g.toNat:Nat):Int):=by rw[Yo,X8 (by lia)]
     have kl:=ZW k hw1
     have kq:k/g.toNat<tab.length/g.toNat:=by rw[Zs (by lia),<-hd.2];exact hk
     rw[km];refine⟨by lia,p4,_,_,_,rfl,rfl,Ad.of hy,B9 (by rw[Xk,Xx];exact kl),by lia,by lia,d,_,_,_,rfl,rfl,Ad.of (eY _ _ hd1),(by rw[kd];exact B9 (by rw[Xk,Xx];exact kq)),_,rfl,_,rfl,?_⟩;rw[AM kl,AM kq];refine⟨_,rfl,_,rfl,_,rfl,_,_,rfl,rfl,by lia,p4,_,_,k%(tab.length/g.toNat),rfl,rfl,hy,?_,?_⟩
     ·rw[km,Xk,Xk,Xx];exact Fa kl
     ·refine⟨⟨_,rfl⟩,eY.into n4',?_⟩;rw[AC,<-List.map_set,P6 es]
    ·rw[qE (λz=>es (V.int.inj z))];refine⟨⟨_,rfl⟩,eY,?_⟩;rw[RS es];exact hy
   rintro σ HY ⟨⟨x6',rfl⟩,eY,hy⟩;walk_at "rd";refine⟨eX.trans eY,Wg g.toNat tab s F,hy,?_⟩
   have dr:ns.drop i=s::ns.drop (i+1):=by obtain⟨hlt,hget⟩:=Xo.mp hs;rw[Y0 hlt,hget]
   rw[O4 (by lia) hw1 hd.2 s (ns.drop (i+1)) F,<-dr];exact inv
  ·rintro σ HX ⟨d,F,x4,x5,x6,rfl,eX,hd1,inv⟩;refine hN _ _ ⟨d,F,x4,x5,x6,rfl,eX,hd1,?_⟩;rw[<-inv,Xk,ah];refine Ae λk _=>?_;show F k=F k*1;rw[Zn]
 rintro σ HX ⟨d,F,x4,x5,x6,rfl,eX,hd1,inv⟩;walk_at "rd";refine⟨(List.range (tab.length/g.toNat)).map F,Ad.of hd1,?_⟩;have inv2:((List.range (tab.length/g.toNat)).map F).sum=B5 g.toNat tab ns:=inv;rw[inv2];exact q _ eX
theorem GX:AL ["_law_one","_law_signs","_law_table_here","_law_heads"] ["_law_one"] (AH UH):=Cc (by decide +kernel)
theorem WR(T:CU K mg t) :A5 P w K mg base 1 t.f_16 ["_law_one"] (GF):=by
 refine BH T.d_16 GX (λ_ _ _ _ _ _=>b1 λ_=>rfl) λvs H Q E h=>?_;obtain⟨r,g,lo,tab,m,rfl,ok,q⟩:=h;refine⟨rfl,λcdv A outer s hr=>?_⟩
 refine⟨_,(AD (AR 1 GX (AT Ai (pv 0) AF (λ_ _=>rfl)))
  (AD (AR 2 GX (Df Dt rfl T.z_list Zi (AA (AT Ai (pv 0) AF (λ_ _=>rfl)) AB)))
  (AD (CG PassesOwn.never (PW.pt (Do (AN EB (AV AJ rfl T.z_len X5 (AA (pv 2) AB)) (pv 1) (AU _)) (DP (AN (G7 hr.units) (pv 2) (AI G4 (CI Cy (pv 2) Ds (CH (AI Av (AV AJ rfl T.z_len X5 (AA (pv 2) AB)) (pv 1)))) (pv 1)) (AU _))))) (AE (AR 2 GX (CI Cy (pv 2) Ds (CH (AI Av (AV AJ rfl T.z_len X5 (AA (pv 2) AB)) (pv 1)))))))
  (AD (Dw (iy:=3) (fv:=[(2,"_law_table_here"),(1,"_law_signs")]) (cl:=[("_law_table_here",_),("_law_signs",_)]) rfl GX.nd rfl (Or.inl rfl) (Ap rfl T.z_range (AA (AV AJ rfl T.z_len X5 (AA (pv 2) AB)) AB)) (by with_unfolding_all rfl) (by with_unfolding_all rfl) (by decide +kernel) rfl (by decide +kernel) rfl ⟨(by with_unfolding_all rfl),⟨(by with_unfolding_all rfl),trivial⟩⟩ (by with_unfolding_all rfl) ⟨⟨rfl,rfl,(by with_unfolding_all rfl),rfl⟩,⟨⟨rfl,rfl,(by with_unfolding_all rfl),rfl⟩,trivial⟩⟩ (by decide) (λ_ _ _ _=>Bz) (λ_ _ _ _=>(AT (Bt (K:=K) rfl) (pv 1) (AI CA (pv 0) (AI Ak (pv 0) (pv 2))) (λ_ _=>rfl))))
  (AD (CG PassesOwn.never (PW.pt (Do (AN EB (AV AJ rfl T.z_len X5 (AA (pv 2) AB)) (pv 1) (AU _)) (DP (AN (G7 hr.units) (pv 2) (pv 3) (AU _))))) (AD (E9 (i:=2) GX.nd rfl (Or.inr rfl) (DE [(2,"_law_table_here")] [("_law_table_here",_)] (Nh rfl T.z_range (As (AA (AV AJ rfl T.z_len X5 (AA (pv 2) AB)) (AA (pv 1) AB)))) (λ_ _ _ _=>Bz) (λ_ _ _ _=>(AT (Bt (K:=K) rfl) (pv 1) (pv 0) (λ_ _=>rfl)))) (hs:=by with_unfolding_all rfl))
  (AE (Dw (iy:=3) (fv:=[(2,"_law_table_here"),(1,"_law_signs")]) (cl:=[("_law_table_here",_),("_law_signs",_)]) rfl GX.nd rfl (Or.inl rfl) (Ap rfl T.z_range (AA (AV AJ rfl T.z_len X5 (AA (pv 2) AB)) AB)) (by with_unfolding_all rfl) (by with_unfolding_all rfl) (by decide +kernel) rfl (by decide +kernel) rfl ⟨(by with_unfolding_all rfl),⟨(by with_unfolding_all rfl),trivial⟩⟩ (by with_unfolding_all rfl) ⟨⟨rfl,rfl,(by with_unfolding_all rfl),rfl⟩,⟨⟨rfl,rfl,(by with_unfolding_all rfl),rfl⟩,trivial⟩⟩ (by decide) (λ_ _ _ _=>Bz) (λ_ _ _ _=>(AT (Bt (K:=K) rfl) (pv 1) (AI CA (pv 0) (AI Ak (pv 0) (pv 2))) (λ_ _=>rfl)))))))
  (AD (BE (AN B0 (AV AJ rfl T.z_len X5 (AA (pv 2) AB)) (pv 1) (AU _)) (AE (E9 (i:=2) GX.nd rfl (Or.inr rfl) (DE [(2,"_law_table_here"),(1,"_law_signs")] [("_law_table_here",_),("_law_signs",_)] (Ap rfl T.z_range (AA (AI Bx (pv 1) (pv 1)) AB)) (λ_ _ _ _=>Bz) (λ_ _ _ _=>(AT (Bt (K:=K) rfl) (pv 1) (AI Av (pv 0) (pv 2)) (λ_ _=>rfl)))) (hs:=by with_unfolding_all rfl))) Af)
  (AE (AO (pv 2))))))))),?_⟩
 obtain⟨tb,r1,r2⟩:=id ok.v;have g2:=ok.g2;have g9:=ok.g9;have hl:=ok.len;have m1:=ok.m1;have m8:=ok.m8;have sz:=ok.sz;have tbb:=ok.tb;refine A7 λN hN=>?_;walk_at "rd";refine⟨r,_,0,_,rfl,rfl,Bi.of r1,rfl,hN _ _ ?_⟩;clear hN N;refine A7 λN hN=>?_;walk_at "rd";refine⟨r,_,2,_,rfl,rfl,Bi.of r1,rfl,tb,rfl,_,.inr (Bi.of r2),λp0 hp0=>hN _ _ ?_⟩;clear hN N;have e0:=AG.new hp0 (.lst (tab.map V.int));refine Sq (λHX=>AG H HX/\HX p0=some (.lst (tab.map V.int))) ⟨e0,AC⟩ ?_;clear e0 hp0;rintro H0 ⟨e0,h0⟩;have gn:((g.toNat:Nat):Int)=g:=by lia
 have c0:Ez g lo tab m lo tab m:=⟨m1,Xr _,hl,tbb,λ_ _=>rfl⟩;refine Ck (λσ HX=>∃(p:Addr) (lo':Int) (tab':List Int) (m':Nat),σ=[some (.ref r),some (.int g),some (.ref p),none]/\AG H HX/\HX p=some (.lst (tab'.map V.int))/\Ez g lo tab m lo' tab' m'/\(2<=m'->BC g tab' (g^(m'-1))=true)) (λN hN=>?_) ?_
 ·refine EI (λσ HX=>∃(p:Addr) (lo':Int) (tab':List Int) (m':Nat),σ=[some (.ref r),some (.int g),some (.ref p),none]/\AG H HX/\HX p=some (.lst (tab'.map V.int))/\Ez g lo tab m lo' tab' m')
   (λ(σ:St) (HX:Hp)=>match σ[2]? with|some (some (V.ref d))=>(match HX d with|some (.lst xs)=>xs.length|_=>0)|_=>0) ⟨p0,lo,tab,m,rfl,e0,h0,c0⟩ ?_ ?_
  ·rintro σ HX ⟨p,lo',tab',m',rfl,eX,hpX,c⟩;have hh:=c.half g2;have cl:=c.len;have g1:g^1=g:=by rw[X9,YJ,Yg]
   have hlm:(tab'.map V.int).length=tab'.length:=Xk ..;have hsz:tab'.length<=256:=by have:=Bu g2 c.le;lia
   have e:(((tab'.map V.int).length:Nat):Int)/g=((tab'.length/g.toNat:Nat):Int):=by rw[hlm,Yo,gn]
   walk_at "rd";refine⟨_,.inl (Ad.of hpX),?_⟩
   by_cases z:g<(((tab'.map V.int).length:Nat):Int)
   ·rw[qF z]
    have m2:2<=m':=by
     have m1:=c.m1
     by_cases y:m'=1
     ·subst y;lia
     ·lia
    refine⟨_,.inl (Ad.of hpX),by lia,by lia,?_⟩;rw[e];refine Dx (Ad.of hpX) λp2 H2 e2 _ h2'=>?_;rw[JY,<-List.map_take]at h2';refine KW h2' (by lia) (by lia) ?_ λp3 H3 e3 _ h3=>?_
    ·rw[Xk,YC];have:=hh.2;have:tab'.length/g.toNat<=tab'.length:=aJ ..;have:min (tab'.length/g.toNat) tab'.length*g.toNat<=tab'.length:=by rw[aq this];lia
     lia
    rw[<-aI,<-List.map_flatten]at h3;have e23:=e2.trans e3;refine⟨p3,rfl,tab',Ad.of (e23 _ _ hpX),_,Ad.of h3,?_⟩
    by_cases y:tab'=(List.replicate g.toNat (tab'.take (tab'.length/g.toNat))).flatten
    ·rw[qF y];refine⟨_,.inl (Ad.of (e23 _ _ hpX)),by lia,by lia,?_⟩;rw[e];refine Dx (Ad.of (e23 _ _ hpX)) λp4 H4 e4 _ h4=>?_;rw[JY,<-List.map_take]at h4;have c2:=c.first g2 m2 y;refine⟨⟨p4,rfl,(eX.trans e23).trans e4,lo'+1,_,h4,_,c2⟩,?_⟩;dsimp only;rw[h4,hpX];show ((tab'.take _).map V.int).length<(tab'.map V.int).length;rw[Xk,YC,hlm];have:tab'.length/g.toNat<tab'.length:=Nat.div_lt_self (by lia) (by lia);lia
    ·rw[qE y];exact hN _ _ ⟨p,lo',tab',m',rfl,eX.trans e23,e23 _ _ hpX,c,λ_=>c.first_counts g2 y⟩
   ·rw[qE z];refine hN _ _ ⟨p,lo',tab',m',rfl,eX,hpX,c,λm2=>?_⟩;have:=JV g2 (show 1<m' by lia);lia
  ·intro σ H1 Q1 Q2 hq;walk_at "rd";rintro⟨v,h1,p,e1,x,h2,v2,h3,x1,e3,hh⟩;refine⟨v,h1,p,e1,x,h2,v2,h3,x1,e3,?_⟩
   by_cases z:x1<(x.length:Int)
   ·rw[qF z]at hh⊢;obtain⟨a1,b1,a2,b2,a3,b3,p4,b4,x4,b5,a6,b6,x7,b7,y1,y2,s1,s2,s3,s4,hh⟩:=hh;refine⟨a1,b1,a2,b2,a3,b3,p4,b4,x4,b5,a6,b6,x7,b7,y1,y2,s1,s2,s3,s4,λq hq2=>?_⟩;obtain⟨a8,b8,l,k,xs,c1,c2,c3,c4,c5,c6,hh⟩:=hh q hq2;refine⟨a8,b8,l,k,xs,c1,c2,c3,c4,c5,c6,λq2 hq3=>?_⟩;obtain⟨d1,d2,d3,d4,d5,d6,d7,d8,hh⟩:=hh q2 hq3;exact⟨d1,d2,d3,d4,d5,d6,d7,d8,hq _ _ hh⟩
   ·rw[qE z]at hh⊢;exact hq _ _ hh
 clear c0;rintro σ HX ⟨p,lo',tab',m',rfl,eX,hpX,c,k0⟩;have hsz:tab'.length<=256:=by have:=Bu g2 c.le;have:=c.len;lia
 refine A7 λN hN=>?_;refine⟨_,rfl,p,_,rfl,.inl (Ad.of hpX),_,rfl,by rw[Xk];lia,by rw[Xk];lia,λD hD=>?_⟩;rw[Xk];refine BI (n:=tab'.length) (λi acc Hx=>acc=((List.range i).map λk=>tab'.getD (k-k%g.toNat) 0).map V.int/\AG HX Hx/\Hx D=some (.lst acc)) ⟨rfl,AG.new hD _,AC⟩ ?_ ?_
 ·rintro i acc Hx hi ⟨rfl,ex,hDx⟩;have ei:(0+(i:Int))-(0+(i:Int))%g=((i-i%g.toNat:Nat):Int):=by have:=ay i g.toNat;rw[YX,Int.natCast_sub this,Yx,gn]
  walk_at "rd";rw[ei];refine⟨by lia,p,_,_,_,rfl,rfl,Ad.of (ex _ _ hpX),B9 (by lia),hDx,?_,?_,ex.into hD,AC⟩
  ·rw[Xk,Xk,Xx];exact AZ (by lia)
  ·rw[A6,Xv];rfl
 rintro acc H5 ⟨rfl,e5,h5⟩;refine hN _ _ ?_;clear hN N hsz;refine Ck (λσ HX=>∃(p:Addr) (x4:Option V) (lo':Int) (tab':List Int) (m':Nat),σ=[some (.ref r),some (.int g),some (.ref p),x4]/\AG H HX/\HX p=some (.lst (tab'.map V.int))/\Ez g lo tab m lo' tab' m'/\(2<=m'->BC g tab' (g^(m'-1))=true/\BC g tab' 1=true)) (λN hN=>?_) ?_
 ·refine EI (λσ HX=>∃(p q:Addr) (lo':Int) (tab':List Int) (m':Nat),σ=[some (.ref r),some (.int g),some (.ref p),some (.ref q)]/\AG H HX/\HX p=some (.lst (tab'.map V.int))/\HX q=some (.lst (((List.range tab'.length).map λk=>tab'.getD (k-k%g.toNat) 0).map V.int))/\Ez g lo tab m lo' tab' m'/\(2<=m'->BC g tab' (g^(m'-1))=true))
   (λ(σ:St) (HX:Hp)=>match σ[2]? with|some (some (V.ref d))=>(match HX d with|some (.lst xs)=>xs.length|_=>0)|_=>0) ⟨p,_,lo',tab',m',rfl,eX.trans e5,e5 _ _ hpX,h5,c,k0⟩ ?_ ?_
  ·clear k0 c h5 e5 hpX eX;rintro σ HX ⟨p,q',lo',tab',m',rfl,eX,hpX,hqX,c,k0⟩;have hh:=c.half g2;have cl:=c.len;have g1:g^1=g:=by rw[X9,YJ,Yg]
   have hlm:(tab'.map V.int).length=tab'.length:=Xk ..;have hsz:tab'.length<=256:=by have:=Bu g2 c.le;lia
   walk_at "rd";refine⟨_,.inl (Ad.of hpX),?_⟩
   by_cases z:g<(((tab'.map V.int).length:Nat):Int)
   ·rw[qF z]
    have m2:2<=m':=by
     have m1:=c.m1
     by_cases y:m'=1
     ·subst y;lia
     ·lia
    refine⟨tab',Ad.of hpX,_,Ad.of hqX,?_⟩
    by_cases y:tab'=(List.range tab'.length).map λk=>tab'.getD (k-k%g.toNat) 0
    ·rw[qF y];have c2:=c.last g2 m2 y;have s2:2<=m'-1->_:=λm3=>c.stays g2 (by lia) y (k0 m2)
     have hpos:1<=tab'.length/g.toNat:=by have:=RW.Ah g2 (m'-1);lia
     refine⟨_,rfl,p,rfl,_,.inl (Ad.of hpX),_,rfl,0,_,g,rfl,⟨by decide,by decide,by lia,by lia,by lia,by lia⟩,λD hD=>?_⟩;rw[hlm,Q7 g2 hh.2 hpos];have hle:tab'.length/g.toNat<=tab'.length:=aJ ..;refine KQ (lo:=0) (c:=g) (n:=tab'.length/g.toNat) (λi acc Hx=>acc=((List.range i).map λk=>tab'.getD (k*g.toNat) 0).map V.int/\AG HX Hx/\Hx D=some (.lst acc)) ⟨rfl,AG.new hD _,AC⟩ ?_ ?_
     ·rintro i acc Hx hi ⟨rfl,ex,hDx⟩;have ei:0+(i:Int)*g=((i*g.toNat:Nat):Int):=by rw[YX,Yn,gn]
      have il:i*g.toNat<tab'.length:=by have:=Nat.mul_lt_mul_of_pos_right hi (show 0<g.toNat by lia);lia
      walk_at "rd";rw[ei];refine⟨p,_,_,_,rfl,rfl,Ad.of (ex _ _ hpX),B9 il,hDx,?_,?_,ex.into hD,AC⟩
      ·rw[Xk,Xk,Xx];exact AZ (by lia)
      ·rw[A6,Xv];rfl
     rintro acc H6 ⟨rfl,e6,h6⟩
     have ll:((List.range (tab'.length/g.toNat)).map λk=>tab'.getD (k*g.toNat) 0).length<tab'.length:=by rw[Xk,Xx];exact Nat.div_lt_self (by lia) (by lia)
     obtain⟨T2,hT2⟩:∃T2,T2=(List.range (tab'.length/g.toNat)).map λk=>tab'.getD (k*g.toNat) 0:=⟨_,rfl⟩
     rw[<-hT2]at h6 c2 s2 ll;refine⟨_,rfl,D,rfl,_,.inl (Ad.of h6),_,rfl,by rw[Xk];lia,by rw[Xk];lia,λD2 hD2=>?_⟩;rw[Xk];refine BI (n:=T2.length) (λi acc Hx=>acc=((List.range i).map λk=>T2.getD (k-k%g.toNat) 0).map V.int/\AG H6 Hx/\Hx D2=some (.lst acc)) ⟨rfl,AG.new hD2 _,AC⟩ ?_ ?_
     ·rintro i acc Hx hi ⟨rfl,ex,hDx⟩;have ei:(0+(i:Int))-(0+(i:Int))%g=((i-i%g.toNat:Nat):Int):=by have:=ay i g.toNat;rw[YX,Int.natCast_sub this,Yx,gn]
      walk_at "rd";rw[ei];refine⟨by lia,D,_,_,_,rfl,rfl,Ad.of (ex _ _ h6),B9 (by lia),hDx,?_,?_,ex.into hD2,AC⟩
      ·rw[Xk,Xk,Xx];exact AZ (by lia)
      ·rw[A6,Xv];rfl
     rintro acc H7 ⟨rfl,e7,h7⟩;refine⟨⟨D,rfl,D2,rfl,(eX.trans e6).trans e7,lo',T2,e7 _ _ h6,h7,_,c2,s2⟩,?_⟩;dsimp only;rw[e7 _ _ h6,hpX];show (T2.map V.int).length<(tab'.map V.int).length;rw[Xk,hlm];exact ll
    ·rw[qE y];exact hN _ _ ⟨p,_,lo',tab',m',rfl,eX,hpX,c,λ_=>⟨k0 m2,c.last_counts g2 y⟩⟩
   ·rw[qE z];refine hN _ _ ⟨p,_,lo',tab',m',rfl,eX,hpX,c,λm2=>?_⟩;have:=JV g2 (show 1<m' by lia);lia
  ·intro σ H1 Q1 Q2 hq;walk_at "rd";rintro⟨v,h1,p,e1,x,h2,v2,h3,x1,e3,hh⟩;refine⟨v,h1,p,e1,x,h2,v2,h3,x1,e3,?_⟩
   by_cases z:x1<(x.length:Int)
   ·rw[qF z]at hh⊢;obtain⟨a1,b1,a2,b2,a3,b3,a4,b4,a5,b5,a6,b6,hh⟩:=hh;exact⟨a1,b1,a2,b2,a3,b3,a4,b4,a5,b5,a6,b6,hq _ _ hh⟩
   ·rw[qE z]at hh⊢;exact hq _ _ hh
 clear k0 c h5 e5 hpX eX;rintro σ HX ⟨p,x4,lo',tab',m',rfl,eX,hpX,c,k0⟩;refine Ck (λσ HX=>∃(p:Addr) (x4:Option V) (lf:Int) (tf:List Int) (mf:Nat),σ=[some (.ref r),some (.int g),some (.ref p),x4]/\AG H HX/\HX p=some (.lst (tf.map V.int))/\BD g lo tab m lf tf mf/\(tf.length:Int)=g^mf/\mf<=8) (λN hN=>?_) ?_
 ·have cl:=c.len;have g1:g^1=g:=by rw[X9,YJ,Yg]
  have hlm:(tab'.map V.int).length=tab'.length:=Xk ..;walk_at "rd";refine⟨_,.inl (Ad.of hpX),?_⟩;rw[hlm]
  by_cases z:(tab'.length:Int)=g
  ·rw[qF z];have mf1:m'=1:=Cz g2 (by rw[g1,<-cl];exact z);have ggn:g*g=((g.toNat*g.toNat:Nat):Int):=by rw[Yn,gn]
   have gg0:0<=g*g:=Zh (by lia) (by lia);have gg1:g*g<=9*9:=Z5 g9 g9 (by lia) (by lia);refine⟨_,rfl,_,rfl,_,_,rfl,rfl,.inr ⟨by lia,by lia⟩,_,rfl,by lia,by lia,λD hD=>?_⟩;rw[show (g*g).toNat=g.toNat*g.toNat by rw[ggn,Xy]];refine BI (n:=g.toNat*g.toNat) (λi acc Hx=>acc=((List.range i).map λk=>tab'.getD (k/g.toNat) 0).map V.int/\AG HX Hx/\Hx D=some (.lst acc)) ⟨rfl,AG.new hD _,AC⟩ ?_ ?_
   ·rintro i acc Hx hi ⟨rfl,ex,hDx⟩;have ei:(0+(i:Int))/g=((i/g.toNat:Nat):Int):=by rw[YX,Yo,gn]
    have il:i/g.toNat<tab'.length:=by have:=Z1 hi;lia
    walk_at "rd";rw[ei];refine⟨by lia,by lia,p,_,_,_,rfl,rfl,Ad.of (ex _ _ hpX),B9 il,hDx,?_,?_,ex.into hD,AC⟩
    ·rw[Xk,Xk,Xx];exact AZ (by lia)
    ·rw[A6,Xv];rfl
   rintro acc H7 ⟨rfl,e7,h7⟩
   obtain⟨x,hx0,hx1⟩:∃x:Int,(tab'=List.replicate g.toNat (tab'.getD 0 0)->x=0)/\(¬tab'=List.replicate g.toNat (tab'.getD 0 0)->x=lo'):=by
    by_cases y:tab'=List.replicate g.toNat (tab'.getD 0 0)
    ·exact⟨0,λ_=>rfl,λne=>qG y ne⟩
    ·exact⟨lo',λe=>qG e y,λ_=>rfl⟩
   exact hN _ _ ⟨D,x4,x,_,2,rfl,eX.trans e7,h7,c.frame1 g2 hl mf1 x hx0 hx1,by rw[Xk,Xx,<-ggn,show (2:Nat)=1+1 from rfl,X9,g1],by decide⟩
  ·rw[qE z]
   have m2:2<=m':=by
    have m1:=c.m1
    by_cases y:m'=1
    ·subst y;lia
    ·lia
   exact hN _ _ ⟨p,x4,lo',tab',m',rfl,eX,hpX,c.frame g2 hl m2 (k0 m2).1 (k0 m2).2,cl,YK c.le m8⟩
 rintro σ H8 ⟨p',x4',lf,tf,mf,rfl,e8,h8,fw,tl,mf8⟩;walk_at "rd";exact q p' lf tf mf _ e8 fw h8 tl mf8
theorem WS:AL ["_law_some","_law_node"] ["_law_some","_law_node"] (AH UI):=Cc (by decide +kernel)
theorem WT(T:CU K mg t)(G_18:A5 P w K mg base 1 t.f_18 ["_law_signs","_law_many"] (Em)):A5 P w K mg base 2 t.f_36 ["_law_some","_law_node"] (Jx):=by
 refine BH T.d_36 WS (λ_ _ _ _ _ _=>b2 λ_ _=>rfl) λvs H Q E h=>?_;obtain⟨x,k,rfl,x0,k9,q⟩:=h;refine⟨rfl,λcdv A outer s hr=>?_⟩;refine⟨_,(AE (AO (Ej B0 (AI Ak (AI Av (pv 0) (Aa hr G_18 T.m_18 (As (AA (pv 1) AB)))) AF) AF (AU _)))),?_⟩;walk_at "rd";have p1:(2:Int)^k=((2^k:Nat):Int):=by rw[ZY];rfl
 have p2:2^k<=2^9:=aj (by decide) k9;have p3:1<=2^k:=Nat.pos_of_ne_zero (by simp);refine⟨2,_,rfl,by decide,by decide,by lia,by lia,_,rfl,?_⟩;rw[Xy];exact⟨by lia,by lia,by decide,q⟩
theorem JB:AL ["_law_paper","_law_part","_law_row","_law_steps","_law_told_here","_law_sets_here","_law_sign","_law_some"] ["_law_paper","_law_part","_law_row"] (AH UJ):=Cc (by decide +kernel)
theorem WU(T:CU K mg t)(G_18:A5 P w K mg base 1 t.f_18 ["_law_signs","_law_many"] (Em))(G_20:A5 P w K mg base 1 t.f_20 ["_law_found"] (Du)):A5 P w K mg base 2 t.f_27 ["_law_paper","_law_part","_law_row"] (IA):=by
 refine BH T.d_27 JB (λ_ _ _ _ _ _=>b3 λ_ _ _=>rfl) λvs H Q E h=>?_;obtain⟨p,b,g,tf,row,Z,fo,rfl,pap,nd,z6,h9,hb,rb,rl,full,cl,wk,q⟩:=h;refine⟨rfl,λcdv A outer s hr=>?_⟩
 refine⟨_,(AD (AR 3 JB Fd)
  (AD (BM PassesOwn.never rfl (BZ (pv 0)) (Be 4 JB) (AE (Jm (Cj hr) (pv 3) (AT Ai (pv 4) AF (λ_ _=>rfl)) (AT Ai (pv 4) AF (λ_ _=>rfl)) rfl)))
  (AD (AR 5 JB (BV (AA (AI CA (Aa hr G_18 T.m_18 (As (AA (pv 1) AB))) AF) AB)))
  (AD (BM PassesOwn.never rfl (BZ (pv 2)) (Be 6 JB) (AD (BE (JD (Ep (Cj hr) (AT An (pv 5) (FS Dr AF) (λ_ _=>rfl)) (pv 3))) (AE (AO EH)) Af)
  (AD (AR 7 JB (AT An (D3 (Cj hr) (pv 3) (AT An (pv 5) (FS Dr AF) (λ_ _=>rfl)) (λ_ _=>rfl)) (pv 6) (λ_ _=>rfl)))
  (AD (BE (PW.pt (E2 (DW (CF (Aa hr G_20 T.m_20 (AA (pv 7) AB)))) (E8 (AN EJ (pv 7) AF (AU _))))) (AE (AO EH)) Af)
  (AE (BF (CQ YB YM YN BR (pv 5) (AA (pv 7) AB))))))))
  (AE (AO (pv 5))))))),?_⟩
 obtain⟨ts,h1,tl,hts⟩:=pap;refine A7 λN hN=>?_;intro d hd;refine hN _ _ ?_;clear hN N;have e1:=AG.new hd (.dK (Au [] []));refine Ck (λσ HX=>(∃x4,σ=[some (.ref p),some (.int ((tf.length/g.toNat:Nat):Int)),some (.ref b),some (.ref d),x4,none,none,none])/\AG H HX/\∃ls:List Addr,ls.length=Z.length/\HX d=some (.dK (Au Z (ls.map V.ref)))/\∀(i:Nat) l z,ls[i]?=some l->Z[i]?=some z->H l=some (.lst ((AQ g tf z).map V.int))) (λN hN=>?_) ?_
 ·refine⟨_,rfl,p,rfl,⟨_,Ad.of (e1 _ _ h1)⟩,?_⟩;refine B8 (xs:=ts.map V.ref) (λi σ HX=>(∃x4,σ=[some (.ref p),some (.int ((tf.length/g.toNat:Nat):Int)),some (.ref b),some (.ref d),x4,none,none,none])/\AG H HX/\∃ls:List Addr,ls.length=i/\HX d=some (.dK (Au (Z.take i) (ls.map V.ref)))/\∀(j:Nat) l z,ls[j]?=some l->Z[j]?=some z->H l=some (.lst ((AQ g tf z).map V.int))) ⟨⟨_,rfl⟩,e1,[],rfl,AC,λj l z h=>by simp at h⟩ (λi σ HX _ z=>Ad.of (z.2.1 _ _ h1)) ?_ ?_
  ·rintro i v σ HX hv ⟨⟨x4,rfl⟩,eX,ls,ll,hX,hls⟩;rw[Xu]at hv;obtain⟨tt,htt,rfl⟩:=Ys.mp hv;have ti:=(Xo.mp htt).1;have zi:i<Z.length:=by lia
   obtain⟨l,k1,k2⟩:=hts i tt Z[i] htt (Xs zi)
   have zn:Z[i]∉Z.take i:=λz=>by obtain⟨j,hj,ej⟩:=Z2.mp z;rw[YC]at hj;rw[aQ]at ej;have:=(aa nd).mp ej;lia
   have kX:=eX _ _ k1;refine⟨_,rfl,tt,_,1,_,rfl,rfl,Bi.of kX,rfl,_,rfl,_,rfl,tt,_,0,_,rfl,rfl,Bi.of kX,rfl,d,_,rfl,Lz.k (k:=Sum.inl Z[i]) hX (by rw[C7 (by rw[Xk,ll,YC];lia),YC,sizeLine_eq];lia),?_⟩;rw[Ff (by rw[Xk,ll,YC];lia) zn];refine⟨⟨_,rfl⟩,eX.into hd,ls++[l],by rw[Xp,ll];rfl,?_,λj l' z q1 q2=>?_⟩
   ·rw[AC,ZI,Xs zi,Xv];rfl
   ·by_cases jl:j<ls.length
    ·rw[YL jl]at q1;exact hls j l' z q1 q2
    ·rw[X4 (by lia)]at q1
     obtain⟨y1,y2⟩:j=ls.length/\l=l':=by
      rcases ZS (j-ls.length) with y|y
      ·rw[y]at q1;exact⟨by lia,Option.some.inj q1⟩
      ·rw[List.getElem?_eq_none (by simp only[List.length_singleton];lia)]at q1;cases q1
     subst y2;rw[y1,ll,Xs zi]at q2;cases q2;exact k2
  ·rintro σ HX ⟨hσ,eX,ls,ll,hX,hls⟩;rw[Xk]at ll;rw[Xk,tl,YT]at hX;exact hN _ _ ⟨hσ,eX,ls,by lia,hX,hls⟩
 rintro σ H1 ⟨⟨x4,rfl⟩,e1,ls,ll,hd1,hls⟩;refine A7 λN hN=>?_;walk_at "rd";refine⟨2,_,rfl,by decide,by decide,Int.natCast_nonneg _,by lia,_,rfl,by decide,λp2 hp2=>hN _ _ ?_⟩;clear hN N;rw[Xy];have e2:=AG.new hp2 (.lst [V.int (2^(tf.length/g.toNat)-1)])
 have nx:∀{HX:Hp} {x:Int},AG H1 HX->x∈Z->∃l,DZ HX d (.int x) (some (.ref l))/\HX l=some (.lst ((AQ g tf x).map V.int)):=λ{HX x} e hx=>by obtain⟨i,hi⟩:=Eb hx;obtain⟨l,hl⟩:=Hj ll hi;exact⟨l,.inl ⟨_,Sum.inl x,.inl (e _ _ hd1),rfl,by rw[Bw nd hi (by rw[Xu,hl];rfl)]⟩,e _ _ (e1 _ _ (hls i l x hl hi))⟩
 have inZ:∀i,i<=row.length->A4 g tf (AS g tf) (row.take i)∈Z:=λi=>by
  induction i with
  |zero=>intro _;rw[List.take_zero];exact full
  |succ i ih =>
   intro hi;have hr:=Xs (show i<row.length by lia);have br:=rb _ (X3 hr);rw[Ix _ hr br.1 br.2];refine cl _ (ih (by lia)) _ ?_;have lt:row[i].toNat<(AQ g tf (A4 g tf (AS g tf) (row.take i))).length:=by rw[Bq];lia
   rw[Xm,Xs lt];exact List.getElem_mem _
 refine Ck (λσ HX=>(∃x6 x7,σ=[some (.ref p),some (.int ((tf.length/g.toNat:Nat):Int)),some (.ref b),some (.ref d),x4,some (.ref p2),x6,x7])/\AG H HX/\HX p2=some (.lst ((EE g tf row).map V.int))) (λN hN=>?_) ?_
 ·refine⟨_,rfl,b,rfl,⟨_,Ad.of (e2 _ _ (e1 _ _ hb))⟩,?_⟩;refine B8 (xs:=row.map V.int) (λi σ HX=>(∃x6 x7,σ=[some (.ref p),some (.int ((tf.length/g.toNat:Nat):Int)),some (.ref b),some (.ref d),x4,some (.ref p2),x6,x7])/\AG H1 HX/\HX p2=some (.lst (((List.range (i+1)).map λi=>A4 g tf (AS g tf) (row.take i)).map V.int))) ⟨⟨_,_,rfl⟩,e2,AC⟩ (λi σ HX _ z=>Ad.of (z.2.1 _ _ (e1 _ _ hb))) ?_ ?_
  ·rintro i v σ HX hv ⟨⟨x6,x7,rfl⟩,eX,hX⟩;obtain⟨s,hs,rfl⟩:=By hv;have si:=(Xo.mp hs).1;have sb:=rb s (X3 hs);have la:G0 (((List.range (i+1)).map λi=>A4 g tf (AS g tf) (row.take i)).map V.int) (-1)=some (V.int (A4 g tf (AS g tf) (row.take i))):=by have z:=D8 (ns:=(List.range (i+1)).map λi=>A4 g tf (AS g tf) (row.take i)) 1 (by decide) (by rw[Xk,Xx];lia);rw[Xk,Xx,ZR,AM (by lia)]at z;exact z
   have iz:=inZ i (by lia);have w1:=wk (i+1) (by lia);refine Ck (λσ HY=>σ=[some (.ref p),some (.int ((tf.length/g.toNat:Nat):Int)),some (.ref b),some (.ref d),x4,some (.ref p2),some (.int s),x7]/\HY=HX) (λN2 hN2=>?_) ?_
   ·obtain⟨l,dg,hl⟩:=nx eX iz;walk_at "rd";refine⟨_,rfl,1,rfl,p2,_,-1,_,rfl,rfl,Ad.of hX,la,_,rfl,d,_,rfl,dg,_,rfl,?_⟩;exact OZ (hN2 _ _ ⟨rfl,rfl⟩)
   rintro σ HY ⟨rfl,rfl⟩;obtain⟨l,dg,hl⟩:=nx eX iz;have sl:s.toNat<(AQ g tf (A4 g tf (AS g tf) (row.take i))).length:=by rw[Bq];lia
   refine A7 λN2 hN2=>?_;walk_at "rd";refine⟨_,rfl,_,rfl,1,rfl,p2,_,-1,_,rfl,rfl,Ad.of hX,la,d,.ref l,rfl,dg,l,_,_,_,rfl,rfl,Ad.of hl,Cr sb.1 sl,hN2 _ _ ?_⟩;clear hN2 N2;rw[<-Ix _ hs sb.1 sb.2];refine Ck (λσ HZ=>σ=[some (.ref p),some (.int ((tf.length/g.toNat:Nat):Int)),some (.ref b),some (.ref d),x4,some (.ref p2),some (.int s),some (.int (A4 g tf (AS g tf) (row.take (i+1))))]/\HZ=HY) (λN2 hN2=>?_) ?_
   ·walk_at "rd";refine⟨_,rfl,True.intro,_,rfl,?_⟩;rw[qE (show ¬Lc (V.int (A4 g tf (AS g tf) (row.take (i+1))))=false from λz=>by cases z),qE (by lia)];exact hN2 _ _ ⟨rfl,rfl⟩
   rintro σ HZ ⟨rfl,rfl⟩;walk_at "rd";refine⟨.inl ⟨_,Ad.of hX⟩,_,hX,by rw[Xk,Xk,Xx];exact AZ (by lia),⟨_,rfl⟩,eX.into hp2,?_⟩;rw[AC,A6 _ (i+1),Xv];rfl
  ·rintro σ HX ⟨hσ,eX,hX⟩;rw[Xk]at hX;exact hN _ _ ⟨hσ,e1.trans eX,hX⟩
 rintro σ HX ⟨⟨x6,x7,rfl⟩,eX,hX⟩;walk_at "rd";exact q p2 HX eX hX
theorem Ei:AL ["_law_table_here","_law_signs","_law_sets_here","_law_row","_law_part","_law_here","_law_node","_law_word","_law_k","_law_some"] ["_law_table_here","_law_signs","_law_sets_here","_law_row"] (AH UK):=Cc (by decide +kernel)
theorem WV(T:CU K mg t)(G_36:A5 P w K mg base 2 t.f_36 ["_law_some","_law_node"] (Jx)):A5 P w K mg base 3 t.f_25 ["_law_table_here","_law_signs","_law_sets_here","_law_row"] (IB):=by
 refine BH T.d_25 Ei (λ_ _ _ _ _ _=>b4 λ_ _ _ _=>rfl) λvs H Q E h=>?_;obtain⟨a,s1,b,g,tf,mf,row,rfl,ha,hs1,hb,g2,g9,m2,m8,tl,tb,h9,rb,rl,wk,q⟩:=h;refine⟨rfl,λcdv A outer s hr=>?_⟩
 refine⟨_,(AD (AR 4 Ei (AI Av (AV AJ rfl T.z_len X5 (AA (pv 0) AB)) (pv 1)))
  (AD (Dw (iy:=5) (fv:=[(2,"_law_sets_here")]) (cl:=[("_law_sets_here",_)]) rfl Ei.nd rfl (Or.inl rfl) (Ap rfl T.z_range (AA (pv 4) AB)) (by with_unfolding_all rfl) (by with_unfolding_all rfl) (by decide +kernel) rfl (by decide +kernel) rfl ⟨(by with_unfolding_all rfl),trivial⟩ (by with_unfolding_all rfl) ⟨⟨rfl,rfl,(by with_unfolding_all rfl),rfl⟩,trivial⟩ (by decide) (λ_ _ _ _=>(JU (CF (Aa hr G_36 T.m_36 (AA (AT (Bt (K:=K) rfl) (pv 1) (FS Dr AF) (λ_ _=>rfl)) (AA (pv 0) AB)))))) (λ_ _ _ _=>(pv 0)))
  (AD (BE (AN (G7 hr.units) (pv 5) (BV AB) (AU _)) (AE (AO EH)) Af)
  (AD (AR 6 Ei (AT An (pv 5) AF (λ_ _=>rfl)))
  (AD (AR 7 Ei (BV AB))
  (AD (BM PassesOwn.never rfl (RP rfl T.z_range rfl T.z_reversed (AA (AV AJ rfl T.z_len X5 (AA (pv 3) AB)) AB)) (Be 8 Ei) (AD (Dw (iy:=9) (fv:=[(0,"_law_table_here"),(3,"_law_row"),(4,"_law_part"),(6,"_law_node"),(8,"_law_k")]) (cl:=[("_law_table_here",_),("_law_row",_),("_law_part",_),("_law_node",_),("_law_k",_)]) rfl Ei.nd rfl (Or.inl rfl) (Ap rfl T.z_range (AA (AV AJ rfl T.z_len X5 (AA (pv 0) AB)) AB)) (by with_unfolding_all rfl) (by with_unfolding_all rfl) (by decide +kernel) rfl (by decide +kernel) rfl ⟨(by with_unfolding_all rfl),⟨(by with_unfolding_all rfl),⟨(by with_unfolding_all rfl),⟨(by with_unfolding_all rfl),⟨(by with_unfolding_all rfl),trivial⟩⟩⟩⟩⟩ (by with_unfolding_all rfl) ⟨⟨rfl,rfl,(by with_unfolding_all rfl),rfl⟩,⟨⟨rfl,rfl,(by with_unfolding_all rfl),rfl⟩,⟨⟨rfl,rfl,(by with_unfolding_all rfl),rfl⟩,⟨⟨rfl,rfl,(by with_unfolding_all rfl),rfl⟩,⟨⟨rfl,rfl,(by with_unfolding_all rfl),rfl⟩,trivial⟩⟩⟩⟩⟩ (by decide) (λ_ _ _ _=>(JU (PW.pt (Do (AN B0 (AI Ak (pv 0) (pv 3)) (pv 4) (AU _)) (DP (AN B0 (AT (Bt (K:=K) rfl) (pv 1) (pv 0) (λ_ _=>rfl)) (AT (Bt (K:=K) rfl) (pv 2) (pv 5) (λ_ _=>rfl)) (AU _))))))) (λ_ _ _ _=>(pv 0)))
  (AD (Dw (iy:=9) (fv:=[(1,"_law_signs"),(2,"_law_sets_here"),(8,"_law_k")]) (cl:=[("_law_signs",_),("_law_sets_here",_),("_law_k",_)]) rfl Ei.nd rfl (Or.inl rfl) (BZ (pv 9)) (by with_unfolding_all rfl) (by with_unfolding_all rfl) (by decide +kernel) rfl (by decide +kernel) rfl ⟨(by with_unfolding_all rfl),⟨(by with_unfolding_all rfl),⟨(by with_unfolding_all rfl),trivial⟩⟩⟩ (by with_unfolding_all rfl) ⟨⟨rfl,rfl,(by with_unfolding_all rfl),rfl⟩,⟨⟨rfl,rfl,(by with_unfolding_all rfl),rfl⟩,⟨⟨rfl,rfl,(by with_unfolding_all rfl),rfl⟩,trivial⟩⟩⟩ (by decide) (λ_ _ _ _=>(JU (CF (Aa hr G_36 T.m_36 (AA (AT (Bt (K:=K) rfl) (pv 2) (pv 3) (λ_ _=>rfl)) (AA (AI Av (pv 0) (pv 1)) AB)))))) (λ_ _ _ _=>(pv 0)))
  (AD (BE (AN (G7 hr.units) (pv 9) (BV AB) (AU _)) (AE (AO EH)) Af)
  (AD (BF (CQ YB YM YN BR (pv 7) (AA (AI Ak (AT An (pv 9) AF (λ_ _=>rfl)) (pv 1)) AB)))
  (AE (AR 6 Ei (AI Av (AT An (pv 9) AF (λ_ _=>rfl)) (pv 1)))))))))
  (AD (CG PassesOwn.never (AN EB (pv 4) AF (AU _)) (AD (BF (CQ YB YM YN BR (pv 7) (AA (AI Ak (pv 6) (pv 1)) AB)))
  (AD (AR 6 Ei (AI Av (pv 6) (pv 1)))
  (AE (AR 4 Ei (AI Av (pv 4) (pv 1)))))))
  (AE (AO (JM rfl rfl T.z_reversed rfl T.z_list (AA (pv 7) AB))))))))))),?_⟩
 have hd:=BP g2 tl (show 1<=mf by lia);have tdiv:(tf.length:Int)/g=((tf.length/g.toNat:Nat):Int):=by rw[Yo,X8 (by lia)]
 obtain⟨h,hh⟩:∃h:Nat,h=tf.length/g.toNat:=⟨_,rfl⟩;have tf81:tf.length<=81:=by rw[hd.2];exact YK (Nat.mul_le_mul h9 (show g.toNat<=9 by lia)) (by decide)
 have hn0:1<=h:=by have:=RW.Ah g2 (mf-1);lia
 have sl:(EE g tf row).length=row.length+1:=by unfold EE;rw[List.length_map,List.length_range]
 have sv:∀k,k<=row.length->(EE g tf row).getD k 0=A4 g tf (AS g tf) (row.take k):=λk hk=>by unfold EE;exact AM (by lia)
 have slow:∀k,0<=A4 g tf (AS g tf) (row.take k)/\A4 g tf (AS g tf) (row.take k)<((2^(tf.length/g.toNat):Nat):Int):=λk=>IC g9 tf _ _ (DI g tf).1 (DI g tf).2 λn hn=>rb n (Yp hn)
 refine A7 λN hN=>?_;walk_at "rd";refine⟨_,.inl (Ad.of ha),by lia,by lia,hN _ _ ?_⟩;clear hN N;rw[Xk,tdiv,<-hh];have lx:=slow row.length;rw[YT]at lx
 have la:G0 ((EE g tf row).map V.int) (-1)=some (V.int (A4 g tf (AS g tf) row)):=by have z:=D8 (ns:=EE g tf row) 1 (by decide) (by lia);rw[sl,ZR,sv _ (Xr _),YT]at z;exact z
 refine Ck (λσ HX=>∃ph ks,σ=[some (.ref a),some (.int g),some (.ref s1),some (.ref b),some (.int ((h:Nat):Int)),some (.ref ph),none,none,none,none]/\AG H HX/\HX ph=some (.lst ((Bh ks).map V.int))/\ks=(List.range h).filter (λk=>EF (A4 g tf (AS g tf) row) k)) (λN hN=>?_) ?_
 ·refine⟨_,rfl,_,rfl,by lia,by lia,λD hD=>?_⟩;refine BI (n:=h) (λi acc Hx=>acc=(Bh ((List.range i).filter (λk=>EF (A4 g tf (AS g tf) row) k))).map V.int/\AG H Hx/\Hx D=some (.lst acc)) ⟨rfl,AG.new hD _,AC⟩ ?_ ?_
  ·rintro i acc Hx hi ⟨rfl,ex,hDx⟩;walk_at "rd";rw[YX];refine⟨s1,_,-1,_,rfl,rfl,Ad.of (ex _ _ hs1),la,_,i,rfl,lx.1,by lia,_,rfl,?_⟩
   by_cases z:EF (A4 g tf (AS g tf) row) i=true
   ·rw[qF z];refine⟨hDx,by rw[Xk];exact Y4 (QE _ _) (AZ (by lia)),?_,ex.into hD,AC⟩;rw[QC z,Xv];rfl
   ·rw[qE z,QD (by simpa using z)];exact⟨rfl,ex,hDx⟩
  ·rintro acc H5 ⟨rfl,e5,h5⟩;exact hN _ _ ⟨D,_,rfl,e5,h5,rfl⟩
 rintro σ H1 ⟨ph,ks,rfl,e1,hph,hks⟩;obtain⟨v0,hv0⟩:=UO lx.1 lx.2 (by lia);rw[<-hh]at hv0
 obtain⟨v,ks',rfl⟩:∃v ks',ks=v::ks':=by
  cases ks with
  |nil =>
   have z:v0∈(List.range h).filter (λk=>EF (A4 g tf (AS g tf) row) k):=Ya.mpr ⟨YD.mpr hv0.1,hv0.2⟩;rw[<-hks]at z;cases z
  |cons a l=>exact⟨a,l,rfl⟩
 have hv:v<h/\EF (A4 g tf (AS g tf) row) v=true:=by
  have z:v∈(List.range h).filter (λk=>EF (A4 g tf (AS g tf) row) k):=by rw[<-hks];exact X6
  exact⟨YD.mp (Ya.mp z).1,(Ya.mp z).2⟩
 clear hv0 v0 hks;refine Ck (λσ HX=>σ=[some (.ref a),some (.int g),some (.ref s1),some (.ref b),some (.int ((h:Nat):Int)),some (.ref ph),none,none,none,none]/\AG H1 HX) (λN hN=>?_) ?_
 ·walk_at "rd";refine⟨by decide,λp0 hp0=>?_⟩;have f0:=AG.new hp0 (.lst []);refine⟨Bh (v::ks'),Ad.of (f0 _ _ hph),[],Ad.of AC,?_⟩;rw[qE (by intro z;cases z)];exact hN _ _ ⟨rfl,f0⟩
 rintro σ H2 ⟨rfl,e2⟩;refine A7 λN hN=>?_;walk_at "rd";refine⟨ph,_,0,V.int ((v:Nat):Int),rfl,rfl,Ad.of (e2 _ _ hph),(show G0 _ ((0:Nat):Int)=_ from Cg rfl),hN _ _ ?_⟩;clear hN N;refine A7 λN hN=>?_;walk_at "rd";refine⟨by decide,λpw hpw=>hN _ _ ?_⟩;clear hN N;have e3:=AG.new hpw (.lst []);have e13:=(e1.trans e2).trans e3;refine Ck (λσ HX=>∃(v:Nat) (W:List Int),(∃x8 x9,σ=[some (.ref a),some (.int g),some (.ref s1),some (.ref b),some (.int ((h:Nat):Int)),some (.ref ph),some (.int ((v:Nat):Int)),some (.ref pw),x8,x9])/\AG H HX/\HX pw=some (.lst (W.map V.int))/\v<h/\W.length=row.length/\W.reverse∈OJ g.toNat tf row v) (λN hN=>?_) ?_
 ·refine⟨_,rfl,b,_,rfl,.inl (Ad.of (e13 _ _ hb)),_,rfl,?_⟩;rw[Xk];refine⟨by lia,by lia,?_⟩;rw[Xy];refine Lg (n:=row.length) (λi σ HX=>∃(v:Nat) (W:List Int),(∃x8 x9,σ=[some (.ref a),some (.int g),some (.ref s1),some (.ref b),some (.int ((h:Nat):Int)),some (.ref ph),some (.int ((v:Nat):Int)),some (.ref pw),x8,x9])/\AG H HX/\HX pw=some (.lst (W.map V.int))/\v<h/\W.length=i/\EF (A4 g tf (AS g tf) (row.take (row.length-i))) v=true/\W.reverse∈OJ g.toNat tf (row.drop (row.length-i)) v) ⟨v,[],⟨_,_,rfl⟩,e13,AC,hv.1,rfl,by rw[ZQ,YT];exact hv.2,by rw[ZQ,ah];exact Xl.mpr rfl⟩ ?_ ?_
  ·clear hv hph;rintro i σ HX hi ⟨v,W,⟨x8,x9,rfl⟩,eX,hW,hv,wl,bv,on⟩;obtain⟨k,hk⟩:∃k,k=row.length-1-i:=⟨_,rfl⟩;have kl:k<row.length:=by lia
   have ek:(row.length:Int)-1+(i:Int)*(-1)=((k:Nat):Int):=by lia
   have k1:row.length-i=k+1:=by lia
   have k2:row.length-(i+1)=k:=by lia
   rw[ek];rw[k1]at bv on;rw[k2];have hr:=Xs kl;have rk:row.getD k 0=row[k]:=by rw[Xm,hr];rfl
   refine Ck (λσ HY=>∃p1 ks1,σ=[some (.ref a),some (.int g),some (.ref s1),some (.ref b),some (.int ((h:Nat):Int)),some (.ref ph),some (.int ((v:Nat):Int)),some (.ref pw),some (.int ((k:Nat):Int)),some (.ref p1)]/\AG HX HY/\HY p1=some (.lst ((Bh ks1).map V.int))/\ks1=(List.range tf.length).filter (λx=>decide (x%h=v)&&decide (tf.getD x 0=row[k]))) (λN2 hN2=>?_) ?_
   ·refine⟨_,rfl,a,_,rfl,.inl (Ad.of (eX _ _ ha)),_,rfl,?_⟩;rw[Xk];refine⟨by lia,by lia,λD hD=>?_⟩;refine BI (n:=tf.length) (λj acc Hx=>acc=(Bh ((List.range j).filter (λx=>decide (x%h=v)&&decide (tf.getD x 0=row[k])))).map V.int/\AG HX Hx/\Hx D=some (.lst acc)) ⟨rfl,AG.new hD _,AC⟩ ?_ ?_
    ·rintro j acc Hx hj ⟨rfl,ex,hDx⟩;have km:(j:Int)%(h:Int)=((j%h:Nat):Int):=(Yx ..).symm;walk_at "rd";refine⟨by lia,?_⟩;rw[YX,km]
     by_cases z1:j%h=v
     ·rw[qF (by rw[z1])];refine⟨a,_,_,_,rfl,rfl,Ad.of (ex _ _ (eX _ _ ha)),B9 hj,b,_,_,_,rfl,rfl,Ad.of (ex _ _ (eX _ _ hb)),B9 kl,rfl,?_⟩;rw[rk]
      by_cases z2:tf.getD j 0=row[k]
      ·rw[qF (by rw[z2])];refine⟨hDx,by rw[Xk];exact Y4 (QE _ _) (AZ (by lia)),?_,ex.into hD,AC⟩;rw[QC (by rw[qH z1,qH z2];rfl),Xv];rfl
      ·rw[qE (λz=>z2 (V.int.inj z)),QD (by rw[qI z2,Bool.and_false])];exact⟨rfl,ex,hDx⟩
     ·rw[qE (λz=>z1 (by lia)),QD (by rw[qI z1,aR])];exact⟨rfl,ex,hDx⟩
    ·rintro acc H5 ⟨rfl,e5,h5⟩;exact hN2 _ _ ⟨D,_,rfl,e5,h5,rfl⟩
   rintro σ HY ⟨p1,ks1,rfl,eY,h1,hk1⟩;have eXY:=eX.trans eY;have k1l:ks1.length<=tf.length:=by rw[hk1];exact YK (ZH ..) (by rw[Xx];exact Xr _)
   have ak:G0 ((EE g tf row).map V.int) ((k:Nat):Int)=some (V.int (A4 g tf (AS g tf) (row.take k))):=by have z:=B9 (ns:=EE g tf row) (k:=k) (by lia);rw[sv k (by lia)]at z;exact z
   have lk:=slow k;refine Ck (λσ HZ=>∃p2 ks2,σ=[some (.ref a),some (.int g),some (.ref s1),some (.ref b),some (.int ((h:Nat):Int)),some (.ref ph),some (.int ((v:Nat):Int)),some (.ref pw),some (.int ((k:Nat):Int)),some (.ref p2)]/\AG HY HZ/\HY p2=none/\HZ p2=some (.lst ((Bh ks2).map V.int))/\ks2=ks1.filter (λx=>EF (A4 g tf (AS g tf) (row.take k)) (x/g.toNat))) (λN2 hN2=>?_) ?_
   ·refine⟨_,rfl,p1,rfl,⟨_,Ad.of h1⟩,λD hD=>?_⟩;refine CB (xs:=(Bh ks1).map V.int) (λj acc Hx=>acc=(Bh ((ks1.take j).filter (λx=>EF (A4 g tf (AS g tf) (row.take k)) (x/g.toNat)))).map V.int/\AG HY Hx/\Hx D=some (.lst acc)) ⟨rfl,AG.new hD _,AC⟩ (λi acc Hx _ z=>Ad.of (z.2.1 _ _ h1)) ?_ ?_
    ·rintro j vv acc Hx hvv ⟨rfl,ex,hDx⟩;obtain⟨x',hx',rfl⟩:=By hvv;obtain⟨x,hx,rfl⟩:∃x,ks1[j]?=some x/\x'=((x:Nat):Int):=by unfold Bh at hx';rw[Xu]at hx';obtain⟨x,q1,q2⟩:=Ys.mp hx';exact⟨x,q1,q2.symm⟩
     have xl:x<tf.length:=by have z:=X3 hx;rw[hk1]at z;exact YD.mp (Ya.mp z).1
     have xd:(x:Int)/g=((x/g.toNat:Nat):Int):=by rw[Yo,X8 (by lia)]
     have xh:x/g.toNat<h:=by rw[hh,Zs (by lia),<-hd.2];exact xl
     have jl:=(Xo.mp hx).1;walk_at "rd";refine⟨s1,_,_,_,rfl,rfl,Ad.of (ex _ _ (eXY _ _ hs1)),ak,by lia,by lia,_,x/g.toNat,by rw[xd],lk.1,by lia,_,rfl,?_⟩
     by_cases z:EF (A4 g tf (AS g tf) (row.take k)) (x/g.toNat)=true
     ·rw[qF z];refine⟨hDx,by rw[Xk];exact Y4 (UR _ _ _) (AZ (by lia)),?_,ex.into hD,AC⟩;rw[UQ hx z,Xv];rfl
     ·rw[qE z,Vb hx (by simpa using z)];exact⟨rfl,ex,hDx⟩
    ·rintro acc H5 ⟨rfl,e5,h5⟩;refine hN2 _ _ ⟨D,_,rfl,e5,hD,h5,?_⟩;rw[Xk,show (Bh ks1).length=ks1.length from Xk ..,YT]
   rintro σ HZ ⟨p2,ks2,rfl,eZ,np2,h2,hk2⟩;have eXZ:=eXY.trans eZ;have sn:=OI (g:=g) (tf:=tf) (AS g tf) kl;rw[sn]at bv;rw[<-hh]at bv;obtain⟨y,y1,y2,y3,y4⟩:=RU (by lia) hv bv
   obtain⟨a0,ks',rfl⟩:∃a0 ks',ks2=a0::ks':=by
    cases ks2 with
    |nil =>
     have z:y∈ks1.filter (λx=>EF (A4 g tf (AS g tf) (row.take k)) (x/g.toNat)):=by refine Ya.mpr ⟨?_,y3⟩;rw[hk1];refine Ya.mpr ⟨YD.mpr (by rw[hd.2,<-hh];exact y1),?_⟩;rw[qH y4,qH y2];rfl
     rw[<-hk2]at z;cases z
    |cons a l=>exact⟨a,l,rfl⟩
   have a0m:a0<tf.length/\a0%h=v/\tf.getD a0 0=row[k]/\EF (A4 g tf (AS g tf) (row.take k)) (a0/g.toNat)=true:=by
    have z:a0∈ks1.filter (λx=>EF (A4 g tf (AS g tf) (row.take k)) (x/g.toNat)):=by rw[<-hk2];exact X6
    obtain⟨z1,z2⟩:=Ya.mp z;rw[hk1]at z1;obtain⟨z3,z4⟩:=Ya.mp z1;obtain⟨z5,z6⟩:=Bool.and_eq_true_iff.mp z4;exact⟨YD.mp z3,of_decide_eq_true z5,of_decide_eq_true z6,z2⟩
   obtain⟨a1,a2,a3,a4⟩:=a0m;refine Ck (λσ HU=>σ=[some (.ref a),some (.int g),some (.ref s1),some (.ref b),some (.int ((h:Nat):Int)),some (.ref ph),some (.int ((v:Nat):Int)),some (.ref pw),some (.int ((k:Nat):Int)),some (.ref p2)]/\AG HZ HU) (λN2 hN2=>?_) ?_
   ·walk_at "rd";refine⟨by decide,λp0 hp0=>?_⟩;have f0:=AG.new hp0 (.lst []);refine⟨Bh (a0::ks'),Ad.of (f0 _ _ h2),[],Ad.of AC,?_⟩;rw[qE (by intro z;cases z)];exact hN2 _ _ ⟨rfl,f0⟩
   rintro σ HU ⟨rfl,eU⟩;have h2U:=eU _ _ h2;have hWU:=eU _ _ (eZ _ _ (eY _ _ hW));have at0:G0 ((Bh (a0::ks')).map V.int) 0=some (V.int ((a0:Nat):Int)):=show G0 _ ((0:Nat):Int)=_ from Cg rfl;have pne:p2≠pw:=λz=>by rw[z,eY _ _ hW]at np2;cases np2
   have pwn:H pw=none:=(e1.trans e2).free hpw;have gm:((a0:Nat):Int)%g=((a0%g.toNat:Nat):Int):=by rw[Yx,X8 (by lia)]
   have gd:((a0:Nat):Int)/g=((a0/g.toNat:Nat):Int):=by rw[Yo,X8 (by lia)]
   refine A7 λN2 hN2=>?_;walk_at "rd";refine⟨.inl ⟨_,Ad.of hWU⟩,p2,_,0,_,rfl,rfl,Ad.of h2U,at0,_,rfl,by lia,_,hWU,by rw[Xk];exact AZ (by lia),hN2 _ _ ?_⟩;clear hN2 N2;rw[gm];have h2V:Aj HU pw (.lst (W.map V.int++[V.int ((a0%g.toNat:Nat):Int)])) p2=some (.lst ((Bh (a0::ks')).map V.int)):=by rw[AK pne];exact h2U
   walk_at "rd";refine⟨p2,_,0,_,rfl,rfl,Ad.of h2V,at0,_,rfl,by lia,by lia,?_⟩;rw[gd];refine⟨a0/g.toNat,rfl,⟨_,rfl⟩,(eXZ.trans eU).into pwn,W++[((a0%g.toNat:Nat):Int)],by rw[AC,Xv];rfl,by rw[hh,Zs (by lia),<-hd.2];exact a1,by rw[Xp,wl];rfl,a4,?_⟩;rw[List.reverse_append,Y0 kl];show ((a0%g.toNat:Nat):Int)::W.reverse∈(CS g.toNat tf (a0/g.toNat) row[k]).flatMap λf=>(OJ g.toNat tf (row.drop (k+1)) (f%(tf.length/g.toNat))).map (((f%g.toNat:Nat):Int)::·)
   refine List.mem_flatMap.mpr ⟨a0,Ea.mpr ⟨a0%g.toNat,ZW _ (by lia),?_,?_⟩,YH.mpr ⟨W.reverse,?_,rfl⟩⟩
   ·rw[Nat.div_add_mod'];exact a3
   ·rw[Nat.div_add_mod']
   ·rw[<-hh,a2];exact on
  ·rintro σ HX ⟨v,W,hσ,eX,hW,hv,wl,bv,on⟩;rw[Yq]at on;exact hN _ _ ⟨v,W,hσ,eX,hW,hv,wl,on⟩
 clear hv hph;rintro σ HX ⟨v,W,⟨x8,x9,rfl⟩,eX,hW,hv,wl,on⟩;refine Ck (λσ HY=>∃x4 x6,σ=[some (.ref a),some (.int g),some (.ref s1),some (.ref b),x4,some (.ref ph),x6,some (.ref pw),x8,x9]/\AG H HY/\HY pw=some (.lst ((W++RW.CV g (v:Int) (mf-1)).map V.int))) (λN hN=>?_) ?_
 ·refine⟨λn σ HY=>∃j,j<=mf-1/\n=mf-1-j/\σ=[some (.ref a),some (.int g),some (.ref s1),some (.ref b),some (.int (g^(mf-1-j))),some (.ref ph),some (.int (dr g (v:Int) j)),some (.ref pw),x8,x9]/\AG H HY/\HY pw=some (.lst ((W++RW.CV g (v:Int) j).map V.int)),⟨_,0,YS _,rfl,?_,eX,?_⟩,?_⟩
  ·rw[ZQ,<-hd.1,<-hh];rfl
  ·rw[hW];show _=some (HO.lst ((W++[]).map V.int));rw[Yd]
  rintro n σ HY ⟨j,jm,rfl,rfl,eY,hY⟩;refine⟨_,rfl,_,_,rfl,rfl,_,rfl,?_⟩
  by_cases j2:j<mf-1
  ·obtain⟨i,hi⟩:∃i,mf-1-j=i+1:=⟨mf-1-j-1,by lia⟩;have gi:=RW.Ah g2 i;have gg:g^(mf-1-j)=g^i*g:=by rw[hi,X9]
   have g1:1<g^i*g:=by have z:=ZZ (show 1<=g^i by lia) (show 0<=g by lia);lia
   have gl:g^i*g<=9:=by have z:=Bu g2 (show mf-1-j<=mf-1 by lia);rw[gg]at z;lia
   rw[gg,qF (qH g1)];refine⟨λσ' H'=>∃m',m'<mf-1-j/\∃j,j<=mf-1/\m'=mf-1-j/\σ'=[some (.ref a),some (.int g),some (.ref s1),some (.ref b),some (.int (g^(mf-1-j))),some (.ref ph),some (.int (dr g (v:Int) j)),some (.ref pw),x8,x9]/\AG H H'/\H' pw=some (.lst ((W++RW.CV g (v:Int) j).map V.int)),λ_ _ h=>h,?_⟩;have pwn:H pw=none:=(e1.trans e2).free hpw;refine A7 λN2 hN2=>?_;walk_at "rd";refine⟨.inl ⟨_,Ad.of hY⟩,by lia,_,hY,by rw[Xk,Xp,RW.Cm];exact AZ (by lia),hN2 _ _ ?_⟩;clear hN2 N2;refine A7 λN2 hN2=>?_;walk_at "rd";refine⟨by lia,by lia,hN2 _ _ ?_⟩;clear hN2 N2;walk_at "rd";refine⟨by lia,by lia,mf-1-(j+1),by lia,j+1,by lia,rfl,?_⟩;rw[Int.mul_ediv_cancel _ (show g≠0 by lia),show mf-1-(j+1)=i by lia];refine⟨rfl,rfl,eY.into pwn,?_⟩;rw[AC];show _=some (HO.lst ((W++(RW.CV g (v:Int) j++[dr g (v:Int) j%g])).map V.int));rw[<-YG,Xv (l₁:=W++RW.CV g (v:Int) j)];rfl
  ·obtain rfl:j=mf-1:=by lia
   rw[Yq,YJ];exact hN _ _ ⟨_,_,rfl,eY,hY⟩
 rintro σ HY ⟨x4,x6,rfl,eY,hY⟩;walk_at "rd";refine⟨_,Ad.of hY,λpr hpr=>?_⟩;obtain⟨cb,cl,led⟩:=UP g2 tl (show 1<=mf by lia) (by rw[<-hh];exact hv) on;have f9:=AG.new hpr (.lst ((W++RW.CV g (v:Int) (mf-1)).map V.int).reverse);refine q pr (BS g (v:Int) (mf-1)++W.reverse) _ (eY.trans f9) ?_ ?_ ?_ led
 ·rw[AC,<-ag,List.reverse_append];rfl
 ·intro n hn;rcases Xq.mp hn with z|z
  ·exact CJ g2 _ _ n z
  ·exact cb n z
 ·rw[Xp,CC,ZB,wl];lia
theorem JC:AL ["_law_table_here","_law_signs","_law_word","_law_row","_law_size","_law_k","_law_at","_law_sign"] ["_law_table_here","_law_signs","_law_word","_law_row"] (AH UL):=Cc (by decide +kernel)
theorem WW(T:CU K mg t) :A5 P w K mg base 1 t.f_17 ["_law_table_here","_law_signs","_law_word","_law_row"] (GI):=by
 refine BH T.d_17 JC (λ_ _ _ _ _ _=>b4 λ_ _ _ _=>rfl) λvs H Q E h=>?_;obtain⟨a,w,b,g,tf,mf,ws,row,rfl,ha,hw,hb,g2,g9,m1,m8,tl,wb,wl,rl,led,q⟩:=h;refine⟨rfl,λcdv A outer s hr=>?_⟩
 refine⟨_,(AD (AR 4 JC (AI A8 (AI CA (AV AJ rfl T.z_len X5 (AA (pv 2) AB)) (AV AJ rfl T.z_len X5 (AA (pv 3) AB))) AF))
  (AD (BM PassesOwn.never rfl (Ap rfl T.z_range (AA (AV AJ rfl T.z_len X5 (AA (pv 3) AB)) AB)) (Be 5 JC) (AD (AR 6 JC AF)
  (AD (BM PassesOwn.never rfl (BZ (CI Cy (pv 2) (CH (pv 5)) (CH (AI A8 (pv 5) (pv 4))))) (Be 7 JC) (AE (AR 6 JC (AI A8 (AI Bx (pv 6) (pv 1)) (pv 7)))))
  (AE (BE (AN IR (AT An (pv 0) (pv 6) (λ_ _=>rfl)) (AT An (pv 3) (pv 5) (λ_ _=>rfl)) (AU _)) (AE (AO EG)) Af)))))
  (AE (AO EG)))),?_⟩
 refine A7 λN hN=>?_;walk_at "rd";refine⟨_,.inl (Ad.of hw),_,.inl (Ad.of hb),hN _ _ ?_⟩;clear hN N;rw[Xk,Xk,show (ws.length:Int)-(row.length:Int)+1=((mf:Nat):Int) by lia];refine Ck (λσ HX=>(∃x5 x6 x7,σ=[some (.ref a),some (.int g),some (.ref w),some (.ref b),some (.int ((mf:Nat):Int)),x5,x6,x7])/\AG H HX) (λN hN=>?_) ?_
 ·refine⟨_,rfl,b,_,rfl,.inl (Ad.of hb),_,rfl,?_⟩;rw[Xk];refine⟨by lia,by lia,?_⟩;refine Bv (n:=row.length) (λi σ HX=>(∃x5 x6 x7,σ=[some (.ref a),some (.int g),some (.ref w),some (.ref b),some (.int ((mf:Nat):Int)),x5,x6,x7])/\AG H HX) ⟨⟨_,_,_,rfl⟩,AG.refl _⟩ ?_ ?_
  ·rintro i σ HX hi ⟨⟨x5,x6,x7,rfl⟩,e⟩;have hi':i+mf<=ws.length:=by lia
   have ei:(0:Int)+(i:Int)=((i:Nat):Int):=by lia
   have ej:((i:Nat):Int)+((mf:Nat):Int)=((i+mf:Nat):Int):=by lia
   have wi:=Sy g2 wb tl (k:=i) hi';rw[ei];refine A7 λN2 hN2=>?_;walk_at "rd";refine hN2 _ _ ?_;clear hN2 N2;refine Ck (λσ HY=>(∃x7,σ=[some (.ref a),some (.int g),some (.ref w),some (.ref b),some (.int ((mf:Nat):Int)),some (.int ((i:Nat):Int)),some (.int (BJ g ((ws.drop i).take mf))),x7])/\AG HX HY) (λN2 hN2=>?_) ?_
   ·refine⟨_,rfl,_,rfl,_,rfl,_,rfl,_,rfl,_,_,rfl,rfl,_,rfl,?_⟩;rw[ej];refine Dx (Ad.of (e _ _ hw)) λp8 H8 e8 _ h8=>?_;rw[Ox (by lia) (by rw[Xk];lia),<-List.map_drop,<-List.map_take,show i+mf-i=mf by lia]at h8;refine⟨p8,rfl,⟨_,Ad.of h8⟩,?_⟩;refine B8 (xs:=((ws.drop i).take mf).map V.int) (λj σ H2=>(∃x7,σ=[some (.ref a),some (.int g),some (.ref w),some (.ref b),some (.int ((mf:Nat):Int)),some (.int ((i:Nat):Int)),some (.int (BJ g (((ws.drop i).take mf).take j))),x7])/\H2=H8) ⟨⟨_,rfl⟩,rfl⟩ (λj σ H2 _ z=>by rw[z.2];exact Ad.of h8) ?_ ?_
    ·rintro j x σ H2 hx ⟨⟨x7,rfl⟩,rfl⟩;obtain⟨n,hn,rfl⟩:=By hx;walk_at "rd";refine⟨.inr ⟨by lia,by lia⟩,?_⟩;rw[KM hn];exact⟨rfl,_,rfl⟩
    ·rintro σ H2 ⟨⟨x7,rfl⟩,rfl⟩;rw[Xk,YT];exact hN2 _ _ ⟨⟨_,rfl⟩,e8⟩
   rintro σ HY ⟨⟨x7,rfl⟩,eY⟩;have e9:=e.trans eY
   have rv:row.getD i 0=tf.getD (BJ g ((ws.drop i).take mf)).toNat 0:=by rw[<-led];unfold CO;rw[AM (by lia)];rfl
   walk_at "rd";refine⟨a,_,_,_,rfl,rfl,Ad.of (e9 _ _ ha),Cr wi.1 wi.2,b,_,_,_,rfl,rfl,Ad.of (e9 _ _ hb),B9 hi,?_⟩;rw[rv];dsimp only;rw[qE (λz=>z rfl)];exact⟨rfl,⟨_,rfl⟩,e9⟩
  ·rintro σ HX ⟨hσ,e⟩;exact hN _ _ ⟨hσ,e⟩
 rintro σ HX ⟨⟨x5,x6,x7,rfl⟩,e⟩;walk_at "rd";exact q _ e
theorem RV:AL ["_law_one","_law_row","_law_many","_law_table_here","_law_sets_here","_law_word"] ["_law_one","_law_row","_law_many"] (AH XC):=Cc (by decide +kernel)
theorem XT(T:CU K mg t)(G_16:A5 P w K mg base 1 t.f_16 ["_law_one"] (GF))(G_27:A5 P w K mg base 2 t.f_27 ["_law_paper","_law_part","_law_row"] (IA))(G_25:A5 P w K mg base 3 t.f_25 ["_law_table_here","_law_signs","_law_sets_here","_law_row"] (IB))(G_13:A5 P w K mg base 12 t.f_13 ["one"] (Gr t.c_39 LP t.p_6))(G_17:A5 P w K mg base 1 t.f_17 ["_law_table_here","_law_signs","_law_word","_law_row"] (GI)):A5 P w K mg base 13 t.f_2 ["_law_one","_law_row","_law_many"] (D9 LP t.p_6):=by
 refine BH T.d_2 RV (λ_ _ _ _ _ _=>b3 λ_ _ _=>rfl) λvs H Q E h=>?_;obtain⟨r,b,g,lo,tab,m,row,lf,tf,mf,rfl,ok,fw,s9,tbl,hb,rb,rl,on,q⟩:=h;refine⟨rfl,λcdv A outer s hr=>?_⟩
 refine⟨_,(AD (AR 3 RV (Aa hr G_16 T.m_16 (AA (pv 0) AB)))
  (AD (BE (AN IR (pv 2) (AI Av (AV AJ rfl T.z_len X5 (AA (AT Ai (pv 0) AF (λ_ _=>rfl)) AB)) (AT Ai (pv 0) AF (λ_ _=>rfl))) (AU _)) (AE (AO EG)) Af)
  (AD (AR 4 RV (Aa hr G_27 T.m_27 (AA (Aa hr G_13 T.m_13 (AA (pv 0) AB)) (AA (AI Av (AV AJ rfl T.z_len X5 (AA (pv 3) AB)) (AT Ai (pv 0) AF (λ_ _=>rfl))) (AA (pv 1) AB)))))
  (AD (BE (AN OV (pv 4) EH (AU _)) (AE (AO EG)) Af)
  (AD (AR 5 RV (Aa hr G_25 T.m_25 (AA (pv 3) (AA (AT Ai (pv 0) AF (λ_ _=>rfl)) (AA (pv 4) (AA (pv 1) AB))))))
  (AE (AO (Fn (Ej QV (pv 5) EH (AU _)) (Gv (Aa hr G_17 T.m_17 (AA (pv 3) (AA (AT Ai (pv 0) AF (λ_ _=>rfl)) (AA (pv 5) (AA (pv 1) AB)))))))))))))),?_⟩
 have g2:=ok.g2;have g9:=ok.g9;obtain⟨tb,v1,v2⟩:=id ok.v;obtain⟨hn,hl⟩:=Cn g2 ok.len fw;refine A7 λN hN=>?_;walk_at "rd";refine⟨r,g,lo,tab,m,rfl,ok,λp lf' tf' mf' H1 e1 fw' hp pl mf8=>hN _ _ ?_⟩;clear hN N;obtain⟨rfl,rfl⟩:=MF g2 ok.len fw fw';have ok1:=ok.same e1;have tb1:=tbl.same e1;refine Ck (λσ HX=>σ=[some (.ref r),some (.ref b),some (.int ((tab.length/g.toNat:Nat):Int)),some (.ref p),none,none]/\HX=H1) (λN hN=>?_) ?_
 ·walk_at "rd";have k1:=e1 _ _ v1;refine⟨r,_,2,_,rfl,rfl,Bi.of k1,rfl,tb,rfl,_,.inr (Bi.of (e1 _ _ v2)),r,_,0,_,rfl,rfl,Bi.of k1,rfl,_,rfl,by lia,by lia,?_⟩;rw[Xk,qE (λz=>z (by rw[Yo,X8 (by lia)]))];exact hN _ _ ⟨rfl,rfl⟩
 rintro σ HX ⟨rfl,rfl⟩;have h9:tf.length/g.toNat<=9:=by lia
 have hlow:=DI g tf
 have wk:∀i,i<=row.length->1<=A4 g tf (AS g tf) (row.take i):=λi _=>by
  have sg:∀n∈row.take i,0<=n/\n<g:=λn hn=>rb n (Yp hn)
  have z:=(IC g9 tf (row.take i) _ hlow.1 hlow.2 sg).1;have y:A4 g tf (AS g tf) (row.take i)≠0:=λy=>on _ sg ((Eg g2 _).mp y)
  lia
 have tfb:=Ps g2 ok.tb fw;refine Ck (λσ HY=>∃s1,σ=[some (.ref r),some (.ref b),some (.int ((tab.length/g.toNat:Nat):Int)),some (.ref p),some (.ref s1),none]/\Bf t.p_6 HX HY/\BQ LP (E1 "sets_reached") t.p_6 HY/\HY s1=some (.lst ((EE g tf row).map V.int))) (λN hN=>?_) ?_
 ·walk_at "rd";refine⟨r,g,lo,tab,m,lf,tf,mf,rfl,ok1,fw,tb1,λ_ A M f Z rp fi pZ oZ p2 H2 s2 tb2 hp2 pap=>?_,λz=>qG z (by lia)⟩;obtain⟨tb',v1',v2'⟩:=(ok1.sameT s2 tb1).v;have cA:A.length<=512:=YK (C8 rp.nd λa ha=>(rp.co a ha).low (N:=2^(tf.length/g.toNat)) (λs hs=>by rw[Xl.mp hs];exact DI g tf) λx h1 h2 y hy=>((DG g9 tf) x h1 h2).2 y hy) (Ef h9);have pz2:=s2.get tb1 hp λ_ z=>by cases z
  have b2:=s2.get tb1 (e1 _ _ hb) λ_ z=>by cases z
  refine⟨_,.inl (Ad.of pz2),r,_,0,_,rfl,rfl,Bi.of v1',rfl,_,rfl,by lia,by lia,p2,b,g,tf,row,Z,C9 M f,?_,pap,pZ.nodup_iff.mpr rp.nd,by rw[pZ.length_eq];lia,h9,b2,rb,rl,pZ.mem_iff.mpr (rp.st _ (Xl.mpr rfl)),λa ha y hy=>pZ.mem_iff.mpr (rp.cl a (pZ.mem_iff.mp ha) y hy),wk,λs3 H3 e3 h3=>hN _ _ ⟨s3,rfl,s2.trans e3.t,tb2.same e3,h3⟩⟩;rw[Xk,show (tf.length:Int)/g=((tf.length/g.toNat:Nat):Int) by rw[Yo,X8 (by lia)]]
 rintro σ HY ⟨s1,rfl,s2,tb2,h1⟩;obtain⟨tb',v1',v2'⟩:=(ok1.sameT s2 tb1).v;have pz2:=s2.get tb1 hp λ_ z=>by cases z
 have b2:=s2.get tb1 (e1 _ _ hb) λ_ z=>by cases z
 refine Ck (λσ HZ=>σ=[some (.ref r),some (.ref b),some (.int ((tab.length/g.toNat:Nat):Int)),some (.ref p),some (.ref s1),none]/\HZ=HY) (λN hN=>?_) ?_
 ·walk_at "rd";exact hN _ _ ⟨rfl,rfl⟩
 rintro σ HZ ⟨rfl,rfl⟩;have w9:=wk row.length (Xr _);rw[YT]at w9;refine A7 λN hN=>?_;walk_at "rd";refine⟨r,_,0,_,rfl,rfl,Bi.of v1',rfl,?_⟩;refine⟨p,s1,b,g,tf,mf,row,rfl,pz2,h1,b2,g2,g9,fw.two,mf8,pl,tfb,h9,rb,rl,w9,λw ws H3 e3 h3 wb wl led=>hN _ _ ?_⟩;clear hN N;walk_at "rd";exact⟨r,_,0,_,rfl,rfl,Bi.of (e3 _ _ v1'),rfl,p,w,b,g,tf,mf,ws,row,rfl,e3 _ _ pz2,h3,e3 _ _ b2,g2,g9,by have:=fw.two;lia,mf8,pl,wb,wl,rl,led,λH4 e4=>q H4 ((e1.t.trans (s2.trans e3.t)).trans e4.t) ((tb2.same e3).same e4)⟩
theorem SI:AL ["_law_one","_law_row","_law_due","_law_found"] ["_law_one","_law_row","_law_due"] (AH UM):=Cc (by decide +kernel)
theorem WX(T:CU K mg t)(G_12:A5 P w K mg base 4 t.f_12 ["one","row"] (Jj K t.c_53))(G_20:A5 P w K mg base 1 t.f_20 ["_law_found"] (Du)):A5 P w K mg base 5 t.f_29 ["_law_one","_law_row","_law_due"] (Hu):=by
 refine BH T.d_29 SI (λ_ _ _ _ _ _=>b3 λ_ _ _=>rfl) λvs H Q E h=>?_;obtain⟨r,a,g,lo,tab,m,ns,rfl,ok,ha,hb,hn,q⟩:=h;refine⟨rfl,λcdv A outer s hr=>?_⟩
 refine⟨_,(AD (AR 3 SI (Aa hr G_12 T.m_12 (AA (pv 0) (AA (Df Dt rfl T.z_list Zi (AA (pv 1) AB)) AB))))
  (AE (AO (Fn (Aa hr G_20 T.m_20 (AA (pv 3) AB)) (Gv (Ej B0 (pv 3) (pv 2) (AU _))))))),?_⟩
 walk_at "rd";refine⟨_,.inl (Ad.of ha),λl hl=>?_⟩;have e1:=AG.new hl (.lst (ns.map V.int));refine OG (ok.same e1) AC hb hn λH2 e2=>?_;refine⟨_,rfl,True.intro,?_⟩;dsimp only;refine⟨_,rfl,?_⟩;rw[qF (show Lc (V.int (B5 g.toNat tab ns))=true from rfl),qH rfl];exact⟨rfl,q _ (e1.trans e2)⟩
theorem E7:AL ["_law_script","_law_one","_law_signs","_law_row","_law_more","_law_many","_law_truth","_law_word","_law_at"] ["_law_script"] (AH RQ):=Cc (by decide +kernel)
theorem WY{f:Addr}{fd:FuncData}(T:CU K mg t)(F:B1 K "law" "law" RQ f fd)(G_26:A5 P w K mg base 4 t.f_26 ["_law_script"] (Hy K))(G_15:A5 P w K mg base 1 t.f_15 ["_law_one","_law_row"] (GG K))(G_58:A5 P w K mg base 13 t.f_58 ["one"] (MU t.c_39 LP t.p_6))(G_57:A5 P w K mg base 12 t.f_57 ["one"] (MP t.c_39 LP t.p_6))(G_29:A5 P w K mg base 5 t.f_29 ["_law_one","_law_row","_law_due"] (Hu))(G_2:A5 P w K mg base 13 t.f_2 ["_law_one","_law_row","_law_many"] (D9 LP t.p_6))(G_3:A5 P w K mg base 1 t.f_3 ["_law_script","_law_k"] (JP K))(G_9:A5 P w K mg base 1 t.f_9 ["_law_cell","_law_many"] (Ew)):Ex P w K mg base (IY P w) 14 f fd ["_law_script"] (Jo K [t.p_6]):=by
 refine F.okY E7 λvs H Q E h=>?_;obtain⟨a,ns,rfl,hS,h63,hT,q⟩:=h;refine⟨rfl,λcdv A outer s hr=>?_⟩
 refine⟨_,(FK.out (Ag (BL (i:=1) E7.nd rfl (Or.inl rfl) (.of (Aa hr G_26 T.m_26 (AA (pv 0) AB))) rfl (by first|exact .inl rfl|exact .inr rfl))
  (Ag (BL (i:=2) E7.nd rfl (Or.inr rfl) (.of (AT Ai (pv 1) AF (λ_ _=>rfl))) rfl (by first|exact .inl rfl|exact .inr rfl))
  (Ag (.of (La (iy:=3) (ig:=2) rfl E7.nd rfl rfl rfl rfl (CI Cy (pv 0) (CH AF) (CH AF)) (by with_unfolding_all rfl) (by with_unfolding_all rfl) (by with_unfolding_all rfl) (by decide +kernel) rfl (by decide +kernel) rfl (by with_unfolding_all rfl)))
  (Ag (BL (i:=4) E7.nd rfl (Or.inl rfl) (.of (AI Ak (AI Av (Aa hr G_3 T.m_3 (AA (pv 0) (As AB))) AF) AF)) rfl (by first|exact .inl rfl|exact .inr rfl))
  (Ag (BL (i:=3) E7.nd rfl (Or.inl rfl) (.of (AI LX (pv 3) (DE [(2,"_law_signs")] [("_law_signs",_)] (BZ (Aa hr G_9 T.m_9 (AA (Aa hr G_3 T.m_3 (AA (pv 0) (As AB))) (AA (pv 4) AB)))) (λ_ _ _ _=>Bz) (λ_ _ _ _=>(AI Ak (pv 0) (pv 1)))))) rfl (by first|exact .inl rfl|exact .inr rfl))
  (Ag (BL (i:=5) E7.nd rfl (Or.inl rfl) (.of (Aa hr G_15 T.m_15 (AA (pv 1) (AA (pv 3) AB)))) rfl (by first|exact .inl rfl|exact .inr rfl))
  (Ag (D1 (DW (CF (Aa hr G_29 T.m_29 (AA (pv 1) (AA (pv 3) (AA (pv 5) AB)))))) (B6 (.of (AO EG))) DU)
  (Ag (BL (i:=6) E7.nd rfl (Or.inl rfl) (.of (Aa hr G_58 T.m_58 (AA (pv 1) AB))) rfl (by first|exact .inl rfl|exact .inr rfl))
  (Ag (D1 (DW (CF (Fu rfl T.z_isinstance (pv 6) (GK rfl T.z_bool PyProof.Rows.boot_bool)))) (B6 (.of (AO EG))) DU)
  (Ag (D1 (CF (pv 6)) (B6 (.of (AO (Aa hr G_2 T.m_2 (AA (pv 1) (AA (pv 3) (AA (pv 5) AB))))))) DU)
  (Ag (BL (i:=7) E7.nd rfl (Or.inl rfl) (.of (Aa hr G_57 T.m_57 (AA (pv 1) AB))) rfl (by first|exact .inl rfl|exact .inr rfl))
  (Ag (D1 (PW.pt (E2 (DW (CF (Fu rfl T.z_isinstance (pv 7) (GK rfl T.z_list PyProof.Rows.boot_list)))) (E2 (AN (G7 hr.units) (pv 7) (BV AB) (AU _)) (E2 (AN IR (Aa hr G_15 T.m_15 (AA (pv 1) (AA (pv 7) AB))) AF (AU _)) (E8 (AN B0 (Aa hr G_15 T.m_15 (AA (pv 1) (AA (CI Cy (pv 7) Ds (CH (FS Dr AF))) AB))) AF (AU _))))))) (B6 (.of (AO EG))) DU)
  (Ag (BL (i:=8) E7.nd rfl (Or.inl rfl) (.of (AI Ak (Aa hr G_3 T.m_3 (AA (pv 0) (As AB))) (AI A8 (AV AJ rfl T.z_len X5 (AA (pv 3) AB)) AF))) rfl (by first|exact .inl rfl|exact .inr rfl))
  (Ag (D1 (PW.pt (Do (AN J4 (AI A8 (AV AJ rfl T.z_len X5 (AA (pv 3) AB)) (AV AJ rfl T.z_len X5 (AA (pv 7) AB))) AF (AU _)) (DP (DW (CF (Aa hr G_29 T.m_29 (AA (pv 1) (AA (AI LX (AI LX (CI Cy (pv 3) Ds (CH (pv 8))) (pv 7)) (CI Cy (pv 3) (CH (pv 8)) Ds)) (As AB))))))))) (B6 (.of (AO EG))) DU)
  (B6 (.of (AO (Aa hr G_29 T.m_29 (AA (pv 1) (AA (pv 7) (As AB)))))))))))))))))))))),?_⟩
 have tb0:BQ LP (E1 "sets_reached") t.p_6 H:=BQ.start (hT _ (Xl.mpr rfl));refine A7 λN hN=>?_;walk_at "rd";refine⟨a,ns,rfl,hS,h63,λr g lo tab m H1 e1 ok sm=>hN _ _ ?_⟩;clear hN N;have g2:=ok.g2;have g9:=ok.g9;obtain⟨tb,v1,v2⟩:=id ok.v;obtain⟨lf,tf,mf,fw⟩:=PU g2 lo (tab:=tab) (m:=m);have s9:=sm lf tf mf fw;obtain⟨al,tfl⟩:=fw.alike g2 ok.len;have m2:=fw.two;refine A7 λN hN=>?_;walk_at "rd";refine⟨r,_,0,_,rfl,rfl,Bi.of v1,rfl,hN _ _ ?_⟩;clear hN N;have hS1:=e1.seq hS;refine Ck (λσ HX=>∃(b:Addr) (row:List Int),σ=[some (.ref a),some (.ref r),some (.int g),some (.ref b),none,none,none,none,none]/\AG H1 HX/\HX b=some (.lst (row.map V.int))/\(∀n∈row,0<=n/\n<g)/\row.length<=60) (λN hN=>?_) ?_
 ·have cl:(DO ns (some 3) (some 63)).length<=60:=by
   unfold DO;rw[YC];have ea:HT.FU ns.length 0 (some 3)=min 3 ns.length:=rfl;have eb:HT.FU ns.length ns.length (some 63)=min 63 ns.length:=rfl;rw[ea,eb];lia
  refine⟨g,rfl,by lia,_,rfl,3,rfl,63,rfl,?_⟩;refine Dx hS1 λp2 H2 e2 n2 h2=>⟨p2,_,rfl,Ad.of (by rw[EO]at h2;exact h2),λp hp=>hN _ _ ⟨p,_,rfl,e2.trans (AG.new hp _),AC,Qp g2 _,by rw[Xk];exact cl⟩⟩
 rintro σ H2 ⟨b0,Q0,rfl,e2,hb0,rb0,rl0⟩;refine A7 λN hN=>?_;walk_at "rd";refine⟨a,ns,0,rfl,e2.seq hS1,h63,_,rfl,by decide,by decide,by decide,hN _ _ ?_⟩;clear hN N;have y0:=YY (ns.getD 0 0/192) (show (40:Int)≠0 by decide);have y1:=YQ (ns.getD 0 0/192) (show (0:Int)<40 by decide);obtain⟨mo,hmo⟩:∃x:Int,x=ns.getD 0 0/192%40:=⟨_,rfl⟩;rw[<-hmo]at y0 y1⊢;refine Ck (λσ HX=>∃(b:Addr) (row:List Int),σ=[some (.ref a),some (.ref r),some (.int g),some (.ref b),some (.int mo),none,none,none,none]/\AG H1 HX/\HX b=some (.lst (row.map V.int))/\(∀n∈row,0<=n/\n<g)/\row.length<=99) (λN hN=>?_) ?_
 ·refine⟨_,rfl,_,rfl,a,ns,2,rfl,e2.seq hS1,h63,_,rfl,_,_,rfl,y0,by lia,λp3 H3 l ll lb e3 n3 h3=>⟨p3,rfl,⟨_,Ad.of h3⟩,λD hD=>?_⟩⟩;refine CB (xs:=l.map V.int) (λi acc Hx=>GU g i acc/\AG H3 Hx/\Hx D=some (.lst acc)) ⟨GU.nil,AG.new hD _,AC⟩ (λi acc Hx _ z=>Ad.of (z.2.1 _ _ h3)) ?_ ?_
  ·rintro i v acc Hx hv ⟨sg,ex,hDx⟩;obtain⟨x,hx,rfl⟩:=By hv;have xi:=(Xo.mp hx).1;walk_at "rd";exact⟨by lia,hDx,sg.len (by lia),sg.snoc g2 _,ex.into hD,AC⟩
  ·rintro acc H5 ⟨⟨us,rfl,ul,ub⟩,e5,h5⟩;rw[Xk]at ul;refine JW (e5 _ _ (e3 _ _ hb0)) h5 (by rw[Xk,Xk];lia) λp6 H6 e6 n6 h6=>hN _ _ ⟨p6,Q0++us,rfl,((e2.trans e3).trans e5).trans e6,by rw[h6,Xv],λn hn=>(Xq.mp hn).elim (rb0 n) (ub n),by rw[Xp];lia⟩
 clear hb0 rb0 rl0 Q0 b0 e2 H2;rintro σ H2 ⟨b,row,rfl,e2,hb,rb,rl⟩;have ok2:=ok.same e2;have tb2:=(tb0.same e1).same e2;refine A7 λN hN=>?_;walk_at "rd";refine⟨r,b,g,lo,tab,m,row,rfl,ok2,Ad.of hb,λH3 e3=>hN _ _ ?_⟩;clear hN N;have ok3:=ok2.same e3;have hb3:=e3 _ _ hb;have tb3:=tb2.same e3;refine Ck (λσ HX=>σ=[some (.ref a),some (.ref r),some (.int g),some (.ref b),some (.int mo),some (.int (B5 g.toNat tab row)),none,none,none]/\AG H3 HX) (λN hN=>?_) ?_
 ·walk_at "rd";refine⟨r,b,g,lo,tab,m,row,rfl,ok3,hb3,rb,by lia,λH4 e4=>⟨true,rfl,?_⟩⟩;rw[qE (by decide)];exact hN _ _ ⟨rfl,e4⟩
 rintro σ H4 ⟨rfl,e4⟩;have ok4:=ok3.same e4;have hb4:=e4 _ _ hb3;have tb4:=tb3.same e4;have lm:ok.m1=ok.m1:=rfl;refine Ck (λσ HX=>∃(A M:List Int) (f:Int->Nat),σ=[some (.ref a),some (.ref r),some (.int g),some (.ref b),some (.int mo),some (.int (B5 g.toNat tab row)),some (.bl (decide (AS g tf∉M))),none,none]/\Bf t.p_6 H4 HX/\BQ LP (E1 "sets_reached") t.p_6 HX/\Db [AS g tf] (AQ g tf) A/\Ee A (AQ g tf) [0] M f) (λN hN=>?_) ?_
 ·walk_at "rd";exact⟨r,g,lo,tab,m,lf,tf,mf,rfl,ok4,fw,tb4,λ_ A M f rp fi H5 s5 tb5=>hN _ _ ⟨A,M,f,rfl,s5,tb5,rp,fi⟩,λz=>qG z (by lia)⟩
 rintro σ H5 ⟨A,M,f,rfl,s5,tb5,rp,fi⟩;have ok5:=ok4.sameT s5 tb4;have hb5:=s5.get tb4 hb4 λ_ z=>by cases z
 have oi:=K9 g2 rp fi;refine Ck (λσ HX=>σ=[some (.ref a),some (.ref r),some (.int g),some (.ref b),some (.int mo),some (.int (B5 g.toNat tab row)),some (.bl (decide (AS g tf∉M))),none,none]/\HX=H5) (λN hN=>?_) ?_
 ·walk_at "rd";refine⟨_,.of (.bl _),_,On,?_⟩;rw[qE (by decide)];exact hN _ _ ⟨rfl,rfl⟩
 rintro σ HX ⟨rfl,rfl⟩;have alr:∀{w:List Int},B5 g.toNat tf w≠0->1<=B5 g.toNat tab w:=λ{w} z=>GS g2 tfl (by lia) ok.len ok.m1 al (by have:=DC g.toNat tf w;lia)
 have rla:∀{w:List Int},B5 g.toNat tf w=0->B5 g.toNat tab w=0:=λ{w} z=>by
  rcases Int.lt_or_le (B5 g.toNat tab w) 1 with y|y
  ·have:=DC g.toNat tab w;lia
  ·have x:=GS g2 ok.len ok.m1 tfl (by lia) (al.symm) y;lia
 refine Ck (λσ HY=>σ=[some (.ref a),some (.ref r),some (.int g),some (.ref b),some (.int mo),some (.int (B5 g.toNat tab row)),some (.bl (decide (AS g tf∉M))),none,none]/\HY=HX/\AS g tf∈M) (λN hN=>?_) ?_
 ·walk_at "rd"
  by_cases z:AS g tf∈M
  ·rw[qE (λy=>y z)];exact hN _ _ ⟨rfl,rfl,z⟩
  ·rw[qF z];have on:=oi.mp z;have hN9:=BP g2 ok.len ok.m1
   have bl:=P4 (G:=g.toNat) (tab:=tab) (l:=m-1) (by lia) (λn hn=>by have:=ok.tb n hn;lia) (by
    have z:((tab.length/g.toNat:Nat):Int)=((g.toNat^(m-1):Nat):Int):=by rw[hN9.1,ZY,show ((g.toNat:Nat):Int)=g by lia]
    lia) (λr hr=>alr (on r λn hn=>by have:=hr n hn;lia)) row (λn hn=>by have:=rb n hn;lia)
   rw[bl];exact⟨r,b,g,lo,tab,m,row,lf,tf,mf,rfl,ok5,fw,s9,tb5,hb5,rb,by lia,on,λH6 s6 tb6=>q H6⟩
 rintro σ HY ⟨rfl,rfl,fm⟩;refine Ck (λσ HX=>∃(D:Addr) (ws:List Int),σ=[some (.ref a),some (.ref r),some (.int g),some (.ref b),some (.int mo),some (.int (B5 g.toNat tab row)),some (.bl (decide (AS g tf∉M))),some (.ref D),none]/\Bf t.p_6 HY HX/\HX D=some (.lst (ws.map V.int))/\(∀n∈ws,0<=n/\n<g)/\ws≠[]/\B5 g.toNat tf ws=0/\B5 g.toNat tf ws.dropLast≠0/\ws.length<=513) (λN hN=>?_) ?_
 ·walk_at "rd";obtain⟨hn,hl⟩:=Cn g2 ok.len fw;have h9:tf.length/g.toNat<=9:=by lia
  have hp1:=RW.Ah g2 (mf-1);refine⟨r,g,lo,tab,m,lf,tf,mf,rfl,ok5,fw,tb5,λ_ A' M' f' rp' fi'=>⟨λz=>qG fm (oi.mpr ((K9 g2 rp' fi').mp z)),λz D H6 s6 tb6 nD hD=>?_⟩,λz=>qG z (by lia)⟩;obtain⟨w1,w2,w3,w4,w5⟩:=RN g2 (by lia) rp' fi' z rfl;have cA:A'.length<=512:=YK (C8 rp'.nd λa ha=>(rp'.co a ha).low (N:=2^(tf.length/g.toNat)) (λs hs=>by rw[Xl.mp hs];exact DI g tf) λx h1 h2 y hy=>((DG g9 tf) x h1 h2).2 y hy) (Ef h9);have lw:=fi'.low z;simp only[List.length_cons,List.length_nil]at lw;exact hN _ _ ⟨D,_,rfl,s6,hD,w1,w2,w3,w4,by lia⟩
 clear tb3 hb3 ok3;rintro σ H6 ⟨D,ws,rfl,s6,hD,wb,wn,w0,wd,wl⟩;have ok6:=ok5.sameT s6 tb5;have hb6:=s6.get tb5 hb5 λ_ z=>by cases z
 have t0:=rla w0;have td:=alr wd;refine Ck (λσ HX=>σ=[some (.ref a),some (.ref r),some (.int g),some (.ref b),some (.int mo),some (.int (B5 g.toNat tab row)),some (.bl (decide (AS g tf∉M))),some (.ref D),none]/\AG H6 HX) (λN hN=>?_) ?_
 ·walk_at "rd";refine⟨_,.of (.lst hD),_,Rt,?_⟩;rw[qE (by decide)];refine⟨by decide,λp0 hp0=>?_⟩;have f0:=AG.new hp0 (.lst []);refine⟨ws,Ad.of (f0 _ _ hD),[],Ad.of AC,?_⟩;rw[qE wn];refine⟨r,D,g,lo,tab,m,ws,rfl,ok6.same f0,Ad.of (f0 _ _ hD),λH8 e8=>⟨rfl,?_⟩⟩;have e68:=f0.trans e8;rw[t0,qE (λz=>z rfl)];refine Dx (Ad.of (e68 _ _ hD)) λp2 H9 e9 n9 h9=>?_;rw[EO,QF]at h9;have e69:=e68.trans e9;refine⟨r,p2,g,lo,tab,m,ws.dropLast,rfl,ok6.same e69,Ad.of h9,λH10 e10=>⟨rfl,?_⟩⟩;rw[qE (λz=>by have:=V.int.inj z;lia)];exact hN _ _ ⟨rfl,e69.trans e10⟩
 rintro σ H7 ⟨rfl,e7⟩;have ok7:=ok6.same e7;have hb7:=e7 _ _ hb6;have hD7:=e7 _ _ hD;refine A7 λN hN=>?_;walk_at "rd";have hS7:Ad K H7 a (ns.map V.int):=e7.seq (s6.seq tb5 (s5.seq tb4 (((e2.trans e3).trans e4).seq hS1)));refine⟨a,ns,1,rfl,hS7,h63,_,.inl (Ad.of hb7),_,rfl,by lia,hN _ _ ?_⟩;clear hN N;rw[Xk];have d0:=YY (ns.getD 1 0) (show (row.length:Int)+1≠0 by lia);have d1:=YQ (ns.getD 1 0) (show 0<(row.length:Int)+1 by lia);obtain⟨j,hj⟩:∃j:Int,j=ns.getD 1 0%((row.length:Int)+1):=⟨_,rfl⟩;rw[<-hj]at d0 d1⊢;refine Ck (λσ HX=>σ=[some (.ref a),some (.ref r),some (.int g),some (.ref b),some (.int mo),some (.int (B5 g.toNat tab row)),some (.bl (decide (AS g tf∉M))),some (.ref D),some (.int j)]/\AG H7 HX) (λN hN=>?_) ?_
 ·walk_at "rd";refine⟨_,.inl (Ad.of hb7),_,.inl (Ad.of hD7),?_⟩;rw[Xk,Xk]
  by_cases y:(row.length:Int)+(ws.length:Int)<=300
  ·rw[qF y];have l1:=P7 d0 (show j<=(row.length:Int) by lia);have l2:=US d0 (show j<=(row.length:Int) by lia);refine Dx (Ad.of hb7) λp5 H8 e5 n5 h5=>?_;rw[EO]at h5;refine JW h5 (e5 _ _ hD7) (by rw[Xk,Xk,l1];lia) λp6 H9 e6 n6 h6=>?_;refine Dx (Ad.of ((e5.trans e6) _ _ hb7)) λp7 H10 e8 n7 h7=>?_;rw[EO]at h7;refine JW (e8 _ _ h6) h7 (by rw[Xp,Xk,Xk,Xk,l1,l2];lia) λp8 H11 e9 n8 h8=>?_;have eE:=((e5.trans e6).trans e8).trans e9
   have tz:B5 g.toNat tab (DO row none (some j)++ws++DO row (some j) none)=0:=by
    rcases Int.lt_or_le (B5 g.toNat tab (DO row none (some j)++ws++DO row (some j) none)) 1 with z|z
    ·have:=DC g.toNat tab (DO row none (some j)++ws++DO row (some j) none);lia
    ·have:=OF g2 ok.len ok.m1 z;lia
   rw[<-tz];refine⟨r,p8,g,lo,tab,m,DO row none (some j)++ws++DO row (some j) none,rfl,ok7.same eE,by rw[h8,Xv,Xv],λn hn=>?_,by rw[Xp,Xp,l1,l2];lia,λH12 e12=>⟨true,rfl,?_⟩⟩
   ·rcases Xq.mp hn with z|z
    ·rcases Xq.mp z with z|z
     ·exact rb n (ND z)
     ·exact wb n z
    ·exact rb n (ND z)
   ·rw[qE (by decide)];exact hN _ _ ⟨rfl,eE.trans e12⟩
  ·rw[qE y];exact hN _ _ ⟨rfl,AG.refl _⟩
 rintro σ H8 ⟨rfl,e8⟩;walk_at "rd";rw[<-t0];exact⟨r,D,g,lo,tab,m,ws,rfl,ok7.same e8,e8 _ _ hD7,wb,by lia,λH9 _=>q H9⟩
end
theorem UV{l:PySem.W.OpenLaw}{w:World}{K:qJ}{h:Heap}{mg:Str->Option Value}{fa c_35 c_47 c_53 c_48 c_34 c_39 f_1 f_38 f_41 f_22 f_4 f_32 f_46 f_21 f_24 f_8 f_11 f_59 f_51 f_31 f_33 f_55 f_49 f_37 f_0 f_30 f_50 f_45 f_54 f_56 f_23 f_40 f_7 f_43 f_42 f_14 f_5 f_6 f_13 f_58 f_57 f_52 f_44 f_12 f_20 f_3 f_9 f_18 f_28 f_10 f_19 f_26 f_15 f_16 f_36 f_27 f_25 f_17 f_2 f_29 f_60 cc_6 p_6:Addr}{g_LONGEST_TABLE g_MOST_NODES:Tok}(X:K.In h)(G:h.Ns mainGlobals mg)(hfa:mg "law"=some (.ref fa))
  (n_35:PySem.W.nsIn K mainGlobals "RowError"=some (some (.ref c_35)))
  (n_47:PySem.W.nsIn K mainGlobals "NoRule"=some (some (.ref c_47)))
  (n_53:PySem.W.nsIn K mainGlobals "NoRow"=some (some (.ref c_53)))
  (n_48:PySem.W.nsIn K mainGlobals "NoSuch"=some (some (.ref c_48)))
  (n_34:PySem.W.nsIn K mainGlobals "NoWindow"=some (some (.ref c_34)))
  (n_39:PySem.W.nsIn K mainGlobals "TooWide"=some (some (.ref c_39)))
  (a_1:PySem.W.findIn K (.ref c_53) "__init__"=some (some (.ref f_1)))
  (h_1:∃fd,B1 K "__init__" "NoRow.__init__" W0 f_1 fd)
  (h_38:Ab K "is_whole" Tc f_38)
  (h_41:Ab K "is_sign" Td f_41)
  (h_22:Ab K "check_word" Te f_22)
  (h_4:Ab K "check_length" W1 f_4)
  (h_32:Ab K "number_of" Tf f_32)
  (h_46:Ab K "word_of" Tg f_46)
  (h_21:Ab K "check_head" Th f_21)
  (h_24:Ab K "places_for" Ti f_24)
  (h_8:Ab K "table_length" W2 f_8)
  (h_11:Ab K "check_table" Tj f_11)
  (h_59:Ab K "rule" Tk f_59)
  (h_51:Ab K "places" Tl f_51)
  (h_31:Ab K "next_sign" Tn f_31)
  (h_33:Ab K "told_from" To f_33)
  (h_55:Ab K "heads" Tp f_55)
  (h_49:Ab K "counts" Tq f_49)
  (h_37:Ab K "counting" Tr f_37)
  (h_0:Ab K "sign_or_nought" W3 f_0)
  (h_30:Ab K "by_window" Ts f_30)
  (h_50:Ab K "narrow" Tt f_50)
  (h_45:Ab K "widened" Tu f_45)
  (h_54:Ab K "frame" Tv f_54)
  (h_56:Ab K "nodes" Tw f_56)
  (h_23:Ab K "everything" Tx f_23)
  (h_40:Ab K "ends_of" Tz f_40)
  (h_7:Ab K "single_steps" W6 f_7)
  (h_43:Ab K "step_by" T0 f_43)
  (h_42:Ab K "reached" T1 f_42)
  (h_14:Ab K "turned_back" T3 f_14)
  (h_5:Ab K "fewest_steps" W7 f_5)
  (h_6:Mz K "sets_reached" W8 f_6 cc_6 p_6)
  (h_13:Ab K "reach_paper" T4 f_13)
  (h_58:Ab K "onto" T5 f_58)
  (h_57:Ab K "lost" T6 f_57)
  (h_52:Ab K "shares" T7 f_52)
  (h_44:Ab K "ways_on" T8 f_44)
  (h_12:Ab K "many_before" T9 f_12)
  (h_20:Ab K "_law_whole" UA f_20)
  (h_3:Ab K "_law_cell_at" W9 f_3)
  (h_9:Ab K "_law_stream" XB f_9)
  (h_18:Ab K "_law_power" UB f_18)
  (h_28:Ab K "_law_sums" UC f_28)
  (h_10:Ab K "_law_tracks" UD f_10)
  (h_19:Ab K "_law_table" UE f_19)
  (h_26:Ab K "_law_rule" UF f_26)
  (h_15:Ab K "_law_count" UG f_15)
  (h_16:Ab K "_law_frame" UH f_16)
  (h_36:Ab K "_law_has" UI f_36)
  (h_27:Ab K "_law_sets" UJ f_27)
  (h_25:Ab K "_law_back" UK f_25)
  (h_17:Ab K "_law_leads" UL f_17)
  (h_2:Ab K "_law_balanced" XC f_2)
  (h_29:Ab K "_law_told" UM f_29)
  (h_60:Ab K "law" RQ f_60)
  (z_len:PySem.W.nsIn K mainGlobals "len"=some none)
  (z_list:PySem.W.nsIn K mainGlobals "list"=some none)
  (z_reversed:PySem.W.nsIn K mainGlobals "reversed"=some none)
  (z_isinstance:PySem.W.nsIn K mainGlobals "isinstance"=some none)
  (z_range:PySem.W.nsIn K mainGlobals "range"=some none)
  (z_int:PySem.W.nsIn K mainGlobals "int"=some none)
  (z_bool:PySem.W.nsIn K mainGlobals "bool"=some none)
  (z_ValueError:PySem.W.nsIn K mainGlobals "ValueError"=some none)
  (z_tuple:PySem.W.nsIn K mainGlobals "tuple"=some none)
  (z_enumerate:PySem.W.nsIn K mainGlobals "enumerate"=some none)
  (z_min:PySem.W.nsIn K mainGlobals "min"=some none)
  (z_sum:PySem.W.nsIn K mainGlobals "sum"=some none)
  (z_sorted:PySem.W.nsIn K mainGlobals "sorted"=some none)
  (w_LONGEST_TABLE:PySem.W.nsIn K mainGlobals "LONGEST_TABLE"=some (some (.int 256 g_LONGEST_TABLE)))
  (w_MOST_NODES:PySem.W.nsIn K mainGlobals "MOST_NODES"=some (some (.int 9 g_MOST_NODES)))
  (x_47:PySem.W.excIn K c_47 Ft "ValueError.__new__"=true)
  (x_48:PySem.W.excIn K c_48 Ft "ValueError.__new__"=true)
  (x_34:PySem.W.excIn K c_34 Ft "ValueError.__new__"=true)
  (x_39:PySem.W.excIn K c_39 Ft "ValueError.__new__"=true)
  (xi_53:Wd K c_53 f_1=true)
  (xt_53:PySem.W.typeIn K (.ref f_1)=some (.type "function"))
  (xk_53:PySem.W.keepIn K (.ref c_53)=true)
  (ci_53:(PySem.W.clsIn K c_53).isSome=true)
  (ga_53:PySem.W.findIn K (.ref c_53) "__getattribute__"=some (some (.builtin "BaseException.__getattribute__")))
  (gn_53:PySem.W.findIn K (.ref c_53) "__getattr__"=some none)
  (ca_53:PySem.W.findIn K (.ref c_53) "__class__"=some (some (.builtin "object.__class__")))
  (sg_53:PySem.W.specialIn K (.builtin "object.__class__") "__get__"=some (some (.builtin "getset_descriptor.__get__")))
  (tk_53:PySem.W.takesIn K (.builtin "object.__class__")=some true)
  (mo_53:PySem.W.mroIn K c_53 (.type "object")=some true)
  (mb_53:PySem.W.mroIn K c_53 (.type "BaseException")=some true)
  (sa_53:PySem.W.findIn K (.ref c_53) "__setattr__"=some (some (.builtin "object.__setattr__")))
  (hd_53:PySem.W.hasDictIn K c_53=true)
  (mr_53:U3 K c_53 c_35=true)
  (no_53:PySem.W.findIn K (.ref c_53) "at"=some none)
  : (∀P∈[p_6],∃c,PySem.W.codeHdIn K c P=true)/\∃fd:FuncData,(∀(s:Shared) (v:Value),BindsTo s fd ⟨[v],[]⟩ [("_law_script",v)])/\∀base:Heap,K.In base->base.Ns mainGlobals mg->Hf mg base->Ex l.prog w K mg base (IY l.prog w) 14 fa fd ["_law_script"] (Jo K [p_6]):=by
 have T:CU K mg ⟨c_35,c_47,c_53,c_48,c_34,c_39,f_1,f_38,f_41,f_22,f_4,f_32,f_46,f_21,f_24,f_8,f_11,f_59,f_51,f_31,f_33,f_55,f_49,f_37,f_0,f_30,f_50,f_45,f_54,f_56,f_23,f_40,f_7,f_43,f_42,f_14,f_5,f_6,f_13,f_58,f_57,f_52,f_44,f_12,f_20,f_3,f_9,f_18,f_28,f_10,f_19,f_26,f_15,f_16,f_36,f_27,f_25,f_17,f_2,f_29,f_60,cc_6,p_6⟩:=⟨PySem.W.mg_of X G n_35,PySem.W.mg_of X G n_47,PySem.W.mg_of X G n_53,PySem.W.mg_of X G n_48,PySem.W.mg_of X G n_34,PySem.W.mg_of X G n_39,h_1,PySem.W.mg_of X G h_38.2,h_38.1,PySem.W.mg_of X G h_41.2,h_41.1,PySem.W.mg_of X G h_22.2,h_22.1,PySem.W.mg_of X G h_4.2,h_4.1,PySem.W.mg_of X G h_32.2,h_32.1,PySem.W.mg_of X G h_46.2,h_46.1,PySem.W.mg_of X G h_21.2,h_21.1,PySem.W.mg_of X G h_24.2,h_24.1,PySem.W.mg_of X G h_8.2,h_8.1,PySem.W.mg_of X G h_11.2,h_11.1,PySem.W.mg_of X G h_59.2,h_59.1,PySem.W.mg_of X G h_51.2,h_51.1,PySem.W.mg_of X G h_31.2,h_31.1,PySem.W.mg_of X G h_33.2,h_33.1,PySem.W.mg_of X G h_55.2,h_55.1,PySem.W.mg_of X G h_49.2,h_49.1,PySem.W.mg_of X G h_37.2,h_37.1,PySem.W.mg_of X G h_0.2,h_0.1,PySem.W.mg_of X G h_30.2,h_30.1,PySem.W.mg_of X G h_50.2,h_50.1,PySem.W.mg_of X G h_45.2,h_45.1,PySem.W.mg_of X G h_54.2,h_54.1,PySem.W.mg_of X G h_56.2,h_56.1,PySem.W.mg_of X G h_23.2,h_23.1,PySem.W.mg_of X G h_40.2,h_40.1,PySem.W.mg_of X G h_7.2,h_7.1,PySem.W.mg_of X G h_43.2,h_43.1,PySem.W.mg_of X G h_42.2,h_42.1,PySem.W.mg_of X G h_14.2,h_14.1,PySem.W.mg_of X G h_5.2,h_5.1,PySem.W.mg_of X G h_6.2,h_6.1,(let ⟨_,z⟩:=h_6.1;z.hd),PySem.W.mg_of X G h_13.2,h_13.1,PySem.W.mg_of X G h_58.2,h_58.1,PySem.W.mg_of X G h_57.2,h_57.1,PySem.W.mg_of X G h_52.2,h_52.1,PySem.W.mg_of X G h_44.2,h_44.1,PySem.W.mg_of X G h_12.2,h_12.1,PySem.W.mg_of X G h_20.2,h_20.1,PySem.W.mg_of X G h_3.2,h_3.1,PySem.W.mg_of X G h_9.2,h_9.1,PySem.W.mg_of X G h_18.2,h_18.1,PySem.W.mg_of X G h_28.2,h_28.1,PySem.W.mg_of X G h_10.2,h_10.1,PySem.W.mg_of X G h_19.2,h_19.1,PySem.W.mg_of X G h_26.2,h_26.1,PySem.W.mg_of X G h_15.2,h_15.1,PySem.W.mg_of X G h_16.2,h_16.1,PySem.W.mg_of X G h_36.2,h_36.1,PySem.W.mg_of X G h_27.2,h_27.1,PySem.W.mg_of X G h_25.2,h_25.1,PySem.W.mg_of X G h_17.2,h_17.1,PySem.W.mg_of X G h_2.2,h_2.1,PySem.W.mg_of X G h_29.2,h_29.1,PySem.W.mg_of X G h_60.2,h_60.1,PySem.W.mg_none_of X G z_len,PySem.W.mg_none_of X G z_list,PySem.W.mg_none_of X G z_reversed,PySem.W.mg_none_of X G z_isinstance,PySem.W.mg_none_of X G z_range,PySem.W.mg_none_of X G z_int,PySem.W.mg_none_of X G z_bool,PySem.W.mg_none_of X G z_ValueError,PySem.W.mg_none_of X G z_tuple,PySem.W.mg_none_of X G z_enumerate,PySem.W.mg_none_of X G z_min,PySem.W.mg_none_of X G z_sum,PySem.W.mg_none_of X G z_sorted,⟨_,PySem.W.mg_of X G w_LONGEST_TABLE⟩,⟨_,PySem.W.mg_of X G w_MOST_NODES⟩,x_47,x_48,x_34,x_39,⟨xi_53,xt_53,xk_53⟩,⟨ci_53,ga_53,gn_53,ca_53,sg_53,tk_53,mo_53,mb_53⟩,⟨sa_53,hd_53,mr_53,no_53,⟨ci_53,ga_53,gn_53,ca_53,sg_53,tk_53,mo_53,mb_53⟩⟩⟩;have e:=hfa.symm.trans T.m_60;cases e;obtain⟨fd,F⟩:=T.d_60;obtain⟨oc,od,kV,doc,pm,an,cdv,ct,osl,ef,lk,hcd⟩:=F.ex;refine⟨(List.forall_mem_cons.mpr ⟨⟨_,T.hd_6⟩,(λ_ h=>qG h X7)⟩),fd,λs v=>by rw[ef];exact .of_eq rfl,λbase _ _ hB=>?_⟩;have G_1:=XE (P:=l.prog) (w:=w) (base:=base) T;have G_38:=Vd (P:=l.prog) (w:=w) (base:=base) T;have G_41:=Vf (P:=l.prog) (w:=w) (base:=base) T G_38;have G_22:=Vg (P:=l.prog) (w:=w) (base:=base) T G_41 G_1;have G_4:=XG (P:=l.prog) (w:=w) (base:=base) T G_22 G_1;have G_32:=Vh (P:=l.prog) (w:=w) (base:=base) T G_22;have G_46:=Vi (P:=l.prog) (w:=w) (base:=base) T;have G_21:=Vk (P:=l.prog) (w:=w) (base:=base) T G_38;have G_24:=Vl (P:=l.prog) (w:=w) (base:=base) T;have G_8:=XH (P:=l.prog) (w:=w) (base:=base) T;have G_11:=Vm (P:=l.prog) (w:=w) (base:=base) T G_24 G_41;have G_59:=Vo (P:=l.prog) (w:=w) (base:=base) T G_21 G_11;have G_51:=Vq (P:=l.prog) (w:=w) (base:=base) T G_24;have G_31:=Vs (P:=l.prog) (w:=w) (base:=base) T G_4 G_51 G_32;have G_33:=Vt (P:=l.prog) (w:=w) (base:=base) T;have G_55:=Vv (P:=l.prog) (w:=w) (base:=base) T;have G_49:=Vw (P:=l.prog) (w:=w) (base:=base) T;have G_37:=Vx (P:=l.prog) (w:=w) (base:=base) T G_51 G_49;have G_0:=XJ (P:=l.prog) (w:=w) (base:=base) T;have G_30:=Vy (P:=l.prog) (w:=w) (base:=base) T G_59 G_8 G_46 G_31 G_0 G_51;have G_50:=Vz (P:=l.prog) (w:=w) (base:=base) T G_37 G_30;have G_45:=V0 (P:=l.prog) (w:=w) (base:=base) T G_37 G_30 G_8;have G_54:=V1 (P:=l.prog) (w:=w) (base:=base) T G_50 G_51 G_45 G_55;have G_56:=V3 (P:=l.prog) (w:=w) (base:=base) T G_55 G_54;have G_23:=V5 (P:=l.prog) (w:=w) (base:=base) T G_56;have G_40:=V6 (P:=l.prog) (w:=w) (base:=base) T G_55;have G_7:=XM (P:=l.prog) (w:=w) (base:=base) T G_55 G_40 G_33;have G_43:=V7 (P:=l.prog) (w:=w) (base:=base) T;have G_42:=V8 (P:=l.prog) (w:=w) (base:=base) T;have G_14:=V9 (P:=l.prog) (w:=w) (base:=base) T;have G_5:=XN (P:=l.prog) (w:=w) (base:=base) T G_14;have G_6:=XO (P:=l.prog) (w:=w) (base:=base) T hB G_54 G_7 G_42 G_23 G_43;have G_13:=WA (P:=l.prog) (w:=w) (base:=base) T G_6 G_5;have G_58:=WC (P:=l.prog) (w:=w) (base:=base) T G_13;have G_57:=WD (P:=l.prog) (w:=w) (base:=base) T G_6 G_5 G_23;have G_52:=WF (P:=l.prog) (w:=w) (base:=base) T G_55;have G_44:=WG (P:=l.prog) (w:=w) (base:=base) T G_55 G_52 G_33;have G_12:=WI (P:=l.prog) (w:=w) (base:=base) T G_22 G_44;have G_20:=WK (P:=l.prog) (w:=w) (base:=base) T;have G_3:=XR (P:=l.prog) (w:=w) (base:=base) T;have G_9:=XS (P:=l.prog) (w:=w) (base:=base) T;have G_18:=WL (P:=l.prog) (w:=w) (base:=base) T;have G_28:=WM (P:=l.prog) (w:=w) (base:=base) T G_18;have G_10:=WN (P:=l.prog) (w:=w) (base:=base) T;have G_19:=WO (P:=l.prog) (w:=w) (base:=base) T G_18 G_10 G_28;have G_26:=WP (P:=l.prog) (w:=w) (base:=base) T G_3 G_9 G_19;have G_15:=WQ (P:=l.prog) (w:=w) (base:=base) T;have G_16:=WR (P:=l.prog) (w:=w) (base:=base) T;have G_36:=WT (P:=l.prog) (w:=w) (base:=base) T G_18;have G_27:=WU (P:=l.prog) (w:=w) (base:=base) T G_18 G_20;have G_25:=WV (P:=l.prog) (w:=w) (base:=base) T G_36;have G_17:=WW (P:=l.prog) (w:=w) (base:=base) T;have G_2:=XT (P:=l.prog) (w:=w) (base:=base) T G_16 G_27 G_25 G_13 G_17;have G_29:=WX (P:=l.prog) (w:=w) (base:=base) T G_12 G_20;exact WY T F G_26 G_15 G_58 G_57 G_29 G_2 G_3 G_9
end K45
noncomputable def PySem.W.Fast.tw10878896016494849380:=PySem.Challenge.pw_rowrules_k45_whole_reached_and_balanced
theorem PySem.W.Fast.te10878896016494849380:PySem.Challenge.pw_rowrules_k45_whole_reached_and_balanced=PySem.W.Fast.tw10878896016494849380:=rfl
namespace PySem.W.Fast
theorem tw12557149179306785225:0=0:=rfl
theorem tw2830286581158892376:0=0:=rfl
theorem tw14466164993330202038:0=0:=rfl
theorem tw10223841940645327714:0=0:=rfl
theorem tw8746165468148334077:0=0:=rfl
theorem tw8702994658625956593:0=0:=rfl
theorem tw1489561949307026338:0=0:=rfl
theorem tw15669046889237898131:0=0:=rfl
theorem tw14567322119476203620:0=0:=rfl
theorem tw5871569037056260827:0=0:=rfl
theorem tw14036251033752473045:0=0:=rfl
theorem tw694909387084620840:0=0:=rfl
theorem tw15703996425858877495:0=0:=rfl
theorem tw16446097699029857262:0=0:=rfl
theorem tw3306308148424110698:0=0:=rfl
theorem tw3528093732556899457:0=0:=rfl
theorem tw5390372974347541101:0=0:=rfl
theorem tw7829209482225661772:0=0:=rfl
theorem tw6273744253823655029:0=0:=rfl
theorem tw13387490725837102679:0=0:=rfl
theorem tw10038429524795774173:0=0:=rfl
theorem tw1219610072824165832:0=0:=rfl
theorem tw17530554181977390330:0=0:=rfl
theorem tw7313299344673679267:0=0:=rfl
theorem tw5899975710610546022:0=0:=rfl
theorem tw12990293176574060106:0=0:=rfl
theorem tw2016354448902696510:0=0:=rfl
theorem tw170448955644810121:0=0:=rfl
theorem tw5216580328836468206:0=0:=rfl
theorem tw2879693400478953224:0=0:=rfl
theorem tw12589941835694670647:0=0:=rfl
theorem tw16230299307377063136:0=0:=rfl
theorem tw3257509624260985487:0=0:=rfl
theorem tw16848858332268874105:0=0:=rfl
theorem tw4709660126502375766:0=0:=rfl
theorem tw18231996581353916914:0=0:=rfl
theorem tw10826911325134162740:0=0:=rfl
theorem tw13030941896714719529:0=0:=rfl
theorem tw5987126809366739897:0=0:=rfl
theorem tw12514777933973961407:0=0:=rfl
theorem tw7542266060926403434:0=0:=rfl
theorem tw12987778246973712323:0=0:=rfl
theorem tw18263849031203804659:0=0:=rfl
theorem tw3049195399039705210:0=0:=rfl
theorem tw5080965857566356057:0=0:=rfl
theorem tw7869529235124997898:0=0:=rfl
theorem tw13821057821714275174:0=0:=rfl
theorem tw14312287194740473208:0=0:=rfl
theorem tw12020154211588079383:0=0:=rfl
theorem tw16372663664425827226:0=0:=rfl
theorem tw13826238450804790085:0=0:=rfl
theorem tw382734784383604993:0=0:=rfl
theorem tw13317738906548228915:0=0:=rfl
theorem tw9098515910149426507:0=0:=rfl
theorem tw14491356380863718900:0=0:=rfl
theorem tw9305388695939290255:0=0:=rfl
theorem tw3363490896761041319:0=0:=rfl
theorem tw8338154317298617085:0=0:=rfl
theorem tw13064039042665528668:0=0:=rfl
theorem tw2194905892111296928:0=0:=rfl
theorem tw8903267484523910913:0=0:=rfl
theorem tw16908722520279611383:0=0:=rfl
theorem tw4215623227613133155:0=0:=rfl
theorem tw18057104242993034044:0=0:=rfl
theorem tw8078182096970480093:0=0:=rfl
theorem tw5308459049560732888:0=0:=rfl
theorem tw6627160659766833534:0=0:=rfl
theorem tw11126537347462941170:0=0:=rfl
theorem tw13472737839402064188:0=0:=rfl
theorem tw12478394002972836847:0=0:=rfl
theorem tw1000419624122901929:0=0:=rfl
theorem tw18104202407269827582:0=0:=rfl
theorem tw6325077929772930421:0=0:=rfl
theorem tw3302127090198604842:0=0:=rfl
theorem tw17013518633563799969:0=0:=rfl
theorem tw15571819265031384255:0=0:=rfl
theorem tw8410143352732782228:0=0:=rfl
theorem tw11021048974491895809:0=0:=rfl
theorem tw18107596115883938931:0=0:=rfl
theorem tw12816373244731180655:0=0:=rfl
theorem tw1515831608865054958:0=0:=rfl
theorem tw259101557670884388:0=0:=rfl
theorem tw14938098597089952403:0=0:=rfl
theorem tw4717292907666145357:0=0:=rfl
theorem tw4657805682725580235:0=0:=rfl
theorem tw443273754342743836:0=0:=rfl
theorem tw5115267213896673597:0=0:=rfl
theorem tw1947330248824333787:0=0:=rfl
theorem tw71792070257027456:0=0:=rfl
theorem tw4524967741121277931:0=0:=rfl
theorem tw11409589116112969672:0=0:=rfl
theorem tw13663229774926515003:0=0:=rfl
theorem tw6118293314154314853:0=0:=rfl
theorem tw8009307222903240012:0=0:=rfl
theorem tw4291548188325126235:0=0:=rfl
theorem tw15024212942185150904:0=0:=rfl
theorem tw11308710016410918939:0=0:=rfl
theorem tw7584200061887388133:0=0:=rfl
theorem tw709032731555370803:0=0:=rfl
theorem tw9777160330534143597:0=0:=rfl
theorem tw15139210139652874457:0=0:=rfl
theorem tw1077800792008617949:0=0:=rfl
theorem tw405365784449621212:0=0:=rfl
theorem tw8508277012885526327:0=0:=rfl
theorem tw5905641562378348586:0=0:=rfl
theorem tw15270741361636051340:0=0:=rfl
theorem tw6586640020042542619:0=0:=rfl
theorem tw10024502501308300707:0=0:=rfl
theorem tw5570584793465671397:0=0:=rfl
theorem tw1486141731962620003:0=0:=rfl
theorem tw5309457804544563926:0=0:=rfl
theorem tw10788666299151174527:0=0:=rfl
theorem tw10249525961902886227:0=0:=rfl
theorem tw12053664536528366390:0=0:=rfl
theorem tw14180823477971212108:0=0:=rfl
theorem tw14592853333729807093:0=0:=rfl
theorem tw6968945319990945013:0=0:=rfl
theorem tw3512467462056241824:0=0:=rfl
theorem tw2202030951796785586:0=0:=rfl
theorem tw1870603385803344520:0=0:=rfl
theorem tw4551543532892891812:0=0:=rfl
theorem tw4007773170086376341:0=0:=rfl
theorem tw17177516400665231085:0=0:=rfl
theorem tw9177965129788342262:0=0:=rfl
theorem tw4486294118760489047:0=0:=rfl
theorem tw16818239292565969866:0=0:=rfl
theorem tw4347937331679721229:0=0:=rfl
theorem tw5209581192593919544:0=0:=rfl
theorem tw2740594841376305077:0=0:=rfl
theorem tw2171255002874196704:0=0:=rfl
theorem tw1403555482279246499:0=0:=rfl
theorem tw14044807735015435052:0=0:=rfl
theorem tw5713707135754336752:0=0:=rfl
theorem tw9260811290132909339:0=0:=rfl
theorem tw3869123097463900569:0=0:=rfl
theorem tw3228979272280189999:0=0:=rfl
theorem tw17160929849772807155:0=0:=rfl
theorem tw9678714128912182176:0=0:=rfl
theorem tw11339056866872868434:0=0:=rfl
theorem tw6846704329921408530:0=0:=rfl
theorem tw13485210850182272830:0=0:=rfl
theorem tw7681381649265266376:0=0:=rfl
theorem tw13784691889830045061:0=0:=rfl
theorem tw8570520057711666824:0=0:=rfl
theorem tw9388037188374627372:0=0:=rfl
theorem tw4251854879306162253:0=0:=rfl
theorem tw9903213938948861453:0=0:=rfl
theorem tw14853512863306733493:0=0:=rfl
theorem tw9611966547316854619:0=0:=rfl
theorem tw4647213544254827011:0=0:=rfl
theorem tw3583257434418210974:0=0:=rfl
theorem tw7629995537735149326:0=0:=rfl
theorem tw2722836969582654211:0=0:=rfl
theorem tw16383757003062528517:0=0:=rfl
theorem tw1827695350527018928:0=0:=rfl
theorem tw5191013084153446107:0=0:=rfl
theorem tw16885973919381670804:0=0:=rfl
theorem tw5990670897280444408:0=0:=rfl
theorem tw4162293540188140846:0=0:=rfl
theorem tw6726810579016732620:0=0:=rfl
theorem tw13752819360902839277:0=0:=rfl
theorem tw10514435760952619632:0=0:=rfl
theorem tw12551528600802461319:0=0:=rfl
theorem tw7967435923173217907:0=0:=rfl
theorem tw16590981742458124538:0=0:=rfl
theorem tw2795621736587270409:0=0:=rfl
theorem tw15399515620322118759:0=0:=rfl
theorem tw7601391530222520049:0=0:=rfl
theorem tw1464868097257657260:0=0:=rfl
theorem tw9978875182188614557:0=0:=rfl
theorem tw8431031084030181068:0=0:=rfl
theorem tw18172200836785126955:0=0:=rfl
theorem tw10993021930644844310:0=0:=rfl
theorem tw15599036567691499093:0=0:=rfl
theorem tw11806620857482531834:0=0:=rfl
theorem tw9442885192766189332:0=0:=rfl
theorem tw14453898398193121537:0=0:=rfl
theorem tw1832292104905495749:0=0:=rfl
theorem tw17651501001199325761:0=0:=rfl
theorem tw2123166901277578306:0=0:=rfl
theorem tw8678596769190294657:0=0:=rfl
theorem tw16351923712930205188:0=0:=rfl
theorem tw7913177378865941744:0=0:=rfl
theorem tw6955751969014719634:0=0:=rfl
theorem tw11390991418416796529:0=0:=rfl
theorem tw8195639404971727836:0=0:=rfl
theorem tw11872660863833026465:0=0:=rfl
theorem tw13641151108899066593:0=0:=rfl
theorem tw12724277687511487087:0=0:=rfl
theorem tw17609582099150139699:0=0:=rfl
theorem tw860334938245027464:0=0:=rfl
theorem tw774425741399789762:0=0:=rfl
theorem tw16056470144938747949:0=0:=rfl
theorem tw3087177289729261588:0=0:=rfl
theorem tw18301064637495925357:0=0:=rfl
theorem tw141700374685424625:0=0:=rfl
theorem tw15466935590905501766:0=0:=rfl
theorem tw4176084004287677607:0=0:=rfl
theorem tw18373270153694107626:0=0:=rfl
theorem tw15123929709352529594:0=0:=rfl
theorem tw8416867999695172005:0=0:=rfl
theorem tw16423462735444627246:0=0:=rfl
theorem tw7773719132829778429:0=0:=rfl
theorem tw1086030291135575085:0=0:=rfl
theorem tw2306327934606536376:0=0:=rfl
theorem tw1460710152302977251:0=0:=rfl
theorem tw4336747457821313179:0=0:=rfl
theorem tw13961830372778614359:0=0:=rfl
theorem tw5767199592887891044:0=0:=rfl
theorem tw10602801174038841030:0=0:=rfl
theorem tw8899946583767598872:0=0:=rfl
theorem tw1984525453142954960:0=0:=rfl
theorem tw16241888980231809542:0=0:=rfl
theorem tw17164245254433397276:0=0:=rfl
theorem tw6820510931820538291:0=0:=rfl
theorem tw14767691976837285396:0=0:=rfl
theorem tw1174753013174857080:0=0:=rfl
theorem tw1796401622061182050:0=0:=rfl
theorem tw14140224923863650923:0=0:=rfl
theorem tw12255715611086199506:0=0:=rfl
theorem tw12756726609356657851:0=0:=rfl
theorem tw11954136255671537854:0=0:=rfl
theorem tw12808202060672903561:0=0:=rfl
theorem tw665221502654304890:0=0:=rfl
theorem tw12567359044060391787:0=0:=rfl
theorem tw5884958939280386882:0=0:=rfl
theorem tw5183717231143570745:0=0:=rfl
theorem tw17041527585977705293:0=0:=rfl
theorem tw14543562798776185003:0=0:=rfl
theorem tw16655649762850511617:0=0:=rfl
theorem tw3948486403253937384:0=0:=rfl
theorem tw5485988096144006510:0=0:=rfl
theorem tw14331171122501080671:0=0:=rfl
theorem tw10199040241620109157:0=0:=rfl
theorem tw17005593687586921905:0=0:=rfl
theorem tw4807102639032049343:0=0:=rfl
theorem tw9019856798307929584:0=0:=rfl
theorem tw15370377998658412338:0=0:=rfl
theorem tw9253854302613064693:0=0:=rfl
theorem tw13148875449474125206:0=0:=rfl
theorem tw7379502779936917707:0=0:=rfl
theorem tw12666256435165294847:0=0:=rfl
theorem tw13163522431649311999:0=0:=rfl
theorem tw548403578791857426:0=0:=rfl
theorem tw5275527286664074668:0=0:=rfl
theorem tw1247774732424757754:0=0:=rfl
theorem tw4970109321147904124:0=0:=rfl
theorem tw1775870902504912671:0=0:=rfl
theorem tw6777403556695978767:0=0:=rfl
theorem tw13384055227126436565:0=0:=rfl
end PySem.W.Fast
open PySem PySem.W PyProof.Rows
set_option maxRecDepth 100000 in
set_option maxHeartbeats 0 in
theorem PySem.Challenge.cw_rowrules_k45_whole_reached_and_balanced_holds : PySem.Challenge.rw_rowrules_k45_whole_reached_and_balanced.Holds := by
 w_on;o_law;k_head;(case hw=>w_witness2)
 k_fill
 refine L2.N7 (l:=PySem.Challenge.rw_rowrules_k45_whole_reached_and_balanced) (k:=14) (n:=0) (x:="_law_script") (ts:=[_]) rfl rfl ⟨rfl,by decide,by decide⟩ (λw h Y=>⟨PySem.W.km_in_of Y,PySem.W.km_tabs_of Y⟩) ?hTab ?F
 case hTab=>exact λw=>(List.forall_mem_cons.mpr ⟨by kernel_rfl,λ_ h=>absurd h X7⟩)
 case F =>
  intro w mg fa h KX G hmg;refine' K45.UV KX G hmg ?_ ?_ ?_ ?_ ?_ ?_ ?_ ⟨_,L2.OY ?_ ?_ ?_⟩ (L2.Ac ?_ ?_ ?_ ?_) (L2.Ac ?_ ?_ ?_ ?_) (L2.Ac ?_ ?_ ?_ ?_) (L2.Ac ?_ ?_ ?_ ?_) (L2.Ac ?_ ?_ ?_ ?_) (L2.Ac ?_ ?_ ?_ ?_) (L2.Ac ?_ ?_ ?_ ?_) (L2.Ac ?_ ?_ ?_ ?_) (L2.Ac ?_ ?_ ?_ ?_) (L2.Ac ?_ ?_ ?_ ?_) (L2.Ac ?_ ?_ ?_ ?_) (L2.Ac ?_ ?_ ?_ ?_) (L2.Ac ?_ ?_ ?_ ?_) (L2.Ac ?_ ?_ ?_ ?_) (L2.Ac ?_ ?_ ?_ ?_) (L2.Ac ?_ ?_ ?_ ?_) (L2.Ac ?_ ?_ ?_ ?_) (L2.Ac ?_ ?_ ?_ ?_) (L2.Ac ?_ ?_ ?_ ?_) (L2.Ac ?_ ?_ ?_ ?_) (L2.Ac ?_ ?_ ?_ ?_) (L2.Ac ?_ ?_ ?_ ?_) (L2.Ac ?_ ?_ ?_ ?_) (L2.Ac ?_ ?_ ?_ ?_) (L2.Ac ?_ ?_ ?_ ?_) (L2.Ac ?_ ?_ ?_ ?_) (L2.Ac ?_ ?_ ?_ ?_) (L2.Ac ?_ ?_ ?_ ?_) (L2.Ac ?_ ?_ ?_ ?_) (L2.Ac ?_ ?_ ?_ ?_) (L2.RE ?_ ?_ ?_ ?_ ?_) (L2.Ac ?_ ?_ ?_ ?_) (L2.Ac ?_ ?_ ?_ ?_) (L2.Ac ?_ ?_ ?_ ?_) (L2.Ac ?_ ?_ ?_ ?_) (L2.Ac ?_ ?_ ?_ ?_) (L2.Ac ?_ ?_ ?_ ?_) (L2.Ac ?_ ?_ ?_ ?_) (L2.Ac ?_ ?_ ?_ ?_) (L2.Ac ?_ ?_ ?_ ?_) (L2.Ac ?_ ?_ ?_ ?_) (L2.Ac ?_ ?_ ?_ ?_) (L2.Ac ?_ ?_ ?_ ?_) (L2.Ac ?_ ?_ ?_ ?_) (L2.Ac ?_ ?_ ?_ ?_) (L2.Ac ?_ ?_ ?_ ?_) (L2.Ac ?_ ?_ ?_ ?_) (L2.Ac ?_ ?_ ?_ ?_) (L2.Ac ?_ ?_ ?_ ?_) (L2.Ac ?_ ?_ ?_ ?_) (L2.Ac ?_ ?_ ?_ ?_) (L2.Ac ?_ ?_ ?_ ?_) (L2.Ac ?_ ?_ ?_ ?_) (L2.Ac ?_ ?_ ?_ ?_) ?_ ?_ ?_ ?_ ?_ ?_ ?_ ?_ ?_ ?_ ?_ ?_ ?_ ?_ ?_ ?_ ?_ ?_ ?_ ?_ ?_ ?_ ?_ ?_ ?_ ?_ ?_ ?_ ?_ ?_ ?_ ?_ ?_ ?_
  any_goals k_is
  ·kernel_rfl
  ·k_exc
  ·k_exc
  ·k_exc
  ·k_exc
  ·kernel_rfl
  ·show PySem.W.isClsIn _ _=true;k_is
  ·kernel_rfl
