import PyProof.Rows.All
import Wide.All
import OpenK.AllK
import Wide.FinOn
import Lean
import PyProof.EqAt
import PyProof.EqKinds
import PyProof.TupleCall
import PySem.Challenge.RW_rowrules_k43_papers_of_reach
set_option Elab.async false
set_option linter.all false
set_option maxRecDepth 100000
abbrev qC:=@PySem.wpAny_bind
abbrev qD:=@PySem.wpAny_pure
abbrev qE:=@if_neg
abbrev qF:=@if_pos
abbrev qG:=@absurd
abbrev qH:=@decide_eq_true
abbrev qI:=@decide_eq_false
abbrev qJ:=PySem.W.Frag
abbrev Wq:=@List.length_map
abbrev Wr:=@List.mem_singleton
abbrev Ws:=@List.getElem?_eq_some_iff
abbrev Wt:=@List.getD_eq_getElem?_getD
abbrev Wu:=@PySem.Heap.get?_push_of_some
abbrev Wv:=@Nat.le_refl
abbrev Ww:=@List.mem_append
abbrev Wx:=@List.getElem?_eq_getElem
abbrev Wy:=@List.mem_of_getElem?
abbrev Wz:=@PySem.Heap.lt_size
abbrev W0:=@List.getElem?_map
abbrev W1:=@List.length_append
abbrev W2:=@Nat.lt_of_lt_of_le
abbrev W3:=@List.map_append
abbrev W6:=@List.not_mem_nil
abbrev W7:=@List.mem_cons_self
abbrev W8:=@List.length_range
abbrev W9:=@PySem.Heap.get?_push_size
abbrev XB:=@List.getElem?_append_right
abbrev XC:=@Int.toNat_natCast
abbrev XD:=@List.mem_cons_of_mem
abbrev XE:=@List.mem_cons
abbrev XF:=@PySem.F.plainAttrs_list
abbrev XG:=@Bool.false_ne_true
abbrev XH:=@PySem.boot_len
abbrev XI:=@Array.length_toList
abbrev XJ:=@Int.pow_succ
abbrev XM:=@List.length_singleton
abbrev XN:=@Nat.lt_irrefl
abbrev XO:=@Nat.zero_le
abbrev XQ:=@Int.le_of_lt
abbrev XR:=@List.length_take
abbrev XS:=@Option.map_eq_some_iff
abbrev XT:=@List.mem_map
abbrev XU:=@PySem.F.slot_list_append
abbrev XV:=@PySem.F.type_list_append
abbrev XW:=@List.append_assoc
abbrev XX:=@List.getElem?_append_left
abbrev XY:=@Array.toList_append
abbrev XZ:=@List.take_length
abbrev Xa:=@Nat.le_trans
abbrev Xb:=@PyProof.Rows.callWith_type1
abbrev Xc:=@List.size_toArray
abbrev Xd:=@Nat.ne_of_lt
abbrev Xe:=@Int.zero_add
abbrev Xf:=@Int.emod_lt_of_pos
abbrev Xg:=@List.mem_append_right
abbrev Xh:=@Int.pow_zero
abbrev Xi:=@PySem.mem_of_lookup
abbrev Xj:=@Int.emod_nonneg
abbrev Xk:=@List.take_append_drop
abbrev Xl:=@List.nodup_cons
abbrev Xm:=@List.replicate_succ
abbrev Xn:=@List.append_nil
abbrev Xo:=@List.length_cons
abbrev Xp:=@Int.mul_le_mul_of_nonneg_left
abbrev Xq:=@List.nodup_append
abbrev Xr:=@List.mem_append_left
abbrev Xs:=@Array.getElem_toList
abbrev Xt:=@List.map_cons
abbrev Xu:=@PySem.W.kia_one
abbrev Xv:=@List.mem_range
abbrev Xw:=@List.take_add_one
abbrev Xx:=@Nat.sub_self
abbrev Xy:=@Int.le_trans
abbrev Xz:=@List.drop_eq_getElem_cons
abbrev X0:=@Int.le_refl
abbrev X1:=@Int.toNat_of_nonneg
abbrev X3:=@Array.getElem?_toList
abbrev X4:=@Nat.mul_comm
abbrev X5:=@PySem.Heap.size_push
abbrev X6:=@Nat.lt_of_le_of_ne
abbrev X7:=@Nat.le_of_lt
abbrev X8:=@Int.mul_comm
abbrev X9:=@Int.natCast_ediv
abbrev YA:=@PySem.W.hideAll_get
abbrev YB:=@List.flatten_cons
abbrev YC:=@Int.one_mul
abbrev YD:=@List.extract_eq_take_drop
abbrev YE:=@List.range_succ
abbrev YF:=@Int.natCast_mul
abbrev YG:=@PySem.F.slot_dict_get
abbrev YH:=@List.mem_filterMap
abbrev YI:=@List.length_drop
abbrev YJ:=@Nat.mod_eq_of_lt
abbrev YK:=@List.nodup_nil
abbrev YL:=@Int.emod_eq_of_lt
abbrev YM:=@List.length_set
abbrev YN:=@Int.ediv_nonneg
abbrev YO:=@List.map_congr_left
abbrev YQ:=@PySem.Heap.get?_update_other
abbrev YR:=@Int.add_mul_emod_self_left
abbrev YS:=@List.lookup_cons
abbrev YT:=@PySem.Heap.get?_update_self
abbrev YU:=@List.pairwise_cons
abbrev YV:=@Nat.div_lt_of_lt_mul
abbrev YW:=@Array.toList_extract
abbrev YX:=@List.mem_filter
abbrev YY:=@Nat.ne_of_gt
abbrev YZ:=@List.getElem?_replicate
abbrev Ya:=@Nat.le_succ
abbrev Yb:=@PySem.F.plainAttrs_dict
abbrev Yc:=@List.any_eq_true
abbrev Yd:=@Nat.le_add_right
abbrev Ye:=@Int.natCast_emod
abbrev Yf:=@PyProof.Rows.boot_list
abbrev Yg:=@Int.ediv_eq_zero_of_lt
abbrev Yh:=@List.take_of_length_le
abbrev Yi:=@PySem.F.entry_dict_get
abbrev Yj:=@Nat.lt_of_le_of_lt
abbrev Yk:=@Nat.eq_zero_or_pos
abbrev Yl:=@PySem.F.slot_dict_setdefault
abbrev Ym:=@List.length_nil
abbrev Yn:=@List.Perm.append_left
abbrev Yo:=@List.perm_append_comm
abbrev Yp:=@List.ext_getElem?
abbrev Yq:=@List.any_cons
abbrev Yr:=@Bool.or_false
abbrev Ys:=@PySem.F.excBase_ValueError
abbrev Yt:=@Array.perm_iff_toList_perm
abbrev Yu:=@PySem.Heap.get?_none_of_le
abbrev Yv:=@PySem.W.looks_findIn
abbrev Yw:=@List.mem_of_mem_take
abbrev Yx:=@Array.getElem?_eq_getElem
abbrev Yy:=@List.findIdx?_eq_none_iff
abbrev Yz:=@Int.mul_le_mul
abbrev Y0:=@List.pairwise_iff_getElem
abbrev Y1:=@List.length_reverse
abbrev Y2:=@List.length_pos_iff
abbrev Y3:=@Option.isSome_iff_exists
abbrev Y4:=@List.getElem?_take_of_lt
abbrev Y5:=@List.map_nil
abbrev Y6:=@Bool.eq_iff_iff
abbrev Y7:=@List.of_mem_zip
abbrev Y8:=@Nat.min_eq_left
abbrev Y9:=@Nat.add_sub_cancel
abbrev ZA:=@List.map_replicate
abbrev ZB:=@PyProof.Rows.boot_tuple
abbrev ZC:=@List.filter_append
abbrev ZD:=@List.getElem?_set_self
abbrev ZE:=@PySem.W.cellsFrom_some
abbrev ZF:=@List.Perm.append_right
abbrev ZG:=@PySem.W.kitx_list
abbrev ZH:=@PySem.W.kitx_dict
abbrev ZI:=@List.reverse_cons
abbrev ZJ:=@Nat.lt_succ_of_lt
abbrev ZK:=@List.getElem?_eq_none
abbrev ZL:=@Nat.sub_zero
abbrev ZM:=@Int.add_mul_ediv_left
abbrev ZN:=@PyProof.Rows.boot_min
abbrev ZO:=@List.getElem_inj
abbrev ZP:=@Int.ediv_le_self
abbrev ZQ:=@List.getElem?_set_ne
abbrev ZR:=@List.mem_of_mem_drop
abbrev ZS:=@List.mem_iff_getElem
abbrev ZT:=@Array.toList_reverse
abbrev ZU:=@List.nil_append
abbrev ZV:=@Nat.not_lt_zero
abbrev ZW:=@Nat.div_add_mod
abbrev ZX:=@Nat.div_le_self
abbrev ZY:=@List.any_append
abbrev ZZ:=@Int.natCast_pow
abbrev Za:=@Nat.mod_le
abbrev Zb:=@Nat.mod_lt
namespace L2
open PySem PySem.Spec PyProof.Rows
abbrev Bu:=Sum Int Str
noncomputable def Hv:Bu->Value->Bool
 |.inl k,v=>Value.isInt k v
 |.inr x,v=>Value.isStrOf x v
noncomputable def Vt(w:World):Bu->Int
 |.inl k=>hashInt k
 |.inr x=>hashStr w x
theorem BV:∀{k:Bu} {v:Value},Hv k v=true->(∃i t,k=Sum.inl i/\v=Value.int i t)\/(∃x t,k=Sum.inr x/\v=Value.str x t)
 |.inl i,v,h=>by obtain⟨t,e⟩:=Value.isInt_shape (k:=i) (v:=v) h;exact .inl ⟨i,t,rfl,e⟩
 |.inr x,v,h=>by obtain⟨t,e⟩:=Value.isStrOf_shape (x:=x) (v:=v) h;exact .inr ⟨x,t,rfl,e⟩
theorem Mo(i:Int)(t:Tok):Hv (.inl i) (.int i t)=true:=by simp[Hv,Value.isInt]
theorem Mp(x:Str)(t:Tok):Hv (.inr x) (.str x t)=true:=by simp[Hv,Value.isStrOf]
theorem RU(a b:Int):decide ((Sum.inl a:Bu)=Sum.inl b)=(a==b):=by
 by_cases e:a=b
 ·subst e;simp
 ·have h:¬(Sum.inl a:Bu)=Sum.inl b:=λq=>e (Sum.inl.inj q)
  rw[qI h];exact (beq_eq_false_iff_ne.mpr e).symm
theorem RV(a b:Str):decide ((Sum.inr a:Bu)=Sum.inr b)=decide (a=b):=by
 by_cases e:a=b
 ·subst e;simp
 ·have h:¬(Sum.inr a:Bu)=Sum.inr b:=λq=>e (Sum.inr.inj q)
  rw[qI h,qI e]
theorem RX(a:Int)(b:Str):decide ((Sum.inl a:Bu)=Sum.inr b)=false:=qI (λq=>nomatch q)
theorem RY(a:Str)(b:Int):decide ((Sum.inr a:Bu)=Sum.inl b)=false:=qI (λq=>nomatch q)
noncomputable def BE(prog:Program)(w:World):PySem.KeyKind prog w Bu where
 is:=Hv
 hash:=Vt w
 inj:=λv a b ha hb=>by
  rcases BV ha with⟨i,t,rfl,rfl⟩|⟨x,t,rfl,rfl⟩
  ·rcases BV hb with⟨j,u,rfl,e⟩|⟨y,u,rfl,e⟩
   ·injection e with e1 _;rw[e1]
   ·exact nomatch e
  ·rcases BV hb with⟨j,u,rfl,e⟩|⟨y,u,rfl,e⟩
   ·exact nomatch e
   ·injection e with e1 _;rw[e1]
 byValue:=λk v h=>by rcases BV h with⟨i,t,rfl,rfl⟩|⟨x,t,rfl,rfl⟩<;>rfl
 pyHash:=λhv h=>by
  rcases BV hv with⟨i,t,rfl,rfl⟩|⟨x,t,rfl,rfl⟩
  ·exact wpAny_pyHash_int h
  ·exact wpAny_pyHash_str h
 eqBool:=λhu hv h=>by
  rcases BV hu with⟨i,t,rfl,rfl⟩|⟨x,t,rfl,rfl⟩
  ·rcases BV hv with⟨j,u,rfl,rfl⟩|⟨y,u,rfl,rfl⟩
   ·rw[RU]at h;exact wpAny_eqBool_int h
   ·rw[RX]at h;exact SeqAt.EqAt.int_str i t y u _ _ _ _ h
  ·rcases BV hv with⟨j,u,rfl,rfl⟩|⟨y,u,rfl,rfl⟩
   ·rw[RY]at h;exact SeqAt.EqAt.str_int x t j u _ _ _ _ h
   ·rw[RV]at h;exact wpAny_eqBool_str h
 «strs»:=λk x t v h=>by
  rcases BV h with⟨i,u,rfl,e⟩|⟨y,u,rfl,e⟩
  ·exact nomatch e
  ·injection e with e1 _
   subst e1;cases v<;>rfl
theorem JZ(prog:Program)(w:World)(i:Int)(t:Tok):(BE prog w).is (.inl i) (.int i t)=true:=Mo i t
theorem Ja(prog:Program)(w:World)(x:Str)(t:Tok):(BE prog w).is (.inr x) (.str x t)=true:=Mp x t
inductive V where
 |non|bl (b:Bool)|int (i:Int)|str (x:Str)|byt (b:Array UInt8)|flt (b:UInt64)|ref (a:Addr)|ty (n:String)
 deriving DecidableEq
def An:V->Value->Prop
 |.non,u=>u=Value.none
 |.bl b,u=>u=Value.bool b
 |.int i,u=>∃t,u=Value.int i t
 |.str x,u=>∃t,u=Value.str x t
 |.byt b,u=>∃t,u=Value.bytes b t
 |.flt b,u=>∃t,u=Value.float b t
 |.ref a,u=>u=Value.ref a
 |.ty n,u=>u=Value.type n
abbrev Al:List V->List Value->Prop:=Paired An
variable{xs:List V}{us:List Value}
theorem Al.length(r:Al xs us):xs.length=us.length:=Paired.length r
theorem Al.get:∀{xs:List V} {us:List Value} {i:Nat} {x:V},Al xs us->xs[i]?=some x->∃u,us[i]?=some u/\An x u
 |_,_,_,_,.nil,e=>by simp at e
 |_,_,0,_,.cons r _,e=>by simp at e;subst e;exact⟨_,rfl,r⟩
 |_,_,i+1,x,.cons _ t,e=>by obtain⟨u,h1,h2⟩:=Al.get (i:=i) (x:=x) t (by simpa using e);exact⟨u,by simpa using h1,h2⟩
variable{u:Value}
theorem Al.set{x:V}(r:An x u):∀{xs:List V} {us:List Value} (i:Nat),Al xs us->Al (xs.set i x) (us.set i u)
 |_,_,_,.nil=>.nil
 |_,_,0,.cons _ t=>.cons r t
 |_,_,i+1,.cons q t=>.cons q (Al.set r i t)
theorem Al.append:∀{xs ys:List V} {us ws:List Value},Al xs us->Al ys ws->Al (xs++ys) (us++ws)
 |_,_,_,_,.nil,s=>s
 |_,_,_,_,.cons r t,s=>.cons r (Al.append t s)
theorem Al.take:∀{xs:List V} {us:List Value} (n:Nat),Al xs us->Al (xs.take n) (us.take n)
 |_,_,0,_=>.nil
 |_,_,_+1,.nil=>.nil
 |_,_,n+1,.cons r t=>.cons r (Al.take n t)
theorem Al.drop:∀{xs:List V} {us:List Value} (n:Nat),Al xs us->Al (xs.drop n) (us.drop n)
 |_,_,0,r=>r
 |_,_,_+1,.nil=>.nil
 |_,_,n+1,.cons _ t=>Al.drop n t
noncomputable def FN:Option V->Option Value->Prop
 |some v,some u=>An v u
 |none,none=>True
 |_,_=>False
def KV{κ:Type}:List (κ×V)->List (κ×Value)->Prop:=Paired λ(p:κ×V) (q:κ×Value)=>p.1=q.1/\An p.2 q.2
def kV:Bu->V
 |.inl i=>.int i
 |.inr x=>.str x
inductive HO where
 |lst (xs:List V)
 |tup (xs:List V)
 |dK (kvs:List (Bu×V))|dT (kvs:List (List Bu×V))
 |set (S:Int->Bool) (n:Nat)
 |ins (C dx:Addr) (fs:List (Str×V))
 |own (x:Addr)
 |xd (fs:List (Str×V))
 |met (f x:Addr)
 |rng (lo hi:Int)
 |frz (o:Obj) (u:HO)
 |tbl (ps:Array Value)
 |ext (φ:Heap->Prop)
abbrev Hp:=Addr->Option HO
noncomputable def Ae(H:Hp)(a:Addr)(o:HO):Hp:=λb=>if b=a then some o else H b
variable{H:Hp}{a:Addr}
theorem AC{o:HO}:Ae H a o a=some o:=by unfold Ae;rw[qF rfl]
variable{b:Addr}
theorem AI{o:HO}(h:b≠a):Ae H a o b=H b:=by unfold Ae;rw[qE h]
theorem F5{o u:HO}:Ae (Ae H a o) a u=Ae H a u:=by
 funext b;unfold Ae;split<;>rfl
theorem Ls{o u:HO}(h:H a=some o)(h':H b=some u)(d:o≠u):a≠b:=by intro e;subst e;rw[h]at h';exact d (Option.some.inj h')
theorem BB{o:HO}(h:H a=some o)(h':H b=none):a≠b:=by intro e;subst e;rw[h]at h';cases h'
section
variable(P:Program)(w:World)
noncomputable def Ao(H:Hp)(h:Heap)(a:Addr):HO->Prop
 |.lst xs=>xs.length<=sizeLine/\∃(its:List Value) (n:Nat),Al xs its/\h.get? a=some {cls:=.type "list",data:=.seq its.toArray n}
 |.tup xs=>xs.length<=sizeLine/\∃its:List Value,Al xs its/\IsTup h a its.toArray
 |.dK kvs=>kvs.length<=sizeLine/\(a==sysModules)=false/\∃vs,KV kvs vs/\h.DictOf (BE P w) a vs
 |.dT kvs=>kvs.length<=sizeLine/\(a==sysModules)=false/\∃xs:List (List Bu×Addr×Value),
   Paired (λ(p:List Bu×V) (q:List Bu×Addr×Value)=>p.1=q.1/\H q.2.1=some (.tup (p.1.map kV))/\An p.2 q.2.2) kvs xs /\
   ∃o es ep,h.get? a=some o/\o.ExactDict/\o.data=.dict es ep/\es.toList=xs.map (entryOfKey (tupleKind (BE P w)))/\(xs.map (·.1)).Nodup
 |.set S n=>h.SetOf (intKind P w) a S n
 |.ins C dx fs=>H dx=some (.own a)/\fs.length<=1000/\dx≠a/\h.get? a=some (PySem.W.instObj C dx) /\
   ∃mA,h.Ns1 dx mA/\(∀f,FN (fs.lookup f) (mA f))/\PySem.Within mA (fs.map (·.1))
 |.own _=>∃o,h.get? a=some o
 |.xd fs=>∃mA,h.Ns1 a mA/\∀f,FN (fs.lookup f) (mA f)
 |.rng lo hi=>∃t u v,h.get? a=some {cls:=.type "range",data:=.fields #[.int lo t,.int hi u,.int 1 v]}
 |.frz o u=>h.get? a=some o/\Ao H h a u
 |.tbl ps=>h.get? a=some {cls:=.none,data:=.fields ps}
 |.met f x=>h.get? a=some (PySem.W.methodObj (.ref f) (.ref x))
 |.ext φ=>φ h/\(∃o,h.get? a=some o)/\∀h1 h2:Heap,φ h1->(∀o,h1.get? a=some o->h2.get? a=some o)->φ h2
def DQ(H:Hp)(h:Heap):Prop:=∀a o,H a=some o->Ao P w H h a o
end
variable{α β:Type}
section
variable{P:Program}{w:World}{H':Hp}{h h':Heap}{o:HO}
theorem Ao.lt(x:Ao P w H h a o):a<h.objs.size:=by
 cases o with
 |lst xs=>obtain⟨_,_,_,_,e⟩:=x;exact Wz e
 |tup xs=>obtain⟨_,_,_,p⟩:=x;exact p.lt
 |dK kvs=>obtain⟨_,_,_,_,o,_,_,e,_⟩:=x;exact Wz e
 |dT kvs=>obtain⟨_,_,_,_,o,_,_,e,_⟩:=x;exact Wz e
 |set S n=>obtain⟨o,_,_,_,e,_⟩:=x;exact Wz e
 |ins C dx fs=>obtain⟨_,_,_,e,_⟩:=x;exact Wz e
 |own y=>obtain⟨_,e⟩:=x;exact Wz e
 |xd fs=>obtain⟨_,⟨_,_,_,e,_⟩,_⟩:=x;exact Wz e
 |rng lo hi=>obtain⟨_,_,_,e⟩:=x;exact Wz e
 |frz ob u=>obtain⟨e,_⟩:=x;exact Wz e
 |tbl ps=>exact Wz (show h.get? a=some _ from x)
 |met f y=>exact Wz (show h.get? a=some _ from x)
 |ext φ=>obtain⟨_,⟨_,e⟩,_⟩:=x;exact Wz e
theorem Paired.mapP{F G:α->β->Prop}:∀{l₁:List α} {l₂:List β},Paired F l₁ l₂->(∀a b,F a b->G a b)->Paired G l₁ l₂
 |_,_,.nil,_=>.nil
 |_,_,.cons r t,f=>.cons (f _ _ r) (Paired.mapP t f)
theorem Ao.stay(x:Ao P w H h a o)(k:∀b u,(b=a\/H b=some (.own a))->h.get? b=some u->h'.get? b=some u)
  (ho:∀b,H b=some (.own a)->H' b=some (.own a)) (ht:∀b xs,H b=some (.tup xs)->H' b=some (.tup xs)):Ao P w H' h' a o:=by
 induction o with
 |lst xs=>obtain⟨z,its,n,r,e⟩:=x;exact⟨z,its,n,r,k _ _ (.inl rfl) e⟩
 |tup xs=>obtain⟨z,its,r,ob,e,c⟩:=x;exact⟨z,its,r,ob,k _ _ (.inl rfl) e,c⟩
 |dK kvs=>obtain⟨z,y,vs,r,ob,es,ep,e,c⟩:=x;exact⟨z,y,vs,r,ob,es,ep,k _ _ (.inl rfl) e,c⟩
 |dT kvs =>
  obtain⟨z,y,xs,r,ob,es,ep,e,c⟩:=x;exact⟨z,y,xs,Paired.mapP r λp q z=>⟨z.1,ht _ _ z.2.1,z.2.2⟩,ob,es,ep,k _ _ (.inl rfl) e,c⟩
 |set S n=>obtain⟨ob,es,ep,t,e,c⟩:=x;exact⟨ob,es,ep,t,k _ _ (.inl rfl) e,c⟩
 |ins C dx fs =>
  obtain⟨d,z,ne,e,mA,⟨od,es,ep,e2,c⟩,r⟩:=x;exact⟨ho _ d,z,ne,k _ _ (.inl rfl) e,mA,⟨od,es,ep,k _ _ (.inr d) e2,c⟩,r⟩
 |own y=>obtain⟨ob,e⟩:=x;exact⟨ob,k _ _ (.inl rfl) e⟩
 |xd fs=>obtain⟨mA,⟨od,es,ep,e,c⟩,r⟩:=x;exact⟨mA,⟨od,es,ep,k _ _ (.inl rfl) e,c⟩,r⟩
 |rng lo hi=>obtain⟨t,u,v,e⟩:=x;exact⟨t,u,v,k _ _ (.inl rfl) e⟩
 |frz ob u ih=>obtain⟨e,q⟩:=x;exact⟨k _ _ (.inl rfl) e,ih q⟩
 |tbl ps =>
  have e:h.get? a=some {cls:=.none,data:=.fields ps}:=x;show h'.get? a=some {cls:=.none,data:=.fields ps};exact k a _ (.inl rfl) e
 |met f y =>
  have e:h.get? a=some (PySem.W.methodObj (.ref f) (.ref y)):=x;show h'.get? a=some (PySem.W.methodObj (.ref f) (.ref y));exact k a _ (.inl rfl) e
 |ext φ=>obtain⟨p,⟨o,e⟩,st⟩:=x;exact⟨st _ _ p λo q=>k _ _ (.inl rfl) q,⟨o,k _ _ (.inl rfl) e⟩,st⟩
theorem DQ.lt(x:DQ P w H h)(e:H a=some o):a<h.objs.size:=(x a o e).lt
theorem DQ.fresh(x:DQ P w H h)(e:h.objs.size<=a):H a=none:=by
 cases q:H a with
 |none=>rfl
 |some u=>exact qG (W2 (x.lt q) e) (XN _)
theorem DQ.kept(x:DQ P w H h)(k:∀b u,h.get? b=some u->h'.get? b=some u):DQ P w H h':=λa o e =>
 (x a o e).stay (λb u _ q=>k b u q) (λ_ q=>q) λ_ _ q=>q
theorem DQ.laid(x:DQ P w H h)(k:∀b u,h.get? b=some u->h'.get? b=some u)(hp:h.objs.size<=a)(new:Ao P w (Ae H a o) h' a o):DQ P w (Ae H a o) h':=λb u e=>by
 have hn:=x.fresh hp
 by_cases hb:b=a
 ·subst hb;rw[AC]at e;cases e;exact new
 ·rw[AI hb]at e;exact (x b u e).stay (λc v _ q=>k c v q) (λc q=>by rw[AI (BB q hn)];exact q) λc xs q=>by rw[AI (BB q hn)];exact q
end
def Rd(H:Hp)(a:Addr)(u:HO):Prop:=H a=some u\/∃o,H a=some (.frz o u)
variable{h:Heap}
theorem Rd.ok{P:Program}{w:World}{u:HO}(r:Rd H a u)(x:DQ P w H h):Ao P w H h a u:=by
 rcases r with r|⟨o,r⟩
 ·exact x a u r
 ·obtain⟨_,q⟩:=x a _ r;exact q
noncomputable def Tp:Option HO->Prop
 |some (.lst _)=>True
 |some (.dK _)=>True
 |some (.dT _)=>True
 |some (.set _ _)=>True
 |some (.ins _ _ _)=>True
 |some (.ext _)=>True
 |_=>False
section
variable{P:Program}{w:World}{h':Heap}{x e:Addr}{o':HO}
theorem DQ.write(ok:DQ P w H h)(mu:Tp (H x))(he:e=x\/H e=some (.own x))(k:∀b u,b≠e->h.get? b=some u->h'.get? b=some u)(heo:∃u,h'.get? e=some u)
  (new:Ao P w (Ae H x o') h' x o'):DQ P w (Ae H x o') h':=λb u q=>by
 have nown:∀c y,H c=some (.own y)->c≠x:=λc y r z=>by subst z;rw[r]at mu;exact mu
 have ntup:∀c xs,H c=some (.tup xs)->c≠x:=λc xs r z=>by subst z;rw[r]at mu;exact mu
 by_cases hb:b=x
 ·subst hb;rw[AC]at q;cases q;exact new
 ·rw[AI hb]at q
  by_cases hbe:b=e
  ·have q':H b=some (.own x):=by
    rcases he with z|z
    ·exact qG (hbe.trans z) hb
    ·rw[hbe];exact z
   rw[q]at q';cases q';obtain⟨v,hv⟩:=heo;exact⟨v,by rw[hbe];exact hv⟩
  ·refine (ok b u q).stay (λc v hc r=>k c v ?_ r) (λc r=>by rw[AI (nown c b r)];exact r) λc xs r=>by rw[AI (ntup c xs r)];exact r
   rcases hc with rfl|hc
   ·exact hbe
   ·rintro rfl;rcases he with z|z
    ·exact nown c b hc z
    ·rw[hc]at z;cases z;exact hb rfl
end
structure Un(fs ex:List Addr)(H H':Hp)(h h':Heap):Prop where
 keep:∀b o,h.get? b=some o->H b=none->b∉fs->b∉ex->h'.get? b=some o
 slot:∀b o,h.get? b=some o->H b=none->b∈fs->b∉ex->∃sl,h'.get? b=some {o with slots:=sl}
 free:∀b o,h.get? b=some o->H b=none->b∉ex->H' b=none
 there:∀b o,h.get? b=some o->b∉ex->∃o',h'.get? b=some o'
 tups:∀b xs,H b=some (.tup xs)->H' b=some (.tup xs)
 frzs:∀b o u,H b=some (.frz o u)->H' b=some (.frz o u)
 tbls:∀b ps,H b=some (.tbl ps)->∃more,H' b=some (.tbl (ps++more))
section
variable{fs fs' ex ex':List Addr}{H1 H2:Hp}{h1 h2 h':Heap}{x e:Addr}{o:HO}
theorem Un.any(u:Un fs ex H H1 h h1){ob:Obj}(q:h.get? b=some ob)(n:H b=none)(hx:b∉ex):∃sl,h1.get? b=some {ob with slots:=sl}:=by
 by_cases hb:b∈fs
 ·exact u.slot b ob q n hb hx
 ·exact⟨ob.slots,u.keep b ob q n hb hx⟩
theorem Un.kept(k:∀b u,h.get? b=some u->h'.get? b=some u):Un fs ex H H h h':=
 ⟨λb ob q _ _ _=>k b ob q,λb ob q _ _ _=>⟨ob.slots,k b ob q⟩,λ_ _ _ n _=>n,λb ob q _=>⟨ob,k b ob q⟩,λ_ _ q=>q,λ_ _ _ q=>q,λ_ ps q=>⟨#[],by rw[q];simp⟩⟩
theorem Un.refl:Un fs ex H H h h:=Un.kept λ_ _ q=>q
theorem Un.laid(k:∀b u,h.get? b=some u->h'.get? b=some u)(hp:h.objs.size<=a)(hn:H a=none):Un fs ex H (Ae H a o) h h' where
 keep:=λb u q _ _ _=>k b u q
 slot:=λb u q _ _ _=>⟨u.slots,k b u q⟩
 free:=λb u q n _=>by rw[AI (Xd (W2 (Wz q) hp))];exact n
 there:=λb u q _=>⟨u,k b u q⟩
 tups:=λb xs q=>by rw[AI (BB q hn)];exact q
 frzs:=λb u xs q=>by rw[AI (BB q hn)];exact q
 tbls:=λb ps q=>⟨#[],by rw[AI (BB q hn),q];simp⟩
theorem Un.write(mu:Tp (H x))(he:e=x\/H e=some (.own x))(k:∀b u,b≠e->h.get? b=some u->h'.get? b=some u)(heo:∃u,h'.get? e=some u):Un fs ex H (Ae H x o) h h':=by
 have hx:∀b,H b=none->b≠x:=λb n z=>by subst z;rw[n]at mu;exact mu
 have hb:∀b,H b=none->b≠e:=λb n z=>by
  subst z;rcases he with r|r
  ·exact hx b n r
  ·rw[n]at r;cases r
 have hm:∀b u,H b=some u->¬Tp (some u)->b≠x:=λb u q nm z=>by subst z;rw[q]at mu;exact nm mu
 refine⟨λb u q n _ _=>k b u (hb b n) q,λb u q n _ _=>⟨u.slots,k b u (hb b n) q⟩,λb u q n _=>by rw[AI (hx b n)];exact n,λb u q _=>?_,
  λb xs q=>by rw[AI (hm b _ q λz=>z)];exact q,λb u xs q=>by rw[AI (hm b _ q λz=>z)];exact q,λb ps q=>⟨#[],by rw[AI (hm b _ q λz=>z),q];simp⟩⟩
 by_cases hbe:b=e
 ·subst hbe;exact heo
 ·exact⟨u,k b u hbe q⟩
end
noncomputable def trk(h:Heap)(H:Hp):List Addr:=(List.range h.objs.size).filter λa=>(H a).isSome
noncomputable def Hm(h:Heap)(H:Hp):Heap:=PySem.W.hideAll h (trk h H)
theorem Mq(h:Heap)(H:Hp):(Hm h H).objs.size=h.objs.size:=PySem.W.hideAll_size _ _
variable{o:Obj}
theorem Nr(e:h.get? b=some o)(n:H b=none):(Hm h H).get? b=some o:=
 YA _ e λhm=>by have q:(H b).isSome=true:=(YX.mp hm).2;rw[n]at q;simp at q
theorem Pj(e:(Hm h H).get? b=some o):h.get? b=some o/\H b=none:=by
 have e':h.get? b=some o:=PySem.W.of_hideAll (trk h H) e;refine⟨e',?_⟩;cases q:H b with
 |none=>rfl
 |some x =>
  have hm:b∈trk h H:=List.mem_filter.mpr ⟨List.mem_range.mpr (Heap.lt_size e'),by simp[q]⟩;have z:(Hm h H).get? b=none:=PySem.W.hideAll_none (trk h H) hm;rw[z]at e;cases e
structure Vh(K:qJ)(mg:Str->Option Value)(base:Heap):Prop where
 kin:K.In base
 glob:base.Ns mainGlobals mg
 blt:∃mb,base.Ns builtinsNs mb/\∀x:Str,x≠"__name__"->mb x=bootBuiltins x
 nolimit:base.NoLimit
structure Cx where
 prog:Program
 w:World
 K:qJ
 mg:Str->Option Value
 base:Heap
 A:Around
 N:List Str
 s₀:Shared
 H₀:Hp
 env:Env
 outer:List Env
 stack:List Env
 ex:List Addr
 fn:Str->Bool
 calm:Bool
 pn:List (Addr×Obj)
 xe:Value->Shared->Prop
def Cm(l:List Env):List Addr:=l.filterMap (·.frame)
abbrev Cx.fs(X:Cx):List Addr:=Cm X.outer
def Vi(sc:Scope)(x:Str):Prop:=sc.names.lookup x=some .local\/sc.names.lookup x=some .cell\/sc.names.lookup x=some .free
def Qp(sc:Scope)(x:Str):Prop:=sc.names.lookup x=some .local\/sc.names.lookup x=some .cell
def Vu(env:Env)(h:Heap)(m:Str->Option Value)(x:Str)(u:Value):Prop:=
 (env.kindOf x=some .local/\m x=some u)\/((env.kindOf x=some .cell\/env.kindOf x=some .free)/\∃c,env.cells.lookup x=some c/\h.IsCell c (some u))
structure Cx.Ok(X:Cx):Prop where
 mod:Vh X.K X.mg X.base
 kind:X.env.scope.kind=.function
 glob:X.env.globals=mainGlobals
 blt:X.env.builtins=builtinsNs
 above:X.s₀.heap.objs.size<=X.env.locals
 inj:∀x y c,X.env.cells.lookup x=some c->X.env.cells.lookup y=some c->x=y
 has:∀x,(X.env.kindOf x=some .cell\/X.env.kindOf x=some .free)->∃c,X.env.cells.lookup x=some c
 cab:∀x c,X.fn x=true->X.env.cells.lookup x=some c->X.s₀.heap.objs.size<=c
 hd:X.calm=true->X.A.handled=none
 frames:X.A.frames=some X.stack
 stk:X.stack=X.outer\/(X.stack=X.env::X.outer/\X.env.frame=some X.env.locals)
 exf:∀b∈X.ex,b≠X.env.locals/\∀x c,X.env.cells.lookup x=some c->c≠b
 bs:∀b o,X.base.get? b=some o->X.s₀.heap.get? b=some o/\X.H₀ b=none
 bsz:X.base.objs.size<=X.s₀.heap.objs.size
 noex:∀b o,X.base.get? b=some o->b∉X.ex
 exfs:∀b∈X.ex,b∉X.fs
 funs:X.s₀.heap.FunFrames X.base X.outer
 frf:∀b∈X.fs,X.H₀ b=none
structure AU(X:Cx)(pins:List (Addr×Obj))(σ:List (Option V))(H:Hp)(s:Shared):Prop where
 ok:X.Ok
 os:s.os=X.s₀.os
 bare:AllBare s.gens
 base:Un X.fs X.ex X.H₀ H X.s₀.heap s.heap
 loc:∃m,s.heap.Ns X.env.locals m/\∀(i:Nat) (x:Str) (v:V),X.N[i]?=some x->σ[i]?=some (some v)->Vi X.env.scope x->∃u,An v u/\Vu X.env s.heap m x u
 cell:∀x c,X.env.cells.lookup x=some c->∃v,s.heap.IsCell c v
 free:H X.env.locals=none
 freeC:∀x c,X.env.cells.lookup x=some c->H c=none
 pin:∀p∈X.pn++pins,s.heap.get? p.1=some p.2/\H p.1=none/\p.1≠X.env.locals/\p.1∉X.fs/\∀v,p.2.data≠.cell v
 hok:DQ X.prog X.w H s.heap
 len:σ.length=X.N.length
variable{x:Str}{ch:List Addr}{t' i j:Nat}{it:Addr}{s':Shared}
section
variable{X:Cx}{pins:List (Addr×Obj)}{σ:List (Option V)}{H':Hp}{s:Shared}{h':Heap}
theorem Cx.Ok.nofr(ok:X.Ok)(e:X.base.get? b=some o):b∉X.fs:=λhb=>by have:=(ok.funs.mem hb).1;rw[e]at this;cases this
theorem AU.bs(I:AU X pins σ H s):∀b o,X.base.get? b=some o->s.heap.get? b=some o/\H b=none:=λb o e =>
 ⟨I.base.keep b o (I.ok.bs b o e).1 (I.ok.bs b o e).2 (I.ok.nofr e) (I.ok.noex b o e),I.base.free b o (I.ok.bs b o e).1 (I.ok.bs b o e).2 (I.ok.noex b o e)⟩
theorem AU.bk(I:AU X pins σ H s):∀b o,X.base.get? b=some o->s.heap.get? b=some o:=λb o e=>(I.bs b o e).1
theorem AU.mod(I:AU X pins σ H s):Vh X.K X.mg X.base:=I.ok.mod
theorem AU.kIn(I:AU X pins σ H s):X.K.In s.heap:=I.ok.mod.kin.keeps I.bk
theorem AU.lt(I:AU X pins σ H s):X.env.locals<s.heap.objs.size:=let ⟨_,hn,_⟩:=I.loc;hn.lt
theorem AU.sz(I:AU X pins σ H s):X.s₀.heap.objs.size<=s.heap.objs.size:=Xa I.ok.above (X7 I.lt)
theorem AU.nofs(I:AU X pins σ H s)(h:s.heap.objs.size<=a):a∉X.fs:=λhb=>by obtain⟨_,o,ho,_⟩:=I.ok.funs.mem hb;exact qG (W2 (Wz ho) (Xa I.sz h)) (XN _)
theorem AU.cne(I:AU X pins σ H s):∀x c,X.env.cells.lookup x=some c->c≠X.env.locals:=λx c e z=>by obtain⟨v,o,ho,hd⟩:=I.cell x c e;obtain⟨m,⟨o',es,ep,ho',hd',_⟩,_⟩:=I.loc;rw[z,ho']at ho;cases ho;rw[hd']at hd;cases hd
theorem AU.funs(I:AU X pins σ H s):s.heap.FunFrames X.base X.outer:=by
 have all:∀(l:List Env),(∀b∈Cm l,b∈X.fs)->X.s₀.heap.FunFrames X.base l->s.heap.FunFrames X.base l:=by
  intro l
  induction l with
  |nil=>intro _ _;trivial
  |cons env r ih =>
   intro hs hl;obtain⟨hk,⟨L,o,hf,hn,ho,hd⟩,hr⟩:=hl;have hL:L∈X.fs:=hs L (by unfold Cm;rw[List.filterMap_cons,hf];exact List.mem_cons_self);obtain⟨sl,e⟩:=I.base.slot L o ho (I.ok.frf L hL) hL λz=>I.ok.exfs L z hL
   exact⟨hk,⟨L,_,hf,hn,e,hd⟩,ih (λb hb=>hs b (by unfold Cm;rw[List.filterMap_cons,hf];exact List.mem_cons_of_mem _ hb)) hr⟩
 exact all X.outer (λ_ hb=>hb) I.ok.funs
theorem AU.stack(I:AU X pins σ H s):s.heap.FunFrames X.base X.stack:=by
 rcases I.ok.stk with e|⟨e,hf⟩
 ·rw[e];exact I.funs
 ·rw[e];obtain⟨m,hn,_⟩:=I.loc;refine .cons (by rw[I.ok.kind];decide) hf hn ?_ I.funs;exact Yu (Xa I.ok.bsz I.ok.above)
theorem AU.stkSub(I:AU X pins σ H s):∀b∈Cm X.stack,b∈X.env.locals::X.fs:=λb hb=>by
 rcases I.ok.stk with e|⟨e,hf⟩
 ·rw[e]at hb;exact XD _ hb
 ·rw[e]at hb;unfold Cm at hb;rw[List.filterMap_cons,hf]at hb;exact hb
theorem AU.stkFree(I:AU X pins σ H s):∀b∈Cm X.stack,H b=none:=λb hb=>by
 rcases XE.mp (I.stkSub b hb) with e|hb
 ·rw[e];exact I.free
 ·obtain⟨_,o,ho,_⟩:=I.ok.funs.mem hb;exact I.base.free b o ho (I.ok.frf b hb) λz=>I.ok.exfs b z hb
theorem AU.step{g':Array GenState}{t':Nat}{d':Drawn}(I:AU X pins σ H s)
  (hch:∀b∈ch,(b∈X.ex\/X.s₀.heap.objs.size<=b)/\b≠X.env.locals/\(∀x c,X.env.cells.lookup x=some c->c≠b)/\∀p∈X.pn++pins,p.1≠b)
  (keep:∀b o,b≠X.env.locals->b∉X.fs->b∉ch->s.heap.get? b=some o->H b=none->h'.get? b=some o)
  (slot:∀b o,b≠X.env.locals->b∈X.fs->b∉ch->s.heap.get? b=some o->H b=none->∃sl,h'.get? b=some {o with slots:=sl}) (free:∀b o,b∉ch->s.heap.get? b=some o->H b=none->H' b=none)
  (there:∀b o,b∉ch->s.heap.get? b=some o->∃o',h'.get? b=some o')
  (tups:∀b xs,H b=some (.tup xs)->H' b=some (.tup xs)) (frzs:∀b o u,H b=some (.frz o u)->H' b=some (.frz o u)) (tbls:∀b ps,H b=some (.tbl ps)->∃more,H' b=some (.tbl (ps++more)))
  (ns:∀m,s.heap.Ns X.env.locals m->h'.Ns X.env.locals m) (hok:DQ X.prog X.w H' h') (hg:AllBare g'):
  AU X pins σ H' {s with heap:=h',gens:=g',drawn:=d',toks:=t'}:=by
 have neL:∀b o,X.s₀.heap.get? b=some o->b≠X.env.locals:=λb o e=>Xd (W2 (Wz e) I.ok.above)
 have neC:∀b o,X.s₀.heap.get? b=some o->b∉X.ex->b∉ch:=λb o e hx hb=>by
  rcases (hch b hb).1 with z|z
  ·exact hx z
  ·exact qG (W2 (Wz e) z) (XN _)
 have cellK:∀x c,X.env.cells.lookup x=some c->∀v,s.heap.IsCell c v->h'.IsCell c v:=λx c e v ⟨o,ho,hd⟩=>by
  have nch:c∉ch:=λz=>(hch c z).2.2.1 x c e rfl
  by_cases hc:c∈X.fs
  ·obtain⟨sl,q⟩:=slot c o (I.cne x c e) hc nch ho (I.freeC x c e);exact⟨_,q,hd⟩
  ·exact⟨o,keep c o (I.cne x c e) hc nch ho (I.freeC x c e),hd⟩
 refine⟨I.ok,I.os,hg,⟨λb o e n hb hx=>?_,λb o e n hb hx=>?_,λb o e n hx=>?_,λb o e hx=>?_,λb xs e=>tups b xs (I.base.tups b xs e),λb o xs e=>frzs b o xs (I.base.frzs b o xs e),λb ps e=>?_⟩,?_,λx c e=>?_,?_,λx c e=>?_,λp hp=>?_,hok,I.len⟩
 ·exact keep b o (neL b o e) hb (neC b o e hx) (I.base.keep b o e n hb hx) (I.base.free b o e n hx)
 ·obtain⟨sl,e1⟩:=I.base.slot b o e n hb hx;obtain⟨sl',e2⟩:=slot b _ (neL b o e) hb (neC b o e hx) e1 (I.base.free b o e n hx);exact⟨sl',e2⟩
 ·obtain⟨o',e1⟩:=I.base.there b o e hx;exact free b o' (neC b o e hx) e1 (I.base.free b o e n hx)
 ·obtain⟨o',e1⟩:=I.base.there b o e hx;exact there b o' (neC b o e hx) e1
 ·obtain⟨m1,e1⟩:=I.base.tbls b ps e;obtain⟨m2,e2⟩:=tbls b _ e1;exact⟨m1++m2,by rw[e2,Array.append_assoc]⟩
 ·obtain⟨m,hn,hl⟩:=I.loc;refine⟨m,ns m hn,λi x v e1 e2 e3=>?_⟩;obtain⟨u,r,l⟩:=hl i x v e1 e2 e3;refine⟨u,r,?_⟩;rcases l with l|⟨k,c,e,z⟩
  ·exact .inl l
  ·exact .inr ⟨k,c,e,cellK x c e _ z⟩
 ·obtain⟨v,z⟩:=I.cell x c e;exact⟨v,cellK x c e v z⟩
 ·obtain⟨m,⟨o,_,_,ho,_⟩,_⟩:=I.loc;exact free _ o (λz=>(hch _ z).2.1 rfl) ho I.free
 ·obtain⟨v,o,ho,hd⟩:=I.cell x c e;exact free c o (λz=>(hch c z).2.2.1 x c e rfl) ho (I.freeC x c e)
 ·obtain⟨e,n,ne,nf,d⟩:=I.pin p hp;have nch:p.1∉ch:=λz=>(hch p.1 z).2.2.2 p hp rfl
  exact⟨keep p.1 p.2 ne nf nch e n,free p.1 p.2 nch e n,ne,nf,d⟩
theorem AU.un(I:AU X pins σ H s)(u:Un X.fs [] H H' s.heap h')(hok:DQ X.prog X.w H' h'):AU X pins σ H' {s with heap:=h',toks:=t'}:=by
 obtain⟨m,⟨o,es,ep,ho,r⟩,_⟩:=id I.loc;obtain⟨sl,hL⟩:=u.any ho I.free (by simp)
 exact I.step (g':=s.gens) (d':=s.drawn) (ch:=[]) (λ_ z=>nomatch z) (λb o _ hb _ e n=>u.keep b o e n hb (by simp)) (λb o _ hb _ e n=>u.slot b o e n hb (by simp)) (λb o _ e n=>u.free b o e n (by simp)) (λb o _ e=>u.there b o e (by simp)) u.tups u.frzs u.tbls (λm' hm=>by obtain⟨o',es',ep',ho',r'⟩:=hm;rw[ho]at ho';cases ho';exact⟨_,es',ep',hL,r'⟩) hok I.bare
theorem AU.call{g':Array GenState}{d':Drawn}(I:AU X pins σ H s)(u:Un (Cm X.stack) ch H H' s.heap h')(hok:DQ X.prog X.w H' h')(hg:AllBare g')
  (hch:∀b∈ch,(b∈X.ex\/X.s₀.heap.objs.size<=b)/\b≠X.env.locals/\(∀x c,X.env.cells.lookup x=some c->c≠b)/\∀p∈X.pn++pins,p.1≠b):
  AU X pins σ H' {s with heap:=h',gens:=g',drawn:=d',toks:=t'}:=by
 obtain⟨m,⟨o,es,ep,ho,r⟩,_⟩:=id I.loc;obtain⟨sl,hL⟩:=u.any ho I.free λz=>(hch _ z).2.1 rfl
 exact I.step (ch:=ch) hch (λb o hL hb hc e n=>u.keep b o e n (λz=>(XE.mp (I.stkSub b z)).elim hL hb) hc) (λb o _ _ hc e n=>u.any e n hc) (λb o hc e n=>u.free b o e n hc) (λb o hc e=>u.there b o e hc) u.tups u.frzs u.tbls (λm' hm=>by obtain⟨o',es',ep',ho',r'⟩:=hm;rw[ho]at ho';cases ho';exact⟨_,es',ep',hL,r'⟩) hok hg
theorem AU.turned(I:AU X pins σ H s)(k:∀b o,b≠it->s.heap.get? b=some o->h'.get? b=some o)(hn:H it=none)(hL:it≠X.env.locals)
  (h1:it∈X.ex\/X.s₀.heap.objs.size<=it) (h2:∀x c,X.env.cells.lookup x=some c->c≠it) (h3:∀p∈X.pn++pins,p.1≠it):AU X pins σ H {s with heap:=h',toks:=t'}:=by
 have nit:∀b u,H b=some u->b≠it:=λb u e z=>by rw[z,hn]at e;cases e
 refine I.step (g':=s.gens) (d':=s.drawn) (ch:=[it]) (λb hb=>?_) (λb o _ _ hc e _=>k b o (λz=>hc (by simp[z])) e) (λb o _ _ hc e _=>⟨o.slots,k b o (λz=>hc (by simp[z])) e⟩) (λ_ _ _ _ n=>n)
  (λb o hc e=>⟨o,k b o (λz=>hc (by simp[z])) e⟩) (λ_ _ e=>e) (λ_ _ _ e=>e) (λb ps e=>⟨#[],by rw[e];simp⟩) (λm hm=>?_) (λb u e=>?_) I.bare
 ·have e:b=it:=by simpa using hb
  subst e;exact⟨h1,hL,h2,h3⟩
 ·obtain⟨o,es,ep,ho,r⟩:=hm;exact⟨o,es,ep,k _ o (Ne.symm hL) ho,r⟩
 ·refine (I.hok b u e).stay (λc v hc q=>k c v ?_ q) (λ_ q=>q) λ_ _ q=>q
  rcases hc with z|z
  ·rw[z];exact nit b u e
  ·exact nit c _ z
theorem AU.tok(I:AU X pins σ H s)(t:Nat):AU X pins σ H {s with toks:=t}:=I.un (h':=s.heap) (t':=t) Un.refl I.hok
theorem AU.kept(I:AU X pins σ H s)(k:∀b u,s.heap.get? b=some u->h'.get? b=some u):AU X pins σ H {s with heap:=h',toks:=t'}:=I.un (Un.kept k) (I.hok.kept k)
theorem AU.laid{o:HO}(I:AU X pins σ H s)(k:∀b u,s.heap.get? b=some u->h'.get? b=some u)(hp:s.heap.objs.size<=a)(new:Ao X.prog X.w (Ae H a o) h' a o):
  AU X pins σ (Ae H a o) {s with heap:=h',toks:=t'}:=I.un (Un.laid k hp (I.hok.fresh hp)) (I.hok.laid k hp new)
theorem AU.write{x e:Addr}{o:HO}(I:AU X pins σ H s)(mu:Tp (H x))(he:e=x\/H e=some (.own x))(k:∀b u,b≠e->s.heap.get? b=some u->h'.get? b=some u)(heo:∃u,h'.get? e=some u)
  (new:Ao X.prog X.w (Ae H x o) h' x o):AU X pins σ (Ae H x o) {s with heap:=h',toks:=t'}:=I.un (Un.write mu he k heo) (I.hok.write mu he k heo new)
theorem AU.pins_of{pins':List (Addr×Obj)}(I:AU X pins σ H s)(h:∀p∈pins',s.heap.get? p.1=some p.2/\H p.1=none/\p.1≠X.env.locals/\p.1∉X.fs/\∀v,p.2.data≠.cell v):AU X pins' σ H s:=
 ⟨I.ok,I.os,I.bare,I.base,I.loc,I.cell,I.free,I.freeC,λp hp=>(Ww.mp hp).elim (λz=>I.pin p (Xr _ z)) (h p),I.hok,I.len⟩
theorem GP{N:List Str}(hN:N.Nodup)(a:N[i]?=some x)(b:N[j]?=some x):i=j:=by obtain⟨h1,e1⟩:=Ws.mp a;obtain⟨h2,e2⟩:=Ws.mp b;exact (ZO hN).mp (e1.trans e2.symm)
theorem Hw{M:Model}{A:Around}{E:Value->Shared->Prop}{v:V}{Q:Unit->Shared->Prop}(I:AU X pins σ H s)(hN:X.N.Nodup)(hi:X.N[i]?=some x)(hx:Qp X.env.scope x)(r:An v u)
  (h:∀s',AU X pins (σ.set i (some v)) H s'->(∃a,Heap.SameBut a s.heap s'.heap/\(a=X.env.locals\/X.env.cells.lookup x=some a))->Q () s') (hf:X.fn x=true\/X.env.scope.names.lookup x=some .local:=by first|exact .inl rfl|exact .inr rfl|assumption):wpAny M A (storeName X.env x u) Q E s:=by
 obtain⟨m,hn,hl⟩:=id I.loc;have hcls:(X.env.scope.kind==.class||(X.env.scope.kind==.module&&X.env.locals != X.env.globals))=false:=by rw[I.ok.kind];rfl
 have hiσ:i<σ.length:=by rw[I.len];exact (Ws.mp hi).1
 have cne:=I.cne
 have tracked:∀{a:Addr} {h':Heap},(∃o,s.heap.get? a=some o/\H a=none)->Heap.SameBut a s.heap h'->DQ X.prog X.w H h':=λ{a h'} ha hs b ob e=>by
  obtain⟨_,_,hfree⟩:=ha;refine (I.hok b ob e).stay (λc w' hc q=>(hs.2 c ?_).trans q) (λ_ q=>q) λ_ _ q=>q
  rintro rfl;rcases hc with rfl|hc
  ·rw[hfree]at e;cases e
  ·rw[hfree]at hc;cases hc
 rcases hx with hk|hk
 ·refine wpAny_storeName_local hk hn (λh' hn' hs=>?_) hcls;obtain⟨oL,_,_,hoL,_⟩:=id hn;refine h _ ⟨I.ok,I.os,I.bare,⟨λb o e n hb hx=>?_,λb o e n hb hx=>?_,I.base.free,λb o e hx=>?_,I.base.tups,I.base.frzs,I.base.tbls⟩,⟨_,hn',λj y v' e1 e2 e3=>?_⟩,λy c e=>?_,I.free,I.freeC,λp hp=>?_,tracked ⟨oL,hoL,I.free⟩ hs,by simpa using I.len⟩ ⟨_,hs,.inl rfl⟩
  ·exact (hs.2 b (Xd (W2 (Wz e) I.ok.above))).trans (I.base.keep b o e n hb hx)
  ·obtain⟨sl,e1⟩:=I.base.slot b o e n hb hx;exact⟨sl,(hs.2 b (Xd (W2 (Wz e) I.ok.above))).trans e1⟩
  ·obtain⟨o',e1⟩:=I.base.there b o e hx;exact⟨o',(hs.2 b (Xd (W2 (Wz e) I.ok.above))).trans e1⟩
  ·by_cases hj:j=i
   ·subst hj;rw[hi]at e1;cases e1;rw[ZD hiσ]at e2;cases e2;exact⟨u,r,.inl ⟨hk,by simp⟩⟩
   ·rw[ZQ (Ne.symm hj)]at e2;obtain⟨u',r',q⟩:=hl j y v' e1 e2 e3;refine⟨u',r',?_⟩;rcases q with⟨k,e⟩|⟨k,c,e,z⟩
    ·refine .inl ⟨k,?_⟩;have:y≠x:=λe=>hj (GP hN e1 (e▸hi))
     simp[this,e]
    ·exact .inr ⟨k,c,e,z.sameBut hs (cne y c e)⟩
  ·obtain⟨w',z⟩:=I.cell y c e;exact⟨w',z.sameBut hs (cne y c e)⟩
  ·obtain⟨e,n,ne,nf,d⟩:=I.pin p hp;exact⟨(hs.2 p.1 ne).trans e,n,ne,nf,d⟩
 ·have hfn:X.fn x=true:=by
   rcases hf with z|z
   ·exact z
   ·rw[z]at hk;cases hk
  obtain⟨c,hc⟩:=I.ok.has x (.inl hk);obtain⟨w',z⟩:=I.cell x c hc;refine wpAny_storeName_cell I.ok.kind hk hc z (λh' hc' hs=>?_);obtain⟨oc,hoc,hocd⟩:=id z;refine h {s with heap:=h'} ⟨I.ok,I.os,I.bare,⟨λb o e n hb hx=>?_,λb o e n hb hx=>?_,I.base.free,λb o e hx=>?_,I.base.tups,I.base.frzs,I.base.tbls⟩,⟨m,hn.sameBut hs (Ne.symm (cne x c hc)),λj y v' e1 e2 e3=>?_⟩,λy c' e=>?_,I.free,I.freeC,λp hp=>?_,tracked ⟨oc,hoc,I.freeC x c hc⟩ hs,by simpa using I.len⟩ ⟨c,hs,.inr hc⟩
  ·exact (hs.2 b (Xd (W2 (Wz e) (I.ok.cab x c hfn hc)))).trans (I.base.keep b o e n hb hx)
  ·obtain⟨sl,e1⟩:=I.base.slot b o e n hb hx;exact⟨sl,(hs.2 b (Xd (W2 (Wz e) (I.ok.cab x c hfn hc)))).trans e1⟩
  ·obtain⟨o',e1⟩:=I.base.there b o e hx;exact⟨o',(hs.2 b (Xd (W2 (Wz e) (I.ok.cab x c hfn hc)))).trans e1⟩
  ·by_cases hj:j=i
   ·subst hj;rw[hi]at e1;cases e1;rw[ZD hiσ]at e2;cases e2;exact⟨u,r,.inr ⟨.inl hk,c,hc,hc'⟩⟩
   ·rw[ZQ (Ne.symm hj)]at e2;obtain⟨u',r',q⟩:=hl j y v' e1 e2 e3;refine⟨u',r',?_⟩;rcases q with q|⟨k,c',e,z'⟩
    ·exact .inl q
    ·refine .inr ⟨k,c',e,z'.sameBut hs ?_⟩;rintro rfl;exact hj (GP hN e1 (I.ok.inj _ _ _ e hc▸hi))
  ·by_cases hcc:c'=c
   ·subst hcc;exact⟨_,hc'⟩
   ·obtain⟨w2,z2⟩:=I.cell y c' e;exact⟨w2,z2.sameBut hs hcc⟩
  ·obtain⟨e,n,ne,nf,d⟩:=I.pin p hp;refine⟨(hs.2 p.1 ?_).trans e,n,ne,nf,d⟩;intro q;rw[q,hoc]at e;have q':oc=p.2:=Option.some.inj e;exact d w' (by rw[<-q'];exact hocd)
theorem GQ{M:Model}{A:Around}{E:Value->Shared->Prop}{v:V}{Q:Unit->Shared->Prop}(I:AU X pins σ H s)(hN:X.N.Nodup)(hi:X.N[i]?=some x)(hx:Qp X.env.scope x)(r:An v u)
  (h:∀s',AU X pins (σ.set i (some v)) H s'->Q () s') (hf:X.fn x=true\/X.env.scope.names.lookup x=some .local:=by first|exact .inl rfl|exact .inr rfl|assumption):wpAny M A (storeName X.env x u) Q E s:=
 Hw I hN hi hx r (λs' I' _=>h s' I') hf
theorem AU.call'(I:AU X pins σ H s)(ho:s'.os=s.os)(u:Un (Cm X.stack) ch H H' s.heap s'.heap)(hok:DQ X.prog X.w H' s'.heap)(hg:AllBare s'.gens)
  (hch:∀b∈ch,(b∈X.ex\/X.s₀.heap.objs.size<=b)/\b≠X.env.locals/\(∀x c,X.env.cells.lookup x=some c->c≠b)/\∀p∈X.pn++pins,p.1≠b):AU X pins σ H' s':=by
 obtain⟨h',g',d',t',o'⟩:=s';have e:o'=s.os:=ho;subst e;exact I.call (g':=g') (t':=t') (d':=d') u hok hg hch
end
abbrev XK:=Value->Option Addr->Hp->Prop
abbrev St:=List (Option V)
abbrev VK:=V->Hp->Prop
abbrev TE:=St->Hp->VK->Prop
abbrev TT:=St->Hp->(Bool->Hp->Prop)->Prop
abbrev TA:=St->Hp->(List V->Hp->Prop)->Prop
structure Fz where
 nx:St->Hp->Prop
 rt:VK
 bk:St->Hp->Prop:=λ_ _=>False
 ct:St->Hp->Prop:=λ_ _=>False
abbrev TS:=Fz->St->Hp->Prop
def EP(X:Cx)(pins:List (Addr×Obj))(σ:St)(Q:VK)(u:Value)(s':Shared):Prop:=∃v H',AU X pins σ H' s'/\An v u/\Q v H'
def TP(X:Cx)(pins:List (Addr×Obj))(σ:St)(Q:Bool->Hp->Prop)(b:Bool)(s':Shared):Prop:=∃H',AU X pins σ H' s'/\Q b H'
def AP(X:Cx)(pins:List (Addr×Obj))(σ:St)(Q:List V->Hp->Prop)(us:List Value)(s':Shared):Prop:=∃vs H',AU X pins σ H' s'/\Al vs us/\Q vs H'
def SP(X:Cx)(pins:List (Addr×Obj))(D:Fz)(f:Flow)(s':Shared):Prop:=
 match f with
 |.next=>∃σ' H',AU X pins σ' H' s'/\D.nx σ' H'
 |.brk=>∃σ' H',AU X pins σ' H' s'/\D.bk σ' H'
 |.cont=>∃σ' H',AU X pins σ' H' s'/\D.ct σ' H'
 |.ret u=>∃v σ' H',AU X pins σ' H' s'/\An v u/\D.rt v H'
def PE(X:Cx)(e:Expr)(t:TE):Prop:=
 ∀(pins:List (Addr×Obj)) (s:Shared) (σ:St) (H:Hp) (Q:VK),AU X pins σ H s->t σ H Q->wpAny (model X.prog X.w) X.A (eval e X.env) (EP X pins σ Q) X.xe s
def PT(X:Cx)(e:Expr)(t:TT):Prop:=
 ∀(pins:List (Addr×Obj)) (s:Shared) (σ:St) (H:Hp) (Q:Bool->Hp->Prop),AU X pins σ H s->t σ H Q->wpAny (model X.prog X.w) X.A (isTrue e X.env (eval e X.env)) (TP X pins σ Q) X.xe s
def PW(X:Cx)(e:Expr)(t:TT):Prop:=
 ∀(whole:Sem Value) (pins:List (Addr×Obj)) (s:Shared) (σ:St) (H:Hp) (Q:Bool->Hp->Prop),AU X pins σ H s->t σ H Q->wpAny (model X.prog X.w) X.A (isTrue e X.env whole) (TP X pins σ Q) X.xe s
variable{X:Cx}
theorem PW.pt{e:Expr}{t:TT}(h:PW X e t):PT X e t:=h _
def PA(X:Cx)(es:List Expr)(t:TA):Prop:=
 ∀(pos:Pos) (pins:List (Addr×Obj)) (s:Shared) (σ:St) (H:Hp) (Q:List V->Hp->Prop),AU X pins σ H s->t σ H Q->wpAny (model X.prog X.w) X.A (spliced (backTo pos (starEach es X.env))) (AP X pins σ Q) X.xe s
def PS(X:Cx)(st:Stmt)(t:TS):Prop:=
 ∀(pins:List (Addr×Obj)) (s:Shared) (σ:St) (H:Hp) (D:Fz),AU X pins σ H s->t D σ H->wpAny (model X.prog X.w) X.A (exec st X.env) (SP X pins D) X.xe s
def Fm(X:Cx)(st:List Stmt)(t:TS):Prop:=
 ∀(pins:List (Addr×Obj)) (s:Shared) (σ:St) (H:Hp) (D:Fz),AU X pins σ H s->t D σ H->wpAny (model X.prog X.w) X.A (execs st X.env) (SP X pins D) X.xe s
variable{E:Value->Shared->Prop}{s:Shared}
theorem BU{t:Sem α}{Q Q':α->Shared->Prop}{M:Model}{A:Around}(h:wpAny M A t Q E s)(hQ:∀a s,Q a s->Q' a s):wpAny M A t Q' E s:=wpAny_mono h hQ λ_ _ x=>x
variable{Q:Value->Shared->Prop}{pins:List (Addr×Obj)}{σ:St}{op:CmpOp}
section
def Kw(i:Nat):TE:=λσ H Q=>∃v,σ[i]?=some (some v)/\Q v H
def tC(v:V):TE:=λ_ H Q=>Q v H
theorem RZ{pos:Pos}(hN:X.N[i]?=some x)(hv:Vi X.env.scope x)(hd:(x==("__debug__":Str))=false:=by decide)(hcd:(x==("__classdict__":Str))=false:=by decide):PE X (.Name x pos) (Kw i):=by
 intro pins s σ H Q I h;obtain⟨v,e,h⟩:=h;obtain⟨m,hn,hl⟩:=I.loc;obtain⟨u,r,l⟩:=hl i x v hN e hv;have fin:EP X pins σ Q u s:=⟨v,H,I,r,h⟩;rcases l with⟨hk,hm⟩|⟨hk,c,hc,hcell⟩
 ·exact wpAny_Name (wpAny_loadName_local I.ok.kind hk hn hm fin) hd
 ·rcases hk with hk|hk
  ·exact wpAny_Name (wpAny_loadName_cell I.ok.kind hk hc hcell fin) hd
  ·exact wpAny_Name (wpAny_loadName_free I.ok.kind hk hc hcell fin hcd) hd
theorem AF{i j pos}:PE X (.Constant (.int i) j pos) (tC (.int i)):=λ_ _ _ H _ I h=>wpAny_Constant_int ⟨.int i,H,I.tok _,⟨_,rfl⟩,h⟩
theorem B5{b j pos}:PE X (.Constant (.bool b) j pos) (tC (.bl b)):=λ_ _ _ H _ I h=>Constant_bool ⟨.bl b,H,I,rfl,h⟩
theorem Cn{j pos}:PE X (.Constant .none j pos) (tC .non):=λ_ _ _ H _ I h=>Constant_none ⟨.non,H,I,rfl,h⟩
theorem C0{x j pos}:PE X (.Constant (.str x) j pos) (tC (.str x)):=λ_ _ _ H _ I h=>Calls.Constant_str ⟨.str x,H,I.tok _,⟨_,rfl⟩,h⟩
def Gl(X:Cx)(x:Str):Prop:=X.env.kindOf x=some .globalImplicit
theorem EK{E:Value->Shared->Prop}{pos:Pos}(I:AU X pins σ H s)(hg:Gl X x)(hm:X.mg x=some u)(h:Q u s)
  (hd:(x==("__debug__":Str))=false:=by decide):wpAny (model X.prog X.w) X.A (eval (.Name x pos) X.env) Q E s:=
 Calls.Name_function_global I.ok.kind hg (Calls.loadGlobal_global (by rw[I.ok.glob];exact I.mod.glob.keeps I.bk) hm h) hd
theorem CP{E:Value->Shared->Prop}{pos:Pos}(I:AU X pins σ H s)(hg:Gl X x)(hm:X.mg x=none)(hv:bootBuiltins x=some u)(h:Q u s)
  (hn:x≠"__name__":=by decide) (hd:(x==("__debug__":Str))=false:=by decide):wpAny (model X.prog X.w) X.A (eval (.Name x pos) X.env) Q E s:=by
 obtain⟨mb,h1,h2⟩:=I.mod.blt;exact Calls.Name_function_global I.ok.kind hg (Calls.loadGlobal_builtin (by rw[I.ok.glob];exact I.mod.glob.keeps I.bk) hm (by rw[I.ok.blt];exact h1.keeps I.bk) ((h2 x hn).trans hv) h) hd
theorem Lu{v:V}{pos:Pos}(hg:Gl X x)(hm:X.mg x=some u)(r:An v u)(hd:(x==("__debug__":Str))=false:=by decide):PE X (.Name x pos) (tC v):=
 λ_ _ _ H _ I h=>EK I hg hm ⟨v,H,I,r,h⟩ hd
theorem Pk{v:V}{pos:Pos}(hg:Gl X x)(hm:X.mg x=none)(hv:bootBuiltins x=some u)(r:An v u)(hn:x≠"__name__":=by decide)(hd:(x==("__debug__":Str))=false:=by decide):PE X (.Name x pos) (tC v):=
 λ_ _ _ H _ I h=>CP I hg hm hv ⟨v,H,I,r,h⟩ hn hd
variable{a b:Expr}{ta tb:TE}{pos:Pos}
def PC(X:Cx)(op:CmpOp)(a b:Expr)(t:TE):Prop:=
 ∀(pins:List (Addr×Obj)) (s:Shared) (σ:St) (H:Hp) (Q:VK),AU X pins σ H s->t σ H Q ->
  wpAny (model X.prog X.w) X.A (eval a X.env) (λv s₁=>wpAny (model X.prog X.w) X.A (eval b X.env) (λu s₂=>wpAny (model X.prog X.w) X.A (compareOp op v u) (EP X pins σ Q) X.xe s₂) X.xe s₁) X.xe s
def tB(t:TE):TT:=λσ H Q=>t σ H λx H1=>∃c,x=.bl c/\Q c H1
theorem GR{t:TE}(h:PC X op a b t)(h1:behindInMarks op b=false:=by first|exact nobehind _ (by decide) (by decide)|rfl):PT X (.Compare a [op] [b] pos) (tB t):=by intro pins s σ H Q I hw;refine wpAny_isTrue_Compare1 (BU (h pins s σ H _ I hw) λv s1 h1=>BU h1 λu s2 h2=>BU h2 λc s3 z9=>?_) h1;obtain⟨x,H1,I1,r1,q1⟩:=z9;obtain⟨d,rfl,q⟩:=q1;cases r1;exact wpAny_truthy_bool ⟨H1,I1,q⟩
theorem BQ{e:Expr}{t:TE}(h:PE X e t)(he:∀whole,isTrue e X.env whole=(do let v <-whole;standAt e.pos;holding [v] (truthy v)):=by intro _;rfl):PT X e (tB t):=by intro pins s σ H Q I hw;refine isTrue_plain (BU (h pins s σ H _ I hw) λv s1 z9=>?_) (he _);obtain⟨x,H1,I1,r1,q1⟩:=z9;obtain⟨d,rfl,q⟩:=q1;cases r1;exact wpAny_truthy_bool ⟨H1,I1,q⟩
variable{tA tB':TT}{rest:List Expr}
def Tq(t u:TT):TT:=λσ H Q=>t σ H λc H1=>if c=true then u σ H1 Q else Q false H1
def Wc(t u:TT):TT:=λσ H Q=>t σ H λc H1=>if c=true then Q true H1 else u σ H1 Q
def Tr(t:TT):TT:=λσ H Q=>t σ H λc H1=>Q (!c) H1
theorem Db(ha:PT X a tA):PW X (.BoolOp .And [a] pos) tA:=by
 intro wh pins s σ H Q I h;refine isTrue_and (BU (ha pins s σ H Q I h) λc s1 e=>?_);cases c with
 |true=>exact isTrue_and_nil e
 |false=>exact e
theorem CF(ha:PT X a tA):PW X (.BoolOp .Or [a] pos) tA:=by
 intro wh pins s σ H Q I h;refine isTrue_or (BU (ha pins s σ H Q I h) λc s1 e=>?_);cases c with
 |false=>exact isTrue_or_nil e
 |true=>exact e
theorem Eg(ha:PT X a tA)(hb:PW X (.BoolOp .And (b::rest) pos) tB'):PW X (.BoolOp .And (a::b::rest) pos) (Tq tA tB'):=by
 intro wh pins s σ H Q I h;refine isTrue_and (BU (ha pins s σ H _ I h) λc s1 z9=>?_);obtain⟨H1,I1,q1⟩:=z9;cases c with
 |true=>exact hb wh pins s1 σ H1 Q I1 q1
 |false=>exact⟨H1,I1,q1⟩
theorem CN(ha:PT X a tA)(hb:PW X (.BoolOp .Or (b::rest) pos) tB'):PW X (.BoolOp .Or (a::b::rest) pos) (Wc tA tB'):=by
 intro wh pins s σ H Q I h;refine isTrue_or (BU (ha pins s σ H _ I h) λc s1 z9=>?_);obtain⟨H1,I1,q1⟩:=z9;cases c with
 |true=>exact⟨H1,I1,q1⟩
 |false=>exact hb wh pins s1 σ H1 Q I1 q1
theorem BX(ha:PT X a tA):PT X (.UnaryOp .Not a pos) (Tr tA):=by intro pins s σ H Q I h;exact isTrue_not (ha pins s σ H (λc H1=>Q (!c) H1) I h)
def Qq(ta tb:TE):TE:=λσ H Q=>ta σ H λx H1=>∃c,x=.bl c/\if c=true then tb σ H1 Q else Q (.bl false) H1
def Qr(ta:TE):TE:=λσ H Q=>ta σ H λx H1=>∃c,x=.bl c/\Q (.bl (!c)) H1
theorem GS{op}{t:TE}(h:PE X a t):PE X (.BoolOp op [a] pos) t:=λpins s σ H Q I hw=>BoolOp_one (h pins s σ H Q I hw)
theorem FO(ha:PE X a ta)(hb:PE X (.BoolOp .And (b::rest) pos) tb):PE X (.BoolOp .And (a::b::rest) pos) (Qq ta tb):=by
 intro pins s σ H Q I h;refine BoolOp_and (BU (ha pins s σ H _ I h) λv s1 z9=>?_);obtain⟨x,H1,I1,r1,q1⟩:=z9;obtain⟨c,rfl,q1⟩:=q1;cases r1;refine wpAny_truthy_bool ?_;cases c with
 |true=>exact hb pins s1 σ H1 Q I1 q1
 |false=>exact⟨.bl false,H1,I1,rfl,q1⟩
theorem Nt(ha:PE X a ta):PE X (.UnaryOp .Not a pos) (Qr ta):=by intro pins s σ H Q I h;refine UnaryOp_ (BU (ha pins s σ H _ I h) λv s1 z9=>?_);obtain⟨x,H1,I1,r1,q1⟩:=z9;obtain⟨c,rfl,q1⟩:=q1;cases r1;exact not_of (wpAny_truthy_bool ⟨.bl (!c),H1,I1,rfl,q1⟩)
end
def Ab(K:qJ)(H:Hp)(a:Addr)(xs:List V):Prop:=
 Rd H a (.lst xs) \/
  ∃(o:Obj) (its:Array Value) (n:Nat),K.lookup a=some o/\o.cls=.type "list"/\o.dict=none/\o.data=.seq its n/\its.size<=sizeLine/\Al xs its.toList
def BL(K:qJ)(H:Hp)(a:Addr)(xs:List V):Prop:=
 Rd H a (.tup xs) \/
  ∃(o:Obj) (its:Array Value) (n:Nat),K.lookup a=some o/\o.cls=.type "tuple"/\o.data=.seq its n/\its.size<=sizeLine/\Al xs its.toList
noncomputable def Vv:Value->Option V
 |.none=>some .non
 |.bool b=>some (.bl b)
 |.int i _=>some (.int i)
 |.str x _=>some (.str x)
 |.bytes b _=>some (.byt b)
 |.float b _=>some (.flt b)
 |.ref a=>some (.ref a)
 |.type n=>some (.ty n)
 |_=>none
theorem An.abs{x:V}(r:An x u):Vv u=some x:=by
 cases x with
 |non=>cases r;rfl
 |bl _=>cases r;rfl
 |int _=>obtain⟨t,rfl⟩:=r;rfl
 |str _=>obtain⟨t,rfl⟩:=r;rfl
 |byt _=>obtain⟨t,rfl⟩:=r;rfl
 |flt _=>obtain⟨t,rfl⟩:=r;rfl
 |ref _=>cases r;rfl
 |ty _=>cases r;rfl
theorem An.inj{x y:V}(r:An x u)(q:An y u):x=y:=Option.some.inj (r.abs.symm.trans q.abs)
theorem Al.inj:∀{xs ys:List V} {us:List Value},Al xs us->Al ys us->xs=ys
 |_,_,_,.nil,.nil=>rfl
 |_,_,_,.cons r t,.cons r' t'=>by rw[r.inj r',Al.inj t t']
section
variable{ys:List V}
theorem Ab.of{K:qJ}(h:H a=some (.lst xs)):Ab K H a xs:=.inl (.inl h)
theorem BL.of{K:qJ}(h:H a=some (.tup xs)):BL K H a xs:=.inl (.inl h)
theorem AU.list(I:AU X pins σ H s)(h:Ab X.K H a xs):∃its:List Value,Al xs its/\PlainL s.heap a its.toArray/\xs.length<=sizeLine:=by
 rcases h with h|⟨o,its,n,hk,hc,hd,hs,hz,r⟩
 ·obtain⟨z,its,n,r,e⟩:=h.ok I.hok;exact⟨its,r,⟨_,n,e,rfl,rfl,rfl⟩,z⟩
 ·refine⟨its.toList,r,⟨o,n,I.kIn a o hk,hc,hd,by simpa using hs⟩,?_⟩;have e:=r.length;simp only[Array.length_toList]at e;lia
theorem AU.tuple(I:AU X pins σ H s)(h:BL X.K H a xs):∃its:List Value,Al xs its/\IsTup s.heap a its.toArray/\xs.length<=sizeLine:=by
 rcases h with h|⟨o,its,n,hk,hc,hs,hz,r⟩
 ·obtain⟨z,its,r,p⟩:=h.ok I.hok;exact⟨its,r,p,z⟩
 ·refine⟨its.toList,r,⟨o,I.kIn a o hk,hc,n,by simpa using hs⟩,?_⟩;have e:=r.length;simp only[Array.length_toList]at e;lia
theorem AU.list_inj(I:AU X pins σ H s)(h:Ab X.K H a xs)(h':Ab X.K H a ys):xs=ys:=by
 obtain⟨its,r,⟨o,n,e,_,_,d⟩,_⟩:=I.list h;obtain⟨its',r',⟨o',n',e',_,_,d'⟩,_⟩:=I.list h';rw[e]at e';cases e';rw[d]at d'
 injection d' with d1 _
 have:its=its':=by simpa using congrArg Array.toList d1
 subst this;exact r.inj r'
theorem AU.tuple_inj(I:AU X pins σ H s)(h:BL X.K H a xs)(h':BL X.K H a ys):xs=ys:=by
 obtain⟨its,r,⟨o,e,_,n,d⟩,_⟩:=I.tuple h;obtain⟨its',r',⟨o',e',_,n',d'⟩,_⟩:=I.tuple h';rw[e]at e';cases e';rw[d]at d'
 injection d' with d1 _
 have:its=its':=by simpa using congrArg Array.toList d1
 subst this;exact r.inj r'
end
abbrev Cx.wish(X:Cx)(E:Value->Shared->Prop):Cx:={X with xe:=E}
abbrev Cx.nox(X:Cx):Cx:=X.wish λ_ _=>False
theorem Cx.Ok.wish(ok:X.Ok)(E:Value->Shared->Prop):(X.wish E).Ok:=
 ⟨ok.mod,ok.kind,ok.glob,ok.blt,ok.above,ok.inj,ok.has,ok.cab,ok.hd,ok.frames,ok.stk,ok.exf,ok.bs,ok.bsz,ok.noex,ok.exfs,ok.funs,ok.frf⟩
theorem Cx.Ok.unwish(ok:(X.wish E).Ok):X.Ok:=
 ⟨ok.mod,ok.kind,ok.glob,ok.blt,ok.above,ok.inj,ok.has,ok.cab,ok.hd,ok.frames,ok.stk,ok.exf,ok.bs,ok.bsz,ok.noex,ok.exfs,ok.funs,ok.frf⟩
variable{D:Fz}
theorem AU.wish(I:AU X pins σ H s)(E:Value->Shared->Prop):AU (X.wish E) pins σ H s:=⟨I.ok.wish E,I.os,I.bare,I.base,I.loc,I.cell,I.free,I.freeC,I.pin,I.hok,I.len⟩
theorem AU.unwish(I:AU (X.wish E) pins σ H s):AU X pins σ H s:=⟨I.ok.unwish,I.os,I.bare,I.base,I.loc,I.cell,I.free,I.freeC,I.pin,I.hok,I.len⟩
theorem SP.unwish{f:Flow}(h:SP (X.wish E) pins D f s'):SP X pins D f s':=by
 cases f with
 |next=>obtain⟨σ',H',I,q⟩:=h;exact⟨σ',H',I.unwish,q⟩
 |brk=>obtain⟨σ',H',I,q⟩:=h;exact⟨σ',H',I.unwish,q⟩
 |cont=>obtain⟨σ',H',I,q⟩:=h;exact⟨σ',H',I.unwish,q⟩
 |ret u=>obtain⟨v,σ',H',I,r,q⟩:=h;exact⟨v,σ',H',I.unwish,r,q⟩
theorem Fm.nox{st:List Stmt}{t:TS}(h:Fm X.nox st t):Fm X st t:=λpins s σ H D I hw =>
 wpAny_mono (h pins s σ H D (I.wish _) hw) (λ_ _ q=>q.unwish) λ_ _ z=>False.elim z
variable{tc:TT}
section
variable{st:Stmt}{rest:List Stmt}{t u:TS}{e:Expr}{te:TE}{pos:Pos}
def Lv:TS:=λD σ H=>D.nx σ H
def Kx(t u:TS):TS:=λD σ H=>t {D with nx:=u D} σ H
theorem AX:Fm X [] Lv:=λ_ _ σ H _ I h=>wpAny_execs_nil ⟨σ,H,I,h⟩
theorem AB(h1:PS X st t)(h2:Fm X rest u):Fm X (st::rest) (Kx t u):=by
 intro pins s σ H D I h;refine wpAny_execs_cons (BU (h1 pins s σ H {D with nx:=u D} I h) λf s1 q=>?_);cases f with
 |next =>
  obtain⟨σ',H',I',q⟩:=q;exact h2 pins s1 σ' H' D I' q
 |ret v=>exact q
 |brk=>exact q
 |cont=>exact q
theorem AE(h1:PS X st t):Fm X [st] t:=by
 intro pins s σ H D I h;refine wpAny_execs_cons (BU (h1 pins s σ H D I h) λf s1 q=>?_);cases f with
 |next=>exact wpAny_execs_nil q
 |ret v=>exact q
 |brk=>exact q
 |cont=>exact q
def Ra:TS:=λD σ H=>D.bk σ H
theorem Nu:PS X (.Break pos) Ra:=λ_ _ σ H _ I h=>wpAny_Break ⟨σ,H,I,h⟩
theorem AU.quiet(I:AU X pins σ H s):interactive X.env=false:=by simp[interactive,I.ok.kind]
def Qs(te:TE):TS:=λD σ H=>te σ H λ_ H1=>D.nx σ H1
theorem A8(he:PE X e te)(hs:swapsWith e none pos.line X.env=pure false:=by rfl):PS X (.Expr e pos) (Qs te):=by intro pins s σ H D I h;exact wpAny_Expr_any (BU (he pins s σ H _ I h) λv s1 ⟨x,H1,I1,r1,q1⟩=>⟨σ,H1,I1,q1⟩) I.quiet hs
def Pl(te:TE):TS:=λD σ H=>te σ H D.rt
theorem AQ(he:PE X e te):PS X (.Return (some e) pos) (Pl te):=by intro pins s σ H D I h;exact wpAny_Return_some (BU (he pins s σ H _ I h) λv s1 ⟨x,H1,I1,r1,q1⟩=>⟨x,σ,H1,I1,r1,q1⟩)
def Pm(c:TT)(t u:TS):TS:=λD σ H=>c σ H λb H1=>if b=true then t D σ H1 else u D σ H1
theorem Ak{c:Expr}{a b:List Stmt}(hc:PT X c tc)(ha:Fm X a t)(hb:Fm X b u):PS X (.If c a b pos) (Pm tc t u):=by
 intro pins s σ H D I h;refine wpAny_If (BU (hc pins s σ H _ I h) λd s1 z9=>?_);obtain⟨H1,I1,q1⟩:=z9;cases d with
 |true=>exact ha pins s1 σ H1 D I1 q1
 |false=>exact hb pins s1 σ H1 D I1 q1
end
abbrev TG:=V->St->Hp->(St->Hp->Prop)->Prop
abbrev Rb:=List V->St->Hp->(St->Hp->Prop)->Prop
def PG(X:Cx)(target:Expr)(t:TG):Prop:=
 ∀(pins:List (Addr×Obj)) (s:Shared) (σ:St) (H:Hp) (v:V) (u:Value) (Q:St->Hp->Prop),AU X pins σ H s->An v u->t v σ H Q ->
  wpAny (model X.prog X.w) X.A (assign target X.env u) (λ_ s'=>∃σ' H',AU X pins σ' H' s'/\Q σ' H') X.xe s
def Vj(X:Cx)(ts:List Expr)(t:Rb):Prop:=
 ∀(pins:List (Addr×Obj)) (s:Shared) (σ:St) (H:Hp) (vs:List V) (us:List Value) (Q:St->Hp->Prop),AU X pins σ H s->Al vs us->t vs σ H Q ->
  wpAny (model X.prog X.w) X.A (assignInOrder ((assignEach ts X.env).map (·.2)) us) (λ_ s'=>∃σ' H',AU X pins σ' H' s'/\Q σ' H') X.xe s
abbrev Rc:=V->V->V->Hp->(Hp->Prop)->Prop
def Ts(X:Cx)(t:Rc):Prop:=
 ∀(pins:List (Addr×Obj)) (s:Shared) (σ:St) (H:Hp) (o i v:V) (ov iv u:Value) (Q:Hp->Prop),AU X pins σ H s->An o ov->An i iv->An v u->t o i v H Q ->
  wpAny (model X.prog X.w) X.A (setItem ov iv u) (λ_ s'=>∃H',AU X pins σ H' s'/\Q H') X.xe s
variable{es:List Expr}{tg:Expr}{te:TE}
section
variable{pos:Pos}
def Cq(i:Nat):TG:=λv σ H Q=>Q (σ.set i (some v)) H
theorem Lw(hN:X.N.Nodup)(hi:X.N[i]?=some x)(hx:Qp X.env.scope x)(hf:X.fn x=true\/X.env.scope.names.lookup x=some .local:=by first|exact .inl rfl|exact .inr rfl|assumption):PG X (.Name x pos) (Cq i):=by intro pins s σ H v u Q I r h;exact wpAny_assign_Name (GQ I hN hi hx r (λs' I'=>⟨_,H,I',h⟩) hf)
def Vw:Rb:=λvs σ H Q=>vs=[]/\Q σ H
def Tt(t:TG)(u:Rb):Rb:=λvs σ H Q=>∃v r,vs=v::r/\t v σ H λσ' H'=>u r σ' H' Q
theorem F6:Vj X [] Vw:=by intro pins s σ H vs us Q I r h;obtain⟨e,h⟩:=h;subst e;cases r;exact assignInOrder_nil ⟨σ,H,I,h⟩
theorem Cj{e:Expr}{t:TG}{u:Rb}(h1:PG X e t)(h2:Vj X es u)
  (hs:(assignEach (e::es) X.env).map (·.2)=assign e X.env::(assignEach es X.env).map (·.2):=by rfl):Vj X (e::es) (Tt t u):=by
 intro pins s σ H vs us Q I r h;obtain⟨v,vr,e1,h⟩:=h;subst e1;cases r with
 |cons r rr =>
  rw[hs];refine assignInOrder_cons (BU (h1 pins s σ H _ _ _ I r h) λ_ s1 z9=>?_);obtain⟨σ1,H1,I1,q1⟩:=z9;exact h2 pins s1 σ1 H1 _ _ Q I1 rr q1
def Vx(K:qJ)(n:Nat)(t:Rb):TG:=λv σ H Q=>∃a xs,v=.ref a/\BL K H a xs/\xs.length=n/\t xs σ H Q
theorem IY{k:Nat}{t:Rb}{n:Nat}(hc:X.calm=true)(h:Vj X es t)
  (hn:(assignEach es X.env).length=n:=by rfl) (hst:(assignEach es X.env).findIdx? (·.1)=none:=by rfl):PG X (.Tuple es k pos) (Vx X.K n t):=by
 intro pins s σ H v u Q I r hw;obtain⟨a,xs,e1,hq,hl,hw⟩:=hw;subst e1;cases r;obtain⟨its,rv,ht,hz⟩:=I.tuple hq;refine assign_Tuple_tuple (I.ok.hd hc) ht (by simp[hn,<-hl,rv.length]) hst λh' hx=>?_;have I1:AU X pins σ H {s with heap:=h'}:=I.kept (t':=s.toks) λb o e=>hx b o (Xd (Wz e)) e
 exact h pins _ σ H xs _ Q I1 (by simpa using rv) hw
def Vy(to ti:TE)(t:Rc):TG:=λv σ H Q=>to σ H λo H1=>ti σ H1 λi H2=>t o i v H2 λH3=>Q σ H3
theorem Ky{o i:Expr}{to ti:TE}{t:Rc}(ho:PE X o to)(hi:PE X i ti)(hs:Ts X t)
  (ha:∀v,assign (.Subscript o i pos) X.env v=(do
   let ov <-holding [v] (eval o X.env)
   let iv <-holding [v,ov] (eval i X.env)
   standAt pos
   holding [v,ov,iv] (setItem ov iv v)
   release [v,ov,iv] []):=by intro _;rfl):PG X (.Subscript o i pos) (Vy to ti t):=by
 intro pins s σ H v u Q I r h;rw[ha];refine qC (wpAny_holding (BU (ho pins s σ H _ I h) λov s1 z9=>?_));obtain⟨x,H1,I1,r1,q1⟩:=z9;refine qC (wpAny_holding (BU (hi pins s1 σ H1 _ I1 q1) λiv s2 z9=>?_));obtain⟨y,H2,I2,r2,q2⟩:=z9;refine qC (wpAny_standAt (qC (wpAny_holding (BU (hs pins s2 σ H2 x y v ov iv u _ I2 r1 r2 r q2) λ_ s3 z9=>?_))));obtain⟨H3,I3,q3⟩:=z9;exact wpAny_release ⟨σ,H3,I3,q3⟩
def Jb(te:TE)(g:TG):TS:=λD σ H=>te σ H λx H1=>g x σ H1 D.nx
theorem Kz{e:Expr}{g:TG}(he:PE X e te)(hg:PG X tg g)(hs:swapsWithSole [tg] e pos.line X.env=pure false:=by rfl)(hw:swappedStores [tg] e X.env=pure none:=by rfl)
  (h1:(assignEach [tg] X.env).map (·.2)=[assign tg X.env]:=by rfl):PS X (.Assign [tg] e pos) (Jb te g):=by
 intro pins s σ H D I h;refine wpAny_Assign_stores (BU (he pins s σ H _ I h) λv s1 z9=>?_) hs hw;obtain⟨x,H1,I1,r1,q1⟩:=z9;rw[h1];exact BU (hg pins s1 σ H1 x v _ I1 r1 q1) λ_ s2 q=>q
theorem GU{e:Expr}{pos':Pos}(hN:X.N.Nodup)(hi:X.N[i]?=some x)(hx:Qp X.env.scope x)(he:PE X e te)(hs:swapsWith e (some (.Name x pos')) pos.line X.env=pure false:=by rfl)(hf:X.fn x=true\/X.env.scope.names.lookup x=some .local:=by first|exact .inl rfl|exact .inr rfl|assumption):
  PS X (.Assign [.Name x pos'] e pos) (Jb te (Cq i)):=by
 intro pins s σ H D I h;refine wpAny_Assign_Name (BU (he pins s σ H _ I h) λv s1 z9=>?_) hs;obtain⟨y,H1,I1,r1,q1⟩:=z9;exact GQ I1 hN hi hx r1 (λs2 I2=>⟨_,H1,I2,q1⟩) hf
end
variable{body:List Stmt}
section
variable{pos:Pos}
def Nv(c:TT)(tb:TS):TS:=λD σ H=>∃W:Nat->St->Hp->Prop,(∃m,W m σ H)/\∀m σ H,W m σ H ->
 c σ H λb H1=>if b=true then ∃N:St->Hp->Prop,(∀σ' H',N σ' H'->∃m',m'<m/\W m' σ' H')/\tb {D with nx:=N,ct:=N,bk:=D.nx} σ H1 else D.nx σ H1
theorem B7{c:Expr}{tb:TS}(hp:PassesOwn (model X.prog X.w) X.A X.env X.xe)(hc:PT X c tc)(hb:Fm X body tb):PS X (.While c body [] pos) (Nv tc tb):=by
 intro pins s σ H D I h;obtain⟨W,⟨m0,w0⟩,turn⟩:=h;refine wpAny_While (codeAny_whileLoop (λn s'=>∃σ' H',AU X pins σ' H' s'/\W n σ' H') ?_ m0 ⟨σ,H,I,w0⟩);rintro n s1 ⟨σ1,H1,I1,w1⟩;refine wpAny_passesOwn hp (BU (hc pins s1 σ1 H1 _ I1 (turn n σ1 H1 w1)) λb s2 z9=>?_);obtain⟨H2,I2,q2⟩:=z9;cases b with
 |true =>
  obtain⟨N,hN,q2⟩:=q2;rw[qF rfl];refine wpAny_passesOwn hp (BU (hb pins s2 σ1 H2 _ I2 q2) λf s3 q3=>?_);cases f with
  |next =>
   obtain⟨σ3,H3,I3,n3⟩:=q3;obtain⟨m',hm,w3⟩:=hN σ3 H3 n3;exact⟨m',hm,σ3,H3,I3,w3⟩
  |cont =>
   obtain⟨σ3,H3,I3,n3⟩:=q3;obtain⟨m',hm,w3⟩:=hN σ3 H3 n3;exact⟨m',hm,σ3,H3,I3,w3⟩
  |brk=>exact q3
  |ret v=>exact q3
 |false =>
  rw[qE XG];exact wpAny_execs_nil ⟨σ1,H2,I2,q2⟩
end
structure It where
 go:Nat->Hp->Prop
 yld:Nat->Hp->V->Hp->Prop
 stop:Nat->Hp->Prop
def Ew(X:Cx)(pins:List (Addr×Obj))(H:Hp)(b:Addr):Prop:=
 H b=none/\b≠X.env.locals/\b∉X.fs/\(b∈X.ex\/X.s₀.heap.objs.size<=b)/\(∀x c,X.env.cells.lookup x=some c->c≠b)/\∀p∈X.pn++pins,p.1≠b
variable{H':Hp}
theorem AU.fpOk(I:AU X pins σ H s)(hb:s.heap.objs.size<=b)(hn:H' b=none):Ew X pins H' b:=by
 refine⟨hn,YY (W2 I.lt hb),I.nofs hb,.inr (Xa I.sz hb),λx c e z=>?_,λp hp z=>?_⟩
 ·obtain⟨v,q⟩:=I.cell x c e;exact qG (W2 q.lt (by rw[z];exact hb)) (XN _)
 ·exact qG (W2 (Wz (I.pin p hp).1) (by rw[z];exact hb)) (XN _)
structure GV(P:Program)(w:World)(K:qJ)(tg:Expr)(J:It)(fp:List Addr)(it:Addr)(tn:Nat->Heap->Prop):Prop where
 mem:it∈fp
 obj:∀i h,tn i h->∀b∈fp,∃o,h.get? b=some o/\∀v,o.data≠.cell v
 keep:∀i h h',tn i h->(∀b∈fp,∀o,h.get? b=some o->h'.get? b=some o)->tn i h'
 item:∀(X:Cx),X.prog=P->X.w=w->X.K=K->X.calm=true->∀(i:Nat) (pins:List (Addr×Obj)) (s:Shared) (σ:St) (H:Hp) (E:Value->Shared->Prop),AU X pins σ H s->(∀b∈fp,Ew X pins H b)->tn i s.heap->J.go i H ->
  wpAny (model P w) X.A (pyNext (.ref it)) (λr s1=>∃u,r=some u /\
   wpAny (model P w) X.A (letOwnedTupleGo tg (.ref it) u) (λ_ s2=>∃x H',AU X pins σ H' s2/\An x u/\J.yld i H x H'/\tn (i+1) s2.heap/\∀b∈fp,H' b=none) E s1) E s
 done:∀(X:Cx),X.prog=P->X.w=w->X.K=K->X.calm=true->∀(i:Nat) (pins:List (Addr×Obj)) (s:Shared) (σ:St) (H:Hp) (E:Value->Shared->Prop),AU X pins σ H s->(∀b∈fp,Ew X pins H b)->tn i s.heap->J.stop i H ->
  wpAny (model P w) X.A (pyNext (.ref it)) (λr s1=>r=none/\AU X pins σ H s1) E s
 self:∀(A:Around) (i:Nat) (s:Shared) (Q:Value->Shared->Prop) (E:Value->Shared->Prop),tn i s.heap->Q (.ref it) s->wpAny (model P w) A (pyIter (.ref it)) Q E s
abbrev TI:=St->Hp->(It->Hp->Prop)->Prop
def Wd(X:Cx)(pins:List (Addr×Obj))(σ:St)(tg:Expr)(R:It->Hp->Prop)(itv:Value)(s2:Shared):Prop:=
 ∃(it:Addr) (fp:List Addr) (tn:Nat->Heap->Prop) (J:It) (H':Hp),itv=.ref it/\AU X pins σ H' s2/\GV X.prog X.w X.K tg J fp it tn/\tn 0 s2.heap/\(∀b∈fp,Ew X pins H' b)/\R J H'
def PI(X:Cx)(tg iter:Expr)(wi:TI):Prop:=
 ∀(pins:List (Addr×Obj)) (s:Shared) (σ:St) (H:Hp) (R:It->Hp->Prop),AU X pins σ H s->wi σ H R ->
  wpAny (model X.prog X.w) X.A (eval iter X.env) (λv s1=>wpAny (model X.prog X.w) X.A (pyIter v) (Wd X pins σ tg R) X.xe s1) X.xe s
theorem Hy{M:Model}{A:Around}{n:String}{vs:Array Value}{Q:Unit->Shared->Prop}(ho:s.heap.get? it=some o)(hc:o.cls=.type n)(hd:o.data=.fields vs)
  (hn:["enumerate","zip","dict_itemiterator","dict_reverseitemiterator","odict_iterator","itertools.zip_longest","itertools.pairwise"].contains n=false) (hQ:Q () s):wpAny M A (letOwnedTupleGo tg (.ref it) u) Q E s:=by
 unfold letOwnedTupleGo
 cases tg<;>first
  |exact qD hQ
  | (cases u<;>first
    |exact qD hQ
    | (refine qC (wpAny_load ho ?_)
       rw[hc,hd];show wpAny M A (if (["enumerate","zip","dict_itemiterator","dict_reverseitemiterator","odict_iterator","itertools.zip_longest","itertools.pairwise"].contains n&&vs[0]?==some (rawInt _))=true then _ else _) Q E s;rw[qE (by intro h;rw[hn,Bool.false_and]at h;cases h)];exact qD hQ))
noncomputable def Tl(K:qJ)(a:Addr):It:=
 ⟨λi H=>∃xs x,Ab K H a xs/\xs[i]?=some x,λi H x H'=>H'=H/\∀xs,Ab K H a xs->xs[i]?=some x,λi H=>∃xs,Ab K H a xs/\xs.length<=i⟩
noncomputable def Tu(K:qJ)(a:Addr):It:=
 ⟨λi H=>∃xs x,BL K H a xs/\xs[i]?=some x,λi H x H'=>H'=H/\∀xs,BL K H a xs->xs[i]?=some x,λi H=>∃xs,BL K H a xs/\xs.length<=i⟩
noncomputable def Qt(lo:Int)(n:Nat):It:=⟨λi _=>i<n,λi H x H'=>H'=H/\x=.int (lo+i),λi _=>n<=i⟩
theorem Mr{P:Program}{w:World}{K:qJ}(a it:Addr):GV P w K tg (Tl K a) [it] it (λi h=>h.IsListIter it a i) where
 mem:=by simp
 obj:=λi h st b hb=>by
  have e:b=it:=by simpa using hb
  subst e;obtain⟨o,e,c,d⟩:=st;exact⟨o,e,λv z=>by rw[d]at z;cases z⟩
 keep:=λi h h' st k=>st.at λo e=>k it (by simp) o e
 item:=by intro X hP hw hK hc i pins s σ H E I hf st hg;subst hP hw hK;obtain⟨xs,x,hq,hx⟩:=hg;obtain⟨its,rv,p,hz⟩:=I.list hq;obtain⟨u,hu,ru⟩:=rv.get hx;obtain⟨f0,f1,f2,f3,f4,f5⟩:=hf it (by simp);refine wpAny_pyNext_list_item st p.isList (x:=u) (by simpa using hu) λh' st' sb=>?_;have I1:AU X pins σ H {s with heap:=h'}:=I.turned (t':=s.toks) (λb o hb e=>(sb.2 b hb).trans e) f0 f1 f3 f4 f5;obtain⟨o,e,c,d⟩:=id st';exact⟨u,rfl,Hy (s:={s with heap:=h'}) e c d (by decide) ⟨x,H,I1,ru,⟨rfl,λys hy=>by rw[I.list_inj hy hq];exact hx⟩,st',λb hb=>(hf b hb).1⟩⟩
 done:=by intro X hP hw hK hc i pins s σ H E I hf st hg;subst hP hw hK;obtain⟨xs,hq,hx⟩:=hg;obtain⟨its,rv,p,hz⟩:=I.list hq;obtain⟨f0,f1,f2,f3,f4,f5⟩:=hf it (by simp);have hl:=rv.length;exact wpAny_pyNext_list_end (I.ok.hd hc) st p.isList (by simp;lia) λh' eb=>⟨rfl,I.turned (t':=s.toks) (λb o hb e=>eb b o hb e) f0 f1 f3 f4 f5⟩
 self:=λ_ _ _ _ _ st h=>wpAny_pyIter_listiter st h
theorem K1{P:Program}{w:World}{K:qJ}(a it:Addr):GV P w K tg (Tu K a) [it] it (λi h=>h.IsTupleIter it a i) where
 mem:=by simp
 obj:=λi h st b hb=>by
  have e:b=it:=by simpa using hb
  subst e;obtain⟨o,e,c,d⟩:=st;exact⟨o,e,λv z=>by rw[d]at z;cases z⟩
 keep:=λi h h' st k=>st.at λo e=>k it (by simp) o e
 item:=by intro X hP hw hK hc i pins s σ H E I hf st hg;subst hP hw hK;obtain⟨xs,x,hq,hx⟩:=hg;obtain⟨its,rv,p,hz⟩:=I.tuple hq;obtain⟨u,hu,ru⟩:=rv.get hx;obtain⟨f0,f1,f2,f3,f4,f5⟩:=hf it (by simp);refine wpAny_pyNext_tuple_item st (show s.heap.IsTuple a its.toArray from p) (x:=u) (by simpa using hu) λh' st' sb=>?_;have I1:AU X pins σ H {s with heap:=h'}:=I.turned (t':=s.toks) (λb o hb e=>(sb.2 b hb).trans e) f0 f1 f3 f4 f5;obtain⟨o,e,c,d⟩:=id st';exact⟨u,rfl,Hy (s:={s with heap:=h'}) e c d (by decide) ⟨x,H,I1,ru,⟨rfl,λys hy=>by rw[I.tuple_inj hy hq];exact hx⟩,st',λb hb=>(hf b hb).1⟩⟩
 done:=by intro X hP hw hK hc i pins s σ H E I hf st hg;subst hP hw hK;obtain⟨xs,hq,hx⟩:=hg;obtain⟨its,rv,p,hz⟩:=I.tuple hq;obtain⟨f0,f1,f2,f3,f4,f5⟩:=hf it (by simp);have hl:=rv.length;exact wpAny_pyNext_tuple_end (I.ok.hd hc) st (show s.heap.IsTuple a its.toArray from p) (by simp;lia) λh' eb=>⟨rfl,I.turned (t':=s.toks) (λb o hb e=>eb b o hb e) f0 f1 f3 f4 f5⟩
 self:=λ_ _ _ _ _ st h=>wpAny_pyIter_tupleiter st h
theorem K2{P:Program}{w:World}{K:qJ}(it:Addr)(lo:Int)(n:Nat):GV P w K tg (Qt lo n) [it] it (λi h=>IsRangeIter h it (lo+(i:Nat)*1) ((n:Int)-(i:Nat)) 1) where
 mem:=by simp
 obj:=λi h st b hb=>by
  have e:b=it:=by simpa using hb
  subst e
  exact⟨_,st,λv z=>by have z':Data.fields _=Data.cell v:=z;cases z'⟩
 keep:=λi h h' st k=>k it (by simp) _ st
 item:=by intro X hP hw hK hc i pins s σ H E I hf st hg;subst hP hw hK;obtain⟨f0,f1,f2,f3,f4,f5⟩:=hf it (by simp);have W:=Walks.range (prog:=X.prog) (w:=X.w) (I.ok.hd hc) it lo 1 n;refine W.item i s _ _ hg st λv h' tk hv st' kk=>?_;obtain⟨t,rfl⟩:=hv;have I1:AU X pins σ H {s with heap:=h',toks:=tk}:=I.turned (λb o hb e=>kk b o (by simpa using hb) e) f0 f1 f3 f4 f5;refine⟨_,rfl,Hy (s:={s with heap:=h',toks:=tk}) (n:="range_iterator") st' rfl rfl (by decide) ⟨.int (lo+i),H,I1,⟨t,?_⟩,⟨rfl,rfl⟩,st',λb hb=>(hf b hb).1⟩⟩;rw[Int.mul_one]
 done:=by intro X hP hw hK hc i pins s σ H E I hf st hg;subst hP hw hK;obtain⟨f0,f1,f2,f3,f4,f5⟩:=hf it (by simp);exact wpAny_pyNext_range_end (I.ok.hd hc) st (by have:n<=i:=hg;lia) λh' eb=>⟨rfl,I.turned (t':=s.toks) (λb o hb e=>eb b o hb e) f0 f1 f3 f4 f5⟩
 self:=λ_ _ _ _ _ st h=>wpAny_pyIter_rangeiter st h
variable{tl:TE}{ta:TA}{fp:List Addr}
def Tv(K:qJ)(tl:TE):TI:=λσ H R=>tl σ H λx H1=>∃a,x=.ref a/\(∃xs,Ab K H1 a xs)/\R (Tl K a) H1
def Vz(K:qJ)(tl:TE):TI:=λσ H R=>tl σ H λx H1=>∃a,x=.ref a/\(∃xs,BL K H1 a xs)/\R (Tu K a) H1
theorem BK{l:Expr}(hl:PE X l tl):PI X tg l (Tv X.K tl):=by
 intro pins s σ H R I h;refine BU (hl pins s σ H _ I h) λv s1 z9=>?_;obtain⟨x,H1,I1,r1,q1⟩:=z9;obtain⟨a,e,⟨xs,hq⟩,q⟩:=q1;subst e;cases r1;obtain⟨its,rv,p,hz⟩:=I1.list hq;refine wpAny_pyIter_list p.isList ?_;refine⟨s1.heap.objs.size,[s1.heap.objs.size],_,_,H1,rfl,I1.kept (t':=s1.toks) λb o e=>Wu _ e,Mr a _,⟨_,W9 _ rfl,rfl,rfl⟩,λb hb=>?_,q⟩;have e:b=s1.heap.objs.size:=by simpa using hb
 subst e;exact I1.fpOk (Wv _) (I1.hok.fresh (Wv _))
theorem Re{l:Expr}(hl:PE X l tl):PI X tg l (Vz X.K tl):=by
 intro pins s σ H R I h;refine BU (hl pins s σ H _ I h) λv s1 z9=>?_;obtain⟨x,H1,I1,r1,q1⟩:=z9;obtain⟨a,e,⟨xs,hq⟩,q⟩:=q1;subst e;cases r1;obtain⟨its,rv,p,hz⟩:=I1.tuple hq;refine wpAny_pyIter_tuple (show s1.heap.IsTuple a its.toArray from p) ?_;refine⟨s1.heap.objs.size,[s1.heap.objs.size],_,_,H1,rfl,I1.kept (t':=s1.toks) λb o e=>Wu _ e,K1 a _,⟨_,W9 _ rfl,rfl,rfl⟩,λb hb=>?_,q⟩;have e:b=s1.heap.objs.size:=by simpa using hb
 subst e;exact I1.fpOk (Wv _) (I1.hok.fresh (Wv _))
theorem Jc{R:It->Hp->Prop}{lo hi:Int}{t u v:Tok}{tk:Nat}(I:AU X pins σ H s)(h1:-(2^62)<=lo)(h2:lo<2^62)(h3:-(2^62)<=hi)(h4:hi<2^62)
  (q:R (Qt lo (hi-lo).toNat) H):wpAny (model X.prog X.w) X.A (pyIter (.ref s.heap.objs.size)) (Wd X pins σ tg R) E {s with heap:=s.heap.push {cls:=.type "range",data:=.fields #[.int lo t,.int hi u,.int 1 v]},toks:=tk}:=by
 refine wpAny_pyIter_range (IsRange.new ..) (small_one h1 h2 h3 h4) ?_;have I1:AU X pins σ H {s with heap:=s.heap.push {cls:=.type "range",data:=.fields #[.int lo t,.int hi u,.int 1 v]},toks:=tk}:=I.kept λb o e=>Wu _ e
 refine⟨(s.heap.push {cls:=.type "range",data:=.fields #[.int lo t,.int hi u,.int 1 v]}).objs.size,[(s.heap.push {cls:=.type "range",data:=.fields #[.int lo t,.int hi u,.int 1 v]}).objs.size],_,_,H,rfl,
  I1.kept (t':=tk) λb o e=>Wu _ e,K2 _ lo (hi-lo).toNat,?_,λb hb=>?_,q⟩
 ·have e1:lo+((0:Nat):Int)*1=lo:=by simp
  have e2:(((hi-lo).toNat:Nat):Int)-((0:Nat):Int)=Builtin.Range.rangeSize lo hi 1:=by rw[rangeSize_one];split<;>lia
  show IsRangeIter _ _ (lo+((0:Nat):Int)*1) ((((hi-lo).toNat:Nat):Int)-((0:Nat):Int)) 1;rw[e1,e2];exact W9 _ rfl
 ·have e:b=(s.heap.push {cls:=.type "range",data:=.fields #[.int lo t,.int hi u,.int 1 v]}).objs.size:=by simpa using hb
  subst e;exact I1.fpOk (Wv _) (I1.hok.fresh (Wv _))
def Tw(ta:TA):TI:=λσ H R=>ta σ H λvs H1=>∃j:Int,vs=[.int j]/\-(2^62)<=j/\j<2^62/\R (Qt 0 j.toNat) H1
def Tx(ta:TA):TI:=λσ H R=>ta σ H λvs H1=>∃i j:Int,vs=[.int i,.int j]/\(-(2^62)<=i/\i<2^62/\-(2^62)<=j/\j<2^62)/\R (Qt i (j-i).toNat) H1
theorem Ah{a:Expr}{p pos:Pos}(hg:Gl X "range")(hm:X.mg "range"=none)(ha:PA X [a] ta)(hs:starEach [a] X.env=[(false,eval a X.env)]:=by rfl):PI X tg (.Call (.Name "range" p) [a] [] pos) (Tw ta):=by
 intro pins s σ H R I h;refine Call_ (CP I hg hm boot_range (Xb (BU (ha pos pins s σ H _ I h) λus s1 z9=>?_) hs rfl));obtain⟨vs,H1,I1,r1,q1⟩:=z9;obtain⟨j,e,q1,q2,q⟩:=q1;subst e;cases r1 with
 |cons r rr =>
  cases rr;obtain⟨t,rfl⟩:=r;exact call_range_1 (Jc I1 (by lia) (by lia) q1 q2 (by simpa using q))
theorem Ms{a b:Expr}{p pos:Pos}(hg:Gl X "range")(hm:X.mg "range"=none)(ha:PA X [a,b] ta)(hs:starEach [a,b] X.env=[(false,eval a X.env),(false,eval b X.env)]:=by rfl)(hs2:starEach [b] X.env=[(false,eval b X.env)]:=by rfl):
  PI X tg (.Call (.Name "range" p) [a,b] [] pos) (Tx ta):=by
 intro pins s σ H R I h;refine Call_ (CP I hg hm boot_range (Xb (BU (ha pos pins s σ H _ I h) λus s1 ⟨vs,H1,I1,r1,q1⟩=>?_) (by rw[hs,hs2]) (by rw[hs2];rfl)));obtain⟨i,j,e,⟨q1,q2,q3,q4⟩,q⟩:=q1;subst e;cases r1 with
 |cons r rr =>
  cases rr with
  |cons r' rr =>
   cases rr;obtain⟨t,rfl⟩:=r;obtain⟨t',rfl⟩:=r';exact call_range_2 (Jc I1 q1 q2 q3 q4 q)
def V0(wi:TI)(g:TG)(tb:TS):TS:=λD σ H=>wi σ H λJ H1=>∃W:Nat->Nat->St->Hp->Prop,(∃m,W 0 m σ H1)/\∀i m σ H,W i m σ H ->
 (J.stop i H/\D.nx σ H)\/(J.go i H/\∃N:St->Hp->Prop,(∀σ' H',N σ' H'->∃m',m'<m/\W (i+1) m' σ' H')/\∀x H',J.yld i H x H'->g x σ H' λσ2 H2=>tb {D with nx:=N,ct:=N,bk:=D.nx} σ2 H2)
noncomputable def GW(fp:List Addr)(h:Heap):List (Addr×Obj):=fp.filterMap λb=>(h.get? b).map λo=>(b,o)
theorem Dc(hb:b∈fp)(e:h.get? b=some o):(b,o)∈GW fp h:=YH.mpr ⟨b,hb,by rw[e];rfl⟩
theorem Mu{p:Addr×Obj}(hp:p∈GW fp h):p.1∈fp/\h.get? p.1=some p.2:=by
 obtain⟨b,hb,e⟩:=YH.mp hp;cases q:h.get? b with
 |none=>rw[q]at e;cases e
 |some o =>
  rw[q]at e;have e':(b,o)=p:=Option.some.inj e;subst e';exact⟨hb,q⟩
theorem AU.pinned(I:AU X pins σ H s)(hf:∀b∈fp,Ew X pins H b)(ho:∀b∈fp,∃o,s.heap.get? b=some o/\∀v,o.data≠.cell v):AU X (pins++GW fp s.heap) σ H s:=
 I.pins_of λp hp=>(Ww.mp hp).elim (λz=>I.pin p (Xg _ z)) λz=>by obtain⟨hb,e⟩:=Mu z;obtain⟨f0,f1,f2,_⟩:=hf p.1 hb;obtain⟨o,e',d⟩:=ho p.1 hb;rw[e]at e';cases e';exact⟨e,f0,f1,f2,d⟩
theorem AU.unpinned{pl:List (Addr×Obj)}(I:AU X (pins++pl) σ H s):AU X pins σ H s:=I.pins_of λp hp=>I.pin p (Xg _ (Xr _ hp))
theorem Ar{iter:Expr}{wi:TI}{g:TG}{tb:TS}{pos:Pos}(hp:PassesOwn (model X.prog X.w) X.A X.env X.xe)(hc:X.calm=true)(hi:PI X tg iter wi)(hg:PG X tg g)(hb:Fm X body tb)
  (hs:∀x,foldedSetIterable iter X.env x=pure x:=by intro _;rfl):PS X (.For tg iter body [] pos) (V0 wi g tb):=by
 intro pins s σ H D I h;refine wpAny_For (BU (hi pins s σ H _ I h) λv s1 h1=>BU h1 λitv s2 h2=>?_) hs;obtain⟨it,fp,tn,J,H2,e,I2,T,st2,f2,W,⟨m0,w0⟩,turn⟩:=h2;subst e;have stat:∀{H':Hp},(∀b∈fp,H' b=none)->∀b∈fp,Ew X pins H' b:=λhn b hb=>⟨hn b hb,(f2 b hb).2⟩
 refine codeAny_forLoop_any (λn s'=>∃i σ' H',AU X pins σ' H' s'/\tn i s'.heap/\(∀b∈fp,H' b=none)/\W i n σ' H') ?_ m0 ⟨0,σ,H2,I2,st2,λb hb=>(f2 b hb).1,w0⟩;rintro n s3 ⟨i,σ3,H3,I3,st3,fr3,w3⟩;rcases turn i n σ3 H3 w3 with⟨stop,qn⟩|⟨go,N,hN,step⟩
 ·refine wpAny_passesOwn hp (BU (T.done X rfl rfl rfl hc i pins s3 σ3 H3 X.xe I3 (stat fr3) st3 stop) λr s4 z9=>?_);obtain⟨hr,I4⟩:=z9;subst hr;exact wpAny_execs_nil ⟨σ3,H3,I4,qn⟩
 ·refine wpAny_passesOwn hp (BU (T.item X rfl rfl rfl hc i pins s3 σ3 H3 X.xe I3 (stat fr3) st3 go) λr s4 z9=>?_);obtain⟨u,hr,h4⟩:=z9;subst hr;refine wpAny_passesOwn hp (BU h4 λ_ s5 z9=>?_);obtain⟨x,H5,I5,r5,y5,st5,fr5⟩:=z9;have I5':=I5.pinned (stat fr5) (T.obj _ _ st5);refine wpAny_passesOwn hp (BU (hg _ s5 σ3 H5 x u _ I5' r5 (step x H5 y5)) λ_ s6 z9=>?_);obtain⟨σ6,H6,I6,q6⟩:=z9;refine wpAny_passesOwn hp (BU (hb _ s6 σ6 H6 _ I6 q6) λf s7 q7=>?_);have again:∀{σ7:St} {H7:Hp},AU X (pins++GW fp s5.heap) σ7 H7 s7->N σ7 H7->∃m,m<n/\∃i σ' H',AU X pins σ' H' s7/\tn i s7.heap/\(∀b∈fp,H' b=none)/\W i m σ' H':=λ{σ7 H7} I7 n7=>by obtain⟨m',hm,w7⟩:=hN σ7 H7 n7;refine⟨m',hm,i+1,σ7,H7,I7.unpinned,T.keep _ _ _ st5 λb hb o e=>(I7.pin (b,o) (Xg _ (Xg _ (Dc hb e)))).1,λb hb=>?_,w7⟩;obtain⟨o,e,d⟩:=T.obj _ _ st5 b hb;exact (I7.pin (b,o) (Xg _ (Xg _ (Dc hb e)))).2.1
  cases f with
  |next=>obtain⟨σ7,H7,I7,n7⟩:=q7;exact again I7 n7
  |cont=>obtain⟨σ7,H7,I7,n7⟩:=q7;exact again I7 n7
  |brk=>obtain⟨σ7,H7,I7,q7⟩:=q7;exact⟨σ7,H7,I7.unpinned,q7⟩
  |ret v=>obtain⟨x7,σ7,H7,I7,r7,q7⟩:=q7;exact⟨x7,σ7,H7,I7.unpinned,r7,q7⟩
theorem BM{K:qJ}{g:TG}{tb:TS}(Pv:Nat->St->Hp->Prop)(h0:Pv 0 σ H)(hl:∀i σ H,i<=xs.length->Pv i σ H->Ab K H a xs)
  (hs:∀i x σ H,xs[i]?=some x->Pv i σ H->g x σ H λσ2 H2=>tb {D with nx:=Pv (i+1),ct:=Pv (i+1),bk:=D.nx} σ2 H2) (hd:∀σ H,Pv xs.length σ H->D.nx σ H):
  ∃W:Nat->Nat->St->Hp->Prop,(∃m,W 0 m σ H)/\∀i m σ H,W i m σ H ->
   ((Tl K a).stop i H/\D.nx σ H)\/((Tl K a).go i H/\∃N:St->Hp->Prop,(∀σ' H',N σ' H'->∃m',m'<m/\W (i+1) m' σ' H')/\∀x H',(Tl K a).yld i H x H'->g x σ H' λσ2 H2=>tb {D with nx:=N,ct:=N,bk:=D.nx} σ2 H2):=by
 refine⟨λi m σ H=>m=xs.length-i/\i<=xs.length/\Pv i σ H,⟨xs.length,by simp,Nat.zero_le _,h0⟩,?_⟩;rintro i m σ H ⟨rfl,hi,p⟩;have q:=hl i σ H hi p
 by_cases hlt:i<xs.length
 ·refine .inr ⟨⟨xs,xs[i],q,by simp[hlt]⟩,Pv (i+1),λσ' H' p'=>⟨xs.length-(i+1),by lia,rfl,hlt,p'⟩,λx H' y=>?_⟩;obtain⟨e,y⟩:=y;subst e;exact hs i x σ _ (y xs q) p
 ·have e:i=xs.length:=by lia
  subst e;exact .inl ⟨⟨xs,q,Wv _⟩,hd σ H p⟩
theorem Pn{K:qJ}{g:TG}{tb:TS}(Pv:Nat->St->Hp->Prop)(h0:Pv 0 σ H)(hl:∀i σ H,i<=xs.length->Pv i σ H->BL K H a xs)
  (hs:∀i x σ H,xs[i]?=some x->Pv i σ H->g x σ H λσ2 H2=>tb {D with nx:=Pv (i+1),ct:=Pv (i+1),bk:=D.nx} σ2 H2) (hd:∀σ H,Pv xs.length σ H->D.nx σ H):
  ∃W:Nat->Nat->St->Hp->Prop,(∃m,W 0 m σ H)/\∀i m σ H,W i m σ H ->
   ((Tu K a).stop i H/\D.nx σ H)\/((Tu K a).go i H/\∃N:St->Hp->Prop,(∀σ' H',N σ' H'->∃m',m'<m/\W (i+1) m' σ' H')/\∀x H',(Tu K a).yld i H x H'->g x σ H' λσ2 H2=>tb {D with nx:=N,ct:=N,bk:=D.nx} σ2 H2):=by
 refine⟨λi m σ H=>m=xs.length-i/\i<=xs.length/\Pv i σ H,⟨xs.length,by simp,Nat.zero_le _,h0⟩,?_⟩;rintro i m σ H ⟨rfl,hi,p⟩;have q:=hl i σ H hi p
 by_cases hlt:i<xs.length
 ·refine .inr ⟨⟨xs,xs[i],q,by simp[hlt]⟩,Pv (i+1),λσ' H' p'=>⟨xs.length-(i+1),by lia,rfl,hlt,p'⟩,λx H' y=>?_⟩;obtain⟨e,y⟩:=y;subst e;exact hs i x σ _ (y xs q) p
 ·have e:i=xs.length:=by lia
  subst e;exact .inl ⟨⟨xs,q,Wv _⟩,hd σ H p⟩
theorem BZ{lo:Int}{n:Nat}{g:TG}{tb:TS}(Pv:Nat->St->Hp->Prop)(h0:Pv 0 σ H)
  (hs:∀i σ H,i<n->Pv i σ H->g (.int (lo+i)) σ H λσ2 H2=>tb {D with nx:=Pv (i+1),ct:=Pv (i+1),bk:=D.nx} σ2 H2) (hd:∀σ H,Pv n σ H->D.nx σ H):
  ∃W:Nat->Nat->St->Hp->Prop,(∃m,W 0 m σ H)/\∀i m σ H,W i m σ H ->
   ((Qt lo n).stop i H/\D.nx σ H)\/((Qt lo n).go i H/\∃N:St->Hp->Prop,(∀σ' H',N σ' H'->∃m',m'<m/\W (i+1) m' σ' H')/\∀x H',(Qt lo n).yld i H x H'->g x σ H' λσ2 H2=>tb {D with nx:=N,ct:=N,bk:=D.nx} σ2 H2):=by
 refine⟨λi m σ H=>m=n-i/\i<=n/\Pv i σ H,⟨n,by simp,Nat.zero_le _,h0⟩,?_⟩;rintro i m σ H ⟨rfl,hi,p⟩
 by_cases hlt:i<n
 ·refine .inr ⟨hlt,Pv (i+1),λσ' H' p'=>⟨n-(i+1),by lia,rfl,hlt,p'⟩,λx H' y=>?_⟩;obtain⟨e,y⟩:=y;subst e y;exact hs i σ _ hlt p
 ·have e:i=n:=by lia
  subst e;exact .inl ⟨Wv _,hd σ H p⟩
theorem D0{c:TT}{tb:TS}(Pv:St->Hp->Prop)(μ:St->Hp->Nat)(h0:Pv σ H)
  (hs:∀σ H,Pv σ H->c σ H λb H1=>if b=true then tb {D with nx:=λσ' H'=>Pv σ' H'/\μ σ' H'<μ σ H,ct:=λσ' H'=>Pv σ' H'/\μ σ' H'<μ σ H,bk:=D.nx} σ H1 else D.nx σ H1)
  (mono:∀σ H Q Q',(∀b H1,Q b H1->Q' b H1)->c σ H Q->c σ H Q'):Nv c tb D σ H:=by
 refine⟨λm σ H=>m=μ σ H/\Pv σ H,⟨_,rfl,h0⟩,?_⟩;rintro m σ H ⟨rfl,p⟩;refine mono σ H _ _ (λb H1 q=>?_) (hs σ H p);cases b with
 |true=>exact⟨_,λσ' H' ⟨p',l⟩=>⟨_,l,rfl,p'⟩,q⟩
 |false=>exact q
abbrev R2:=V->V->Hp->VK->Prop
def Ev(X:Cx)(f:Value->Value->Sem Value)(r:R2):Prop:=
 ∀(pins:List (Addr×Obj)) (s:Shared) (σ:St) (H:Hp) (x y:V) (v u:Value) (Q:VK),AU X pins σ H s->An x v->An y u->r x y H Q ->
  wpAny (model X.prog X.w) X.A (f v u) (EP X pins σ Q) X.xe s
def V1(X:Cx)(f:Value->Sem Value)(r:V->Hp->VK->Prop):Prop:=
 ∀(pins:List (Addr×Obj)) (s:Shared) (σ:St) (H:Hp) (x:V) (v:Value) (Q:VK),AU X pins σ H s->An x v->r x H Q ->
  wpAny (model X.prog X.w) X.A (f v) (EP X pins σ Q) X.xe s
def Ds(X:Cx)(f:Value)(r:List V->Hp->VK->Prop):Prop:=
 ∀(pins:List (Addr×Obj)) (s:Shared) (σ:St) (H:Hp) (xs:List V) (us:List Value) (Q:VK),AU X pins σ H s->Al xs us->r xs H Q ->
  wpAny (model X.prog X.w) X.A (call f us) (EP X pins σ Q) X.xe s
def Nn(r:R2)(ta tb:TE):TE:=λσ H Q=>ta σ H λx H1=>tb σ H1 λy H2=>r x y H2 Q
def We(r:V->Hp->VK->Prop)(ta:TE):TE:=λσ H Q=>ta σ H λx H1=>r x H1 Q
def rI(C:Int->Int->Prop)(g:Int->Int->V):R2:=λx y H Q=>∃i j,x=.int i/\y=.int j/\C i j/\Q (g i j) H
def No(g:Int->Int->V):R2:=λx y H Q=>∃i j,x=.int i/\y=.int j/\Q (g i j) H
def rU(g:Int->V):V->Hp->VK->Prop:=λx H Q=>∃i,x=.int i/\Q (g i) H
section
variable{a b c:Expr}{ta tb tc:TE}{pos:Pos}
theorem Rf(ha:PE X a ta)(hb:PE X b tb){R:V->V->Hp->Prop}(I:AU X pins σ H s)
  (h:ta σ H λx H1=>tb σ H1 λy H2=>R x y H2) {Q:Value->Shared->Prop} {f:Value->Value->Sem Value}
  (hf:∀v u s2 x y H2,AU X pins σ H2 s2->An x v->An y u->R x y H2->wpAny (model X.prog X.w) X.A (f v u) Q X.xe s2):
  wpAny (model X.prog X.w) X.A (eval a X.env) (λv s₁=>wpAny (model X.prog X.w) X.A (eval b X.env) (λu s₂=>wpAny (model X.prog X.w) X.A (f v u) Q X.xe s₂) X.xe s₁) X.xe s:=by
 refine BU (ha pins s σ H _ I h) λv s1 z9=>?_;obtain⟨x,H1,I1,r1,q1⟩:=z9;refine BU (hb pins s1 σ H1 _ I1 q1) λu s2 z9=>?_;obtain⟨y,H2,I2,r2,q2⟩:=z9;exact hf v u s2 x y H2 I2 r1 r2 q2
theorem AJ{op:Operator}{r:R2}(ho:Ev X (binaryOp op) r)(ha:PE X a ta)(hb:PE X b tb):PE X (.BinOp a op b pos) (Nn r ta tb):=by intro pins s σ H Q I h;exact wpAny_BinOp (Rf ha hb I h λv u s2 x y H2 I2 rx ry q=>ho pins s2 σ H2 x y v u Q I2 rx ry q)
theorem Jd{op:UnaryOp}{r:V->Hp->VK->Prop}(ho:V1 X (unaryOp op) r)(ha:PE X a ta):PE X (.UnaryOp op a pos) (We r ta):=by intro pins s σ H Q I h;exact UnaryOp_ (BU (ha pins s σ H _ I h) λv s1 ⟨x,H1,I1,r1,q1⟩=>ho pins s1 σ H1 x v Q I1 r1 q1)
theorem Tz{f:Value->Value->Sem Value}{C:Int->Int->Prop}{g:Int->Int->Int}
  (rule:∀(i j:Int) (t u:Tok) (s:Shared) (Q:Value->Shared->Prop) (E:Value->Shared->Prop),C i j->Q (.int (g i j) s.toks) {s with toks:=s.toks+1}->wpAny (model X.prog X.w) X.A (f (.int i t) (.int j u)) Q E s):
  Ev X f (rI C λi j=>.int (g i j)):=by
 intro pins s σ H x y v u Q I rx ry h;obtain⟨i,j,rfl,rfl,hc,q⟩:=h;obtain⟨t,rfl⟩:=rx;obtain⟨t',rfl⟩:=ry;exact rule i j t t' s _ _ hc ⟨.int (g i j),H,I.tok _,⟨_,rfl⟩,q⟩
theorem Po{f:Value->Value->Sem Value}{g:Int->Int->Int}
  (rule:∀(i j:Int) (t u:Tok) (s:Shared) (Q:Value->Shared->Prop) (E:Value->Shared->Prop),Q (.int (g i j) s.toks) {s with toks:=s.toks+1}->wpAny (model X.prog X.w) X.A (f (.int i t) (.int j u)) Q E s):
  Ev X f (No λi j=>.int (g i j)):=by
 intro pins s σ H x y v u Q I rx ry h;obtain⟨i,j,rfl,rfl,q⟩:=h;obtain⟨t,rfl⟩:=rx;obtain⟨t',rfl⟩:=ry;exact rule i j t t' s _ _ ⟨.int (g i j),H,I.tok _,⟨_,rfl⟩,q⟩
theorem Pp{f:Value->Value->Sem Value}{g:Int->Int->Bool}
  (rule:∀(i j:Int) (t u:Tok) (s:Shared) (Q:Value->Shared->Prop) (E:Value->Shared->Prop),Q (.bool (g i j)) s->wpAny (model X.prog X.w) X.A (f (.int i t) (.int j u)) Q E s):
  Ev X f (No λi j=>.bl (g i j)):=by
 intro pins s σ H x y v u Q I rx ry h;obtain⟨i,j,rfl,rfl,q⟩:=h;obtain⟨t,rfl⟩:=rx;obtain⟨t',rfl⟩:=ry;exact rule i j t t' s _ _ ⟨.bl (g i j),H,I,rfl,q⟩
def Rg(i j:Int):Prop:=0<j/\j<1073741824
def T0(i j:Int):Prop:=0<=j/\j<=1000000/\i.natAbs<2^64
def Pq(i j:Int):Prop:=(-(2^64)<i/\i<2^64)\/(-(2^64)<j/\j<2^64)
theorem Pq.ok{i j:Int}(h:Pq i j):IntMulOk i j:=by
 rcases h with⟨h1,h2⟩|⟨h1,h2⟩
 ·exact .of_left (intBits_le_64 h1 h2)
 ·exact .of_right (intBits_le_64 h1 h2)
theorem K3(k:Nat):(0:Int)<=2^k:=by rw[two_pow_cast];exact Int.natCast_nonneg _
theorem BD:Ev X (binaryOp .Add) (No λi j=>.int (i+j)):=Po λ_ _ _ _ _ _ _ q=>add_int q
theorem Bq:Ev X (binaryOp .Sub) (No λi j=>.int (i-j)):=Po λ_ _ _ _ _ _ _ q=>sub_int q
theorem B6:Ev X (binaryOp .Mult) (rI Pq λi j=>.int (i*j)):=Tz λ_ _ _ _ _ _ _ hc q=>mul_int q hc.ok
theorem Ax:Ev X (binaryOp .FloorDiv) (rI Rg λi j=>.int (i/j)):=Tz λi j _ _ _ _ _ hc q=>by have h1:(0:Int)<j:=hc.1;have h2:j<1073741824:=hc.2;exact floordiv_int (by lia) (by rw[Int.fdiv_eq_ediv_of_nonneg i (by lia)];exact q) (.inl (PyProof.noPylong_small (by lia)))
theorem As:Ev X (binaryOp .Mod) (rI (λ_ j=>0<j) λi j=>.int (i%j)):=Tz λi j _ _ _ _ _ hc q=>by have h1:(0:Int)<j:=hc;exact mod_int' (by lia) (by rw[Int.fmod_eq_emod_of_nonneg i (by lia)];exact q)
theorem Nw:Ev X (binaryOp .LShift) (rI T0 λi j=>.int (i*2^j.toNat)):=Tz λ_ _ _ _ _ _ _ hc q=>lshift_int_small hc.1 hc.2.1 hc.2.2 q
theorem Rh:Ev X (binaryOp .RShift) (rI (λ_ j=>0<=j) λi j=>.int (i/2^j.toNat)):=Tz λi j _ _ _ _ _ hc q =>
 rshift_int hc (by rw[Int.fdiv_eq_ediv_of_nonneg i (K3 _)];exact q)
theorem Ri:Ev X (binaryOp .BitAnd) (No λi j=>.int (Builtin.bitAnd i j)):=Po λ_ _ _ _ _ _ _ q=>and_int q
theorem Qu:Ev X (binaryOp .BitOr) (No λi j=>.int (Builtin.bitOr i j)):=Po λ_ _ _ _ _ _ _ q=>or_int q
theorem Wp{f:Value->Sem Value}{g:Int->Int}
  (rule:∀(i:Int) (t:Tok) (s:Shared) (Q:Value->Shared->Prop) (E:Value->Shared->Prop),Q (.int (g i) s.toks) {s with toks:=s.toks+1}->wpAny (model X.prog X.w) X.A (f (.int i t)) Q E s):
  V1 X f (rU λi=>.int (g i)):=by
 intro pins s σ H x v Q I rx h;obtain⟨i,rfl,q⟩:=h;obtain⟨t,rfl⟩:=rx;exact rule i t s _ _ ⟨.int (g i),H,I.tok _,⟨_,rfl⟩,q⟩
theorem GX:V1 X (unaryOp .USub) (rU λi=>.int (-i)):=Wp λ_ _ _ _ _ q=>neg_int q
end
noncomputable def Rj:V->V->Bool
 |.non,.non=>true|.non,.int _=>true|.int _,.non=>true|.non,.bl _=>true|.bl _,.non=>true|.non,.str _=>true|.str _,.non=>true
 |.int _,.int _=>true|.bl _,.bl _=>true|.str _,.str _=>true|.byt _,.byt _=>true
 |.int _,.str _=>true|.str _,.int _=>true|.bl _,.str _=>true|.str _,.bl _=>true
 |_,_=>false
def V2:R2:=λx y H Q=>Rj x y=true/\Q (.bl (decide (x=y))) H
def Wf:R2:=λx y H Q=>Rj x y=true/\Q (.bl (!decide (x=y))) H
theorem Lx{i j:Int}:decide (V.int i=V.int j)=(i==j):=by rw[Y6];simp
theorem Nx{i j:Bool}:decide (V.bl i=V.bl j)=(i==j):=by rw[Y6];simp
theorem Ly{i j:Str}:decide (V.str i=V.str j)=(i==j):=by rw[Y6];simp
theorem Lz{i j:Array UInt8}:decide (V.byt i=V.byt j)=(i.toList==j.toList):=by rw[Y6];cases i;cases j;simp
section
variable{a b c:Expr}{ta tb tc:TE}{pos:Pos}
theorem A7{Q:VK}{k k':Bool}(I:AU X pins σ H s)(q:Q (.bl k) H)(e:k=k'):EP X pins σ Q (.bool k') s:=by subst e;exact⟨.bl k,H,I,rfl,q⟩
theorem Bb:Ev X (compareOp .Eq) V2:=by
 intro pins s σ H x y v u Q I rx ry h;obtain⟨hs,q⟩:=h;cases x with
 |non =>
  cases rx;cases y with
  |non=>cases ry;exact PySem.EqNone.eq_none_none (A7 I q (by simp))
  |bl j=>cases ry;exact PySem.EqNone.eq_none_bool (A7 I q (by simp))
  |int j=>obtain⟨t',rfl⟩:=ry;exact PySem.EqNone.eq_none_int (A7 I q (by simp))
  |str j=>obtain⟨t',rfl⟩:=ry;exact PySem.EqNone.eq_none_str (A7 I q (by simp))
  |_=>exact qG (show false=true from hs) XG
 |bl i =>
  cases rx;cases y with
  |non=>cases ry;exact PySem.EqNone.eq_bool_none (A7 I q (by simp))
  |bl j=>cases ry;exact eq_bool (A7 I q Nx)
  |str j=>obtain⟨t',rfl⟩:=ry;exact PySem.EqMixed.eq_bool_str (A7 I q (by simp))
  |_=>exact qG (show false=true from hs) XG
 |int i =>
  obtain⟨t,rfl⟩:=rx;cases y with
  |non=>cases ry;exact PySem.EqNone.eq_int_none (A7 I q (by simp))
  |int j=>obtain⟨t',rfl⟩:=ry;exact eq_int (A7 I q Lx)
  |str j=>obtain⟨t',rfl⟩:=ry;exact PySem.EqMixed.eq_int_str (A7 I q (by simp))
  |_=>exact qG (show false=true from hs) XG
 |str i =>
  obtain⟨t,rfl⟩:=rx;cases y with
  |non=>cases ry;exact PySem.EqNone.eq_str_none (A7 I q (by simp))
  |bl j=>cases ry;exact PySem.EqMixed.eq_str_bool (A7 I q (by simp))
  |int j=>obtain⟨t',rfl⟩:=ry;exact PySem.EqMixed.eq_str_int (A7 I q (by simp))
  |str j=>obtain⟨t',rfl⟩:=ry;exact eq_str (A7 I q Ly)
  |_=>exact qG (show false=true from hs) XG
 |byt i =>
  obtain⟨t,rfl⟩:=rx;cases y with
  |byt j=>obtain⟨t',rfl⟩:=ry;exact PySem.W.eq_bytes (A7 I q Lz)
  |_=>exact qG (show false=true from hs) XG
 |_=>cases y<;>exact qG (show false=true from hs) XG
theorem Hz:Ev X (compareOp .NotEq) Wf:=by
 intro pins s σ H x y v u Q I rx ry h;obtain⟨hs,q⟩:=h;cases x with
 |non =>
  cases rx;cases y with
  |non=>cases ry;exact PySem.EqNone.ne_none_none (A7 I q (by simp))
  |bl j=>cases ry;exact PySem.EqNone.ne_none_bool (A7 I q (by simp))
  |int j=>obtain⟨t',rfl⟩:=ry;exact PySem.EqNone.ne_none_int (A7 I q (by simp))
  |str j=>obtain⟨t',rfl⟩:=ry;exact PySem.EqNone.ne_none_str (A7 I q (by simp))
  |_=>exact qG (show false=true from hs) XG
 |bl i =>
  cases rx;cases y with
  |non=>cases ry;exact PySem.EqNone.ne_bool_none (A7 I q (by simp))
  |bl j=>cases ry;exact ne_bool (A7 I q (congrArg not Nx))
  |str j=>obtain⟨t',rfl⟩:=ry;exact PySem.EqMixed.ne_bool_str (A7 I q (by simp))
  |_=>exact qG (show false=true from hs) XG
 |int i =>
  obtain⟨t,rfl⟩:=rx;cases y with
  |non=>cases ry;exact PySem.EqNone.ne_int_none (A7 I q (by simp))
  |int j=>obtain⟨t',rfl⟩:=ry;exact ne_int (A7 I q (congrArg not Lx))
  |str j=>obtain⟨t',rfl⟩:=ry;exact PySem.EqMixed.ne_int_str (A7 I q (by simp))
  |_=>exact qG (show false=true from hs) XG
 |str i =>
  obtain⟨t,rfl⟩:=rx;cases y with
  |non=>cases ry;exact PySem.EqNone.ne_str_none (A7 I q (by simp))
  |bl j=>cases ry;exact PySem.EqMixed.ne_str_bool (A7 I q (by simp))
  |int j=>obtain⟨t',rfl⟩:=ry;exact PySem.EqMixed.ne_str_int (A7 I q (by simp))
  |str j=>obtain⟨t',rfl⟩:=ry;exact ne_str (A7 I q (congrArg not Ly))
  |_=>exact qG (show false=true from hs) XG
 |byt i =>
  obtain⟨t,rfl⟩:=rx;cases y with
  |byt j=>obtain⟨t',rfl⟩:=ry;exact PySem.W.ne_bytes (A7 I q (congrArg not Lz))
  |_=>exact qG (show false=true from hs) XG
 |_=>cases y<;>exact qG (show false=true from hs) XG
theorem Ex:Ev X (compareOp .Lt) (No λi j=>.bl (decide (i<j))):=Pp λ_ _ _ _ _ _ _ q=>lt_int q
theorem Je:Ev X (compareOp .LtE) (No λi j=>.bl (decide (i<=j))):=Pp λ_ _ _ _ _ _ _ q=>le_int q
theorem Dt:Ev X (compareOp .Gt) (No λi j=>.bl (decide (j<i))):=Pp λ_ _ _ _ _ _ _ q=>gt_int q
theorem Qv:Ev X (compareOp .GtE) (No λi j=>.bl (decide (j<=i))):=Pp λ_ _ _ _ _ _ _ q=>ge_int q
theorem Eh:Ev X (compareOp .Is) (λx y H Q=>y=.non/\Q (.bl (decide (x=.non))) H):=by
 intro pins s σ H x y v u Q I rx ry h;obtain⟨rfl,q⟩:=h;cases ry;refine is_none_gen (A7 I q ?_)
 cases x<;>first
  | (cases rx;rfl)
  | (obtain⟨t,rfl⟩:=rx;rfl)
theorem L0:Ev X (compareOp .IsNot) (λx y H Q=>y=.non/\Q (.bl (!decide (x=.non))) H):=by
 intro pins s σ H x y v u Q I rx ry h;obtain⟨rfl,q⟩:=h;cases ry;refine isnot_none_gen (A7 I q ?_)
 cases x<;>first
  | (cases rx;rfl)
  | (obtain⟨t,rfl⟩:=rx;rfl)
theorem AN(b:Expr)(h:op≠.In:=by decide)(h2:op≠.NotIn:=by decide):behindInMarks op b=false:=by
 have e1:(op==CmpOp.In)=false:=by cases op<;>first|rfl|exact qG rfl h
 have e2:(op==CmpOp.NotIn)=false:=by cases op<;>first|rfl|exact qG rfl h2
 cases b<;>simp[behindInMarks,e1,e2]
theorem Bk{r:R2}(ho:Ev X (compareOp op) r)(ha:PE X a ta)(hb:PE X b tb)(hm:behindInMarks op b=false):PE X (.Compare a [op] [b] pos) (Nn r ta tb):=by intro pins s σ H Q I h;exact wpAny_Compare1 (Rf ha hb I h λv u s2 x y H2 I2 rx ry q=>ho pins s2 σ H2 x y v u Q I2 rx ry q) hm
def Ny(t:TE):TT:=λσ H Q=>t σ H λx H'=>∃k,x=.bl k/\Q k H'
theorem AM{r:R2}(ho:Ev X (compareOp op) r)(ha:PE X a ta)(hb:PE X b tb)(hm:behindInMarks op b=false):PT X (.Compare a [op] [b] pos) (Ny (Nn r ta tb)):=by
 intro pins s σ H Q I h
 refine wpAny_isTrue_Compare1 (BU (ha pins s σ H _ I h) λv s1 ⟨x,H1,I1,r1,q1⟩=>BU (hb pins s1 σ H1 _ I1 q1) λu s2 ⟨y,H2,I2,r2,q2⟩ =>
  BU (ho pins s2 σ H2 x y v u _ I2 r1 r2 q2) λc s3 ⟨z,H3,I3,r3,k,e,q3⟩=>?_) hm
 subst e;cases r3;exact wpAny_truthy_bool ⟨H3,I3,q3⟩
theorem IZ:(sizeLine:Nat)<2^63:=by rw[sizeLine_eq];decide
theorem Eb{x:V}(r:Al [x] us):∃u,us=[u]/\An x u:=by
 cases r with
 |cons r1 r2=>cases r2;exact⟨_,rfl,r1⟩
theorem L5{x y:V}(r:Al [x,y] us):∃u w',us=[u,w']/\An x u/\An y w':=by
 cases r with
 |cons r1 r2 =>
  cases r2 with
  |cons r3 r4=>cases r4;exact⟨_,_,rfl,r1,r3⟩
theorem IA(hc:X.calm=true):Ds X (.builtin "min") (λxs H Q=>∃i j,xs=[.int i,.int j]/\Q (.int (if j<i then j else i)) H):=by
 intro pins s σ H xs us Q I r h;obtain⟨i,j,rfl,q⟩:=h;obtain⟨u,w',rfl,⟨t,rfl⟩,⟨t',rfl⟩⟩:=L5 r;refine min_two_ints (I.ok.hd hc) λh' tk k=>⟨_,H,I.kept k,?_,q⟩
 by_cases hj:j<i
 ·rw[qF hj,qF hj];exact⟨_,rfl⟩
 ·rw[qE hj,qE hj];exact⟨_,rfl⟩
end
structure Rk(h:Heap)(x dx C:Addr)(mA:Str->Option Value):Prop where
 obj:h.get? x=some (PySem.W.instObj C dx)
 ns:h.Ns1 dx mA
 ne:dx≠x
variable{dx:Addr}
theorem Mv{mA:Str->Option Value}(n:h.Ns1 dx mA):∃od,h.get? dx=some od/\∀name,PySem.W.lookIn name od=some (mA name):=by
 obtain⟨o,es,ep,ho,hd,hk,_,hm⟩:=n;refine⟨o,ho,λname=>?_⟩;have e:=hm name;unfold nsFind findBy at e;rw[<-Array.find?_toList]at e;unfold PySem.W.lookIn;rw[hd];dsimp only;split
 ·rename_i y q
  rw[q]at e;exact congrArg some e
 ·rename_i q
  rw[q]at e
  have a:es.toList.any (·.refKey)=false:=by rw[List.any_eq_false];intro y hy;obtain⟨z,t,hkey⟩:=hk y (Array.mem_toList_iff.mp hy);simp[DictEntry.refKey,hkey]
  have a':¬es.toList.any (·.refKey)=true:=by rw[a];exact XG
  rw[qE a'];exact congrArg some e
variable{C:Addr}
theorem Rk.look{x:Addr}{mA:Str->Option Value}(I:Rk h x dx C mA):∃od,PySem.W.InstAt h x (PySem.W.instObj C dx) C (some od)/\∀name,PySem.W.lookIn name od=some (mA name):=
 let ⟨od,ho,hl⟩:=Mv I.ns
 ⟨od,⟨I.obj,rfl,rfl,ho⟩,hl⟩
theorem FN.some_of{v:V}{o:Option Value}(r:FN (some v) o):∃u,o=some u/\An v u:=by
 cases o with
 |none=>exact (show False from r).elim
 |some u=>exact⟨u,rfl,r⟩
section
variable{P:Program}{w:World}{h':Heap}{fs fs':List (Str×V)}
theorem L6(hok:DQ P w H h)(e:H a=some (.ins C dx fs)):∃mA,Rk h a dx C mA/\(∀f,FN (fs.lookup f) (mA f))/\PySem.Within mA (fs.map (·.1))/\fs.length<=1000/\H dx=some (.own a):=by obtain⟨d,z,ne,ob,mA,n,r,q⟩:=(show Ao P w H h a (.ins C dx fs) from hok a _ e);exact⟨mA,⟨ob,n,ne⟩,r,q,z,d⟩
end
structure V3(K:qJ)(C:Addr):Prop where
 pg:PySem.W.plainGet K C Str.empty=true
 hd:PySem.W.hasDictIn K C=true
 po:PySem.W.plainOver K C=true
 sa:PySem.W.findIn K (.ref C) "__setattr__"=some (some (.builtin "object.__setattr__"))
theorem V3.get{K:qJ}(c:V3 K C)(f:Str):PySem.W.plainGet K C f=true:=c.pg
section
variable{A:Around}{c:Value}{b:Bool}
inductive FP(K:qJ)(H:Hp):V->Value->Prop where
 |non:FP K H .non (.type "NoneType")
 |bl (x:Bool):FP K H (.bl x) (.type "bool")
 |int (i:Int):FP K H (.int i) (.type "int")
 |str (x:Str):FP K H (.str x) (.type "str")
 |flt (x:UInt64):FP K H (.flt x) (.type "float")
 |lst {a:Addr} {xs:List V} (e:H a=some (.lst xs)):FP K H (.ref a) (.type "list")
 |frz {a:Addr} {o:Obj} {xs:List V} (e:H a=some (.frz o (.lst xs))):FP K H (.ref a) (.type "list")
 |tup {a:Addr} {xs:List V} (e:H a=some (.tup xs)):FP K H (.ref a) (.type "tuple")
 |dK {a:Addr} {kvs:List (Bu×V)} (e:H a=some (.dK kvs)):FP K H (.ref a) (.type "dict")
 |dT {a:Addr} {kvs:List (List Bu×V)} (e:H a=some (.dT kvs)):FP K H (.ref a) (.type "dict")
 |ins {a C dx:Addr} {fs:List (Str×V)} (e:H a=some (.ins C dx fs)) (cl:V3 K C) (ha:PySem.W.findIn K (.ref C) "__class__"=some (some (.builtin "object.__class__")))
   (hn:PySem.W.specialIn K (.builtin "object.__class__") "__get__"=some (some (.builtin "getset_descriptor.__get__"))) (htk:PySem.W.takesIn K (.builtin "object.__class__")=some true)
   (hm:PySem.W.mroIn K C (.type "object")=some true):FP K H (.ref a) (.ref C)
theorem Mw{x:V}{t:Value}(I:AU X pins σ H s)(rx:An x u)(ty:FP X.K H x t)(e:PySem.W.kitOne X.K t c=some b)(h:∀tk,Q (.bool b) {s with toks:=tk}):
  wpAny (model X.prog X.w) A (call (.builtin "isinstance") [u,c]) Q E s:=by
 cases ty with
 |non=>cases (show u=Value.none from rx);exact Xu PySem.W.kitx_none I.kIn True.intro e (λz=>nomatch z) h
 |bl y=>cases (show u=Value.bool y from rx);exact Xu PySem.W.kitx_bool I.kIn True.intro e (λz=>nomatch z) h
 |int i=>obtain⟨t,q⟩:=(show ∃t,u=Value.int i t from rx);cases q;exact Xu PySem.W.kitx_int I.kIn True.intro e (λz=>nomatch z) h
 |str y=>obtain⟨t,q⟩:=(show ∃t,u=Value.str y t from rx);cases q;exact Xu PySem.W.kitx_str I.kIn True.intro e (λz=>nomatch z) h
 |flt y=>obtain⟨t,q⟩:=(show ∃t,u=Value.float y t from rx);cases q;exact Xu PySem.W.kitx_float I.kIn True.intro e (λz=>nomatch z) h
 | @lst a xs ea =>
  cases (show u=Value.ref a from rx);obtain⟨_,_,n,_,h1⟩:=(show Ao X.prog X.w H s.heap a (.lst xs) from I.hok a _ ea);exact Xu ZG I.kIn ⟨_,h1,rfl⟩ e (λz=>nomatch z) h
 | @frz a ob xs ea =>
  cases (show u=Value.ref a from rx);obtain⟨_,_,_,n,_,h1⟩:=(show Ao X.prog X.w H s.heap a (.frz ob (.lst xs)) from I.hok a _ ea);exact Xu ZG I.kIn ⟨_,h1,rfl⟩ e (λz=>nomatch z) h
 | @tup a xs ea =>
  cases (show u=Value.ref a from rx);obtain⟨_,_,_,p⟩:=(show Ao X.prog X.w H s.heap a (.tup xs) from I.hok a _ ea);obtain⟨o,h1,h2,_⟩:=p;exact Xu PySem.W.kitx_tuple I.kIn ⟨o,h1,h2⟩ e (λz=>nomatch z) h
 | @dK a kvs ea =>
  cases (show u=Value.ref a from rx);obtain⟨_,_,vs,_,p⟩:=(show Ao X.prog X.w H s.heap a (.dK kvs) from I.hok a _ ea);obtain⟨o,es,ep,h1,h2,_⟩:=p;exact Xu ZH I.kIn ⟨o,h1,h2.1⟩ e (λz=>nomatch z) h
 | @dT a kvs ea =>
  cases (show u=Value.ref a from rx);obtain⟨_,_,xs,_,o,es,ep,h1,h2,_⟩:=(show Ao X.prog X.w H s.heap a (.dT kvs) from I.hok a _ ea);exact Xu ZH I.kIn ⟨o,h1,h2.1⟩ e (λz=>nomatch z) h
 | @ins a C dx fs ea cl ha hn htk hm =>
  cases (show u=Value.ref a from rx);obtain⟨mA,O,_⟩:=L6 I.hok ea;obtain⟨od,J,_⟩:=O.look;exact Xu (PySem.W.kitx_own (cl.get _) cl.hd ha hn htk hm) I.kIn J e (λz=>nomatch z) h
end
structure Bn(k:Nat)(A:Around):Prop where
 hd:A.handled=none
 dp:A.depth+3*k+5<recursionLimit
 un:A.units+16*k+200<cLine
theorem Bn.mono{k:Nat}{A:Around}(r:Bn k A)(h:j<=k):Bn j A:=⟨r.hd,by have:=r.dp;lia,by have:=r.un;lia⟩
theorem Bn.deeper{k:Nat}{A:Around}(r:Bn (k+1) A)(env:Env):Bn k (A.deeper env):=
 ⟨r.hd,by have:=r.dp;show A.depth+1+3*k+5<_;lia,by have:=r.un;show A.units+3+16*k+200<_;lia⟩
theorem K4{A:Around}{kw:List (Str×Value)}:(A.under (.builtin "type.__call__" ⟨.ref C::us,kw⟩)).depth=A.depth+1:=by
 first|rfl|simp[Around.under,Code.weight,Code.isCreation,Code.isGuard,Code.isCaller,Code.frames,Code.isFrame,guardIds]
theorem K6{A:Around}{kw:List (Str×Value)}:(A.under (.builtin "type.__call__" ⟨.ref C::us,kw⟩)).units=A.units+1:=by
 first|rfl|simp[Around.under,Code.cUnits,Code.frames,Code.isFrame]
theorem Bn.make{k:Nat}{A:Around}(r:Bn (k+1) A)(C:Addr)(us:List Value)(kw:List (Str×Value)):Bn k (A.under (.builtin "type.__call__" ⟨.ref C::us,kw⟩)):=
 ⟨r.hd,by have:=r.dp;rw[K4];lia,by have:=r.un;rw[K6];lia⟩
theorem Bn.depth{k:Nat}{A:Around}(r:Bn k A):A.depth<recursionLimit:=by have:=r.dp;lia
theorem Bn.units{k:Nat}{A:Around}(r:Bn k A):A.units+64<cLine:=by have:=r.un;lia
def Bs:TA:=λ_ H Q=>Q [] H
def AV(ta:TE)(tr:TA):TA:=λσ H Q=>ta σ H λx H1=>tr σ H1 λxs H2=>Q (x::xs) H2
section
variable{e:Expr}{t:TA}{pos:Pos}
theorem AD:PA X [] Bs:=λ_ _ _ _ H Q I h=>Calls.spliced_nil ⟨[],H,I,.nil,h⟩
theorem AA(ha:PE X e te)(hr:PA X es t)(hs:starEach (e::es) X.env=(false,eval e X.env)::starEach es X.env:=by rfl):PA X (e::es) (AV te t):=by intro pos pins s σ H Q I h;rw[hs];show wpAny _ _ (spliced ((false,eval e X.env)::backTo pos (starEach es X.env))) _ _ s;refine Calls.spliced_cons (BU (ha pins s σ H _ I h) λu s1 z9=>?_);obtain⟨x,H1,I1,r1,q1⟩:=z9;exact BU (hr pos pins s1 σ H1 _ I1 q1) λus s2 ⟨xs,H2,I2,r2,q2⟩=>⟨x::xs,H2,I2,.cons r1 r2,q2⟩
def CD(t:TA):TE:=λσ H Q=>t σ H λxs H1=>xs.length<=sizeLine/\∀p,H1 p=none->Q (.ref p) (Ae H1 p (.tup xs))
def Nz(t:TA):TE:=λσ H Q=>t σ H λxs H1=>xs.length<=sizeLine/\∀p,H1 p=none->Q (.ref p) (Ae H1 p (.lst xs))
theorem D1{x1}(h:PA X es t):PE X (.Tuple es x1 pos) (CD t):=by intro pins s σ H Q I hq;refine wpAny_Tuple_spliced (BU (h pos pins s σ H _ I hq) λus s1 ⟨xs,H1,I1,r,z,q⟩=>⟨by rw[<-r.length];exact z,?_⟩);have hf:H1 s1.heap.objs.size=none:=I1.hok.fresh (Wv _);refine⟨.ref s1.heap.objs.size,Ae H1 s1.heap.objs.size (.tup xs),I1.laid (t':=s1.toks) (λb u e=>Wu _ e) (Wv _) ?_,rfl,q _ hf⟩;exact⟨z,us,r,⟨_,W9 _ rfl,rfl,_,rfl⟩⟩
theorem BR(h:PA X es t):PE X (.List es pos) (Nz t):=by intro pins s σ H Q I hq;refine wpAny_List_spliced (BU (h pos pins s σ H _ I hq) λus s1 ⟨xs,H1,I1,r,z,q⟩=>⟨by rw[<-r.length];exact z,?_⟩);have hf:H1 s1.heap.objs.size=none:=I1.hok.fresh (Wv _);refine⟨.ref s1.heap.objs.size,Ae H1 s1.heap.objs.size (.lst xs),I1.laid (t':=s1.toks) (λb u e=>Wu _ e) (Wv _) ?_,rfl,q _ hf⟩;exact⟨z,us,0,r,W9 _ rfl⟩
end
abbrev Sp:=List V->Hp->VK->XK->Prop
abbrev Pg:=List Env->Hp->Shared->XK->Value->Shared->Prop
structure Jf(P:Program)(w:World)(K:qJ)(mg:Str->Option Value)(base:Heap)(A:Around)(outer:List Env)(s:Shared)(H:Hp):Prop where
 frames:A.frames=some outer
 mod:Vh K mg base
 bs:∀b o,base.get? b=some o->s.heap.get? b=some o/\H b=none
 bsz:base.objs.size<=s.heap.objs.size
 funs:s.heap.FunFrames base outer
 frf:∀b∈Cm outer,H b=none
 hok:DQ P w H s.heap
 bare:AllBare s.gens
def CE(outer:List Env)(P:Program)(w:World)(H:Hp)(s:Shared)(Q:VK)(u:Value)(s':Shared):Prop:=
 ∃v H',s'.os=s.os/\AllBare s'.gens/\Un (Cm outer) [] H H' s.heap s'.heap/\DQ P w H' s'.heap/\An v u/\Q v H'
def CR(CX:Pg)(outer:List Env)(P:Program)(w:World)(H:Hp)(s:Shared)(Q:VK)(E:XK)(r:Result)(s':Shared):Prop:=
 match r with
 |.ok (.ret u)=>CE outer P w H s Q u s'
 |.ok _=>False
 |.error e=>CX outer H s E e s'
structure EY(P:Program)(w:World)(K:qJ)(mg:Str->Option Value)(base:Heap)(CX:Pg)(k:Nat)(f:Addr)(fd:FuncData)(ps:List Str)(sp:Sp):Prop where
 len:∀vs H Q E,sp vs H Q E->vs.length=ps.length
 run:∀(A:Around) (outer:List Env) (s:Shared) (H:Hp) (args:Args) (us:List Value) (vs:List V) (Q:VK) (E:XK),Bn k A->Jf P w K mg base A outer s H->BindsTo s fd args (ps.zip us)->Al vs us->sp vs H Q E ->
  codeAny (model P w) A (.call (.ref f) args) (CR CX outer P w H s Q E) s
theorem Jf.make{P:Program}{w:World}{K:qJ}{mg:Str->Option Value}{base:Heap}{A:Around}{outer:List Env}(e:Jf P w K mg base A outer s H)(C:Addr)(us:List Value)(kw:List (Str×Value)):
  Jf P w K mg base (A.under (.builtin "type.__call__" ⟨.ref C::us,kw⟩)) outer s H:=⟨by first|exact e.frames|(simpa [Around.under,Code.envs,Code.isFrame,pushEnvs] using e.frames),e.mod,e.bs,e.bsz,e.funs,e.frf,e.hok,e.bare⟩
theorem AU.env0(I:AU X pins σ H s):Jf X.prog X.w X.K X.mg X.base X.A X.stack s H:=
 ⟨I.ok.frames,I.ok.mod,I.bs,Xa I.ok.bsz I.sz,I.stack,I.stkFree,I.hok,I.bare⟩
theorem AU.after{Q:VK}(I:AU X pins σ H s)(h:CE X.stack X.prog X.w H s Q u s'):EP X pins σ Q u s':=by obtain⟨v,H',os,bare,un,hok,r,q⟩:=h;obtain⟨hh,g,d,t,os'⟩:=s';obtain rfl:os'=s.os:=os;exact⟨v,H',I.call (h':=hh) (g':=g) (d':=d) (t':=t) (ch:=[]) un hok bare (λb z=>qG z (by simp)),r,q⟩
def D3(K:qJ)(fd:FuncData)(ps:List Str)(ds:List Value):Prop:=
 ∀(s:Shared) (us:List Value),K.In s.heap->(us++ds).length=ps.length->BindsTo s fd ⟨us,[]⟩ (ps.zip (us++ds))
variable{fd:FuncData}{ps:List Str}
theorem D3.all{K:qJ}(h:∀us:List Value,us.length=ps.length->bindArgs fd ⟨us,[]⟩=pure (ps.zip us)):D3 K fd ps []:=λs us _ hl=>by rw[Xn]at hl⊢;exact .of_eq (h us hl)
def PK(X:Cx)(kws:List Keyword)(t:TA):Prop:=
 ∀(pos:Pos) (pins:List (Addr×Obj)) (s:Shared) (σ:St) (H:Hp) (Q:List V->Hp->Prop),AU X pins σ H s->t σ H Q->wpAny (model X.prog X.w) X.A (evalAll ((backToKw pos (keywordEach kws X.env)).map (·.2))) (AP X pins σ Q) X.xe s
section
variable{CX:Pg}{k:Nat}{f:Addr}{ks:List Str}{sp:Sp}{E:XK}{m:Str}{p pos apos kpos:Pos}{e o:Expr}{kws:List Keyword}{ta:TE}{t tk:TA}{nm:Option Str}
theorem Rm:PK X [] Bs:=λ_ _ _ _ H Q I h=>wpAny_evalAll_nil ⟨[],H,I,.nil,h⟩
theorem Pr(ha:PE X e te)(hr:PK X kws t):PK X (⟨nm,e,kpos⟩::kws) (AV te t):=by intro pos pins s σ H Q I h;show wpAny _ _ (evalAll ((do let v <-eval e X.env;standAt pos;pure v)::(backToKw pos (keywordEach kws X.env)).map (·.2))) _ _ s;refine wpAny_evalAll_cons (qC (BU (ha pins s σ H _ I h) λu s1 ⟨x,H1,I1,r1,q1⟩=>qC (wpAny_standAt (qD ?_))));exact BU (hr pos pins s1 σ H1 _ I1 q1) λus s2 ⟨xs,H2,I2,r2,q2⟩=>⟨x::xs,H2,I2,.cons r1 r2,q2⟩
variable{g:List Value->List Value->List Value}{gV:List V->List V->List V}
end
structure AK(N P:List Str)(sc:Scope):Prop where
 kind:sc.kind=.function
 co:sc.isCoroutine=false
 gen:sc.isGenerator=false
 nd:N.Nodup
 pre:N.take P.length=P
 par:∀x∈P,sc.names.lookup x=some .local\/sc.names.lookup x=some .cell
 nofree:∀y∈sc.names,y.2≠.free
variable{kindOf:Str->Option NameKind}
theorem IB:∀{binds:List (Str×Value)} {m:Str->Option Value},(∀v,(x,v)∉binds)->bindL kindOf binds m x=m x
 |[],_,_=>rfl
 | (n,v)::r,m,h=>by
  unfold bindL;rw[IB λw hw=>h w (XD _ hw)];split
  ·have:x≠n:=by rintro rfl;exact h v W7
   simp[this]
  ·rfl
theorem IC:∀{binds:List (Str×Value)} {m:Str->Option Value},(∀v,(x,v)∉binds)->bindC kindOf binds m x=m x
 |[],_,_=>rfl
 | (n,v)::r,m,h=>by
  unfold bindC;rw[IC λw hw=>h w (XD _ hw)];split
  ·rfl
  ·have:x≠n:=by rintro rfl;exact h v W7
   simp[this]
theorem FQ{v:Value}:∀{P:List Str} {vs:List Value} {i:Nat} {m:Str->Option Value},P.Nodup->P[i]?=some x->vs[i]?=some v->kindOf x=some .local ->
  bindL kindOf (P.zip vs) m x=some v
 |[],_,_,_,_,h,_,_=>by simp at h
 |_::_,[],_,_,_,_,h,_=>by simp at h
 |p::P,w::vs,0,m,nd,h1,h2,hk=>by simp at h1 h2;subst h1;subst h2;show bindL kindOf ((p,w)::P.zip vs) m p=_;unfold bindL;rw[IB λv hv=>(Xl.mp nd).1 (Y7 hv).1,qF hk];simp
 |p::P,w::vs,i+1,m,nd,h1,h2,hk=>by show bindL kindOf ((p,w)::P.zip vs) m x=_;unfold bindL;exact FQ (i:=i) (List.nodup_cons.mp nd).2 (by simpa using h1) (by simpa using h2) hk
theorem FR{v:Value}:∀{P:List Str} {vs:List Value} {i:Nat} {m:Str->Option Value},P.Nodup->P[i]?=some x->vs[i]?=some v->kindOf x≠some .local ->
  bindC kindOf (P.zip vs) m x=some v
 |[],_,_,_,_,h,_,_=>by simp at h
 |_::_,[],_,_,_,_,h,_=>by simp at h
 |p::P,w::vs,0,m,nd,h1,h2,hk=>by simp at h1 h2;subst h1;subst h2;show bindC kindOf ((p,w)::P.zip vs) m p=_;unfold bindC;rw[IC λv hv=>(Xl.mp nd).1 (Y7 hv).1,qE hk];simp
 |p::P,w::vs,i+1,m,nd,h1,h2,hk=>by show bindC kindOf ((p,w)::P.zip vs) m x=_;unfold bindC;exact FR (i:=i) (List.nodup_cons.mp nd).2 (by simpa using h1) (by simpa using h2) hk
noncomputable def Ck(N:List Str)(vs:List V):St:=vs.map some++List.replicate (N.length-vs.length) none
noncomputable def DL(CX:Pg)(P:Program)(w:World)(K:qJ)(mg:Str->Option Value)(base:Heap)(N:List Str)(qual:Str)(scope:Scope)(f:Addr)(cd:Value)(A:Around)(outer:List Env)(s:Shared)(H:Hp)(E:XK):Cx where
 prog:=P
 w:=w
 K:=K
 mg:=mg
 base:=base
 A:=A.deeper (envOfC qual scope s.heap.objs.size f cd)
 N:=N
 s₀:=s
 H₀:=H
 env:=envOfC qual scope s.heap.objs.size f cd
 outer:=outer
 stack:=envOfC qual scope s.heap.objs.size f cd::outer
 ex:=[]
 calm:=true
 fn:=λ_=>true
 pn:=[]
 xe:=λe s'=>wpAny (model P w) (A.deeper (envOfC qual scope s.heap.objs.size f cd)) (leaving (envOfC qual scope s.heap.objs.size f cd) e) (λ_ s''=>CX outer H s E e s'') (λe' s''=>CX outer H s E e' s'') s'
theorem Ey{sc:Scope}{n:Nat}(h:sc.names.lookup x=some .cell):∃c,(cellsFrom n sc.names []).lookup x=some c:=by have q:=ZE sc.names n [] (.inl h);exact Y3.mp q
variable{f:Addr}{CX:Pg}{qual:Str}{scope:Scope}
theorem Mx{P:Program}{w:World}{K:qJ}{mg:Str->Option Value}{base:Heap}{N:List Str}{cd:Value}{A:Around}{outer:List Env}{s1:Shared}{E:XK}{vs:List V}
  (S:AK N ps scope) (hd:A.handled=none) (e0:Jf P w K mg base A outer s H) (hl:vs.length=ps.length) (r:Al vs us)
  (x:InCallC s s.heap.objs.size (bindL (envOfC qual scope s.heap.objs.size f cd).kindOf (ps.zip us) λ_=>none) (cellsFrom (s.heap.objs.size+1) scope.names []) (bindC (envOfC qual scope s.heap.objs.size f cd).kindOf (ps.zip us) λ_=>none) s1):
  AU (DL CX P w K mg base N qual scope f cd A outer s H E) [] (Ck N vs) H s1:=by
 have hpl:ps.length<=N.length:=by have:=congrArg List.length S.pre;rw[XR]at this;lia
 obtain⟨h1,tk,rfl,hk⟩:=x.done;have noA:∀b:Addr,b∉(DL CX P w K mg base N qual scope f cd A outer s H E).ex:=λb z=>qG (show b∈([]:List Addr) from z) (by simp)
 refine⟨⟨e0.mod,S.kind,rfl,rfl,Wv _,λy z c h1 h2=>?_,λy hy=>?_,λy c _ h=>?_,λ_=>hd,Around.frames_deeper e0.frames,.inr ⟨rfl,rfl⟩,λb z=>qG z (noA b),e0.bs,e0.bsz,λb _ _=>noA b,λb z=>qG z (noA b),e0.funs,e0.frf⟩,
  rfl,e0.bare,Un.kept hk,⟨_,x.toInCall.ns,λi y v h1 h2 h3=>?_⟩,λy c h=>⟨_,x.cell y c h⟩,e0.hok.fresh (Nat.le_refl _),λy c h=>?_,λp hp=>qG (show p∈([]:List (Addr×Obj)) from hp) (by simp),e0.hok.kept hk,?_⟩
 ·exact name_of_addr x.apart (Xi h1) (Xi h2)
 ·have hy:scope.names.lookup y=some .cell\/scope.names.lookup y=some .free:=hy;rcases hy with hy|hy
  ·exact Ey hy
  ·exact qG rfl (S.nofree _ (Xi hy))
 ·exact X7 (x.above y c (Xi h))
 ·have hi:i<vs.length:=by
   unfold Ck at h2
   by_cases hi:i<vs.length
   ·exact hi
   ·rw[List.getElem?_append_right (by simpa using hi)]at h2;rw[YZ]at h2
    split at h2<;>cases h2
  have ha:vs[i]?=some v:=by
   unfold Ck at h2;rw[List.getElem?_append_left (by simpa using hi),List.getElem?_map]at h2;cases e:vs[i]? with
   |none=>rw[e]at h2;cases h2
   |some a=>rw[e]at h2;cases h2;rfl
  obtain⟨u,hu,rv⟩:=r.get ha
  have hp:ps[i]?=some y:=by rw[<-S.pre,Y4 (by lia)];exact h1
  have ndP:ps.Nodup:=by rw[<-S.pre];exact S.nd.sublist (List.take_sublist _ _)
  refine⟨u,rv,?_⟩;rcases S.par y (Wy hp) with k|k
  ·exact .inl ⟨k,FQ ndP hp hu k⟩
  ·obtain⟨c,e⟩:=Ey (n:=s.heap.objs.size+1) k;refine .inr ⟨.inl k,c,e,?_⟩;have q:=x.cell y c e;rw[FR ndP hp hu (by show scope.names.lookup y≠_;rw[k];decide)]at q;exact q
 ·exact e0.hok.fresh (X7 (x.above y c (Xi h)))
 ·unfold Ck;show _=N.length;rw[W1,Wq,List.length_replicate];lia
variable{name:Str}{params:Arguments}{doc cdv oc:Value}{an od:Option Addr}
theorem Qw{P:Program}{w:World}{K:qJ}{mg:Str->Option Value}{base:Heap}{k:Nat}{dV kV pm ct:Value}
  {osl:Array (Option Value)} {N ps:List Str} {sp:Sp} (lk:K.lookup f=some ⟨oc,od,.func (PySem.W.fnOf name qual params body scope dV kV doc pm an cdv ct),osl⟩) (hcd:PySem.W.codeIn K cdv qual=true) (S:AK N ps scope)
  (len:∀vs H Q E,sp vs H Q E->vs.length=ps.length)
  (hbody:∀(A:Around) (outer:List Env) (s:Shared) (H:Hp) (vs:List V) (Q:VK) (E:XK),Bn k (A.deeper (envOfC qual scope s.heap.objs.size f cdv))->sp vs H Q E ->
   ∃t,Fm (DL CX P w K mg base N qual scope f cdv A outer s H E) body t/\t {nx:=λ_ H'=>Q .non H',rt:=Q} (Ck N vs) H):
  EY P w K mg base CX (k+1) f (PySem.W.fnOf name qual params body scope dV kV doc pm an cdv ct) ps sp:=by
 refine⟨len,λA outer s H args us vs Q E hr e0 hb r hsp=>?_⟩;have hl:=len _ _ _ _ hsp;have KX:K.In s.heap:=e0.mod.kin.keeps λb o e=>(e0.bs b o e).1
 have lim:s.heap.NoLimit:=e0.mod.nolimit.keeps λb o e=>(e0.bs b o e).1
 have hkind:∀y∈ps.zip us,scope.names.lookup y.1=some .local\/(scope.names.lookup y.1=some .cell/\((cellsFrom (s.heap.objs.size+1) scope.names []).lookup y.1).isSome=true):=λ⟨n,v⟩ hy=>by
  rcases S.par n (Y7 hy).1 with q|q
  ·exact .inl q
  ·exact .inr ⟨q,ZE _ _ _ (.inl q)⟩
 refine codeAny_call_function hr.depth (KX _ _ lk) rfl S.co S.gen rfl (PySem.W.codeRec_of KX hcd) (hb _ _ _ _ ?_);refine wpAny_newFunctionEnv_cells S.kind hkind λenv he s1 x=>?_;subst he;refine⟨lim.keeps x.toInCall.keep,codeAny_func ?_⟩;obtain⟨t,ht,hq⟩:=hbody A outer s H vs Q E (hr.deeper _) hsp;have I:AU (DL CX P w K mg base N qual scope f cdv A outer s H E) [] (Ck N vs) H s1:=Mx S hr.hd e0 hl r x;refine wpAny_mono (ht [] s1 (Ck N vs) H _ I hq) (λfl s' hs=>?_) λe s' hs=>hs
 have fin:∀{σ':St} {H':Hp} {v:V} {u:Value},AU (DL CX P w K mg base N qual scope f cdv A outer s H E) [] σ' H' s'->An v u->Q v H'->CE outer P w H s Q u s':=
  λ{σ' H' v u} J rv q=>⟨v,H',J.os,J.bare,J.base,J.hok,rv,q⟩
 cases fl with
 |ret u =>
  obtain⟨v,σ',H',J,rv,q⟩:=hs;exact fin J rv q
 |next =>
  obtain⟨σ',H',J,q⟩:=hs;exact fin (v:=V.non) (u:=Value.none) J rfl q
 |brk =>
  obtain⟨_,_,_,q⟩:=hs;exact False.elim q
 |cont =>
  obtain⟨_,_,_,q⟩:=hs;exact False.elim q
section
variable{p pos:Pos}{e:Expr}{t:TA}{id T:String}{r:List V->Hp->VK->Prop}
def T1(r:List V->Hp->VK->Prop)(t:TA):TE:=λσ H Q=>t σ H λvs H1=>r vs H1 Q
theorem Aa(hc:Ds X (.builtin id) r)(hg:Gl X x)(hm:X.mg x=none)(hv:bootBuiltins x=some (.builtin id))(ha:PA X (e::es) t)(hn:x≠"__name__":=by decide)(hdb:(x==("__debug__":Str))=false:=by decide)
  (he:starEach (e::es) X.env=(false,eval e X.env)::starEach es X.env:=by rfl) (hpl:(backTo pos (starEach es X.env)).any (·.1)=false:=by rfl):PE X (.Call (.Name x p) (e::es) [] pos) (T1 r t):=by
 intro pins s σ H Q I h;refine wpAny_Call_Name_kw (CP I hg hm hv ?_ hn hdb);exact PyProof.Rows.callWith_builtin1 (BU (ha pos pins s σ H _ I h) λus s1 ⟨vs,H1,I1,r1,q1⟩=>hc pins s1 σ H1 vs us Q I1 r1 q1) he hpl
theorem CQ(hc:Ds X (.type T) r)(hg:Gl X x)(hm:X.mg x=none)(hv:bootBuiltins x=some (.type T))(ha:PA X (e::es) t)(hn:x≠"__name__":=by decide)(hdb:(x==("__debug__":Str))=false:=by decide)
  (he:starEach (e::es) X.env=(false,eval e X.env)::starEach es X.env:=by rfl) (hpl:(backTo pos (starEach es X.env)).any (·.1)=false:=by rfl):PE X (.Call (.Name x p) (e::es) [] pos) (T1 r t):=by
 intro pins s σ H Q I h;refine wpAny_Call_Name_kw (CP I hg hm hv ?_ hn hdb);exact Xb (BU (ha pos pins s σ H _ I h) λus s1 ⟨vs,H1,I1,r1,q1⟩=>hc pins s1 σ H1 vs us Q I1 r1 q1) he hpl
end
end L2
namespace HT
open PySem PyProof.Rows
section
variable{prog:Program}{w:World}{A:Around}{E:Value->Shared->Prop}{s:Shared}
noncomputable def JW(n d:Nat):Option Int->Nat
 |none=>d
 |some v=>if v<0 then (v+(n:Int)).toNat else min v.toNat n
end
end HT
namespace L2
open PySem PySem.Spec PyProof.Rows
variable{H:Hp}{X:Cx}{b:Addr}{es:List Expr}{j t':Nat}{name:Str}{pins:List (Addr×Obj)}{s:Shared}{te:TE}{us:List Value}{xs:List V}{α:Type}{σ:St}
abbrev TO:=St->Hp->(Option Int->Hp->Prop)->Prop
def PO(X:Cx)(e:Option Expr)(t:TO):Prop:=
 ∀(pins:List (Addr×Obj)) (s:Shared) (σ:St) (H:Hp) (Q:Option Int->Hp->Prop),AU X pins σ H s->t σ H Q ->
  wpAny (model X.prog X.w) X.A (evalPart e X.env) (λu s'=>∃o H',AU X pins σ H' s'/\IsPart u o/\Q o H') X.xe s
def F7:TO:=λ_ H Q=>Q none H
def Qx(t:TE):TO:=λσ H Q=>t σ H λx H1=>∃i,x=.int i/\Q (some i) H1
theorem Dd{ns:List Int}:∀{us:List Value},Al (ns.map V.int) us->IntsAre us ns:=by
 induction ns with
 |nil=>intro us r;rw[Y5]at r;cases r;exact .nil
 |cons n ns ih =>
  intro us r;rw[Xt]at r;cases r with
  |cons r1 r2 =>
   obtain⟨t,e⟩:=r1;subst e;exact .cons n t (ih r2)
section
variable{e:Expr}{lo hi:Option Expr}{tl th:TO}{pos p2:Pos}
theorem Ez:PO X none F7:=by intro pins s σ H Q I h;rw[evalPart_none];exact qD ⟨none,H,I,.none,h⟩
theorem E1(h:PE X e te):PO X (some e) (Qx te):=by intro pins s σ H Q I hw;rw[evalPart_some];refine BU (h pins s σ H _ I hw) λu s1 z9=>?_;obtain⟨x,H1,I1,r1,q1⟩:=z9;obtain⟨i,rfl,q⟩:=q1;obtain⟨t,rfl⟩:=r1;exact⟨some i,H1,I1,.int i t,q⟩
def Wg(X:Cx)(r:V->Option Int->Option Int->Hp->VK->Prop):Prop:=
 ∀(pins:List (Addr×Obj)) (s:Shared) (σ:St) (H:Hp) (x:V) (v vl vu:Value) (lo hi:Option Int) (sl:Addr) (Q:VK),AU X pins σ H s->An x v->s.heap.IsSliceOf sl vl vu .none->IsPart vl lo->IsPart vu hi->r x lo hi H Q ->
  ∃T id,typeLookup (.type T) "__getitem__"=pure (some (.builtin id))/\s.TypeIs v T/\wpAny (model X.prog X.w) X.A (getItem v (.ref sl)) (EP X pins σ Q) X.xe s
def Wh(r:V->Option Int->Option Int->Hp->VK->Prop)(te:TE)(tl th:TO):TE:=λσ H Q=>te σ H λx H1=>tl σ H1 λl H2=>th σ H2 λu H3=>r x l u H3 Q
theorem D4{r:V->Option Int->Option Int->Hp->VK->Prop}(hr:Wg X r)(he:PE X e te)(hl:PO X lo tl)(hu:PO X hi th):PE X (.Subscript e (.Slice lo hi none p2) pos) (Wh r te tl th):=by
 intro pins s σ H Q I h;refine Subscript_ (BU (he pins s σ H _ I h) λv s1 z9=>?_);obtain⟨x,H1,I1,r1,q1⟩:=z9;refine wpAny_Slice (BU (hl pins s1 σ H1 _ I1 q1) λvl s2 ⟨l,H2,I2,pl,q2⟩=>BU (hu pins s2 σ H2 _ I2 q2) λvu s3 z9=>?_);obtain⟨u,H3,I3,pu,q3⟩:=z9;rw[evalPart_none];refine qD ?_;have I4:AU X pins σ H3 {s3 with heap:=s3.heap.push {cls:=.type "slice",data:=.fields #[vl,vu,.none]}}:=I3.kept (t':=s3.toks) λb ob q=>Wu _ q
 obtain⟨T,id,hT,ht,hg⟩:=hr pins {s3 with heap:=s3.heap.push {cls:=.type "slice",data:=.fields #[vl,vu,.none]}} σ H3 x v vl vu l u s3.heap.objs.size Q I4 r1 (Heap.IsSliceOf.new ..) pl pu q3;show wpAny (model X.prog X.w) X.A (subscriptTail e (.Slice lo hi none p2) v (.ref s3.heap.objs.size)) (EP X pins σ Q) X.xe {s3 with heap:=s3.heap.push {cls:=.type "slice",data:=.fields #[vl,vu,.none]}};exact tail_any (ops:=[.ref s3.heap.objs.size,v]) ht hT hg (by with_unfolding_all rfl)
noncomputable def GY(xs:List V)(lo hi:Option Int):List V:=(xs.drop (HT.JW xs.length 0 lo)).take (HT.JW xs.length xs.length hi-HT.JW xs.length 0 lo)
theorem Jg(xs:List V)(lo hi:Option Int):(GY xs lo hi).length<=xs.length:=by unfold GY;rw[XR,YI];lia
end
noncomputable def K7(n:Nat)(i:Int):Option Nat:=if 0<=i then (if i<n then some i.toNat else none) else if -(n:Int)<=i then some (i+n).toNat else none
noncomputable def Ia{α:Type}(xs:List α)(i:Int):Option α:=(K7 xs.length i).bind λj=>xs[j]?
theorem L7{n:Nat}{i:Int}(h:K7 n i=some j):seqIndex? i n=some j/\j<n/\-(n:Int)<=i/\i<n:=by
 unfold K7 at h
 by_cases h0:0<=i
 ·rw[qF h0]at h
  by_cases h1:i<n
  ·rw[qF h1]at h;have e:i.toNat=j:=Option.some.inj h;exact⟨by rw[seqIndex_of h0 h1,e],by lia,by lia,h1⟩
  ·rw[qE h1]at h;cases h
 ·rw[qE h0]at h
  by_cases h1:-(n:Int)<=i
  ·rw[qF h1]at h;have e:(i+n).toNat=j:=Option.some.inj h;exact⟨by rw[seqIndex_neg (by lia) h1,e],by lia,h1,by lia⟩
  ·rw[qE h1]at h;cases h
theorem L8{xs:List α}{i:Int}{v:α}(h:Ia xs i=some v):∃j,seqIndex? i xs.length=some j/\xs[j]?=some v/\j<xs.length/\-(xs.length:Int)<=i/\i<xs.length:=by
 unfold Ia at h;cases e:K7 xs.length i with
 |none=>rw[e]at h;cases h
 |some j =>
  rw[e]at h;obtain⟨h1,h2,h3,h4⟩:=L7 e;exact⟨j,h1,h,h2,h3,h4⟩
theorem Cf{xs:List α}{v:α}(h:xs[j]?=some v):Ia xs (j:Int)=some v:=by
 have hj:j<xs.length:=(Ws.mp h).1
 have e:K7 xs.length (j:Int)=some j:=by unfold K7;rw[qF (by lia),qF (by lia)];simp
 unfold Ia;rw[e];exact h
def Ps(b:Expr):Prop:=∀o i,subscripted b false o i=operate [o,i] (getItem o i)
def T3(X:Cx)(r:R2):Prop:=
 ∀(value slice:Expr) (pins:List (Addr×Obj)) (s:Shared) (σ:St) (H:Hp) (x y:V) (v u:Value) (Q:VK),AU X pins σ H s->An x v->An y u->r x y H Q ->
  subscripted slice false v u=operate [v,u] (getItem v u)->wpAny (model X.prog X.w) X.A (subscriptTail value slice v u) (EP X pins σ Q) X.xe s
def Vk(X:Cx)(id:String)(r:V->List V->Hp->VK->Prop):Prop:=
 ∀(pins:List (Addr×Obj)) (s:Shared) (σ:St) (H:Hp) (x:V) (xs:List V) (v:Value) (us:List Value) (Q:VK),AU X pins σ H s->An x v->Al xs us->r x xs H Q ->
  wpAny (model X.prog X.w) X.A (call (.builtin id) (v::us)) (EP X pins σ Q) X.xe s
variable{p:Addr}{ys:List V}{its:List Value}{T:String}
section
variable{a b:Expr}{ta tb:TE}{pos:Pos}
theorem AR{r:R2}(hr:T3 X r)(ha:PE X a ta)(hb:PE X b tb)(hs:Ps b):PE X (.Subscript a b pos) (Nn r ta tb):=by intro pins s σ H Q I h;exact Subscript_ (Rf ha hb I h λv u s2 x y H2 I2 rx ry q=>hr a b pins s2 σ H2 x y v u Q I2 rx ry q (hs _ _))
def Rn(K:qJ):R2:=λx y H Q=>∃p xs i v,x=.ref p/\y=.int i/\Ab K H p xs/\Ia xs i=some v/\Q v H
def T4(K:qJ):R2:=λx y H Q=>∃p xs i v,x=.ref p/\y=.int i/\BL K H p xs/\Ia xs i=some v/\Q v H
theorem A9:T3 X (Rn X.K):=by
 intro value slice pins s σ H x y v u Q I rx ry h hs;obtain⟨p,xs,i,z,rfl,rfl,hq,he,q⟩:=h;cases rx;obtain⟨t,rfl⟩:=ry;obtain⟨its,r,pl,hz⟩:=I.list hq;obtain⟨j,h1,h2,h3,h4,h5⟩:=L8 he;obtain⟨w,ew,rw'⟩:=r.get h2;have hl:=r.length;have hn:=IZ;have fin:EP X pins σ Q w s:=⟨z,H,I,rw',q⟩
 by_cases h0:0<=i
 ·have hj:i.toNat=j:=by
   rw[seqIndex_of h0 h5]at h1;exact Option.some.inj h1
  exact item_listR pl.isList h0 (by lia) (by rw[hj];simpa using ew) fin hs
 ·have hj:(i+(its.toArray.size:Int)).toNat=j:=by
   rw[seqIndex_neg (by lia) h4]at h1;rw[Xc,<-hl];exact Option.some.inj h1
  exact subscriptTail_builtinR (x:=w) pl.isList.typeIs slot_list_getitem.lookup
   (wpAny_getItem_list_neg (Q:=λr s'=>r=w/\EP X pins σ Q r s') pl.isList (by lia) (by rw[List.size_toArray]<;>lia) (by lia) (by rw[hj];simpa using ew) ⟨rfl,fin⟩) hs
theorem AY:T3 X (T4 X.K):=by
 intro value slice pins s σ H x y v u Q I rx ry h hs;obtain⟨p,xs,i,z,rfl,rfl,hq,he,q⟩:=h;cases rx;obtain⟨t,rfl⟩:=ry;obtain⟨its,r,pl,hz⟩:=I.tuple hq;obtain⟨j,h1,h2,h3,h4,h5⟩:=L8 he;obtain⟨w,ew,rw'⟩:=r.get h2;have hl:=r.length;have hn:=IZ;have fin:EP X pins σ Q w s:=⟨z,H,I,rw',q⟩
 exact subscriptTail_builtinR (x:=w) pl.typeIs slot_tuple_getitem.lookup
  (getItem_tuple (j:=j) (Q:=λr s'=>r=w/\EP X pins σ Q r s') pl (by lia) (by lia) (by rw[List.size_toArray,<-hl];exact h1) (by simpa using ew) ⟨rfl,fin⟩) hs
theorem K8(its:List Value)(n j:Nat)(u:Value):Obj.mapSeq (·.setIfInBounds j u) {cls:=.type "list",data:=.seq its.toArray n}={cls:=.type "list",data:=.seq (its.set j u).toArray n}:=by simp[Obj.mapSeq]
theorem AU.lst(I:AU X pins σ H s)(h:H p=some (.lst xs)):
  ∃(its:List Value) (n:Nat),Al xs its/\s.heap.get? p=some {cls:=.type "list",data:=.seq its.toArray n}/\xs.length<=sizeLine:=by
 obtain⟨z,its,n,r,e⟩:=I.hok p _ h;exact⟨its,n,r,e,z⟩
theorem AU.lstUpd{its':List Value}{n n':Nat}{f:Obj->Obj}(I:AU X pins σ H s)(h:H p=some (.lst xs))
  (ho:s.heap.get? p=some {cls:=.type "list",data:=.seq its.toArray n}) (hf:f {cls:=.type "list",data:=.seq its.toArray n}={cls:=.type "list",data:=.seq its'.toArray n'}) (r:Al ys its') (hz:ys.length<=sizeLine) (t:Nat):
  AU X pins σ (Ae H p (.lst ys)) {s with heap:=s.heap.update p f,toks:=t}:=by
 have e:(s.heap.update p f).get? p=some {cls:=.type "list",data:=.seq its'.toArray n'}:=by rw[YT f ho (by rw[hf]<;>rfl),hf]
 refine I.write (x:=p) (e:=p) (by rw[h];trivial) (.inl rfl) (λb u hb q=>(YQ _ _ (Ne.symm hb)).trans q) ⟨_,e⟩ ?_;exact⟨hz,its',n',r,e⟩
def T5:V->V->V->Hp->(Hp->Prop)->Prop:=λo i v H Q=>∃p xs k j,o=.ref p/\i=.int k/\H p=some (.lst xs)/\K7 xs.length k=some j/\Q (Ae H p (.lst (xs.set j v)))
theorem GZ:Ts X T5:=by
 intro pins s σ H o i v ov iv u Q I ro ri rv h;obtain⟨p,xs,k,j,rfl,rfl,hp,hj,q⟩:=h;cases ro;obtain⟨t,rfl⟩:=ri;obtain⟨its,n,r,ho,hz⟩:=I.lst hp;obtain⟨h1,h2,h3,h4⟩:=L7 hj;have hl:=r.length;have hn:=IZ
 have I':AU X pins σ (Ae H p (.lst (xs.set j v))) {s with heap:=s.heap.update p (Obj.mapSeq (·.setIfInBounds j u))}:=
  I.lstUpd hp ho (K8 its n j u) (r.set rv j) (by rw[YM];exact hz) s.toks
 by_cases h0:0<=k
 ·have hk:k.toNat=j:=by
   rw[seqIndex_of h0 h4]at h1;exact Option.some.inj h1
  exact PySem.W.ki_setAt ho h0 (by lia) (by rw[Xc,<-hl];exact h4) (by rw[hk];exact⟨_,I',q⟩)
 ·have hk:(k+(its.toArray.size:Int)).toNat=j:=by
   rw[seqIndex_neg (by lia) h3]at h1;rw[Xc,<-hl];exact Option.some.inj h1
  exact PySem.W.ki_setBack ho (by lia) (by rw[Xc,<-hl];exact h3) (by lia) (by rw[hk];exact⟨_,I',q⟩)
theorem Ic(lo hi:Option Int)(n:Nat):(sliceBounds lo hi none n).1=((HT.JW n 0 lo:Nat):Int)/\(sliceBounds lo hi none n).2.1=((HT.JW n n hi:Nat):Int)/\(sliceBounds lo hi none n).2.2=1:=by
 refine⟨?_,?_,rfl⟩
 ·cases lo with
  |none=>simp[sliceBounds,HT.JW]
  |some i =>
   simp only[sliceBounds,HT.JW,Option.getD_none,show (1:Int)>0 by decide,if_true]
   by_cases h:i<0
   ·simp only[h,if_true]<;>lia
   ·simp only[h,if_false]<;>lia
 ·cases hi with
  |none=>simp[sliceBounds,HT.JW]
  |some i =>
   simp only[sliceBounds,HT.JW,Option.getD_none,show (1:Int)>0 by decide,if_true]
   by_cases h:i<0
   ·simp only[h,if_true]<;>lia
   ·simp only[h,if_false]<;>lia
theorem Ho(its:List Value)(lo hi:Option Int):slicePick its.toArray lo hi none=((its.drop (HT.JW its.length 0 lo)).take (HT.JW its.length its.length hi-HT.JW its.length 0 lo)).toArray:=by obtain⟨h1,h2,h3⟩:=Ic lo hi its.toArray.size;unfold slicePick;rw[h1,h2,h3];simp only[sliceRange_one,pick_run,List.size_toArray]<;>rfl
def T6(K:qJ):V->Option Int->Option Int->Hp->VK->Prop:=λx lo hi H Q=>∃a xs,x=.ref a/\Ab K H a xs/\∀p,H p=none->Q (.ref p) (Ae H p (.lst (GY xs lo hi)))
theorem E2:Wg X (T6 X.K):=by intro pins s σ H x v vl vu lo hi sl Q I rx hs pl pu h;obtain⟨a,xs,rfl,hx,q⟩:=h;cases rx;obtain⟨its,r,ht,hz⟩:=I.list hx;have hlen:=r.length;refine⟨"list",_,slot_list_getitem.lookup,ht.isList.typeIs,?_⟩;refine wpAny_getItem_list_slice ht.isList hs pl pu .none (by simp) ?_ (by rw[List.size_toArray]<;>lia);rw[Ho,<-hlen];refine⟨.ref s.heap.objs.size,_,I.laid (t':=s.toks) (o:=.lst (GY xs lo hi)) (λb ob q=>Wu _ q) (Wv _) ?_,rfl,q _ (I.hok.fresh (Wv _))⟩;exact⟨Xa (Jg xs lo hi) hz,_,0,(r.drop (HT.JW xs.length 0 lo)).take (HT.JW xs.length xs.length hi-HT.JW xs.length 0 lo),W9 _ rfl⟩
theorem AO:Ds X (.builtin "len") (λxs H Q=>∃p ys,xs=[.ref p]/\(Ab X.K H p ys\/BL X.K H p ys)/\Q (.int ys.length) H):=by
 intro pins s σ H xs us Q I r h;obtain⟨p,ys,rfl,hq,q⟩:=h;obtain⟨u,rfl,rx⟩:=Eb r;cases rx;have hn:=IZ;rcases hq with hq|hq
 ·obtain⟨its,r',pl,hz⟩:=I.list hq;have hlen:=r'.length;exact Calls.call_len_list pl.isList (by simp only[List.size_toArray]<;>lia) ⟨.int ys.length,H,I.tok _,⟨s.toks+1,by rw[List.size_toArray,hlen]⟩,q⟩
 ·obtain⟨its,r',pl,hz⟩:=I.tuple hq;have hlen:=r'.length;exact len_tuple pl (by simp only[List.size_toArray]<;>lia) ⟨.int ys.length,H,I.tok _,⟨s.toks+1,by rw[List.size_toArray,hlen]⟩,q⟩
theorem De:Ds X (.type "list") (λxs H Q=>∃p ys,xs=[.ref p]/\(Ab X.K H p ys\/BL X.K H p ys)/\∀l,H l=none->Q (.ref l) (Ae H l (.lst ys))):=by
 intro pins s σ H xs us Q I r h;obtain⟨p,ys,rfl,hq,q⟩:=h;obtain⟨u,rfl,rx⟩:=Eb r;cases rx
 have fin:∀(its:List Value),Al ys its->ys.length<=sizeLine->∀(h':Heap) (c':Nat),(∀b o',s.heap.get? b=some o'->h'.get? b=some o') ->
   h'.get? s.heap.objs.size=some {cls:=.type "list",dict:=none,data:=.seq its.toArray c',slots:=#[]}->EP X pins σ Q (.ref s.heap.objs.size) {s with heap:=h'}:=λits r' hz h' c' kp e =>
  ⟨.ref s.heap.objs.size,_,I.laid (t':=s.toks) kp (Wv _) (show Ao X.prog X.w _ h' _ (.lst ys) from⟨hz,its,c',r',e⟩),rfl,q _ (I.hok.fresh (Wv _))⟩
 rcases hq with hq|hq
 ·obtain⟨its,r',pl,hz⟩:=I.list hq;have hlen:=r'.length;obtain⟨o,ho,hc,n,hd⟩:=pl.isList;exact call_list_seq p (.inl rfl) ho hc hd (λh' c' kp e=>fin its r' hz h' c' kp e) (by simp only[List.size_toArray]<;>lia)
 ·obtain⟨its,r',pl,hz⟩:=I.tuple hq;have hlen:=r'.length;obtain⟨o,ho,hc,n,hd⟩:=pl;exact call_list_seq p (.inr rfl) ho hc hd (λh' c' kp e=>fin its r' hz h' c' kp e) (by simp only[List.size_toArray]<;>lia)
theorem DM:Ds X (.type "tuple") (λxs H Q=>∃p ys,xs=[.ref p]/\((Ab X.K H p ys/\∀l,H l=none->Q (.ref l) (Ae H l (.tup ys)))\/(BL X.K H p ys/\Q (.ref p) H))):=by
 intro pins s σ H xs us Q I r h;obtain⟨p,ys,rfl,h⟩:=h;obtain⟨u,rfl,rx⟩:=Eb r;cases rx;rcases h with⟨hq,q⟩|⟨hq,q⟩
 ·obtain⟨its,r',pl,hz⟩:=I.list hq;have hlen:=r'.length;refine call_tuple_list pl.isList (λh' kp=>?_) (by simp only[List.size_toArray]<;>lia);have I1:AU X pins σ H {s with heap:=h'}:=I.kept (t':=s.toks) kp
  have I2:AU X pins σ (Ae H h'.objs.size (.tup ys)) {s with heap:=h'.push {cls:=.type "tuple",data:=.seq its.toArray}}:=
   I1.laid (t':=s.toks) (λb o e=>Wu _ e) (Wv _) (show Ao X.prog X.w _ _ _ (.tup ys) from⟨hz,its,r',IsTup.new _ _⟩)
  exact⟨.ref h'.objs.size,_,I2,rfl,q _ (I1.hok.fresh (Wv _))⟩
 ·obtain⟨its,r',pl,hz⟩:=I.tuple hq;exact call_tuple_same pl ⟨.ref p,H,I,rfl,q⟩
def Vl(K:qJ)(T:String)(x:V)(H:Hp):Prop:=match x with
 |.str _=>T="str"
 |.int _=>T="int"
 |.ref p=>(T="list"/\∃xs,Ab K H p xs)\/(T="tuple"/\∃o,K.lookup p=some o/\o.cls=.type "tuple"/\o.dict=none) \/
   (T="dict"/\((∃kvs,H p=some (.dK kvs))\/∃kvs,H p=some (.dT kvs)))\/(T="set"/\∃S n,H p=some (.set S n))
 |_=>False
theorem N0{x:V}{v:Value}(I:AU X pins σ H s)(r:An x v)(ty:Vl X.K T x H):
  s.TypeIs v T/\∀a,v=.ref a->∃ob,s.heap.get? a=some ob/\ob.dict=none:=by
 cases x with
 |str z =>
  obtain⟨t,rfl⟩:=r;cases (show T="str" from ty);exact⟨typeIs_str s z t,λ_ e=>nomatch e⟩
 |int i =>
  obtain⟨t,rfl⟩:=r;cases (show T="int" from ty);exact⟨typeIs_int s i t,λ_ e=>nomatch e⟩
 |ref p =>
  cases r;rcases ty with⟨rfl,xs,hq⟩|⟨rfl,o,hk,hc,hd⟩|⟨rfl,hk⟩|⟨rfl,S,n,hk⟩
  ·obtain⟨its,_,pl,_⟩:=I.list hq;refine⟨pl.isList.typeIs,λa e=>?_⟩;cases e;obtain⟨o,n,e,c,hd,_⟩:=pl;exact⟨o,e,hd⟩
  ·refine⟨⟨o,I.kIn p o hk,hc⟩,λa e=>?_⟩;cases e;exact⟨o,I.kIn _ o hk,hd⟩
  ·have z:∃o,s.heap.get? p=some o/\o.ExactDict:=by
    rcases hk with⟨kvs,hk⟩|⟨kvs,hk⟩
    ·obtain⟨_,_,_,_,o,_,_,e,ex,_⟩:=I.hok p _ hk;exact⟨o,e,ex⟩
    ·obtain⟨_,_,_,_,o,_,_,e,ex,_⟩:=I.hok p _ hk;exact⟨o,e,ex⟩
   obtain⟨o,e,ex⟩:=z;refine⟨⟨o,e,ex.1⟩,λa e2=>?_⟩;cases e2;exact⟨o,e,ex.2.1⟩
  ·obtain⟨o,_,_,_,e,ex,_⟩:=I.hok p _ hk;refine⟨⟨o,e,ex.1⟩,λa e2=>?_⟩;cases e2;exact⟨o,e,ex.2.1⟩
 |_=>exact False.elim ty
def V4(K:qJ)(T:String)(r:V->List V->Hp->VK->Prop)(to:TE):TE:=λσ H Q=>to σ H λx H1=>Vl K T x H1/\r x [] H1 Q
def Wi(K:qJ)(T:String)(r:V->List V->Hp->VK->Prop)(to:TE)(t:TA):TE:=λσ H Q=>to σ H λx H1=>Vl K T x H1/\t σ H1 λxs H2=>r x xs H2 Q
variable{o e:Expr}{to:TE}{t:TA}{apos cpos:Pos}{id:String}{r:V->List V->Hp->VK->Prop}
theorem N4(pa:PlainAttrs T)(slot:Slot T name id)(hty:typeOf (.builtin id)=pure (.type "method_descriptor"))(hm:Vk X id r)(ho:PE X o to)
  (hbase:attributeBase o name X.env (eval o X.env)=eval o X.env:=by rfl) (hline:(apos.endLine==cpos.line)=true:=by rfl):PE X (.Call (.Attribute o name apos) [] [] cpos) (V4 X.K T r to):=by
 intro pins s σ H Q I h;refine wpAny_Call_method0_late hbase hline (BU (ho pins s σ H _ I h) λv s1 z9=>?_);obtain⟨x,H1,I1,r1,ty,q1⟩:=z9;obtain⟨h1,h2⟩:=N0 I1 r1 ty;exact⟨T,id,pa,slot,hty,h1,h2,Calls.callWith_builtin rfl (PySem.evalArgs_none (hm pins s1 σ H1 x [] v [] Q I1 r1 .nil q1))⟩
theorem CO(pa:PlainAttrs T)(slot:Slot T name id)(hty:typeOf (.builtin id)=pure (.type "method_descriptor"))(hm:Vk X id r)(ho:PE X o to)(ha:PA X (e::es) t)
  (hbase:attributeBase o name X.env (eval o X.env)=eval o X.env:=by rfl)
  (hfew:((backTo cpos (starEach (e::es) X.env)).all (λx=>!x.1)&&(backToKw cpos (keywordEach [] X.env)).all (λx=>x.1.isSome)
   && decide ((e::es).length+([]:List Keyword).length+(if ([]:List Keyword).isEmpty then 0 else 1)<30))=true:=by rfl)
  (hline:(apos.endLine==cpos.line)=true:=by rfl) (hs:starEach (e::es) X.env=(false,eval e X.env)::starEach es X.env:=by rfl) (hplain:(backTo cpos (starEach es X.env)).any (·.1)=false:=by rfl):
  PE X (.Call (.Attribute o name apos) (e::es) [] cpos) (Wi X.K T r to t):=by
 intro pins s σ H Q I h;refine wpAny_Call_method_late hbase hfew hline rfl (BU (ho pins s σ H _ I h) λv s1 z9=>?_);obtain⟨x,H1,I1,r1,ty,q1⟩:=z9;obtain⟨h1,h2⟩:=N0 I1 r1 ty;refine⟨T,id,pa,slot,hty,h1,h2,?_⟩;have hA:=ha cpos pins s1 σ H1 _ I1 q1;rw[hs]at hA⊢;refine Calls.callWith_builtin (by show (false||(backTo cpos (starEach es X.env)).any (·.1))=false;rw[hplain]<;>rfl) (Calls.evalArgs_plain ?_);exact BU hA λus s2 ⟨vs,H2,I2,r2,q2⟩=>hm pins s2 σ H2 x vs v us Q I2 r1 r2 q2
end
def Vm(X:Cx)(id:String)(r:V->List V->Hp->VK->Prop):Prop:=
 ∀(pins:List (Addr×Obj)) (s:Shared) (σ:St) (H:Hp) (x:V) (xs:List V) (v:Value) (us:List Value) (Q:VK),AU X pins σ H s->An x v->Al xs us->r x xs H Q ->
  wpAny (model X.prog X.w) X.A (call (.builtin id) (v::us)) (EP X pins σ Q) X.xe s
theorem Al.one:∀{x:V} {us:List Value},Al [x] us->∃u,us=[u]/\An x u
 |_,_,.cons r .nil=>⟨_,rfl,r⟩
theorem Al.zero:∀{us:List Value},Al [] us->us=[]
 |_,.nil=>rfl
theorem Al.dropLast(h:Al xs us):Al xs.dropLast us.dropLast:=by
 induction h with
 |nil=>exact .nil
 |cons r t ih =>
  cases t with
  |nil=>exact .nil
  |cons q t'=>exact .cons r ih
theorem Al.reverse(h:Al xs us):Al xs.reverse us.reverse:=by
 induction h with
 |nil=>exact .nil
 |cons r t ih=>rw[ZI,ZI];exact Al.append ih (.cons r .nil)
theorem Al.rep(h:Al xs us):∀k:Nat,Al (List.replicate k xs).flatten (List.replicate k us).flatten
 |0=>.nil
 |k+1=>by rw[Xm,Xm,YB,YB];exact Al.append h (Al.rep h k)
theorem K9(l:List α):l.eraseIdx (l.length-1)=l.dropLast:=by
 induction l with
 |nil=>rfl
 |cons a r ih =>
  cases r with
  |nil=>rfl
  |cons b r =>
   have e:(a::b::r).length-1=((b::r).length-1)+1:=by have h1:(a::b::r).length=r.length+2:=rfl;have h2:(b::r).length=r.length+1:=rfl;lia
   rw[e,List.eraseIdx_cons_succ,ih]
   all_goals rfl
theorem ID(its:List Value):∀(k:Nat) (acc:List Value),
  List.foldl (λx1 x2=>x1++x2) acc.toArray (List.replicate k its.toArray)=(acc++(List.replicate k its).flatten).toArray
 |0,acc=>by simp
 |k+1,acc=>by
  have e:acc.toArray++its.toArray=(acc++its).toArray:=by simp
  have e2:(acc++its)++(List.replicate k its).flatten=acc++(List.replicate (k+1) its).flatten:=by rw[Xm,YB,XW]
  rw[<-e2,<-ID its k (acc++its),<-e,Xm,List.foldl_cons]
section
variable{l:Addr}{zs:List V}
theorem AU.lset{its':List Value}{n:Nat}{f:Array Value->Array Value}{t':Nat}(I:AU X pins σ H s)(hH:H l=some (.lst xs))
  (e:s.heap.get? l=some {cls:=.type "list",data:=.seq its.toArray n}) (hf:f its.toArray=its'.toArray) (hv:Al ys its') (hz:ys.length<=sizeLine):
  AU X pins σ (Ae H l (.lst ys)) {s with heap:=s.heap.update l (Obj.mapSeq f),toks:=t'}:=by
 have q:=PySem.IsL.update e f;rw[hf]at q;refine I.write (x:=l) (e:=l) (by rw[hH];exact trivial) (.inl rfl) (λb' u hb hu=>(YQ s.heap (Obj.mapSeq f) (Ne.symm hb)).trans hu) ⟨_,q⟩ ?_;exact⟨hz,its',_,hv,q⟩
theorem AU.lnew(I:AU X pins σ H s)(hv:Al ys its)(hz:ys.length<=sizeLine):
  AU X pins σ (Ae H s.heap.objs.size (.lst ys)) {s with heap:=s.heap.push {cls:=.type "list",data:=.seq its.toArray},toks:=t'}:=
 I.laid (λ_ _ q=>Wu _ q) (Wv _) ⟨hz,its,0,hv,W9 _ rfl⟩
theorem AU.fresh(I:AU X pins σ H s):H s.heap.objs.size=none:=I.hok.fresh (Wv _)
theorem AU.lstM(I:AU X pins σ H s)(hH:H l=some (.lst xs)):xs.length<=sizeLine/\∃(its:List Value) (n:Nat),Al xs its/\xs.length=its.length/\s.heap.get? l=some {cls:=.type "list",data:=.seq its.toArray n}:=by obtain⟨z,its,n,r,e⟩:=I.hok l _ hH;exact⟨z,its,n,r,r.length,e⟩
theorem Jh{n:Nat}(h:n<=sizeLine):Builtin.List.listTooLong n=false:=by unfold Builtin.List.listTooLong;exact qI (by lia)
end
def L9:V->List V->Hp->VK->Prop:=λx vs H Q=>∃l xs y,x=.ref l/\vs=[y]/\H l=some (.lst xs)/\xs.length<sizeLine/\Q .non (Ae H l (.lst (xs++[y])))
theorem BP:Vm X "list.append" L9:=by intro pins s σ H x vs v us Q I rx rv h;obtain⟨l,xs,y,rfl,rfl,hH,hz,q⟩:=h;cases rx;obtain⟨u,rfl,ru⟩:=rv.one;obtain⟨z,its,n,r,hl,e⟩:=I.lstM hH;refine call_meets F.slot_list_append ⟨_,e,rfl⟩ F.entry_list_append (F.args_list_append_2 _ _) (PySem.list_append l its.toArray n u (by rw[Xc];lia)) ⟨e,?_⟩;refine⟨.non,_,I.lset (its':=its++[u]) hH e (by simp) (r.append (.cons ru .nil)) ?_,rfl,q⟩;rw[W1,XM];lia
def Pu:V->List V->Hp->VK->Prop:=λx vs H Q=>∃l b xs zs,x=.ref l/\vs=[.ref b]/\H l=some (.lst xs)/\H b=some (.lst zs)/\xs.length+zs.length<=sizeLine/\Q .non (Ae H l (.lst (xs++zs)))
theorem IE:Vm X "list.extend" Pu:=by
 intro pins s σ H x vs v us Q I rx rv h;obtain⟨l,b,xs,zs,rfl,rfl,hH,hB,hz,q⟩:=h;cases rx;obtain⟨u,rfl,ru⟩:=rv.one;cases ru;obtain⟨z,its,n,r,hl,e⟩:=I.lstM hH;obtain⟨z2,its2,n2,r2,hl2,e2⟩:=I.lstM hB;have hsz:its.toArray.size+its2.toArray.size<=sizeLine:=by rw[Xc,Xc];lia
 have hlong:¬(!its.toArray.isEmpty&&Builtin.List.listTooLong (its.toArray.size+its2.toArray.size))=true:=by rw[Jh hsz,Bool.and_false];exact XG
 refine call_meets F.slot_list_extend ⟨_,e,rfl⟩ F.entry_list_extend (F.args_list_extend_2 _ _)
  (AutoSeq1.list_extend_list_list_0 l its.toArray n b its2.toArray n2 hlong (by rw[Xc];lia) (by lia)) ⟨e,e2,?_⟩
 refine⟨.non,_,I.lset (its':=its++its2) hH e (by simp) (r.append r2) ?_,rfl,q⟩;rw[W1];lia
def V5:V->List V->Hp->VK->Prop:=λx vs H Q=>∃l xs y,x=.ref l/\vs=[]/\H l=some (.lst xs)/\xs[xs.length-1]?=some y/\Q y (Ae H l (.lst xs.dropLast))
theorem Ro:Vm X "list.pop" V5:=by
 intro pins s σ H x vs v us Q I rx rv h;obtain⟨l,xs,y,rfl,rfl,hH,hy,q⟩:=h;cases rx;have hus:=rv.zero;subst hus;obtain⟨z,its,n,r,hl,e⟩:=I.lstM hH;obtain⟨u,hu,ru⟩:=r.get hy
 have hy':its.toArray[its.toArray.size-1]?=some u:=by show its.toArray[its.length-1]?=some u;rw[<-X3,<-hl];exact hu
 refine call_meets F.slot_list_pop ⟨_,e,rfl⟩ F.entry_list_pop (F.args_list_pop_1 _) (MeetsSeq.list_pop_last l its.toArray n u hy' (by rw[Xc];lia)) ⟨e,?_⟩;refine⟨y,_,I.lset (its':=its.dropLast) hH e ?_ r.dropLast ?_,ru,q⟩
 ·show its.toArray.eraseIdxIfInBounds (its.toArray.size-1)=its.dropLast.toArray;rw[Xc,List.eraseIdxIfInBounds_toArray,K9]
 ·rw[List.length_dropLast];lia
def Rp:V->List V->Hp->VK->Prop:=λx vs H Q=>∃l xs,x=.ref l/\vs=[]/\H l=some (.lst xs)/\Q .non (Ae H l (.lst []))
theorem N5:Vm X "list.clear" Rp:=by intro pins s σ H x vs v us Q I rx rv h;obtain⟨l,xs,rfl,rfl,hH,q⟩:=h;cases rx;have hus:=rv.zero;subst hus;obtain⟨z,its,n,r,hl,e⟩:=I.lstM hH;refine call_meets F.slot_list_clear ⟨_,e,rfl⟩ F.entry_list_clear (F.args_list_clear_1 _) (AutoSeq1.list_clear_list_0 l its.toArray n (by rw[Xc];lia)) ⟨e,?_⟩;exact⟨.non,_,I.lset (its':=[]) (ys:=[]) hH e rfl .nil (XO _),rfl,q⟩
def Rq:R2:=λx y H Q=>∃l k xs,x=.ref l/\y=.int k/\H l=some (.lst xs)/\-(2^63)<=k/\k<2^63/\xs.length*k.toNat<=sizeLine /\
 ∀p,H p=none->Q (.ref p) (Ae H p (.lst (List.replicate k.toNat xs).flatten))
theorem Pw(xs:List α)(k:Nat):(List.replicate k xs).flatten.length=k*xs.length:=by
 induction k with
 |zero=>simp
 |succ k ih=>rw[Xm,YB,W1,ih,Nat.succ_mul,Nat.add_comm]
theorem LB:Ev X (binaryOp .Mult) Rq:=by
 intro pins s σ H x y v u Q I rx ry h;obtain⟨l,k,xs,rfl,rfl,hH,h1,h2,hz,q⟩:=h;cases rx;obtain⟨t,rfl⟩:=ry;obtain⟨z,its,n,r,hl,e⟩:=I.lstM hH;have hlen:its.toArray.size*k.toNat<=sizeLine:=by rw[Xc,<-hl];exact hz
 have hcap:¬its.toArray.size*k.toNat>(2^63-1)/8:=by
  have:(sizeLine:Nat)<=(2^63-1)/8:=by decide
  lia
 have hfit:¬(!Builtin.List.listFitsIndex k)=true:=by rw[fitsIndex_both h1 h2];exact XG
 have hlong:¬Builtin.List.listTooLong (its.toArray.size*k.toNat)=true:=by rw[Jh hlen];exact XG
 have hnew:List.foldl (λx1 x2=>x1++x2) #[] (List.replicate (if its.toArray.isEmpty=true then 0 else k.toNat) its.toArray)=(List.replicate k.toNat its).flatten.toArray:=by
  have f0:∀m:Nat,List.foldl (λx1 x2=>x1++x2) #[] (List.replicate m its.toArray)=(List.replicate m its).flatten.toArray:=λm=>by have:=ID its m [];rw[ZU]at this;exact this
  rw[f0];cases its with
  |nil=>simp
  |cons a r'=>rw[qE (by simp)]
 refine wpAny_binaryOp_repeat_ref (T:="list") (U:="int") (by decide) ⟨_,e,rfl⟩ (λs'=>typeIs_int s' k t) noFill_list_mul F.fills_int_mul F.slot_int_rmul repeat_list F.slot_int_index.lookup
  (call_meets F.slot_int_rmul (typeIs_int s k t) F.entry_int_rmul (F.args_int_rmul_2 _ _) (int___rmul___int_list k t l its.toArray n)
   ⟨e,rfl,⟨_,e,rfl⟩,call_meets F.slot_list_mul ⟨_,e,rfl⟩ F.entry_list_mul (F.args_list_mul_2 _ _) (AutoListH.list___mul___list_int_3 l its.toArray n k t hfit hcap hlong) ⟨e,?_⟩⟩)
 rw[hnew];exact⟨.ref _,_,I.lnew (t':=s.toks) (r.rep k.toNat) (by rw[Pw,X4];exact hz),rfl,q _ I.fresh⟩
end L2
namespace Att
open PySem PySem.W PySem.Calls PyProof.Rows
theorem ints_of_wellAll{P:Params}{h:Heap}:∀(ns:List Int) (vs:List Value),WellAll P h vs (ns.map WData.int)->IntsAre vs ns:=by
 intro ns
 induction ns with
 |nil =>
  intro vs w;rw[Y5]at w;cases w;exact .nil
 |cons n ns ih =>
  intro vs w;rw[Xt]at w;cases w with
  |cons a b =>
   cases a;exact .cons _ _ (ih _ b)
theorem script_of{l:OpenLaw}{n:Nat}(hn:l.most=some n){P:Params}{h:Heap}{args:List WData}{vals:List Value}
  (hpre:l.row.toRowW.claim.pre args=true) (hwl:WellAll P h vals args):
  ∃a vs ns,vals=[Value.ref a]/\args=[WData.list (ns.map WData.int)]/\h.get? a=some {cls:=.type "list",data:=.seq vs.toArray}/\IntsAre vs ns/\ns.length<=n:=by
 have hsh:WShape.hasAll [] args [.list .int]=true:=(pre_splitW hpre).1;have hc:l.pre.holds [] {args:=args}=true:=(pre_splitW hpre).2;obtain⟨d,r,rfl,h1,h2⟩:=hasAllW_cons hsh;obtain rfl:=hasAllW_nil h2;obtain⟨xs,rfl,h3⟩:=hasW_list h1;obtain⟨ns,rfl⟩:=items_int h3
 have hlen:ns.length<=n:=by
  unfold OpenLaw.pre at hc
  have h4:(WTm.not (.lt (.lit (.int (n:Int))) (.len (.arg 0)))).holds [] {args:=[.list (ns.map .int)]}=true:=by have h4:=(holds_andW hc).1;rw[hn]at h4;exact h4
  have h5:=condW_of h4 (w_not (w_lt w_lit (w_len_list (w_arg rfl))));rw[Wq]at h5;refine Nat.le_of_not_lt λq=>?_;have q':(n:Int)<((ns.length:Nat):Int):=by lia
  first
   | (rw[qH q']at h5;exact qG h5 (by decide))
   | (simp at h5;lia)
 cases hwl with
 |cons w1 w2 =>
  cases w2;cases w1 with
  |list ho hall=>exact⟨_,_,ns,rfl,rfl,ho,ints_of_wellAll ns _ hall,hlen⟩
theorem post_true(l:OpenLaw)(args:List WData):l.row.toRowW.claim.post args (.bool true) args=true:=
 postW_of (r:=l.row.toRowW) (X:=(true==true))
  (show WShape.has [] (.bool true) .bool=true by first|rfl|decide|simp[WShape.has,WShape.arms,WShape.armsAll])
  (show (WTm.eq .res (.lit (.bool true))).value [] {args:=args,res:=some (.bool true),after:=args}=some (.bool (true==true)) from w_eq_bool (w_res rfl) w_lit) rfl
theorem attach_call{l:OpenLaw}{n:Nat}{q:Program}{loose:List Str}{XP:(Str->Option Value)->Heap->Prop}{YP:World->Heap->Prop}{d:DefRec}
  (hn:l.most=some n) (hdf:d.params.defaults=[])
  (call:∀(w:World) (s₀ s₁:Shared) (mg mb:Str->Option Value) (fa:Addr) (o:Obj) (pm cd doc:Value) (a:Addr) (vs:List Value) (ns:List Int),
   Ground q loose [] XP w s₀ mg mb s₁.heap->YP w s₁.heap ->
   s₁.heap.get? fa=some o->o.data=.func (docDef d.name d.params d.body d.scope pm cd doc)->s₁.heap.CodeRec cd d.name->mg d.name=some (.ref fa) ->
   s₁.heap.get? a=some {cls:=.type "list",data:=.seq vs.toArray}->IntsAre vs ns->ns.length<=n->s₁.gens=#[] ->
   codeAny (model l.prog w) callerA (.call (.ref fa) ⟨[.ref a],[]⟩) (λr s'=>r=.ok (.ret (.bool true))/\OldK s₁.heap s'.heap/\s'.os=s₁.os/\AllBare s'.gens) s₁):
  WalkO q loose XP YP l.row.toRowW d [] (λf vs=>PySem.call f vs):=by
 intro w s₀ s₁ mg mb G Y fa o pm cd doc dV kV ho hd hcd hD hmg hg args vals as hpre hlay hrd hwl hlo;obtain rfl:dV=.none:=Dflts.none hD hdf;obtain rfl:kV=.none:=Dflts.noKw hD;obtain⟨a,vs,ns,rfl,rfl,hobj,hints,hlen⟩:=script_of hn hpre hwl;refine enter_call (codeAny_mono (call w s₀ s₁ mg mb fa o pm cd doc a vs ns G Y ho (fd_plain hd) hcd hmg hobj hints hlen hg) λr s' hq=>?_);obtain⟨rfl,h2,h3,h4⟩:=hq;exact⟨.inl ⟨.bool true,.bool true,[],rfl,λ_=>rfl,.bool true,post_true l _,λ_=>⟨List.Pairwise.nil,λ_ hm=>(nomatch hm)⟩⟩,h2,h3,h4⟩
section
variable{prog:Program}{w:World}{A:Around}{E:Value->Shared->Prop}{s:Shared}{K:Frag}
end
end Att
namespace L2
open PySem PySem.Spec PyProof.Rows
variable{H H':Hp}{X:Cx}{a f:Addr}{an od:Option Addr}{cdv doc oc:Value}{fd:FuncData}{ps:List Str}{qual x:Str}{xs:List V}
theorem IF:∀{vs:List Value} {ns:List Int},IntsAre vs ns->Al (ns.map V.int) vs
 |_,_,.nil=>.nil
 |_,_,.cons n t h=>.cons ⟨t,rfl⟩ (IF h)
def Px(s:Stmt)(j:Nat):Stmt:=match s with
 |.ClassDef _ _ _ body _ _ _ _ _ _ _=>body.getD j (.Pass ⟨0,0,0,0⟩)
 |_=>.Pass ⟨0,0,0,0⟩
def DB(s:Stmt):Arguments:=match s with
 |.FunctionDef _ a _ _ _ _ _ _ _ _=>a
 |_=>{posonlyargs:=[],args:=[],vararg:=none,kwonlyargs:=[],kw_defaults:=[],kwarg:=none,defaults:=[]}
def Bc(s:Stmt):List Stmt:=match s with
 |.FunctionDef _ _ b _ _ _ _ _ _ _=>b
 |_=>[]
def AH(s:Stmt):Scope:=match s with
 |.FunctionDef _ _ _ _ _ _ sc _ _ _=>sc
 |_=>{kind:=.function,names:=[],isGenerator:=false,isCoroutine:=false}
abbrev E0:XK:=λ_ _ _=>False
structure B1(K:qJ)(x qual:Str)(st:Stmt)(f:Addr)(fd:FuncData):Prop where
 ex:∃(oc:Value) (od:Option Addr) (kV doc pm:Value) (an:Option Addr) (cdv ct:Value) (osl:Array (Option Value)),
  fd=PySem.W.fnOf x qual (DB st) (Bc st) (AH st) .none kV doc pm an cdv ct/\K.lookup f=some ⟨oc,od,.func fd,osl⟩/\PySem.W.codeIn K cdv qual=true
 kp:PySem.W.keepIn K (.ref f)=true
variable{osl:Array (Option Value)}
section
variable{P:Program}{w:World}{K:qJ}{mg:Str->Option Value}{base:Heap}
theorem B1.binds{st:Stmt}(F:B1 K x qual st f fd)
  (h:∀(kV doc pm:Value) (an:Option Addr) (cdv ct:Value) (us:List Value),us.length=ps.length->bindArgs (PySem.W.fnOf x qual (DB st) (Bc st) (AH st) .none kV doc pm an cdv ct) ⟨us,[]⟩=pure (ps.zip us)):D3 K fd ps []:=by
 obtain⟨oc,od,kV,doc,pm,an,cdv,ct,osl,rfl,lk,hcd⟩:=F.ex;exact .all (h kV doc pm an cdv ct)
theorem N6{st:Stmt}{kV pm ct:Value}(l:K.lookup f=some ⟨oc,od,.func (PySem.W.fnOf x qual (DB st) (Bc st) (AH st) .none kV doc pm an cdv ct),osl⟩)
  (c:PySem.W.codeIn K cdv qual=true) (k:PySem.W.keepIn K (.ref f)=true):B1 K x qual st f (PySem.W.fnOf x qual (DB st) (Bc st) (AH st) .none kV doc pm an cdv ct):=⟨⟨oc,od,kV,doc,pm,an,cdv,ct,osl,rfl,l,c⟩,k⟩
end
theorem Br{A:Around}{k:Nat}(hr:Bn k A):A.units+1<cLine:=Yj (Nat.add_le_add_left (by decide:1<=64) _) hr.units
theorem AW{n:Nat}(h:n<=1000):n<sizeLine:=Yj h (by decide)
theorem pv(i:Nat){pos:Pos}(hN:X.N[i]?=some x:=by rfl)(hv:Vi X.env.scope x:=by first|exact Or.inl rfl|exact Or.inr (Or.inl rfl)|exact Or.inr (Or.inr rfl))(hd:(x==("__debug__":Str))=false:=by decide)
  (hcd:(x==("__classdict__":Str))=false:=by decide):PE X (.Name x pos) (Kw i):=RZ hN hv hd hcd
theorem My{A B:Prop}(h:B):if false=true then A else B:=by rw[qE XG];exact h
theorem Py{A B:Prop}(h:A):if true=true then A else B:=by rw[qF rfl];exact h
def AG(H H':Hp):Prop:=∀b o,H b=some o->H' b=some o
theorem AG.refl(H:Hp):AG H H:=λ_ _ h=>h
variable{H1 H2:Hp}
theorem AG.trans(a:AG H H1)(b:AG H1 H2):AG H H2:=λc o h=>b c o (a c o h)
theorem AG.free(e:AG H H'){l:Addr}(h:H' l=Option.none):H l=Option.none:=by
 cases q:H l with
 |none=>rfl
 |some o =>
  rw[e l o q]at h;cases h
theorem AG.seq{K:qJ}(e:AG H H')(h:Ab K H a xs):Ab K H' a xs:=by
 rcases h with (h|⟨o,h⟩)|h
 ·exact .inl (.inl (e _ _ h))
 ·exact .inl (.inr ⟨o,e _ _ h⟩)
 ·exact .inr h
end L2
set_option maxHeartbeats 4000000
set_option compiler.extract_closed false
set_option genSizeOfSpec false
namespace L2
open PySem PySem.Spec PyProof.Rows
variable{C a b dx f p:Addr}{CX:Pg}{D:Fz}{E Q:Value->Shared->Prop}{H H':Hp}{X:Cx}{an od:Option Addr}{cdv doc oc u:Value}{ch:List Addr}{es:List Expr}{fd:FuncData}{h:Heap}{i t':Nat}{name qual x:Str}{o:Obj}{osl:Array (Option Value)}{pins:List (Addr×Obj)}{ps:List Str}{s s':Shared}{scope:Scope}{ta:TA}{tg:Expr}{us:List Value}{xs:List V}{α β:Type}{σ:St}
noncomputable def Dv(o:Obj):Option Value:=match o.data with
 |.fields vs=>vs[2]?
 |_=>none
def DK(h h':Heap):Prop:=h.objs.size<=h'.objs.size/\∀(b:Nat) (o o':Obj),h.objs[b]?=some o->h'.objs[b]?=some o'->o'.dict=o.dict/\Dv o'=Dv o
theorem DK.refl(h:Heap):DK h h:=⟨Wv _,λb o o' e e'=>by rw[e]at e';cases e';exact⟨rfl,rfl⟩⟩
theorem DK.trans{h1 h2 h3:Heap}(x:DK h1 h2)(y:DK h2 h3):DK h1 h3:=⟨Xa x.1 y.1,λb o o' e e'=>by obtain⟨hb,_⟩:=Array.getElem?_eq_some_iff.mp e;have q:h2.objs[b]?=some (h2.objs[b]'(W2 hb x.1)):=Yx (W2 hb x.1);exact⟨(y.2 b _ o' q e').1.trans (x.2 b o _ e q).1,(y.2 b _ o' q e').2.trans (x.2 b o _ e q).2⟩⟩
theorem N7(e:h.get? a=some o):h.objs[a]?=some o:=by
 unfold Heap.get? at e
 split at e
 ·cases e
 ·exact e
variable{h':Heap}
theorem DK.get{o':Obj}(x:DK h h')(e:h.get? a=some o)(e':h'.get? a=some o'):o'.dict=o.dict/\Dv o'=Dv o:=x.2 a o o' (N7 e) (N7 e')
theorem DK.push(h:Heap)(o:Obj):DK h (h.push o):=by
 refine⟨?_,λb u u' e e'=>?_⟩
 ·rw[X5];exact Ya _
 ·have hb:=(Array.getElem?_eq_some_iff.mp e).1;have q:(h.push o).objs[b]?=h.objs[b]?:=by show (h.objs.push o)[b]?=_;rw[Array.getElem?_push_lt hb,Yx hb]
  rw[q,e]at e';cases e';exact⟨rfl,rfl⟩
theorem DK.update(h:Heap)(a:Addr){f:Obj->Obj}(k:∀o,(f o).dict=o.dict/\Dv (f o)=Dv o):DK h (h.update a f):=by
 have q:(h.update a f).objs=h.objs.modify a f:=rfl;refine⟨by rw[q,Array.size_modify];exact Wv _,λb u u' e e'=>?_⟩;rw[q,Array.getElem?_modify]at e'
 split at e'
 ·rw[e]at e';cases e';exact k u
 ·rw[e]at e';cases e';exact⟨rfl,rfl⟩
noncomputable def KT{α:Type}:Sem α->Prop
 |.rule _ k=>∀u,KT (k u)
 |.at _ k=>∀u,KT (k u)
 |.load _ _ k=>∀u,KT (k u)
 |.update _ _ f k=>(∀o,(f o).dict=o.dict/\Dv (f o)=Dv o)/\∀u,KT (k u)
 |.loadIfAlive _ k=>∀u,KT (k u)
 |.point _ k=>∀u,KT (k u)
 |.alloc _ k=>∀u,KT (k u)
 |.fresh k=>∀u,KT (k u)
 |.ask k=>∀u,KT (k u)
 |.handled _ k=>∀u,KT (k u)
 |.stack k=>∀u,KT (k u)
 |.thread k=>∀u,KT (k u)
 |.pure _=>True
 |.raise _=>True
 |.unsupported _=>True
 |.finish _=>True
 |_=>False
theorem KT.keep{M:Model}{Γ:PySem.Ctx}:∀(t:Sem α),KT t->∀(Q:α->Pos->Shared->Prop) (E:Value->Pos->Shared->Prop) (p:Pos) (s:Shared),Sem.wp M Γ t Q E p s ->
  Sem.wp M Γ t (λa p' s'=>Q a p' s'/\DK s.heap s'.heap) (λe p' s'=>E e p' s'/\DK s.heap s'.heap) p s:=by
 intro t
 induction t with
 |pure x=>exact λ_ Q E p s h=>⟨h,DK.refl _⟩
 |raise v=>exact λ_ Q E p s h=>⟨h,DK.refl _⟩
 |unsupported|finish=>exact λ_ Q E p s h=>h
 |yield|fork|await|register|choose|os|call|genState|newGen|resume=>exact λk=>k.elim
 |rule _ k ih|«at» _ k ih|point _ k ih|loadIfAlive _ k ih|fresh k ih|ask k ih|handled _ k ih|stack k ih|thread k ih=>exact λz Q E p s h=>ih _ (z _) Q E _ _ h
 |alloc o k ih=>exact λz Q E p s h=>Sem.wp_mono _ _ _ (λa p' s' q=>⟨q.1,(DK.push _ _).trans q.2⟩) (λa p' s' q=>⟨q.1,(DK.push _ _).trans q.2⟩) _ _ (ih _ (z _) Q E _ _ h)
 |load a _ k ih=>exact λz Q E p s ⟨o,ho,h⟩=>⟨o,ho,ih _ (z _) Q E _ _ h⟩
 |update a _ f k ih=>exact λz Q E p s ⟨ha,h⟩=>⟨ha,Sem.wp_mono _ _ _ (λa p' s' q=>⟨q.1,(DK.update _ _ z.1).trans q.2⟩) (λa p' s' q=>⟨q.1,(DK.update _ _ z.1).trans q.2⟩) _ _ (ih _ (z.2 _) Q E _ _ h)⟩
theorem KT.run{M:Model}{A:Around}{t:Sem α}{Q:α->Shared->Prop}(k:KT t)(h:wpAny M A t Q E s):
  wpAny M A t (λa s'=>Q a s'/\DK s.heap s'.heap) (λe s'=>E e s'/\DK s.heap s'.heap) s:=λΓ p hΓ=>KT.keep t k _ _ p s (h Γ p hΓ)
theorem KT.bind{m:Sem α}{f:α->Sem β}(a:KT m)(b:∀x,KT (f x)):KT (m >>= f):=by
 show KT (m.bind f)
 induction m with
 |pure x=>exact b x
 |raise v=>exact a
 |unsupported|finish=>exact a
 |yield|fork|await|register|choose|os|call|genState|newGen|resume=>exact a.elim
 |rule _ k ih|«at» _ k ih|point _ k ih|loadIfAlive _ k ih|fresh k ih|ask k ih|handled _ k ih|stack k ih|thread k ih|alloc _ k ih|load _ _ k ih=>exact λu=>ih u (a u)
 |update _ _ f' k ih=>exact⟨a.1,λu=>ih u (a.2 u)⟩
theorem KT.pure(x:α):KT (Pure.pure x:Sem α):=trivial
theorem KT.ite{c:Prop}[Decidable c]{a b:Sem α}(x:KT a)(y:KT b):KT (if c then a else b):=by split<;>assumption
theorem Ec(x:String):KT (PySem.unsupported x:Sem α):=trivial
theorem Ie(a:Addr):KT (PySem.load a):=λ_=>trivial
theorem Ji(v:Value):KT (fieldsOf v):=by
 unfold fieldsOf;split
 ·refine KT.bind (Ie _) λo=>?_;split
  ·exact KT.pure _
  ·exact Ec _
 ·exact Ec _
theorem E3(v:Value)(i:Nat):KT (field v i):=by
 unfold field;refine KT.bind (Ji v) λo=>?_;split
 ·exact KT.pure _
 ·exact Ec _
theorem D5(v x:Value)(i:Nat)(hi:i≠2):KT (setField v i x):=by
 unfold setField;split
 ·unfold updateField;refine KT.bind (Ie _) λo=>?_;split
  ·refine KT.ite ⟨λo=>?_,λ_=>trivial⟩ (Ec _);obtain⟨c,d,dt,sl⟩:=o;cases dt with
   |fields vs=>exact⟨rfl,Array.getElem?_setIfInBounds_ne hi⟩
   |_=>exact⟨rfl,rfl⟩
  ·exact Ec _
 ·exact Ec _
theorem Df(e:Value)(f:Option Addr):KT (setFlight e f):=by unfold setFlight;refine KT.bind (E3 _ _) λtb=>?_;exact KT.ite (D5 _ _ _ (by decide)) (KT.pure _)
theorem Ga:KT PySem.stack:=λ_=>trivial
theorem Jj:∀l:List Env,KT (readyFrames l)
 |[]=>trivial
 |env::outer=>by
  unfold readyFrames;split
  ·refine KT.bind (Ie _) λo=>KT.ite (KT.pure _) ?_
   refine KT.bind ?_ λi=>KT.bind ?_ λback=>KT.bind ⟨λo=>⟨rfl,rfl⟩,λ_=>trivial⟩ λ_=>Jj outer
   ·unfold behindIsImport;exact KT.ite (KT.pure _) (KT.ite (KT.pure _) (KT.bind (E3 _ _) λ_=>KT.pure _))
   ·unfold keptBack;split
    ·refine KT.ite (KT.pure _) (KT.bind ?_ λ_=>KT.pure _);unfold underTheClaimsCaller;exact KT.bind Ga λ_=>KT.pure _
    ·exact KT.pure _
  ·exact Ec _
theorem LC(env:Env):KT (PySem.frameOf env):=by
 unfold PySem.frameOf frameEnvs;refine KT.bind (KT.bind Ga λ_=>KT.pure _) λl=>KT.bind ?_ λr=>?_
 ·unfold frameObject;split
  ·exact KT.pure _
  ·exact KT.bind (Jj _) λ_=>KT.pure _
 ·split
  ·exact KT.pure _
  ·exact Ec _
theorem Ig(ty:String)(vs:List Value):KT (newFields ty vs):=by
 unfold newFields newObj;dsimp only;split
 ·exact Ec _
 ·exact λ_=>trivial
theorem N8(f:Addr)(b:Bool):KT (entryPlaceOf f b):=by
 unfold entryPlaceOf;refine KT.bind Ga λ_=>?_
 split<;>exact KT.pure _
theorem ME(e:Value)(env:Env):KT (noteFrame e env):=by
 have last:∀h:Value,∀f:Addr,KT (do setField e 1 (<-EntryCells.newEntry h (<-PySem.frameOf env) .none (rawInt f) .none (<-entryPlaceOf f (h != .none)))):=λh f =>
  KT.bind (LC env) λ_=>KT.bind (N8 _ _) λ_=>KT.bind (Ig _ _) λ_=>D5 _ _ _ (by decide)
 unfold noteFrame;split
 ·refine KT.bind (E3 _ _) λh=>?_;split
  ·refine KT.bind (E3 _ _) λx=>KT.ite (KT.pure _) (KT.bind (D5 _ _ _ (by decide)) λ_=>last h _)
  ·exact last h _
 ·exact Ec _
theorem Ei(e:Value)(env:Env):KT (leaving env e):=by unfold leaving;exact KT.bind (ME _ _) λ_=>Df _ _
structure Pz(nc:Bool)(P:Program)(w:World)(outer:List Env)(H:Hp)(s:Shared)(a:Addr)(cls a0:Value)(D:Option Addr)(B:Heap)(H':Hp)(s':Shared):Prop where
 os:s'.os=s.os
 bare:AllBare s'.gens
 un:Un (Cm outer) [] H H' s.heap s'.heap
 hok:DQ P w H' s'.heap
 fly:Heap.FlyingW B outer a cls a0 s'.heap
 old:∀b o,s.heap.get? b=some o->b∉Cm outer->∀o',s'.heap.get? b=some o'->B.get? b=some o'
 trk:∀b u,H' b=some u->∀o',s'.heap.get? b=some o'->B.get? b=some o'
 dct:∃oe,s'.heap.get? a=some oe/\oe.dict=D
 ctx:nc=true->∃oe,s'.heap.get? a=some oe/\Dv oe=some .none
def IG(nc:Bool)(P:Program)(w:World):Pg:=λouter H s E e s'=>∃a cls a0 D B H',e=.ref a/\Pz nc P w outer H s a cls a0 D B H' s'/\E cls D H'
abbrev Hj(P:Program)(w:World):Pg:=IG false P w
theorem Ao.somewhere{P:Program}{w:World}{o:HO}(x:Ao P w H h a o):∃ob,h.get? a=some ob:=by
 cases o with
 |lst xs=>obtain⟨_,_,_,_,e⟩:=x;exact⟨_,e⟩
 |tup xs=>obtain⟨_,_,_,ob,e,_⟩:=x;exact⟨ob,e⟩
 |dK kvs=>obtain⟨_,_,_,_,ob,_,_,e,_⟩:=x;exact⟨ob,e⟩
 |dT kvs=>obtain⟨_,_,_,_,ob,_,_,e,_⟩:=x;exact⟨ob,e⟩
 |set S n=>obtain⟨ob,_,_,_,e,_⟩:=x;exact⟨ob,e⟩
 |ins C dx fs=>obtain⟨_,_,_,e,_⟩:=x;exact⟨_,e⟩
 |own y=>exact x
 |xd fs=>obtain⟨_,⟨ob,_,_,e,_⟩,_⟩:=x;exact⟨ob,e⟩
 |rng lo hi=>obtain⟨_,_,_,e⟩:=x;exact⟨_,e⟩
 |frz ob u=>obtain⟨e,_⟩:=x;exact⟨ob,e⟩
 |tbl ps=>exact⟨_,(show h.get? a=some _ from x)⟩
 |met f y=>exact⟨_,(show h.get? a=some _ from x)⟩
 |ext φ=>obtain⟨_,e,_⟩:=x;exact e
variable{nc:Bool}{cls a0:Value}{B:Heap}
theorem AU.slotted(I:AU X pins σ H s)(k:∀b o,s.heap.get? b=some o->b∉Cm X.stack->h'.get? b=some o)
  (f:∀b o,s.heap.get? b=some o->b∈Cm X.stack->∃sl,h'.get? b=some {o with slots:=sl}):AU X pins σ H {s with heap:=h',toks:=t'}:=by
 have u:Un (Cm X.stack) [] H H s.heap h':=⟨λb o e _ hb _=>k b o e hb,λb o e _ hb _=>f b o e hb,λ_ _ _ n _=>n,λb o e _=>by
  by_cases hb:b∈Cm X.stack
  ·obtain⟨sl,q⟩:=f b o e hb;exact⟨_,q⟩
  ·exact⟨o,k b o e hb⟩,λ_ _ q=>q,λ_ _ _ q=>q,λb ps q=>⟨#[],by rw[q];simp⟩⟩
 have hok:DQ X.prog X.w H h':=λb u q=>(I.hok b u q).stay (λc v hc r=>k c v r λhm=>by
  have z:=I.stkFree c hm;rcases hc with e|e
  ·rw[e,q]at z;cases z
  ·rw[e]at z;cases z) (λ_ q=>q) λ_ _ q=>q
 exact I.call (g':=s.gens) (d':=s.drawn) (ch:=[]) u hok I.bare (λb z=>qG z (by simp))
theorem AU.frameData(I:AU X pins σ H s)(e:s.heap.get? b=some o)(hb:b∈Cm X.stack):∀vs,o.data≠.fields vs:=by obtain⟨_,o',e',nf⟩:=I.stack.mem hb;rw[e]at e';cases e';exact nf
theorem Pz.fresh{D:Option Addr}(F:Pz nc X.prog X.w X.stack H s a cls a0 D B H' s'):H' a=none/\s.heap.get? a=none:=by
 have hB:=F.fly.2.1;obtain⟨oe,vs,he,_,hd,_⟩:=F.fly.first;refine⟨?_,?_⟩
 ·cases q:H' a with
  |none=>rfl
  |some u =>
   have z:=F.trk a u q oe he;rw[hB]at z;cases z
 ·cases q:s.heap.get? a with
  |none=>rfl
  |some o =>
   by_cases hm:a∈Cm X.stack
   ·obtain⟨_,o',e',nf⟩:=F.fly.2.2.1.mem hm;rw[he]at e';cases e';exact qG hd (nf vs)
   ·have z:=F.old a o q hm oe he;rw[hB]at z;cases z
theorem Pz.unAt{D:Option Addr}(I:AU X pins σ H s)(F:Pz nc X.prog X.w X.stack H s a cls a0 D B H' s')(hB:B.StaysIn h')(sm:s'.heap.UpToSlots h'):
  Un (Cm X.stack) [] H H' s.heap h'/\DQ X.prog X.w H' h':=by
 have up:∀b o,s.heap.get? b=some o->b∈Cm X.stack->∃sl,h'.get? b=some {o with slots:=sl}:=λb o e hb=>by obtain⟨sl,e1⟩:=F.un.slot b o e (I.stkFree b hb) hb (by simp);obtain⟨sl',e2⟩:=sm b _ e1 (show ∀vs,o.data≠.fields vs from I.frameData e hb);exact⟨sl',e2⟩
 refine⟨⟨λb o e n hb hx=>hB b o (F.old b o e hb o (F.un.keep b o e n hb hx)),λb o e _ hb _=>up b o e hb,F.un.free,λb o e hx=>?_,F.un.tups,F.un.frzs,F.un.tbls⟩,λb u q=>?_⟩
 ·by_cases hb:b∈Cm X.stack
  ·obtain⟨sl,q⟩:=up b o e hb;exact⟨_,q⟩
  ·obtain⟨o',e1⟩:=F.un.there b o e hx;exact⟨o',hB b o' (F.old b o e hb o' e1)⟩
 ·refine (F.hok b u q).stay (λc v hc r=>?_) (λ_ q=>q) λ_ _ q=>q
  rcases hc with e|e
  ·subst e;exact hB c v (F.trk c u q v r)
  ·exact hB c v (F.trk c _ e v r)
theorem Pz.land{D:Option Addr}(I:AU X pins σ H s)(F:Pz nc X.prog X.w X.stack H s a cls a0 D B H' s')(hB:B.StaysIn h')(sm:s'.heap.UpToSlots h'):AU X pins σ H' {s' with heap:=h',toks:=t'}:=by obtain⟨u,hok⟩:=F.unAt I hB sm;exact I.call' (s':={s' with heap:=h',toks:=t'}) (ch:=[]) F.os u hok F.bare (λb z=>qG z (by simp))
def D6(a:Addr)(cls:Value)(D:Option Addr)(n:Bool)(h:Heap):Prop:=∃o vs,h.get? a=some o/\o.cls=cls/\o.data=.fields vs/\o.dict=D/\(n=true->∃t:Addr,vs=#[.ref t,.none,.none,.none,.bool false,.none])
noncomputable def JX(a:Addr)(cls:Value)(D:Option Addr)(n:Bool):HO:=.ext (D6 a cls D n)
theorem Pz.land'{D:Option Addr}{l:List Env}(I:AU X pins σ H s)(F:Pz nc X.prog X.w X.stack H s a cls a0 D B H' s')(fl:Heap.FlyingW B l a cls a0 h')(sm:s'.heap.UpToSlots h')(dk:DK s'.heap h'):
  AU X pins σ (Ae H' a (JX a cls D false)) {s' with heap:=h',toks:=t'}:=by
 obtain⟨u,hok⟩:=F.unAt I fl.1 sm;obtain⟨n1,n2⟩:=F.fresh;obtain⟨oe,vs,he,hc,hd,_⟩:=fl.first;have ne:∀b o,s.heap.get? b=some o->b≠a:=λb o e z=>by rw[z,n2]at e;cases e
 have ne2:∀b o,H' b=some o->b≠a:=λb o e z=>by rw[z,n1]at e;cases e
 refine I.call' (s':={s' with heap:=h',toks:=t'}) (ch:=[]) F.os ⟨u.keep,u.slot,λb o e n hx=>?_,u.there,λb xs q=>?_,λb o v q=>?_,λb ps q=>?_⟩ (λb v q=>?_) F.bare (λb z=>qG z (by simp))
 ·rw[AI (ne b o e)];exact u.free b o e n hx
 ·have q':=u.tups b xs q;rw[AI (ne2 b _ q')];exact q'
 ·have q':=u.frzs b o v q;rw[AI (ne2 b _ q')];exact q'
 ·obtain⟨more,q'⟩:=u.tbls b ps q;exact⟨more,by rw[AI (ne2 b _ q')];exact q'⟩
 ·by_cases hb:b=a
  ·subst hb;rw[AC]at q;cases q;obtain⟨ow,hw,hwd⟩:=F.dct;exact⟨⟨oe,vs,he,hc,hd,(dk.get hw he).1.trans hwd,λz=>by cases z⟩,⟨oe,he⟩,λh1 h2 ⟨o,ws,e,r⟩ k=>⟨o,ws,k o e,r⟩⟩
  ·rw[AI hb]at q;exact (hok b v q).stay (λc v' _ r=>r) (λc z=>by rw[AI (ne2 c _ z)];exact z) λc xs z=>by rw[AI (ne2 c _ z)];exact z
def N9(X:Cx)(C:Value)(E:XK):Prop:=
 ∀(pins:List (Addr×Obj)) (σ:St) (H:Hp) (s:Shared) (h':Heap) (e:Addr) (args:List Value),AU X pins σ H s->Heap.MadeExcOf s.heap h' e C args->E C none H->X.xe (.ref e) {s with heap:=h'}
def Dg(CX:Pg)(X:Cx)(E:St->XK):Prop:=∀(pins:List (Addr×Obj)) (σ:St) (H:Hp) (s:Shared) (e:Value) (s':Shared),AU X pins σ H s->CX X.stack H s (E σ) e s'->X.xe e s'
section
variable{P:Program}{w:World}{K:qJ}{mg:Str->Option Value}{base:Heap}{N:List Str}{cd:Value}{A:Around}{outer:List Env}{E:XK}
theorem BN{C:Value}:N9 (DL (IG nc P w) P w K mg base N qual scope f cd A outer s H E) C E:=by
 intro pins σ H1 s1 h1 e args I hx hE;generalize hX:DL (IG nc P w) P w K mg base N qual scope f cd A outer s H E=X at I⊢;have hst:X.stack=X.env::X.outer:=by rw[<-hX];rfl
 have hfr:X.env.frame=some X.env.locals:=by rw[<-hX];rfl
 have hxe:X.xe=λe s'=>wpAny (model P w) X.A (leaving X.env e) (λ_ s''=>IG nc P w X.outer X.H₀ X.s₀ E e s'') (λe' s''=>IG nc P w X.outer X.H₀ X.s₀ E e' s'') s':=by rw[<-hX];rfl
 have hex:X.ex=[]:=by rw[<-hX];rfl
 have hp:X.prog=P:=by rw[<-hX];rfl
 have hw:X.w=w:=by rw[<-hX];rfl
 subst hp hw;rw[hxe];have fr:=I.stack;have hin:∀env∈X.stack,∀b,env.frame=some b->b∈Cm X.stack:=λenv he b hb=>YH.mpr ⟨env,he,hb⟩
 have fr':s1.heap.FunFrames (PySem.W.hideAll s1.heap (Cm X.stack)) (X.env::X.outer):=by rw[<-hst];exact PySem.W.funFrames_hide fr hin
 refine wpAny_mono (KT.run (Ei _ _) (wpAny_leaves_madeW (Q:=λ_ s2=>∃h2 t,s2={s1 with heap:=h2}/\Heap.FlyingW (PySem.W.hideAll s1.heap (Cm X.stack)) X.outer e C (.ref t) h2/\h1.UpToSlots h2) (E:=λ_ _=>False) (base:=PySem.W.hideAll s1.heap (Cm X.stack)) (h:=s1.heap) (L:=X.env.locals) (by rw[<-hst];exact I.ok.frames) hfr (λb o q=>PySem.W.of_hideAll _ q) fr' hx λh2 t x1 x2 x3 x4=>⟨h2,t,rfl,x1,x4⟩)) (λ_ s2 q=>?_) λ_ _ q=>q.1.elim
 obtain⟨⟨h2,t,rfl,x1,x4⟩,dk⟩:=q;have kept:∀b o,s1.heap.get? b=some o->b∉Cm X.stack->h2.get? b=some o:=λb o q hb=>x1.1 b o (YA _ q hb)
 have J:AU X pins σ H1 {s1 with heap:=h2,toks:=s1.toks}:=I.slotted kept λb o q hb=>x4 b o (hx.keeps b o q) (I.frameData q hb)
 have un:Un (Cm X.outer) [] X.H₀ H1 X.s₀.heap h2:=by have z:=J.base;rw[hex]at z;exact z
 have hdc:∃oe,h2.get? e=some oe/\oe.dict=none:=by obtain⟨ob,hob,_⟩:=x1.there;obtain⟨t',he,_,_⟩:=hx.there;exact⟨ob,hob,(dk.get he hob).1.trans rfl⟩
 have hcx:∃oe,h2.get? e=some oe/\Dv oe=some .none:=by obtain⟨ob,hob,_⟩:=x1.there;obtain⟨t',he,_,_⟩:=hx.there;exact⟨ob,hob,(dk.get he hob).2.trans rfl⟩
 refine⟨e,C,.ref t,none,_,H1,rfl,⟨J.os,J.bare,un,J.hok,x1,λb o q hb o' q'=>?_,λb u q o' q'=>?_,hdc,λ_=>hcx⟩,hE⟩
 ·obtain⟨o1,q1⟩:=I.base.there b o q (by rw[hex];simp)
  have hn:b∉Cm X.stack:=λz=>by
   rcases XE.mp (I.stkSub b z) with y|y
   ·exact qG (W2 (Wz q) I.ok.above) (by rw[y];exact XN _)
   ·exact hb y
  have q2:=kept b o1 q1 hn;rw[q']at q2;cases q2;exact YA _ q1 hn
 ·have hn:b∉Cm X.stack:=λz=>by
   have y:=I.stkFree b z;rw[q]at y;cases y
  obtain⟨o1,r⟩:=(I.hok b u q).somewhere;have q2:=kept b o1 r hn;rw[q']at q2;cases q2;exact YA _ r hn
theorem Au:Dg (IG nc P w) (DL (IG nc P w) P w K mg base N qual scope f cd A outer s H E) (λ_=>E):=by
 intro pins σ H1 s1 e s2 I h;generalize hX:DL (IG nc P w) P w K mg base N qual scope f cd A outer s H E=X at I h⊢;have hst:X.stack=X.env::X.outer:=by rw[<-hX];rfl
 have hfr:X.env.frame=some X.env.locals:=by rw[<-hX];rfl
 have hxe:X.xe=λe s'=>wpAny (model P w) X.A (leaving X.env e) (λ_ s''=>IG nc P w X.outer X.H₀ X.s₀ E e s'') (λe' s''=>IG nc P w X.outer X.H₀ X.s₀ E e' s'') s':=by rw[<-hX];rfl
 have hex:X.ex=[]:=by rw[<-hX];rfl
 have hp:X.prog=P:=by rw[<-hX];rfl
 have hw:X.w=w:=by rw[<-hX];rfl
 subst hp hw;rw[hxe];obtain⟨a,cls,a0,D,B,H',rfl,F,hE⟩:=h;have fl:Heap.FlyingW B (X.env::X.outer) a cls a0 s2.heap:=by rw[<-hst];exact F.fly
 refine wpAny_mono (KT.run (Ei _ _) (wpAny_leaves_onW (Q:=λ_ s3=>∃h3,s3={s2 with heap:=h3}/\Heap.FlyingW B X.outer a cls a0 h3/\s2.heap.UpToSlots h3) (E:=λ_ _=>False) (by rw[<-hst];exact I.ok.frames) hfr fl λh3 x1 x2=>⟨h3,rfl,x1,x2⟩)) (λ_ s3 q=>?_) λ_ _ q=>q.1.elim
 obtain⟨⟨h3,rfl,x1,x2⟩,dk⟩:=q;have J:AU X pins σ H' {s2 with heap:=h3,toks:=s2.toks}:=F.land I x1.1 x2;have un:Un (Cm X.outer) [] X.H₀ H' X.s₀.heap h3:=by have z:=J.base;rw[hex]at z;exact z
 have hdc:∃oe,h3.get? a=some oe/\oe.dict=D:=by obtain⟨ob,hob,_⟩:=x1.there;obtain⟨ow,hw,hwd⟩:=F.dct;exact⟨ob,hob,(dk.get hw hob).1.trans hwd⟩
 have hcx:nc=true->∃oe,h3.get? a=some oe/\Dv oe=some .none:=λhnc=>by obtain⟨ob,hob,_⟩:=x1.there;obtain⟨ow,hw,hwd⟩:=F.ctx hnc;exact⟨ob,hob,(dk.get hw hob).2.trans hwd⟩
 refine⟨a,cls,a0,D,B,H',rfl,⟨J.os,J.bare,un,J.hok,x1,λb o q hb o' q'=>?_,λb u q o' q'=>?_,hdc,hcx⟩,hE⟩
 ·obtain⟨o1,q1⟩:=I.base.there b o q (by rw[hex];simp)
  have hn:b∉Cm X.stack:=λz=>by
   rcases XE.mp (I.stkSub b z) with y|y
   ·exact qG (W2 (Wz q) I.ok.above) (by rw[y];exact XN _)
   ·exact hb y
  obtain⟨o2,q2⟩:=F.un.there b o1 q1 (by simp);have q3:=F.old b o1 q1 hn o2 q2;have q4:=x1.1 b o2 q3;rw[q']at q4;cases q4;exact q3
 ·obtain⟨o2,q2⟩:=(F.hok b u q).somewhere;have q3:=F.trk b u q o2 q2;have q4:=x1.1 b o2 q3;rw[q']at q4;cases q4;exact q3
end
abbrev FS:List Value:=[.type "ValueError",.type "Exception",.type "BaseException",.type "object"]
theorem P1{K:qJ}{newId:String}{bmB:List Value}(kin:K.In h)(q:PySem.W.excIn K C bmB newId=true):
  ∃tl N nm qn bs dy sn sub ab col dd k0 k1 k2 k3 k5 mN,h.get? C=some (excClassObj nm qn C N bs tl dy sn sub ab col dd k0 k1 k2 k3 k5 newId)/\h.Ns N mN/\mN "__init__"=none/\OwnTail h bmB tl:=by
 unfold PySem.W.excIn at q
 split at q
 next dd cd sl ho =>
  split at q
  next C2 tl k0 k1 k2 k3 n k5 hm hs =>
   simp only[Bool.and_eq_true,beq_iff_eq,Bool.not_eq_true']at q;obtain⟨⟨⟨⟨⟨e1,e2⟩,e3⟩,e4⟩,e5⟩,e6⟩:=q;subst e1 e2;obtain⟨nm,bs,mro,N,qn,dy,sn,sub,ab,col,del⟩:=cd;dsimp only at hm e3 e5 e6;subst hm e3
   have e7:sl=#[k0,k1,k2,k3,some (.builtin n),k5]:=by obtain⟨l⟩:=sl;simp only at hs;rw[hs]
   subst e7;exact⟨tl,N,nm,qn,bs,dy,sn,sub,ab,col,dd,k0,k1,k2,k3,k5,_,kin _ _ ho,.of_isNs (PySem.W.isNs_of_in kin e5),PySem.W.nsMap_none_of_in kin e5 e6,PySem.W.tail_of_in kin e4⟩
  next=>cases q
 next=>cases q
def OA(C:Addr)(E:XK)(t:TA):TS:=λ_ σ H=>t σ H λvs H1=>vs.length<=sizeLine/\E (.ref C) none H1
section
variable{E:XK}{e:Expr}{t:TA}{np cpos pos:Pos}
theorem Bv(hc:X.calm=true)(hC:PySem.W.excIn X.K C FS "ValueError.__new__"=true)(hg:Gl X x)(hm:X.mg x=some (.ref C))(hx:N9 X (.ref C) E)(ha:PA X (e::es) t)
  (hdb:(x==("__debug__":Str))=false:=by decide) (he:starEach (e::es) X.env=(false,eval e X.env)::starEach es X.env:=by rfl) (hpl:(backTo cpos (starEach es X.env)).any (·.1)=false:=by rfl):
  PS X (.Raise (some (.Call (.Name x np) (e::es) [] cpos)) none pos) (OA C E t):=by
 intro pins s σ H D I h;obtain⟨tl,N,nm,qn,bs,dy,sn,sub,ab,col,dd,k0,k1,k2,k3,k5,mN,hO,hN,hni,T⟩:=P1 I.mod.kin hC;have FB:=Ys;have arg:=ha cpos pins s σ H _ I h;refine wpAny_Raise_call_subT (C:=C) (nm:=nm) (q:=qn) (N:=N) (bs:=bs) (bm:=tl) (hdct:=dy) (sn:=sn) (sub:=sub) (ab:=ab) (col:=col) (dd:=dd) (k0:=k0) (k1:=k1) (k2:=k2) (k3:=k3) (k5:=k5) FB (mN:=mN) (T.hasType FB.hasBase) (I.ok.hd hc) ?_ hni (EK I hg hm ⟨rfl,?_⟩ hdb)
 ·rw[he];show (false||(backTo cpos (starEach es X.env)).any (·.1))=false;rw[hpl];rfl
 ·rw[he]at arg⊢;refine Calls.evalArgs_plain (BU arg λus s2 z9=>?_);obtain⟨vs,H2,I2,r,z,q⟩:=z9;exact⟨rfl,by rw[<-r.length];exact z,I2.bk _ _ hO,hN.keeps I2.bk,T.keeps I2.bk,λh2 a hq=>hx pins σ H2 s2 h2 a us I2 hq q⟩
end
def Gb(sp:Sp)(dvs:List V)(E:St->XK)(t:TA):TE:=λσ H Q=>t σ H λvs H1=>sp (vs++dvs) H1 Q (E σ)
section
variable{k:Nat}{sp:Sp}{dvs:List V}{ds:List Value}{E:St->XK}{p pos:Pos}{e:Expr}{t:TA}
theorem Jk(F:EY X.prog X.w X.K X.mg X.base CX k f fd ps sp)(hr:Bn k X.A)(hg:Gl X x)(hm:X.mg x=some (.ref f))(hk:PySem.W.keepIn X.K (.ref f)=true)(hb:D3 X.K fd ps ds)(hd:Al dvs ds)(hx:Dg CX X E)
  (ha:PA X (e::es) t) (hdb:(x==("__debug__":Str))=false:=by decide) (he:starEach (e::es) X.env=(false,eval e X.env)::starEach es X.env:=by rfl) (hpl:(backTo pos (starEach es X.env)).any (·.1)=false:=by rfl):
  PE X (.Call (.Name x p) (e::es) [] pos) (Gb sp dvs E t):=by
 intro pins s σ H Q I h;refine wpAny_Call_Name_kw (EK I hg hm ?_ hdb);refine PySem.W.callWith_K (h₀:=X.base) I.ok.mod.kin hk (BU (ha pos pins s σ H _ I h) λus s1 ⟨vs,H1,I1,r,q⟩=>⟨I1.kIn,?_⟩) he hpl;have r2:Al (vs++dvs) (us++ds):=r.append hd;have hl:(us++ds).length=ps.length:=by rw[<-r2.length];exact F.len _ _ _ _ q
 refine wpAny_call (codeAny_mono (F.run X.A X.stack s1 H1 ⟨us,[]⟩ (us++ds) (vs++dvs) Q (E σ) hr I1.env0 (hb s1 us I1.kIn hl) r2 q) λrs s2 hq=>?_);rcases rs with er|fl
 ·exact hx pins σ H1 s1 er s2 I1 hq
 ·cases fl with
  |ret u=>exact I1.after hq
  |next=>exact False.elim hq
  |brk=>exact False.elim hq
  |cont=>exact False.elim hq
end
variable{sp:Sp}
section
variable{P:Program}{w:World}{K:qJ}{mg:Str->Option Value}{base:Heap}
theorem B1.okX{st:Stmt}{N:List Str}{k:Nat}(F:B1 K x qual st f fd)(S:AK N ps (AH st))(len:∀vs H Q E,sp vs H Q E->vs.length=ps.length)
  (hbody:∀(cdv:Value) (A:Around) (outer:List Env) (s:Shared) (H:Hp) (vs:List V) (Q:VK) (E:XK),Bn k (A.deeper (envOfC qual (AH st) s.heap.objs.size f cdv))->sp vs H Q E ->
   ∃t,Fm (DL (IG nc P w) P w K mg base N qual (AH st) f cdv A outer s H E) (Bc st) t/\t {nx:=λ_ H'=>Q .non H',rt:=Q} (Ck N vs) H):EY P w K mg base (IG nc P w) (k+1) f fd ps sp:=by
 obtain⟨oc,od,kV,doc,pm,an,cdv,ct,osl,rfl,lk,hcd⟩:=F.ex;exact Qw lk hcd S len λA outer s H vs Q E hr hsp=>hbody cdv A outer s H vs Q E hr hsp
end
theorem PS.nox{st:Stmt}{t:TS}(h:PS X.nox st t):PS X st t:=λpins s σ H D I hw =>
 wpAny_mono (h pins s σ H D (I.wish _) hw) (λ_ _ q=>q.unwish) λ_ _ q=>q.elim
abbrev Cx.but(X:Cx)(p:List (Addr×Obj))(E:Value->Shared->Prop):Cx:={X with pn:=p,xe:=E}
theorem Cx.Ok.but(ok:X.Ok)(p:List (Addr×Obj))(E:Value->Shared->Prop):(X.but p E).Ok:=
 ⟨ok.mod,ok.kind,ok.glob,ok.blt,ok.above,ok.inj,ok.has,ok.cab,ok.hd,ok.frames,ok.stk,ok.exf,ok.bs,ok.bsz,ok.noex,ok.exfs,ok.funs,ok.frf⟩
theorem Cx.Ok.unbut{p:List (Addr×Obj)}(ok:(X.but p E).Ok):X.Ok:=
 ⟨ok.mod,ok.kind,ok.glob,ok.blt,ok.above,ok.inj,ok.has,ok.cab,ok.hd,ok.frames,ok.stk,ok.exf,ok.bs,ok.bsz,ok.noex,ok.exfs,ok.funs,ok.frf⟩
noncomputable def Cx.tr(X:Cx)(p:List (Addr×Obj))(W:St->XK):Cx:=X.but p λe s'=>∃pins σ H s,AU (X.but p λ_ _=>False) pins σ H s/\Hj X.prog X.w X.stack H s (W σ) e s'
noncomputable def Cx.hdl(X:Cx)(v:Value):Cx:={X with A:=X.A.mark (some v),calm:=false,xe:=λ_ _=>False}
variable{pos:Pos}
section
variable{pins' p:List (Addr×Obj)}{E':Value->Shared->Prop}
theorem AU.but(I:AU X pins σ H s)(E:Value->Shared->Prop):AU (X.but (X.pn++pins) E) [] σ H s:=
 ⟨I.ok.but _ _,I.os,I.bare,I.base,I.loc,I.cell,I.free,I.freeC,λq hq=>I.pin q (by simpa using hq),I.hok,I.len⟩
theorem AU.unbut(I:AU (X.but (X.pn++pins) E) pins' σ H s):AU X pins σ H s:=
 ⟨I.ok.unbut,I.os,I.bare,I.base,I.loc,I.cell,I.free,I.freeC,λq hq=>I.pin q (Xr _ hq),I.hok,I.len⟩
theorem AU.rebut(I:AU (X.but p E) pins σ H s):AU (X.but p E') pins σ H s:=
 ⟨I.ok.unbut.but _ _,I.os,I.bare,I.base,I.loc,I.cell,I.free,I.freeC,I.pin,I.hok,I.len⟩
theorem AU.hdl(I:AU X pins σ H s)(v:Value):AU (X.hdl v) pins σ H s:=
 ⟨⟨I.ok.mod,I.ok.kind,I.ok.glob,I.ok.blt,I.ok.above,I.ok.inj,I.ok.has,I.ok.cab,λz=>qG z (by show ¬(false=true);decide),I.ok.frames,I.ok.stk,I.ok.exf,I.ok.bs,I.ok.bsz,I.ok.noex,I.ok.exfs,I.ok.funs,I.ok.frf⟩,
  I.os,I.bare,I.base,I.loc,I.cell,I.free,I.freeC,I.pin,I.hok,I.len⟩
theorem AU.unhdl{v:Value}(hd:X.calm=true->X.A.handled=none)(I:AU (X.hdl v) pins σ H s):AU X pins σ H s:=
 ⟨⟨I.ok.mod,I.ok.kind,I.ok.glob,I.ok.blt,I.ok.above,I.ok.inj,I.ok.has,I.ok.cab,hd,I.ok.frames,I.ok.stk,I.ok.exf,I.ok.bs,I.ok.bsz,I.ok.noex,I.ok.exfs,I.ok.funs,I.ok.frf⟩,
  I.os,I.bare,I.base,I.loc,I.cell,I.free,I.freeC,I.pin,I.hok,I.len⟩
theorem Ej{W:St->XK}:Dg (Hj X.prog X.w) (X.tr p W) W:=λpins σ H s e s' I h=>⟨pins,σ,H,s,AU.rebut (X:=X) I,h⟩
theorem SP.unbut{f:Flow}(h:SP (X.but (X.pn++pins) E) pins' D f s'):SP X pins D f s':=by
 cases f with
 |next=>obtain⟨a,b,I,q⟩:=h;exact⟨a,b,I.unbut,q⟩
 |brk=>obtain⟨a,b,I,q⟩:=h;exact⟨a,b,I.unbut,q⟩
 |cont=>obtain⟨a,b,I,q⟩:=h;exact⟨a,b,I.unbut,q⟩
 |ret u=>obtain⟨v,a,b,I,q⟩:=h;exact⟨v,a,b,I.unbut,q⟩
theorem F8{M:Model}{A:Around}{n:Str}{Q:Unit->Shared->Prop}(I:AU X pins σ H s)(hN:X.N.Nodup)(hi:X.N[i]?=some n)(hl:X.env.scope.names.lookup n=some .local)
  (h:∀s',AU X pins (σ.set i none) H s'->Q () s'):wpAny M A (do bindName X.env n .none;unbindBehindTheSuite X.env n pos) Q E s:=by
 obtain⟨m,hn,lk⟩:=id I.loc;have hcls:(X.env.scope.kind==.class||(X.env.scope.kind==.module&&X.env.locals != X.env.globals))=false:=by rw[I.ok.kind];rfl
 refine wpAny_nameGoes_keeps (show X.env.kindOf n=some .local from hl) hn hcls λh' v hn' sb=>h _ ?_
 have away:∀b o,X.s₀.heap.get? b=some o->b≠X.env.locals:=λb o e=>Xd (W2 (Wz e) I.ok.above)
 have hiσ:i<σ.length:=by rw[I.len];exact (Ws.mp hi).1
 refine⟨I.ok,I.os,I.bare,⟨λb o e nn hb hx=>(sb.2 b (away b o e)).trans (I.base.keep b o e nn hb hx),λb o e nn hb hx=>?_,I.base.free,λb o e hx=>?_,I.base.tups,I.base.frzs,I.base.tbls⟩,
  ⟨_,hn',λj y w e1 e2 e3=>?_⟩,λy c e=>?_,I.free,I.freeC,λq hq=>?_,λb u q=>?_,by simpa using I.len⟩
 ·obtain⟨sl,e1⟩:=I.base.slot b o e nn hb hx;exact⟨sl,(sb.2 b (away b o e)).trans e1⟩
 ·obtain⟨o',e1⟩:=I.base.there b o e hx;exact⟨o',(sb.2 b (away b o e)).trans e1⟩
 ·by_cases hj:j=i
  ·subst hj;rw[ZD hiσ]at e2;cases e2
  ·rw[ZQ (Ne.symm hj)]at e2;obtain⟨u,r,z⟩:=lk j y w e1 e2 e3;refine⟨u,r,?_⟩;rcases z with⟨k,z⟩|⟨k,c,z,y'⟩
   ·have ny:y≠n:=λq=>hj (GP hN e1 (q▸hi))
    exact .inl ⟨k,by simp[ny,z]⟩
   ·exact .inr ⟨k,c,z,y'.sameBut sb (I.cne y c z)⟩
 ·obtain⟨w,z⟩:=I.cell y c e;exact⟨w,z.sameBut sb (I.cne y c e)⟩
 ·obtain⟨e,nn,ne,nf,d⟩:=I.pin q hq;exact⟨(sb.2 q.1 ne).trans e,nn,ne,nf,d⟩
 ·refine (I.hok b u q).stay (λc w hc r=>(sb.2 c λz=>?_).trans r) (λ_ q=>q) λ_ _ q=>q
  have fz:=I.free;rcases hc with e|e
  ·rw[<-z,e,q]at fz;cases fz
  ·rw[<-z,e]at fz;cases fz
end
def T7(K:qJ)(R:Value)(i:Nat)(W:St->XK)(tb th:TS):TS:=λD σ H=>tb D σ H/\∀σ' cls D' H',W σ' cls D' H'->PySem.W.exmOne K cls R=some true/\∀a,H' a=none ->
 th {nx:=λσ2 H2=>D.nx (σ2.set i none) H2,rt:=D.rt,bk:=λσ2 H2=>D.bk (σ2.set i none) H2,ct:=λσ2 H2=>D.ct (σ2.set i none) H2} (σ'.set i (some (.ref a))) (Ae H' a (JX a cls D' false))
section
variable{n:Str}{R:Addr}{W:St->XK}{b:List Stmt}{c0:Stmt}{suite:List Stmt}{tb th:TS}{np hpos:Pos}
theorem Rr(hN:X.N.Nodup)(hi:X.N[i]?=some n)(hl:X.env.scope.names.lookup n=some .local)(hg:Gl X x)(hm:X.mg x=some (.ref R))(hst:X.stack=X.env::X.outer)(hfr:X.env.frame=some X.env.locals)
  (hb:∀p,Fm (X.tr p W) b tb) (hs:∀v,Fm (X.hdl v) (c0::suite) th) (hd:(x==("__debug__":Str))=false:=by decide):
  PS X (.Try b [.ExceptHandler (some (.Name x np)) (some n) (c0::suite) hpos] [] [] pos) (T7 X.K (.ref R) i W tb th):=by
 intro pins s σ H D I h;obtain⟨h1,h2⟩:=h;refine wpAny_Try_except (wpAny_mono (hb (X.pn++pins) [] s σ H D (I.but _) h1) (λf s1 q=>?_) λe s1 q=>?_)
 ·have q':SP X pins D f s1:=SP.unbut (pins':=[]) q;cases f with
  |next=>exact wpAny_execs_nil q'
  |ret u=>exact q'
  |brk=>exact q'
  |cont=>exact q'
 ·obtain⟨pins0,σ0,H0,s0,I0,a,cls,a0,D',B,H',rfl,F,hW⟩:=q;have J0:AU X pins σ0 H0 s0:=I0.unbut;obtain⟨hx,hth⟩:=h2 σ0 cls D' H' hW;have fl:Heap.FlyingW B (X.env::X.outer) a cls a0 s1.heap:=by rw[<-hst];exact F.fly
  refine wpAny_mono (KT.run (ME _ _) (wpAny_looks_onW (Q:=λ_ s4=>∃h4,s4={s1 with heap:=h4}/\Heap.HeldW B (X.env::X.outer) a cls a0 X.env.locals h4/\s1.heap.UpToSlots h4) (E:=λ_ _=>False) (by rw[<-hst];exact J0.ok.frames) hfr fl λh4 held4 sm4=>⟨h4,rfl,held4,sm4⟩)) (λ_ s4 q=>?_) λ_ _ q=>q.1.elim
  obtain⟨⟨h4,rfl,held4,sm4⟩,dk4⟩:=q;refine wpAny_mono (KT.run (Df _ _) (wpAny_landsW (Q:=λ_ s5=>∃h5,s5={s1 with heap:=h5}/\Heap.FlyingW B (X.env::X.outer) a cls a0 h5/\h4.UpToSlots h5) (E:=λ_ _=>False) (s:={s1 with heap:=h4}) held4 λh5 fl5 sm5=>⟨h5,rfl,fl5,sm5⟩)) (λ_ s5 q=>?_) λ_ _ q=>q.1.elim
  obtain⟨⟨h5,rfl,fl5,sm5⟩,dk5⟩:=q;have J5:AU X pins σ0 H' {s1 with heap:=h5,toks:=s1.toks}:=F.land J0 fl5.1 (sm4.trans sm5);have K5:=J5.hdl (.ref a);refine wpAny_handleBy_cons (codeAny_handlers_test (EK K5 hg hm ?_ hd)) (by intro q;cases q);obtain⟨ob,hob,hobc⟩:=fl5.there
  have LT:PySem.W.Looks (model X.prog X.w) h5 (typeOf (.ref a)) cls:=by subst hobc;exact (PySem.W.Looks.ld hob).andThen .now
  refine (PySem.W.exm_one J5.kIn LT hx).here ?_;show codeAny _ _ _ _ _;refine codeAny_handlers_suite_as ?_;refine wpAny_mono (KT.run (Df _ _) (lands_againW (Q:=λ_ s6=>∃h6,s6={s1 with heap:=h6}/\Heap.FlyingW B (X.env::X.outer) a cls a0 h6/\h5.UpToSlots h6) (E:=λ_ _=>False) (s:={s1 with heap:=h5}) fl5 λh6 fl6 sm6=>⟨h6,rfl,fl6,sm6⟩)) (λ_ s6 q=>?_) λ_ _ q=>q.1.elim
  obtain⟨⟨h6,rfl,fl6,sm6⟩,dk6⟩:=q;have J6:AU X pins σ0 (Ae H' a (JX a cls D' false)) {s1 with heap:=h6,toks:=s1.toks}:=F.land' J0 fl6 ((sm4.trans sm5).trans sm6) ((dk4.trans dk5).trans dk6);refine GQ J6 hN hi (.inl hl) (v:=.ref a) rfl (λs7 I7=>?_) (.inr hl);have run:=hs (.ref a) pins s7 _ _ _ (I7.hdl (.ref a)) (hth a F.fresh.1);refine wpAny_mono run (λf s8 q8=>?_) λ_ _ z=>z.elim
  cases f with
  |next =>
   obtain⟨σ8,H8,I8,q8⟩:=q8;exact F8 (I8.unhdl J0.ok.hd) hN hi hl λs9 I9=>⟨_,_,I9,q8⟩
  |brk =>
   obtain⟨σ8,H8,I8,q8⟩:=q8;exact F8 (I8.unhdl J0.ok.hd) hN hi hl λs9 I9=>⟨_,_,I9,q8⟩
  |cont =>
   obtain⟨σ8,H8,I8,q8⟩:=q8;exact F8 (I8.unhdl J0.ok.hd) hN hi hl λs9 I9=>⟨_,_,I9,q8⟩
  |ret u =>
   obtain⟨v8,σ8,H8,I8,r8,q8⟩:=q8;exact F8 (I8.unhdl J0.ok.hd) hN hi hl λs9 I9=>⟨v8,_,_,I9,r8,q8⟩
end
structure Ih(K:qJ)(D:Addr):Prop where
 ci:(PySem.W.clsIn K D).isSome=true
 ga:PySem.W.findIn K (.ref D) "__getattribute__"=some (some (.builtin "BaseException.__getattribute__"))
 gn:PySem.W.findIn K (.ref D) "__getattr__"=some none
 ca:PySem.W.findIn K (.ref D) "__class__"=some (some (.builtin "object.__class__"))
 sg:PySem.W.specialIn K (.builtin "object.__class__") "__get__"=some (some (.builtin "getset_descriptor.__get__"))
 tk:PySem.W.takesIn K (.builtin "object.__class__")=some true
 mo:PySem.W.mroIn K D (.type "object")=some true
 mb:PySem.W.mroIn K D (.type "BaseException")=some true
section
variable{K:qJ}{D:Addr}{dy:Option Addr}{n:Bool}
theorem Ih.isCls(c:Ih K D){M:Model}(kin:K.In h):PySem.W.Looks M h (isType (.ref D)) true:=by
 have z:=c.ci;unfold PySem.W.clsIn at z
 split at z
 next ho =>
  intro A Q E s k q;unfold isType loadHead;exact qC (wpAny_loadPart (k _ _ (kin _ _ ho)) (qD q))
 next=>cases z
theorem D6.ty{M:Model}(x:D6 a cls dy n h):PySem.W.Looks M h (typeOf (.ref a)) cls:=by obtain⟨o,vs,e,c,_⟩:=x;subst c;exact (PySem.W.Looks.ld e).andThen .now
theorem LD{M:Model}{x:Value}{g:Value}(kin:K.In h)(h1:PySem.W.findIn K (.ref D) name=some (some u))(h2:PySem.W.specialIn K u "__get__"=some (some g))(h3:PySem.W.takesIn K u=some true):
  PySem.W.Looks M h (Builtin.ObjectAttr.find x (.ref D) name) (.bind g u):=by
 have a1:=Yv (M:=M) kin h1;have a2:PySem.W.Looks M h (Builtin.ObjectAttr.getOf (some u)) (some g):=PySem.W.looks_specialIn kin h2;have a3:PySem.W.Looks M h (Builtin.ObjectAttr.dataDescriptor? (some u) (some g)) (some (g,u)):=(PySem.W.looks_takesIn (M:=M) kin h3).andThen .now;exact a1.andThen (a2.andThen (a3.andThen (PySem.W.Looks.tag .now)))
theorem P2{prog:Program}{w:World}{A:Around}{R:Result->Shared->Prop}{tp:Value}(c:Ih K D)(kin:K.In s.heap)(x:D6 a (.ref D) dy n s.heap)(q:R (.ok (.ret (.ref D))) s):
  codeAny (model prog w) A (.call (.builtin "getset_descriptor.__get__") ⟨[.builtin "object.__class__",.ref a,tp],[]⟩) R s:=by
 obtain⟨hp,g,d,t,os⟩:=s;have a1:=x.ty (M:=model prog w);have a2:=PySem.W.looks_mroIn (M:=model prog w) kin c.mo;refine codeAny_call_builtin PySem.W.KF.slot_gs.plain PySem.W.KF.entry_gs (PySem.W.KF.slot_gs.check _ _ _ _ _ _ _ _ PySem.W.KF.type_class (PySem.W.KF.args_gs _ _ _) ?_)
 (unfold Builtin.«getset_descriptor.__get__» Builtin.Getset_descriptor.descrGet;rw[PySem.W.dga_obj];refine qC (qD ?_))
 (unfold Builtin.Getset_descriptor.descrGetter Builtin.Getset_descriptor.descrCheckInstance Builtin.Getset_descriptor.descrNameAndClass isInstance;simp only[PySem.W.KF.owner_class])
 repeat lk
 refine⟨Code.quiet_builtin _ (by decide +kernel),codeAny_builtin PySem.W.KF.entry_class ?_⟩
 (unfold Builtin.«object.__class__» shownTypeOf;repeat lk)
 exact q
theorem Mz{prog:Program}{w:World}{A:Around}{Q:Option Value->Shared->Prop}(c:Ih K D)(kin:K.In s.heap)(x:D6 a (.ref D) dy n s.heap)
  (q:Q (some (.ref D)) {s with toks:=s.toks+1}):wpAny (model prog w) A (getAttr? (.ref a) "__class__") Q E s:=by
 obtain⟨hp,g,d,t,os⟩:=s;have LT:=x.ty (M:=model prog w);have L1:=Yv (M:=model prog w) kin c.ga;have L2:=Yv (M:=model prog w) kin c.gn;have L3:=LD (M:=model prog w) (x:=.ref a) kin c.ca c.sg c.tk;have L4:PySem.W.Looks (model prog w) hp (isInstance (.ref a) (.type "BaseException")) true:=LT.andThen (PySem.W.looks_mroIn kin c.mb);have FA:=PySem.F.excAttr_ValueError;unfold getAttr? getAttrBy? getAttrBy;refine qC (wpAny_mkText (qC (wpAny_attempt (wpAny_holding (qC (LT.at (qC (L1.at ?_))))))));show wpAny _ _ (getAttrByItsOwn _ _ _ _ _ _) _ _ _;unfold getAttrByItsOwn;refine qC (show wpAny _ _ (typeLookup (.ref D) "__getattr__") _ _ _ from L2.at ?_);refine qC (wpAny_attempt (wpAny_holding ?_));show wpAny _ _ (boundAndCalled _ _ _) _ _ _;unfold boundAndCalled;refine qC (wpAny_of_eq (FA.ga.bind _) ?_);refine wpAny_call (codeAny_call_builtin FA.ga.plain PySem.F.entry_bexc_ga ?_);have hk:builtinKind "BaseException.__getattribute__"=some .slot:=by decide +kernel
 have hsp:splitId "BaseException.__getattribute__"=some ("BaseException","__getattribute__"):=by decide +kernel
 have ha:=PySem.F.args_bexc_ga (.ref a) (.str "__class__" t);show wpAny _ _ (checkBuiltinCall "BaseException.__getattribute__" ⟨[.ref a,.str "__class__" t],[]⟩) _ _ _;simp only[checkBuiltinCall,hk,hsp];refine qC (L4.at ?_)
 repeat (any_goals (first|assumption|wp_step))
 obtain⟨o,vs,eo,co,vo⟩:=id x;refine wpAny_loadPart eo ?_;refine qD ?_;rw[co];refine qC (L3.at ?_);show wpAny _ _ (call (.builtin "getset_descriptor.__get__") [.builtin "object.__class__",.ref a,.ref D] >>= λv=>ret v) _ _ _;refine qC (wpAny_call (P2 c kin ⟨o,vs,eo,co,vo⟩ ?_));refine qD ?_;show wpAny _ _ (handedOut (.ref D)) _ _ _;exact qD (qD q)
theorem Jl(c:Ih K D):PySem.W.KitX K (.ref a) (.ref D) (D6 a (.ref D) dy n) where
 ty:=λ_ _ _ x=>x.ty
 it:=λ_ _ kin _=>c.isCls kin
 ne:=λh tp dd its n sl kin htp=>by
  refine Bool.eq_false_iff.mpr λq=>?_;have e:D=tp:=Value.ref.inj (beq_iff_eq.mp q);subst e;have z:=c.ci;unfold PySem.W.clsIn at z
  split at z
  next ho =>
   have y:=(kin _ _ ho).symm.trans htp;cases y
  next=>cases z
 ca:=λkin x q=>Mz c kin x q
end
inductive Tn(K:qJ)(H:Hp):V->Value->Prop where
 |of {x:V} {t:Value} (h:FP K H x t):Tn K H x t
 |exc {a D:Addr} {dy:Option Addr} {n:Bool} (e:H a=some (JX a (.ref D) dy n)) (c:Ih K D):Tn K H (.ref a) (.ref D)
noncomputable def P3:V->Option Value
 |.ty n=>some (.type n)
 |.ref a=>some (.ref a)
 |_=>none
noncomputable def Rs(K:qJ):List V->Hp->VK->Prop
 |[x,c],H,Q=>∃t u b,Tn K H x t/\P3 c=some u/\PySem.W.kitOne K t u=some b/\Q (.bl b) H
 |_,_,_=>False
theorem OB:Ds X (.builtin "isinstance") (Rs X.K):=by
 intro pins s σ H xs us Q I rv h
 match xs,h with
 |[x,c],h =>
 obtain⟨t,u,b,ty,rc,k,q⟩:=h;obtain⟨v1,v2,rfl,r1,r2⟩:=L5 rv
 have e:v2=u:=by
  cases c with
  |ty n=>cases rc;exact r2
  |ref a=>cases rc;exact r2
  |_=>cases rc
 subst e;cases ty with
 |of ty=>exact Mw I r1 ty k λtk=>⟨.bl b,H,I.tok tk,rfl,q⟩
 | @exc a D dy n e ck =>
  cases (show v1=Value.ref a from r1);obtain⟨x,_,_⟩:=(show Ao X.prog X.w H s.heap a (.ext (D6 a (.ref D) _ _)) from I.hok a _ e);exact Xu (Jl ck) I.kIn x k (λz=>nomatch z) λtk=>⟨.bl b,H,I.tok tk,rfl,q⟩
variable{items:Array Value}
section
variable{prog:Program}{w:World}{A:Around}
theorem M4:typeLookup (.type "list_reverseiterator") "__len__"=pure none:=by rw[typeLookup_type,builtinLookup_eq_fast];kernel_rfl
theorem OC:typeLookup (.type "list_reverseiterator") "__length_hint__"=pure (some (.builtin "list_reverseiterator.__length_hint__")):=by rw[typeLookup_type,builtinLookup_eq_fast];kernel_rfl
theorem OD{I:Addr}{Q:Bool->Shared->Prop}(hT:s.TypeIs (.ref I) "list_reverseiterator")(q:Q false s):wpAny (model prog w) A (Builtin.List.listLengthHint (.ref I)) Q E s:=by
 unfold Builtin.List.listLengthHint;refine qC (wpAny_specialOf hT M4 ?_);show wpAny _ A (specialOf (Value.ref I) (Str.ofString "__length_hint__") >>= _) _ _ _;refine qC (wpAny_specialOf hT OC ?_);generalize hz:("list_reverseiterator.__length_hint__":String)=zz
 wp_delta
 rw[show splitId zz=some ("list_reverseiterator","__length_hint__") from by subst hz;decide +kernel];subst hz;refine qC (wpAny_isInstance (b:=true) hT (by rw[isSubtype_type];kernel_rfl) ?_);exact qD q
theorem Jm{I l:Addr}{Q:Value->Shared->Prop}(hh:A.handled=none)(hIl:l≠I)(hit:s.heap.IsRevIter I l ((items.size:Int)-1))(hl:s.heap.IsList l items)(hz:items.size<=sizeLine)
  (hQ:∀h' tk c' acc,(∀b o,b≠I->s.heap.get? b=some o->h'.get? b=some o)->h'.get? s.heap.objs.size=some {cls:=.type "list",dict:=none,data:=.seq acc c',slots:=#[]} ->
   acc.toList=items.toList.reverse->Q (.ref s.heap.objs.size) {s with heap:=h',toks:=tk}):wpAny (model prog w) A (call (.type "list") [.ref I]) Q E s:=by
 have W:=(Walks.listRev (prog:=prog) (w:=w) (A:=A.in1.in1) hh I l hIl items).toS;have hIlt:I<s.heap.objs.size:=by obtain⟨o,e,_⟩:=hit;exact Wz e
 have hllt:l<s.heap.objs.size:=by obtain⟨o,e,_⟩:=hl;exact Wz e
 refine callType_codes (Q₁:=λobj s₁=>obj=.ref s.heap.objs.size/\s₁={s with heap:=s.heap.push {cls:=.type "list",data:=.seq #[]}}) PySem.F.called_list (PySem.F.typeCall_list_1 _) PySem.F.entry_list_init
  (code_list_new _ ⟨rfl,rfl⟩) λobj s₁ h₁=>?_
 obtain⟨rfl,rfl⟩:=h₁;have hS:(s.heap.push {cls:=.type "list",data:=.seq #[]}).get? s.heap.objs.size=some {cls:=.type "list",data:=.seq #[]}:=W9 _ rfl;refine⟨⟨_,hS,rfl⟩,PySem.F.args_list_init_2 _ _,?_⟩;show wpAny _ _ (do let old <-Builtin.List.listItems (.ref s.heap.objs.size);Builtin.List.listUpdate (.ref s.heap.objs.size) (λ_=>#[]);letGo old.toList.reverse;Builtin.List.listExtendWith (.ref s.heap.objs.size) (.ref I) .none) _ _ _;refine qC ?_;unfold Builtin.List.listItems;refine qC (wpAny_seqItems hS rfl (qD ?_));show wpAny _ _ (updateSeq s.heap.objs.size (λ_=>#[]) >>= λ_=>letGo (#[]:Array Value).toList.reverse >>= λ_=>Builtin.List.listExtendWith (.ref s.heap.objs.size) (.ref I) .none) _ _ _;refine qC (wpAny_updateSeq hS rfl ?_);have hS2:=YT (Obj.mapSeq (λ_=>(#[]:Array Value))) hS rfl
 have kp:∀b o,s.heap.get? b=some o->((s.heap.push {cls:=.type "list",data:=.seq #[]}).update s.heap.objs.size (Obj.mapSeq (λ_=>(#[]:Array Value)))).get? b=some o:=
  λb o e=>(YQ _ _ (YY (Wz e))).trans (Wu _ e)
 refine qC (wpAny_letGo ?_);have hit2:=hit.at λo e=>kp I o e
 have hl2:=hl.at λo e=>kp l o e
 unfold Builtin.List.listExtendWith;refine qC (wpAny_typeOf (T:="list_reverseiterator") hit2.typeIs ?_);have h1:Builtin.List.listSameRef (.ref s.heap.objs.size) (.ref I)=false:=by simp[Builtin.List.listSameRef,Nat.ne_of_gt hIlt]
 rw[qE (by rw[h1];decide)];refine qC (wpAny_pyIter_revIter hit2 ?_);refine qC (wpAny_holding (OD hit2.typeIs ?_));rw[qE (by decide)]
 have nf:s.heap.objs.size∉[I,l]:=by simp only[List.mem_cons,List.not_mem_nil,or_false,not_or];exact⟨YY hIlt,YY hllt⟩
 refine qD ⟨plainId_quiet PySem.F.plain_extend_loop _,codeAny_extend_loopS W hz _ nf _ items.size 0 _ _ _ rfl (Nat.zero_le _) ⟨Nat.zero_le _,by simpa using hit2,hl2⟩ hS2 (ItemsOf.nil _) λs' acc c' hm hS' hacc=>?_⟩;refine⟨rfl,?_⟩;rw[Moved.eq_with hm];refine hQ s'.heap s'.toks c' acc (λb o hb e=>hm.heap b o (λz=>?_) (kp b o e)) hS' ?_
 ·rcases XE.mp z with z|z
  ·exact qG (Wz e) (by rw[z];exact XN _)
  ·exact hb (Wr.mp z)
 ·apply Yp;intro i
  by_cases hi:i<items.size
  ·have hi2:i<acc.size:=by rw[hacc.1];exact hi
   have p:=hacc.2 i acc[i] (Yx hi2);rw[List.getElem?_reverse (by simpa using hi),Array.getElem?_toList,Array.getElem?_eq_getElem hi2,Array.getElem?_toList,Array.length_toList];exact p.symm
  ·rw[ZK (by rw[XI,hacc.1];lia),ZK (by rw[Y1,XI];lia)]
end
noncomputable def T8(K:qJ)(a:Addr)(n:Nat):It:=
 ⟨λi H=>i<n/\∃xs,Ab K H a xs/\xs.length=n,λi H x H'=>H'=H/\∀xs,Ab K H a xs->xs.reverse[i]?=some x,λi _=>i=n⟩
theorem OE{P:Program}{w:World}{K:qJ}(a it:Addr)(n:Nat):GV P w K tg (T8 K a n) [it] it (λi h=>i<=n/\h.IsRevIter it a ((n:Int)-1-(i:Int))) where
 mem:=by simp
 obj:=λi h st b hb=>by
  have e:b=it:=by simpa using hb
  subst e;obtain⟨_,o,e,c,d⟩:=st;exact⟨o,e,λv z=>by rw[d]at z;cases z⟩
 keep:=λi h h' st k=>⟨st.1,st.2.at λo e=>k it (by simp) o e⟩
 item:=by
  intro X hP hw hK hc i pins s σ H E I hf st hg;subst hP hw hK;obtain⟨hi,xs,hq,hn⟩:=hg;obtain⟨its,rv,p,hz⟩:=I.list hq;have hlen:=rv.length;obtain⟨f0,f1,f2,f3,f4,f5⟩:=hf it (by simp);have e:(n:Int)-1-(i:Int)=((n-1-i:Nat):Int):=by lia
  have hit:=st.2;rw[e]at hit;have hx:xs[n-1-i]?=some (xs[n-1-i]'(by lia)):=Wx (by lia);obtain⟨u,hu,ru⟩:=rv.get hx;refine wpAny_pyNext_rev_item hit p.isList (x:=u) (by simpa using hu) λh' st' sb=>?_;have I1:AU X pins σ H {s with heap:=h'}:=I.turned (t':=s.toks) (λb o hb e=>(sb.2 b hb).trans e) f0 f1 f3 f4 f5;obtain⟨o,e,c,d⟩:=id st'
  have st2:i+1<=n/\h'.IsRevIter it a ((n:Int)-1-((i+1:Nat):Int)):=⟨hi,by
   have e2:((n-1-i:Nat):Int)-1=(n:Int)-1-((i+1:Nat):Int):=by lia
   rw[<-e2];exact st'⟩
  refine⟨u,rfl,Hy (s:={s with heap:=h'}) e c d (by decide) ⟨_,H,I1,ru,⟨rfl,λys hy=>?_⟩,st2,λb hb=>(hf b hb).1⟩⟩;rw[I.list_inj hy hq,List.getElem?_reverse (by lia),<-hx]
  congr 1
  lia
 done:=by
  intro X hP hw hK hc i pins s σ H E I hf st hg;subst hP hw hK;obtain⟨f0,f1,f2,f3,f4,f5⟩:=hf it (by simp);have hg':i=n:=hg;subst hg';have hit:=st.2;have e:(i:Int)-1-(i:Int)=-1:=by lia
  rw[e]at hit;exact wpAny_pyNext_rev_end (I.ok.hd hc) hit λh' eb=>⟨rfl,I.turned (t':=s.toks) (λb o hb e=>eb b o hb e) f0 f1 f3 f4 f5⟩
 self:=λ_ _ _ _ _ st h=>wpAny_pyIter_revIter st.2 h
def V6(K:qJ)(ta:TA):TI:=λσ H R=>ta σ H λvs H1=>∃a xs,vs=[.ref a]/\Ab K H1 a xs/\R (T8 K a xs.length) H1
theorem Rt{l:Expr}{p pos:Pos}(hg:Gl X "reversed")(hm:X.mg "reversed"=none)(ha:PA X [l] ta)(hs:starEach [l] X.env=[(false,eval l X.env)]:=by rfl):PI X tg (.Call (.Name "reversed" p) [l] [] pos) (V6 X.K ta):=by
 intro pins s σ H R I h;refine Call_ (CP I hg hm boot_reversed (Xb (BU (ha pos pins s σ H _ I h) λus s1 z9=>?_) hs rfl));obtain⟨vs,H1,I1,r1,q1⟩:=z9;obtain⟨a,xs,e,hq,q⟩:=q1;subst e;cases r1 with
 |cons r rr =>
  cases rr;cases r;obtain⟨its,rv,pl,hz⟩:=I1.list hq;have hlen:=rv.length;refine call_reversed_list pl.isList ?_;have I2:AU X pins σ H1 {s1 with heap:=s1.heap.push (revObj a ((its.toArray.size:Int)-1)),toks:=s1.toks}:=I1.kept λb o e=>Wu _ e
  have st:(s1.heap.push (revObj a ((its.toArray.size:Int)-1))).IsRevIter s1.heap.objs.size a ((xs.length:Int)-1-((0:Nat):Int)):=by
   have e:((xs.length:Int)-1-((0:Nat):Int))=(its.toArray.size:Int)-1:=by rw[Xc,hlen];lia
   rw[e];exact⟨_,W9 _ rfl,rfl,rfl⟩
  refine wpAny_pyIter_revIter st ?_;refine⟨s1.heap.objs.size,[s1.heap.objs.size],_,_,H1,rfl,I2,OE a _ xs.length,⟨XO _,st⟩,λb hb=>?_,q⟩;have e:b=s1.heap.objs.size:=by simpa using hb
  subst e;exact I1.fpOk (Wv _) (I1.hok.fresh (Wv _))
theorem P4{K:qJ}{g:TG}{tb:TS}(Pv:Nat->St->Hp->Prop)(h0:Pv 0 σ H)(hl:∀i σ H,i<=xs.length->Pv i σ H->Ab K H a xs)
  (hs:∀i x σ H,xs.reverse[i]?=some x->Pv i σ H->g x σ H λσ2 H2=>tb {D with nx:=Pv (i+1),ct:=Pv (i+1),bk:=D.nx} σ2 H2) (hd:∀σ H,Pv xs.length σ H->D.nx σ H):
  ∃W:Nat->Nat->St->Hp->Prop,(∃m,W 0 m σ H)/\∀i m σ H,W i m σ H ->
   ((T8 K a xs.length).stop i H/\D.nx σ H)\/((T8 K a xs.length).go i H/\∃N:St->Hp->Prop,(∀σ' H',N σ' H'->∃m',m'<m/\W (i+1) m' σ' H')/\∀x H',(T8 K a xs.length).yld i H x H'->g x σ H' λσ2 H2=>tb {D with nx:=N,ct:=N,bk:=D.nx} σ2 H2):=by
 refine⟨λi m σ H=>m=xs.length-i/\i<=xs.length/\Pv i σ H,⟨xs.length,by simp,Nat.zero_le _,h0⟩,?_⟩;rintro i m σ H ⟨rfl,hi,p⟩;have q:=hl i σ H hi p
 by_cases hlt:i<xs.length
 ·refine .inr ⟨⟨hlt,xs,q,rfl⟩,Pv (i+1),λσ' H' p'=>⟨xs.length-(i+1),by lia,rfl,hlt,p'⟩,λx H' y=>?_⟩;obtain⟨e,y⟩:=y;subst e;exact hs i x σ _ (y xs q) p
 ·have e:i=xs.length:=by lia
  subst e;exact .inl ⟨rfl,hd σ H p⟩
def Qy(K:qJ)(ta:TA):TE:=λσ H Q=>ta σ H λvs H1=>∃a xs,vs=[.ref a]/\Ab K H1 a xs/\∀p,H1 p=none->Q (.ref p) (Ae H1 p (.lst xs.reverse))
theorem P5{l:Expr}{p1 p2 pos1 pos2:Pos}(hc:X.calm=true)(hg:Gl X "reversed")(hm:X.mg "reversed"=none)(hg2:Gl X "list")(hm2:X.mg "list"=none)(ha:PA X [l] ta)(hs:starEach [l] X.env=[(false,eval l X.env)]:=by rfl)
  (hs2:starEach [.Call (.Name "reversed" p1) [l] [] pos1] X.env=[(false,eval (.Call (.Name "reversed" p1) [l] [] pos1) X.env)]:=by rfl):
  PE X (.Call (.Name "list" p2) [.Call (.Name "reversed" p1) [l] [] pos1] [] pos2) (Qy X.K ta):=by
 intro pins s σ H Q I h;refine Call_ (CP I hg2 hm2 Yf (Xb (T:="list") ?_ hs2 rfl));rw[hs2];show wpAny _ _ (spliced ((false,eval (.Call (.Name "reversed" p1) [l] [] pos1) X.env)::[])) _ _ s;refine Calls.spliced_cons (Call_ (CP I hg hm boot_reversed (Xb (BU (ha pos1 pins s σ H _ I h) λus s1 z9=>?_) hs rfl)));obtain⟨vs,H1,I1,r1,q1⟩:=z9;obtain⟨a,xs,e,hq,q⟩:=q1;subst e;cases r1 with
 |cons r rr =>
  cases rr;cases r;obtain⟨its,rv,pl,hz⟩:=I1.list hq;have hlen:=rv.length;refine call_reversed_list pl.isList ?_;refine Calls.spliced_nil ?_;have ne:a≠s1.heap.objs.size:=by obtain⟨o,e,_⟩:=pl.isList;exact Xd (Wz e)
  have hL:(s1.heap.push (revObj a ((its.toArray.size:Int)-1))).IsList a its.toArray:=pl.isList.at λo e=>Wu _ e
  refine Jm (s:={s1 with heap:=s1.heap.push (revObj a ((its.toArray.size:Int)-1))}) (I.ok.hd hc) ne ⟨_,W9 _ rfl,rfl,rfl⟩ hL (by rw[Xc,<-hlen];exact hz) λh' tk c' acc kp hD hacc=>?_;have kp2:∀b o,s1.heap.get? b=some o->h'.get? b=some o:=λb o e=>kp b o (Xd (Wz e)) (Wu _ e)
  have hf:H1 (s1.heap.push (revObj a ((its.toArray.size:Int)-1))).objs.size=none:=I1.hok.fresh (by rw[X5];lia);have rv2:Al xs.reverse acc.toList:=by rw[hacc];simpa using rv.reverse
  refine⟨.ref _,_,I1.laid (t':=tk) kp2 (by rw[X5];lia) ?_,rfl,q _ hf⟩;exact⟨by rw[List.length_reverse];exact hz,acc.toList,c',rv2,by simpa using hD⟩
def T9(K:qJ):R2:=λx y H Q=>∃(a b:Addr) (ns ms:List Int),x=.ref a/\y=.ref b/\Ab K H a (ns.map V.int)/\Ab K H b (ms.map V.int)/\Q (.bl (decide (ns=ms))) H
def UA(K:qJ):R2:=λx y H Q=>∃(a b:Addr) (ns ms:List Int),x=.ref a/\y=.ref b/\Ab K H a (ns.map V.int)/\Ab K H b (ms.map V.int)/\Q (.bl (!decide (ns=ms))) H
theorem Gc(hu:X.A.units+64<cLine):Ev X (compareOp .Eq) (T9 X.K):=by intro pins s σ H x y v u Q I rx ry h;obtain⟨a,b,ns,ms,rfl,rfl,ha,hb,q⟩:=h;cases rx;cases ry;obtain⟨va,ra,pa,_⟩:=I.list ha;obtain⟨vb,rb,pb,_⟩:=I.list hb;exact PySem.W.eq_intsK pa.isList (Dd ra) pb.isList (Dd rb) hu ⟨.bl _,H,I,rfl,q⟩
theorem Ru(hu:X.A.units+64<cLine):Ev X (compareOp .NotEq) (UA X.K):=by intro pins s σ H x y v u Q I rx ry h;obtain⟨a,b,ns,ms,rfl,rfl,ha,hb,q⟩:=h;cases rx;cases ry;obtain⟨va,ra,pa,_⟩:=I.list ha;obtain⟨vb,rb,pb,_⟩:=I.list hb;exact PySem.W.ne_intsK pa.isList (Dd ra) pb.isList (Dd rb) hu ⟨.bl _,H,I,rfl,q⟩
theorem Rv{P:Program}{w:World}{K:qJ}{mg:Str->Option Value}{base:Heap}{N:List Str}{cd:Value}{A:Around}{outer:List Env}{E:XK}:(DL CX P w K mg base N qual scope f cd A outer s H E).K=K:=rfl
theorem V7{p:List (Addr×Obj)}{W:St->XK}:(X.tr p W).K=X.K:=rfl
theorem UB{v:Value}:(X.hdl v).K=X.K:=rfl
theorem Qz{P:Program}{w:World}:Dg (Hj P w) X (λ_=>E0):=λ_ _ _ _ _ _ _ ⟨_,_,_,_,_,_,_,_,h⟩=>h.elim
theorem AG.new(h:H p=none)(o:HO):AG H (Ae H p o):=λb u q=>by rw[AI (BB q h)];exact q
theorem DR{q:Addr}{o:HO}(h:Ae H p o q=none):q≠p/\H q=none:=by
 have ne:q≠p:=λz=>by rw[z,AC]at h;cases h
 rw[AI ne]at h;exact⟨ne,h⟩
theorem UC{n:Nat}(h:n<=1000):n<=sizeLine:=X7 (AW h)
section
variable{p:Pos}{a c:Expr}{ta tc:TE}
theorem Dw{n:String}(hg:Gl X x)(hm:X.mg x=none)(hv:bootBuiltins x=some (.type n))(hn:x≠"__name__":=by decide)(hd:(x==("__debug__":Str))=false:=by decide):PE X (.Name x pos) (tC (.ty n)):=
 Pk (v:=.ty n) hg hm hv rfl hn hd
theorem LF(hg:Gl X x)(hm:X.mg x=some (.ref C))(hd:(x==("__debug__":Str))=false:=by decide):PE X (.Name x pos) (tC (.ref C)):=Lu (v:=.ref C) hg hm rfl hd
theorem OF{i:Int}{t:Tok}(hg:Gl X x)(hm:X.mg x=some (.int i t))(hd:(x==("__debug__":Str))=false:=by decide):PE X (.Name x pos) (tC (.int i)):=Lu (v:=.int i) hg hm ⟨t,rfl⟩ hd
theorem CS(hg:Gl X "isinstance")(hm:X.mg "isinstance"=none)(ha:PE X a ta)(hc:PE X c tc)(h1:starEach [a,c] X.env=(false,eval a X.env)::starEach [c] X.env:=by rfl)(h2:starEach [c] X.env=(false,eval c X.env)::starEach [] X.env:=by rfl)
  (h3:(backTo pos (starEach [c] X.env)).any (·.1)=false:=by rfl):PE X (.Call (.Name "isinstance" p) [a,c] [] pos) (T1 (Rs X.K) (AV ta (AV tc Bs))):=
 Aa OB hg hm PyProof.Rows.boot_isinstance (AA ha (AA hc AD h2) h1) (by decide) (by decide) h1 h3
end
theorem Ct{t u:TS}(Z:St->Hp->Prop)(h1:∀N:St->Hp->Prop,(∀σ' H',Z σ' H'->N σ' H')->t {D with nx:=N} σ H)(h2:∀σ' H',Z σ' H'->u D σ' H'):Kx t u D σ H:=h1 (u D) h2
theorem OG(k:Nat)(v:V):(List.replicate k [v]).flatten=List.replicate k v:=by
 induction k with
 |zero=>rfl
 |succ k ih=>rw[Xm,YB,ih,Xm];rfl
def Ac(K:qJ)(x:Str)(st:Stmt)(f:Addr):Prop:=(∃fd,B1 K x x st f fd)/\PySem.W.nsIn K mainGlobals x=some (some (.ref f))
theorem Ad{K:qJ}{st:Stmt}{kV pm ct:Value}(a:PySem.W.nsIn K mainGlobals x=some (some (.ref f)))
  (l:K.lookup f=some ⟨oc,od,.func (PySem.W.fnOf x x (DB st) (Bc st) (AH st) .none kV doc pm an cdv ct),osl⟩) (c:PySem.W.codeIn K cdv x=true) (k:PySem.W.keepIn K (.ref f)=true):Ac K x st f:=
 ⟨⟨_,N6 l c k⟩,a⟩
section
variable{prog:Program}{w:World}{A:Around}{K:qJ}{hp:Heap}{gs:Array GenState}{dr:Drawn}{tk:Nat}{oz:OsState}
variable{nm qn:Str}{c N:Addr}{bs tl bmB:List Value}{dy:Bool}{sn:List Str}{sub:List Value}{ab:Bool}{col:Option Bool}{dd:Option Addr}{k0 k1 k2 k3 k5:Option Value}{B nid iid:String}
theorem P6(F:ExcBaseFacts B nid iid bmB)(T:OwnTail hp bmB tl){mN:Str->Option Value}{Q:Fin->Shared->Prop}(kin:K.In hp)
  (hC:hp.get? c=some (excClassObj nm qn c N bs tl dy sn sub ab col dd k0 k1 k2 k3 k5 nid)) (hN:hp.Ns N mN) (hi:mN "__init__"=some (.ref f)) (hf:PySem.W.typeIn K (.ref f)=some (.type "function"))
  (k:∀hp' e,hp.objs.size<=e->Heap.MadeExcOf hp hp' e (.ref c) us->wpAny (model prog w) A (call (.ref f) (.ref e::us)) (λr s'=>r=.none/\Q (.done (.ret (.ref e))) s') E ⟨hp',gs,dr,tk,oz⟩) (hl:us.length<=sizeLine):
  wpAny (model prog w) A (Builtin.«type.__call__» ⟨.ref c::us,[]⟩) Q E ⟨hp,gs,dr,tk,oz⟩:=by
 repeat (first|with_reducible refine wpAny_madeBy_exc hC ?_|with_reducible refine wpAny_loadPart_at hC ?_|wp_step)
 refine codeAny_call_builtin_code (Code.quiet_builtin _ F.quiet) (wpAny_check_new_subU F F.hasB T hC (codeAny_exc_new_subU F F.hasB F T hC ?_ hl));show wpAny _ _ _ _ _ _;generalize e1:hp.push {cls:=.type "tuple",data:=.seq us.toArray}=hp1;have s1:hp1.objs.size=hp.objs.size+1:=by rw[<-e1,X5]
 have u1:∀b o,hp.get? b=some o->hp1.get? b=some o:=λb o z=>by rw[<-e1];exact Wu _ z
 have t1:hp1.get? hp.objs.size=some {cls:=.type "tuple",data:=.seq us.toArray}:=by rw[<-e1];exact W9 hp rfl
 generalize e2:hp1.push {cls:=.ref c,data:=.fields #[.ref hp.objs.size,.none,.none,.none,.bool false,.none]}=hp2;have u2:∀b o,hp1.get? b=some o->hp2.get? b=some o:=λb o z=>by rw[<-e2];exact Wu _ z
 have x2:hp2.get? (hp.objs.size+1)=some {cls:=.ref c,data:=.fields #[.ref hp.objs.size,.none,.none,.none,.bool false,.none]}:=by rw[<-e2,<-s1];exact W9 hp1 rfl
 have u3:∀b o,hp.get? b=some o->hp2.get? b=some o:=λb o z=>u2 b o (u1 b o z)
 have C2:=u3 _ _ hC;have N2:hp2.Ns N mN:=hN.keeps u3;have T2:=T.keeps u3;have kin2:K.In hp2:=λb o z=>u3 b o (kin b o z)
 have cc:(Value.ref c::tl).contains (.ref c)=true:=by simp
 unfold isInstance
 repeat (first|with_reducible refine wpAny_loadPart_at x2 ?_|(with_reducible refine wpAny_isSubtype_exc C2 ?_;rw[cc])|wp_step)
 show wpAny _ _ (typeLookup (.ref c) _) _ _ _;refine wpAny_typeLookup_tail C2 N2 T2 F.mroIs F.init.lookup ?_;rw[hi];refine wpAny_holding (qC ((PySem.W.bind_fn kin2 _ hf).at ?_));have made:Heap.MadeExcOf hp hp2 (hp.objs.size+1) (.ref c) us:=⟨u3,Yu (Ya _),hp.objs.size,x2,Yu (Wv _),u2 _ _ t1⟩;refine qC (wpAny_mono (k hp2 _ (Ya _) made) (λr s' hr=>?_) λ_ _ z=>z);obtain⟨er,hQ⟩:=hr;subst er
 wp_walk
 exact hQ
theorem P7(F:ExcBaseFacts B nid iid bmB)(T:OwnTail hp bmB tl){mN:Str->Option Value}(kin:K.In hp)
  (hC:hp.get? c=some (excClassObj nm qn c N bs tl dy sn sub ab col dd k0 k1 k2 k3 k5 nid)) (hN:hp.Ns N mN) (hi:mN "__init__"=some (.ref f)) (hf:PySem.W.typeIn K (.ref f)=some (.type "function"))
  (k:∀hp' e,hp.objs.size<=e->Heap.MadeExcOf hp hp' e (.ref c) us->wpAny (model prog w) (A.under (.builtin "type.__call__" ⟨.ref c::us,[]⟩)) (call (.ref f) (.ref e::us)) (λr s'=>r=.none/\Q (.ref e) s') E ⟨hp',gs,dr,tk,oz⟩) (hl:us.length<=sizeLine):
  wpAny (model prog w) A (call (.ref c) us) Q E ⟨hp,gs,dr,tk,oz⟩:=by
 have z1:=tc_lookup;have z2:=tc_bind (.ref c);have z3:(⟨hp,gs,dr,tk,oz⟩:Shared).TypeIs (.ref c) "type":=⟨_,hC,rfl⟩;refine wpAny_call (codeAny_of_tree ?_);show wpAny _ _ (callAny (.ref c) _) _ _ _
 repeat (any_goals (first|assumption|with_reducible refine wpAny_loadPart_at hC ?_|wp_step))
 refine⟨rfl,codeAny_call_builtin_at (Code.quiet_builtin _ (by decide +kernel)) entry_typeCall (wpAny_check_type_call_sub hC (P6 F T kin hC hN hi hf (λhp' e z m=>?_) hl))⟩;exact k hp' e z m
end
noncomputable def UD(K:qJ)(C R:Addr):Bool:=(PySem.W.clsIn K C).any λcd=>cd.mro==Value.ref C::Value.ref R::FS
structure XA(K:qJ)(C R:Addr)(f:Str):Prop where
 sa:PySem.W.findIn K (.ref C) "__setattr__"=some (some (.builtin "object.__setattr__"))
 hd:PySem.W.hasDictIn K C=true
 mr:UD K C R=true
 no:PySem.W.findIn K (.ref C) f=some none
 ek:Ih K C
section
variable{prog:Program}{w:World}{A:Around}{K:qJ}{x R:Addr}{ox:Obj}{vs:Array Value}{f:Str}{v:Value}
theorem M5{Q:Unit->Shared->Prop}(kin:K.In s.heap)(c:XA K C R f)(hx:s.heap.get? x=some ox)(hc:ox.cls=.ref C)(hd:ox.data=.fields vs)(hn:ox.dict=none)
  (k:∀h' dx,s.heap.get? dx=none->dx≠x->h'.get? x=some {ox with dict:=some dx}->h'.Ns1 dx (λy=>if y=f then some v else none)->(∀b o,b≠x->s.heap.get? b=some o->h'.get? b=some o)->Q () {s with heap:=h',toks:=s.toks+2}):
  wpAny (model prog w) A (setAttr (.ref x) f v) Q E s:=by
 obtain⟨oc,od,dt,sl⟩:=ox;dsimp only at hc hd hn;subst hc hd hn;have SF:=PySem.F.store_object;have SV:=PySem.F.store_ValueError;have I:PySem.W.InstAt s.heap x ⟨.ref C,none,.fields vs,sl⟩ C none:=⟨hx,rfl,rfl,trivial⟩;refine PySem.W.set_plain kin I c.sa ?_;obtain⟨cd,hcd,hm0⟩:=PySem.W.any_some c.mr;have hm1:cd.mro=Value.ref C::Value.ref R::FS:=beq_iff_eq.mp hm0;obtain⟨cd',hcd',hdd⟩:=PySem.W.any_some c.hd;have ecd:cd'=cd:=Option.some.inj (hcd'.symm.trans hcd);subst ecd;generalize es:({s with toks:=s.toks+1}:Shared)=s1;have hp1:s1.heap=s.heap:=by rw[<-es]
 have ty:PySem.W.Looks (model prog w) s1.heap (typeOf (.ref x)) (.ref C):=by rw[hp1];exact I.type
 have mo:PySem.W.Looks (model prog w) s1.heap (isInstance (.ref x) (.type "object")) true:=ty.andThen (by rw[hp1];exact PySem.W.looks_mroIn kin c.ek.mo);have ml:PySem.W.Looks (model prog w) s1.heap (mroOf (.ref C)) cd'.mro:=by rw[hp1];exact (PySem.W.looks_clsIn kin hcd).andThen .now
 have lf:PySem.W.Looks (model prog w) s1.heap (typeLookup (.ref C) f) none:=by rw[hp1];exact Yv kin c.no
 refine codeAny_call_builtin SF.slot.plain SF.entry (@PySem.W.check_slot (model prog w) _ _ s1 "object.__setattr__" "object" "__setattr__" (.ref x) [.str f s.toks,v] [] _ SF.kind SF.split mo (SF.args (.ref x) (.str f s.toks) v) ?_);rw[PySem.W.osa_eq,refuse_eq];refine qC (qC (ty.here (qC (ml.here ?_))));rw[hm1,refuseLoop_ref,refuseLoop_ref,SV.passes];refine qD (qC (ty.here (qC (lf.here (qC ?_)))));refine qD (a:=(none:Option Value)) ?_;have hx1:s1.heap.get? x=some ⟨.ref C,none,.fields vs,sl⟩:=by rw[hp1];exact hx
 have lc:PySem.W.Looks (model prog w) s1.heap (classData C) cd':=by rw[hp1];exact PySem.W.looks_clsIn kin hcd
 refine qC (qD (qC (qC (wpAny_loadPart hx1 (qC (lc.here ?_))))));rw[hdd];have nx:x≠s1.heap.objs.size:=Xd (Wz hx1);have hx2:(s1.heap.push {cls:=.type "dict",data:=.dict #[]}).get? x=some ⟨.ref C,none,.fields vs,sl⟩:=Wu _ hx1;refine qC (wpAny_alloc' (qC (wpAny_update' hx2 (qD ?_))));generalize e3:(s1.heap.push {cls:=.type "dict",data:=.dict #[]}).update x (λo=>{cls:=o.cls,dict:=some s1.heap.objs.size,data:=o.data,slots:=o.slots})=h3;have d3:h3.get? s1.heap.objs.size=some {cls:=.type "dict",data:=.dict #[]}:=by rw[<-e3];exact (Heap.get?_update_ne _ _ _ _ nx.symm).trans (W9 s1.heap rfl)
 have x3:h3.get? x=some ⟨.ref C,some s1.heap.objs.size,.fields vs,sl⟩:=by rw[<-e3];exact YT _ hx2 rfl
 have o3:∀b o,b≠x->s1.heap.get? b=some o->h3.get? b=some o:=λb o nb z=>by rw[<-e3];exact (Heap.get?_update_ne _ _ _ _ nb).trans (Wu _ z)
 have n3:h3.Ns s1.heap.objs.size (λ_=>none):=⟨_,#[],_,d3,rfl,λe he=>qG he (by simp),λ_=>rfl⟩;show wpAny _ _ (Builtin.ObjectAttr.storeInDict s1.heap.objs.size (.str f s.toks) f v) _ _ _;unfold Builtin.ObjectAttr.storeInDict Builtin.ObjectAttr.newKeyGuard;refine qC (qD (qC (wpAny_nsSet1 (Heap.Ns1.of_empty n3) λh4 n4 sb=>?_)));obtain⟨oD,esD,epD,hoD,hdD,hcD⟩:=n4.count (PySem.Within.cons f v PySem.Within.nil);refine qC (wpAny_lookBehind hoD (by rw[hdD];exact pastItsLine_dict (Xa hcD (by rw[Xo,Ym,sizeLine_eq];lia))) ?_);subst es;exact qD (k h4 _ (Yu (Wv _)) nx.symm ((sb.2 x nx).trans x3) n4 λb o nb z=>(sb.2 b (Xd (Wz z))).trans (o3 b o nb z))
end
noncomputable def E4(H:Hp)(a:Addr):Hp:=λb=>if b=a then none else H b
theorem M6:E4 H a a=none:=by unfold E4;rw[qF rfl]
theorem Cg(h:b≠a):E4 H a b=H b:=by unfold E4;rw[qE h]
theorem IH{o:HO}(h:E4 H a b=some o):b≠a/\H b=some o:=by
 have ne:b≠a:=λz=>by rw[z,M6]at h;cases h
 rw[Cg ne]at h;exact⟨ne,h⟩
section
variable{A:Around}{R:Addr}{f:Str}{n:Bool}
theorem P8{y:V}{Q:Unit->Shared->Prop}(I:AU X pins σ H s)(e:H a=some (JX a (.ref C) none n))(c:XA X.K C R f)(ry:An y u)
  (h:∀dx s',H dx=none->AU X pins σ (Ae (Ae H a (JX a (.ref C) (some dx) n)) dx (.xd [(f,y)])) s'->Q () s'):wpAny (model X.prog X.w) A (setAttr (.ref a) f u) Q E s:=by
 obtain⟨⟨ox,vs,hx,hc,hd,hn,hfr⟩,_,_⟩:=(show Ao X.prog X.w H s.heap a (.ext (D6 a (.ref C) none n)) from I.hok a _ e);refine M5 I.kIn c hx hc hd hn λh' dx nd ne x1 n1 k1=>?_
 have hdx:H dx=none:=by
  cases q:H dx with
  |none=>rfl
  |some o =>
   obtain⟨ob,z⟩:=(I.hok dx o q).somewhere;rw[nd]at z;cases z
 have na:∀b,H b=none->b≠a:=λb z w=>by rw[w,e]at z;cases z
 have nb:∀b o,s.heap.get? b=some o->b≠dx:=λb o z w=>by rw[w,nd]at z;cases z
 have nh:∀b o,H b=some o->b≠dx:=λb o z=>BB z hdx
 have at2:∀b,b≠a->b≠dx->Ae (Ae H a (JX a (.ref C) (some dx) n)) dx (.xd [(f,y)]) b=H b:=λb z1 z2=>by rw[AI z2,AI z1]
 refine h dx _ hdx (I.un (h':=h') (t':=s.toks+2) ⟨λb o q z _ _=>k1 b o (na b z) q,λb o q z _ _=>⟨o.slots,k1 b o (na b z) q⟩,λb o q z _=>by rw[at2 b (na b z) (nb b o q)];exact z,λb o q _=>?_,λb xs q=>?_,λb o v q=>?_,λb ps q=>?_⟩ λb v q=>?_)
 ·by_cases w:b=a
  ·rw[w];exact⟨_,x1⟩
  ·exact⟨o,k1 b o w q⟩
 ·rw[at2 b (λw=>by rw[w,e]at q;cases q) (nh b _ q)];exact q
 ·rw[at2 b (λw=>by rw[w,e]at q;cases q) (nh b _ q)];exact q
 ·exact⟨#[],by rw[at2 b (λw=>by rw[w,e]at q;cases q) (nh b _ q),q];simp⟩
 ·by_cases w:b=dx
  ·rw[w,AC]at q;cases q;rw[w];refine⟨_,n1,λg=>?_⟩
   by_cases z:g=f
   ·rw[z,qF rfl,List.lookup_cons_self];exact ry
   ·rw[qE z,YS,beq_false_of_ne z];exact True.intro
  ·rw[AI w]at q
   by_cases z:b=a
   ·rw[z,AC]at q;cases q;rw[z];exact⟨⟨_,vs,x1,hc,hd,rfl,hfr⟩,⟨_,x1⟩,λh1 h2 ⟨o,ws,e,r⟩ k=>⟨o,ws,k o e,r⟩⟩
   ·rw[AI z]at q;refine (I.hok b v q).stay (λc2 o hc2 r=>k1 c2 o ?_ r) (λc2 r=>by rw[at2 c2 (λw2=>by rw[w2,e]at r;cases r) (nh c2 _ r)];exact r) λc2 xs r=>by rw[at2 c2 (λw2=>by rw[w2,e]at r;cases r) (nh c2 _ r)];exact r
    rcases hc2 with w2|w2
    ·rw[w2];exact z
    ·intro w3;rw[w3,e]at w2;cases w2
end
noncomputable def Vn(K:qJ)(C f:Addr):Bool:=(K.lookup C).any λo=>match o with
 | ⟨.type t,_,.cls d,sl⟩=>t=="type"&&(match d.mro with
  |.ref c::tl=>c==C&&PySem.W.tailIn K FS tl
  |_=>false)&&(match sl.toList with
  |[_,_,_,_,some (.builtin m),_]=>m=="ValueError.__new__"
  |_=>false)&&!d.hasDel&&PySem.W.nsOkIn K d.ns&&PySem.W.nsIn K d.ns "__init__"==some (some (.ref f))
 |_=>false
theorem P9{K:qJ}{N:Addr}{m:Str->Option Value}{v:Value}(kin:K.In h)(g:h.Ns N m)(e:PySem.W.nsIn K N x=some (some v)):m x=some v:=by
 obtain⟨o,es,ep,ho,hd,_,hf⟩:=g;unfold PySem.W.nsIn at e
 split at e
 ·rename_i es' n' sl q
  have z:=kin _ _ q;rw[ho]at z;cases z;cases hd
  split at e
  ·rename_i en he
   cases e;rw[<-hf];unfold nsFind findBy;rw[<-Array.find?_toList,he];rfl
  ·split at e<;>cases e
 ·cases e
theorem MF{K:qJ}(kin:K.In h)(q:Vn K C f=true):
  ∃tl N nm qn bs dy sn sub ab col dd k0 k1 k2 k3 k5 mN,h.get? C=some (excClassObj nm qn C N bs tl dy sn sub ab col dd k0 k1 k2 k3 k5 "ValueError.__new__")/\h.Ns N mN/\mN "__init__"=some (.ref f)/\OwnTail h FS tl:=by
 unfold Vn at q;cases ho:K.lookup C with
 |none=>rw[ho]at q;cases q
 |some o =>
  rw[ho]at q;simp only[Option.any_some]at q
  split at q
  next t dd d sl =>
   simp only[Bool.and_eq_true,beq_iff_eq,Bool.not_eq_true']at q;obtain⟨⟨⟨⟨⟨e1,e2⟩,e3⟩,e4⟩,e5⟩,e6⟩:=q;subst e1
   split at e2
   next c tl hm =>
    simp only[Bool.and_eq_true,beq_iff_eq]at e2;obtain⟨e7,e8⟩:=e2;subst e7
    split at e3
    next k0 k1 k2 k3 m k5 hs =>
     simp only[beq_iff_eq]at e3;subst e3;obtain⟨nm,bs,mro,N,qn,dy,sn,sub,ab,col,del⟩:=d;dsimp only at hm e4 e5 e6;subst hm e4
     have e9:sl=#[k0,k1,k2,k3,some (.builtin "ValueError.__new__"),k5]:=by obtain⟨l⟩:=sl;simp only at hs;rw[hs]
     subst e9;have g:h.Ns N (h.nsMap N):=.of_isNs (PySem.W.isNs_of_in kin e5);exact⟨tl,N,nm,qn,bs,dy,sn,sub,ab,col,dd,k0,k1,k2,k3,k5,_,kin _ _ ho,g,P9 kin g e6,PySem.W.tail_of_in kin e8⟩
    next=>cases e3
   next=>cases e2
  next=>cases q
structure Vo(K:qJ)(C f:Addr):Prop where
 ci:Vn K C f=true
 fn:PySem.W.typeIn K (.ref f)=some (.type "function")
 kp:PySem.W.keepIn K (.ref C)=true
section
variable{k:Nat}{vs:List V}
theorem OH{Q:VK}(M:Vo X.K C f)(F:EY X.prog X.w X.K X.mg X.base (Hj X.prog X.w) k f fd ps sp)(hr:Bn (k+1) X.A)(hb:D3 X.K fd ps [])(I:AU X pins σ H s)(r:Al vs us)(hz:vs.length<=sizeLine)
  (h:∀a,H a=none->sp (.ref a::vs) (Ae H a (JX a (.ref C) none true)) (λv H2=>v=.non/\Q (.ref a) H2) E0):
  wpAny (model X.prog X.w) X.A (call (.ref C) us) (λv s'=>∃a H',v=.ref a/\s.heap.get? a=none/\AU X pins σ H' s'/\Q (.ref a) H') X.xe s:=by
 obtain⟨tl,N,nm,qn,bs,dy,sn,sub,ab,col,dd,k0,k1,k2,k3,k5,mN,hO,hN,hi,T⟩:=MF I.kIn M.ci;obtain⟨hp,g,d,t,os⟩:=s;refine P7 Ys T I.kIn hO hN hi M.fn (λhp' e hsz m=>?_) (by rw[<-r.length];exact hz);obtain⟨t',he,ht,_⟩:=m.there
 have I2:AU X pins σ (Ae H e (JX e (.ref C) none true)) ⟨hp',g,d,t,os⟩:=I.laid (t':=t) m.keeps hsz
  ⟨⟨_,_,he,rfl,rfl,rfl,λ_=>⟨t',rfl⟩⟩,⟨_,he⟩,λh1 h2 ⟨o,ws,e,r⟩ k=>⟨o,ws,k o e,r⟩⟩
 have hq:=h e (I.hok.fresh hsz);have r2:Al (V.ref e::vs) (Value.ref e::us):=.cons rfl r
 have hl:(Value.ref e::us++[]).length=ps.length:=by rw[Xn,<-r2.length];exact F.len _ _ _ _ hq
 have bb:=hb ⟨hp',g,d,t,os⟩ (Value.ref e::us) I2.kIn hl;rw[Xn]at bb;refine wpAny_call (codeAny_mono (F.run _ X.stack _ _ ⟨Value.ref e::us,[]⟩ (Value.ref e::us) _ _ E0 (hr.make C us []) (I2.env0.make C us []) bb r2 hq) λrs s2 hq2=>?_);rcases rs with er|fl
 ·obtain⟨_,_,_,_,_,_,_,_,z⟩:=hq2;exact z.elim
 ·cases fl with
  |ret u =>
   obtain⟨v,H',I3,rv,ev,q3⟩:=I2.after hq2;subst ev;exact⟨rv,e,H',rfl,m.new,I3,q3⟩
  |next=>exact False.elim hq2
  |brk=>exact False.elim hq2
  |cont=>exact False.elim hq2
end
def Q0(C:Addr)(sp:Sp)(t:TA):TE:=λσ H Q=>t σ H λvs H1=>vs.length<=sizeLine/\∀a,H1 a=none->sp (.ref a::vs) (Ae H1 a (JX a (.ref C) none true)) (λv H2=>v=.non/\Q (.ref a) H2) E0
def Ii(C:Addr)(sp:Sp)(E:XK)(t:TA):TS:=λ_ σ H=>Q0 C sp t σ H λv H2=>∃a D,v=.ref a/\H2 a=some (JX a (.ref C) D true)/\E (.ref C) D (E4 H2 a)
def UE(K:qJ)(ta tv:TE)(f:Str):TS:=λD σ H=>tv σ H λy H1=>ta σ H1 λx H2=>∃a C R n,x=.ref a/\H2 a=some (JX a (.ref C) none n)/\XA K C R f/\∀dx,H2 dx=none->D.nx σ (Ae (Ae H2 a (JX a (.ref C) (some dx) n)) dx (.xd [(f,y)]))
def Ij(X:Cx)(C:Value)(E:XK):Prop:=∀(pins:List (Addr×Obj)) (σ:St) (H:Hp) (s:Shared) (a:Addr) (D:Option Addr),AU X pins σ H s->X.s₀.heap.get? a=none->H a=some (JX a C D true)->E C D (E4 H a)->X.xe (.ref a) s
section
variable{P:Program}{w:World}{K:qJ}{mg:Str->Option Value}{base:Heap}{N:List Str}{cd:Value}{A:Around}{outer:List Env}{E:XK}
theorem E5{C:Value}:Ij (DL (IG nc P w) P w K mg base N qual scope f cd A outer s H E) C E:=by
 intro pins σ H1 s1 a D I ha0 ea hE;generalize hX:DL (IG nc P w) P w K mg base N qual scope f cd A outer s H E=X at I ha0⊢;have hst:X.stack=X.env::X.outer:=by rw[<-hX];rfl
 have hfr:X.env.frame=some X.env.locals:=by rw[<-hX];rfl
 have hxe:X.xe=λe s'=>wpAny (model P w) X.A (leaving X.env e) (λ_ s''=>IG nc P w X.outer X.H₀ X.s₀ E e s'') (λe' s''=>IG nc P w X.outer X.H₀ X.s₀ E e' s'') s':=by rw[<-hX];rfl
 have hex:X.ex=[]:=by rw[<-hX];rfl
 have hp:X.prog=P:=by rw[<-hX];rfl
 have hw:X.w=w:=by rw[<-hX];rfl
 subst hp hw;rw[hxe];obtain⟨⟨oe,vs,he,hcl,hd,hdt,hfs⟩,_,_⟩:=(show Ao X.prog X.w H1 s1.heap a (.ext (D6 a C D true)) from I.hok a _ ea);obtain⟨t,hv⟩:=hfs rfl;subst hv hcl;have fr:=I.stack;have hin:∀env∈X.stack,∀b,env.frame=some b->b∈a::Cm X.stack:=λenv he b hb=>XD _ (YH.mpr ⟨env,he,hb⟩)
 have fr':s1.heap.FunFrames (PySem.W.hideAll s1.heap (a::Cm X.stack)) (X.env::X.outer):=by rw[<-hst];exact PySem.W.funFrames_hide fr hin
 have hen:(PySem.W.hideAll s1.heap (a::Cm X.stack)).get? a=none:=PySem.W.hideAll_none _ (W7 ..);refine wpAny_mono (KT.run (Ei _ _) (wpAny_leaving_firstW (Q:=λ_ s2=>∃h2,s2={s1 with heap:=h2}/\Heap.LeftW (PySem.W.hideAll s1.heap (a::Cm X.stack)) (X.env::X.outer) a oe.cls (.ref t) s1.heap h2) (E:=λ_ _=>False) (a0:=.ref t) (by rw[<-hst];exact I.ok.frames) fr' hfr he (λb o q=>PySem.W.of_hideAll _ q) hen hd rfl rfl λh2 z=>⟨h2,rfl,z⟩)) (λ_ s2 q=>?_) λ_ _ q=>q.1.elim
 obtain⟨⟨h2,rfl,k1,⟨k0,kk,k2⟩,k3,k4⟩,dk⟩:=q;have fl:Heap.FlyingW (PySem.W.hideAll s1.heap (a::Cm X.stack)) X.outer a oe.cls (.ref t) h2:=⟨k1,hen,k2,k3⟩
 have naf:a∉Cm X.stack:=λz=>by have y:=I.stkFree a z;rw[ea]at y;cases y
 have nin:∀b,b∉Cm X.stack->b≠a->b∉a::Cm X.stack:=λb z1 z2 z=>(XE.mp z).elim z2 z1
 have kept:∀b o,s1.heap.get? b=some o->b∉Cm X.stack->b≠a->h2.get? b=some o:=λb o q hb hn=>k1 b o (YA _ q (nin b hb hn))
 have nea:∀b,H1 b=none->b≠a:=λb z w=>by rw[w,ea]at z;cases z
 have slt:∀b o,s1.heap.get? b=some o->b∈Cm X.stack->∃sl,h2.get? b=some {o with slots:=sl}:=λb o q hb=>k4 b o q (I.frameData q hb)
 obtain⟨ob,hob,_⟩:=fl.there
 have un1:Un (Cm X.stack) [] H1 (E4 H1 a) s1.heap h2:=⟨λb o q z hb _=>kept b o q hb (nea b z),λb o q _ hb _=>slt b o q hb,λb o q z _=>by rw[Cg (nea b z)];exact z,λb o q _=>by
  by_cases hb:b∈Cm X.stack
  ·obtain⟨sl,z⟩:=slt b o q hb;exact⟨_,z⟩
  ·by_cases hn:b=a
   ·rw[hn];exact⟨ob,hob⟩
   ·exact⟨o,kept b o q hb hn⟩,λb xs q=>by rw[Cg λz=>by rw[z,ea]at q;cases q];exact q,λb o u q=>by rw[Cg λz=>by rw[z,ea]at q;cases q];exact q,λb ps q=>⟨#[],by rw[Cg (λz=>by rw[z,ea]at q;cases q),q];simp⟩⟩
 have hok1:DQ X.prog X.w (E4 H1 a) h2:=λb u q=>by
  obtain⟨hn,q'⟩:=IH q;refine (I.hok b u q').stay (λc v hc r=>?_) (λc z=>by rw[Cg λz2=>by rw[z2,ea]at z;cases z];exact z) λc xs z=>by rw[Cg λz2=>by rw[z2,ea]at z;cases z];exact z
  rcases hc with z|z
  ·refine kept c v r (λy=>?_) (by rw[z];exact hn);have y':=I.stkFree c y;rw[z,q']at y';cases y'
  ·refine kept c v r (λy=>?_) λy=>?_
   ·have y':=I.stkFree c y;rw[z]at y';cases y'
   ·rw[y,ea]at z;cases z
 have J:AU X pins σ (E4 H1 a) {s1 with heap:=h2,toks:=s1.toks}:=I.call (g':=s1.gens) (d':=s1.drawn) (ch:=[]) un1 hok1 I.bare λb z=>qG z (by simp)
 have un:Un (Cm X.outer) [] X.H₀ (E4 H1 a) X.s₀.heap h2:=by have z:=J.base;rw[hex]at z;exact z
 refine⟨a,oe.cls,.ref t,D,_,E4 H1 a,rfl,⟨J.os,J.bare,un,J.hok,fl,λb o q hb o' q'=>?_,λb u q o' q'=>?_,⟨ob,hob,(dk.get he hob).1.trans hdt⟩,λ_=>⟨ob,hob,(dk.get he hob).2.trans (by unfold Dv;rw[hd];rfl)⟩⟩,hE⟩
 ·obtain⟨o1,q1⟩:=I.base.there b o q (by rw[hex];simp)
  have hn:b∉Cm X.stack:=λz=>by
   rcases XE.mp (I.stkSub b z) with y|y
   ·exact qG (W2 (Wz q) I.ok.above) (by rw[y];exact XN _)
   ·exact hb y
  have hne:b≠a:=λz=>by rw[z,ha0]at q;cases q
  have q2:=kept b o1 q1 hn hne;rw[q']at q2;cases q2;exact YA _ q1 (nin b hn hne)
 ·obtain⟨hne,qq⟩:=IH q;have hn:b∉Cm X.stack:=λz=>by have y:=I.stkFree b z;rw[qq]at y;cases y
  obtain⟨o1,r⟩:=(I.hok b u qq).somewhere;have q2:=kept b o1 r hn hne;rw[q']at q2;cases q2;exact YA _ r (nin b hn hne)
end
section
variable{M:Model}{A:Around}{env:Env}{nm qn:Str}{N:Addr}{bs tl:List Value}{dy:Bool}{sn:List Str}{sub:List Value}{ab:Bool}{col:Option Bool}{dd:Option Addr}{k0 k1 k2 k3 k5:Option Value}{nid:String}
theorem LG{x:Sem Value}{Q:Flow->Shared->Prop}(hb:tl.contains (.type "BaseException")=true)(hh:A.handled=none)
  (h:wpAny M A x (λv s1=>∃(a t:Addr) (D:Option Addr) (sl:Array (Option Value)),v=.ref a/\s1.heap.get? C=some (excClassObj nm qn C N bs tl dy sn sub ab col dd k0 k1 k2 k3 k5 nid) /\
   s1.heap.get? a=some ⟨.ref C,D,.fields #[.ref t,.none,.none,.none,.bool false,.none],sl⟩/\E (.ref a) s1) E s):wpAny M A (raiseStmt env (some x) none) Q E s:=by
 have hcB:(Value.ref C::tl).contains (.type "BaseException")=true:=by rw[List.contains_cons,hb,Bool.or_true]
 unfold raiseStmt;refine qC (wpAny_mono h (λv s1 h1=>?_) λ_ _ x=>x);obtain⟨a,t,D,sl,rfl,hC,he,hE⟩:=h1;obtain⟨hp,g,d,tk,os⟩:=s1
 repeat (first|with_reducible refine wpAny_loadPart_at hC ?_|with_reducible refine wpAny_loadPart_at he ?_|(with_reducible refine wpAny_isSubtype_exc hC ?_;rw[hcB])|wp_step)
 exact wpAny_raiseNew_none hh hE
end
section
variable{k:Nat}{fld:Str}{E:XK}{e o value:Expr}{t:TA}{ta tv:TE}{np cpos pos':Pos}
theorem M7(hc:X.calm=true)(M:Vo X.K C f)(F:EY X.prog X.w X.K X.mg X.base (Hj X.prog X.w) k f fd ps sp)(hr:Bn (k+1) X.A)(hb:D3 X.K fd ps [])(hg:Gl X x)(hm:X.mg x=some (.ref C))(hx:Ij X (.ref C) E)(ha:PA X (e::es) t)(hex:X.ex=[]:=by rfl)
  (hdb:(x==("__debug__":Str))=false:=by decide) (he:starEach (e::es) X.env=(false,eval e X.env)::starEach es X.env:=by rfl) (hpl:(backTo cpos (starEach es X.env)).any (·.1)=false:=by rfl):
  PS X (.Raise (some (.Call (.Name x np) (e::es) [] cpos)) none pos) (Ii C sp E t):=by
 intro pins s σ H D I h;obtain⟨tl,N,nm,qn,bs,dy,sn,sub,ab,col,dd,k0,k1,k2,k3,k5,mN,hO,hN,hni,T⟩:=MF I.mod.kin M.ci;have FB:=Ys;rw[arm_exec_Raise]
 have call:wpAny (model X.prog X.w) X.A (eval (.Call (.Name x np) (e::es) [] cpos) X.env) (λv s2=>∃(a t:Addr) (D:Option Addr) (sl:Array (Option Value)),v=.ref a/\s2.heap.get? C=some (excClassObj nm qn C N bs tl dy sn sub ab col dd k0 k1 k2 k3 k5 "ValueError.__new__") /\
   s2.heap.get? a=some ⟨.ref C,D,.fields #[.ref t,.none,.none,.none,.bool false,.none],sl⟩/\X.xe (.ref a) s2) X.xe s:=by
  refine wpAny_Call_Name_kw (EK I hg hm ?_ hdb);refine PySem.W.callWith_K (h₀:=X.base) I.ok.mod.kin M.kp (BU (ha cpos pins s σ H _ I h) λus s1 ⟨vs,H1,I1,r,hz,q⟩=>⟨I1.kIn,?_⟩) he hpl;refine BU (OH (Q:=λv H2=>∃a D,v=.ref a/\H2 a=some (JX a (.ref C) D true)/\E (.ref C) D (E4 H2 a)) M F hr hb I1 r hz q) λv s2 z=>?_;obtain⟨a,H2,ev,hn,I2,a',D',ea',h2,hE⟩:=z;cases ea';obtain⟨⟨oe,vs',he',hcl,hd,hdt,hfs⟩,_,_⟩:=(show Ao X.prog X.w H2 s2.heap a (.ext (D6 a (.ref C) D' true)) from I2.hok a _ h2);obtain⟨t',hv⟩:=hfs rfl;subst hv;obtain⟨c1,c2,c3,c4⟩:=oe;dsimp only at hcl hd hdt;subst hcl hd hdt;refine⟨a,t',_,_,ev,I2.bk _ _ hO,he',hx pins σ H2 s2 a _ I2 ?_ h2 hE⟩;cases q0:X.s₀.heap.get? a with
  |none=>rfl
  |some o0 =>
   obtain⟨o1,q1⟩:=I1.base.there a o0 q0 (by rw[hex];simp);rw[hn]at q1;cases q1
 exact qC (wpAny_standAt (LG (C:=C) (nm:=nm) (qn:=qn) (N:=N) (bs:=bs) (tl:=tl) (dy:=dy) (sn:=sn) (sub:=sub) (ab:=ab) (col:=col) (dd:=dd) (k0:=k0) (k1:=k1) (k2:=k2) (k3:=k3) (k5:=k5) (nid:="ValueError.__new__") (T.hasType FB.hasBase) (I.ok.hd hc)
  (qC (wpAny_mono call (λv s3 h3=>qC (wpAny_standAt (qD h3))) λ_ _ z=>z))))
theorem Rw(ha:PE X o ta)(hv:PE X value tv)(hs:swapsWith value (some (.Attribute o fld pos')) pos.line X.env=pure false:=by rfl):PS X (.Assign [.Attribute o fld pos'] value pos) (UE X.K ta tv fld):=by intro pins s σ H D I h;refine plainObj_wpAny_Assign_Attribute (BU (hv pins s σ H _ I h) λu s1 ⟨y,H1,I1,ry,q⟩=>BU (ha pins s1 σ H1 _ I1 q) λov s2 z9=>?_) hs;obtain⟨x,H2,I2,rx,a,C,R,n,ex,ea,c,q2⟩:=z9;subst ex;obtain rfl:ov=Value.ref a:=rx;exact P8 I2 ea c ry λdx s3 hdx I3=>⟨σ,_,I3,q2 dx hdx⟩
end
theorem AU.turnedNew{o:HO}(I:AU X pins σ H s)(hf:∀b∈ch,Ew X pins H b)(k:∀b u,b∉ch->s.heap.get? b=some u->h'.get? b=some u)(hp:s.heap.objs.size<=p)
  (new:Ao X.prog X.w (Ae H p o) h' p o):AU X pins σ (Ae H p o) {s with heap:=h',toks:=t'}:=by
 have hpn:H p=none:=I.hok.fresh hp;have nit:∀b u,H b=some u->b∉ch:=λb u e z=>by rw[(hf b z).1]at e;cases e
 have np:∀b u,s.heap.get? b=some u->b≠p:=λb u e=>Xd (W2 (Wz e) hp)
 refine I.step (g':=s.gens) (d':=s.drawn) (ch:=ch) (λb hb=>⟨(hf b hb).2.2.2.1,(hf b hb).2.1,(hf b hb).2.2.2.2.1,(hf b hb).2.2.2.2.2⟩) (λb u _ _ hc e _=>k b u hc e) (λb u _ _ hc e _=>⟨u.slots,k b u hc e⟩)
  (λb u _ e n=>by rw[AI (np b u e)];exact n) (λb u hc e=>⟨u,k b u hc e⟩) (λb xs e=>by rw[AI (BB e hpn)];exact e) (λb u v e=>by rw[AI (BB e hpn)];exact e)
  (λb ps e=>⟨#[],by rw[AI (BB e hpn),e];simp⟩) (λm hm=>?_) (λb u e=>?_) I.bare
 ·obtain⟨o,es,ep,ho,r⟩:=hm;exact⟨o,es,ep,k _ o (λz=>(hf _ z).2.1 rfl) ho,r⟩
 ·by_cases z:b=p
  ·subst z;rw[AC]at e;cases e;exact new
  ·rw[AI z]at e;refine (I.hok b u e).stay (λc v hc q=>k c v ?_ q) (λc q=>by rw[AI (BB q hpn)];exact q) λc xs q=>by rw[AI (BB q hpn)];exact q
   rcases hc with y|y
   ·rw[y];exact nit b u e
   ·exact nit c _ y
noncomputable def UF(K:qJ)(a:Addr):It:=
 ⟨λi H=>∃xs x,Ab K H a xs/\xs[i]?=some x,λi H v H'=>∃p x,v=.ref p/\H p=none/\H'=Ae H p (.tup [.int i,x])/\∀xs,Ab K H a xs->xs[i]?=some x,λi H=>∃xs,Ab K H a xs/\xs.length<=i⟩
variable{elts:List Expr}{tpos:Pos}
theorem M9{P:Program}{w:World}{K:qJ}{ctx}(a e it:Addr)(hne:e≠it):
  GV P w K (.Tuple elts ctx tpos) (UF K a) [e,it] e (λi h=>(∃old,IsEnum h e it ((i:Nat):Int) old)/\h.IsListIter it a i) where
 mem:=by simp
 obj:=λi h st b hb=>by
  obtain⟨⟨old,q⟩,o,e1,c,d⟩:=st;rcases XE.mp hb with z|z
  ·rw[z];exact⟨_,q,λv y=>by cases y⟩
  ·rw[Wr.mp z];exact⟨o,e1,λv y=>by rw[d]at y;cases y⟩
 keep:=λi h h' st k=>by obtain⟨⟨old,q⟩,li⟩:=st;exact⟨⟨old,k e (by simp) _ q⟩,li.at λo z=>k it (by simp) o z⟩
 item:=by
  intro X hP hw hK hc i pins s σ H E I hf st hg;subst hP hw hK;obtain⟨xs,x,hq,hx⟩:=hg;obtain⟨its,rv,p,hz⟩:=I.list hq;obtain⟨u,hu,ru⟩:=rv.get hx;obtain⟨⟨old,he⟩,li⟩:=st;refine wpAny_pyNext_enum_item he li p.isList (x:=u) (by simpa using hu) hne λh1 out li1 ht hsz k1=>?_;refine⟨_,rfl,wpAny_letOwnedTupleGo_enum out λh2 he2 sb=>?_⟩
  have k2:∀b o,b∉[e,it]->s.heap.get? b=some o->h2.get? b=some o:=λb o hb z=>by
   have hb1:b≠e:=λy=>hb (by simp[y])
   have hb2:b≠it:=λy=>hb (by simp[y])
   exact (sb.2 b hb1).trans (k1 b o hb1 hb2 z)
  have hpe:s.heap.objs.size≠e:=YY (Wz he);have ht2:h2.get? s.heap.objs.size=some {cls:=.type "tuple",data:=.seq #[.int ((i:Nat):Int) s.toks,u]}:=(sb.2 _ hpe).trans ht;have hn:H s.heap.objs.size=none:=I.hok.fresh (Wv _);refine⟨.ref s.heap.objs.size,Ae H s.heap.objs.size (.tup [.int ((i:Nat):Int),x]),I.turnedNew (h':=h2) (t':=s.toks+1) hf k2 (Wv _) ?_,rfl,⟨_,x,rfl,hn,rfl,λys hy=>by rw[I.list_inj hy hq];exact hx⟩,⟨⟨u,?_⟩,?_⟩,λb hb=>?_⟩
  ·exact⟨by show 2<=sizeLine;decide,[.int ((i:Nat):Int) s.toks,u],.cons ⟨_,rfl⟩ (.cons ru .nil),⟨_,ht2,rfl,_,rfl⟩⟩
  ·have ec:(((i+1:Nat)):Int)=((i:Nat):Int)+1:=by push_cast;rfl
   rw[ec];exact he2
  ·exact li1.at λo z=>(sb.2 it (Ne.symm hne)).trans z
  ·have b0:=(hf b hb).1;rw[AI λz=>?_]
   ·exact b0
   ·obtain⟨o,z1,_⟩:=id li;rcases XE.mp hb with y|y
    ·exact hpe (z.symm.trans y)
    ·exact qG (Wz z1) (by rw[<-Wr.mp y,z];exact XN _)
 done:=by intro X hP hw hK hc i pins s σ H E I hf st hg;subst hP hw hK;obtain⟨xs,hq,hx⟩:=hg;obtain⟨its,rv,p,hz⟩:=I.list hq;obtain⟨⟨old,he⟩,li⟩:=st;obtain⟨f0,f1,f2,f3,f4,f5⟩:=hf it (by simp);have hl:=rv.length;exact wpAny_pyNext_enum_end (I.ok.hd hc) he li p.isList (by simp;lia) λh' eb=>⟨rfl,I.turned (t':=s.toks) (λb o hb e=>eb b o hb e) f0 f1 f3 f4 f5⟩
 self:=λ_ _ _ _ _ st h=>by obtain⟨⟨old,he⟩,_⟩:=st;exact wpAny_pyIter_enum he h
section
variable{ctx}
def UG(K:qJ)(ta:TA):TI:=λσ H R=>ta σ H λvs H1=>∃a xs,vs=[.ref a]/\Ab K H1 a xs/\R (UF K a) H1
theorem MG{l:Expr}{p pos:Pos}(hg:Gl X "enumerate")(hm:X.mg "enumerate"=none)(ha:PA X [l] ta)(hs:starEach [l] X.env=[(false,eval l X.env)]:=by rfl):PI X (.Tuple elts ctx tpos) (.Call (.Name "enumerate" p) [l] [] pos) (UG X.K ta):=by
 intro pins s σ H R I h;refine Call_ (CP I hg hm boot_enumerate (Xb (BU (ha pos pins s σ H _ I h) λus s1 z9=>?_) hs rfl));obtain⟨vs,H1,I1,r1,q1⟩:=z9;obtain⟨a,xs,e,hq,q⟩:=q1;subst e;cases r1 with
 |cons r rr =>
  cases rr;cases r;obtain⟨its,rv,pl,hz⟩:=I1.list hq;refine call_enumerate_list pl.isList λh1 he li hsz k1=>?_;refine wpAny_pyIter_enum he ?_;have n1:H1 (s1.heap.objs.size+1)=none:=I1.hok.fresh (Ya _);have n0:H1 s1.heap.objs.size=none:=I1.hok.fresh (Wv _);refine⟨s1.heap.objs.size+1,[s1.heap.objs.size+1,s1.heap.objs.size],_,_,H1,rfl,I1.kept (t':=s1.toks) k1,M9 a _ _ (Nat.succ_ne_self _),⟨⟨_,he⟩,li⟩,λb hb=>?_,q⟩;rcases XE.mp hb with z|z
  ·rw[z];exact I1.fpOk (Ya _) n1
  ·rw[Wr.mp z];exact I1.fpOk (Wv _) n0
theorem Jn{K:qJ}{g:TG}{tb:TS}(Pv:Nat->St->Hp->Prop)(h0:Pv 0 σ H)(hl:∀i σ H,i<=xs.length->Pv i σ H->Ab K H a xs)
  (hs:∀i x p σ H,xs[i]?=some x->Pv i σ H->H p=none->g (.ref p) σ (Ae H p (.tup [.int ((i:Nat):Int),x])) λσ2 H2=>tb {D with nx:=Pv (i+1),ct:=Pv (i+1),bk:=D.nx} σ2 H2) (hd:∀σ H,Pv xs.length σ H->D.nx σ H):
  ∃W:Nat->Nat->St->Hp->Prop,(∃m,W 0 m σ H)/\∀i m σ H,W i m σ H ->
   ((UF K a).stop i H/\D.nx σ H)\/((UF K a).go i H/\∃N:St->Hp->Prop,(∀σ' H',N σ' H'->∃m',m'<m/\W (i+1) m' σ' H')/\∀x H',(UF K a).yld i H x H'->g x σ H' λσ2 H2=>tb {D with nx:=N,ct:=N,bk:=D.nx} σ2 H2):=by
 refine⟨λi m σ H=>m=xs.length-i/\i<=xs.length/\Pv i σ H,⟨xs.length,by simp,Nat.zero_le _,h0⟩,?_⟩;rintro i m σ H ⟨rfl,hi,p⟩;have q:=hl i σ H hi p
 by_cases hlt:i<xs.length
 ·refine .inr ⟨⟨xs,xs[i],q,by simp[hlt]⟩,Pv (i+1),λσ' H' p'=>⟨xs.length-(i+1),by lia,rfl,hlt,p'⟩,λv H' y=>?_⟩;obtain⟨p2,x,e1,e2,e3,y⟩:=y;subst e1 e3;exact hs i x p2 σ H (y xs q) p e2
 ·have e:i=xs.length:=by lia
  subst e;exact .inl ⟨⟨xs,q,Wv _⟩,hd σ H p⟩
end
theorem MH:∀{xs:List V} {us:List Value},xs.length=us.length->(∀(i:Nat) (x:V) (u:Value),xs[i]?=some x->us[i]?=some u->An x u)->Al xs us
 |[],[],_,_=>.nil
 |x::xs,u::us,hl,h=>.cons (h 0 x u rfl rfl) (MH (by simpa using hl) λi y v e1 e2=>h (i+1) y v (by simpa using e1) (by simpa using e2))
 |[],_::_,hl,_=>by simp at hl
 |_::_,[],hl,_=>by simp at hl
section
variable{a:Expr}{cs:List Expr}{ta:TE}{tc:TA}{p:Pos}{ctx}
noncomputable def OI(K:qJ):List V->Hp->VK->Prop
 |[x,c],H,Q=>∃t tp vs us b,Tn K H x t/\c=.ref tp/\H tp=some (.tup vs)/\vs.map P3=us.map some/\PySem.W.kitAny K t us=some b/\Q (.bl b) H
 |_,_,_=>False
theorem Jo:∀{vs:List V} {its us:List Value},Al vs its->vs.map P3=us.map some->its=us
 |_,_,[],.nil,_=>rfl
 |_,_,_::_,.nil,e=>by simp at e
 |_,_,[],.cons _ _,e=>by simp at e
 |x::xs,_,u::us,.cons r rr,e=>by
  simp only[List.map_cons,List.cons.injEq]at e;obtain⟨e1,e2⟩:=e;rw[Jo rr e2]
  congr 1
  cases x with
  |ty n=>cases e1;exact r
  |ref a=>cases e1;exact r
  |_=>cases e1
theorem Rx{x:V}{v t:Value}(I:AU X pins σ H s)(rx:An x v)(ty:Tn X.K H x t):(∃φ,PySem.W.KitX X.K v t φ/\φ s.heap)/\v≠.builtin "__main__.__loader__#opaque":=by
 cases ty with
 |of ty =>
  cases ty with
  |non=>cases (show v=Value.none from rx);exact⟨⟨_,PySem.W.kitx_none,True.intro⟩,λz=>nomatch z⟩
  |bl y=>cases (show v=Value.bool y from rx);exact⟨⟨_,PySem.W.kitx_bool,True.intro⟩,λz=>nomatch z⟩
  |int i=>obtain⟨t,q⟩:=(show ∃t,v=Value.int i t from rx);cases q;exact⟨⟨_,PySem.W.kitx_int,True.intro⟩,λz=>nomatch z⟩
  |str y=>obtain⟨t,q⟩:=(show ∃t,v=Value.str y t from rx);cases q;exact⟨⟨_,PySem.W.kitx_str,True.intro⟩,λz=>nomatch z⟩
  |flt y=>obtain⟨t,q⟩:=(show ∃t,v=Value.float y t from rx);cases q;exact⟨⟨_,PySem.W.kitx_float,True.intro⟩,λz=>nomatch z⟩
  | @lst a xs ea =>
   cases (show v=Value.ref a from rx);obtain⟨_,_,n,_,h1⟩:=(show Ao X.prog X.w H s.heap a (.lst xs) from I.hok a _ ea);exact⟨⟨_,ZG,⟨_,h1,rfl⟩⟩,λz=>nomatch z⟩
  | @frz a ob xs ea =>
   cases (show v=Value.ref a from rx);obtain⟨_,_,_,n,_,h1⟩:=(show Ao X.prog X.w H s.heap a (.frz ob (.lst xs)) from I.hok a _ ea);exact⟨⟨_,ZG,⟨_,h1,rfl⟩⟩,λz=>nomatch z⟩
  | @tup a xs ea =>
   cases (show v=Value.ref a from rx);obtain⟨_,_,_,p⟩:=(show Ao X.prog X.w H s.heap a (.tup xs) from I.hok a _ ea);obtain⟨o,h1,h2,_⟩:=p;exact⟨⟨_,PySem.W.kitx_tuple,⟨o,h1,h2⟩⟩,λz=>nomatch z⟩
  | @dK a kvs ea =>
   cases (show v=Value.ref a from rx);obtain⟨_,_,vs,_,p⟩:=(show Ao X.prog X.w H s.heap a (.dK kvs) from I.hok a _ ea);obtain⟨o,es,ep,h1,h2,_⟩:=p;exact⟨⟨_,ZH,⟨o,h1,h2.1⟩⟩,λz=>nomatch z⟩
  | @dT a kvs ea =>
   cases (show v=Value.ref a from rx);obtain⟨_,_,xs,_,o,es,ep,h1,h2,_⟩:=(show Ao X.prog X.w H s.heap a (.dT kvs) from I.hok a _ ea);exact⟨⟨_,ZH,⟨o,h1,h2.1⟩⟩,λz=>nomatch z⟩
  | @ins a C dx fs ea cl ha hn htk hm =>
   cases (show v=Value.ref a from rx);obtain⟨mA,O,_⟩:=L6 I.hok ea;obtain⟨od,J,_⟩:=O.look;exact⟨⟨_,PySem.W.kitx_own (cl.get _) cl.hd ha hn htk hm,J⟩,λz=>nomatch z⟩
 | @exc a D dy n e ck =>
  cases (show v=Value.ref a from rx);obtain⟨x,_,_⟩:=(show Ao X.prog X.w H s.heap a (.ext (D6 a (.ref D) _ _)) from I.hok a _ e);exact⟨⟨_,Jl ck,x⟩,λz=>nomatch z⟩
theorem NA:Ds X (.builtin "isinstance") (OI X.K):=by
 intro pins s σ H xs us Q I rv h
 match xs,h with
 |[x,c],h =>
 obtain⟨t,tp,vs,ucs,b,ty,rfl,ht,hcs,k,q⟩:=h;obtain⟨v1,v2,rfl,r1,r2⟩:=L5 rv;cases (show v2=Value.ref tp from r2);obtain⟨_,its,rits,o,ho,hcl,n,hd⟩:=(show Ao X.prog X.w H s.heap tp (.tup vs) from I.hok tp _ ht);obtain⟨c1,c2,c3,c4⟩:=o;dsimp only at hcl hd;subst hcl hd;have e:=Jo rits hcs;subst e;obtain⟨⟨φ,Z,hφ⟩,hx⟩:=Rx I r1 ty;exact PySem.W.kia_tup Z I.kIn hφ ho k hx λtk=>⟨.bl b,H,I.tok tk,rfl,q⟩
theorem QC(hg:Gl X "isinstance")(hm:X.mg "isinstance"=none)(ha:PE X a ta)(hc:PA X cs tc)(h1:starEach [a,.Tuple cs ctx tpos] X.env=(false,eval a X.env)::starEach [.Tuple cs ctx tpos] X.env:=by rfl)
  (h2:starEach [.Tuple cs ctx tpos] X.env=(false,eval (.Tuple cs ctx tpos) X.env)::starEach [] X.env:=by rfl)
  (h3:(backTo pos (starEach [.Tuple cs ctx tpos] X.env)).any (·.1)=false:=by rfl):PE X (.Call (.Name "isinstance" p) [a,.Tuple cs ctx tpos] [] pos) (T1 (OI X.K) (AV ta (AV (CD tc) Bs))):=
 Aa NA hg hm PyProof.Rows.boot_isinstance (AA ha (AA (D1 hc) AD h2) h1) (by decide) (by decide) h1 h3
end
section
variable{K:qJ}
theorem Q3:PySem.W.kitOne K (.type "int") (.type "int")=some true:=by kernel_rfl
theorem Q4:PySem.W.kitOne K (.type "int") (.type "bool")=some false:=by kernel_rfl
theorem Q5:PySem.W.kitOne K (.type "bool") (.type "int")=some true:=by kernel_rfl
theorem MK:PySem.W.kitOne K (.type "bool") (.type "bool")=some true:=by kernel_rfl
theorem Q6:PySem.W.kitOne K (.type "NoneType") (.type "int")=some false:=by kernel_rfl
theorem Q7:PySem.W.kitOne K (.type "str") (.type "int")=some false:=by kernel_rfl
theorem Q8:PySem.W.kitOne K (.type "list") (.type "int")=some false:=by kernel_rfl
theorem ML:PySem.W.kitOne K (.type "list") (.type "list")=some true:=by kernel_rfl
theorem Q9:PySem.W.kitOne K (.type "tuple") (.type "tuple")=some true:=by kernel_rfl
theorem UH:PySem.W.kitOne K (.type "tuple") (.type "list")=some false:=by kernel_rfl
theorem RA:PySem.W.kitOne K (.type "tuple") (.type "int")=some false:=by kernel_rfl
end
structure Aw(P:Program)(w:World)(K:qJ)(mg:Str->Option Value)(base:Heap)(k:Nat)(f:Addr)(ps:List Str)(sp:Sp):Prop where
 ex:∃fd,EY P w K mg base (Hj P w) k f fd ps sp/\D3 K fd ps []
 kp:PySem.W.keepIn K (.ref f)=true
section
variable{P:Program}{w:World}{K:qJ}{mg:Str->Option Value}{base:Heap}{st:Stmt}{N:List Str}{k:Nat}
theorem B1.ok0(F:B1 K x qual st f fd)(S:AK N ps (AH st))(len:∀vs H Q E,sp vs H Q E->vs.length=ps.length)
  (hbody:∀(cdv:Value) (A:Around) (outer:List Env) (s:Shared) (H:Hp) (vs:List V) (Q:VK) (E:XK),Bn k (A.deeper (envOfC qual (AH st) s.heap.objs.size f cdv))->sp vs H Q E ->
   ∃t,Fm (DL (Hj P w) P w K mg base N qual (AH st) f cdv A outer s H E).nox (Bc st) t/\t {nx:=λ_ H'=>Q .non H',rt:=Q} (Ck N vs) H):EY P w K mg base (Hj P w) (k+1) f fd ps sp:=
 F.okX S len λcdv A outer s H vs Q E hr hsp=>by obtain⟨t,h,q⟩:=hbody cdv A outer s H vs Q E hr hsp;exact⟨t,h.nox,q⟩
abbrev DS(x qual:Str)(st:Stmt)(ps:List Str):Prop:=∀(kV doc pm:Value) (an:Option Addr) (cdv ct:Value) (us:List Value),us.length=ps.length->bindArgs (PySem.W.fnOf x qual (DB st) (Bc st) (AH st) .none kV doc pm an cdv ct) ⟨us,[]⟩=pure (ps.zip us)
theorem QD(D:∃fd,B1 K x qual st f fd)(S:AK N ps (AH st))(bd:DS x qual st ps)(len:∀vs H Q E,sp vs H Q E->vs.length=ps.length)
  (hbody:∀(cdv:Value) (A:Around) (outer:List Env) (s:Shared) (H:Hp) (vs:List V) (Q:VK) (E:XK),Bn k (A.deeper (envOfC qual (AH st) s.heap.objs.size f cdv))->sp vs H Q E ->
   ∃t,Fm (DL (Hj P w) P w K mg base N qual (AH st) f cdv A outer s H E).nox (Bc st) t/\t {nx:=λ_ H'=>Q .non H',rt:=Q} (Ck N vs) H):Aw P w K mg base (k+1) f ps sp:=by
 obtain⟨fd,F⟩:=D;exact⟨⟨fd,F.ok0 S len hbody,F.binds bd⟩,F.kp⟩
theorem QE(D:∃fd,B1 K x qual st f fd)(S:AK N ps (AH st))(bd:DS x qual st ps)(len:∀vs H Q E,sp vs H Q E->vs.length=ps.length)
  (hbody:∀(cdv:Value) (A:Around) (outer:List Env) (s:Shared) (H:Hp) (vs:List V) (Q:VK) (E:XK),Bn k (A.deeper (envOfC qual (AH st) s.heap.objs.size f cdv))->sp vs H Q E ->
   ∃t,Fm (DL (Hj P w) P w K mg base N qual (AH st) f cdv A outer s H E) (Bc st) t/\t {nx:=λ_ H'=>Q .non H',rt:=Q} (Ck N vs) H):Aw P w K mg base (k+1) f ps sp:=by
 obtain⟨fd,F⟩:=D;exact⟨⟨fd,F.okX S len hbody,F.binds bd⟩,F.kp⟩
end
section
variable{k:Nat}{E:St->XK}{EX:XK}{np p cpos:Pos}{e:Expr}{t:TA}
theorem BF(G:Aw X.prog X.w X.K X.mg X.base k f ps sp)(hr:Bn k X.A)(hg:Gl X x)(hm:X.mg x=some (.ref f))(hx:Dg (Hj X.prog X.w) X E)
  (ha:PA X (e::es) t) (hdb:(x==("__debug__":Str))=false:=by decide) (he:starEach (e::es) X.env=(false,eval e X.env)::starEach es X.env:=by rfl) (hpl:(backTo pos (starEach es X.env)).any (·.1)=false:=by rfl):
  PE X (.Call (.Name x p) (e::es) [] pos) (Gb sp [] E t):=by
 obtain⟨⟨fd,F,b⟩,kp⟩:=G;exact Jk F hr hg hm kp b .nil hx ha hdb he hpl
theorem II(hc:X.calm=true)(M:Vo X.K C f)(G:Aw X.prog X.w X.K X.mg X.base k f ps sp)(hr:Bn (k+1) X.A)(hg:Gl X x)(hm:X.mg x=some (.ref C))(hx:Ij X (.ref C) EX)(ha:PA X (e::es) t)(hex:X.ex=[]:=by rfl)
  (hdb:(x==("__debug__":Str))=false:=by decide) (he:starEach (e::es) X.env=(false,eval e X.env)::starEach es X.env:=by rfl) (hpl:(backTo cpos (starEach es X.env)).any (·.1)=false:=by rfl):
  PS X (.Raise (some (.Call (.Name x np) (e::es) [] cpos)) none pos) (Ii C sp EX t):=by
 obtain⟨⟨fd,F,b⟩,kp⟩:=G;exact M7 hc M F hr b hg hm hx ha hex hdb he hpl
theorem EL{i:Int}(hg:Gl X x)(hm:∃t,X.mg x=some (.int i t))(hd:(x==("__debug__":Str))=false:=by decide):PE X (.Name x pos) (tC (.int i)):=by obtain⟨t,hm⟩:=hm;exact OF hg hm hd
end
inductive Ik(K:qJ)(vs:List V)(H:Hp)(Q:VK)(z3_:XK):Prop
 |m (a:Addr) (ns:List Int) (k:Nat):vs=[.ref a,.int k]->Ab K H a (ns.map V.int)->ns.length<=63->Q (.int (ns.getD k 0)) H->Ik K vs H Q z3_
noncomputable def Kd(H:Hp):V->Prop
 |.int _=>True
 |.bl _=>True
 |.non=>True
 |.str _=>True
 |.ref a=>∃xs,H a=some (.lst xs)\/H a=some (.tup xs)
 |_=>False
theorem Kd.same(e:AG H H'):∀{x:V},Kd H x->Kd H' x
 |.int _,_=>True.intro
 |.bl _,_=>True.intro
 |.non,_=>True.intro
 |.str _,_=>True.intro
 |.ref a,h=>by obtain⟨xs,h⟩:=h;exact⟨xs,h.elim (λq=>.inl (e _ _ q)) λq=>.inr (e _ _ q)⟩
noncomputable def NB:V->Bool
 |.int _=>true
 |_=>false
inductive Dh(vs:List V)(H:Hp)(Q:VK)(z3_:XK):Prop
 |m (x:V):vs=[x]->Kd H x->Q (.bl (NB x)) H->Dh vs H Q z3_
noncomputable def OJ(g:Int):V->Bool
 |.int i=>decide (0<=i)&&decide (i<g)
 |_=>false
inductive Il(vs:List V)(H:Hp)(Q:VK)(z3_:XK):Prop
 |m (x:V) (g:Int):vs=[x,.int g]->Kd H x->Q (.bl (OJ g x)) H->Il vs H Q z3_
inductive Im(K:qJ)(C R:Addr)(vs:List V)(H:Hp)(Q:VK)(z3_:XK):Prop
 |m (a:Addr) (n:Bool) (y:V):vs=[.ref a,y]->H a=some (JX a (.ref C) none n)->(∀dx,H dx=none->Q .non (Ae (Ae H a (JX a (.ref C) (some dx) n)) dx (.xd [("at",y)])))->Im K C R vs H Q z3_
def RB(C:Addr)(i:Nat)(H:Hp)(E:XK):Prop:=∀H' dx,AG H H'->H' dx=some (.xd [("at",.int ((i:Nat):Int))])->E (.ref C) (some dx) H'
noncomputable def B8(g:Int)(xs:List V):Option Nat:=xs.findIdx? λx=>!OJ g x
inductive F9(K:qJ)(C:Addr)(vs:List V)(H:Hp)(Q:VK)(E:XK):Prop
 |m (a:Addr) (xs:List V) (g:Int):vs=[.ref a,.int g]->Ab K H a xs->(∀x∈xs,Kd H x)->(match B8 g xs with|none=>∀H',AG H H'->Q .non H'|some i=>RB C i H E)->F9 K C vs H Q E
noncomputable def LH(g n:Int)(ns:List Int):Int:=ns.foldl (λm x=>m*g+x) n
noncomputable def Bt(g:Int)(ns:List Int):Int:=LH g 0 ns
inductive Gd(K:qJ)(C:Addr)(vs:List V)(H:Hp)(Q:VK)(E:XK):Prop
 |m (a:Addr) (xs:List V) (g:Int):vs=[.ref a,.int g]->2<=g->g<=9->Ab K H a xs->(∀x∈xs,Kd H x)->(match B8 g xs with|none=>∀ns:List Int,xs=ns.map V.int->∀H',AG H H'->Q (.int (Bt g ns)) H'|some i=>RB C i H E)->Gd K C vs H Q E
variable{g:Int}
theorem Ek(h:B8 g xs=none):∃ns:List Int,xs=ns.map V.int/\∀n∈ns,0<=n/\n<g:=by
 unfold B8 at h;rw[Yy]at h
 induction xs with
 |nil=>exact⟨[],rfl,λn z=>qG z (by simp)⟩
 |cons x xs ih =>
  obtain⟨ns,e,b⟩:=ih λy hy=>h y (XD _ hy)
  have hx:=h x W7;cases x with
  |int i =>
   simp only[OJ,Bool.not_eq_false',Bool.and_eq_true,decide_eq_true_eq]at hx;exact⟨i::ns,by rw[e];rfl,λn z=>(XE.mp z).elim (λq=>q▸hx) (b n)⟩
  |_=>simp[OJ]at hx
theorem Ge{ns:List Int}(h:∀n∈ns,0<=n/\n<g):B8 g (ns.map V.int)=none:=by unfold B8;rw[Yy];intro x hx;obtain⟨n,hn,e⟩:=XT.mp hx;subst e;have q:=h n hn;simp[OJ,q.1,q.2]
theorem Io{ns:List Int}:∀x∈ns.map V.int,Kd H x:=λx hx=>by obtain⟨n,_,e⟩:=XT.mp hx;subst e;exact True.intro
end L2
namespace L2
open PySem
variable{D:Fz}{H H' H1:Hp}{dx:Addr}{g:Int}{i:Nat}{xs:List V}{σ:St}
theorem OK{t:TS}(Z:Hp->Prop)(hz:Z H')(h:∀H2,Z H2->t D σ H2):t D σ H':=h H' hz
theorem Gf{ns ms:List Int}(h:ns.map V.int=ms.map V.int):ns=ms:=(List.map_inj_right (f:=V.int) λ_ _ e=>V.int.inj e).mp h
theorem Gg{ea:Addr}{o o2 o3:HO}(e:AG H H1)(hea:H1 ea=none)(hdx:Ae H1 ea o dx=none):AG H (E4 (Ae (Ae (Ae H1 ea o) ea o2) dx o3) ea):=λb u q=>by have q1:=e b u q;have n1:=BB q1 hea;have n2:=BB q1 (DR hdx).2;rw[Cg n1,AI n2,AI n1,AI n1];exact q1
theorem El{x:V}(hb:B8 g (xs.take i)=none)(hx:xs[i]?=some x)(hs:OJ g x=true):B8 g (xs.take (i+1))=none:=by
 unfold B8 at *;rw[Yy]at hb⊢;intro y hy;rw[List.take_succ,hx]at hy;rcases Ww.mp hy with z|z
 ·exact hb y z
 ·have e:y=x:=by simpa using z
  rw[e,hs];rfl
theorem Em{x:V}(hb:B8 g (xs.take i)=none)(hx:xs[i]?=some x)(hs:OJ g x=false):B8 g xs=some i:=by
 obtain⟨hi,ex⟩:=Ws.mp hx
 have e:xs=xs.take i++x::xs.drop (i+1):=by rw[<-ex,<-Xz hi,Xk]
 unfold B8 at *;rw[e,List.findIdx?_append,hb];simp[List.findIdx?_cons,hs,List.length_take];lia
theorem CA{ns:List Int}{x:V}(h:(ns.map V.int)[i]?=some x):∃n,ns[i]?=some n/\x=.int n:=by rw[W0]at h;obtain⟨n,e1,e2⟩:=XS.mp h;exact⟨n,e1,e2.symm⟩
theorem Jp{n:Int}{ns:List Int}(h:ns[i]?=some n):Bt g (ns.take (i+1))=Bt g (ns.take i)*g+n:=by unfold Bt LH;rw[List.take_succ,h,List.foldl_append];rfl
noncomputable def low(g:Int):List Int->Int
 |[]=>0
 |x::r=>x+g*low g r
theorem Jq(g x:Int):∀l:List Int,low g (l++[x])=low g l+x*g^l.length
 |[]=>by simp[low]
 |y::l=>by
  rw[List.cons_append,low,low,Jq g x l,Xo,XJ,Int.mul_add,Int.add_assoc]
  congr 2
  rw[X8 g,Int.mul_assoc]
theorem E6(g x:Int)(l:List Int):Bt g (l++[x])=Bt g l*g+x:=by unfold Bt LH;rw[List.foldl_append];rfl
theorem Ip(g:Int):∀l:List Int,Bt g l.reverse=low g l
 |[]=>rfl
 |x::l=>by rw[ZI,E6,Ip g l,low,X8,Int.add_comm]
theorem MM(g:Int)(ns:List Int):Bt g ns=low g ns.reverse:=by rw[<-Ip,List.reverse_reverse]
end L2
namespace L2
open PySem PySem.Spec PyProof.Rows
variable{C a f it:Addr}{D:Fz}{E Q:Value->Shared->Prop}{H H' H2:Hp}{T:String}{X:Cx}{elts es:List Expr}{fp:List Addr}{h':Heap}{i:Nat}{items:Array Value}{pins:List (Addr×Obj)}{pos tpos:Pos}{ps:List Str}{qual x:Str}{s s':Shared}{scope:Scope}{sp:Sp}{ta:TA}{te:TE}{tg:Expr}{xs:List V}{σ:St}
mutual
inductive D7(K:qJ)(H:Hp):V->PyData->Prop
 |non:D7 K H .non .none
 |bl (b:Bool):D7 K H (.bl b) (.bool b)
 |int (i:Int):D7 K H (.int i) (.int i)
 |str (x:Str):D7 K H (.str x) (.str x)
 |lst {a:Addr} {xs:List V} {ds:List PyData}:Ab K H a xs->CU K H xs ds->D7 K H (.ref a) (.list ds)
 |tup {a:Addr} {xs:List V} {ds:List PyData}:BL K H a xs->CU K H xs ds->D7 K H (.ref a) (.tuple ds)
inductive CU(K:qJ)(H:Hp):List V->List PyData->Prop
 |nil:CU K H [] []
 |cons {x:V} {xs:List V} {d:PyData} {ds:List PyData}:D7 K H x d->CU K H xs ds->CU K H (x::xs) (d::ds)
end
mutual
theorem D7.reads(I:AU X pins σ H s):∀{x:V} {d:PyData} {u:Value},D7 X.K H x d->An x u->∃as,Reads s.heap u d as
 |_,_,_,.non,r=>by cases r;exact⟨_,.none⟩
 |_,_,_,.bl b,r=>by cases r;exact⟨_,.bool b⟩
 |_,_,_,.int i,r=>by obtain⟨t,e⟩:=r;subst e;exact⟨_,.int i t⟩
 |_,_,_,.str x,r=>by obtain⟨t,e⟩:=r;subst e;exact⟨_,.str x t⟩
 |_,_,_,.lst hq ha,r=>by cases r;obtain⟨its,rv,⟨o,n,e,c,_,d⟩,_⟩:=I.list hq;obtain⟨as,q⟩:=CU.reads I ha rv;exact⟨_,.list e c d (by simpa using q)⟩
 |_,_,_,.tup hq ha,r=>by cases r;obtain⟨its,rv,⟨o,e,c,n,d⟩,_⟩:=I.tuple hq;obtain⟨as,q⟩:=CU.reads I ha rv;exact⟨_,.tuple e c d (by simpa using q)⟩
theorem CU.reads(I:AU X pins σ H s):∀{xs:List V} {ds:List PyData} {us:List Value},CU X.K H xs ds->Al xs us->∃as,ReadsAll s.heap us ds as
 |_,_,_,.nil,.nil=>⟨_,.nil⟩
 |_,_,_,.cons h t,.cons r rr=>by obtain⟨as,q⟩:=D7.reads I h r;obtain⟨bs,q2⟩:=CU.reads I t rr;exact⟨_,.cons q q2⟩
end
def UI(K:qJ):R2:=λx y H Q=>∃d e,D7 K H x d/\D7 K H y e/\d.canLay0=true/\e.canLay0=true/\d.depth<=60/\Q (.bl (PyData.eqv d e)) H
theorem Ry(hu:X.A.units+64<cLine):Ev X (compareOp .Eq) (UI X.K):=by intro pins s σ H x y v u Q I rx ry h;obtain⟨d,e,hd,he,c1,c2,dd,q⟩:=h;obtain⟨as,r1⟩:=hd.reads I rx;obtain⟨bs,r2⟩:=he.reads I ry;have z:=SeqAt.rcAt_reads (A:=X.A) r1 r2 c1 c2 (by have:=Nat.min_le_left d.depth e.depth;lia);exact z X.prog X.w X.xe _ ⟨.bl _,H,I,rfl,q⟩
theorem Jr{K:qJ}:∀ns:List Int,CU K H (ns.map V.int) (ns.map PyData.int)
 |[]=>.nil
 |n::ns=>.cons (.int n) (Jr ns)
theorem Js:∀ns:List Int,PyData.canLayAll0 (ns.map PyData.int)=true
 |[]=>by simp only[List.map_nil,PyData.canLayAll0]
 |n::ns=>by simp only[List.map_cons,PyData.canLayAll0,PyData.canLay0,Js ns,Bool.and_self]
theorem UJ{it:Expr}{w1 w2:TI}(h1:PI X tg it w1)(h2:PI X tg it w2):PI X tg it (λσ H R=>w1 σ H R\/w2 σ H R):=λpins s σ H R I h=>h.elim (λq=>h1 pins s σ H R I q) λq=>h2 pins s σ H R I q
theorem Wj{K:qJ}{t:Value}(h:PySem.W.kitOne K t (.type T)=some true)(r:List Value):PySem.W.kitAny K t (.type T::r)=some true:=by unfold PySem.W.kitAny;rw[h]
theorem QF{K:qJ}{t:Value}{r:List Value}{b:Bool}(h:PySem.W.kitOne K t (.type T)=some false)(h2:PySem.W.kitAny K t r=some b):PySem.W.kitAny K t (.type T::r)=some b:=by unfold PySem.W.kitAny;rw[h];exact h2
section
variable{K:qJ}
theorem UK:PySem.W.kitOne K (.type "NoneType") (.type "list")=some false:=by kernel_rfl
theorem UL:PySem.W.kitOne K (.type "NoneType") (.type "tuple")=some false:=by kernel_rfl
theorem UM:PySem.W.kitOne K (.type "str") (.type "list")=some false:=by kernel_rfl
theorem UN:PySem.W.kitOne K (.type "str") (.type "tuple")=some false:=by kernel_rfl
theorem UO:PySem.W.kitOne K (.type "int") (.type "list")=some false:=by kernel_rfl
theorem UP:PySem.W.kitOne K (.type "int") (.type "tuple")=some false:=by kernel_rfl
theorem UQ:PySem.W.kitOne K (.type "bool") (.type "list")=some false:=by kernel_rfl
theorem UR:PySem.W.kitOne K (.type "bool") (.type "tuple")=some false:=by kernel_rfl
end
theorem B9{K:qJ}(h:X.K=K):T3 X (Rn K):=h▸A9
theorem Di{K:qJ}(h:X.K=K):T3 X (T4 K):=h▸AY
structure QG(P:Program)(w:World)(K:qJ)(mg:Str->Option Value)(base:Heap)(k:Nat)(f:Addr)(ps:List Str)(sp:Sp):Prop where
 ex:∃fd,EY P w K mg base (IG true P w) k f fd ps sp/\D3 K fd ps []
 kp:PySem.W.keepIn K (.ref f)=true
section
variable{P:Program}{w:World}{K:qJ}{mg:Str->Option Value}{base:Heap}{st:Stmt}{N:List Str}{k:Nat}
theorem QH(D:∃fd,B1 K x qual st f fd)(S:AK N ps (AH st))(bd:DS x qual st ps)(len:∀vs H Q E,sp vs H Q E->vs.length=ps.length)
  (hbody:∀(cdv:Value) (A:Around) (outer:List Env) (s:Shared) (H:Hp) (vs:List V) (Q:VK) (E:XK),Bn k (A.deeper (envOfC qual (AH st) s.heap.objs.size f cdv))->sp vs H Q E ->
   ∃t,Fm (DL (IG true P w) P w K mg base N qual (AH st) f cdv A outer s H E) (Bc st) t/\t {nx:=λ_ H'=>Q .non H',rt:=Q} (Ck N vs) H):QG P w K mg base (k+1) f ps sp:=by
 obtain⟨fd,F⟩:=D;exact⟨⟨fd,F.okX S len hbody,F.binds bd⟩,F.kp⟩
end
section
variable{k:Nat}{E:St->XK}{p:Pos}{e:Expr}{t:TA}
theorem OL(G:QG X.prog X.w X.K X.mg X.base k f ps sp)(hr:Bn k X.A)(hg:Gl X x)(hm:X.mg x=some (.ref f))(hx:Dg (IG true X.prog X.w) X E)
  (ha:PA X (e::es) t) (hdb:(x==("__debug__":Str))=false:=by decide) (he:starEach (e::es) X.env=(false,eval e X.env)::starEach es X.env:=by rfl) (hpl:(backTo pos (starEach es X.env)).any (·.1)=false:=by rfl):
  PE X (.Call (.Name x p) (e::es) [] pos) (Gb sp [] E t):=by
 obtain⟨⟨fd,F,b⟩,kp⟩:=G;exact Jk F hr hg hm kp b .nil hx ha hdb he hpl
end
noncomputable def Hk(X:Cx)(s2:Shared)(H2:Hp)(env:Env)(fp:List Addr)(N:List Str):Cx:={X with N:=N,s₀:=s2,H₀:=H2,env:=env,outer:=X.stack,ex:=fp,fn:=λ_=>false,pn:=[],xe:=λ_ _=>False}
theorem US{s2:Shared}{env:Env}{N:List Str}:(Hk X s2 H2 env fp N).K=X.K:=rfl
noncomputable def Iq(env:Env):List (Str×Addr)->Prop
 |[]=>True
 | (y,c)::r=>env.cells.lookup y=some c/\Iq env r
theorem Iq.at'{env:Env}:∀{cl:List (Str×Addr)},Iq env cl->∀{y:Str} {c:Addr},cl.lookup y=some c->env.cells.lookup y=some c
 |[],_,_,_,h=>by cases h
 | (z,d)::r,⟨h1,h2⟩,y,c,h=>by
  rw[YS]at h;cases e:y==z with
  |true =>
   rw[e]at h;cases h;rw[eq_of_beq e];exact h1
  |false =>
   rw[e]at h;exact h2.at' h
noncomputable def Vp:Option NameKind->Bool
 |some .cell=>true
 |some .free=>true
 |_=>false
theorem Rz{k:Option NameKind}(h:Vp k=true):k=some .cell\/k=some .free:=by
 unfold Vp at h
 split at h
 ·exact .inl rfl
 ·exact .inr rfl
 ·cases h
noncomputable def Jt(X:Cx)(scope:Scope)(cl:List (Str×Addr)):List (Nat×Str)->Prop
 |[]=>True
 | (j,y)::r=>(X.N[j]?=some y/\Vp (X.env.scope.names.lookup y)=true/\(relabel scope X.env).names.lookup y=X.env.scope.names.lookup y/\(cl.lookup y).isSome=true)/\Jt X scope cl r
theorem Jt.at'{cl:List (Str×Addr)}:∀{fv:List (Nat×Str)},Jt X scope cl fv->∀q∈fv,X.N[q.1]?=some q.2/\Vp (X.env.scope.names.lookup q.2)=true/\(relabel scope X.env).names.lookup q.2=X.env.scope.names.lookup q.2/\(cl.lookup q.2).isSome=true
 |[],_,q,h=>by cases h
 | (j,y)::r,⟨h1,h2⟩,q,h=>(XE.mp h).elim (λe=>by rw[e];exact h1) λz=>h2.at' q z
noncomputable def Ed(σ:St)(fv:List (Nat×Str)):List (Option V):=fv.map λq=>(σ[q.1]?).join
def PF(X:Cx)(ifs:List Expr)(t:TT):Prop:=∀(pins:List (Addr×Obj)) (s:Shared) (σ:St) (H:Hp) (Q:Bool->Hp->Prop),AU X pins σ H s->t σ H Q ->
 wpAny (model X.prog X.w) X.A (forIn ifs true λc r=>if r=true then do let ok <-isTrue c X.env (eval c X.env);pure (ForInStep.yield ok) else pure (ForInStep.yield r)) (TP X pins σ Q) X.xe s
def LI:TT:=λ_ H Q=>Q true H
theorem Bw:PF X [] LI:=λpins s σ H Q I h=>qD ⟨H,I,h⟩
theorem OM{c:Expr}{t:TT}(h:PT X c t):PF X [c] t:=λpins s σ H Q I q=>by simp only[List.forIn_cons,List.forIn_nil,if_true];exact qC (qC (BU (h pins s σ H Q I q) λb s1 z=>qD (qD z)))
def D8(J:It)(tt:TT)(te:TE)(σf:List (Option V))(D:Addr)(Q:VK)(H:Hp):Prop:=∃W:Nat->Nat->List V->Hp->Prop,(∃n,W n 0 [] (Ae H D (.lst [])))/\∀n i acc H2,W n i acc H2 ->
 (J.stop i H2/\Q (.ref D) H2)\/(J.go i H2/\∃N:List V->Hp->Prop,(∀l H',N l H'->∃n',n'<n/\W n' (i+1) l H')/\∀v H3,J.yld i H2 v H3->tt (some v::σf) H3 λb H4 =>
  if b=true then te (some v::σf) H4 λy H5=>H5 D=some (.lst acc)/\acc.length<sizeLine/\N (acc++[y]) (Ae H5 D (.lst (acc++[y]))) else N acc H4)
def ON(wi:TI)(fv:List (Nat×Str))(tt:TT)(te:TE):TE:=λσ H Q=>wi σ H λJ H1=>∀D,H1 D=none->D8 J tt te (Ed σ fv) D Q H1
section
variable{X:Cx}{x:Str}{px pos:Pos}{elt iter:Expr}{ifs:List Expr}{scope:Scope}{cl:List (Str×Addr)}{fv:List (Nat×Str)}{wi:TI}{tt:TT}{te:TE}
 {pins:List (Addr×Obj)} {σ:St} {H2:Hp} {s2:Shared} {fp:List Addr} {it:Addr} {tn:Nat->Heap->Prop} {J:It}
theorem R0{N:List Str}(I2:AU X pins σ H2 s2)(f2:∀b∈fp,Ew X pins H2 b)(o2:∀b∈fp,∃o,s2.heap.get? b=some o/\∀v,o.data≠.cell v)(hC:s2.heap.objs.size<=C)(hk:scope.kind=.function)(hcl:Iq X.env cl)
  (hhas:((relabel scope X.env).names.all λz=>!(z.2==.cell||z.2==.free)||(cl.lookup z.1).isSome)=true):(Hk X s2 H2 (compEnvC scope cl C X.env) fp N).Ok where
 mod:=I2.ok.mod
 kind:=hk
 glob:=I2.ok.glob
 blt:=I2.ok.blt
 above:=hC
 inj:=λx y c h1 h2=>I2.ok.inj x y c (hcl.at' h1) (hcl.at' h2)
 has:=λy h=>by
  have key:∀k:NameKind,(relabel scope X.env).names.lookup y=some k->(k==.cell||k==.free)=true->∃c,cl.lookup y=some c:=λk hl hk=>by
   have mem:(y,k)∈(relabel scope X.env).names:=by
    generalize (relabel scope X.env).names=l at hl
    induction l with
    |nil=>cases hl
    |cons q r ih =>
     rw[YS]at hl;cases e:y==q.1 with
     |true =>
      rw[e]at hl;cases hl;rw[eq_of_beq e];exact W7
     |false =>
      rw[e]at hl;exact XD _ (ih hl)
   have z:=List.all_eq_true.mp hhas _ mem;simp only[hk,Bool.not_true,Bool.false_or]at z;exact Y3.mp z
  rcases h with h|h
  ·exact key _ h rfl
  ·exact key _ h rfl
 cab:=λ_ _ h=>nomatch h
 hd:=I2.ok.hd
 frames:=I2.ok.frames
 stk:=.inl rfl
 exf:=λb hb=>by obtain⟨o,e,_⟩:=o2 b hb;exact⟨Xd (W2 (Wz e) hC),λy c h=>(f2 b hb).2.2.2.2.1 y c (hcl.at' h)⟩
 bs:=λb o e=>I2.bs b o e
 bsz:=Xa I2.ok.bsz I2.sz
 noex:=λb o e hb=>by
  obtain⟨_,_,_,h,_⟩:=f2 b hb;rcases h with h|h
  ·exact I2.ok.noex b o e h
  ·exact qG (W2 (Wz e) (Xa I2.ok.bsz h)) (XN _)
 exfs:=λb hb z=>(XE.mp (I2.stkSub b z)).elim (f2 b hb).2.1 (f2 b hb).2.2.1
 funs:=I2.stack
 frf:=I2.stkFree
theorem Ju{env:Env}{N:List Str}{σ':St}{pl:List (Addr×Obj)}(I2:AU X pins σ H2 s2)(f2:∀b∈fp,Ew X pins H2 b)(Ib:AU (Hk X s2 H2 env fp N) pl σ' H' s'):AU X pins σ H' s':=
 I2.call' (ch:=fp) Ib.os Ib.base Ib.hok Ib.bare λb hb=>⟨(f2 b hb).2.2.2.1,(f2 b hb).2.1,(f2 b hb).2.2.2.2.1,(f2 b hb).2.2.2.2.2⟩
theorem R9{D:Addr}{h1:Heap}{t1:Nat}(I2:AU X pins σ H2 s2)(f2:∀b∈fp,Ew X pins H2 b)(o2:∀b∈fp,∃o,s2.heap.get? b=some o/\∀v,o.data≠.cell v)(hD:s2.heap.objs.size<=D)(hC:s2.heap.objs.size<=C)(hDC:D≠C)
  (old:∀b o,s2.heap.get? b=some o->h1.get? b=some o) (hl:h1.PlainList D #[]) (hn:h1.Ns C (λ_=>none)) (hk:scope.kind=.function) (hcl:Iq X.env cl)
  (hhas:((relabel scope X.env).names.all λz=>!(z.2==.cell||z.2==.free)||(cl.lookup z.1).isSome)=true) (hfv:Jt X scope cl fv):
  AU (Hk X s2 H2 (compEnvC scope cl C X.env) fp (x::fv.map (·.2))) [] (none::Ed σ fv) (Ae H2 D (.lst [])) {s2 with heap:=h1,toks:=t1} where
 ok:=R0 I2 f2 o2 hC hk hcl hhas
 os:=rfl
 bare:=I2.bare
 base:=Un.laid old hD (I2.hok.fresh hD)
 loc:=by
  refine⟨_,hn,λi y v h1' h2' _=>?_⟩;cases i with
  |zero=>cases h2'
  |succ i =>
   have h1':(fv.map (·.2))[i]?=some y:=h1';have h2':(Ed σ fv)[i]?=some (some v):=h2'
   obtain⟨q,hq,e1⟩:∃q,fv[i]?=some q/\q.2=y:=by rw[W0]at h1';exact XS.mp h1'
   subst e1;obtain⟨g1,g2,g3,g4⟩:=hfv.at' q (Wy hq);unfold Ed at h2';rw[W0,hq]at h2';have e2:(σ[q.1]?).join=some v:=Option.some.inj h2'
   have e3:σ[q.1]?=some (some v):=by
    cases z:σ[q.1]? with
    |none=>rw[z]at e2;cases e2
    |some w=>rw[z]at e2;exact congrArg some e2
   obtain⟨m,_,lk⟩:=I2.loc;have g2:=Rz g2;obtain⟨u,ru,lu⟩:=lk q.1 q.2 v g1 e3 (.inr g2);refine⟨u,ru,.inr ⟨g2.imp (λz=>g3.trans z) (λz=>g3.trans z),?_⟩⟩;obtain⟨c,hc⟩:=Y3.mp g4;refine⟨c,hc,?_⟩;rcases lu with⟨kk,_⟩|⟨_,c',e',⟨o,eo,d⟩⟩
   ·rcases g2 with z|z<;>(rw[show X.env.kindOf q.2=_ from z]at kk;cases kk)
   ·have e4:=hcl.at' hc;rw[e']at e4;cases e4;exact⟨o,old c o eo,d⟩
 cell:=λy c h=>by obtain⟨v,o,eo,d⟩:=I2.cell y c (hcl.at' h);exact⟨v,o,old c o eo,d⟩
 free:=by show Ae H2 D _ C=none;rw[AI (Ne.symm hDC)];exact I2.hok.fresh hC
 freeC:=λy c h=>by obtain⟨v,o,eo,d⟩:=I2.cell y c (hcl.at' h);rw[AI (Xd (W2 (Wz eo) hD))];exact I2.freeC y c (hcl.at' h)
 pin:=λp hp=>nomatch hp
 hok:=I2.hok.laid old hD (by obtain⟨n,e⟩:=hl;exact⟨Nat.zero_le _,[],n,.nil,by simpa using e⟩)
 len:=by simp[Ed,Hk]
theorem MN{RR:Value->Addr->Result->Shared->Prop}{Q:VK}(hc:X.calm=true)(I2:AU X pins σ H2 s2)(T:GV X.prog X.w X.K (.Name x px) J fp it tn)(st2:tn 0 s2.heap)(f2:∀b∈fp,Ew X pins H2 b)
  (hcell:∀y∈scope.names,y.2≠.cell) (hk:scope.kind=.function) (hx:scope.names.lookup x=some .local) (hcl:Iq X.env cl) (hhas:((relabel scope X.env).names.all λz=>!(z.2==.cell||z.2==.free)||(cl.lookup z.1).isSome)=true) (hfv:Jt X scope cl fv) (hnd:(x::fv.map (·.2)).Nodup)
  (hf:∀s H C fp,PF (Hk X s H (compEnvC scope cl C X.env) fp (x::fv.map (·.2))) ifs tt) (he:∀s H C fp,PE (Hk X s H (compEnvC scope cl C X.env) fp (x::fv.map (·.2))) elt te)
  (hw:∀D,H2 D=none->D8 J tt te (Ed σ fv) D Q H2)
  (hRR:∀D C σ' H' s',s2.heap.objs.size<=C->AU (Hk X s2 H2 (compEnvC scope cl C X.env) fp (x::fv.map (·.2))) [] σ' H' s'->Q (.ref D) H'->RR (.ref D) C (.ok .next) s'):
  wpAny (model X.prog X.w) X.A (newList []) (λacc s3=>wpAny (model X.prog X.w) X.A (newFunctionEnv scope X.env.globals cl [] X.env.qual none .none (some X.env)) (λcenv s4 =>
   codeAny (model X.prog X.w) X.A (.compStart (.ListComp elt [⟨.Name x px,iter,ifs,0⟩] scope pos) 0 (.ref it) acc {cenv with scope:=relabel scope X.env}) (RR acc cenv.locals) s4) E s3) E s2:=by
 refine wpAny_newObj_type (wpAny_newFunctionEnv hcell (by intro y hy;simp at hy) (λh1 hns hsb=>?_) hk);dsimp only at hns hsb⊢;generalize hH:s2.heap.push {cls:=.type "list",dict:=none,data:=.seq ([]:List Value).toArray}=HH at hns hsb⊢;have eC:HH.objs.size=s2.heap.objs.size+1:=by rw[<-hH,X5]
 have hDC:s2.heap.objs.size≠HH.objs.size:=by rw[eC];exact Xd (Nat.lt_succ_self _)
 have hC:s2.heap.objs.size<=HH.objs.size:=by rw[eC];exact Ya _
 have old:∀b o,s2.heap.get? b=some o->h1.get? b=some o:=λb o e=>hsb.extBut b o (by rw[eC];exact Xd (ZJ (Wz e))) (Wu _ (hH▸Wu _ e))
 have hacc:h1.PlainList s2.heap.objs.size #[]:=⟨_,hsb.extBut _ _ hDC (Wu _ (hH▸W9 _ rfl))⟩;have o2:=T.obj _ _ st2;obtain⟨W,⟨n0,w0⟩,turn⟩:=hw s2.heap.objs.size (I2.hok.fresh (Wv _));generalize eD:s2.heap.objs.size=D at *;generalize eCC:HH.objs.size=C at *;have Ib:=R9 (x:=x) (t1:=s2.toks+([]:List (Str×Value)).length) I2 f2 o2 (by rw[eD];exact Wv _) (by rw[eD];exact hC) hDC old hacc hns hk hcl hhas hfv;have st1:tn 0 h1:=T.keep _ _ _ st2 λb _ o e=>old b o e
 have nD:∀b∈fp,b≠D:=λb hb=>by obtain⟨o,e,_⟩:=o2 b hb;rw[<-eD];exact Xd (Wz e)
 have fr1:∀b∈fp,Ae H2 D (.lst []) b=none:=λb hb=>by rw[AI (nD b hb)];exact (f2 b hb).1
 have hxl:(relabel scope X.env).names.lookup x=some .local:=lookup_relabel_local hx
 have stat:∀{H':Hp},(∀b∈fp,H' b=none)->∀b∈fp,Ew (Hk X s2 H2 (compEnvC scope cl C X.env) fp (x::fv.map (·.2))) [] H' b:=λhn b hb=>by obtain⟨o,e,_⟩:=o2 b hb;exact⟨hn b hb,λz=>qG (Wz e) (by rw[z,eD];exact Nat.not_lt.mpr hC),λz=>(XE.mp (I2.stkSub b z)).elim (f2 b hb).2.1 (f2 b hb).2.2.1,.inl hb,λy c h=>(f2 b hb).2.2.2.2.1 y c (hcl.at' h),λq hq=>nomatch hq⟩
 have loop:codeAny (model X.prog X.w) X.A (.compLoop (.ListComp elt [⟨.Name x px,iter,ifs,0⟩] scope pos) 0 (.ref it) (.ref D) (compEnvC scope cl C X.env)) (RR (.ref D) C) {s2 with heap:=h1,toks:=s2.toks+([]:List (Str×Value)).length}:=by
  refine codeAny_compLoop_tests (λn s'=>∃i acc σb H',AU (Hk X s2 H2 (compEnvC scope cl C X.env) fp (x::fv.map (·.2))) [] σb H' s'/\σb.tail=Ed σ fv/\tn i s'.heap/\(∀b∈fp,H' b=none)/\W n i acc H') ?_ n0 ⟨0,[],_,_,Ib,rfl,st1,fr1,w0⟩;rintro n s3 ⟨i,acc,σ3,H3,I3,t3,st3,fr3,w3⟩;rcases turn n i acc H3 w3 with⟨stop,qn⟩|⟨go,NN,hNN,step⟩
  ·refine BU (T.done (Hk X s2 H2 (compEnvC scope cl C X.env) fp (x::fv.map (·.2))) rfl rfl rfl hc i [] s3 σ3 H3 _ I3 (stat fr3) st3 stop) λr s4 q4=>?_;obtain⟨hr,I4⟩:=q4;subst hr;exact hRR D C σ3 H3 s4 hC I4 qn
  ·refine BU (T.item (Hk X s2 H2 (compEnvC scope cl C X.env) fp (x::fv.map (·.2))) rfl rfl rfl hc i [] s3 σ3 H3 _ I3 (stat fr3) st3 go) λr s4 q4=>?_;obtain⟨u,hr,h4⟩:=q4;subst hr;refine (show wpAny _ _ (letOwnedTupleGo (.Name x px) (.ref it) u >>= λ_=>assign (.Name x px) (compEnvC scope cl C X.env) u) _ _ _ from qC (BU h4 λ_ s5 q5=>?_));obtain⟨v,H5,I5,r5,y5,st5,fr5⟩:=q5;have I5':=I5.pinned (stat fr5) (T.obj _ _ st5);have again:∀{σ7:St} {H7:Hp} {s7:Shared},AU (Hk X s2 H2 (compEnvC scope cl C X.env) fp (x::fv.map (·.2))) ([]++GW fp s5.heap) σ7 H7 s7->tn (i+1) s7.heap/\∀b∈fp,H7 b=none:=λ{σ7 H7 s7} I7=>by refine⟨T.keep _ _ _ st5 λb hb o e=>(I7.pin (b,o) (Xg _ (Xg _ (Dc hb e)))).1,λb hb=>?_⟩;obtain⟨o,e,d⟩:=T.obj _ _ st5 b hb;exact (I7.pin (b,o) (Xg _ (Xg _ (Dc hb e)))).2.1
   have sσ:σ3.set 0 (some v)=some v::Ed σ fv:=by
    cases σ3 with
    |nil =>
     have z:=I3.len;simp[Hk]at z
    |cons a b =>
     have z:b=Ed σ fv:=t3;rw[z];rfl
   have g:=Lw (X:=Hk X s2 H2 (compEnvC scope cl C X.env) fp (x::fv.map (λq:Nat×Str=>q.2))) (pos:=px) (i:=0) (x:=x) hnd rfl (.inl hxl) (.inr hxl);refine wpAny_noRaise (BU (g _ s5 σ3 H5 v u (λσ' H'=>σ'=some v::Ed σ fv/\H'=H5) I5' r5 ⟨sσ,rfl⟩) λ_ s6 q6=>?_);obtain⟨σ6,H6,I6,rfl,rfl⟩:=q6;refine wpAny_noRaise (BU (hf _ _ _ _ _ s6 _ _ _ I6 (step v _ y5)) λb s7 q7=>?_);obtain⟨H7,I7,q7⟩:=q7;cases b with
   |false =>
    rw[qE (by decide)]at q7⊢;obtain⟨n',hn',w7⟩:=hNN _ _ q7;exact⟨n',hn',i+1,acc,_,H7,I7.unpinned,rfl,(again I7).1,(again I7).2,w7⟩
   |true =>
    rw[qF rfl]at q7⊢;refine wpAny_noRaise (BU (he _ _ _ _ _ s7 _ _ _ I7 q7) λyv s8 q8=>?_);obtain⟨y,H8,I8,r8,e8,l8,q8⟩:=q8;obtain⟨n',hn',w8⟩:=hNN _ _ q8;refine wpAny_noRaise (BU (BP (X:=Hk X s2 H2 (compEnvC scope cl C X.env) fp (x::fv.map (·.2))) _ s8 _ H8 (.ref D) [y] (.ref D) [yv] (λ_ H'=>H'=Ae H8 D (.lst (acc++[y]))) I8 rfl (.cons r8 .nil) ⟨D,acc,y,rfl,rfl,e8,l8,rfl⟩) λ_ s9 q9=>?_);obtain⟨_,H9,I9,_,rfl⟩:=q9;exact⟨n',hn',i+1,acc++[y],_,_,I9.unpinned,rfl,(again I9).1,(again I9).2,w8⟩
 exact codeAny_compStart_list loop (T.self X.A 0 _ _ _ st1 loop)
theorem AU.letGo(I2:AU X pins σ H2 s2){σ':St}(J:AU X pins σ' H' s')(hC:s2.heap.objs.size<=C)(hn:H' C=none)(sb:Heap.SameBut C s'.heap h'):AU X pins σ' H' {s' with heap:=h',toks:=s'.toks}:=
 J.turned (it:=C) (λb o hb e=>(sb.2 b hb).trans e) hn (YY (W2 I2.lt hC)) (.inr (Xa I2.sz hC)) (λy c e z=>by obtain⟨v,o,eo,d⟩:=I2.cell y c e;exact qG (W2 (Wz eo) (by rw[z];exact hC)) (XN _)) λp hp z=>qG (W2 (Wz (I2.pin p hp).1) (by rw[z];exact hC)) (XN _)
theorem QI(hc:X.calm=true)(hi:PI X (.Name x px) iter wi)(hclos:closureFor scope X.env=pure cl)(hcell:∀y∈scope.names,y.2≠.cell)(hk:scope.kind=.function)(hnames:∀z∈scope.names,z.2=.local->scope.names.lookup z.1=some .local)
  (hx:scope.names.lookup x=some .local) (hcl:Iq X.env cl) (hhas:((relabel scope X.env).names.all λz=>!(z.2==.cell||z.2==.free)||(cl.lookup z.1).isSome)=true) (hfv:Jt X scope cl fv) (hnd:(x::fv.map (·.2)).Nodup)
  (hf:∀s H C fp,PF (Hk X s H (compEnvC scope cl C X.env) fp (x::fv.map (·.2))) ifs tt) (he:∀s H C fp,PE (Hk X s H (compEnvC scope cl C X.env) fp (x::fv.map (·.2))) elt te)
  (hs:∀x,foldedSetIterable iter X.env x=pure x:=by intro _;rfl):PE X (.ListComp elt [⟨.Name x px,iter,ifs,0⟩] scope pos) (ON wi fv tt te):=by
 intro pins s σ H Q I h;rw[eval_ListComp];refine wpAny_comprehension_free (use:=none) rfl hs hclos hk hnames (BU (hi pins s σ H _ I h) λv s1 h1=>BU h1 λitv s2 h2=>?_);obtain⟨it,fp,tn,J,H2,e,I2,T,st2,f2,hw⟩:=h2;subst e;refine MN (RR:=λacc C=>compPost (model X.prog X.w) X.A X.xe none (EP X pins σ Q) acc C) hc I2 T st2 f2 hcell hk hx hcl hhas hfv hnd hf he hw λD C σ' H' s' hC Ib q=>?_;obtain⟨m,hn,_⟩:=Ib.loc;exact⟨m,hn,λh' sb=>⟨.ref D,H',AU.letGo I2 (Ju I2 f2 Ib) hC Ib.free sb,rfl,q⟩⟩
theorem Cu{y:Str}{iy:Nat}{py spos:Pos}(hc:X.calm=true)(hN:X.N.Nodup)(hy:X.N[iy]?=some y)(hyl:Qp X.env.scope y)(hi:PI X (.Name x px) iter wi)(hsw:swapsWith (.ListComp elt [⟨.Name x px,iter,ifs,0⟩] scope pos) (some (.Name y py)) spos.line X.env=pure true)
  (hclos:closureFor scope X.env=pure cl) (hcell:∀y∈scope.names,y.2≠.cell) (hk:scope.kind=.function) (hnames:∀z∈scope.names,z.2=.local->scope.names.lookup z.1=some .local)
  (hx:scope.names.lookup x=some .local) (hcl:Iq X.env cl) (hhas:((relabel scope X.env).names.all λz=>!(z.2==.cell||z.2==.free)||(cl.lookup z.1).isSome)=true) (hfv:Jt X scope cl fv) (hnd:(x::fv.map (·.2)).Nodup)
  (hf:∀s H C fp,PF (Hk X s H (compEnvC scope cl C X.env) fp (x::fv.map (·.2))) ifs tt) (he:∀s H C fp,PE (Hk X s H (compEnvC scope cl C X.env) fp (x::fv.map (·.2))) elt te)
  (hyf:X.fn y=true\/X.env.scope.names.lookup y=some .local:=by first|exact .inl rfl|exact .inr rfl) (hs:∀x,foldedSetIterable iter X.env x=pure x:=by intro _;rfl):
  PS X (.Assign [.Name y py] (.ListComp elt [⟨.Name x px,iter,ifs,0⟩] scope pos) spos) (Jb (ON wi fv tt te) (Cq iy)):=by
 intro pins s σ H D h' h;have I:=h';rw[exec_Assign_Name_used _ _ _ _ hsw];refine qC (wpAny_standAt (qC ?_));show wpAny _ X.A (do let _ <-comprehension (.ListComp elt [⟨.Name x px,iter,ifs,0⟩] scope pos) scope X.env _ (newList []) false (eval iter X.env) (some (assign (.Name y py) X.env))) _ _ s;refine qC (wpAny_mono (wpAny_comprehension_free (use:=some (assign (.Name y py) X.env)) (Q:=λ_ s'=>SP X pins D .next s') rfl hs hclos hk hnames (BU (hi pins s σ H _ I h) λv s1 h1=>BU h1 λitv s2 h2=>?_)) (λ_ s' hq=>qD (qD hq)) λ_ _ e=>e);obtain⟨it,fp,tn,J,H2,e,I2,T,st2,f2,hw⟩:=h2;subst e;refine MN (Q:=λv H1=>Cq iy v σ H1 D.nx) (RR:=λacc C=>compPost (model X.prog X.w) X.A X.xe (some (assign (.Name y py) X.env)) (λ_ s'=>SP X pins D .next s') acc C) hc I2 T st2 f2 hcell hk hx hcl hhas hfv hnd hf he hw λD' C σ' H' s' hC Ib q=>?_;obtain⟨m,hn,_⟩:=Ib.loc;show wpAny _ X.A (assign (.Name y py) X.env (.ref D')) _ _ _;refine wpAny_assign_Name (Hw (Ju I2 f2 Ib) hN hy hyl (v:=.ref D') rfl (λs3 I3 hsb=>?_) hyf);obtain⟨a,sb3,ha⟩:=hsb
 have nC:C≠a:=λz=>by
  rcases ha with e|e
  ·exact qG (W2 I2.lt hC) (by rw[z,e];exact XN _)
  ·obtain⟨v,o,eo,d⟩:=I2.cell y a e;exact qG (W2 (Wz eo) (by rw[<-z];exact hC)) (XN _)
 exact⟨m,hn.sameBut sb3 nC,λh'' sb=>⟨_,H',AU.letGo I2 I3 hC Ib.free sb,q⟩⟩
end
variable{tt:TT}{σf:List (Option V)}
theorem A4{lo:Int}{n:Nat}{D:Addr}{Q:VK}(Pv:Nat->List V->Hp->Prop)(h0:Pv 0 [] (Ae H D (.lst [])))
  (hs:∀i acc H2,i<n->Pv i acc H2->tt (some (.int (lo+i))::σf) H2 λb H4=>if b=true then te (some (.int (lo+i))::σf) H4 λy H5=>H5 D=some (.lst acc)/\acc.length<sizeLine/\Pv (i+1) (acc++[y]) (Ae H5 D (.lst (acc++[y]))) else Pv (i+1) acc H4)
  (hd:∀acc H2,Pv n acc H2->Q (.ref D) H2):D8 (Qt lo n) tt te σf D Q H:=by
 refine⟨λk i acc H=>k=n-i/\i<=n/\Pv i acc H,⟨n,by simp,Nat.zero_le _,h0⟩,?_⟩;rintro k i acc H2 ⟨rfl,hi,p⟩
 by_cases hlt:i<n
 ·refine .inr ⟨hlt,Pv (i+1),λl H' p'=>⟨n-(i+1),by lia,rfl,hlt,p'⟩,λx H' y=>?_⟩;obtain⟨e,y⟩:=y;subst e y;exact hs i acc _ hlt p
 ·have e:i=n:=by lia
  subst e;exact .inl ⟨Wv _,hd acc H2 p⟩
theorem EM{K:qJ}{D:Addr}{Q:VK}(Pv:Nat->List V->Hp->Prop)(h0:Pv 0 [] (Ae H D (.lst [])))(hl:∀i acc H,i<=xs.length->Pv i acc H->Ab K H a xs)
  (hs:∀i x acc H2,xs[i]?=some x->Pv i acc H2->tt (some x::σf) H2 λb H4=>if b=true then te (some x::σf) H4 λy H5=>H5 D=some (.lst acc)/\acc.length<sizeLine/\Pv (i+1) (acc++[y]) (Ae H5 D (.lst (acc++[y]))) else Pv (i+1) acc H4)
  (hd:∀acc H2,Pv xs.length acc H2->Q (.ref D) H2):D8 (Tl K a) tt te σf D Q H:=by
 refine⟨λk i acc H=>k=xs.length-i/\i<=xs.length/\Pv i acc H,⟨xs.length,by simp,Nat.zero_le _,h0⟩,?_⟩;rintro k i acc H2 ⟨rfl,hi,p⟩;have q:=hl i acc H2 hi p
 by_cases hlt:i<xs.length
 ·refine .inr ⟨⟨xs,xs[i],q,by simp[hlt]⟩,Pv (i+1),λl H' p'=>⟨xs.length-(i+1),by lia,rfl,hlt,p'⟩,λx H' y=>?_⟩;obtain⟨e,y⟩:=y;subst e;exact hs i x acc _ (y xs q) p
 ·have e:i=xs.length:=by lia
  subst e;exact .inl ⟨⟨xs,q,Wv _⟩,hd acc H2 p⟩
theorem LJ:Ds X (.type "int") (λxs H Q=>∃i:Int,(xs=[.int i]\/∃b,xs=[.bl b]/\i=if b=true then 1 else 0)/\Q (.int i) H):=by
 intro pins s σ H xs us Q I r h;obtain⟨i,h,q⟩:=h;rcases h with rfl|⟨b,rfl,e⟩
 ·obtain⟨u,rfl,⟨t,rfl⟩⟩:=Eb r;exact call_int_int ⟨.int i,H,I,⟨t,rfl⟩,q⟩
 ·obtain⟨u,rfl,rx⟩:=Eb r;cases rx;subst e;exact call_int_bool ⟨.int _,H,I.tok _,⟨_,rfl⟩,q⟩
theorem Jv(hc:X.calm=true):Ds X (.builtin "min") (λxs H Q=>∃(p:Addr) (ns:List Int),xs=[.ref p]/\Ab X.K H p (ns.map V.int)/\0<ns.length/\∀m:Int,m∈ns->(∀n∈ns,m<=n)->Q (.int m) H):=by
 intro pins s σ H xs us Q I r h;obtain⟨p,ns,rfl,hq,hpos,q⟩:=h;obtain⟨u,rfl,rx⟩:=Eb r;cases rx;obtain⟨its,rits,pl,hz⟩:=I.list hq;have hlen:=rits.length;rw[Wq]at hlen;have alt:p<s.heap.objs.size:=by obtain⟨o,e,_⟩:=pl.isList;exact Wz e
 have up:∀b o,s.heap.get? b=some o->(s.heap.push {cls:=.type "list_iterator",data:=.fields #[.ref p,.int 0 0]}).get? b=some o:=λb o e=>Wu _ e
 have hval:∀(i:Nat) (v:Value),its.toArray[i]?=some v->i<ns.length/\∃t,v=.int (ns.getD i 0) t:=λi v hv=>by
  have hv':its[i]?=some v:=by simpa using hv
  have hi:=(Ws.mp hv').1;obtain⟨u2,hu2,ru2⟩:=rits.get (x:=.int (ns.getD i 0)) (i:=i) (by rw[W0,Wx (by lia),Wt,Wx (by lia)];rfl);rw[hv']at hu2;cases hu2;exact⟨by lia,ru2⟩
 refine call_min_walk (wpAny_pyIter_list pl.isList ?_);refine⟨s.heap.objs.size,[s.heap.objs.size,p],[s.heap.objs.size],its.toArray.size,_,_,_,rfl,Walks.list (A:=X.A.in1) (I.ok.hd hc) _ p (Xd alt) its.toArray,⟨⟨_,W9 _ rfl,rfl,rfl⟩,pl.isList.at λo e=>up p o e⟩,λb hb=>?_,by rw[Xc];lia,CmpOf.ints_lt (λi=>ns.getD i 0) (λi v hv=>(hval i v hv).2),λv h' tk hv kk=>?_⟩
 ·show b<(s.heap.push _).objs.size;rw[X5];rcases XE.mp hb with z|z
  ·rw[z];exact Nat.lt_succ_self _
  ·rw[Wr.mp z];exact ZJ alt
 ·obtain⟨hb,t,rfl⟩:=hval _ v hv;refine⟨.int _,H,I.kept (t':=tk) λb o e=>kk b o (λz=>?_) (up b o e),⟨t,rfl⟩,q _ ?_ ?_⟩
  ·rw[Wr.mp z]at e;exact qG (Wz e) (XN _)
  ·rw[Wt,Wx hb];exact List.getElem_mem hb
  ·intro n hn;obtain⟨j,hj,e⟩:=List.getElem_of_mem hn;have z:=(argBest_lt (λi=>ns.getD i 0) (its.toArray.size-1)).2 j (by rw[Xc];lia);have e2:ns.getD j 0=n:=by rw[Wt,Wx hj];exact e
   rw[e2]at z;exact z
noncomputable def SA(lo c:Int)(n:Nat):It:=⟨λi _=>i<n,λi H x H'=>H'=H/\x=.int (lo+i*c),λi _=>n<=i⟩
noncomputable def Ph(a b c:Int):Nat:=if a<b then ((b-a-1)/c+1).toNat else 0
theorem OO{a b c:Int}(hc:0<c):Builtin.Range.rangeSize a b c=((Ph a b c:Nat):Int):=by
 unfold Builtin.Range.rangeSize Ph;rw[qF hc];split
 ·have:=YN (show 0<=b-a-1 by lia) (XQ hc);lia
 ·rfl
theorem Jw{P:Program}{w:World}{K:qJ}(it:Addr)(lo c:Int)(n:Nat):GV P w K tg (SA lo c n) [it] it (λi h=>IsRangeIter h it (lo+(i:Nat)*c) ((n:Int)-(i:Nat)) c) where
 mem:=Wr.mpr rfl
 obj:=λi h st b hb=>by cases Wr.mp hb;refine⟨_,st,λv z=>?_⟩;have y:Data.fields _=Data.cell v:=z;cases y
 keep:=λi h h' st k=>k it (Wr.mpr rfl) _ st
 item:=by intro X hP hw hK hc i pins s σ H E I hf st hg;subst hP hw hK;obtain⟨f0,f1,f2,f3,f4,f5⟩:=hf it (Wr.mpr rfl);have V:=Walks.range (prog:=X.prog) (w:=X.w) (I.ok.hd hc) it lo c n;refine V.item i s _ _ hg st λv h' tk hv st' kk=>?_;obtain⟨t,rfl⟩:=hv;have J:AU X pins σ H {s with heap:=h',toks:=tk}:=I.turned (λb o hb e=>kk b o (λz=>hb (Wr.mp z)) e) f0 f1 f3 f4 f5;exact⟨_,rfl,Hy (s:={s with heap:=h',toks:=tk}) (n:="range_iterator") st' rfl rfl (by decide) ⟨.int (lo+i*c),H,J,⟨t,rfl⟩,⟨rfl,rfl⟩,st',λb hb=>(hf b hb).1⟩⟩
 done:=by intro X hP hw hK hc i pins s σ H E I hf st hg;subst hP hw hK;obtain⟨f0,f1,f2,f3,f4,f5⟩:=hf it (Wr.mpr rfl);exact wpAny_pyNext_range_end (I.ok.hd hc) st (by have z:n<=i:=hg;lia) λh' eb=>⟨rfl,I.turned (t':=s.toks) (λb o hb e=>eb b o hb e) f0 f1 f3 f4 f5⟩
 self:=λ_ _ _ _ _ st h=>wpAny_pyIter_rangeiter st h
def UT(ta:TA):TI:=λσ H R=>ta σ H λvs H1=>∃a b c:Int,vs=[.int a,.int b,.int c]/\(0<=a/\a<2^29/\0<=b/\b<2^29/\0<c/\c<2^29)/\R (SA a c (Ph a b c)) H1
theorem LK{a b c:Int}(h:0<=a/\a<2^29/\0<=b/\b<2^29/\0<c/\c<2^29):Builtin.Range.small a b c=true:=by
 obtain⟨a0,a1,b0,b1,c0,c1⟩:=h;unfold Builtin.Range.small;rw[OO c0]
 have hr:((Ph a b c:Nat):Int)<=2^29:=by
  unfold Ph;split
  ·have h1:=ZP c (show 0<=b-a-1 by lia);have h2:=YN (show 0<=b-a-1 by lia) (XQ c0);lia
  ·lia
 simp only[Builtin.Range.rangeFitsLong,Bool.and_eq_true,Bool.or_eq_true,decide_eq_true_eq,beq_iff_eq];rw[qF c0];simp only[Bool.and_eq_true,decide_eq_true_eq];lia
theorem NC{a b c:Expr}{p pos:Pos}(hg:Gl X "range")(hm:X.mg "range"=none)(ha:PA X [a,b,c] ta)(hs:starEach [a,b,c] X.env=[(false,eval a X.env),(false,eval b X.env),(false,eval c X.env)]:=by rfl)(hs2:starEach [b,c] X.env=[(false,eval b X.env),(false,eval c X.env)]:=by rfl):
  PI X tg (.Call (.Name "range" p) [a,b,c] [] pos) (UT ta):=by
 intro pins s σ H R I h;refine Call_ (CP I hg hm boot_range (Xb (BU (ha pos pins s σ H _ I h) λus s1 ⟨vs,H1,I1,r1,q1⟩=>?_) (by rw[hs,hs2]) (by rw[hs2];rfl)));obtain⟨x,y,z,e,hb,q⟩:=q1;subst e
 obtain⟨u1,u2,u3,rfl,⟨t1,rfl⟩,⟨t2,rfl⟩,⟨t3,rfl⟩⟩:∃u1 u2 u3,us=[u1,u2,u3]/\An (.int x) u1/\An (.int y) u2/\An (.int z) u3:=by
  cases r1 with
  |cons r rr =>
   cases rr with
   |cons r' rr =>
    cases rr with
    |cons r'' rr =>
     cases rr;exact⟨_,_,_,rfl,r,r',r''⟩
 refine call_range_3 (by lia) ?_ (Or.inl (PyProof.noPylong_small (by lia)));refine wpAny_pyIter_range (IsRange.new ..) (LK hb) ?_;have J:AU X pins σ H1 {s1 with heap:=s1.heap.push {cls:=.type "range",data:=.fields #[.int x t1,.int y t2,.int z t3]},toks:=s1.toks}:=I1.kept λb o e=>Wu _ e
 generalize hG:s1.heap.push {cls:=.type "range",data:=.fields #[.int x t1,.int y t2,.int z t3]}=G at J⊢;refine⟨G.objs.size,[G.objs.size],_,_,H1,rfl,J.kept (t':=s1.toks) λb o e=>Wu _ e,Jw _ x z (Ph x y z),?_,λb hb=>?_,q⟩
 ·have e1:x+((0:Nat):Int)*z=x:=by simp
  have e2:(((Ph x y z):Nat):Int)-((0:Nat):Int)=Builtin.Range.rangeSize x y z:=by rw[OO hb.2.2.2.2.1];simp
  show IsRangeIter _ _ (x+((0:Nat):Int)*z) ((((Ph x y z):Nat):Int)-((0:Nat):Int)) z;rw[e1,e2];exact W9 _ rfl
 ·cases Wr.mp hb;exact J.fpOk (Wv _) (J.hok.fresh (Wv _))
theorem Jx{lo c:Int}{n:Nat}{D:Addr}{Q:VK}(Pv:Nat->List V->Hp->Prop)(h0:Pv 0 [] (Ae H D (.lst [])))
  (hs:∀i acc H2,i<n->Pv i acc H2->tt (some (.int (lo+i*c))::σf) H2 λb H4=>if b=true then te (some (.int (lo+i*c))::σf) H4 λy H5=>H5 D=some (.lst acc)/\acc.length<sizeLine/\Pv (i+1) (acc++[y]) (Ae H5 D (.lst (acc++[y]))) else Pv (i+1) acc H4)
  (hd:∀acc H2,Pv n acc H2->Q (.ref D) H2):D8 (SA lo c n) tt te σf D Q H:=by
 refine⟨λk i acc H=>k=n-i/\i<=n/\Pv i acc H,⟨n,by simp,Nat.zero_le _,h0⟩,?_⟩;rintro k i acc H2 ⟨rfl,hi,p⟩
 by_cases z:i<n
 ·refine .inr ⟨z,Pv (i+1),λl H' p'=>⟨n-(i+1),by lia,rfl,z,p'⟩,λx H' y=>?_⟩;obtain⟨e1,e2⟩:=y;subst e1 e2;exact hs i acc _ z p
 ·obtain rfl:i=n:=by lia
  exact .inl ⟨Wv _,hd acc H2 p⟩
section
variable{prog:Program}{w:World}{A:Around}
theorem F0{t:Addr}{items}{x:Value}(hit:s.heap.IsTupleIter it t i)(ht:s.heap.IsTuple t items)(hx:items[i]?=some x)
  (hQ:∀h',h'.IsTupleIter it t (i+1)->Heap.SameBut it s.heap h'->Q x {s with heap:=h'}):wpAny (model prog w) A (Builtin.SmallTypes.nextOf (.ref it)) Q E s:=by
 obtain⟨o,ho,hc,hd⟩:=id hit;obtain⟨ol,hol,_,nl,hdl⟩:=ht;unfold Builtin.SmallTypes.nextOf;refine qC (wpAny_callSpecial?_slot (name:=Str.ofString "__next__") hit.typeIs F.slot_tuple_iterator_next (wpAny_call_entry F.slot_tuple_iterator_next hit.typeIs F.entry_tuple_iterator_next ?_ (F.args_tuple_iterator_next_1 _)))
 (show wpAny _ _ (field (.ref it) 0 >>= _) _ _ s);refine qC (wpAny_field ho hd (x:=.ref t) rfl ?_)
 (show wpAny _ _ (if (Value.ref t==Value.none)=true then _ else _) _ _ s);rw[qE (show ¬((Value.ref t==Value.none)=true) from XG)]
 (show wpAny _ _ (field (.ref it) 1 >>= _) _ _ s);refine qC (wpAny_field ho hd (x:=.int i 0) rfl ?_)
 (show wpAny _ _ (seqItems? (.ref t) >>= _) _ _ s);refine qC (wpAny_seqItems hol hdl ?_)
 simp only[Int.toNat_natCast,hx];refine qC (wpAny_setField ho hd (by simp) (qD ⟨x,rfl,qD (hQ _ ⟨_,Heap.get?_update_self _ ho (Obj.isFreed_of_fields (Obj.data_mapFields hd _)),(Obj.cls_mapFields ..).trans hc,by rw[Obj.data_mapFields hd];simp[rawInt]⟩ (Heap.SameBut.update ..))⟩))
theorem D9{t:Addr}{items}(hh:A.handled=none)(hit:s.heap.IsTupleIter it t i)(ht:s.heap.IsTuple t items)(hx:items[i]?=none)
  (hE:∀h' e,Heap.ExtBut it s.heap h'->(∃o,h'.get? e=some o/\o.cls=.type "StopIteration")->E (.ref e) {s with heap:=h'}):wpAny (model prog w) A (Builtin.SmallTypes.nextOf (.ref it)) Q E s:=by
 obtain⟨o,ho,hc,hd⟩:=id hit;obtain⟨ol,hol,_,nl,hdl⟩:=ht;unfold Builtin.SmallTypes.nextOf;refine qC (wpAny_callSpecial?_slot (name:=Str.ofString "__next__") hit.typeIs F.slot_tuple_iterator_next (wpAny_call_entry F.slot_tuple_iterator_next hit.typeIs F.entry_tuple_iterator_next ?_ (F.args_tuple_iterator_next_1 _)))
 (show wpAny _ _ (field (.ref it) 0 >>= _) _ _ s);refine qC (wpAny_field ho hd (x:=.ref t) rfl ?_)
 (show wpAny _ _ (if (Value.ref t==Value.none)=true then _ else _) _ _ s);rw[qE (show ¬((Value.ref t==Value.none)=true) from XG)]
 (show wpAny _ _ (field (.ref it) 1 >>= _) _ _ s);refine qC (wpAny_field ho hd (x:=.int i 0) rfl ?_)
 (show wpAny _ _ (seqItems? (.ref t) >>= _) _ _ s);refine qC (wpAny_seqItems hol hdl ?_)
 simp only[Int.toNat_natCast,hx];refine qC (wpAny_rule (qC (wpAny_setField ho hd (by simp) ?_)));show wpAny _ _ (newExc (.type "StopIteration") [] >>= _) _ _ _;refine qC ?_;simp only[newExc,newTuple];refine qC (wpAny_newObj_type ?_ (by size_fits));refine qC (m:=firstArgMember _ _) (wpAny_of_eq (a:=Value.none) (by first|rfl|(simp only[firstArgMember];rfl)) ?_);refine wpAny_newObj_type ?_ (by size_fits);simp only[raiseNew];refine qC (wpAny_handled ?_);(first|rw[show A.in1.handled=none from hh]|rw[hh]);refine qC (qD (wpAny_throw ?_));exact (hE _ _ (((Heap.SameBut.update ..).extBut.push _).push _) ⟨_,W9 _ rfl,rfl⟩)
theorem ND(hh:A.handled=none)(it t:Addr)(hne:t≠it)(items:Array Value):Draws prog w A it [it,t] items.size (λi v=>items[i]?=some v) (λi h=>h.IsTupleIter it t i/\h.IsTuple t items) where
 live:=λ_ _ ⟨⟨o,ho,_⟩,_⟩=>⟨o,ho⟩
 frame:=λ_ _ _ ⟨st,o,ho,r⟩ hk=>⟨st.at λo e=>hk it (by simp) o e,o,hk t (by simp) o ho,r⟩
 item:=λi s Q E hi st hQ=>F0 st.1 st.2 (x:=items[i]) (by simp[hi]) λh' hit' hs'=>hQ _ h' s.toks (by simp[hi]) ⟨hit',st.2.extBut hs'.extBut hne⟩ hs'
 done:=λs Q E st hE=>D9 hh st.1 st.2 (by simp) hE
open AutoSeq1 (wpAny_loadPart') in
theorem Jy(l:Addr)(items:Array Value)(n:Nat)(dct:Option Addr)(sl:Array (Option Value)):
  Meets (Builtin.«enumerate.__new__» ⟨[.type "enumerate",.ref l],[]⟩) (λ_ R s=>s.heap.get? l=some {cls:=.type "tuple",dict:=dct,data:=.seq items n,slots:=sl} /\
   R (.ok (.ret (.ref (s.heap.push {cls:=.type "tuple_iterator",data:=.fields #[.ref l,.int 0 0]}).objs.size)))
    {s with heap:=(s.heap.push {cls:=.type "tuple_iterator",data:=.fields #[.ref l,.int 0 0]}).push {cls:=.type "enumerate",data:=.fields #[.none,.bool false,.ref s.heap.objs.size,rawInt 0,.none,.none]}}):=
 .of_wp λprog w A R s h=>by
  obtain⟨hp,g,d,tk,os⟩:=s;obtain⟨hl,h⟩:=h;have hsub:=sub_enumerate;have hL:Heap.IsTuple (Shared.heap ⟨hp,g,d,tk,os⟩) l items:=⟨_,hl,rfl,n,rfl⟩
  wp_walk using wpAny_loadPart' hl
  refine wpAny_stack_any λst=>qD ?_
  split
  ·rename_i c _ _ _ _ _
   cases (c==Value.type "enumerate")<;>(wp_walk using wpAny_loadPart' hl,wpAny_pyIter_tuple hL)<;>exact⟨_,rfl,h⟩
  ·(wp_walk using wpAny_loadPart' hl,wpAny_pyIter_tuple hL);exact⟨_,rfl,h⟩
theorem LL{l:Addr}(hL:s.heap.IsTuple l items)
  (h:∀h',IsEnum h' (s.heap.objs.size+1) s.heap.objs.size 0 .none->h'.IsTupleIter s.heap.objs.size l 0->h'.objs.size=s.heap.objs.size+2->(∀b o,s.heap.get? b=some o->h'.get? b=some o)->Q (.ref (s.heap.objs.size+1)) {s with heap:=h'}):
  wpAny (model prog w) A (call (.type "enumerate") [.ref l]) Q E s:=by
 obtain⟨⟨c,dct,dt,sl⟩,hl,hc,n,hd⟩:=hL;replace hc:c=.type "tuple":=hc;replace hd:dt=.seq items n:=hd;subst hc hd;refine callType_new F.called_enumerate (by decide) (F.typeCall_enumerate_1 _) (F.newCall_enumerate_1 _) (λobj=>F.args_object_init_2 obj _) F.entry_enumerate_new (Jy l items n dct sl) ⟨hl,?_⟩;have hz:(s.heap.push {cls:=.type "tuple_iterator",data:=.fields #[.ref l,.int 0 0]}).objs.size=s.heap.objs.size+1:=X5 ..;show _/\_;rw[hz]
 have he:IsEnum ((s.heap.push {cls:=.type "tuple_iterator",data:=.fields #[.ref l,.int 0 0]}).push {cls:=.type "enumerate",data:=.fields #[.none,.bool false,.ref s.heap.objs.size,rawInt 0,.none,.none]}) (s.heap.objs.size+1) s.heap.objs.size 0 .none:=by have:=W9 (s.heap.push {cls:=.type "tuple_iterator",data:=.fields #[.ref l,.int 0 0]}) (o:={cls:=.type "enumerate",data:=.fields #[.none,.bool false,.ref s.heap.objs.size,rawInt 0,.none,.none]}) rfl;rw[hz]at this;exact this
 exact⟨⟨_,he,rfl⟩,h _ he ⟨_,Wu _ (W9 _ rfl),rfl,rfl⟩ (by rw[X5,hz]) λb o x=>Wu _ (Wu _ x)⟩
theorem FT{e t:Addr}{old:Value}{Q:Option Value->Shared->Prop}(hh:A.handled=none)(he:IsEnum s.heap e it i old)(hit:s.heap.IsTupleIter it t i)(ht:s.heap.IsTuple t items)(hx:items[i]?=none)
  (hQ:∀h',Heap.ExtBut it s.heap h'->Q none {s with heap:=h'}):wpAny (model prog w) A (pyNext (.ref e)) Q E s:=by
 have hT:s.TypeIs (.ref e) "enumerate":=⟨_,he,rfl⟩;unfold pyNext;refine qC (wpAny_attempt (wpAny_callSpecial?_slot (name:=Str.ofString "__next__") hT F.slot_enumerate_next (wpAny_call_entry F.slot_enumerate_next hT F.entry_enumerate_next ?_ (F.args_enumerate_next_1 _))))
 (show wpAny _ _ (field (.ref e) 2 >>= _) _ _ _);refine qC (wpAny_field he rfl (x:=.ref it) rfl ?_)
 refine qC (D9 hh hit ht hx λh' x he' hx'=>?_);obtain⟨o,ho,hc⟩:=hx';exact qC (wpAny_isInstance (T:="StopIteration") (b:=true) ⟨o,ho,hc⟩ isSubtype_stop (qD (hQ _ he')))
end
noncomputable def OP(K:qJ)(a:Addr):It:=
 ⟨λi H=>∃xs x,BL K H a xs/\xs[i]?=some x,λi H v H'=>∃p x,v=.ref p/\H p=none/\H'=Ae H p (.tup [.int i,x])/\∀xs,BL K H a xs->xs[i]?=some x,λi H=>∃xs,BL K H a xs/\xs.length<=i⟩
theorem LM{P:Program}{w:World}{K:qJ}{ctx}(a e it:Addr)(hne:e≠it)(hna:a≠it)(hea:e≠a):
  GV P w K (.Tuple elts ctx tpos) (OP K a) [e,it] e (λi h=>(∃old,IsEnum h e it ((i:Nat):Int) old)/\h.IsTupleIter it a i) where
 mem:=by simp
 obj:=λi h st b hb=>by
  obtain⟨⟨old,q⟩,o,e1,c,d⟩:=st;rcases XE.mp hb with z|z
  ·rw[z];exact⟨_,q,λv y=>by cases y⟩
  ·rw[Wr.mp z];exact⟨o,e1,λv y=>by rw[d]at y;cases y⟩
 keep:=λi h h' st k=>by obtain⟨⟨old,q⟩,li⟩:=st;exact⟨⟨old,k e (by simp) _ q⟩,li.at λo z=>k it (by simp) o z⟩
 item:=by
  intro X hP hw hK hc i pins s σ H E I hf st hg;subst hP hw hK;obtain⟨xs,x,hq,hx⟩:=hg;obtain⟨its,rv,p,hz⟩:=I.tuple hq;obtain⟨u,hu,ru⟩:=rv.get hx;obtain⟨⟨old,he⟩,li⟩:=st
  have hil:i<its.toArray.size:=by have:=(Ws.mp hu).1;simpa using this
  refine wpAny_pyNext_enum_itemD (ND (A:=X.A.in1) (show X.A.in1.handled=none from I.ok.hd hc) it a hna its.toArray) he ⟨li,show s.heap.IsTuple a its.toArray from p⟩ hil hne (by simp[hne,hea]) λy h1 tk hy out li1 ht hsz k1=>?_
  have ey:y=u:=by
   have e1:its.toArray[i]?=some u:=by simpa using hu
   rw[e1]at hy;exact (Option.some.inj hy).symm
  subst ey;refine⟨_,rfl,wpAny_letOwnedTupleGo_enum out λh2 he2 sb=>?_⟩;have k2:∀b o,b∉[e,it]->s.heap.get? b=some o->h2.get? b=some o:=λb o hb z=>(sb.2 b λy=>hb (by simp[y])).trans (k1 b o (λy=>hb (by simp[y])) (λy=>hb (by simp[y])) z)
  have hpe:s.heap.objs.size≠e:=YY (Wz he);have ht2:h2.get? s.heap.objs.size=some {cls:=.type "tuple",data:=.seq #[.int ((i:Nat):Int) tk,y]}:=(sb.2 _ hpe).trans ht;have hn:H s.heap.objs.size=none:=I.hok.fresh (Wv _);refine⟨.ref s.heap.objs.size,Ae H s.heap.objs.size (.tup [.int ((i:Nat):Int),x]),I.turnedNew (h':=h2) (t':=tk+1) hf k2 (Wv _) ⟨by show 2<=sizeLine;decide,[.int ((i:Nat):Int) tk,y],.cons ⟨_,rfl⟩ (.cons ru .nil),⟨_,ht2,rfl,_,rfl⟩⟩,rfl,⟨_,x,rfl,hn,rfl,λys hy=>by rw[I.tuple_inj hy hq];exact hx⟩,⟨⟨y,?_⟩,?_⟩,λb hb=>?_⟩
  ·have ec:(((i+1:Nat)):Int)=((i:Nat):Int)+1:=by push_cast;rfl
   rw[ec];exact he2
  ·exact li1.1.at λo z=>(sb.2 it (Ne.symm hne)).trans z
  ·have b0:=(hf b hb).1;rw[AI λz=>?_]
   ·exact b0
   ·obtain⟨o,z1,_⟩:=id li;rcases XE.mp hb with y|y
    ·exact hpe (z.symm.trans y)
    ·exact qG (Wz z1) (by rw[<-Wr.mp y,z];exact XN _)
 done:=by intro X hP hw hK hc i pins s σ H E I hf st hg;subst hP hw hK;obtain⟨xs,hq,hx⟩:=hg;obtain⟨its,rv,p,hz⟩:=I.tuple hq;obtain⟨⟨old,he⟩,li⟩:=st;obtain⟨f0,f1,f2,f3,f4,f5⟩:=hf it (by simp);have hl:=rv.length;exact FT (I.ok.hd hc) he li p (by simp;lia) λh' eb=>⟨rfl,I.turned (t':=s.toks) (λb o hb e=>eb b o hb e) f0 f1 f3 f4 f5⟩
 self:=λ_ _ _ _ _ st h=>by obtain⟨⟨old,he⟩,_⟩:=st;exact wpAny_pyIter_enum he h
section
variable{ctx}
def SB(K:qJ)(ta:TA):TI:=λσ H R=>ta σ H λvs H1=>∃a xs,vs=[.ref a]/\BL K H1 a xs/\R (OP K a) H1
theorem OQ{l:Expr}{p pos:Pos}(hg:Gl X "enumerate")(hm:X.mg "enumerate"=none)(ha:PA X [l] ta)(hs:starEach [l] X.env=[(false,eval l X.env)]:=by rfl):PI X (.Tuple elts ctx tpos) (.Call (.Name "enumerate" p) [l] [] pos) (SB X.K ta):=by
 intro pins s σ H R I h;refine Call_ (CP I hg hm boot_enumerate (Xb (BU (ha pos pins s σ H _ I h) λus s1 z9=>?_) hs rfl));obtain⟨vs,H1,I1,r1,q1⟩:=z9;obtain⟨a,xs,e,hq,q⟩:=q1;subst e;cases r1 with
 |cons r rr =>
  cases rr;cases r;obtain⟨its,rv,pl,hz⟩:=I1.tuple hq;have hal:a<s1.heap.objs.size:=by obtain⟨o,ho,_⟩:=id pl;exact Wz ho
  refine LL pl λh1 he li hsz k1=>?_;refine wpAny_pyIter_enum he ?_;have n1:H1 (s1.heap.objs.size+1)=none:=I1.hok.fresh (Ya _);have n0:H1 s1.heap.objs.size=none:=I1.hok.fresh (Wv _);refine⟨s1.heap.objs.size+1,[s1.heap.objs.size+1,s1.heap.objs.size],_,_,H1,rfl,I1.kept (t':=s1.toks) k1,LM a _ _ (Nat.succ_ne_self _) (Xd hal) (YY (ZJ hal)),⟨⟨_,he⟩,li⟩,λb hb=>?_,q⟩;rcases XE.mp hb with z|z
  ·rw[z];exact I1.fpOk (Ya _) n1
  ·rw[Wr.mp z];exact I1.fpOk (Wv _) n0
theorem NE{K:qJ}{g:TG}{tb:TS}(Pv:Nat->St->Hp->Prop)(h0:Pv 0 σ H)(hl:∀i σ H,i<=xs.length->Pv i σ H->BL K H a xs)
  (hs:∀i x p σ H,xs[i]?=some x->Pv i σ H->H p=none->g (.ref p) σ (Ae H p (.tup [.int ((i:Nat):Int),x])) λσ2 H2=>tb {D with nx:=Pv (i+1),ct:=Pv (i+1),bk:=D.nx} σ2 H2) (hd:∀σ H,Pv xs.length σ H->D.nx σ H):
  ∃W:Nat->Nat->St->Hp->Prop,(∃m,W 0 m σ H)/\∀i m σ H,W i m σ H ->
   ((OP K a).stop i H/\D.nx σ H)\/((OP K a).go i H/\∃N:St->Hp->Prop,(∀σ' H',N σ' H'->∃m',m'<m/\W (i+1) m' σ' H')/\∀x H',(OP K a).yld i H x H'->g x σ H' λσ2 H2=>tb {D with nx:=N,ct:=N,bk:=D.nx} σ2 H2):=by
 refine⟨λi m σ H=>m=xs.length-i/\i<=xs.length/\Pv i σ H,⟨xs.length,by simp,Nat.zero_le _,h0⟩,?_⟩;rintro i m σ H ⟨rfl,hi,p⟩;have q:=hl i σ H hi p
 by_cases hlt:i<xs.length
 ·refine .inr ⟨⟨xs,xs[i],q,by simp[hlt]⟩,Pv (i+1),λσ' H' p'=>⟨xs.length-(i+1),by lia,rfl,hlt,p'⟩,λv H' y=>?_⟩;obtain⟨p2,x,e1,e2,e3,y⟩:=y;subst e1 e3;exact hs i x p2 σ H (y xs q) p e2
 ·have e:i=xs.length:=by lia
  subst e;exact .inl ⟨⟨xs,q,Wv _⟩,hd σ H p⟩
end
def UU(K:qJ):R2:=λx y H Q=>∃d e,D7 K H x d/\D7 K H y e/\d.canLay0=true/\e.canLay0=true/\d.depth<=60/\Q (.bl (!PyData.eqv d e)) H
theorem SC(hu:X.A.units+64<cLine):Ev X (compareOp .NotEq) (UU X.K):=by intro pins s σ H x y v u Q I rx ry h;obtain⟨d,e,hd,he,c1,c2,dd,q⟩:=h;obtain⟨as,r1⟩:=hd.reads I rx;obtain⟨bs,r2⟩:=he.reads I ry;have z:=SeqAt.rcNeAt_reads (A:=X.A) r1 r2 c1 c2 (by have:=Nat.min_le_left d.depth e.depth;lia);exact z X.prog X.w X.xe _ ⟨.bl _,H,I,rfl,q⟩
end L2
namespace RW
noncomputable def dr(g n:Int):Nat->Int
 |0=>n
 |i+1=>dr g n i/g
noncomputable def DN(g n:Int):Nat->List Int
 |0=>[]
 |i+1=>DN g n i++[dr g n i%g]
theorem DC(g n:Int):∀i,(DN g n i).length=i
 |0=>rfl
 |i+1=>by rw[DN,W1,DC g n i];rfl
theorem Ap{g:Int}(hg:2<=g):∀m:Nat,0<g^m
 |0=>by rw[Xh];decide
 |m+1=>by rw[XJ];exact Int.mul_pos (Ap hg m) (by lia)
theorem OR{g:Int}(hg:2<=g)(n:Int):∀i:Nat,dr g n i=n/g^i
 |0=>by rw[dr,Xh,Int.ediv_one]
 |i+1=>by rw[dr,OR hg n i,XJ,Int.ediv_ediv_of_nonneg (XQ (Ap hg i))]
theorem MO{g n:Int}(hg:2<=g)(hn:0<=n){m:Nat}(h:n<g^m):dr g n m=0:=by rw[OR hg];exact Yg hn h
theorem SD{g n:Int}(hg:2<=g){m:Nat}(h:g^m<=n):0<dr g n m:=by
 rw[OR hg];have h1:1*g^m<=n:=by rw[YC];exact h
 have h2:=(Int.le_ediv_iff_mul_le (Ap hg m)).mpr h1;lia
end RW
namespace L2
open PySem
variable{C a p:Addr}{H H' H1:Hp}{g:Int}{i:Nat}{xs ys:List V}{α:Type}
theorem Bo(hg:2<=g){m n:Nat}(h:m<=n):g^m<=g^n:=by obtain⟨k,rfl⟩:=Nat.exists_eq_add_of_le h;rw[Int.pow_add];have h1:=RW.Ap hg m;have h2:=RW.Ap hg k;have h3:=Xp (show 1<=g^k by lia) (XQ h1);lia
theorem Ir(hg:2<=g){m n:Nat}(h:m<n):g^m<g^n:=by have h1:=Bo hg (show m+1<=n from h);rw[XJ]at h1;have h2:=RW.Ap hg m;have h3:=Xp hg (XQ h2);lia
theorem Cv(hg:2<=g){m n:Nat}(h:g^m=g^n):m=n:=by
 rcases Nat.lt_trichotomy m n with z|z|z
 ·have:=Ir hg z;lia
 ·exact z
 ·have:=Ir hg z;lia
theorem IJ(hg:2<=g):∀{rs:List Int},(∀n∈rs,0<=n/\n<g)->0<=low g rs/\low g rs<g^rs.length
 |[],_=>⟨X0 _,by show (0:Int)<g^0;rw[Xh];decide⟩
 |x::r,h=>by
  obtain⟨h1,h2⟩:=IJ hg (rs:=r) λn hn=>h n (XD _ hn)
  obtain⟨h3,h4⟩:=h x W7;have h5:=Int.mul_nonneg (show 0<=g by lia) h1;have h6:=Xp (show low g r+1<=g^r.length by lia) (show 0<=g by lia);rw[Int.mul_add,Int.mul_one]at h6;refine⟨by show 0<=x+g*low g r;lia,?_⟩;show x+g*low g r<g^(r.length+1);rw[XJ,X8 (g^r.length)];lia
theorem Dj(hg:2<=g){ns:List Int}(h:∀n∈ns,0<=n/\n<g):0<=Bt g ns/\Bt g ns<g^ns.length:=by rw[MM,<-Y1];exact IJ hg λn hn=>h n (List.mem_reverse.mp hn)
theorem Gh{K:qJ}{lo hi:Option Int}{Q:VK}(h:Ab K H a xs)(q:∀p H',AG H H'->H p=none->H' p=some (.lst (GY xs lo hi))->Q (.ref p) H'):T6 K (.ref a) lo hi H Q:=
 ⟨a,xs,rfl,h,λp hp=>q p _ (AG.new hp _) hp AC⟩
theorem QJ{l:Addr}{x:V}{k:Int}{Q:VK}(h:H l=some (.lst [x]))(k0:0<=k)(k1:k<=1000)(q:∀p H',AG H H'->H p=none->H' p=some (.lst (List.replicate k.toNat x))->Q (.ref p) H'):Rq (.ref l) (.int k) H Q:=
 ⟨l,k,[x],rfl,rfl,h,by lia,by lia,by rw[XM,Nat.one_mul];exact UC (by lia),λp hp=>q p _ (AG.new hp _) hp (by rw[AC,OG])⟩
theorem Iu{k:Nat}:GY xs none (some ((k:Nat):Int))=xs.take k:=by
 have e:HT.JW xs.length xs.length (some ((k:Nat):Int))=min k xs.length:=by show (if ((k:Nat):Int)<0 then (((k:Nat):Int)+(xs.length:Int)).toNat else min ((k:Nat):Int).toNat xs.length)=_;rw[qE (by lia),XC]
 unfold GY;rw[e];show (xs.drop 0).take (min k xs.length-0)=_;rw[List.drop_zero,ZL]
 by_cases z:k<=xs.length
 ·rw[Y8 z]
 ·rw[Nat.min_eq_right (by lia),XZ,Yh (by lia)]
theorem NF{k:Nat}:GY xs (some ((k:Nat):Int)) none=xs.drop k:=by
 have e:HT.JW xs.length 0 (some ((k:Nat):Int))=min k xs.length:=by show (if ((k:Nat):Int)<0 then (((k:Nat):Int)+(xs.length:Int)).toNat else min ((k:Nat):Int).toNat xs.length)=_;rw[qE (by lia),XC]
 unfold GY;rw[e];show (xs.drop (min k xs.length)).take (xs.length-min k xs.length)=_;rw[Yh (by rw[YI];exact Wv _)]
 by_cases z:k<=xs.length
 ·rw[Y8 z]
 ·rw[Nat.min_eq_right (by lia),List.drop_length,List.drop_of_length_le (by lia)]
theorem Iv:GY xs none (some (-1))=xs.take (xs.length-1):=by
 have e:HT.JW xs.length xs.length (some (-1))=((-1:Int)+(xs.length:Int)).toNat:=rfl;unfold GY;rw[e];show (xs.drop 0).take (((-1:Int)+(xs.length:Int)).toNat-0)=_;rw[List.drop_zero,ZL]
 congr 1
 lia
theorem RB.same{E:XK}(e:AG H H1)(h:RB C i H E):RB C i H1 E:=λH' dx e1 hd=>h H' dx (e.trans e1) hd
theorem CG{ns:List Int}{k:Nat}(h:k<ns.length):Ia (ns.map V.int) ((k:Nat):Int)=some (.int (ns.getD k 0)):=by refine Cf ?_;rw[W0,Wx h,Wt,Wx h];rfl
def EB(H:Hp)(r:Addr)(g lo:Int)(tab:List Int):Prop:=∃tb,H r=some (.tup [.int g,.int lo,.ref tb])/\H tb=some (.tup (tab.map V.int))
variable{r:Addr}{tab:List Int}
theorem EB.same{lo:Int}(e:AG H H')(h:EB H r g lo tab):EB H' r g lo tab:=by obtain⟨tb,h1,h2⟩:=h;exact⟨tb,e _ _ h1,e _ _ h2⟩
inductive DD(vs:List V)(H:Hp)(Q:VK)(z3_:XK):Prop
 |m (g n:Int):vs=[.int g,.int n]->2<=g->g<=9->(∀m:Nat,n=g^m->Q (.int ((m:Nat):Int)) H)->((∀m:Nat,n≠g^m)->Q (.int 0) H)->DD vs H Q z3_
inductive DT(vs:List V)(H:Hp)(Q:VK)(z3_:XK):Prop
 |m (r:Addr) (g lo:Int) (tab:List Int) (m:Nat):vs=[.ref r]->2<=g->g<=9->EB H r g lo tab->(tab.length:Int)=g^m->Q (.int ((m:Nat):Int)) H->DT vs H Q z3_
noncomputable def EC(g:Int)(m:Nat)(xs:List V):Option Nat:=match B8 g (xs.take m) with
 |some i=>some i
 |none=>if xs.length=m then none else some (min xs.length m)
inductive En(K:qJ)(C:Addr)(vs:List V)(H:Hp)(Q:VK)(E:XK):Prop
 |m (a:Addr) (xs:List V) (g:Int) (m:Nat):vs=[.ref a,.int g,.int ((m:Nat):Int)]->Ab K H a xs->(∀x∈xs,Kd H x)->(match EC g m xs with|none=>∀H',AG H H'->Q .non H'|some i=>RB C i H E)->En K C vs H Q E
inductive LN(K:qJ)(C:Addr)(vs:List V)(H:Hp)(Q:VK)(E:XK):Prop
 |m (r a:Addr) (g lo:Int) (tab:List Int) (m:Nat) (xs:List V):vs=[.ref r,.ref a]->2<=g->g<=9->EB H r g lo tab->(tab.length:Int)=g^m->Ab K H a xs->(∀x∈xs,Kd H x)->(match EC g m xs with|none=>∀ns:List Int,xs=ns.map V.int->∀H',AG H H'->Q (.int (tab.getD (Bt g ns).toNat 0)) H'|some i=>RB C i H E)->LN K C vs H Q E
theorem Jz{m:Nat}(h:EC g m xs=none):xs.length=m/\B8 g xs=none:=by
 unfold EC at h;cases e:B8 g (xs.take m) with
 |some i=>rw[e]at h;cases h
 |none =>
  rw[e]at h
  by_cases z:xs.length=m
  ·refine⟨z,?_⟩;rw[<-z,XZ]at e;exact e
  ·rw[qE z]at h;cases h
theorem J1{ns:List Int}(h:∀n∈ns,0<=n/\n<g):EC g ns.length (ns.map V.int)=none:=by unfold EC;have e:(ns.map V.int).take ns.length=ns.map V.int:=Yh (by rw[Wq];exact Wv _);rw[e,Ge h,Wq];exact qF rfl
noncomputable def C1(x y:V):Bool:=(match x with
 |.int g=>decide (2<=g)&&decide (g<=9)
 |_=>false)&&NB y
theorem Iw{x y:V}(h:C1 x y=true):∃g lo:Int,x=.int g/\y=.int lo/\2<=g/\g<=9:=by
 unfold C1 at h;cases x with
 |int g =>
  cases y with
  |int lo =>
   simp only[NB,Bool.and_true,Bool.and_eq_true,decide_eq_true_eq]at h;exact⟨g,lo,rfl,rfl,h.1,h.2⟩
  |_=>simp[NB]at h
 |_=>simp at h
theorem Hq{lo:Int}(g2:2<=g)(g9:g<=9):C1 (.int g) (.int lo)=true:=by show ((decide (2<=g)&&decide (g<=9))&&true)=true;rw[qH g2,qH g9];rfl
inductive LO(C:Addr)(vs:List V)(H:Hp)(Q:VK)(E:XK):Prop
 |m (x y:V):vs=[x,y]->Kd H x->Kd H y->(C1 x y=true->Q .non H)->(C1 x y=false->E (.ref C) none H)->LO C vs H Q E
def F1(H:Hp)(a:Addr)(xs:List V):Prop:=H a=some (.lst xs)\/H a=some (.tup xs)
theorem F1.same(e:AG H H')(h:F1 H a xs):F1 H' a xs:=h.elim (λq=>.inl (e _ _ q)) λq=>.inr (e _ _ q)
theorem F1.inj(h:F1 H a xs)(h':F1 H a ys):xs=ys:=by
 rcases h with h|h
 ·rcases h' with h'|h'
  ·rw[h]at h';cases h';rfl
  ·rw[h]at h';cases h'
 ·rcases h' with h'|h'
  ·rw[h]at h';cases h'
  ·rw[h]at h';cases h';rfl
theorem F1.sq{K:qJ}(h:F1 H a xs):Ab K H a xs\/BL K H a xs:=h.elim (λq=>.inl (Ab.of q)) λq=>.inr (BL.of q)
noncomputable def RC(H:Hp):V->Prop
 |.ref a=>∃xs,F1 H a xs/\∀x∈xs,Kd H x
 |.non=>True
 |.str _=>True
 |.int _=>True
 |.bl _=>True
 |_=>False
def MP(g:Int)(xs:List V):Prop:=xs.length<=256/\(∃m:Nat,1<=m/\(xs.length:Int)=g^m)/\B8 g xs=none
def GA(H:Hp)(g:Int)(z:V):Prop:=∃a xs,z=.ref a/\F1 H a xs/\MP g xs
inductive Ix(C:Addr)(vs:List V)(H:Hp)(Q:VK)(E:XK):Prop
 |m (g:Int) (z:V):vs=[.int g,z]->2<=g->g<=9->RC H z->(GA H g z->∀H',AG H H'->Q .non H')->(¬GA H g z->∀H',AG H H'->E (.ref C) none H')->Ix C vs H Q E
def OS(H:Hp)(x y z:V):Prop:=C1 x y=true/\∃g,x=.int g/\GA H g z
inductive Iy(C:Addr)(vs:List V)(H:Hp)(Q:VK)(E:XK):Prop
 |m (x y z:V):vs=[x,y,z]->Kd H x->Kd H y->RC H z->(∀(g lo:Int) (tab:List Int) (a:Addr),x=.int g->y=.int lo->z=.ref a->F1 H a (tab.map V.int)->2<=g->g<=9->MP g (tab.map V.int)->(∀n∈tab,0<=n/\n<g)->∀r H',AG H H'->EB H' r g lo tab->Q (.ref r) H')->(¬OS H x y z->∀H',AG H H'->E (.ref C) none H')->Iy C vs H Q E
theorem EN{n:Nat}(h:i<n):K7 n ((i:Nat):Int)=some i:=by unfold K7;rw[qF (by lia),qF (by lia),XC]
theorem SE{n:Nat}(h:n<=100000):n<=sizeLine:=by rw[sizeLine_eq];lia
theorem J3{l:Addr}{k:Int}{Q:VK}(h:H l=some (.lst xs))(k0:0<=k)(k1:k<=100000)(hz:xs.length*k.toNat<=100000)(q:∀p H',AG H H'->H p=none->H' p=some (.lst (List.replicate k.toNat xs).flatten)->Q (.ref p) H'):Rq (.ref l) (.int k) H Q:=
 ⟨l,k,xs,rfl,rfl,h,by lia,by lia,SE hz,λp hp=>q p _ (AG.new hp _) hp AC⟩
def FU(H H':Hp)(r:Addr)(ns:List Int):Prop:=AG H H'/\H r=none/\H' r=some (.lst (ns.map V.int))
inductive LQ(NS:Addr)(vs:List V)(H:Hp)(Q:VK)(E:XK):Prop
 |m (n g m:Int):vs=[.int n,.int g,.int m]->2<=g->g<=9->0<=m->m<=300->((n<0\/g^m.toNat<=n)->∀H',AG H H'->E (.ref NS) none H')->(0<=n->n<g^m.toNat->∀r H',FU H H' r (RW.DN g n m.toNat).reverse->Q (.ref r) H')->LQ NS vs H Q E
inductive Iz(vs:List V)(H:Hp)(Q:VK)(z3_:XK):Prop
 |m (g m:Int):vs=[.int g,.int m]->2<=g->g<=9->1<=m->(g^m.toNat<=256->Q (.int (g^m.toNat)) H)->(256<g^m.toNat->∀r:Int,256<r->Q (.int r) H)->Iz vs H Q z3_
inductive EO(vs:List V)(H:Hp)(Q:VK)(z3_:XK):Prop
 |m (g m:Int):vs=[.int g,.int m]->2<=g->g<=9->0<=m->m<=256->Q (.int (g^m.toNat)) H->EO vs H Q z3_
theorem MQ(g n:Int):∀i:Nat,RW.dr g n (i+1)=RW.dr g (n/g) i
 |0=>rfl
 |i+1=>by rw[RW.dr,MQ g n i];rfl
theorem IK(g n:Int):∀i:Nat,RW.DN g n (i+1)=n%g::RW.DN g (n/g) i
 |0=>rfl
 |i+1=>by rw[RW.DN,IK g n i,MQ];rfl
theorem J4(hg:2<=g):∀{l:List Int},(∀n∈l,0<=n/\n<g)->RW.DN g (low g l) l.length=l
 |[],_=>rfl
 |x::r,h=>by obtain⟨h0,h1⟩:=h x W7;rw[Xo,IK,low,YR,YL h0 h1,ZM _ _ (show g≠0 by lia),Yg h0 h1,Xe,J4 hg λn hn=>h n (XD _ hn)]
theorem MR(hg:2<=g)(n:Int):∀i:Nat,∀x∈RW.DN g n i,0<=x/\x<g
 |0,x,h=>qG h (by simp[RW.DN])
 |i+1,x,h=>by
  rw[RW.DN]at h;rcases Ww.mp h with z|z
  ·exact MR hg n i x z
  ·rw[Wr.mp z];exact⟨Xj _ (by lia),Xf _ (by lia)⟩
theorem Fn(g n:Int):∀i:Nat,low g (RW.DN g n i)+g^i*RW.dr g n i=n
 |0=>by rw[RW.DN,low,RW.dr,Xh];lia
 |i+1=>by have h:=Fn g n i;have e:=Int.emod_add_mul_ediv (RW.dr g n i) g;rw[RW.DN,Jq,RW.DC,RW.dr,XJ,Int.mul_assoc,X8 (RW.dr g n i%g),Int.add_assoc,<-Int.mul_add,e];exact h
theorem OT{n:Int}(hg:2<=g)(hn:0<=n)(h:n<g^i):low g (RW.DN g n i)=n:=by have e:=Fn g n i;rw[RW.MO hg hn h,Int.mul_zero,Int.add_zero]at e;exact e
theorem AG.into{o:HO}(e:AG H H1)(hp:H p=none):AG H (Ae H1 p o):=λb u q=>by rw[AI (BB q hp)];exact e b u q
theorem JA(g:Int):∀(n:Int) (l:List Int),LH g n l=n*g^l.length+Bt g l
 |n,[]=>by show n=n*g^0+0;rw[Xh];lia
 |n,x::r=>by show LH g (n*g+x) r=n*g^(r.length+1)+LH g (0*g+x) r;rw[JA g (n*g+x) r,JA g (0*g+x) r,Int.zero_mul,Xe,Int.add_mul,XJ,Int.mul_assoc,X8 g,Int.add_assoc]
theorem Gi(g:Int)(a b:List Int):Bt g (a++b)=Bt g a*g^b.length+Bt g b:=by show (a++b).foldl (λm x=>m*g+x) 0=_;rw[List.foldl_append];exact JA g (LH g 0 a) b
theorem DE(hg:2<=g)(hb:∀n∈tab,0<=n/\n<g)(k:Nat):0<=tab.getD k 0/\tab.getD k 0<g:=by
 rw[Wt];cases e:tab[k]? with
 |none=>exact⟨X0 _,by show (0:Int)<g;lia⟩
 |some v=>exact hb v (Wy e)
theorem Am(f:Nat->α)(i:Nat):(List.range (i+1)).map f=(List.range i).map f++[f i]:=by rw[YE,W3];rfl
variable{z:Int}
theorem C3{ns:List Int}(h0:0<=z)(h:z.toNat<ns.length):Ia (ns.map V.int) z=some (.int (ns.getD z.toNat 0)):=by have e:=CG (ns:=ns) h;rw[show ((z.toNat:Nat):Int)=z by lia]at e;exact e
noncomputable def Cr(g n:Int)(m:Nat):List Int:=(RW.DN g n m).reverse
theorem NG(g n:Int)(m:Nat):(Cr g n m).length=m:=by unfold Cr;rw[List.length_reverse,RW.DC]
theorem Gj(hg:2<=g)(n:Int)(m:Nat):∀x∈Cr g n m,0<=x/\x<g:=λx hx=>MR hg n m x (List.mem_reverse.mp hx)
theorem NH{n:Int}(hg:2<=g)(h0:0<=n){m:Nat}(h:n<g^m):Bt g (Cr g n m)=n:=by unfold Cr;rw[Ip,OT hg h0 h]
theorem NJ(hg:2<=g){ws:List Int}(hb:∀x∈ws,0<=x/\x<g):Cr g (Bt g ws) ws.length=ws:=by
 unfold Cr;have e:=J4 hg (l:=ws.reverse) λn hn=>hb n (List.mem_reverse.mp hn)
 rw[Y1]at e;rw[MM,e,List.reverse_reverse]
theorem AT{f:Nat->Int}{n k:Nat}(h:k<n):((List.range n).map f).getD k 0=f k:=by rw[Wt,W0,List.getElem?_range h];rfl
theorem Aq{a b:List Int}(hl:a.length=b.length)(h:∀k,k<a.length->a.getD k 0=b.getD k 0):a=b:=by apply List.ext_getElem hl;intro i h1 h2;have:=h i h1;rw[Wt,Wt,Wx h1,Wx h2]at this;exact this
noncomputable def A5(g:Int)(tab:List Int)(w:Int):Bool:=(List.range tab.length).any λk:Nat=>!decide (tab.getD k 0=tab.getD ((k:Int)-(k:Int)/w%g*w).toNat 0)
noncomputable def Bg(g lo:Int)(tab:List Int)(m:Nat):List Int:=((List.range m).filter λj=>A5 g tab (g^(m-1-j))).map λj:Nat=>lo+(j:Int)
inductive Gk(vs:List V)(H:Hp)(Q:VK)(z3_:XK):Prop
 |m (r:Addr) (g lo:Int) (tab:List Int) (w:Int):vs=[.ref r,.int w]->2<=g->g<=9->EB H r g lo tab->0<w->w<=1000->tab.length<=256->(∀H',AG H H'->Q (.bl (A5 g tab w)) H')->Gk vs H Q z3_
inductive Dk(vs:List V)(H:Hp)(Q:VK)(z3_:XK):Prop
 |m (r:Addr) (g lo:Int) (tab:List Int) (m:Nat):vs=[.ref r]->2<=g->g<=9->EB H r g lo tab->(tab.length:Int)=g^m->1<=m->m<=8->g^m<=256->(∀p H',FU H H' p (Bg g lo tab m)->Q (.ref p) H')->Dk vs H Q z3_
theorem SG{k w:Int}(hk:0<=k)(hw:0<w)(hg:2<=g):0<=k-k/w%g*w/\k-k/w%g*w<=k:=by
 have h1:=Xj (k/w) (show g≠0 by lia);have h2:=YN hk (XQ hw)
 have h3:k/w%g<=k/w:=by
  by_cases z:k/w<g
  ·rw[YL h2 z];lia
  ·have:=Xf (k/w) (show 0<g by lia);lia
 have h4:=Int.mul_le_mul_of_nonneg_right h3 (XQ hw);have h5:=Int.mul_nonneg h1 (XQ hw);have h6:=Int.ediv_mul_le k (show w≠0 by lia);exact⟨by lia,by lia⟩
end L2
namespace L2
variable{g z:Int}{i j:Nat}{tab:List Int}
theorem MS(g x:Int):Bt g [x]=x:=by show 0*g+x=x;rw[Int.zero_mul,Xe]
theorem FV(g:Int)(a:List Int)(x:Int)(b:List Int):Bt g (a++x::b)=(Bt g a*g+x)*g^b.length+Bt g b:=by rw[show a++x::b=(a++[x])++b by rw[XW];rfl,Gi,E6]
theorem NK(hg:2<=g){a b:List Int}{x:Int}(hb:∀n∈b,0<=n/\n<g)(hx:0<=x/\x<g):Bt g (a++x::b)/g^b.length%g=x:=by have b1:=Dj hg hb;have gp:=RW.Ap hg b.length;rw[FV,Int.add_comm,X8,ZM _ _ (by lia),Yg b1.1 b1.2,Xe,Int.add_comm,X8,YR,YL hx.1 hx.2]
theorem J7{w:List Int}(h:j<w.length):w=w.take j++w.getD j 0::w.drop (j+1):=by rw[Wt,Wx h];show w=w.take j++w[j]::w.drop (j+1);rw[<-Xz h,Xk]
theorem NL{w:List Int}(h:j<w.length)(v:Int):w.set j v=w.take j++v::w.drop (j+1):=List.set_eq_take_append_cons_drop▸qF h
theorem JB(hg:2<=g){w:List Int}(hb:∀n∈w,0<=n/\n<g)(h:j<w.length):Bt g w/g^(w.length-1-j)%g=w.getD j 0:=by
 have hl:(w.drop (j+1)).length=w.length-1-j:=by rw[YI];lia
 have e:=NK hg (a:=w.take j) (b:=w.drop (j+1)) (x:=w.getD j 0) (λn hn=>hb n (ZR hn)) (DE hg hb j);rw[<-J7 h,hl]at e;exact e
theorem Gm(hg:2<=g){w:List Int}(hb:∀n∈w,0<=n/\n<g)(h:j<w.length):Bt g w-Bt g w/g^(w.length-1-j)%g*g^(w.length-1-j)=Bt g (w.set j 0):=by
 rw[JB hg hb h,NL h];have hl:(w.drop (j+1)).length=w.length-1-j:=by rw[YI];lia
 have e:=FV g (w.take j) (w.getD j 0) (w.drop (j+1));rw[<-J7 h]at e;rw[e,FV,hl,Int.add_mul,Int.add_zero];lia
theorem Eo{w:Int}(h:A5 g tab w=false){k:Nat}(hk:k<tab.length):tab.getD k 0=tab.getD ((k:Int)-(k:Int)/w%g*w).toNat 0:=by unfold A5 at h;rw[List.any_eq_false]at h;have:=h k (Xv.mpr hk);simpa using this
theorem LR(hg:2<=g){m:Nat}(hl:(tab.length:Int)=g^m){w:List Int}(hb:∀n∈w,0<=n/\n<g)(hw:w.length=m)(hj:j<m)(hc:A5 g tab (g^(m-1-j))=false):tab.getD (Bt g w).toNat 0=tab.getD (Bt g (w.set j 0)).toNat 0:=by have b:=Dj hg hb;rw[hw]at b;have e:=Eo hc (k:=(Bt g w).toNat) (by lia);have n0:=Gm hg hb (j:=j) (by lia);rw[hw]at n0;rw[show (((Bt g w).toNat:Nat):Int)=Bt g w by lia,n0]at e;exact e
noncomputable def zk(keep:Nat->Bool)(w:List Int)(k:Nat):List Int:=(List.range w.length).map λj=>if j<k/\keep j=false then 0 else w.getD j 0
theorem CV(keep:Nat->Bool)(w:List Int)(k:Nat):(zk keep w k).length=w.length:=by unfold zk;rw[List.length_map,List.length_range]
theorem Ep(keep:Nat->Bool)(w:List Int)(k:Nat)(h:j<w.length):(zk keep w k).getD j 0=if j<k/\keep j=false then 0 else w.getD j 0:=by unfold zk;exact AT h
theorem QK(keep:Nat->Bool)(w:List Int):zk keep w 0=w:=by refine Aq (CV keep w 0) λj hj=>?_;rw[CV]at hj;rw[Ep keep w 0 hj,qE (by lia)]
theorem UV(hg:2<=g){keep:Nat->Bool}{w:List Int}(hb:∀n∈w,0<=n/\n<g)(k:Nat):∀n∈zk keep w k,0<=n/\n<g:=λn hn=>by
 unfold zk at hn;obtain⟨j,_,e⟩:=XT.mp hn;subst e;split
 ·exact⟨X0 _,by lia⟩
 ·exact DE hg hb _
theorem J8{w:List Int}{v:Int}(h:i<w.length):(w.set i v).getD j 0=if i=j then v else w.getD j 0:=by
 rw[Wt,List.getElem?_set]
 by_cases e:i=j
 ·rw[qF e,qF e];subst e;rw[qF h];rfl
 ·rw[qE e,qE e,Wt]
theorem QL(keep:Nat->Bool)(w:List Int){k:Nat}(hk:k<w.length):zk keep w (k+1)=if keep k=false then (zk keep w k).set k 0 else zk keep w k:=by
 by_cases e:keep k=false
 ·rw[qF e];refine Aq (by rw[YM,CV,CV]) λj hj=>?_;rw[CV]at hj;rw[Ep keep w _ hj,J8 (by rw[CV];exact hk),Ep keep w _ hj]
  by_cases z:k=j
  ·subst z;rw[qF ⟨by lia,e⟩,qF rfl]
  ·rw[qE z]
   by_cases y:j<k/\keep j=false
   ·rw[qF y,qF ⟨by lia,y.2⟩]
   ·rw[qE y,qE (λx=>y ⟨by lia,x.2⟩)]
 ·rw[qE e];refine Aq (by rw[CV,CV]) λj hj=>?_;rw[CV]at hj;rw[Ep keep w _ hj,Ep keep w _ hj]
  by_cases y:j<k/\keep j=false
  ·rw[qF y,qF ⟨by lia,y.2⟩]
  ·rw[qE y,qE (λx=>y ⟨X6 (by lia) (λz=>e (z▸x.2)),x.2⟩)]
theorem GB(hg:2<=g){m:Nat}(hl:(tab.length:Int)=g^m){keep:Nat->Bool}(hc:∀j,j<m->keep j=false->A5 g tab (g^(m-1-j))=false){w:List Int}(hb:∀n∈w,0<=n/\n<g)(hw:w.length=m):∀k,k<=m->tab.getD (Bt g (zk keep w k)).toNat 0=tab.getD (Bt g w).toNat 0
 |0,_=>by rw[QK]
 |k+1,h=>by
  rw[QL keep w (by lia)]
  by_cases e:keep k=false
  ·rw[qF e,<-LR hg hl (UV hg hb k) (by rw[CV,hw]) (by lia) (hc k (by lia) e)];exact GB hg hl hc hb hw k (by lia)
  ·rw[qE e];exact GB hg hl hc hb hw k (by lia)
theorem Gn(hg:2<=g){m:Nat}(hl:(tab.length:Int)=g^m){v w:List Int}(hv:∀n∈v,0<=n/\n<g)(hw:∀n∈w,0<=n/\n<g)(lv:v.length=m)(lw:w.length=m)
  (h:∀j,j<m->A5 g tab (g^(m-1-j))=true->v.getD j 0=w.getD j 0):tab.getD (Bt g v).toNat 0=tab.getD (Bt g w).toNat 0:=by
 have key:∀j,j<m->(λj=>A5 g tab (g^(m-1-j))) j=false->A5 g tab (g^(m-1-j))=false:=λj _ e=>e
 rw[<-GB hg hl key hv lv m (Wv _),<-GB hg hl key hw lw m (Wv _)]
 congr 3
 refine Aq (by rw[CV,CV,lv,lw]) λj hj=>?_;rw[CV,lv]at hj;rw[Ep _ _ _ (by lia),Ep _ _ _ (by lia)]
 by_cases e:j<m/\A5 g tab (g^(m-1-j))=false
 ·rw[qF e,qF e]
 ·rw[qE e,qE e];refine h j hj ?_;cases z:A5 g tab (g^(m-1-j)) with
  |true=>rfl
  |false=>exact qG ⟨hj,z⟩ e
noncomputable def sn(v:List Int)(z:Int):Int:=if z<0\/(v.length:Int)<=z then 0 else v.getD z.toNat 0
theorem RD(hg:2<=g){v:List Int}(hb:∀n∈v,0<=n/\n<g)(z:Int):0<=sn v z/\sn v z<g:=by
 unfold sn;split
 ·exact⟨X0 _,by lia⟩
 ·exact DE hg hb _
theorem OU{v:List Int}(h:j<v.length):sn v ((j:Nat):Int)=v.getD j 0:=by unfold sn;rw[qE (by lia),XC]
noncomputable def LS(v:List Int)(d:Int)(m:Nat):List Int:=(List.range m).map λj:Nat=>sn v (d+(j:Int))
theorem E7(v:List Int)(d:Int)(m:Nat):(LS v d m).length=m:=by unfold LS;rw[List.length_map,List.length_range]
theorem LU(hg:2<=g){v:List Int}(hb:∀n∈v,0<=n/\n<g)(d:Int)(m:Nat):∀n∈LS v d m,0<=n/\n<g:=λn hn=>by unfold LS at hn;obtain⟨j,_,e⟩:=XT.mp hn;subst e;exact RD hg hb _
theorem MT(v:List Int)(d:Int){m:Nat}(h:j<m):(LS v d m).getD j 0=sn v (d+(j:Int)):=by unfold LS;exact AT h
theorem J9(v:List Int):LS v 0 v.length=v:=by refine Aq (E7 _ _ _) λj hj=>?_;rw[E7]at hj;rw[MT v 0 hj,Xe,OU hj]
noncomputable def EZ(g lo:Int)(tab:List Int)(m:Nat)(low:Int)(M:Nat):List Int:=(List.range (g^M).toNat).map λn:Nat=>tab.getD (Bt g (LS (Cr g (n:Int) M) (lo-low) m)).toNat 0
theorem BI(hg:2<=g)(lo:Int)(tab:List Int)(m:Nat)(low:Int)(M:Nat):((EZ g lo tab m low M).length:Int)=g^M:=by unfold EZ;rw[Wq,W8,X1 (XQ (RW.Ap hg M))]
theorem OV(hg:2<=g)(lo:Int)(hb:∀n∈tab,0<=n/\n<g)(m:Nat)(low:Int)(M:Nat):∀n∈EZ g lo tab m low M,0<=n/\n<g:=λn hn=>by unfold EZ at hn;obtain⟨j,_,e⟩:=XT.mp hn;subst e;exact DE hg hb _
theorem KA(hg:2<=g)(lo:Int)(tab:List Int)(m:Nat)(low:Int){v:List Int}(hb:∀n∈v,0<=n/\n<g):(EZ g lo tab m low v.length).getD (Bt g v).toNat 0=tab.getD (Bt g (LS v (lo-low) m)).toNat 0:=by have b:=Dj hg hb;unfold EZ;rw[AT (by lia),show (((Bt g v).toNat:Nat):Int)=Bt g v by lia,NJ hg hb]
theorem JC(hg:2<=g){m k:Nat}(h:(k:Int)<g^m):∃w:List Int,w.length=m/\(∀n∈w,0<=n/\n<g)/\Bt g w=(k:Int):=⟨Cr g (k:Int) m,NG _ _ _,Gj hg _ _,NH hg (by lia) h⟩
theorem OW(hg:2<=g){a b:List Int}{m:Nat}(la:(a.length:Int)=g^m)(lb:(b.length:Int)=g^m)(h:∀w:List Int,w.length=m->(∀n∈w,0<=n/\n<g)->a.getD (Bt g w).toNat 0=b.getD (Bt g w).toNat 0):a=b:=by refine Aq (by lia) λk hk=>?_;obtain⟨w,h1,h2,h3⟩:=JC hg (m:=m) (k:=k) (by lia);have:=h w h1 h2;rw[h3,XC]at this;exact this
theorem OX(hg:2<=g)(lo:Int){m:Nat}(hl:(tab.length:Int)=g^m):EZ g lo tab m lo m=tab:=by refine OW hg (BI hg _ _ _ _ _) hl λw hw hb=>?_;subst hw;rw[KA hg lo tab _ lo hb,Int.sub_self,J9]
theorem LV{lo:Int}{m:Nat}:z∈Bg g lo tab m↔∃j:Nat,j<m/\A5 g tab (g^(m-1-j))=true/\z=lo+(j:Int):=by
 unfold Bg;constructor
 ·intro h;obtain⟨j,hj,e⟩:=XT.mp h;obtain⟨h1,h2⟩:=YX.mp hj;exact⟨j,Xv.mp h1,h2,e.symm⟩
 ·rintro⟨j,hj,hc,rfl⟩;exact XT.mpr ⟨j,YX.mpr ⟨Xv.mpr hj,hc⟩,rfl⟩
theorem DU{w:Int}:A5 g tab w=true↔∃k:Nat,k<tab.length/\tab.getD k 0≠tab.getD ((k:Int)-(k:Int)/w%g*w).toNat 0:=by
 unfold A5;rw[Yc];constructor
 ·rintro⟨k,hk,h⟩;exact⟨k,List.mem_range.mp hk,by simpa using h⟩
 ·rintro⟨k,hk,h⟩;exact⟨k,List.mem_range.mpr hk,by simpa using h⟩
theorem LW(hg:2<=g){m:Nat}(hl:(tab.length:Int)=g^m)(hj:j<m):A5 g tab (g^(m-1-j))=true↔∃w:List Int,w.length=m/\(∀n∈w,0<=n/\n<g)/\tab.getD (Bt g w).toNat 0≠tab.getD (Bt g (w.set j 0)).toNat 0:=by
 rw[DU];constructor
 ·rintro⟨k,hk,h⟩;obtain⟨w,h1,h2,h3⟩:=JC hg (m:=m) (k:=k) (by lia);refine⟨w,h1,h2,?_⟩;have n0:=Gm hg h2 (j:=j) (by lia);rw[h1,h3]at n0;rw[<-n0,h3,XC];exact h
 ·rintro⟨w,h1,h2,h⟩;have b:=Dj hg h2;rw[h1]at b;refine⟨(Bt g w).toNat,by lia,?_⟩;have n0:=Gm hg h2 (j:=j) (by lia);rw[h1]at n0;rw[show (((Bt g w).toNat:Nat):Int)=Bt g w by lia,n0];exact h
structure Dm(g lo:Int)(tab:List Int)(m:Nat)(low:Int)(M:Nat):Prop where
 one:1<=M
 all:∀j,j<m->A5 g tab (g^(m-1-j))=true->low<=lo+(j:Int)/\lo+(j:Int)<low+(M:Int)
 ends:((∀j,j<m->A5 g tab (g^(m-1-j))=false)/\low=0/\M=1)\/∃j0 j1:Nat,j0<=j1/\j1<m/\low=lo+(j0:Int)/\M=j1-j0+1/\A5 g tab (g^(m-1-j0))=true/\A5 g tab (g^(m-1-j1))=true
theorem Hr(p:Nat->Bool)(n:Nat):((List.range n).filter p).Pairwise (·<·):=List.Pairwise.filter p List.pairwise_lt_range
theorem LX:∀{l:List Nat},l.Pairwise (·<·)->∀x∈l,l.getD 0 0<=x
 |[],_,x,h=>qG h (by simp)
 |a::r,hp,x,h=>by
  rcases XE.mp h with z|z
  ·rw[z];exact Wv _
  ·exact X7 ((YU.mp hp).1 x z)
theorem FW:∀{l:List Nat},l.Pairwise (·<·)->∀x∈l,x<=l.getD (l.length-1) 0
 |[],_,x,h=>qG h (by simp)
 |[a],_,x,h=>by rw[Wr.mp h];exact Wv _
 |a::b::r,hp,x,h=>by
  have ih:=FW (l:=b::r) (YU.mp hp).2;have e:(a::b::r).getD ((a::b::r).length-1) 0=(b::r).getD ((b::r).length-1) 0:=rfl;rw[e];rcases XE.mp h with z|z
  ·rw[z];exact Xa (X7 ((YU.mp hp).1 b W7)) (ih b W7)
  ·exact ih x z
theorem Go:∀{l:List Nat} {k:Nat},k<l.length->l.getD k 0∈l:=λ{l k} h=>by rw[Wt,Wx h];exact List.getElem_mem h
theorem Fo{f:Nat->Int}{l:List Nat}{k:Nat}(h:k<l.length):(l.map f).getD k 0=f (l.getD k 0):=by rw[Wt,W0,Wx h,Wt,Wx h];rfl
theorem KB{lo:Int}{m:Nat}(h:Bg g lo tab m=[]):Dm g lo tab m 0 1:=by
 have f:∀j,j<m->A5 g tab (g^(m-1-j))=false:=λj hj=>by
  cases z:A5 g tab (g^(m-1-j)) with
  |false=>rfl
  |true=>exact qG (LV.mpr ⟨j,hj,z,rfl⟩) (by rw[h];simp)
 exact⟨Wv _,λj hj hc=>qG hc (by rw[f j hj];decide),.inl ⟨f,rfl,rfl⟩⟩
theorem IL{lo:Int}{m:Nat}(h:Bg g lo tab m≠[]):∃M:Nat,(M:Int)=(Bg g lo tab m).getD ((Bg g lo tab m).length-1) 0-(Bg g lo tab m).getD 0 0+1/\M<=m/\Dm g lo tab m ((Bg g lo tab m).getD 0 0) M:=by
 unfold Bg at h⊢;generalize hl:((List.range m).filter λj=>A5 g tab (g^(m-1-j)))=l at h⊢
 have hne:0<l.length:=by
  cases l with
  |nil=>exact qG rfl h
  |cons a r=>simp
 have hm:∀j,j∈l↔j<m/\A5 g tab (g^(m-1-j))=true:=λj=>by rw[<-hl,YX,Xv]
 have hp:l.Pairwise (·<·):=by rw[<-hl];exact Hr _ _
 rw[Wq,Fo (show l.length-1<l.length by lia),Fo hne];have m0:=(hm _).mp (Go hne);have m1:=(hm _).mp (Go (show l.length-1<l.length by lia));have le:=FW hp _ (Go hne);refine⟨l.getD (l.length-1) 0-l.getD 0 0+1,by lia,by lia,⟨by lia,λj hj hc=>?_,.inr ⟨l.getD 0 0,l.getD (l.length-1) 0,le,m1.1,rfl,rfl,m0.2,m1.2⟩⟩⟩;have a1:=LX hp j ((hm j).mpr ⟨hj,hc⟩);have a2:=FW hp j ((hm j).mpr ⟨hj,hc⟩);lia
theorem NM(hg:2<=g){m:Nat}(hl:(tab.length:Int)=g^m)(f:∀j,j<m->A5 g tab (g^(m-1-j))=false){w:List Int}(hb:∀n∈w,0<=n/\n<g)(hw:w.length=m):tab.getD (Bt g w).toNat 0=tab.getD 0 0:=by
 obtain⟨z,h1,h2,h3⟩:=JC hg (m:=m) (k:=0) (RW.Ap hg m);have e:=Gn hg hl hb h2 hw h1 λj hj hc=>qG hc (by rw[f j hj];decide)
 rw[h3]at e;exact e
variable{M:Nat}
theorem OY(hg:2<=g){lo low:Int}{m:Nat}(hl:(tab.length:Int)=g^m)(f:∀j,j<m->A5 g tab (g^(m-1-j))=false):EZ g lo tab m low M=List.replicate (g^M).toNat (tab.getD 0 0):=by unfold EZ;rw[List.eq_replicate_iff];refine⟨by rw[Wq,W8],λb hb=>?_⟩;obtain⟨n,_,e⟩:=XT.mp hb;rw[<-e,NM hg hl f (LU hg (Gj hg _ _) _ _) (E7 _ _ _)]
end L2
namespace L2
variable{g:Int}{tab:List Int}
theorem C4(hg:2<=g){m:Nat}(hl:(tab.length:Int)=g^m)(hm:1<=m):((tab.length/g.toNat:Nat):Int)=g^(m-1)/\tab.length=tab.length/g.toNat*g.toNat:=by
 obtain⟨k,rfl⟩:∃k,m=k+1:=⟨m-1,by lia⟩
 have e:tab.length=(g^k).toNat*g.toNat:=by have p:=RW.Ap hg k;rw[XJ]at hl;apply Int.ofNat.inj;show (tab.length:Int)=(((g^k).toNat*g.toNat:Nat):Int);rw[hl,YF,X1 (XQ p),X1 (by lia)]
 have q:tab.length/g.toNat=(g^k).toNat:=by rw[e];exact Nat.mul_div_cancel _ (by lia)
 rw[q,Y9];exact⟨X1 (XQ (RW.Ap hg k)),e⟩
end L2
namespace L2
open PySem
variable{C a r:Addr}{H H':Hp}{M:Nat}{X:Cx}{g:Int}{tab:List Int}
noncomputable def Fp(G:Nat)(tab:List Int)(h:Nat)(s:Int):List Nat:=((List.range G).filter λj=>decide (tab.getD (h*G+j) 0=s)).map λj=>h*G+j
noncomputable def Hs(ns:List Nat):List Int:=ns.map λn:Nat=>(n:Int)
structure Ay(H:Hp)(r:Addr)(g lo:Int)(tab:List Int)(m:Nat):Prop where
 v:EB H r g lo tab
 g2:2<=g
 g9:g<=9
 m1:1<=m
 m8:m<=8
 len:(tab.length:Int)=g^m
 sz:g^m<=256
 tb:∀n∈tab,0<=n/\n<g
theorem Ay.same{lo:Int}{m:Nat}(e:AG H H')(h:Ay H r g lo tab m):Ay H' r g lo tab m:=⟨h.v.same e,h.g2,h.g9,h.m1,h.m8,h.len,h.sz,h.tb⟩
inductive EQ(vs:List V)(H:Hp)(Q:VK)(z3_:XK):Prop
 |m (r:Addr) (g lo:Int) (tab:List Int) (m:Nat):vs=[.ref r]->Ay H r g lo tab m->Q (.int ((tab.length/g.toNat:Nat):Int)) H->EQ vs H Q z3_
inductive LY(vs:List V)(H:Hp)(Q:VK)(z3_:XK):Prop
 |m (r:Addr) (g lo:Int) (tab:List Int) (m h:Nat) (s:Int):vs=[.ref r,.int ((h:Nat):Int),.int s]->Ay H r g lo tab m->h<tab.length/g.toNat->(∀p H',FU H H' p (Hs (Fp g.toNat tab h s))->Q (.ref p) H')->LY vs H Q z3_
theorem SH{P:Program}{w:World}:Dg (IG true P w) X (λ_=>E0):=λ_ _ _ _ _ _ _ ⟨_,_,_,_,_,_,_,_,h⟩=>h.elim
theorem NO{lo:Int}{m:Nat}{Q:VK}{E:XK}(g2:2<=g)(g9:g<=9)(m1:1<=m)(len:(tab.length:Int)=g^m)(sz:g^m<=256)(tb:∀n∈tab,0<=n/\n<g)(hs:F1 H a (tab.map V.int))
  (q:∀r' H',AG H H'->EB H' r' g lo tab->Q (.ref r') H'):Iy C [.int g,.int lo,.ref a] H Q E:=by
 have tok:MP g (tab.map V.int):=⟨by rw[Wq];lia,⟨m,m1,by rw[Wq];exact len⟩,Ge tb⟩;refine⟨_,_,_,rfl,True.intro,True.intro,⟨_,hs,Io⟩,λg' lo' tab' a' e1 e2 e3 hs' _ _ _ _ r' H' e' hR'=>?_,λnok=>qG ⟨Hq g2 g9,g,rfl,a,_,rfl,hs,tok⟩ nok⟩;cases e1;cases e2;cases e3;have:=Gf (hs.inj hs');subst this;exact q r' H' e' hR'
inductive Gp(K:qJ)(vs:List V)(H:Hp)(Q:VK)(z3_:XK):Prop
 |m (a:Addr) (v:List Int) (z:Int):vs=[.ref a,.int z]->Ab K H a (v.map V.int)->Q (.int (sn v z)) H->Gp K vs H Q z3_
theorem E8(hg:2<=g)(h:g^M<=256):M<=8:=by
 apply Nat.le_of_not_lt;intro z;have h1:=Bo hg (show 9<=M by lia)
 have h2:(512:Int)<=g^9:=by
  have h2:2*2<=g*g:=Yz hg hg (by decide) (by lia);have h4:4*4<=(g*g)*(g*g):=Yz (by lia) (by lia) (by decide) (by lia);have h8:16*16<=((g*g)*(g*g))*((g*g)*(g*g)):=Yz (by lia) (by lia) (by decide) (by lia);have h9:256*2<=(((g*g)*(g*g))*((g*g)*(g*g)))*g:=Yz (by lia) hg (by decide) (by lia);have e:g^9=(((g*g)*(g*g))*((g*g)*(g*g)))*g:=by simp only[Int.pow_succ,Int.pow_zero,Int.one_mul,Int.mul_assoc]
  rw[e];lia
 lia
theorem Ay.bw{r':Addr}{lo:Int}{m:Nat}(h:Ay H r g lo tab m){low:Int}(hM:1<=M)(hz:g^M<=256)(hv:EB H' r' g low (EZ g lo tab m low M)):Ay H' r' g low (EZ g lo tab m low M) M:=
 ⟨hv,h.g2,h.g9,hM,E8 h.g2 hz,BI h.g2 _ _ _ _ _,hz,OV h.g2 _ h.tb _ _ _⟩
inductive GC(vs:List V)(H:Hp)(Q:VK)(z3_:XK):Prop
 |m (r:Addr) (g lo:Int) (tab:List Int) (m:Nat) (low:Int) (M:Nat):vs=[.ref r,.int low,.int ((M:Nat):Int)]->Ay H r g lo tab m->1<=M->g^M<=256->(∀r' H',AG H H'->Ay H' r' g low (EZ g lo tab m low M) M->Q (.ref r') H')->GC vs H Q z3_
inductive Gq(vs:List V)(H:Hp)(Q:VK)(z3_:XK):Prop
 |m (r:Addr) (g lo:Int) (tab:List Int) (m:Nat):vs=[.ref r]->Ay H r g lo tab m->(∀(low:Int) (M:Nat),Dm g lo tab m low M->∀r' H',AG H H'->Ay H' r' g low (EZ g lo tab m low M) M->Q (.ref r') H')->Gq vs H Q z3_
def QM(g lo:Int)(tab:List Int)(m:Nat)(low high:Int):Prop:=high<low\/∃z∈Bg g lo tab m,z<low\/high<z
inductive FX(CW CT:Addr)(vs:List V)(H:Hp)(Q:VK)(E:XK):Prop
 |m (r:Addr) (g lo:Int) (tab:List Int) (m:Nat) (low high:Int):vs=[.ref r,.int low,.int high]->Ay H r g lo tab m->(QM g lo tab m low high->∀H',AG H H'->E (.ref CW) none H')->(¬QM g lo tab m low high->256<g^(high-low+1).toNat->∀H',AG H H'->E (.ref CT) none H')->(¬QM g lo tab m low high->g^(high-low+1).toNat<=256->∀r' H',AG H H'->Ay H' r' g low (EZ g lo tab m low (high-low+1).toNat) (high-low+1).toNat->Q (.ref r') H')->FX CW CT vs H Q E
theorem NP{ns:List Int}(h:0<ns.length):Ia (ns.map V.int) (-1)=some (.int (ns.getD (ns.length-1) 0)):=by
 have e:=CG (ns:=ns) (k:=ns.length-1) (by lia)
 have z:K7 (ns.map V.int).length (-1)=some (ns.length-1):=by
  unfold K7;rw[Wq];rw[qE (by decide),qF (by lia)]
  congr 1
  lia
 have y:K7 (ns.map V.int).length (((ns.length-1:Nat)):Int)=some (ns.length-1):=by rw[Wq];exact EN (by lia)
 unfold Ia at e⊢;rw[z];rw[y]at e;exact e
end L2
namespace L2
open PySem PySem.Spec PyProof.Rows
variable{X:Cx}{es:List Expr}{i:Nat}{pos:Pos}{tc:TT}{te:TE}{x:Str}
section
variable{t:TA}
theorem BO{i:Int}{j}(hr:PA X es t):PA X (.Constant (.int i) j pos::es) (AV (tC (.int i)) t):=AA AF hr (by rfl)
end
@[irreducible] def Np (X:Cx) (st:Stmt) (t:TS):Prop:=PS X st t
@[irreducible] def E9 (X:Cx) (ss:List Stmt) (t:TS):Prop:=Fm X ss t
section
variable{st:Stmt}{rest ss:List Stmt}{t u:TS}
theorem Np.of(h:PS X st t):Np X st t:=by unfold Np;exact h
theorem Np.out(h:Np X st t):PS X st t:=by unfold Np at h;exact h
theorem E9.of(h:Fm X ss t):E9 X ss t:=by unfold E9;exact h
theorem E9.out(h:E9 X ss t):Fm X ss t:=by unfold E9 at h;exact h
theorem Bp(h1:Np X st t)(h2:E9 X rest u):E9 X (st::rest) (Kx t u):=.of (AB h1.out h2.out)
theorem ER(h1:Np X st t):E9 X [st] t:=.of (AE h1.out)
end
@[irreducible] def RE (X:Cx) (e:Expr) (te:TE):Prop:=PE X e te
@[irreducible] def NQ (X:Cx) (es:List Expr) (t:TA):Prop:=PA X es t
section
variable{e a b:Expr}{ta tb:TE}{t:TA}
theorem RE.of(h:PE X e te):RE X e te:=by unfold RE;exact h
theorem RE.out(h:RE X e te):PE X e te:=by unfold RE at h;exact h
theorem NQ.of(h:PA X es t):NQ X es t:=by unfold NQ;exact h
theorem NQ.out(h:NQ X es t):PA X es t:=by unfold NQ at h;exact h
theorem B3:NQ X [] Bs:=.of AD
theorem Aj{i:Int}{j}{p:Pos}(hr:NQ X es t):NQ X (.Constant (.int i) j p::es) (AV (tC (.int i)) t):=.of (BO hr.out)
theorem QN(h:NQ X es t):RE X (.List es pos) (Nz t):=.of (BR h.out)
theorem Cw{pos':Pos}(hN:X.N.Nodup)(hi:X.N[i]?=some x)(hx:Qp X.env.scope x)(he:RE X e te)(hs:swapsWith e (some (.Name x pos')) pos.line X.env=pure false)(hf:X.fn x=true\/X.env.scope.names.lookup x=some .local):
  Np X (.Assign [.Name x pos'] e pos) (Jb te (Cq i)):=.of (GU hN hi hx he.out hs hf)
theorem JD{c:Expr}{a b:List Stmt}{t u:TS}(hc:PT X c tc)(ha:E9 X a t)(hb:E9 X b u):Np X (.If c a b pos) (Pm tc t u):=.of (Ak hc ha.out hb.out)
theorem GD:E9 X [] Lv:=.of AX
end
end L2
namespace L2
open PySem
variable{D:Fz}{H:Hp}{M j:Nat}{g z:Int}{tab:List Int}{σ:St}
noncomputable def B4(x:Int->Int)(lo:Int)(m:Nat):List Int:=(List.range m).map λj:Nat=>x (lo+(j:Int))
theorem Bx(x:Int->Int)(lo:Int)(m:Nat):(B4 x lo m).length=m:=by unfold B4;rw[List.length_map,List.length_range]
theorem FC(x:Int->Int)(lo:Int){m:Nat}(h:j<m):(B4 x lo m).getD j 0=x (lo+(j:Int)):=by unfold B4;exact AT h
def Nq(g:Int)(x:Int->Int):Prop:=∀z,0<=x z/\x z<g
theorem DF{x:Int->Int}(hx:Nq g x)(lo:Int)(m:Nat):∀n∈B4 x lo m,0<=n/\n<g:=λn hn=>by unfold B4 at hn;obtain⟨j,_,rfl⟩:=XT.mp hn;exact hx _
noncomputable def JY(g lo:Int)(tab:List Int)(m:Nat)(x:Int->Int):Int:=tab.getD (Bt g (B4 x lo m)).toNat 0
noncomputable def IM(w:List Int)(lo:Int):Int->Int:=λz=>sn w (z-lo)
theorem IN(hg:2<=g){w:List Int}(hb:∀n∈w,0<=n/\n<g)(lo:Int):Nq g (IM w lo):=λz=>RD hg hb _
theorem QO(w:List Int)(low lo:Int)(m:Nat):B4 (IM w low) lo m=LS w (lo-low) m:=by unfold B4 LS IM;exact YO λj _=>by rw[show lo+(j:Int)-low=lo-low+(j:Int) by lia]
theorem Fq(w:List Int)(lo:Int):B4 (IM w lo) lo w.length=w:=by rw[QO,Int.sub_self,J9]
theorem ES(hg:2<=g){lo low:Int}{m:Nat}(hl:(tab.length:Int)=g^m)(hc:∀j,j<m->A5 g tab (g^(m-1-j))=true->low<=lo+(j:Int)/\lo+(j:Int)<low+(M:Int)){x:Int->Int}(hx:Nq g x):JY g low (EZ g lo tab m low M) M x=JY g lo tab m x:=by
 unfold JY;have z:=KA hg lo tab m low (v:=B4 x low M) (DF hx low M);rw[Bx]at z;rw[z];refine Gn hg hl (LU hg (DF hx low M) _ _) (DF hx lo m) (E7 ..) (Bx ..) λj hj hcj=>?_;obtain⟨a,b⟩:=hc j hj hcj;rw[MT _ _ hj,FC _ _ hj,show lo-low+(j:Int)=(((lo+(j:Int)-low).toNat:Nat):Int) by lia,OU (by rw[Bx];lia),FC _ _ (by lia)]
 congr 1
 lia
def RF(g:Int)(f:(Int->Int)->Int)(z:Int):Prop:=∃x,Nq g x/\f x≠f λy=>if y=z then 0 else x y
theorem V8(hg:2<=g){x:Int->Int}(hx:Nq g x)(z:Int):Nq g λy=>if y=z then 0 else x y:=λy=>by
 show 0<=(if y=z then 0 else x y)/\(if y=z then 0 else x y)<g;split
 ·lia
 ·exact hx y
theorem KC(x:Int->Int)(lo:Int){m:Nat}(hj:j<m):B4 (λy=>if y=lo+(j:Int) then 0 else x y) lo m=(B4 x lo m).set j 0:=by
 refine Aq (by rw[YM,Bx,Bx]) λk hk=>?_;rw[Bx]at hk;rw[FC _ _ hk,J8 (by rw[Bx];exact hj),FC _ _ hk]
 by_cases e:j=k
 ·subst e;rw[qF rfl,qF rfl]
 ·rw[qE e,qE (by lia)]
theorem GF(hg:2<=g){lo:Int}{m:Nat}(hl:(tab.length:Int)=g^m)(hj:j<m):A5 g tab (g^(m-1-j))=true↔RF g (JY g lo tab m) (lo+(j:Int)):=by
 rw[LW hg hl hj];constructor
 ·rintro⟨w,wl,wb,ne⟩;subst wl;refine⟨IM w lo,IN hg wb lo,?_⟩;unfold JY;rw[KC _ _ hj,Fq];exact ne
 ·rintro⟨x,hx,ne⟩;unfold JY at ne;rw[KC _ _ hj]at ne;exact⟨_,Bx ..,DF hx lo m,ne⟩
theorem OZ{lo:Int}{m:Nat}(h:RF g (JY g lo tab m) z):∃j:Nat,j<m/\z=lo+(j:Int):=by
 obtain⟨x,hx,ne⟩:=h
 by_cases e:lo<=z/\z<lo+(m:Int)
 ·exact⟨(z-lo).toNat,by lia,by lia⟩
 ·exfalso;apply ne;unfold JY
  congr 3
  unfold B4;refine YO λj hj=>?_;have:=Xv.mp hj;show x (lo+(j:Int))=if lo+(j:Int)=z then 0 else x (lo+(j:Int));rw[qE (by lia)]
structure LZ(g:Int)(f:(Int->Int)->Int)(low:Int)(M:Nat):Prop where
 one:1<=M
 all:∀z,RF g f z->low<=z/\z<low+(M:Int)
 ends:((∀z,¬RF g f z)/\low=0/\M=1)\/(RF g f low/\RF g f (low+(M:Int)-1))
theorem Dm.toF(hg:2<=g){lo:Int}{m:Nat}(hl:(tab.length:Int)=g^m){low:Int}(h:Dm g lo tab m low M):LZ g (JY g lo tab m) low M:=by
 refine⟨h.one,λz hz=>?_,?_⟩
 ·obtain⟨j,hj,rfl⟩:=OZ hz;exact h.all j hj ((GF hg hl hj).mpr hz)
 ·rcases h.ends with⟨f,a,b⟩|⟨j0,j1,le,lt,a,b,c0,c1⟩
  ·refine .inl ⟨λz hz=>?_,a,b⟩;obtain⟨j,hj,rfl⟩:=OZ hz;rw[<-GF hg hl hj,f j hj]at hz;cases hz
  ·have d0:=(GF (lo:=lo) hg hl (show j0<m by lia)).mp c0;have d1:=(GF (lo:=lo) hg hl lt).mp c1;refine .inr ⟨a▸d0,?_⟩;rw[show low+(M:Int)-1=lo+(j1:Int) by lia];exact d1
variable{low':Int}{M':Nat}
theorem LZ.uniq{f:(Int->Int)->Int}{low:Int}(h:LZ g f low M)(h':LZ g f low' M'):low=low'/\M=M':=by
 have o:=h.one;have o':=h'.one;rcases h.ends with⟨n,a,b⟩|⟨d0,d1⟩
 ·rcases h'.ends with⟨_,a',b'⟩|⟨d0',_⟩
  ·lia
  ·exact qG d0' (n _)
 ·rcases h'.ends with⟨n',_,_⟩|⟨d0',d1'⟩
  ·exact qG d0 (n' _)
  ·have:=h.all _ d0';have:=h.all _ d1';have:=h'.all _ d0;have:=h'.all _ d1;lia
theorem ET(hg:2<=g){f f':(Int->Int)->Int}(h:∀x,Nq g x->f x=f' x)(d:RF g f z):RF g f' z:=by obtain⟨x,hx,ne⟩:=d;refine⟨x,hx,?_⟩;rw[<-h x hx,<-h _ (V8 hg hx z)];exact ne
theorem LZ.congr(hg:2<=g){f f':(Int->Int)->Int}(h:∀x,Nq g x->f x=f' x){low:Int}(n:LZ g f low M):LZ g f' low M:=by
 have h2:∀x,Nq g x->f' x=f x:=λx hx=>(h x hx).symm
 refine⟨n.one,λz d=>n.all z (ET hg h2 d),?_⟩;rcases n.ends with⟨a,b,c⟩|⟨a,b⟩
 ·exact .inl ⟨λz d=>a z (ET hg h2 d),b,c⟩
 ·exact .inr ⟨ET hg h a,ET hg h b⟩
def Be(g lo:Int)(tab:List Int)(m:Nat)(lo':Int)(tab':List Int)(m':Nat):Prop:=∀x,Nq g x->JY g lo tab m x=JY g lo' tab' m' x
theorem SI(hg:2<=g){lo:Int}{a b:List Int}{m:Nat}(la:(a.length:Int)=g^m)(lb:(b.length:Int)=g^m)(h:∀x,Nq g x->JY g lo a m x=JY g lo b m x):a=b:=by refine OW hg la lb λw wl wb=>?_;subst wl;have z:=h (IM w lo) (IN hg wb lo);unfold JY at z;rw[Fq]at z;exact z
variable{lo':Int}{tab':List Int}{m':Nat}
theorem CH(hg:2<=g){lo:Int}{m:Nat}(hl:(tab.length:Int)=g^m)(hl':(tab'.length:Int)=g^m'){low:Int}(n:Dm g lo tab m low M)(n':Dm g lo' tab' m' low' M'):
  Be g lo tab m lo' tab' m'↔low=low'/\EZ g lo tab m low M=EZ g lo' tab' m' low' M':=by
 constructor
 ·intro h;obtain⟨e1,e2⟩:=((n.toF hg hl).congr hg h).uniq (n'.toF hg hl');subst e1 e2;refine⟨rfl,SI hg (lo:=low) (BI hg ..) (BI hg ..) λx hx=>?_⟩;rw[ES hg hl n.all hx,ES hg hl' n'.all hx];exact h x hx
 ·rintro⟨rfl,e⟩ x hx;have hM:M=M':=by have a:=BI hg lo tab m low M;have b:=BI hg lo' tab' m' low M';rw[e,b]at a;exact Cv hg a.symm
  subst hM;rw[<-ES hg hl n.all hx,<-ES hg hl' n'.all hx,e]
theorem Oa(hg:2<=g){lo low:Int}{m:Nat}(hl:(tab.length:Int)=g^m)(h1:low<=lo)(h2:lo+(m:Int)<=low+(M:Int)){x:Int->Int}(hx:Nq g x):JY g low (EZ g lo tab m low M) M x=JY g lo tab m x:=
 ES hg hl (λj hj _=>by lia) hx
theorem Be.symm{lo:Int}{m:Nat}(h:Be g lo tab m lo' tab' m'):Be g lo' tab' m' lo tab m:=λx hx=>(h x hx).symm
theorem Av{t u:TS}(h:∀N:St->Hp->Prop,(∀σ' H',u D σ' H'->N σ' H')->t {D with nx:=N} σ H):Kx t u D σ H:=h (u D) λ_ _ z=>z
end L2
namespace L2
open PySem PySem.Spec PyProof.Rows
variable{E Q:Value->Shared->Prop}{H H':Hp}{T:String}{X:Cx}{a b:Addr}{h h':Heap}{pins:List (Addr×Obj)}{pos tpos:Pos}{s:Shared}{t':Nat}{u:Value}{σ:St}
section
variable{κ:Type}[DecidableEq κ]
noncomputable def CY(kvs:List (κ×V))(k:κ):Option V:=(kvs.find? λkv=>decide (kv.1=k)).map (·.2)
noncomputable def CZ(kvs:List (κ×V))(k:κ)(v:V):List (κ×V):=
 if (kvs.any λkv=>decide (kv.1=k))=true then kvs.map (λkv=>if kv.1=k then (kv.1,v) else kv) else kvs++[(k,v)]
theorem FD{p:κ×V}{r:List (κ×V)}{k:κ}(e:p.1=k):CY (p::r) k=some p.2:=by simp[CY,List.find?_cons,e]
theorem ED{p:κ×V}{r:List (κ×V)}{k:κ}(e:¬p.1=k):CY (p::r) k=CY r k:=by simp[CY,List.find?_cons,e]
theorem Gr(k:κ):∀kvs:List (κ×V),(kvs.any λkv=>decide (kv.1=k))=(CY kvs k).isSome
 |[]=>rfl
 |p::r=>by
  rw[Yq]
  by_cases e:p.1=k
  ·simp only[FD e,qH e,Bool.true_or,Option.isSome_some]
  ·rw[ED e,qI e,Bool.false_or];exact Gr k r
theorem DG(kvs:List (κ×V))(k:κ)(v:V):(CZ kvs k v).length<=kvs.length+1:=by
 unfold CZ;split
 ·rw[Wq];lia
 ·rw[W1,Xo,Ym];lia
theorem Ob{kvs:List (κ×V)}{k:κ}(v:V)(h:CY kvs k=none):CZ kvs k v=kvs++[(k,v)]:=by unfold CZ;rw[Gr,h];exact qE (by decide)
theorem FN.isSome_eq{o:Option V}{u:Option Value}(r:FN o u):o.isSome=u.isSome:=by
 cases o with
 |none=>cases u with
  |none=>rfl
  |some _=>exact (show False from r).elim
 |some _=>cases u with
  |none=>exact (show False from r).elim
  |some _=>rfl
theorem FN.getD{o:Option V}{u:Option Value}{d:V}{d':Value}(r:FN o u)(rd:An d d'):An (o.getD d) (u.getD d'):=by
 cases o with
 |none=>cases u with
  |none=>exact rd
  |some _=>exact (show False from r).elim
 |some _=>cases u with
  |none=>exact (show False from r).elim
  |some _=>exact r
theorem KV.val{kvs:List (κ×V)}{vs:List (κ×Value)}(r:KV kvs vs)(k:κ):FN (CY kvs k) (valueAt vs k):=by
 unfold KV at r
 induction r with
 |nil=>exact True.intro
 | @cons p q ps qs h t ih =>
  obtain⟨h1,h2⟩:=h
  by_cases e:p.1=k
  ·have e':q.1=k:=h1.symm.trans e;have b:valueAt (q::qs) k=some q.2:=by simp[valueAt,List.find?_cons,e']
   rw[FD e,b];exact h2
  ·have e':¬q.1=k:=λz=>e (h1.trans z)
   have b:valueAt (q::qs) k=valueAt qs k:=by simp[valueAt,List.find?_cons,e']
   rw[ED e,b];exact ih
theorem KV.any{kvs:List (κ×V)}{vs:List (κ×Value)}(r:KV kvs vs)(k:κ):(kvs.any λkv=>decide (kv.1=k))=vs.any λkv=>decide (kv.1=k):=by
 unfold KV at r
 induction r with
 |nil=>rfl
 |cons h t ih=>rw[Yq,Yq,ih,h.1]
theorem KV.repl{kvs:List (κ×V)}{vs:List (κ×Value)}(r:KV kvs vs)(k:κ){y:V}(ry:An y u):
  KV (kvs.map λkv=>if kv.1=k then (kv.1,y) else kv) (vs.map λkv=>if kv.1=k then (kv.1,u) else kv):=by
 unfold KV at r⊢
 induction r with
 |nil=>exact .nil
 | @cons p q ps qs h t ih =>
  rw[Xt,Xt];refine .cons ?_ ih;obtain⟨h1,h2⟩:=h
  by_cases e:p.1=k
  ·rw[qF e,qF (h1.symm.trans e)];exact⟨h1,ry⟩
  ·rw[qE e,qE (λz=>e (h1.trans z))];exact⟨h1,h2⟩
theorem KV.put{kvs:List (κ×V)}{vs:List (κ×Value)}(r:KV kvs vs)(k:κ){y:V}(ry:An y u):KV (CZ kvs k y) (stored vs k u):=by
 unfold CZ stored;rw[r.any k]
 by_cases e:(vs.any λkv=>decide (kv.1=k))=true
 ·rw[qF e,qF e];exact r.repl k ry
 ·rw[qE e,qE e];exact Paired.snoc r ⟨rfl,ry⟩
theorem KV.length{kvs:List (κ×V)}{vs:List (κ×Value)}(r:KV kvs vs):kvs.length=vs.length:=Paired.length r
end
theorem Fs{P:Program}{w:World}{k:Bu}(r:An (kV k) u):(BE P w).is k u=true:=by
 cases k with
 |inl i=>obtain⟨t,e⟩:=(show ∃t,u=Value.int i t from r);subst e;exact JZ P w i t
 |inr x=>obtain⟨t,e⟩:=(show ∃t,u=Value.str x t from r);subst e;exact Ja P w x t
theorem IP{P:Program}{w:World}:∀{ks:List Bu} {us:List Value},Al (ks.map kV) us->ItemsAre (BE P w) ks us
 |[],_,r=>by rw[Y5]at r;cases r;exact .nil
 |k::ks,_,r=>by
  rw[Xt]at r;cases r with
  |cons h t=>exact .cons (Fs h) (IP t)
abbrev MU(H:Hp):List (List Bu×V)->List (List Bu×Addr×Value)->Prop:=Paired λp q=>p.1=q.1/\H q.2.1=some (.tup (p.1.map kV))/\An p.2 q.2.2
theorem MU.val{kvs:List (List Bu×V)}{xs:List (List Bu×Addr×Value)}(r:MU H kvs xs)(k:List Bu):FN (CY kvs k) ((atKey xs k).map (·.2)):=by
 induction r with
 |nil=>exact True.intro
 | @cons p q ps qs h t ih =>
  obtain⟨h1,_,h2⟩:=h
  by_cases e:p.1=k
  ·have e':q.1=k:=h1.symm.trans e;have b:atKey (q::qs) k=some q.2:=by simp[atKey,List.find?_cons,e']
   rw[FD e,b];exact h2
  ·have e':¬q.1=k:=λz=>e (h1.trans z)
   have b:atKey (q::qs) k=atKey qs k:=by simp[atKey,List.find?_cons,e']
   rw[ED e,b];exact ih
theorem MU.repl{kvs:List (List Bu×V)}{xs:List (List Bu×Addr×Value)}(r:MU H kvs xs)(k:List Bu){y:V}(ry:An y u):
  MU H (kvs.map λkv=>if kv.1=k then (kv.1,y) else kv) (xs.map (putAt k u)):=by
 induction r with
 |nil=>exact .nil
 | @cons p q ps qs h t ih =>
  rw[Xt,Xt];refine .cons ?_ ih;obtain⟨h1,h2,h3⟩:=h;unfold putAt
  by_cases e:p.1=k
  ·rw[qF e,qF (h1.symm.trans e)];exact⟨h1,h2,ry⟩
  ·rw[qE e,qE (λz=>e (h1.trans z))];exact⟨h1,h2,h3⟩
theorem MU.put{kvs:List (List Bu×V)}{xs:List (List Bu×Addr×Value)}(r:MU H kvs xs)(k:List Bu){y:V}(hb:H b=some (.tup (k.map kV)))(ry:An y u):
  MU H (CZ kvs k y) (storedH xs k b u):=by
 have e:(kvs.any λkv=>decide (kv.1=k))=(atKey xs k).isSome:=by rw[Gr,(r.val k).isSome_eq,Option.isSome_map]
 unfold CZ storedH;rw[e]
 by_cases q:(atKey xs k).isSome=true
 ·rw[qF q,qF q];exact r.repl k ry
 ·rw[qE q,qE q];exact Paired.snoc r ⟨rfl,hb,ry⟩
theorem MU.keeps{kvs:List (List Bu×V)}{xs:List (List Bu×Addr×Value)}(r:MU H kvs xs)(ht:∀b ys,H b=some (.tup ys)->H' b=some (.tup ys)):MU H' kvs xs:=
 Paired.mapP r λ_ _ z=>⟨z.1,ht _ _ z.2.1,z.2.2⟩
variable{kvs:List (Bu×V)}
section
variable{P:Program}{w:World}
theorem RG{u:HO}(ok:DQ P w H h)(e:Rd H a u):Ao P w H h a u:=e.ok ok
theorem FE(ok:DQ P w H h)(e:Rd H a (.dK kvs)):kvs.length<=sizeLine/\(a==sysModules)=false/\∃vs,KV kvs vs/\h.DictOf (BE P w) a vs:=
 show Ao P w H h a (.dK kvs) from RG ok e
theorem Oc(ok:DQ P w H h)(e:H a=some (.dK kvs)):kvs.length<=sizeLine/\(a==sysModules)=false/\∃vs,KV kvs vs/\h.DictOf (BE P w) a vs:=FE ok (.inl e)
theorem FY{ks:List Bu}(ok:DQ P w H h)(e:H a=some (.tup (ks.map kV))):(tupleKind (BE P w)).is h ks a:=by obtain⟨_,its,r,o,h1,h2,n,h3⟩:=(show Ao P w H h a (.tup (ks.map kV)) from ok a _ e);exact⟨o,its.toArray,n,h1,h2,h3,by simpa using IP r⟩
theorem Gs{kvs:List (List Bu×V)}(ok:DQ P w H h)(e:Rd H a (.dT kvs)):kvs.length<=sizeLine/\(a==sysModules)=false /\
  ∃xs,MU H kvs xs/\h.DictOfH (tupleKind (BE P w)) a xs:=by
 obtain⟨z,y,xs,r,o,es,ep,h1,h2,h3,h4,h5⟩:=(show Ao P w H h a (.dT kvs) from RG ok e);refine⟨z,y,xs,r,o,es,ep,h1,h2,h3,h4,λx hx=>?_,h5⟩
 have all:∀{l:List (List Bu×V)} {m:List (List Bu×Addr×Value)},MU H l m->∀x∈m,(tupleKind (BE P w)).is h x.1 x.2.1:=by
  intro l m q
  induction q with
  |nil=>intro x hx;exact nomatch hx
  | @cons p q ps qs hq t ih =>
   intro x hx;rcases XE.mp hx with e|hx
   ·subst e;exact FY ok (by rw[<-hq.1];exact hq.2.1)
   ·exact ih x hx
 exact all r x hx
theorem UW{kvs:List (List Bu×V)}(ok:DQ P w H h)(e:H a=some (.dT kvs)):kvs.length<=sizeLine/\(a==sysModules)=false /\
  ∃xs,MU H kvs xs/\h.DictOfH (tupleKind (BE P w)) a xs:=Gs ok (.inl e)
end
def Cy(H:Hp)(a:Addr)(y:V)(r:Option V):Prop:=
 (∃kvs k,Rd H a (.dK kvs)/\y=kV k/\r=CY kvs k)\/∃kvs k b,Rd H a (.dT kvs)/\y=.ref b/\H b=some (.tup (k.map kV))/\r=CY kvs k
def JE(H:Hp)(a:Addr)(y v:V)(H':Hp):Prop:=
 (∃kvs k,H a=some (.dK kvs)/\y=kV k/\kvs.length<sizeLine/\H'=Ae H a (.dK (CZ kvs k v))) \/
 ∃kvs k b,H a=some (.dT kvs)/\y=.ref b/\H b=some (.tup (k.map kV))/\kvs.length<sizeLine/\H'=Ae H a (.dT (CZ kvs k v))
theorem Cy.k{k:Bu}(e:H a=some (.dK kvs)):Cy H a (kV k) (CY kvs k):=.inl ⟨kvs,k,.inl e,rfl,rfl⟩
theorem JE.k{k:Bu}{v:V}(e:H a=some (.dK kvs))(hl:kvs.length<sizeLine):JE H a (kV k) v (Ae H a (.dK (CZ kvs k v))):=.inl ⟨kvs,k,e,rfl,hl,rfl⟩
section
variable{y v:V}{r:Value}{o:Option V}{A:Around}
theorem AU.big(I:AU X pins σ H s):sysModules<s.heap.objs.size:=by have h:mainGlobals<s.heap.objs.size:=(I.mod.glob.keeps I.bk).lt;exact Nat.lt_trans (by decide) h
theorem NR(hu:A.units+1<cLine)(I:AU X pins σ H s)(g:Cy H a y (some v))(ry:An y u)(h:∀w' s',AU X pins σ H s'->An v w'->Q w' s'):
  wpAny (model X.prog X.w) A (getItem (.ref a) u) Q E s:=by
 rcases g with⟨kvs,k,e,ey,l⟩|⟨kvs,k,b,e,ey,eb,l⟩
 ·subst ey;obtain⟨z,hd,vs,rel,dd⟩:=FE I.hok e;obtain⟨w',hw,rw'⟩:=FN.some_of (v:=v) (o:=valueAt vs k) (by rw[l];exact rel.val k);exact wpAny_getItem_of (Fs ry) dd.mapOf hw (h w' _ (I.tok _) rw')
 ·subst ey;cases (show u=Value.ref b from ry);obtain⟨z,hd,xs,rel,dd⟩:=Gs I.hok e;obtain⟨w',hw,rw'⟩:=FN.some_of (v:=v) (o:=(atKey xs k).map (·.2)) (by rw[l];exact rel.val k);obtain⟨p,hp,hp2⟩:=XS.mp hw;refine wpAny_getItem_heap (tupleKind_room_in1 hu) (FY I.hok eb) dd hp ?_;rw[hp2];exact h w' _ (I.tok _) rw'
theorem QP(hu:A.units+1<cLine)(I:AU X pins σ H s)(g:Cy H a y o)(ry:An y u)(h:∀s',AU X pins σ H s'->Q (.bool (!o.isSome)) s'):
  wpAny (model X.prog X.w) A (compareOp .NotIn u (.ref a)) Q E s:=by
 rcases g with⟨kvs,k,e,ey,l⟩|⟨kvs,k,b,e,ey,eb,l⟩
 ·subst ey;obtain⟨z,hd,vs,rel,dd⟩:=FE I.hok e;refine wpAny_notIn_of (Fs ry) hd dd.mapOf ?_;rw[<-(rel.val k).isSome_eq,<-l];exact h _ (I.tok _)
 ·subst ey;cases (show u=Value.ref b from ry);obtain⟨z,hd,xs,rel,dd⟩:=Gs I.hok e;refine wpAny_notIn_heap (tupleKind_room_in1 hu) (FY I.hok eb) hd dd ?_;have q:=(rel.val k).isSome_eq;rw[Option.isSome_map]at q;rw[<-q,<-l];exact h _ (I.tok _)
theorem GG{ob:HO}(I:AU X pins σ H s)(mu:Tp (H a))(hs:Heap.SameBut a s.heap h')(he:∃q,h'.get? a=some q)(new:Ao X.prog X.w (Ae H a ob) h' a ob):
  AU X pins σ (Ae H a ob) {s with heap:=h',toks:=t'}:=
 I.write (x:=a) (e:=a) mu (.inl rfl) (λb q hb z=>(hs.2 b hb).trans z) he new
theorem La{P:Program}{w:World}{vs:List (Bu×Value)}(z:kvs.length<=sizeLine)(hd:(a==sysModules)=false)(rel:KV kvs vs)(dd:h'.DictOf (BE P w) a vs):
  Ao P w H' h' a (.dK kvs):=⟨z,hd,vs,rel,dd⟩
theorem NT{Q:Unit->Shared->Prop}(hu:A.units+1<cLine)(I:AU X pins σ H s)(g:JE H a y v H')(ry:An y u)(rv:An v r)(h:∀s',AU X pins σ H' s'->Q () s'):
  wpAny (model X.prog X.w) A (setItem (.ref a) u r) Q E s:=by
 rcases g with⟨kvs,k,e,ey,l,eH⟩|⟨kvs,k,b,e,ey,eb,l,eH⟩
 ·subst ey eH;obtain⟨z,hd,vs,rel,dd⟩:=Oc I.hok e;have hz:vs.length<=sizeLine:=by rw[<-rel.length];exact z
  have hl:(CZ kvs k v).length<=sizeLine:=by have:=DG kvs k v;lia
  refine wpAny_setItem_pairs (hsz:=hz) (Fs ry) dd λh' dd' hs=>h _ ?_
  have he:∃q,h'.get? a=some q:=let ⟨q,_,_,hq,_⟩:=dd';⟨q,hq⟩;exact GG I (by rw[e];exact True.intro) hs he (La hl hd (rel.put k rv) dd')
 ·subst ey eH;cases (show u=Value.ref b from ry);obtain⟨z,hd,xs,rel,dd⟩:=UW I.hok e;have hz:xs.length<=sizeLine:=by rw[<-Paired.length rel];exact z
  have hl:(CZ kvs k v).length<=sizeLine:=by have:=DG kvs k v;lia
  refine wpAny_setItem_heap (hsz:=hz) (tupleKind_room_in1 hu) (FY I.hok eb) dd λh' dd' hs=>h _ ?_
  obtain⟨q,es,ep,hq,h2,h3,h4,_,h5⟩:=dd';refine GG I (by rw[e];exact True.intro) hs ⟨q,hq⟩ ⟨hl,hd,_,(rel.put k eb rv).keeps λc ys ec=>?_,q,es,ep,hq,h2,h3,h4,h5⟩;rw[AI (Ls ec e (λz=>nomatch z))];exact ec
end
def UX(i:Expr):Prop:=∀ov iv,subscripted i false ov iv=operate [ov,iv] (getItem ov iv)
theorem QQ{prog:Program}{w:World}{A:Around}{env:Env}{value slice:Expr}{id:String}
  (hl:typeLookup (.type T) "__getitem__"=pure (some (.builtin id))) (hs:UX slice)
  (h:wpAny (model prog w) A (eval value env) (λo s₁=>wpAny (model prog w) A (eval slice env) (λi s₂=>s₂.TypeIs o T/\wpAny (model prog w) A (getItem o i) Q E s₂) E s₁) E s):
  wpAny (model prog w) A (eval (.Subscript value slice pos) env) Q E s:=by
 refine Subscript_ (wpAny_mono h (λo s₁ h₁=>wpAny_mono h₁ (λi s₂ h₂=>?_) λ_ _ x=>x) λ_ _ x=>x);obtain⟨hT,h₂⟩:=h₂;unfold subscriptTail;refine qC ?_;rw[getitemInPython_of_ne hT.not_modules];refine qC (wpAny_specialOf hT hl ?_)
 have fin:wpAny (model prog w) A (subscripted slice false o i) (λr s₃=>wpAny (model prog w) A (letTemporaryGo value o r >>= λ_=>pure r) Q E s₃) E s₂:=by rw[hs o i];exact wpAny_operating (wpAny_mono h₂ (λr s₃ h₃=>qC (wpAny_letTemporaryGo (qD h₃))) λ_ _ x=>x)
 first
  |exact qD (qC fin)
  |exact qC (qD (qC fin))
  |exact qC fin
theorem KD{y:V}{o:Option V}(I:AU X pins σ H s)(g:Cy H a y o):s.TypeIs (.ref a) "dict":=by
 rcases g with⟨kvs,k,e,_,_⟩|⟨kvs,k,b,e,_,_,_⟩
 ·obtain⟨_,_,vs,_,dd⟩:=FE I.hok e;exact dd.typeIs
 ·obtain⟨_,_,xs,_,dd⟩:=Gs I.hok e;exact dd.typeIs
def UY(td ty:TE):TE:=λσ H Q=>td σ H λx H1=>ty σ H1 λy H2=>∃a v,x=.ref a/\Cy H2 a y (some v)/\Q v H2
def QR(ty td:TE):TE:=λσ H Q=>ty σ H λy H1=>td σ H1 λx H2=>∃a o,x=.ref a/\Cy H2 a y o/\Q (.bl (!o.isSome)) H2
def UZ(td ty tv:TE):TS:=λD σ H=>tv σ H λv H1=>td σ H1 λx H2=>ty σ H2 λy H3=>∃a H4,x=.ref a/\JE H3 a y v H4/\D.nx σ H4
section
variable{o i e value:Expr}{pos':Pos}{td ty tv:TE}
theorem CI(hu:X.A.units+1<cLine)(ho:PE X o td)(hi:PE X i ty)(hs:UX i):PE X (.Subscript o i pos) (UY td ty):=by intro pins s σ H Q I h;refine QQ PySem.F.slot_dict_getitem.lookup hs (BU (ho pins s σ H _ I h) λu s1 ⟨x,H1,I1,rx,q1⟩=>BU (hi pins s1 σ H1 _ I1 q1) λiv s2 z9=>?_);obtain⟨y,H2,I2,ry,a,v,ex,g,q2⟩:=z9;subst ex;obtain rfl:u=Value.ref a:=rx;exact⟨KD I2 g,NR hu I2 g ry λw' s3 I3 rw'=>⟨v,H2,I3,rw',q2⟩⟩
theorem DV(hu:X.A.units+1<cLine)(hi:PE X i ty)(ho:PE X o td):PC X .NotIn i o (QR ty td):=by
 intro pins s σ H Q I h;refine BU (hi pins s σ H _ I h) λiv s1 ⟨y,H1,I1,ry,q1⟩=>BU (ho pins s1 σ H1 _ I1 q1) λu s2 z9=>?_
 obtain⟨x,H2,I2,rx,a,ov,ex,g,q2⟩:=z9;subst ex;obtain rfl:u=Value.ref a:=rx;exact QP hu I2 g ry λs3 I3=>⟨.bl (!ov.isSome),H2,I3,rfl,q2⟩
theorem FF(hu:X.A.units+1<cLine)(ho:PE X o td)(hi:PE X i ty)(hv:PE X value tv)(hs:swapsWith value (some (.Subscript o i pos')) pos.line X.env=pure false):
  PS X (.Assign [.Subscript o i pos'] value pos) (UZ td ty tv):=by
 intro pins s σ H D I h;refine wpAny_Assign_Subscript (BU (hv pins s σ H _ I h) λr s1 ⟨v,H1,I1,rv,q1⟩=>BU (ho pins s1 σ H1 _ I1 q1) λu s2 ⟨x,H2,I2,rx,q2⟩=>BU (hi pins s2 σ H2 _ I2 q2) λiv s3 z9=>?_) hs;obtain⟨y,H3,I3,ry,a,H4,ex,g,q3⟩:=z9;subst ex;obtain rfl:u=Value.ref a:=rx;exact NT hu I3 g ry rv λs4 I4=>⟨σ,H4,I4,q3⟩
end
theorem KE{P:Program}{w:World}(h:Heap)(hb:sysModules<h.objs.size):Ao P w H (h.push {cls:=.type "dict",data:=.dict #[]}) h.objs.size (.dK []):=
 ⟨XO _,beq_eq_false_iff_ne.mpr (Ne.symm (Xd hb)),[],.nil,Heap.DictOf.new h⟩
def SJ:TE:=λ_ H Q=>∀p,H p=none->Q (.ref p) (Ae H p (.dK []))
theorem EE:PE X (.Dict [] [] pos) SJ:=λpins s σ H Q I h =>
 wpAny_Dict_empty ⟨.ref s.heap.objs.size,_,I.laid (a:=s.heap.objs.size) (o:=.dK []) (t':=s.toks) (λ_ _ q=>Wu _ q) (Wv _) (KE s.heap I.big),rfl,h _ (I.hok.fresh (Wv _))⟩
noncomputable def Lb:List (TE×TE)->St->Hp->(List (V×V)->Hp->Prop)->Prop
 |[],_,H,Q=>Q [] H
 | (tk,tv)::r,σ,H,Q=>tk σ H λx H1=>tv σ H1 λy H2=>Lb r σ H2 λps H3=>Q ((x,y)::ps) H3
abbrev VV:List (V×V)->List (Value×Value)->Prop:=Paired λp q=>An p.1 q.1/\An p.2 q.2
def Vq(X:Cx)(pos:Pos)(keys:List (Option Expr))(values:List Expr)(trs:List (TE×TE)):Prop:=
 ∀(pins:List (Addr×Obj)) (s:Shared) (σ:St) (H:Hp) (Q:List (V×V)->Hp->Prop),AU X pins σ H s->Lb trs σ H Q ->
  wpAny (model X.prog X.w) X.A (evalPairs (pairTrees keys values X.env pos)) (λvs s'=>∃ps H',AU X pins σ H' s'/\VV ps vs/\Q ps H') X.xe s
theorem QS:Vq X pos [] [] []:=λpins s σ H Q I h=>pairTrees_nil_walk ⟨[],H,I,.nil,h⟩
theorem Od{k v:Expr}{ks:List (Option Expr)}{vs:List Expr}{tk tv:TE}{trs:List (TE×TE)}(hk:PE X k tk)(hv:PE X v tv)(hr:Vq X pos ks vs trs):
  Vq X pos (some k::ks) (v::vs) ((tk,tv)::trs):=λpins s σ H Q I h =>
 pairTrees_cons_walk (BU (hk pins s σ H _ I h) λu s1 ⟨x,H1,I1,rx,q1⟩=>BU (hv pins s1 σ H1 _ I1 q1) λw2 s2 ⟨y,H2,I2,ry,q2⟩ =>
  BU (hr pins s2 σ H2 _ I2 q2) λws s3 ⟨ps,H3,I3,rel,q3⟩=>⟨(x,y)::ps,H3,I3,.cons ⟨rx,ry⟩ rel,q3⟩)
noncomputable def FZ(kvs more:List (Bu×V)):List (Bu×V):=more.foldl (λacc kv=>CZ acc kv.1 kv.2) kvs
theorem KV.merge:∀{more:List (Bu×V)} {rs:List (Bu×Value)} {kvs:List (Bu×V)} {vs:List (Bu×Value)},KV more rs->KV kvs vs->KV (FZ kvs more) (merged vs rs):=by
 intro more rs kvs vs r;unfold KV at r
 induction r generalizing kvs vs with
 |nil=>intro q;exact q
 | @cons p q ps qs h t ih =>
  intro r0
  have e:KV (CZ kvs p.1 p.2) (stored vs q.1 q.2):=by have:=r0.put p.1 h.2;rw[<-h.1];exact this
  exact ih e
theorem Ee:∀(more kvs:List (Bu×V)),(FZ kvs more).length<=kvs.length+more.length
 |[],kvs=>by show kvs.length<=kvs.length+0;lia
 |p::r,kvs=>by have h1:=Ee r (CZ kvs p.1 p.2);have h2:=DG kvs p.1 p.2;show (FZ (CZ kvs p.1 p.2) r).length<=_;rw[Xo];lia
theorem Gu{P:Program}{w:World}:∀{kvs:List (Bu×V)} {ws:List (Value×Value)},VV (kvs.map λkv=>(kV kv.1,kv.2)) ws->∃rs,Carries (BE P w) ws rs/\KV kvs rs
 |[],_,r=>by rw[Y5]at r;cases r;exact⟨[],True.intro,.nil⟩
 |p::kvs,_,r=>by
  rw[Xt]at r;cases r with
  | @cons a b as bs h t =>
   obtain⟨rs,c,q⟩:=Gu (P:=P) (w:=w) t;obtain⟨b1,b2⟩:=b;exact⟨(p.1,b2)::rs,⟨Fs h.1,rfl,c⟩,.cons ⟨rfl,h.2⟩ q⟩
def Ua(trs:List (TE×TE)):TE:=λσ H Q=>∀p,H p=none->Lb trs σ (Ae H p (.dK [])) λps H2=>H2 p=some (.dK [])/\∃kvs:List (Bu×V),ps=kvs.map (λkv=>(kV kv.1,kv.2))/\kvs.length<=15/\Q (.ref p) (Ae H2 p (.dK (FZ [] kvs)))
theorem QT{keys:List (Option Expr)}{values:List Expr}{trs:List (TE×TE)}(h:Vq X pos keys values trs)(hall:keys.all (·.isSome)=true)(hl:keys.length=values.length)(h0:keys≠[])
  (h15:keys.length<=15):PE X (.Dict keys values pos) (Ua trs):=by
 intro pins s σ H Q I q;have hn:=I.hok.fresh (Wv s.heap.objs.size);have I1:=I.laid (a:=s.heap.objs.size) (o:=.dK []) (h':=s.heap.push {cls:=.type "dict",data:=.dict #[]}) (t':=s.toks) (λ_ _ q=>Wu _ q) (Wv _) (KE s.heap I.big);refine wpAny_Dict_walk (knd:=BE X.prog X.w) hall hl h0 h15 (BU (h pins _ σ _ _ I1 (q _ hn)) λws s2 z9=>?_);obtain⟨ps,H2,I2,rel,e,kvs,ep,lk,q2⟩:=z9;subst ep;obtain⟨rs,c,rk⟩:=Gu (P:=X.prog) (w:=X.w) rel;obtain⟨z,hd,vs0,r0,dd⟩:=Oc I2.hok e;cases r0;refine⟨rs,c,dd,λh' dd' hs=>⟨.ref s.heap.objs.size,_,?_,rfl,q2⟩⟩
 have hz:(FZ [] kvs).length<=sizeLine:=by have h1:=Ee kvs [];rw[Ym]at h1;rw[sizeLine_eq];lia
 have he:∃q,h'.get? s.heap.objs.size=some q:=let ⟨q,_,_,hq,_⟩:=dd';⟨q,hq⟩;exact GG I2 (by rw[e];exact True.intro) hs he (La hz hd (rk.merge .nil) dd')
structure M1(X:Cx)(o:Expr)(m:Str)(apos:Pos)(e:Expr)(cpos:Pos):Prop where
 base:attributeBase o m X.env (eval o X.env)=eval o X.env
 few:((backTo cpos (starEach [e] X.env)).all (λx=>!x.1)&&(backToKw cpos (keywordEach [] X.env)).all (λx=>x.1.isSome)
  && decide (([e]:List Expr).length+([]:List Keyword).length+(if ([]:List Keyword).isEmpty then 0 else 1)<30))=true
 line:(apos.endLine==cpos.line)=true
 trees:backTo cpos (starEach [e] X.env)=[(false,eval e X.env)]
structure M2(X:Cx)(o:Expr)(m:Str)(apos:Pos)(e f:Expr)(cpos:Pos):Prop where
 base:attributeBase o m X.env (eval o X.env)=eval o X.env
 few:((backTo cpos (starEach [e,f] X.env)).all (λx=>!x.1)&&(backToKw cpos (keywordEach [] X.env)).all (λx=>x.1.isSome)
  && decide (([e,f]:List Expr).length+([]:List Keyword).length+(if ([]:List Keyword).isEmpty then 0 else 1)<30))=true
 line:(apos.endLine==cpos.line)=true
 trees:backTo cpos (starEach [e,f] X.env)=[(false,eval e X.env),(false,eval f X.env)]
def V9(H:Hp)(a:Addr):Prop:=(∃kvs,Rd H a (.dK kvs))\/∃kvs,Rd H a (.dT kvs)
theorem Oe(I:AU X pins σ H s)(d:V9 H a):
  s.TypeIs (.ref a) "dict"/\(∀b,Value.ref a=.ref b->∃ob,s.heap.get? b=some ob/\ob.dict=none)/\(a==sysModules)=false:=by
 rcases d with⟨kvs,e⟩|⟨kvs,e⟩
 ·obtain⟨_,hd,vs,_,dd⟩:=FE I.hok e;refine⟨dd.typeIs,λb q=>?_,hd⟩;cases q;obtain⟨ob,_,_,h1,h2,_⟩:=dd;exact⟨ob,h1,h2.2.1⟩
 ·obtain⟨_,hd,xs,_,dd⟩:=Gs I.hok e;refine⟨dd.typeIs,λb q=>?_,hd⟩;cases q;obtain⟨ob,_,_,h1,h2,_⟩:=dd;exact⟨ob,h1,h2.2.1⟩
section
variable{y d:V}{r:Value}{o:Option V}{A:Around}
theorem SK(hu:A.units+1<cLine)(I:AU X pins σ H s)(g:Cy H a y o)(ry:An y u)(h:∀w' s',AU X pins σ H s'->An (o.getD .non) w'->Q w' s'):
  wpAny (model X.prog X.w) A (call (.builtin "dict.get") [.ref a,u]) Q E s:=by
 rcases g with⟨kvs,k,e,ey,l⟩|⟨kvs,k,b,e,ey,eb,l⟩
 ·subst ey;obtain⟨z,hd,vs,rel,dd⟩:=FE I.hok e;refine call_meetsIn YG dd.typeIs Yi (PySem.F.args_dict_get_2 _ _) (meets_dict_get (BE X.prog X.w) a (Fs ry) hd) ⟨_,dd.mapOf,h _ _ (I.tok _) ?_⟩;rw[l];exact (rel.val k).getD rfl
 ·subst ey;cases (show u=Value.ref b from ry);obtain⟨z,hd,xs,rel,dd⟩:=Gs I.hok e;refine call_meetsIn YG dd.typeIs Yi (PySem.F.args_dict_get_2 _ _) (meetsH_dict_get (tupleKind (BE X.prog X.w)) a b hd) ⟨tupleKind_room_in1 hu,k,xs,FY I.hok eb,dd,h _ _ (I.tok _) ?_⟩;rw[l];exact (rel.val k).getD rfl
theorem SL(hu:A.units+1<cLine)(I:AU X pins σ H s)(g:Cy H a y o)(ry:An y u)(rd:An d r)(h:∀w' s',AU X pins σ H s'->An (o.getD d) w'->Q w' s'):
  wpAny (model X.prog X.w) A (call (.builtin "dict.get") [.ref a,u,r]) Q E s:=by
 rcases g with⟨kvs,k,e,ey,l⟩|⟨kvs,k,b,e,ey,eb,l⟩
 ·subst ey;obtain⟨z,hd,vs,rel,dd⟩:=FE I.hok e;refine call_meetsIn YG dd.typeIs Yi (PySem.F.args_dict_get_3 _ _ _) (meets_dict_get_default (BE X.prog X.w) a (Fs ry) hd r) ⟨_,dd.mapOf,h _ _ (I.tok _) ?_⟩;rw[l];exact (rel.val k).getD rd
 ·subst ey;cases (show u=Value.ref b from ry);obtain⟨z,hd,xs,rel,dd⟩:=Gs I.hok e;refine call_meetsIn YG dd.typeIs Yi (PySem.F.args_dict_get_3 _ _ _) (meetsH_dict_get_default (tupleKind (BE X.prog X.w)) a b hd r) ⟨tupleKind_room_in1 hu,k,xs,FY I.hok eb,dd,h _ _ (I.tok _) ?_⟩;rw[l];exact (rel.val k).getD rd
end
def SM(td ty:TE):TE:=λσ H Q=>td σ H λx H1=>∃a,x=.ref a/\V9 H1 a/\ty σ H1 λy H2=>∃o,Cy H2 a y o/\Q (o.getD .non) H2
def SN(td ty tx:TE):TE:=λσ H Q=>td σ H λx H1=>∃a,x=.ref a/\V9 H1 a/\ty σ H1 λy H2=>tx σ H2 λz H3=>∃o,Cy H3 a y o/\Q (o.getD z) H3
section
variable{o e f:Expr}{apos cpos:Pos}{td ty tx:TE}
theorem KG(hu:X.A.units+1<cLine)(ho:PE X o td)(he:PE X e ty)(m:M1 X o "get" apos e cpos):PE X (.Call (.Attribute o "get" apos) [e] [] cpos) (SM td ty):=by intro pins s σ H Q I h;refine wpAny_Call_method m.base m.few m.line Yb YG PySem.F.type_dict_get (BU (ho pins s σ H _ I h) λu s1 z9=>?_);obtain⟨x,H1,I1,rx,a,ex,d,q1⟩:=z9;subst ex;obtain rfl:u=Value.ref a:=rx;obtain⟨t1,t2,_⟩:=Oe I1 d;refine⟨t1,t2,?_⟩;rw[m.trees];refine Calls.callWith_builtin rfl (Calls.evalArgs_plain (Calls.spliced_cons (BU (he pins s1 σ H1 _ I1 q1) λiv s2 ⟨y,H2,I2,ry,ov,g,q2⟩=>Calls.spliced_nil ?_)));exact SK hu I2 g ry λw' s3 I3 rw'=>⟨_,H2,I3,rw',q2⟩
theorem Of(hu:X.A.units+1<cLine)(ho:PE X o td)(he:PE X e ty)(hf:PE X f tx)(m:M2 X o "get" apos e f cpos):PE X (.Call (.Attribute o "get" apos) [e,f] [] cpos) (SN td ty tx):=by
 intro pins s σ H Q I h;refine wpAny_Call_method m.base m.few m.line Yb YG PySem.F.type_dict_get (BU (ho pins s σ H _ I h) λu s1 z9=>?_);obtain⟨x,H1,I1,rx,a,ex,d,q1⟩:=z9;subst ex;obtain rfl:u=Value.ref a:=rx;obtain⟨t1,t2,_⟩:=Oe I1 d;refine⟨t1,t2,?_⟩;rw[m.trees]
 refine Calls.callWith_builtin rfl (Calls.evalArgs_plain (Calls.spliced_cons (BU (he pins s1 σ H1 _ I1 q1) λiv s2 ⟨y,H2,I2,ry,q2⟩ =>
  Calls.spliced_cons (BU (hf pins s2 σ H2 _ I2 q2) λfv s3 ⟨z,H3,I3,rz,ov,g,q3⟩=>Calls.spliced_nil ?_))))
 exact SL hu I3 g ry rz λw' s4 I4 rw'=>⟨_,H3,I4,rw',q3⟩
end
end L2
namespace PySem
end PySem
namespace L2
open PySem PySem.Spec PyProof.Rows
variable{X:Cx}{es:List Expr}{f:Addr}{fd:FuncData}{i:Nat}{pos:Pos}{ps:List Str}{qual x:Str}{scope:Scope}{sp:Sp}{te:TE}{tt:TT}
section
variable{p:List Value->Prop}
theorem b0(h:p []):∀us:List Value,us.length=0->p us:=λus e=>by cases us with
 |nil=>exact h
 |cons a r=>cases e
theorem b1(h:∀a,p [a]):∀us:List Value,us.length=1->p us:=λus e=>by cases us with
 |nil=>cases e
 |cons a r=>exact b0 (p:=λl=>p (a::l)) (h a) r (Nat.succ.inj e)
theorem b2(h:∀a b,p [a,b]):∀us:List Value,us.length=2->p us:=λus e=>by cases us with
 |nil=>cases e
 |cons a r=>exact b1 (p:=λl=>p (a::l)) (h a) r (Nat.succ.inj e)
theorem b3(h:∀a b c,p [a,b,c]):∀us:List Value,us.length=3->p us:=λus e=>by cases us with
 |nil=>cases e
 |cons a r=>exact b2 (p:=λl=>p (a::l)) (h a) r (Nat.succ.inj e)
theorem b4(h:∀a b c d,p [a,b,c,d]):∀us:List Value,us.length=4->p us:=λus e=>by cases us with
 |nil=>cases e
 |cons a r=>exact b3 (p:=λl=>p (a::l)) (h a) r (Nat.succ.inj e)
end
noncomputable def Wk(N P:List Str)(sc:Scope):Bool:=decide (sc.kind=.function)&&!sc.isCoroutine&&!sc.isGenerator&&decide N.Nodup&&decide (N.take P.length=P) &&
 P.all (λx=>decide (sc.names.lookup x=some .local\/sc.names.lookup x=some .cell))&&sc.names.all λy=>decide (y.2≠.free)
theorem Ch{N P:List Str}{sc:Scope}(h:Wk N P sc=true):AK N P sc:=by unfold Wk at h;simp only[Bool.and_eq_true,decide_eq_true_eq,Bool.not_eq_true',List.all_eq_true]at h;obtain⟨⟨⟨⟨⟨⟨a,b⟩,c⟩,d⟩,e⟩,f⟩,g⟩:=h;exact⟨a,b,c,d,e,f,g⟩
section
variable{P:Program}{w:World}{K:qJ}{mg:Str->Option Value}{base:Heap}{st:Stmt}{N:List Str}{k:Nat}
theorem B1.okY(F:B1 K x qual st f fd)(S:AK N ps (AH st)) (h:∀vs H Q E,sp vs H Q E->vs.length=ps.length /\
  ∀(cdv:Value) (A:Around) (outer:List Env) (s:Shared),Bn k (A.deeper (envOfC qual (AH st) s.heap.objs.size f cdv)) ->
   ∃t,Fm (DL (Hj P w) P w K mg base N qual (AH st) f cdv A outer s H E).nox (Bc st) t/\t {nx:=λ_ H'=>Q .non H',rt:=Q} (Ck N vs) H):EY P w K mg base (Hj P w) (k+1) f fd ps sp:=
 F.ok0 S (λvs H Q E q=>(h vs H Q E q).1) λcdv A outer s H vs Q E hr q=>(h vs H Q E q).2 cdv A outer s hr
theorem BJ(D:∃fd,B1 K x qual st f fd)(S:AK N ps (AH st))(bd:DS x qual st ps) (h:∀vs H Q E,sp vs H Q E->vs.length=ps.length /\
  ∀(cdv:Value) (A:Around) (outer:List Env) (s:Shared),Bn k (A.deeper (envOfC qual (AH st) s.heap.objs.size f cdv)) ->
   ∃t,Fm (DL (Hj P w) P w K mg base N qual (AH st) f cdv A outer s H E).nox (Bc st) t/\t {nx:=λ_ H'=>Q .non H',rt:=Q} (Ck N vs) H):Aw P w K mg base (k+1) f ps sp:=
 QD D S bd (λvs H Q E q=>(h vs H Q E q).1) λcdv A outer s H vs Q E hr q=>(h vs H Q E q).2 cdv A outer s hr
theorem DI(D:∃fd,B1 K x qual st f fd)(S:AK N ps (AH st))(bd:DS x qual st ps) (h:∀vs H Q E,sp vs H Q E->vs.length=ps.length /\
  ∀(cdv:Value) (A:Around) (outer:List Env) (s:Shared),Bn k (A.deeper (envOfC qual (AH st) s.heap.objs.size f cdv)) ->
   ∃t,Fm (DL (Hj P w) P w K mg base N qual (AH st) f cdv A outer s H E) (Bc st) t/\t {nx:=λ_ H'=>Q .non H',rt:=Q} (Ck N vs) H):Aw P w K mg base (k+1) f ps sp:=
 QE D S bd (λvs H Q E q=>(h vs H Q E q).1) λcdv A outer s H vs Q E hr q=>(h vs H Q E q).2 cdv A outer s hr
end
section
variable{e elt iter:Expr}{t:TA}{pos' p px:Pos}{N:List Str}{sc:Scope}{k k':Nat}{cl:List (Str×Addr)}{fv:List (Nat×Str)}{ifs:List Expr}{wi:TI}
theorem Af(hr:Bn k' X.A)(G:Aw X.prog X.w X.K X.mg X.base k f ps sp)(hm:X.mg x=some (.ref f))(ha:PA X (e::es) t)(hk:k<=k':=by decide)(hg:Gl X x:=by rfl)
  (hdb:(x==("__debug__":Str))=false:=by decide) (he:starEach (e::es) X.env=(false,eval e X.env)::starEach es X.env:=by rfl) (hpl:(backTo pos (starEach es X.env)).any (·.1)=false:=by rfl):
  PE X (.Call (.Name x p) (e::es) [] pos) (Gb sp [] (λ_=>E0) t):=BF G (hr.mono hk) hg hm Qz ha hdb he hpl
theorem AS(i:Nat)(S:AK X.N ps sc)(he:PE X e te)(hi:X.N[i]?=some x:=by rfl)(hx:Qp X.env.scope x:=by first|exact Or.inl rfl|exact Or.inr rfl)(hs:swapsWith e (some (.Name x pos')) pos.line X.env=pure false:=by rfl)
  (hf:X.fn x=true\/X.env.scope.names.lookup x=some .local:=by first|exact .inl rfl|exact .inr rfl|assumption):PS X (.Assign [.Name x pos'] e pos) (Jb te (Cq i)):=GU S.nd hi hx he hs hf
theorem BG(i:Nat)(S:AK X.N ps sc)(hi:X.N[i]?=some x:=by rfl)(hx:Qp X.env.scope x:=by first|exact Or.inl rfl|exact Or.inr rfl)
  (hf:X.fn x=true\/X.env.scope.names.lookup x=some .local:=by first|exact .inl rfl|exact .inr rfl|assumption):PG X (.Name x pos) (Cq i):=Lw S.nd hi hx hf
theorem Ef(fv:List (Nat×Str))(cl:List (Str×Addr))(hi:PI X (.Name x px) iter wi)(hf:∀s H C fp,PF (Hk X s H (compEnvC scope cl C X.env) fp (x::fv.map (·.2))) ifs tt)(he:∀s H C fp,PE (Hk X s H (compEnvC scope cl C X.env) fp (x::fv.map (·.2))) elt te)
  (hclos:closureFor scope X.env=pure cl:=by with_unfolding_all rfl) (hcell:∀y∈scope.names,y.2≠.cell:=by decide +kernel) (hk:scope.kind=.function:=by rfl) (hnames:∀z∈scope.names,z.2=.local->scope.names.lookup z.1=some .local:=by decide +kernel)
  (hx:scope.names.lookup x=some .local:=by rfl) (hcl:Iq X.env cl:=by repeat' first|exact trivial|with_unfolding_all rfl|constructor) (hhas:((relabel scope X.env).names.all λz=>!(z.2==.cell||z.2==.free)||(cl.lookup z.1).isSome)=true:=by with_unfolding_all rfl)
  (hfv:Jt X scope cl fv:=by repeat' first|exact trivial|with_unfolding_all rfl|constructor) (hnd:(x::fv.map (·.2)).Nodup:=by decide) (hc:X.calm=true:=by rfl) (hs:∀x,foldedSetIterable iter X.env x=pure x:=by intro _;rfl):
  PE X (.ListComp elt [⟨.Name x px,iter,ifs,0⟩] scope pos) (ON wi fv tt te):=QI hc hi hclos hcell hk hnames hx hcl hhas hfv hnd hf he hs
end
end L2
namespace PySem
open Sem (wp)
end PySem
namespace L2
open PySem PySem.Spec PyProof.Rows RW
end L2
namespace L2
open PySem PySem.Spec PyProof.Rows
variable{D:Fz}{H:Hp}{X:Cx}{a b:Addr}{ch:List Addr}{elts:List Expr}{h':Heap}{pins:List (Addr×Obj)}{s:Shared}{t':Nat}{ta:TA}{tpos:Pos}{xs ys:List V}{σ:St}
theorem AU.turnedAll(I:AU X pins σ H s)(hf:∀b∈ch,Ew X pins H b)(k:∀b u,b∉ch->s.heap.get? b=some u->h'.get? b=some u):AU X pins σ H {s with heap:=h',toks:=t'}:=by
 have nit:∀b u,H b=some u->b∉ch:=λb u e z=>by rw[(hf b z).1]at e;cases e
 refine I.step (g':=s.gens) (d':=s.drawn) (ch:=ch) (λb hb=>⟨(hf b hb).2.2.2.1,(hf b hb).2.1,(hf b hb).2.2.2.2.1,(hf b hb).2.2.2.2.2⟩) (λb u _ _ hc e _=>k b u hc e) (λb u _ _ hc e _=>⟨u.slots,k b u hc e⟩)
  (λb u _ e n=>n) (λb u hc e=>⟨u,k b u hc e⟩) (λb xs e=>e) (λb u v e=>e) (λb ps e=>⟨#[],by rw[e];simp⟩) (λm hm=>?_) (λb u e=>?_) I.bare
 ·obtain⟨o,es,ep,ho,r⟩:=hm;exact⟨o,es,ep,k _ o (λz=>(hf _ z).2.1 rfl) ho,r⟩
 ·refine (I.hok b u e).stay (λc v hc q=>k c v ?_ q) (λc q=>q) λc xs q=>q
  rcases hc with y|y
  ·rw[y];exact nit b u e
  ·exact nit c _ y
noncomputable def Ub(K:qJ)(a b:Addr):It:=
 ⟨λi H=>∃xs ys x y,Ab K H a xs/\Ab K H b ys/\xs[i]?=some x/\ys[i]?=some y,
   λi H v H'=>∃p x y,v=.ref p/\H p=none/\H'=Ae H p (.tup [x,y])/\(∀xs,Ab K H a xs->xs[i]?=some x)/\∀ys,Ab K H b ys->ys[i]?=some y,
   λi H=>∃xs ys,Ab K H a xs/\Ab K H b ys/\(xs.length<=i\/ys.length<=i)⟩
theorem Og{P:Program}{w:World}{K:qJ}{ctx}(a b z TI TO i1 i2:Addr)(D:ZipApart z TI TO i1 i2 a b):
  GV P w K (.Tuple elts ctx tpos) (Ub K a b) [z,TI,TO,i1,i2] z (λi h=>IsZip h z TI TO .none/\IsPair h TI (.ref i1) (.ref i2)/\(∃p q,IsPair h TO p q)/\h.IsListIter i1 a i/\h.IsListIter i2 b i) where
 mem:=by simp
 obj:=λi h st c hc=>by
  obtain⟨q1,q2,⟨_,_,q3⟩,⟨o1,e1,c1,d1⟩,⟨o2,e2,c2,d2⟩⟩:=st;simp only[List.mem_cons,List.not_mem_nil,or_false]at hc;rcases hc with rfl|rfl|rfl|rfl|rfl
  ·exact⟨_,q1,λv y=>by cases y⟩
  ·exact⟨_,q2,λv y=>by cases y⟩
  ·exact⟨_,q3,λv y=>by cases y⟩
  ·exact⟨o1,e1,λv y=>by rw[d1]at y;cases y⟩
  ·exact⟨o2,e2,λv y=>by rw[d2]at y;cases y⟩
 keep:=λi h h' st k=>by obtain⟨q1,q2,⟨p,q,q3⟩,l1,l2⟩:=st;exact⟨k z (by simp) _ q1,k TI (by simp) _ q2,⟨p,q,k TO (by simp) _ q3⟩,l1.at λo y=>k i1 (by simp) o y,l2.at λo y=>k i2 (by simp) o y⟩
 item:=by
  intro X hP hw hK hc i pins s σ H E I hf st hg;subst hP hw hK;obtain⟨xs,ys,x,y,hq1,hq2,hx,hy⟩:=hg;obtain⟨its1,rv1,p1,_⟩:=I.list hq1;obtain⟨its2,rv2,p2,_⟩:=I.list hq2;obtain⟨u1,hu1,ru1⟩:=rv1.get hx;obtain⟨u2,hu2,ru2⟩:=rv2.get hy;obtain⟨q1,q2,⟨p,q,q3⟩,l1,l2⟩:=st;refine wpAny_pyNext_zip_item D q1 q2 q3 l1 l2 p1.isList p2.isList (x:=u1) (y:=u2) (by simpa using hu1) (by simpa using hu2) λh1 z1 t1 m1 m2 tt hsz k1=>?_;refine⟨_,rfl,wpAny_letOwnedTupleGo_zip z1 λh2 z2 sb=>?_⟩
  have k2:∀c o,c∉[z,TI,TO,i1,i2]->s.heap.get? c=some o->h2.get? c=some o:=λc o hc e=>by
   have n1:c≠z:=λy=>hc (by simp[y])
   exact (sb.2 c n1).trans (k1 c o n1 (λy=>hc (by simp[y])) (λy=>hc (by simp[y])) (λy=>hc (by simp[y])) e)
  have hpz:s.heap.objs.size≠z:=YY (Wz q1);have tt2:IsPair h2 s.heap.objs.size u1 u2:=(sb.2 _ hpz).trans tt;have hn:H s.heap.objs.size=none:=I.hok.fresh (Wv _);have q2':IsPair h2 TI (.ref i1) (.ref i2):=(sb.2 TI D.TIz).trans (k1 TI _ D.TIz D.TITO D.TIi1 D.TIi2 q2);refine⟨.ref s.heap.objs.size,Ae H s.heap.objs.size (.tup [x,y]),I.turnedNew (h':=h2) (t':=s.toks) hf k2 (Wv _) ?_,rfl,⟨_,x,y,rfl,hn,rfl,λys' h=>by rw[I.list_inj h hq1];exact hx,λys' h=>by rw[I.list_inj h hq2];exact hy⟩,⟨z2,q2',⟨u1,u2,(sb.2 TO D.TOz).trans t1⟩,m1.at λo e=>(sb.2 i1 D.i1z).trans e,m2.at λo e=>(sb.2 i2 D.i2z).trans e⟩,λc hc=>?_⟩
  ·exact⟨by show 2<=sizeLine;decide,[u1,u2],.cons ru1 (.cons ru2 .nil),⟨_,tt2,rfl,_,rfl⟩⟩
  ·have c0:=(hf c hc).1;rw[AI λe=>?_]
   ·exact c0
   ·obtain⟨o1,e1,_⟩:=id l1;obtain⟨o2,e2,_⟩:=id l2;have bad:∀{o:Obj},s.heap.get? c=some o->False:=λg=>qG (Wz g) (by rw[e];exact XN _)
    simp only[List.mem_cons,List.not_mem_nil,or_false]at hc;rcases hc with y|y|y|y|y
    ·exact bad (y▸q1)
    ·exact bad (y▸q2)
    ·exact bad (y▸q3)
    ·exact bad (y▸e1)
    ·exact bad (y▸e2)
 done:=by
  intro X hP hw hK hc i pins s σ H E I hf st hg;subst hP hw hK;obtain⟨xs,ys,hq1,hq2,hend⟩:=hg;obtain⟨its1,rv1,p1,_⟩:=I.list hq1;obtain⟨its2,rv2,p2,_⟩:=I.list hq2;obtain⟨q1,q2,⟨p,q,q3⟩,l1,l2⟩:=st;have hl1:=rv1.length;have hl2:=rv2.length;refine wpAny_pyNext_zip_end (I.ok.hd hc) D q1 q2 q3 l1 l2 p1.isList p2.isList (hend.imp (λz=>by simp;lia) λz=>by simp;lia) λh1 k1=>⟨rfl,I.turnedAll (t':=s.toks) hf λc o hc e=>?_⟩
  exact k1 c o (λy=>hc (by simp[y])) (λy=>hc (by simp[y])) (λy=>hc (by simp[y])) (λy=>hc (by simp[y])) e
 self:=λ_ _ _ _ _ st h=>wpAny_pyIter_zip st.1 h
section
variable{ctx}
def WA(K:qJ)(ta:TA):TI:=λσ H R=>ta σ H λvs H1=>∃a b xs ys,vs=[.ref a,.ref b]/\Ab K H1 a xs/\Ab K H1 b ys/\R (Ub K a b) H1
theorem SO{l r:Expr}{p pos:Pos}(hg:Gl X "zip")(hm:X.mg "zip"=none)(ha:PA X [l,r] ta)(hs:starEach [l,r] X.env=[(false,eval l X.env),(false,eval r X.env)]:=by rfl)(hs2:starEach [r] X.env=[(false,eval r X.env)]:=by rfl):PI X (.Tuple elts ctx tpos) (.Call (.Name "zip" p) [l,r] [] pos) (WA X.K ta):=by
 intro pins s σ H R I h;refine Call_ (CP I hg hm boot_zip (Xb (BU (ha pos pins s σ H _ I h) λus s1 ⟨vs,H1,I1,r1,q1⟩=>?_) (by rw[hs,hs2]) (by rw[hs2];rfl)));obtain⟨a,b,xs,ys,e,hq1,hq2,q⟩:=q1;subst e;cases r1 with
 |cons ra rr =>
  cases rr with
  |cons rb rr =>
   cases rr;cases ra;cases rb;obtain⟨its1,rv1,p1,_⟩:=I1.list hq1;obtain⟨its2,rv2,p2,_⟩:=I1.list hq2;have alt:a<s1.heap.objs.size:=by obtain⟨o,e,_⟩:=p1.isList;exact Wz e
   have blt:b<s1.heap.objs.size:=by obtain⟨o,e,_⟩:=p2.isList;exact Wz e
   refine call_zip_2 p1.isList p2.isList λh1 z1 t1 t2 l1 l2 hsz k1=>?_;refine wpAny_pyIter_zip z1 ?_;have fr:∀k:Nat,Ew X pins H1 (s1.heap.objs.size+k):=λk=>I1.fpOk (Yd _ _) (I1.hok.fresh (Yd _ _))
   refine⟨s1.heap.objs.size+4,[s1.heap.objs.size+4,s1.heap.objs.size+2,s1.heap.objs.size+3,s1.heap.objs.size,s1.heap.objs.size+1],_,_,H1,rfl,I1.kept (t':=s1.toks) k1,Og a b _ _ _ _ _ (zipApart_new alt blt),⟨z1,t1,⟨_,_,t2⟩,l1,l2⟩,λc hc=>?_,q⟩;simp only[List.mem_cons,List.not_mem_nil,or_false]at hc;rcases hc with rfl|rfl|rfl|rfl|rfl
   ·exact fr 4
   ·exact fr 2
   ·exact fr 3
   ·exact fr 0
   ·exact fr 1
theorem QU{K:qJ}{g:TG}{tb:TS}(hlen:xs.length=ys.length)(Pv:Nat->St->Hp->Prop)(h0:Pv 0 σ H)(hl:∀i σ H,i<=xs.length->Pv i σ H->Ab K H a xs/\Ab K H b ys)
  (hs:∀i x y p σ H,xs[i]?=some x->ys[i]?=some y->Pv i σ H->H p=none->g (.ref p) σ (Ae H p (.tup [x,y])) λσ2 H2=>tb {D with nx:=Pv (i+1),ct:=Pv (i+1),bk:=D.nx} σ2 H2) (hd:∀σ H,Pv xs.length σ H->D.nx σ H):
  ∃W:Nat->Nat->St->Hp->Prop,(∃m,W 0 m σ H)/\∀i m σ H,W i m σ H ->
   ((Ub K a b).stop i H/\D.nx σ H)\/((Ub K a b).go i H/\∃N:St->Hp->Prop,(∀σ' H',N σ' H'->∃m',m'<m/\W (i+1) m' σ' H')/\∀x H',(Ub K a b).yld i H x H'->g x σ H' λσ2 H2=>tb {D with nx:=N,ct:=N,bk:=D.nx} σ2 H2):=by
 refine⟨λi m σ H=>m=xs.length-i/\i<=xs.length/\Pv i σ H,⟨xs.length,by simp,Nat.zero_le _,h0⟩,?_⟩;rintro i m σ H ⟨rfl,hi,p⟩;obtain⟨q1,q2⟩:=hl i σ H hi p
 by_cases hlt:i<xs.length
 ·refine .inr ⟨⟨xs,ys,xs[i],ys[i],q1,q2,by simp[hlt],by simp[hlen▸hlt]⟩,Pv (i+1),λσ' H' p'=>⟨xs.length-(i+1),by lia,rfl,hlt,p'⟩,λv H' y=>?_⟩;obtain⟨p2,x,y',e1,e2,e3,y1,y2⟩:=y;subst e1 e3;exact hs i x y' p2 σ H (y1 xs q1) (y2 ys q2) p e2
 ·have e:i=xs.length:=by lia
  subst e;exact .inl ⟨⟨xs,ys,q1,q2,.inl (Wv _)⟩,hd σ H p⟩
end
end L2
namespace L2
open PySem PySem.Spec PyProof.Rows RW
variable{M M' m':Nat}{g lo' low':Int}{tab tab':List Int}
theorem NU(x:Int->Int)(lo:Int)(m:Nat):B4 x lo (m+1)=x lo::B4 x (lo+1) m:=by
 unfold B4;rw[List.range_succ_eq_map,Xt,List.map_map]
 congr 1
 ·congr 1;show lo+((0:Nat):Int)=lo;lia
 ·refine YO λj _=>?_;show x (lo+((j+1:Nat):Int))=x (lo+1+(j:Int))
  congr 1;lia
theorem NV(x:Int->Int)(lo:Int)(m:Nat):B4 x lo (m+1)=B4 x lo m++[x (lo+(m:Int))]:=by unfold B4;rw[YE,W3];rfl
theorem Uc(g:Int)(m:Nat):g^(m+1)=g^m*g:=XJ ..
theorem Dn(hg:2<=g){m h:Nat}(hl:(tab.length:Int)=g^(m+1))(hh:(h:Int)=g^m):A5 g tab (g^m)=false↔∀k,k<tab.length->tab.getD k 0=tab.getD (k%h) 0:=by
 have key:∀k:Nat,k<tab.length->((k:Int)-(k:Int)/g^m%g*g^m).toNat=k%h:=λk hk=>by
  have gp:=RW.Ap hg m;rw[<-hh];have k1:(k:Int)<(h:Int)*g:=by rw[hh,<-Uc];lia
  have d1:(k:Int)/(h:Int)<g:=Int.ediv_lt_of_lt_mul (by lia) (by rw[X8];exact k1);have d0:0<=(k:Int)/(h:Int):=YN (by lia) (by lia);rw[YL d0 d1];have e:=Int.emod_def (k:Int) (h:Int);rw[X8 ((k:Int)/(h:Int)) (h:Int),<-e];lia
 constructor
 ·intro hc k hk;have:=Eo hc hk;rw[key k hk]at this;exact this
 ·intro ha;cases z:A5 g tab (g^m) with
  |false=>rfl
  |true =>
   obtain⟨k,hk,ne⟩:=DU.mp z;rw[key k hk]at ne;exact qG (ha k hk) ne
variable{G:Nat}
theorem EU(hG:(G:Int)=g):A5 g tab 1=false↔∀k,k<tab.length->tab.getD k 0=tab.getD (k-k%G) 0:=by
 have key:∀k:Nat,((k:Int)-(k:Int)/1%g*1).toNat=k-k%G:=λk=>by rw[<-hG,Int.ediv_one,Int.mul_one];have:k%G<=k:=Za ..;lia
 constructor
 ·intro hc k hk;have:=Eo hc hk;rw[key k]at this;exact this
 ·intro ha;cases z:A5 g tab 1 with
  |false=>rfl
  |true =>
   obtain⟨k,hk,ne⟩:=DU.mp z;rw[key k]at ne;exact qG (ha k hk) ne
theorem IQ{l:List Int}{n k:Nat}(h:k<n):(l.take n).getD k 0=l.getD k 0:=by rw[Wt,List.getElem?_take,qF h,Wt]
theorem IR(hg:2<=g)(lo:Int){m h:Nat}(hl:(tab.length:Int)=g^(m+1))(hh:(h:Int)=g^m)(ha:∀k,k<tab.length->tab.getD k 0=tab.getD (k%h) 0):Be g (lo+1) (tab.take h) m lo tab (m+1):=by
 intro x hx;unfold JY;have b:=Dj hg (DF hx (lo+1) m);have b2:=Dj hg (DF hx lo (m+1));rw[Bx]at b b2;rw[ha (Bt g (B4 x lo (m+1))).toNat (by lia),IQ (by lia)]
 congr 1
 have e:Bt g (B4 x lo (m+1))=x lo*(h:Int)+Bt g (B4 x (lo+1) m):=by rw[NU,show x lo::B4 x (lo+1) m=[x lo]++B4 x (lo+1) m from rfl,Gi,MS,Bx,hh]
 have m1:Bt g (B4 x lo (m+1))%(h:Int)=Bt g (B4 x (lo+1) m):=by rw[e,Int.add_comm,X8,YR,YL b.1 (by lia)]
 have m2:(((Bt g (B4 x lo (m+1))).toNat%h:Nat):Int)=Bt g (B4 x lo (m+1))%(h:Int):=by rw[Ye,X1 b2.1]
 lia
theorem KH(hg:2<=g)(lo:Int){m h:Nat}(hl:(tab.length:Int)=g^(m+1))(hh:(h:Int)=g^m)(hG:(G:Int)=g)(ha:∀k,k<tab.length->tab.getD k 0=tab.getD (k-k%G) 0):Be g lo ((List.range h).map λi=>tab.getD (i*G) 0) m lo tab (m+1):=by
 intro x hx;unfold JY;have b:=Dj hg (DF hx lo m);have b2:=Dj hg (DF hx lo (m+1));rw[Bx]at b b2;have hxz:=hx (lo+(m:Int));rw[ha (Bt g (B4 x lo (m+1))).toNat (by lia),AT (by lia)]
 congr 1
 have e:Bt g (B4 x lo (m+1))=Bt g (B4 x lo m)*g+x (lo+(m:Int)):=by rw[NV,E6]
 generalize Bt g (B4 x lo m)=n at *;generalize Bt g (B4 x lo (m+1))=n2 at *;generalize x (lo+(m:Int))=y at *;obtain⟨n',rfl⟩:∃n':Nat,n=(n':Int):=⟨n.toNat,by lia⟩;obtain⟨y',rfl⟩:∃y':Nat,y=(y':Int):=⟨y.toNat,by lia⟩;have e2:n2=((n'*G+y':Nat):Int):=by rw[e,<-hG];simp
 rw[e2,XC,XC];have:(n'*G+y')%G=y':=by rw[X4,Nat.mul_add_mod,YJ (by lia)]
 lia
theorem KI{lo:Int}{m:Nat}(hm:1<=m)(c0:A5 g tab (g^(m-1))=true)(c1:A5 g tab 1=true):Dm g lo tab m lo m:=
 ⟨hm,λj hj _=>by lia,.inr ⟨0,m-1,by lia,by lia,by lia,by lia,by rw[ZL];exact c0,by rw[Xx,Xh];exact c1⟩⟩
theorem Oh{lo:Int}(c:A5 g tab 1=false):Dm g lo tab 1 0 1:=
 have f:∀j,j<1->A5 g tab (g^(1-1-j))=false:=λj hj=>by
  have:j=0:=by lia
  subst this;rw[ZL,Xx,Xh];exact c
 ⟨Wv _,λj hj hc=>qG hc (by rw[f j hj];decide),.inl ⟨f,rfl,rfl⟩⟩
theorem Oi(hg:2<=g){lo:Int}{m:Nat}(hl:(tab.length:Int)=g^m)(hl':(tab'.length:Int)=g^m')(al:Be g lo' tab' m' lo tab m)(n':Dm g lo' tab' m' lo' m'){low:Int}(n:Dm g lo tab m low M):low=lo'/\M=m'/\EZ g lo tab m low M=tab':=by obtain⟨e1,e2⟩:=(CH hg hl' hl n' n).mp al;rw[OX hg lo' hl']at e2;refine⟨e1.symm,?_,e2.symm⟩;have a:=BI hg lo tab m low M;rw[<-e2,hl']at a;exact (Cv hg a).symm
theorem QV(hg:2<=g){lo:Int}{m:Nat}(hl:(tab.length:Int)=g^m)(hl':(tab'.length:Int)=g^1)(al:Be g lo' tab' 1 lo tab m)(c:A5 g tab' 1=false){low:Int}(n:Dm g lo tab m low M):low=0/\M=1/\EZ g lo tab m low M=tab':=by
 obtain⟨e1,e2⟩:=(CH hg hl' hl (Oh c) n).mp al;have a:=BI hg lo tab m low M;rw[<-e2,BI hg]at a;have hM:=(Cv hg a).symm;subst hM;refine⟨e1.symm,rfl,?_⟩;rw[<-e2]
 have f:∀j,j<1->A5 g tab' (g^(1-1-j))=false:=λj hj=>by
  have:j=0:=by lia
  subst this;rw[ZL,Xx,Xh];exact c
 have g1:g^1=g:=by rw[XJ,Xh,YC]
 refine Aq (by have:=BI hg lo' tab' 1 0 1;lia) λk hk=>?_;have lk:(k:Int)<g^1:=by have:=BI hg lo' tab' 1 0 1;lia
 rw[OY hg hl' f];obtain⟨G,hG⟩:∃G:Nat,(G:Int)=g:=⟨g.toNat,by lia⟩;have z:=(EU hG).mp c k (by lia);rw[YJ (by lia),Xx]at z;rw[z,Wt,YZ,qF (by lia)];rfl
theorem EV(ns:List Int):∀(q i:Nat),i<q*ns.length->((List.replicate q ns).flatten).getD i 0=ns.getD (i%ns.length) 0
 |0,i,h=>by lia
 |q+1,i,h=>by
  rw[Nat.succ_mul]at h;rw[Xm,YB]
  by_cases c:i<ns.length
  ·rw[YJ c,Wt,Wt,XX c]
  ·rw[Wt,XB (by lia),<-Wt,EV ns q (i-ns.length) (by lia),<-Nat.mod_eq_sub_mod (by lia)]
theorem GH(q:Nat)(ns:List Int):((List.replicate q ns).flatten).length=q*ns.length:=by rw[List.length_flatten,ZA,List.sum_replicate_nat]
theorem IS{h:Nat}(hl:tab.length=h*G)(G1:1<=G):tab=(List.replicate G (tab.take h)).flatten↔∀k,k<tab.length->tab.getD k 0=tab.getD (k%h) 0:=by
 have hG:h<=h*G:=Nat.le_mul_of_pos_right h G1;have tl:(tab.take h).length=h:=by rw[XR];lia
 have key:∀k,k<tab.length->((List.replicate G (tab.take h)).flatten).getD k 0=tab.getD (k%h) 0:=λk hk=>by
  rw[EV _ _ _ (by rw[tl,X4];lia),tl];refine IQ (Zb _ ?_);rcases Yk h with z|z
  ·rw[z,Nat.zero_mul]at hl;lia
  ·exact z
 constructor
 ·intro e k hk;rw[<-key k hk,<-e]
 ·intro a;refine Aq (by rw[GH,tl,X4];exact hl) λk hk=>?_;rw[key k hk];exact a k hk
theorem Gv:tab=(List.range tab.length).map (λk=>tab.getD (k-k%G) 0)↔∀k,k<tab.length->tab.getD k 0=tab.getD (k-k%G) 0:=by
 constructor
 ·intro e k hk;have:tab.getD k 0=((List.range tab.length).map (λk=>tab.getD (k-k%G) 0)).getD k 0:=congrArg (λl=>l.getD k 0) e;rw[this,AT hk]
 ·intro a;refine Aq (by rw[Wq,W8]) λk hk=>?_;rw[AT hk];exact a k hk
theorem KJ{h:Nat}(G1:1<=G)(hl:tab.length=h*G*G)(hu:∀k,k<tab.length->tab.getD k 0=tab.getD (k-k%G) 0)
  (hc:∀i,i<h*G->((List.range (h*G)).map λi=>tab.getD (i*G) 0).getD i 0=((List.range (h*G)).map λi=>tab.getD (i*G) 0).getD (i%h) 0):∀k,k<tab.length->tab.getD k 0=tab.getD (k%(h*G)) 0:=by
 intro k hk;have kl:k/G<h*G:=YV (by rw[X4];lia)
 have h1:1<=h:=by
  rcases Yk h with z|z
  ·rw[z,Nat.zero_mul]at kl;exact qG kl (ZV _)
  ·exact z
 have hb:k/G%h<h:=Zb _ h1;have hh:h<=h*G:=Nat.le_mul_of_pos_right h G1;have a:=hc (k/G) kl;rw[AT kl,AT (by lia)]at a;have e1:k-k%G=k/G*G:=by have:=ZW k G;rw[X4]at this;lia
 have e2:k%(h*G)=k%G+G*(k/G%h):=by rw[X4 h G,Nat.mod_mul]
 have e3:k%(h*G)%G=k%G:=Nat.mod_mul_left_mod ..;have e4:k%(h*G)-k%(h*G)%G=k/G%h*G:=by rw[e3,e2,X4 G];lia
 rw[hu k hk,e1,a,hu (k%(h*G)) (Yj (Za ..) hk),e4]
def Az(g lo:Int)(tab:List Int)(m:Nat)(lf:Int)(tf:List Int)(mf:Nat):Prop:=∃(low:Int) (M:Nat),Dm g lo tab m low M/\lf=low/\((M=1/\mf=2/\tf=EZ g low (EZ g lo tab m low 1) 1 low 2)\/(2<=M/\mf=M/\tf=EZ g lo tab m low M))
theorem KL(hg:2<=g){lo:Int}{m:Nat}(hl:(tab.length:Int)=g^m){low:Int}(n:Dm g lo tab m low M)(n':Dm g lo tab m low' M'):low=low'/\M=M':=by
 obtain⟨e1,e2⟩:=(CH hg hl hl n n').mp λ_ _=>rfl
 refine⟨e1,?_⟩;have a:=BI hg lo tab m low M;rw[e2,BI hg]at a;exact (Cv hg a).symm
theorem Fa(g lo:Int)(tab:List Int)(m:Nat):∃low M,Dm g lo tab m low M:=by
 by_cases hc:Bg g lo tab m=[]
 ·exact⟨0,1,KB hc⟩
 ·obtain⟨M,_,_,hW⟩:=IL hc;exact⟨_,M,hW⟩
theorem Gw(hg:2<=g){lo:Int}{m:Nat}(hl:(tab.length:Int)=g^m)(hl':(tab'.length:Int)=g^m')(al:Be g lo' tab' m' lo tab m)(h2:2<=m')(c0:A5 g tab' (g^(m'-1))=true)(c1:A5 g tab' 1=true):Az g lo tab m lo' tab' m':=by obtain⟨low,M,n⟩:=Fa g lo tab m;obtain⟨rfl,rfl,e⟩:=Oi hg hl hl' al (KI (by lia) c0 c1) n;exact⟨_,_,n,rfl,.inr ⟨h2,rfl,e.symm⟩⟩
theorem NW(hg:2<=g){lo:Int}{m:Nat}(hl:(tab.length:Int)=g^m)(hl':(tab'.length:Int)=g^1)(al:Be g lo' tab' 1 lo tab m)(c1:A5 g tab' 1=true):Az g lo tab m lo' (EZ g lo' tab' 1 lo' 2) 2:=by obtain⟨low,M,n⟩:=Fa g lo tab m;obtain⟨rfl,rfl,e⟩:=Oi hg hl hl' al (KI (Wv _) (by rw[Xx,Xh];exact c1) c1) n;exact⟨_,_,n,rfl,.inl ⟨rfl,rfl,by rw[e]⟩⟩
theorem Lc(hg:2<=g){lo:Int}{m:Nat}(hl:(tab.length:Int)=g^m)(hl':(tab'.length:Int)=g^1)(al:Be g lo' tab' 1 lo tab m)(c1:A5 g tab' 1=false):Az g lo tab m 0 (EZ g 0 tab' 1 0 2) 2:=by obtain⟨low,M,n⟩:=Fa g lo tab m;obtain⟨rfl,rfl,e⟩:=QV hg hl hl' al c1 n;exact⟨_,_,n,rfl,.inl ⟨rfl,rfl,by rw[e]⟩⟩
theorem SQ(hg:2<=g)(hG:(G:Int)=g)(x:Int)(T:List Int):EZ g x T 1 x 2=(List.range (G*G)).map λk=>T.getD (k/G) 0:=by
 have g22:g^2=((G*G:Nat):Int):=by rw[show (2:Nat)=0+1+1 from rfl,XJ,XJ,Xh,YC,<-hG,YF]
 have hL:=BI hg x T 1 x 2;refine Aq (by rw[Wq,W8];lia) λk hk=>?_;have hk2:k<G*G:=by lia
 rw[AT hk2];unfold EZ;rw[AT (by lia)]
 congr 1
 have e:LS (Cr g (k:Int) 2) (x-x) 1=[((k/G:Nat):Int)]:=by obtain⟨a,b,hw,ha,hb⟩:∃a b:Int,Cr g (k:Int) 2=[a,b]/\a=(k:Int)/g%g/\b=(k:Int)%g:=⟨_,_,rfl,rfl,rfl⟩;rw[hw];show[sn [a,b] (x-x+((0:Nat):Int))]=_;rw[show x-x+((0:Nat):Int)=0 by lia];show[a]=_;rw[ha,<-hG,<-X9,<-Ye,YJ (YV hk2)]
 rw[e,MS,XC]
variable{lf:Int}{tf:List Int}{mf:Nat}
theorem Az.two{lo:Int}{m:Nat}(h:Az g lo tab m lf tf mf):2<=mf:=by
 obtain⟨low,M,_,_,z|z⟩:=h
 ·lia
 ·lia
inductive GI(CT:Addr)(vs:List V)(H:Hp)(Q:VK)(E:XK):Prop
 |m (r:Addr) (g lo:Int) (tab:List Int) (m:Nat) (lf:Int) (tf:List Int) (mf:Nat):vs=[.ref r]->Ay H r g lo tab m->Az g lo tab m lf tf mf->(g^(mf-1)<=9->∀r' H',AG H H'->Ay H' r' g lf tf mf->Q (.ref r') H')->(9<g^(mf-1)->∀H',AG H H'->E (.ref CT) none H')->GI CT vs H Q E
inductive JF(CT:Addr)(vs:List V)(H:Hp)(Q:VK)(E:XK):Prop
 |m (r:Addr) (g lo:Int) (tab:List Int) (m:Nat) (lf:Int) (tf:List Int) (mf:Nat):vs=[.ref r]->Ay H r g lo tab m->Az g lo tab m lf tf mf->(g^(mf-1)<=9->∀H',AG H H'->Q (.int (g^(mf-1))) H')->(9<g^(mf-1)->∀H',AG H H'->E (.ref CT) none H')->JF CT vs H Q E
inductive GJ(CT:Addr)(vs:List V)(H:Hp)(Q:VK)(E:XK):Prop
 |m (r:Addr) (g lo:Int) (tab:List Int) (m:Nat) (lf:Int) (tf:List Int) (mf:Nat):vs=[.ref r]->Ay H r g lo tab m->Az g lo tab m lf tf mf->(g^(mf-1)<=9->∀H',AG H H'->Q (.int (2^(g^(mf-1)).toNat-1)) H')->(9<g^(mf-1)->∀H',AG H H'->E (.ref CT) none H')->GJ CT vs H Q E
structure Ea(g lo:Int)(tab:List Int)(m:Nat)(lo':Int)(tab':List Int)(m':Nat):Prop where
 m1:1<=m'
 le:m'<=m
 len:(tab'.length:Int)=g^m'
 tb:∀n∈tab',0<=n/\n<g
 al:Be g lo' tab' m' lo tab m
section
variable(g2:2<=g){lo:Int}{m:Nat}(c:Ea g lo tab m lo' tab' m')
include g2 c
theorem Ea.half:((tab'.length/g.toNat:Nat):Int)=g^(m'-1)/\tab'.length=tab'.length/g.toNat*g.toNat:=C4 g2 c.len c.m1
theorem Ea.first(h2:2<=m')(e:tab'=(List.replicate g.toNat (tab'.take (tab'.length/g.toNat))).flatten):Ea g lo tab m (lo'+1) (tab'.take (tab'.length/g.toNat)) (m'-1):=by have hh:=c.half g2;have gl:=(IS hh.2 (by lia)).mp e;obtain⟨k,rfl⟩:∃k,m'=k+1:=⟨m'-1,by lia⟩;rw[Y9]at hh;have cf:=IR g2 lo' c.len hh.1 gl;refine⟨by lia,by have:=c.le;lia,?_,λn hn=>c.tb n (Yw hn),λx hx=>(cf x hx).trans (c.al x hx)⟩;rw[XR,Y8 (ZX ..)];exact hh.1
theorem Ea.first_counts(e:¬tab'=(List.replicate g.toNat (tab'.take (tab'.length/g.toNat))).flatten):A5 g tab' (g^(m'-1))=true:=by
 have hh:=c.half g2;have m1:=c.m1;have hl:=c.len;obtain⟨k,rfl⟩:∃k,m'=k+1:=⟨m'-1,by lia⟩;cases z:A5 g tab' (g^(k+1-1)) with
 |true=>rfl
 |false=>exact qG ((IS hh.2 (by lia)).mpr ((Dn g2 hl hh.1).mp z)) e
theorem Ea.last(h2:2<=m')(e:tab'=(List.range tab'.length).map λk=>tab'.getD (k-k%g.toNat) 0):Ea g lo tab m lo' ((List.range (tab'.length/g.toNat)).map λi=>tab'.getD (i*g.toNat) 0) (m'-1):=by
 have hh:=c.half g2;have gl:=Gv.mp e;obtain⟨k,rfl⟩:∃k,m'=k+1:=⟨m'-1,by lia⟩;rw[Y9]at hh;have cf:=KH g2 lo' c.len hh.1 (show ((g.toNat:Nat):Int)=g by lia) gl;refine⟨by lia,by have:=c.le;lia,?_,λn hn=>?_,λx hx=>(cf x hx).trans (c.al x hx)⟩
 ·rw[Wq,W8];exact hh.1
 ·obtain⟨i,hi,rfl⟩:=XT.mp hn;exact DE g2 c.tb _
theorem Ea.last_counts(e:¬tab'=(List.range tab'.length).map λk=>tab'.getD (k-k%g.toNat) 0):A5 g tab' 1=true:=by
 cases z:A5 g tab' 1 with
 |true=>rfl
 |false=>exact qG (Gv.mpr ((EU (show ((g.toNat:Nat):Int)=g by lia)).mp z)) e
theorem Ea.stays(h2:3<=m')(e:tab'=(List.range tab'.length).map λk=>tab'.getD (k-k%g.toNat) 0)(h:A5 g tab' (g^(m'-1))=true):A5 g ((List.range (tab'.length/g.toNat)).map λi=>tab'.getD (i*g.toNat) 0) (g^(m'-1-1))=true:=by
 have d:=c.last g2 (by lia) e;have hh:=c.half g2;have hd:=d.half g2;have G1:1<=g.toNat:=by lia
 rw[Wq,W8]at hd;obtain⟨H,hH⟩:∃H,H=tab'.length/g.toNat/g.toNat:=⟨_,rfl⟩;rw[<-hH]at hd;cases z:A5 g ((List.range (tab'.length/g.toNat)).map λi=>tab'.getD (i*g.toNat) 0) (g^(m'-1-1)) with
 |true=>rfl
 |false =>
  exfalso;have dl:=d.len;obtain⟨k,rfl⟩:∃k,m'=k+1+1:=⟨m'-2,by lia⟩;have q:=(Dn g2 (m:=k) (h:=H) dl hd.1).mp z;rw[Wq,W8,hd.2]at q;have s:=KJ G1 (by rw[<-hd.2];exact hh.2) (Gv.mp e) q;rw[<-hd.2]at s;have f:=(Dn g2 c.len hh.1).mpr s;have h':A5 g tab' (g^(k+1))=true:=h;rw[f]at h';cases h'
theorem Ea.frame(hl:(tab.length:Int)=g^m)(h2:2<=m')(c0:A5 g tab' (g^(m'-1))=true)(c1:A5 g tab' 1=true):Az g lo tab m lo' tab' m':=Gw g2 hl c.len c.al h2 c0 c1
theorem Ea.frame1(hl:(tab.length:Int)=g^m)(h1:m'=1)(x:Int)(e:tab'=List.replicate g.toNat (tab'.getD 0 0)->x=0)(ne:¬tab'=List.replicate g.toNat (tab'.getD 0 0)->x=lo'):Az g lo tab m x ((List.range (g.toNat*g.toNat)).map λk=>tab'.getD (k/g.toNat) 0) 2:=by
 subst h1;have gn:((g.toNat:Nat):Int)=g:=by lia
 have g1:g^1=g:=by rw[XJ,Xh,YC]
 have hl':=c.len
 have key:tab'=List.replicate g.toNat (tab'.getD 0 0)↔A5 g tab' 1=false:=by
  rw[EU gn];constructor
  ·intro y k hk;obtain⟨v,hv⟩:∃v,v=tab'.getD 0 0:=⟨_,rfl⟩;rw[<-hv]at y;rw[YJ (by lia),Xx,<-hv,y,Wt,YZ,qF (by lia)];rfl
  ·intro y;refine Aq (by rw[List.length_replicate];lia) λk hk=>?_;have z:=y k hk;rw[YJ (by lia),Xx]at z;rw[z,Wt,Wt,YZ,qF (by lia)];rfl
 rw[<-SQ g2 gn x tab'];cases z:A5 g tab' 1 with
 |false=>rw[e (key.mpr z)];exact Lc g2 hl c.len c.al z
 |true =>
  rw[ne (λy=>by rw[key.mp y]at z;cases z)];exact NW g2 hl c.len c.al z
end
theorem QW(g2:2<=g){n h:Nat}(hn:n=h*g.toNat)(h1:1<=h):Ph 0 (n:Int) g=h:=by
 have e:(n:Int)=(h:Int)*g:=by rw[hn,YF,show ((g.toNat:Nat):Int)=g by lia]
 have k:(h:Int)*g=g*((h:Int)-1)+g:=by rw[Int.mul_sub,Int.mul_one,X8];lia
 have p:0<=g*((h:Int)-1):=Int.mul_nonneg (by lia) (by lia);unfold Ph;rw[qF (by lia),show (n:Int)-0-1=g-1+g*((h:Int)-1) by lia,ZM _ _ (by lia),Yg (by lia) (by lia)];lia
theorem Az.le(hg:2<=g){lo:Int}{m:Nat}(fw:Az g lo tab m lf tf mf)(hl:(tab.length:Int)=g^m)(hl':(tab'.length:Int)=g^m')(al:Be g lo tab m lo' tab' m'):mf<=max 2 m':=by
 obtain⟨low,M,n,rfl,z⟩:=fw;obtain⟨low',M',n'⟩:=Fa g lo' tab' m';obtain⟨e1,e2⟩:=(CH hg hl hl' n n').mp al;have a:=BI hg lo tab m lf M;rw[e2,BI hg]at a;have eM:=Cv hg a
 have:M'<=max 1 m':=by rcases n'.ends with⟨_,_,y⟩|⟨j0,j1,_,_,_,_,_,_⟩<;>lia
 rcases z with z|z<;>lia
theorem KM(hg:2<=g)(lo:Int){m:Nat}:∃lf tf mf,Az g lo tab m lf tf mf:=by
 obtain⟨low,M,n⟩:=Fa g lo tab m;have:=n.one
 by_cases z:M=1
 ·subst z;exact⟨_,_,_,low,1,n,rfl,.inl ⟨rfl,rfl,rfl⟩⟩
 ·exact⟨_,_,_,low,M,n,rfl,.inr ⟨by lia,rfl,rfl⟩⟩
end L2
namespace L2
end L2
namespace L2
open PySem PySem.Spec PyProof.Rows RW
variable{D:Fz}{G M M' i m' mf:Nat}{H H':Hp}{X:Cx}{es:List Expr}{g lf lo' low':Int}{p:Addr}{tab tab' tf:List Int}{te:TE}{σ:St}
theorem KN(hg:2<=g){lo:Int}{m:Nat}(hl:(tab.length:Int)=g^m)(hl':(tab'.length:Int)=g^m')(al:Be g lo tab m lo' tab' m'){low:Int}(n:Dm g lo tab m low M)(n':Dm g lo' tab' m' low' M'):low=low'/\M=M'/\EZ g lo tab m low M=EZ g lo' tab' m' low' M':=by obtain⟨e1,e2⟩:=(CH hg hl hl' n n').mp al;have a:=BI hg lo tab m low M;rw[e2,BI hg]at a;exact⟨e1,(Cv hg a).symm,e2⟩
theorem KO(hg:2<=g){lo:Int}{m:Nat}(hl:(tab.length:Int)=g^m){low:Int}(n:Dm g lo tab m low M):Be g low (EZ g lo tab m low M) M lo tab m:=λx hx=>ES hg hl n.all hx
theorem Az.alike(hg:2<=g){lo:Int}{m:Nat}(hl:(tab.length:Int)=g^m)(fw:Az g lo tab m lf tf mf):Be g lf tf mf lo tab m/\(tf.length:Int)=g^mf:=by
 obtain⟨low,M,n,rfl,⟨rfl,rfl,rfl⟩|⟨h2,rfl,rfl⟩⟩:=fw
 ·refine⟨λx hx=>?_,BI hg ..⟩;rw[Oa hg (BI hg ..) (X0 _) (by lia) hx];exact KO hg hl n x hx
 ·exact⟨KO hg hl n,BI hg ..⟩
theorem Ld(hg:2<=g){lo:Int}{m:Nat}(hl:(tab.length:Int)=g^m){lo0:Int}{tab0:List Int}{m0:Nat}(hl0:(tab0.length:Int)=g^m0)(al:Be g lo tab m lo0 tab0 m0)(fw:Az g lo0 tab0 m0 lf tf mf):Az g lo tab m lf tf mf:=by
 obtain⟨low0,M0,n0,rfl,z⟩:=fw;obtain⟨low,M,n⟩:=Fa g lo tab m;obtain⟨rfl,rfl,e⟩:=KN hg hl hl0 al n n0;refine⟨_,_,n,rfl,?_⟩;rcases z with⟨rfl,rfl,rfl⟩|⟨h2,rfl,rfl⟩
 ·exact .inl ⟨rfl,rfl,by rw[e]⟩
 ·exact .inr ⟨h2,rfl,e.symm⟩
theorem KP(hg:2<=g){lo:Int}{m:Nat}(hl:(tab.length:Int)=g^m)(fw:Az g lo tab m lf tf mf):Az g lf tf mf lf tf mf:=by obtain⟨al,tfl⟩:=fw.alike hg hl;exact Ld hg tfl hl al fw
theorem DJ(hg:2<=g){lo:Int}{m:Nat}(hl:(tab.length:Int)=g^m)(fw:Az g lo tab m lf tf mf):((tf.length/g.toNat:Nat):Int)=g^(mf-1)/\tf.length=tf.length/g.toNat*g.toNat:=by obtain⟨_,tfl⟩:=fw.alike hg hl;have h2:=fw.two;have hd:=C4 hg tfl (show 1<=mf by lia);lia
theorem Oj(g2:2<=g)(g6:g<=6)(c:Int):∃m:Nat,Ia [V.int (5+c%4),V.int (4+c%2),V.int (3+c%2),V.int 3,V.int 3] (g-2)=some (V.int ((m:Nat):Int))/\3<=m/\m<=8/\g^m<=256/\9<g^(m-1):=by
 obtain rfl|rfl|rfl|rfl|rfl:g=2\/g=3\/g=4\/g=5\/g=6:=by lia
 ·obtain z|z|z|z:c%4=0\/c%4=1\/c%4=2\/c%4=3:=by lia
  ·exact⟨5,by rw[z];rfl,by decide,by decide,by decide,by decide⟩
  ·exact⟨6,by rw[z];rfl,by decide,by decide,by decide,by decide⟩
  ·exact⟨7,by rw[z];rfl,by decide,by decide,by decide,by decide⟩
  ·exact⟨8,by rw[z];rfl,by decide,by decide,by decide,by decide⟩
 ·obtain z|z:c%2=0\/c%2=1:=by lia
  ·exact⟨4,by rw[z];rfl,by decide,by decide,by decide,by decide⟩
  ·exact⟨5,by rw[z];rfl,by decide,by decide,by decide,by decide⟩
 ·obtain z|z:c%2=0\/c%2=1:=by lia
  ·exact⟨3,by rw[z];rfl,by decide,by decide,by decide,by decide⟩
  ·exact⟨4,by rw[z];rfl,by decide,by decide,by decide,by decide⟩
 ·exact⟨3,rfl,by decide,by decide,by decide,by decide⟩
 ·exact⟨3,rfl,by decide,by decide,by decide,by decide⟩
noncomputable def Bf(g:Int)(m:Nat):List Int:=(List.range (g^m).toNat).map λk:Nat=>((k/(g^(m-1)).toNat+k:Nat):Int)%g
theorem KQ(g2:2<=g)(lo:Int){m:Nat}(m2:2<=m):((Bf g m).length:Int)=g^m/\Az g lo (Bf g m) m lo (Bf g m) m:=by
 have gp:=RW.Ap g2 m;have pp:=RW.Ap g2 (m-1);have gg:g^m=g^(m-1)*g:=by rw[<-XJ,show (m-1).succ=m by lia]
 have pg:g<=g^(m-1):=by have:=Bo g2 (show 1<=m-1 by lia);rw[XJ,Xh,YC]at this;exact this
 have p2:g^(m-1)*2<=g^m:=by rw[gg];exact Xp g2 (XQ pp)
 have hl:((Bf g m).length:Int)=g^m:=by unfold Bf;rw[List.length_map,List.length_range];lia
 have at':∀k:Nat,(k:Int)<g^m->(Bf g m).getD k 0=((k/(g^(m-1)).toNat+k:Nat):Int)%g:=λk hk=>by unfold Bf;rw[AT (by lia)]
 have P0:0<(g^(m-1)).toNat:=by lia
 have t0:(Bf g m).getD 0 0=0:=by rw[at' 0 (by lia),Nat.zero_div];rfl
 have t1:(Bf g m).getD 1 0=1:=by rw[at' 1 (by lia),Nat.div_eq_of_lt (by lia)];exact YL (by decide) (by lia)
 have tP:(Bf g m).getD (g^(m-1)).toNat 0=1:=by
  rw[at' _ (by lia),Nat.div_self P0,Int.natCast_add,X1 (by lia)];have e:g^(m-1)=g*g^(m-2):=by rw[X8,<-XJ,show (m-2).succ=m-1 by lia]
  rw[e,YR];exact YL (by decide) (by lia)
 have c0:A5 g (Bf g m) (g^(m-1))=true:=by
  cases z:A5 g (Bf g m) (g^(m-1)) with
  |true=>rfl
  |false =>
   have y:=(Dn g2 (m:=m-1) (h:=(g^(m-1)).toNat) (by rw[hl,show m-1+1=m by lia]) (by lia)).mp z (g^(m-1)).toNat (by lia);rw[Nat.mod_self,tP,t0]at y;cases y
 have c1:A5 g (Bf g m) 1=true:=by
  cases z:A5 g (Bf g m) 1 with
  |true=>rfl
  |false =>
   have y:=(EU (show ((g.toNat:Nat):Int)=g by lia)).mp z 1 (by lia);rw[YJ (by lia),Xx,t1,t0]at y;cases y
 exact⟨hl,Gw g2 hl hl (λ_ _=>rfl) m2 c0 c1⟩
theorem Gx(g2:2<=g){lo:Int}{m:Nat}(hl:(tab.length:Int)=g^m){lf':Int}{tf':List Int}{mf':Nat}(fw:Az g lo tab m lf tf mf)(fw':Az g lo tab m lf' tf' mf'):mf=mf'/\tf=tf':=by
 obtain⟨low,M,n,_,h⟩:=fw;obtain⟨low',M',n',_,h'⟩:=fw';obtain⟨rfl,rfl⟩:=KL g2 hl n n';rcases h with⟨a,b,c⟩|⟨a,b,c⟩
 ·rcases h' with⟨a',b',c'⟩|⟨a',b',c'⟩
  ·exact⟨by lia,by rw[c,c']⟩
  ·lia
 ·rcases h' with⟨a',b',c'⟩|⟨a',b',c'⟩
  ·lia
  ·exact⟨by lia,by rw[c,c']⟩
noncomputable def Bh:Nat->(Nat->Bool)->Int
 |0,_=>0
 |n+1,f=>(if f 0=true then 1 else 0)+2*Bh n λi=>f (i+1)
theorem GK(n:Nat):∀f:Nat->Bool,0<=Bh n f/\Bh n f<2^n:=by
 induction n with
 |zero=>intro f;exact⟨X0 _,by rw[Xh];exact Int.one_pos⟩
 |succ n ih =>
  intro f;have:=ih λi=>f (i+1)
  rw[XJ];show 0<=(if f 0=true then (1:Int) else 0)+2*Bh n _/\(if f 0=true then (1:Int) else 0)+2*Bh n _<_
  split<;>lia
theorem Do{n:Nat}:∀{f h:Nat->Bool},(∀i,i<n->f i=h i)->Bh n f=Bh n h:=by
 induction n with
 |zero=>intro f h _;rfl
 |succ n ih =>
  intro f h e;show (if f 0=true then (1:Int) else 0)+2*Bh n _=(if h 0=true then (1:Int) else 0)+2*Bh n _;rw[e 0 (by lia),ih λi hi=>e (i+1) (by lia)]
theorem IT(n:Nat)(f:Nat->Bool):Bh (n+1) f/2=Bh n (λi=>f (i+1))/\Bh (n+1) f%2=if f 0=true then 1 else 0:=by
 have e:Bh (n+1) f=(if f 0=true then (1:Int) else 0)+2*Bh n λi=>f (i+1):=rfl
 rw[e]
 split<;>lia
theorem Fb(n:Nat):Bh n (λ_=>false)=0:=by
 induction n with
 |zero=>rfl
 |succ n ih=>show (if false=true then (1:Int) else 0)+2*Bh n (λ_=>false)=0;rw[ih];rfl
theorem Ol(n:Nat):Bh n (λ_=>true)=2^n-1:=by
 induction n with
 |zero=>rfl
 |succ n ih=>show (if true=true then (1:Int) else 0)+2*Bh n (λ_=>true)=_;rw[ih,qF rfl,XJ];lia
theorem Om{n:Nat}:∀{i:Nat},i<n->Bh n (λj=>decide (j=i))=2^i:=by
 induction n with
 |zero=>intro i h;lia
 |succ n ih =>
  intro i h;show (if decide (0=i)=true then (1:Int) else 0)+2*Bh n (λj=>decide (j+1=i))=_;cases i with
  |zero =>
   rw[show (λj:Nat=>decide (j+1=0))=λ_=>false from funext λj=>qI (by lia),Fb];rfl
  |succ i =>
   rw[show (λj:Nat=>decide (j+1=i+1))=λj=>decide (j=i) from funext λj=>by simp,ih (by lia),Int.pow_succ,qE (by simp)];lia
theorem Gy{x y:Int}(hx:0<=x)(hy:0<=y):Builtin.bitAnd x y=2*Builtin.bitAnd (x/2) (y/2)+(if x%2=1/\y%2=1 then 1 else 0):=by
 obtain⟨a,rfl⟩:∃a:Nat,x=(a:Int):=⟨x.toNat,by lia⟩;obtain⟨b,rfl⟩:∃b:Nat,y=(b:Int):=⟨y.toNat,by lia⟩;rw[bitAnd_pp hx hy,bitAnd_pp (by lia) (by lia)];rw[show ((a:Int)/2).toNat=a/2 by lia,show ((b:Int)/2).toNat=b/2 by lia,XC,XC];have h1:(a &&& b)/2=a/2 &&& b/2:=Nat.and_div_two;have h2:(a &&& b)%2=1↔a%2=1/\b%2=1:=Nat.and_mod_two_eq_one;rw[<-h1]
 by_cases c:a%2=1/\b%2=1
 ·have:=h2.mpr c;rw[qF (by lia)];lia
 ·have:¬(a &&& b)%2=1:=λz=>c (h2.mp z)
  rw[qE (by lia)];lia
theorem NX{x y:Int}(hx:0<=x)(hy:0<=y):Builtin.bitOr x y=2*Builtin.bitOr (x/2) (y/2)+(if x%2=1\/y%2=1 then 1 else 0):=by
 rw[bitOr_and,bitOr_and,Gy hx hy]
 by_cases a:x%2=1
 ·by_cases b:y%2=1
  ·rw[qF ⟨a,b⟩,qF (.inl a)];lia
  ·rw[qE (λz=>b z.2),qF (.inl a)];lia
 ·by_cases b:y%2=1
  ·rw[qE (λz=>a z.1),qF (.inr b)];lia
  ·rw[qE (λz=>a z.1),qE (λz=>z.elim a b)];lia
theorem MV(n:Nat):∀f h:Nat->Bool,Builtin.bitOr (Bh n f) (Bh n h)=Bh n λi=>f i||h i:=by
 induction n with
 |zero=>intro f h;show Builtin.bitOr 0 0=0;decide
 |succ n ih =>
  intro f h;obtain⟨a1,a2⟩:=IT n f;obtain⟨b1,b2⟩:=IT n h;rw[NX (GK _ _).1 (GK _ _).1,a1,b1,ih,a2,b2];show _=(if (f 0||h 0)=true then (1:Int) else 0)+2*Bh n _;cases f 0<;>cases h 0<;>simp<;>lia
theorem QX{x:Int}(hx:0<=x):Builtin.bitAnd x 1=x%2:=by
 rw[Gy hx (by decide),show (1:Int)/2=0 from rfl,bitAnd_zero]
 by_cases a:x%2=1
 ·rw[qF ⟨a,rfl⟩];lia
 ·rw[qE (λz=>a z.1)];lia
theorem On:∀l:List Int,(∀n∈l,n=0\/n=1)->Bt 2 l.reverse=Bh l.length λi=>decide (l.getD i 0=1):=by
 intro l
 induction l with
 |nil=>intro _;rfl
 |cons a t ih =>
  intro h;rw[ZI,E6,ih λn hn=>h n (XD _ hn)];show _=(if decide ((a::t).getD 0 0=1)=true then (1:Int) else 0)+2*Bh t.length λi=>decide ((a::t).getD (i+1) 0=1)
  have e:(λi:Nat=>decide ((a::t).getD (i+1) 0=1))=λi=>decide (t.getD i 0=1):=funext λi=>by rw[List.getD_cons_succ]
  rw[e,List.getD_cons_zero];rcases h a W7 with z|z
  ·rw[z];simp;lia
  ·rw[z];simp;lia
noncomputable def Er(h:Nat)(ks:List Nat)(e:Nat):Bool:=ks.any λk=>k%h==e
theorem NY(h:Nat)(ks:List Nat)(k e:Nat):Er h (ks++[k]) e=(Er h ks e||decide (e=k%h)):=by
 unfold Er;rw[ZY]
 congr 1
 rw[Yq,List.any_nil,Yr]
 by_cases z:k%h=e
 ·rw[z,qH rfl];exact beq_self_eq_true e
 ·rw[qI (λy=>z y.symm)];exact beq_eq_false_iff_ne.mpr z
theorem Oo{h:Nat}(h1:1<=h)(ks:List Nat)(k:Nat):Builtin.bitOr (Bh h (Er h ks)) (2^(k%h))=Bh h (Er h (ks++[k])):=by rw[<-Om (Zb k h1),MV];exact Do λi _=>(NY h ks k i).symm
theorem KR{k:Nat}{s:Int}:k∈Fp G tab i s↔∃j,j<G/\tab.getD (i*G+j) 0=s/\k=i*G+j:=by
 unfold Fp;rw[XT];constructor
 ·rintro⟨j,hj,rfl⟩;have z:=YX.mp hj;exact⟨j,Xv.mp z.1,of_decide_eq_true z.2,rfl⟩
 ·rintro⟨j,hj,hs,rfl⟩;exact⟨j,YX.mpr ⟨Xv.mpr hj,qH hs⟩,rfl⟩
noncomputable def Dx(G:Nat)(tab:List Int)(h:Nat)(x s:Int)(n e:Nat):Bool:=(List.range n).any λi=>decide (x/2^i%2=1)&&Er h (Fp G tab i s) e
theorem QY{h:Nat}{x s:Int}{n:Nat}(z:x/2^n%2=1):Builtin.bitOr (Bh h (Dx G tab h x s n)) (Bh h (Er h (Fp G tab n s)))=Bh h (Dx G tab h x s (n+1)):=by rw[MV];refine Do λi _=>?_;unfold Dx;rw[YE,ZY,Yq,List.any_nil,Yr,qH z,Bool.true_and]
theorem Op{h:Nat}{x s:Int}{n:Nat}(z:¬x/2^n%2=1):Bh h (Dx G tab h x s n)=Bh h (Dx G tab h x s (n+1)):=by refine Do λi _=>?_;unfold Dx;rw[YE,ZY,Yq,List.any_nil,Yr,qI z,Bool.false_and,Yr]
noncomputable def KS(G:Nat)(tab:List Int)(h:Nat)(x s:Int)(n e:Nat):Bool:=(List.range n).any λk=>decide (tab.getD k 0=s/\x/2^(k/G)%2=1/\k%h=e)
noncomputable def DA(G:Nat)(tab:List Int)(h:Nat)(x s:Int)(n:Nat):List Int:=(List.range h).map λe=>if KS G tab h x s n e=true then 1 else 0
theorem DW(G:Nat)(tab:List Int)(h:Nat)(x s:Int)(n:Nat):(DA G tab h x s n).length=h:=by unfold DA;rw[List.length_map,List.length_range]
theorem IU(G:Nat)(tab:List Int)(h:Nat)(x s:Int)(n e:Nat):KS G tab h x s (n+1) e=(KS G tab h x s n e||decide (tab.getD n 0=s/\x/2^(n/G)%2=1/\n%h=e)):=by unfold KS;rw[YE,ZY,Yq,List.any_nil,Yr]
theorem NZ(G:Nat)(tab:List Int)(h:Nat)(x s:Int):DA G tab h x s 0=List.replicate h 0:=by unfold DA;rw[List.eq_replicate_iff];refine⟨by rw[Wq,W8],λb hb=>?_⟩;obtain⟨e,_,rfl⟩:=XT.mp hb;rfl
theorem QZ{h:Nat}(h1:1<=h){x s:Int}{n:Nat}(z:tab.getD n 0=s)(y:x/2^(n/G)%2=1):(DA G tab h x s n).set (n%h) 1=DA G tab h x s (n+1):=by
 refine Aq (by rw[YM,DW,DW]) λk hk=>?_;rw[YM,DW]at hk;have e:(DA G tab h x s (n+1)).getD k 0=if KS G tab h x s (n+1) k=true then 1 else 0:=by unfold DA;rw[AT hk]
 rw[e,IU];rw[Wt,List.getElem?_set]
 by_cases c:n%h=k
 ·rw[qF c,qF (by rw[DW];lia),qH ⟨z,y,c⟩,Bool.or_true,qF rfl];rfl
 ·rw[qE c,qI (λw=>c w.2.2),Yr,<-Wt];unfold DA;rw[AT hk]
theorem KU{h:Nat}{x s:Int}{n:Nat}(z:¬(tab.getD n 0=s/\x/2^(n/G)%2=1)):DA G tab h x s n=DA G tab h x s (n+1):=by unfold DA;refine YO λe _=>?_;rw[IU,qI (λw=>z ⟨w.1,w.2.1⟩),Yr]
theorem SR(G1:1<=G)(tab:List Int)(h:Nat)(x s:Int)(e:Nat):KS G tab h x s (h*G) e=Dx G tab h x s h e:=by
 unfold KS Dx Er;rw[Y6,Yc,Yc];constructor
 ·rintro⟨k,hk,z⟩;obtain⟨z1,z2,z3⟩:=of_decide_eq_true z;have kl:=Xv.mp hk;refine⟨k/G,Xv.mpr (YV (by rw[X4];exact kl)),?_⟩;rw[Bool.and_eq_true];refine⟨qH z2,Yc.mpr ⟨k,KR.mpr ⟨k%G,Zb _ G1,?_,?_⟩,by rw[z3];exact beq_self_eq_true e⟩⟩
  ·rw[X4,ZW];exact z1
  ·rw[X4,ZW]
 ·rintro⟨i,hi,z⟩;rw[Bool.and_eq_true]at z;obtain⟨k,hk,ke⟩:=Yc.mp z.2;obtain⟨j,hj,hs,rfl⟩:=KR.mp hk;have il:=Xv.mp hi;have d:(i*G+j)/G=i:=by rw[X4,Nat.mul_add_div G1,Nat.div_eq_of_lt hj,Nat.add_zero]
  refine⟨i*G+j,Xv.mpr ?_,qH ⟨hs,?_,eq_of_beq ke⟩⟩
  ·have:=Nat.mul_le_mul_right G (show i+1<=h from il);rw[Nat.add_mul,Nat.one_mul]at this;lia
  ·rw[d];exact of_decide_eq_true z.1
noncomputable def Gz(G:Nat)(tab:List Int)(h:Nat)(x s:Int):Int:=Bh h (Dx G tab h x s h)
theorem Qa(G1:1<=G)(tab:List Int)(h:Nat)(x s:Int):Bt 2 (DA G tab h x s (h*G)).reverse=Gz G tab h x s:=by
 rw[On _ λn hn=>by
  unfold DA at hn;obtain⟨e,_,rfl⟩:=XT.mp hn;split
  ·exact .inr rfl
  ·exact .inl rfl]
 rw[DW];refine Do λi hi=>?_;rw[<-SR G1];unfold DA;rw[AT hi];cases KS G tab h x s (h*G) i<;>rfl
theorem Na(x:Int)(i:Nat):x/2^i/2=x/2^(i+1):=by rw[XJ,Int.ediv_ediv_of_nonneg (XQ (Int.pow_pos (by decide)))]
structure Pi(H:Hp)(p:Addr)(ps:List Addr)(ws:List (List Int)):Prop where
 l:H p=some (.lst (ps.map V.ref))
 n:ps.length=ws.length
 e:∀(i:Nat) (q:Addr) (w:List Int),ps[i]?=some q->ws[i]?=some w->H q=some (.lst (w.map V.int))
theorem Pi.same{ps:List Addr}{ws:List (List Int)}(s:AG H H')(h:Pi H p ps ws):Pi H' p ps ws:=⟨s _ _ h.l,h.n,λi q w h1 h2=>s _ _ (h.e i q w h1 h2)⟩
noncomputable def G0(G:Nat)(tab:List Int)(h i:Nat):List Int:=(List.range G).map λs:Nat=>Bh h (Er h (Fp G tab i (s:Int)))
noncomputable def Dy(G:Nat)(tab:List Int)(h n:Nat):List (List Int):=(List.range n).map (G0 G tab h)
inductive Le(vs:List V)(H:Hp)(Q:VK)(z3_:XK):Prop
 |m (r f:Addr) (g lo:Int) (tab:List Int) (m:Nat) (ks:List Nat):vs=[.ref r,.ref f]->Ay H r g lo tab m->H f=some (.lst ((Hs ks).map V.int))->Q (.int (Bh (tab.length/g.toNat) (Er (tab.length/g.toNat) ks))) H->Le vs H Q z3_
inductive Fc(vs:List V)(H:Hp)(Q:VK)(z3_:XK):Prop
 |m (r:Addr) (g lo:Int) (tab:List Int) (m:Nat):vs=[.ref r]->Ay H r g lo tab m->tab.length/g.toNat<=9->(∀(p:Addr) (ps:List Addr) (H':Hp),AG H H'->Pi H' p ps (Dy g.toNat tab (tab.length/g.toNat) (tab.length/g.toNat))->Q (.ref p) H')->Fc vs H Q z3_
inductive G2(vs:List V)(H:Hp)(Q:VK)(z3_:XK):Prop
 |m (p:Addr) (ps:List Addr) (G:Nat) (tab:List Int) (h:Nat) (x:Int) (s:Nat):vs=[.ref p,.int x,.int ((s:Nat):Int)]->Pi H p ps (Dy G tab h h)->0<=x->s<G->(∀H',AG H H'->Q (.int (Gz G tab h x (s:Int))) H')->G2 vs H Q z3_
theorem Ba{es2:List Expr}{t t2:TA}{p:Pos}{x1}(hl:NQ X es2 t2)(hr:NQ X es t):NQ X (.Tuple es2 x1 p::es) (AV (CD t2) t):=.of (AA (D1 hl.out) hr.out (by rfl))
noncomputable def Oq:List Int->TA
 |[]=>Bs
 |i::is=>AV (tC (.int i)) (Oq is)
noncomputable def MW:List (List Int)->TA
 |[]=>Bs
 |w::ws=>AV (CD (Oq w)) (MW ws)
theorem MX:∀{is:List Int} {k:List V->Hp->Prop},k (is.map V.int) H->Oq is σ H k
 |[],_,h=>h
 |i::is,k,h=>MX (is:=is) (k:=λxs H2=>k (.int i::xs) H2) h
structure RH(H:Hp)(ps:List Addr)(ts:List (List Int)):Prop where
 n:ps.length=ts.length
 e:∀(i:Nat) (q:Addr) (w:List Int),ps[i]?=some q->ts[i]?=some w->H q=some (.tup (w.map V.int))
theorem MY:∀{ts:List (List Int)} {H:Hp} {k:List V->Hp->Prop},(∀w∈ts,w.length<=100)->(∀ps H',AG H H'->RH H' ps ts->k (ps.map V.ref) H')->MW ts σ H k
 |[],H,k,_,h=>h [] H (AG.refl _) ⟨rfl,λi q w hq=>qG hq (by simp)⟩
 |w::ts,H,k,hl,h=>by
  refine MX ⟨by rw[Wq];exact Xa (hl w (W7 ..)) (by decide),λp hp=>?_⟩;refine MY (λw' hw'=>hl w' (XD _ hw')) λps H' e' hv=>h (p::ps) H' ((AG.new hp _).trans e') ⟨by rw[Xo,Xo,hv.n],λi q u hq hu=>?_⟩
  cases i with
  |zero =>
   cases hq;cases hu;exact e' _ _ AC
  |succ i=>exact hv.e i q u hq hu
theorem Os{ts:List (List Int)}{Q:VK}(hl:∀w∈ts,w.length<=100)(hn:ts.length<=100)(h:∀ps H',AG H H'->RH H' ps ts->∀p,H' p=none->Q (.ref p) (Ae H' p (.lst (ps.map V.ref)))):Nz (MW ts) σ H Q:=
 MY hl λps H' e hv=>⟨by rw[Wq,hv.n];exact Xa hn (by decide),λp hp=>h ps H' e hv p hp⟩
theorem SS{g:TG}(h:te σ H λx H1=>g x σ H1 D.nx):Jb te g D σ H:=h
end L2
namespace PySem
section
variable{prog:Program}{w:World}{A:Around}{E:Value->Shared->Prop}{s:Shared}{it d:Addr}{i ep:Nat}{od:Obj}{es:Array DictEntry}
theorem keys_item{Q:Option Value->Shared->Prop}(hit:s.heap.IsKeyIter it d i es.size ep)(hod:s.heap.get? d=some od)(hdd:od.data=.dict es ep)(hlt:i<es.size)
  (hQ:∀h',h'.IsKeyIter it d (i+1) es.size ep->Heap.SameBut it s.heap h'->Q (some es[i].key) {s with heap:=h'}):wpAny (model prog w) A (pyNext (.ref it)) Q E s:=by
 obtain⟨o,ho,hc,hd⟩:=id hit;have T:=hit.typeIs;unfold pyNext;refine qC (wpAny_attempt (wpAny_callSpecial?_slot (name:=Str.ofString "__next__") T F.slot_dict_keyiterator_next (wpAny_call_entry F.slot_dict_keyiterator_next T F.entry_dict_keyiterator_next ?_ (F.args_dict_keyiterator_next_1 _))));refine qC (qD (qC (qC ?_)));refine qC (wpAny_typeNameOfWhole_keyiter T (qD (qC (wpAny_fieldsOf ho hd ?_))));simp only[show Builtin.Dict_items.ownsTuple "dict_keyiterator"=false by decide,Bool.false_eq_true,if_false];show wpAny _ _ (if (Value.ref d==.none)=true then _ else _) _ _ s;rw[qE (show ¬((Value.ref d==.none)=true) from XG)];refine qC (qD (qC (wpAny_dictEntries hod hdd ?_)));rw[qE (by simp)];refine qC (qD (qC (wpAny_dictEpoch hod hdd ?_)));rw[qE (by simp)];refine qD ?_;simp only[show ¬((i:Int)<0) by lia,if_false,Int.toNat_natCast,Array.getElem?_eq_getElem hlt];refine qC (qC (wpAny_typeNameOfWhole_keyiter T (qD (qC (wpAny_isOneOf_keyiter T ?_)))));show wpAny _ _ (setField (.ref it) 1 (rawInt ((i:Int)+1)) >>= _) _ _ s;have hit':(s.heap.update it (Obj.mapFields (·.setIfInBounds 1 (rawInt ((i:Int)+1))))).IsKeyIter it d (i+1) es.size ep:=⟨_,Heap.get?_update_self _ ho (Obj.isFreed_of_fields (Obj.data_mapFields hd _)),(Obj.cls_mapFields ..).trans hc,by rw[Obj.data_mapFields hd];simp[rawInt]⟩;refine qC (wpAny_setField ho hd (by simp) (qC (wpAny_holding (qC (wpAny_isOneOf_keyiter (s:={s with heap:=s.heap.update it (Obj.mapFields (·.setIfInBounds 1 (rawInt ((i:Int)+1))))}) hit'.typeIs ?_)))));show wpAny _ _ (pure es[i].key) _ _ _;exact qD (qD ⟨_,rfl,qD (hQ _ hit' (Heap.SameBut.update ..))⟩)
theorem keys_end{Q:Option Value->Shared->Prop}(hh:A.handled=none)(hit:s.heap.IsKeyIter it d i es.size ep)(hod:s.heap.get? d=some od)(hdd:od.data=.dict es ep)(hge:es.size<=i)
  (hQ:∀h',Heap.ExtBut it s.heap h'->Q none {s with heap:=h'}):wpAny (model prog w) A (pyNext (.ref it)) Q E s:=by
 obtain⟨o,ho,hc,hd⟩:=id hit;have T:=hit.typeIs;unfold pyNext;refine qC (wpAny_attempt (wpAny_callSpecial?_slot (name:=Str.ofString "__next__") T F.slot_dict_keyiterator_next (wpAny_call_entry F.slot_dict_keyiterator_next T F.entry_dict_keyiterator_next ?_ (F.args_dict_keyiterator_next_1 _))));refine qC (qD (qC (qC ?_)));refine qC (wpAny_typeNameOfWhole_keyiter T (qD (qC (wpAny_fieldsOf ho hd ?_))));simp only[show Builtin.Dict_items.ownsTuple "dict_keyiterator"=false by decide,Bool.false_eq_true,if_false];show wpAny _ _ (if (Value.ref d==.none)=true then _ else _) _ _ s;rw[qE (show ¬((Value.ref d==.none)=true) from XG)];refine qC (qD (qC (wpAny_dictEntries hod hdd ?_)));rw[qE (by simp)];refine qC (qD (qC (wpAny_dictEpoch hod hdd ?_)));rw[qE (by simp)];refine qD ?_;simp only[show ¬((i:Int)<0) by lia,if_false,Int.toNat_natCast,Array.getElem?_eq_none hge];refine qC (qC (wpAny_typeNameOfWhole_keyiter T (qD ?_)));show wpAny _ _ (setField (.ref it) 0 .none >>= _) _ _ s;refine qC (wpAny_setField ho hd (by simp) ?_);show wpAny _ _ (newExc (.type "StopIteration") [] >>= _) _ _ _;refine qC ?_;simp only[newExc,newTuple];refine qC (wpAny_newObj_type (qC (m:=firstArgMember _ _) (wpAny_of_eq (a:=Value.none) (by first|rfl|(simp only[firstArgMember];rfl)) (wpAny_newObj_type ?_ (by size_fits)))) (by size_fits));simp only[raiseNew];refine qC (wpAny_handled ?_);rw[show A.in1.handled=none from hh];refine qC (qD (wpAny_throw ?_));exact qC (wpAny_isInstance (T:="StopIteration") (b:=true) ⟨_,W9 _ rfl,rfl⟩ isSubtype_stop (qD (hQ _ (((Heap.SameBut.update ..).extBut.push _).push _))))
theorem keys_iter{Q:Value->Shared->Prop}(hm:(d==sysModules)=false)(hT:s.TypeIs (.ref d) "dict")(hod:s.heap.get? d=some od)(hdd:od.data=.dict es ep)
  (hQ:Q (.ref s.heap.objs.size) {s with heap:=s.heap.push {cls:=.type "dict_keyiterator",data:=.fields #[.ref d,.int 0 0,.int es.size 0,.int ep 0]}}):wpAny (model prog w) A (pyIter (.ref d)) Q E s:=by
 refine wpAny_pyIter_slot hT F.slot_dict_iter (wpAny_call_entry F.slot_dict_iter hT F.entry_dict_iter ?_ (F.args_dict_iter_1 _));unfold Builtin.«dict.__iter__»;refine qC ?_;unfold Builtin.Dict.dictSlotNone;refine qC (wpAny_notOrdered_dict hT ?_);show wpAny _ _ (pure (Value.ref d)) _ _ s;refine qD ?_;show wpAny _ _ (Builtin.Dict.showsAll d >>= _) _ _ s;unfold Builtin.Dict.showsAll;rw[qE (by rw[hm];exact XG)];refine qC (qD (qC (wpAny_dictEntries hod hdd (qC (wpAny_dictEpoch hod hdd ?_)))));exact qC (wpAny_newObj_type (qD ⟨_,rfl,"dict_keyiterator",_,⟨_,Heap.get?_push_size _ rfl,rfl⟩,F.slot_dict_keyiterator_next.lookup,by simpa [rawInt] using hQ⟩))
end
end PySem
namespace L2
open PySem PySem.Spec PyProof.Rows
variable{H:Hp}{X:Cx}{it:Addr}{kvs:List (Bu×V)}{o:Obj}{pins:List (Addr×Obj)}{s:Shared}{tg:Expr}{tl:TE}{u:Value}{α β:Type}{σ:St}
noncomputable def Ot(d:Addr)(o:Obj)(kvs:List (Bu×V)):It:=
 ⟨λi H=>H d=some (.frz o (.dK kvs))/\i<kvs.length,λi H x H'=>H'=H/\∃(k:Bu) (v:V),x=kV k/\kvs[i]?=some (k,v),λi H=>H d=some (.frz o (.dK kvs))/\kvs.length<=i⟩
theorem Es{F:α->β->Prop}:∀{l₁:List α} {l₂:List β} {i:Nat} {x:α},Paired F l₁ l₂->l₁[i]?=some x->∃y,l₂[i]?=some y/\F x y
 |_,_,_,_,.nil,e=>by simp at e
 |_,_,0,_,.cons r _,e=>by simp at e;subst e;exact⟨_,rfl,r⟩
 |_,_,i+1,x,.cons _ t,e=>by obtain⟨u,h1,h2⟩:=Es (i:=i) (x:=x) t (by simpa using e);exact⟨u,by simpa using h1,h2⟩
variable{d:Addr}
theorem AU.freeze{u:HO}(I:AU X pins σ H s)(e:H d=some u)(nt:∀ys,u≠.tup ys)(nf:∀o v,u≠.frz o v)(nb:∀ps,u≠.tbl ps)(no:∀x,u≠.own x)(ho:s.heap.get? d=some o):AU X pins σ (Ae H d (.frz o u)) s:=
 have up:∀{b:Addr} {v:HO},H b=some v->v≠u->Ae H d (.frz o u) b=some v:=λ{b v} z n=>by rw[AI λy=>n (by rw[y,e]at z;exact (Option.some.inj z).symm)];exact z
 have un:∀{b:Addr},H b=none->Ae H d (.frz o u) b=none:=λ{b} z=>by rw[AI λy=>by rw[y,e]at z;cases z];exact z
 {I with
  base:=⟨I.base.keep,I.base.slot,λb ob q n hx=>un (I.base.free b ob q n hx),I.base.there,λb xs q=>up (I.base.tups b xs q) λz=>nt _ z.symm,λb ob v q=>up (I.base.frzs b ob v q) λz=>nf _ _ z.symm,λb ps q=>by obtain⟨m,z⟩:=I.base.tbls b ps q;exact⟨m,up z λy=>nb _ y.symm⟩⟩
  free:=un I.free
  freeC:=λx c q=>un (I.freeC x c q)
  pin:=λp hp=>⟨(I.pin p hp).1,un (I.pin p hp).2.1,(I.pin p hp).2.2⟩
  hok:=λb v q=>by
   have st:∀{b:Addr} {v:HO},H b=some v->Ao X.prog X.w (Ae H d (.frz o u)) s.heap b v:=λ{b v} q=>(I.hok b v q).stay (λ_ _ _ z=>z) (λc z=>up z λy=>no _ y.symm) λc xs z=>up z λy=>nt _ y.symm
   by_cases hb:b=d
   ·subst hb;rw[AC]at q;cases q;exact⟨ho,st e⟩
   ·rw[AI hb]at q;exact st q}
theorem SU{u:HO}(e:H d=some u):Ae H d u=H:=funext λb=>by
 by_cases z:b=d
 ·subst z;rw[AC,e]
 ·rw[AI z]
theorem RI{P:Program}{w:World}{k:Bu}(h:(BE P w).is k u=true):An (kV k) u:=by
 rcases BV h with⟨i,t,e1,e2⟩|⟨x,t,e1,e2⟩
 ·subst e1 e2;exact⟨_,rfl⟩
 ·subst e1 e2;exact⟨_,rfl⟩
theorem Lf{P:Program}{w:World}{K:qJ}{es:Array DictEntry}{ep:Nat}(ho:o.data=.dict es ep)(hl:es.size=kvs.length):GV P w K tg (Ot d o kvs) [it] it (λi h=>h.IsKeyIter it d i es.size ep) where
 mem:=by simp
 obj:=λi h st b hb=>by
  have e:b=it:=by simpa using hb
  subst e;obtain⟨o,e,c,d⟩:=st;exact⟨o,e,λv z=>by rw[d]at z;cases z⟩
 keep:=λi h h' st k=>st.at λo e=>k it (by simp) o e
 item:=by
  rintro X hP hw hK hc i pins s σ H E I hf st ⟨hg,hi⟩;subst hP hw hK;obtain⟨f0,f1,f2,f3,f4,f5⟩:=hf it (by simp);obtain⟨g0,g1⟩:=(show Ao X.prog X.w H s.heap d (.frz o (.dK kvs)) from I.hok d _ hg);obtain⟨_,_,vs,r,o2,es2,ep2,e2,_,d2,_,prs,_⟩:=(show Ao X.prog X.w H s.heap d (.dK kvs) from g1);rw[g0]at e2;cases e2;rw[ho]at d2;cases d2;have hie:i<es.size:=by lia
  obtain⟨p,hp⟩:∃p,kvs[i]?=some p:=⟨kvs[i],by simp[hi]⟩;obtain⟨q,hq,r1,r3⟩:=Es r hp;have he:=(prs.get? (e:=es[i]) (k:=q.1) (v:=q.2) (by simp[hie]) hq).1;rw[<-r1]at he;refine keys_item st g0 ho hie λh' st' sb=>?_;have I1:AU X pins σ H {s with heap:=h'}:=I.turned (t':=s.toks) (λb o hb e=>(sb.2 b hb).trans e) f0 f1 f3 f4 f5;obtain⟨oo,e,c,dd⟩:=id st';exact⟨_,rfl,Hy (s:={s with heap:=h'}) e c dd (by decide) ⟨kV p.1,H,I1,RI he,⟨rfl,p.1,p.2,rfl,hp⟩,st',λb hb=>(hf b hb).1⟩⟩
 done:=by rintro X hP hw hK hc i pins s σ H E I hf st ⟨hg,hi⟩;subst hP hw hK;obtain⟨f0,f1,f2,f3,f4,f5⟩:=hf it (by simp);obtain⟨g0,g1⟩:=(show Ao X.prog X.w H s.heap d (.frz o (.dK kvs)) from I.hok d _ hg);exact keys_end (I.ok.hd hc) st g0 ho (by lia) λh' eb=>⟨rfl,I.turned (t':=s.toks) (λb o hb e=>eb b o hb e) f0 f1 f3 f4 f5⟩
 self:=λ_ _ _ _ _ st h=>wpAny_pyIter_keyiter st h
def SW(tl:TE):TI:=λσ H R=>tl σ H λx H1=>∃(d:Addr) (kvs:List (Bu×V)),x=.ref d/\Rd H1 d (.dK kvs)/\∀o,R (Ot d o kvs) (Ae H1 d (.frz o (.dK kvs)))
theorem Ou{l:Expr}(hl:PE X l tl):PI X tg l (SW tl):=by
 intro pins s σ H R I h;refine BU (hl pins s σ H _ I h) λv s1 z9=>?_;obtain⟨x,H1,I1,r1,q1⟩:=z9;obtain⟨d,kvs,e,hq,q⟩:=q1;subst e;cases r1;obtain⟨z,hm,vs,r,o,es,ep,ho,hx,hd,ks,prs,nd⟩:=(show Ao X.prog X.w H1 s1.heap d (.dK kvs) from hq.ok I1.hok)
 have I2:AU X pins σ (Ae H1 d (.frz o (.dK kvs))) s1:=by
  rcases hq with e|⟨o',e⟩
  ·exact I1.freeze e (λ_ z=>nomatch z) (λ_ _ z=>nomatch z) (λ_ z=>nomatch z) (λ_ z=>nomatch z) ho
  ·obtain⟨g0,_⟩:=(show Ao X.prog X.w H1 s1.heap d (.frz o' (.dK kvs)) from I1.hok d _ e);rw[ho]at g0;cases g0;rw[SU e];exact I1
 have hsz:es.size=kvs.length:=by have a:=prs.length;have b:=Paired.length r;simp at a;lia
 refine keys_iter hm ⟨o,ho,hx.1⟩ ho hd ⟨s1.heap.objs.size,[s1.heap.objs.size],_,_,_,rfl,I2.kept (t':=s1.toks) λb o e=>Wu _ e,Lf hd hsz,⟨_,W9 _ rfl,rfl,rfl⟩,λb hb=>?_,q o⟩;have e:b=s1.heap.objs.size:=by simpa using hb
 subst e;exact I2.fpOk (Wv _) (I2.hok.fresh (Wv _))
end L2
namespace PySem
section
variable{prog:Program}{w:World}{A:Around}{E:Value->Shared->Prop}{s:Shared}{d:Addr}{o:Obj}{es:Array DictEntry}{ep:Nat}
theorem meets_lenR(hd:(d==sysModules)=false):MeetsIn prog w (Builtin.«dict.__len__» ⟨[.ref d],[]⟩) (λ_ R s=>∃o es ep,s.heap.get? d=some o/\o.data=.dict es ep/\R (.ok (.ret (.int es.size s.toks))) {s with toks:=s.toks+1}):=
 .of_wp λA R s ⟨o,es,ep,ho,hdat,h⟩=>by show wpAny _ _ (dictSize d >>= _) _ _ s;unfold dictSize;refine qC (qC (wpAny_dictEntries ho hdat (qD ?_)));show wpAny _ _ (Builtin.Dict.pendingCount d >>= _) _ _ s;refine qC (wpAny_pendingCount_other hd (wpAny_ret_mkInt ?_));rw[Nat.add_zero];exact h
theorem len_dictR{Q:Value->Shared->Prop}(hd:(d==sysModules)=false)(hT:s.TypeIs (.ref d) "dict")(ho:s.heap.get? d=some o)(hdat:o.data=.dict es ep)(hfit:(es.size:Int)<2^63)
  (h:Q (.int es.size (s.toks+1)) {s with toks:=s.toks+1+1}):wpAny (model prog w) A (call (.builtin "len") [.ref d]) Q E s:=by
 refine Calls.call_function_entry kind_len plain_len entry_len (args_len1 _) ?_;unfold Builtin.«len»
 refine qC (m:=oneArg "len" _) (qD (qC (m:=callSpecial? (.ref d) (Str.ofString "__len__")) (wpAny_callSpecial?_slot (name:=Str.ofString "__len__") hT F.slot_dict_len
  (call_meetsIn F.slot_dict_len hT F.entry_dict_len (F.args_dict_len_1 _) (meets_lenR hd) ⟨o,es,ep,ho,hdat,?_⟩))))
 show wpAny _ _ _ _ _ {s with toks:=s.toks+1};refine qC (wpAny_holding (qD (qC (wpAny_letGo ?_))));show wpAny _ _ (if ((es.size:Nat):Int)<0 then _ else _) _ _ _;rw[qE (by lia)];show wpAny _ _ (if ((es.size:Nat):Int)≥2^63 then _ else _) _ _ _;rw[qE (by lia)];exact qC (wpAny_mkInt (qD ⟨_,rfl,h⟩))
end
end PySem
namespace L2
open PySem PySem.Spec PyProof.Rows
variable{D:Fz}{H:Hp}{X:Cx}{d:Addr}{kvs:List (Bu×V)}{o:Obj}{pos:Pos}{tg:Expr}{u:Value}{σ:St}
section
variable{o i value:Expr}{pos':Pos}{td ty tv:TE}
end
theorem Nb{g:TG}{tb:TS}(Pv:Nat->St->Hp->Prop)(h0:Pv 0 σ H)(hl:∀i σ H,i<=kvs.length->Pv i σ H->H d=some (.frz o (.dK kvs)))
  (hs:∀i k v σ H,kvs[i]?=some (k,v)->Pv i σ H->g (kV k) σ H λσ2 H2=>tb {D with nx:=Pv (i+1),ct:=Pv (i+1),bk:=D.nx} σ2 H2) (hd:∀σ H,Pv kvs.length σ H->D.nx σ H):
  ∃W:Nat->Nat->St->Hp->Prop,(∃m,W 0 m σ H)/\∀i m σ H,W i m σ H ->
   ((Ot d o kvs).stop i H/\D.nx σ H)\/((Ot d o kvs).go i H/\∃N:St->Hp->Prop,(∀σ' H',N σ' H'->∃m',m'<m/\W (i+1) m' σ' H')/\∀x H',(Ot d o kvs).yld i H x H'->g x σ H' λσ2 H2=>tb {D with nx:=N,ct:=N,bk:=D.nx} σ2 H2):=by
 refine⟨λi m σ H=>m=kvs.length-i/\i<=kvs.length/\Pv i σ H,⟨kvs.length,by simp,Nat.zero_le _,h0⟩,?_⟩;rintro i m σ H ⟨rfl,hi,p⟩;have q:=hl i σ H hi p
 by_cases hlt:i<kvs.length
 ·refine .inr ⟨⟨q,hlt⟩,Pv (i+1),λσ' H' p'=>⟨kvs.length-(i+1),by lia,rfl,hlt,p'⟩,λx H' y=>?_⟩;obtain⟨e,k,v,ex,hk⟩:=y;subst e ex;exact hs i k v σ _ hk p
 ·have e:i=kvs.length:=by lia
  subst e;exact .inl ⟨⟨q,Wv _⟩,hd σ H p⟩
noncomputable def Wl(n:Int):V->Bool
 |.int i=>i==n
 |_=>false
noncomputable def NI:V->Prop
 |.int _=>True
 |.non=>True
 |_=>False
noncomputable def Wm(n:Int):Value->Bool
 |.int i _=>i==n
 |_=>false
theorem Wn{n:Int}{v:V}(h:NI v)(r:An v u):Wm n u=Wl n v:=by
 cases v with
 |int i=>obtain⟨t,rfl⟩:=r;rfl
 |non=>cases r;rfl
 |_=>exact h.elim
theorem Ov:Vk X "list.index" (λx xs H Q=>∃(p:Addr) (ys:List V) (n:Int) (j:Nat),x=.ref p/\xs=[.int n]/\H p=some (.lst ys)/\(∀y∈ys,NI y)/\ys[j]?=some (.int n)/\(∀m,m<j->∀y,ys[m]?=some y->Wl n y=false)/\Q (.int ((j:Nat):Int)) H):=by
 intro pins s σ H x xs v us Q I rx rs h;obtain⟨p,ys,n,j,rfl,rfl,hp,ni,hj,hm,q⟩:=h;cases rx;obtain⟨u,rfl,ru⟩:=Eb rs;obtain⟨t,rfl⟩:=ru;obtain⟨z,its,c,r,hl,e⟩:=I.lstM hp
 have ix:∀(m:Nat) (hm:m<its.toArray.size),∃y,ys[m]?=some y/\An y its.toArray[m]:=λm hm=>by
  have hm':m<its.length:=by simpa using hm
  have h2:m<ys.length:=by lia
  obtain⟨u,hu,ru⟩:=r.get (Wx h2);refine⟨ys[m],Wx h2,?_⟩;rw[Wx hm']at hu;cases hu;simpa using ru
 have jl:j<its.toArray.size:=by have:=(Ws.mp hj).1;rw[Xc];lia
 have zz:=z;rw[sizeLine_eq]at zz;have jj:j<ys.length:=(Ws.mp hj).1
 refine call_meets PySem.F.slot_list_index ⟨_,e,rfl⟩ PySem.F.entry_list_index (PySem.F.args_list_index_2 _ _)
  (SeqAt.list_indexAt p its.toArray c none #[] (.int n t) (Wm n) j jl (by lia) ?_ ?_) ⟨e,λy hy=>?_,.int ((j:Nat):Int),H,I.tok _,⟨_,rfl⟩,q⟩
 ·obtain⟨y,h1,h2⟩:=ix j jl;rw[hj]at h1;cases h1;rw[Wn (v:=.int n) trivial h2];exact beq_self_eq_true n
 ·intro m hm2 hlt;obtain⟨y,h1,h2⟩:=ix m hm2;rw[Wn (ni y (Wy h1)) h2];exact hm m hlt y h1
 ·obtain⟨m,hm2,rfl⟩:=Array.mem_iff_getElem.mp hy;obtain⟨y,h1,h2⟩:=ix m hm2;have:=ni y (Wy h1);generalize its.toArray[m]=uu at h2⊢;cases y with
  |int i=>obtain⟨t',rfl⟩:=h2;exact SeqAt.EqAt.int_int i t' n t
  |non=>cases h2;exact SeqAt.EqAt.none_int n t
  |_=>exact this.elim
theorem G3:Vk X "dict.setdefault" (λx xs H Q=>∃(d:Addr) (kvs:List (Bu×V)) (k:Bu) (y:V),x=.ref d/\xs=[kV k,y]/\H d=some (.dK kvs)/\kvs.length<sizeLine /\
  (∀z,CY kvs k=some z->Q z H)/\(CY kvs k=none->Q y (Ae H d (.dK (CZ kvs k y))))):=by
 intro pins s σ H x xs v us Q I rx rs h;obtain⟨d,kvs,k,y,rfl,rfl,e,hz,h1,h2⟩:=h;obtain⟨u1,u2,rfl,r1,r2⟩:=L5 rs;cases rx;obtain⟨z,hd,vs,rel,dd⟩:=Oc I.hok e;have hl:vs.length<=sizeLine:=by rw[<-rel.length];exact z
 have rk:=rel.val k;refine call_meetsIn Yl dd.typeIs PySem.F.entry_dict_setdefault (PySem.F.args_dict_setdefault_3 _ _ _) (kt_meets_setdefault (BE X.prog X.w) d (Fs r1) hd u2) ⟨vs,dd,hl,λp hp=>?_,λhn h' dd' sb=>?_⟩
 ·rw[hp]at rk;cases hv:CY kvs k with
  |none=>rw[hv]at rk;exact (show False from rk).elim
  |some t =>
   rw[hv]at rk;exact⟨t,H,I.tok _,rk,h1 t hv⟩
 ·have hv:CY kvs k=none:=by
   cases hv:CY kvs k with
   |none=>rfl
   |some t=>rw[hv,hn]at rk;exact (show False from rk).elim
  have hlen:(CZ kvs k y).length<=sizeLine:=by have:=DG kvs k y;lia
  have he:∃q,h'.get? d=some q:=let ⟨q,_,_,hq,_⟩:=dd';⟨q,hq⟩;exact⟨y,_,GG (ob:=.dK (CZ kvs k y)) I (by rw[e];exact True.intro) sb he (La hlen hd (rel.put k r2) dd'),r2,h2 hv⟩
end L2
namespace PySem
open Sem (wp)
section
variable{prog:Program}{w:World}{K:Type}[DecidableEq K]{knd:KeyKind prog w K}{A:Around}{E:Value->Shared->Prop}{s:Shared}
theorem hint_dict{d:Addr}{Q:Bool->Shared->Prop}(hT:s.TypeIs (.ref d) "dict")(h:Q false s):wpAny (model prog w) A (Builtin.List.listLengthHint (.ref d)) Q E s:=by
 unfold Builtin.List.listLengthHint;refine qC (wpAny_specialOf hT F.slot_dict_len.lookup ?_);generalize hid:("dict.__len__":String)=id0
 wp_delta
 rw[show splitId id0=some ("dict","__len__") from by subst hid;decide +kernel];subst hid;refine qC (wpAny_isInstance (T:="dict") (b:=true) hT (by rw[isSubtype_type];kernel_rfl) ?_);refine wpAny_ite_split (λhab=>qG hab (by decide)) (λ_=>?_);refine wpAny_ite_split (λ_=>?_) (λhab=>qG (by decide +kernel) hab);refine qC (wpAny_typeOf hT ?_);exact qD h
theorem extend_dict{R:Result->Shared->Prop}{d:Addr}{kvs:List (K×Value)}{ep:Nat}(hh:A.handled=none)(hm:(d==sysModules)=false)(hr:s.heap.DictAt knd d kvs ep)(hlen:kvs.length<=sizeLine)(S:Addr)(res:Value)(c₀:Nat)(hS:s.heap.get? S=some {cls:=.type "list",data:=.seq #[] c₀})
  (hR:∀h' tk acc' c',(∀b o,b≠S->s.heap.get? b=some o->h'.get? b=some o)->h'.get? S=some {cls:=.type "list",dict:=none,data:=.seq acc' c',slots:=#[]} ->
   ItemsOf (λi v=>∃k x,kvs[i]?=some (k,x)/\knd.is k v=true) acc' kvs.length->R (.ok (.ret res)) {s with heap:=h',toks:=tk}):
  wpAny (model prog w) A.in1 (Builtin.List.listExtendWith (.ref S) (.ref d) res)
   (λfin s'=>match fin with|.done f=>R (.ok f) s'|.again c'=>c'.quiet=true/\codeAny (model prog w) A c' R s') (λe s'=>R (.error e) s') s:=by
 obtain⟨o,es,ho,hc,hdat,hk,hp,hn⟩:=id hr;have hT:s.TypeIs (.ref d) "dict":=⟨o,ho,hc.1⟩
 have hSr:S≠d:=λe=>by rw[e,ho]at hS;cases hS;cases hdat
 have hSlt:S<s.heap.objs.size:=Wz hS;have hSI:S≠s.heap.objs.size:=Xd hSlt;have hdI:d≠s.heap.objs.size:=Xd (Wz ho)
 have hSf:S∉[s.heap.objs.size,d]:=λhm=>by
  rcases XE.mp hm with z|z
  ·exact hSI z
  ·exact hSr (Wr.mp z)
 have W:=(Walks.dictKeys (prog:=prog) (w:=w) (A:=A.in1) (knd:=knd) hh s.heap.objs.size d hdI kvs ep).toS
 have key:∀(h:Heap) (c₁ tk:Nat),h.IsKeyIter s.heap.objs.size d 0 kvs.length ep->h.DictAt knd d kvs ep->(∀b o,b≠S->s.heap.get? b=some o->h.get? b=some o) ->
   h.get? S=some {cls:=.type "list",data:=.seq #[] c₁}->codeAny (model prog w) A (.builtin "list.extend.loop" ⟨[.ref S,.ref s.heap.objs.size,res],[]⟩) R {s with heap:=h,toks:=tk}:=by
  intro h c₁ tk hit hda hk hS₁;refine codeAny_extend_loopS W hlen S hSf res kvs.length 0 _ #[] c₁ rfl (XO _) ⟨hit,hda⟩ hS₁ (ItemsOf.nil _) λs' acc' c' hm hS' hacc=>?_;rw[Moved.eq_with hm];refine hR s'.heap s'.toks acc' c' (λb o hb e=>hm.heap b o (λhmem=>?_) (hk b o hb e)) hS' hacc;rcases XE.mp hmem with e'|hmem
  ·exact hb e'
  ·exact qG (Wz e) (by rw[Wr.mp hmem];exact XN _)
 unfold Builtin.List.listExtendWith;refine qC (wpAny_typeOf (T:="dict") hT ?_);have h1:Builtin.List.listSameRef (.ref S) (.ref d)=false:=by simp[Builtin.List.listSameRef,hSr]
 have h2:(Value.type "dict"==Value.type "list")=false:=by decide
 have h3:(Value.type "dict"==Value.type "tuple")=false:=by decide
 simp only[h1,h2,h3,Bool.or_false,Bool.false_eq_true,if_false];refine qC (wpAny_pyIter_dict hm hr ?_);obtain⟨itO,hIt⟩:∃itO:Obj,itO={cls:=.type "dict_keyiterator",data:=.fields #[.ref d,.int 0 0,.int kvs.length 0,.int ep 0]}:=⟨_,rfl⟩;rw[<-hIt];have kp:∀b o,s.heap.get? b=some o->(s.heap.push itO).get? b=some o:=λb o e=>Wu _ e
 refine qC (wpAny_holding (hint_dict ⟨o,kp _ _ ho,hc.1⟩ ?_));have hit₁:(s.heap.push itO).IsKeyIter s.heap.objs.size d 0 kvs.length ep:=⟨_,W9 _ (by rw[hIt];rfl),by rw[hIt],by rw[hIt];rfl⟩;have hd₁:(s.heap.push itO).DictAt knd d kvs ep:=hr.at' λo e=>kp d o e
 have hS₁:=kp _ _ hS;refine wpAny_ite_split (λ_=>?_) (λhab=>qG (by decide +kernel) hab);refine qC (wpAny_rule ?_);refine qC ?_;show wpAny _ _ (updateSeq S (·.push .none) >>= λ_=>updateSeq S (·.pop)) _ _ _;refine qC (wpAny_updateSeq hS₁ rfl ?_);have hS₂:=YT (Obj.mapSeq (·.push Value.none)) hS₁ rfl;refine wpAny_updateSeq (hz:=by seq_fits) hS₂ rfl ?_;have hS₃:=YT (Obj.mapSeq (·.pop)) hS₂ rfl;have up:∀b o,b≠S->(s.heap.push itO).get? b=some o->(((s.heap.push itO).update S (Obj.mapSeq (·.push Value.none))).update S (Obj.mapSeq (·.pop))).get? b=some o:=λb o hb e=>(YQ _ _ (Ne.symm hb)).trans ((YQ _ _ (Ne.symm hb)).trans e)
 refine qD ⟨plainId_quiet F.plain_extend_loop _,key _ _ _ (hit₁.at λo e=>up _ o (Ne.symm hSI) e) (hd₁.at' λo e=>up _ o (Ne.symm hSr) e) (λb o hb e=>up b o hb (kp b o e)) hS₃⟩
end
end PySem
namespace L2
open PySem PySem.Spec PyProof.Rows
variable{E:Value->Shared->Prop}{H H' H1 H2:Hp}{X:Cx}{a b f:Addr}{an od:Option Addr}{cdv doc oc:Value}{es:List Expr}{h:Heap}{name qual x:Str}{o:Obj}{osl:Array (Option Value)}{params:Arguments}{pos:Pos}{ps:List Str}{s:Shared}{scope:Scope}{sp:Sp}{α β:Type}
theorem KW:Ds X (.builtin "len") (λxs H Q=>∃(p:Addr) (kvs:List (Bu×V)),xs=[V.ref p]/\Rd H p (.dK kvs)/\Q (.int ((kvs.length:Nat):Int)) H):=by
 intro pins s σ H xs us Q I r h;obtain⟨p,kvs,rfl,hq,q⟩:=h;obtain⟨u,rfl,rx⟩:=Eb r;cases rx;obtain⟨z,hd,vs,rel,dd⟩:=FE I.hok hq;have hT:s.TypeIs (.ref p) "dict":=dd.typeIs;have hl:=rel.length;obtain⟨ob,es,ep,g1,g2,g3,_,g4,_⟩:=dd
 have hz:es.size=kvs.length:=by have a:=g4.length;rw[XI]at a;lia
 exact len_dictR hd hT g1 g3 (by rw[sizeLine_eq]at z;lia) ⟨.int kvs.length,H,I.tok _,⟨_,by rw[hz]⟩,q⟩
theorem MZ{K:qJ}(h:X.K=K)(hu:X.A.units+64<cLine):Ev X (compareOp .Eq) (UI K):=h▸Ry hu
theorem Ow{K:qJ}(h:X.K=K)(hu:X.A.units+64<cLine):Ev X (compareOp .NotEq) (UU K):=h▸SC hu
def G4(mg:Str->Option Value)(h:Heap):Prop:=∃bm ob,mg "__builtins__"=some (.ref bm)/\bm≠builtinsNs/\h.get? bm=some ob/\ob.cls=.type "module"/\ob.dict=some builtinsNs/\ob.data=.plain
def RJ(ts:List Addr)(H:Hp):Prop:=(∀b,H b=none\/(∃o xs,H b=some (.frz o (.lst xs)))\/(b∈ts/\H b=some (.tbl #[])))/\∀b∈ts,H b=some (.tbl #[])
def Ox(K:qJ)(cts:List (Addr×Addr)):Prop:=∀q∈cts,PySem.W.codeHdIn K q.1 q.2=true/\K.lookup q.2=none
theorem Nc{P:Program}{w:World}{K:qJ}{mg mb:Str->Option Value}{CX:Pg}{k:Nat}{fa:Addr}{fd:FuncData}{sp:Sp}{s₁:Shared}{vs:List Value}{ns:List Int}{cts:List (Addr×Addr)}
  (KX:K.In s₁.heap) (hns:s₁.heap.Ns mainGlobals mg) (hb:s₁.heap.Ns builtinsNs mb) (hbb:∀x:Str,x≠"__name__"->mb x=bootBuiltins x) (hlim:s₁.heap.NoLimit) (hbm:G4 mg s₁.heap) (hg:s₁.gens=#[])
  (hT:Ox K cts) (hT2:∀q∈cts,s₁.heap.get? q.2=some (PySem.W.tabObj #[]))
  (ha:s₁.heap.get? a=some {cls:=.type "list",data:=.seq vs.toArray}) (hi:IntsAre vs ns) (hl:ns.length<=sizeLine) (hr:Bn k callerA)
  (F:∀base:Heap,K.In base->base.Ns mainGlobals mg->G4 mg base->EY P w K mg base CX k fa fd [x] sp) (hbind:∀(s:Shared) (u:Value),BindsTo s fd ⟨[u],[]⟩ [(x,u)])
  (hsp:∀H:Hp,RJ (cts.map (·.2)) H->Ab K H a (ns.map V.int)->sp [.ref a] H (λv _=>v=.bl true) λ_ _ _=>False)
  (hCX:∀H e s',CX [] H s₁ (λ_ _ _=>False) e s'->False):
  codeAny (model P w) callerA (.call (.ref fa) ⟨[.ref a],[]⟩) (λr s'=>r=.ok (.ret (.bool true))/\OldK s₁.heap s'.heap/\s'.os=s₁.os/\AllBare s'.gens) s₁:=by
 have rv:=IF hi;have lenV:=hi.length
 have atT:∀b∈cts.map (·.2),s₁.heap.get? b=some (PySem.W.tabObj #[])/\K.lookup b=none/\isCodeTable s₁.heap b:=λb hb=>by obtain⟨q,hq,rfl⟩:=XT.mp hb;exact⟨hT2 q hq,(hT q hq).2,((PySem.W.codeHd_of_K KX (hT q hq).1).tab (hT2 q hq)).isCodeTable⟩
 have aT:a∉cts.map (·.2):=λz=>by have e:=(atT a z).1;rw[ha]at e;cases e
 have core:∀H:Hp,RJ (cts.map (·.2)) H->Ab K H a (ns.map V.int)->DQ P w H s₁.heap->(∀b,H b≠none->b=a\/b∈cts.map (·.2))->(H a≠none->K.lookup a=none) ->
   codeAny (model P w) callerA (.call (.ref fa) ⟨[.ref a],[]⟩) (λr s'=>r=.ok (.ret (.bool true))/\OldK s₁.heap s'.heap/\s'.os=s₁.os/\AllBare s'.gens) s₁:=by
  intro H hO hS hok hA hK;have base_of:∀{b:Addr} {o:Obj},s₁.heap.get? b=some o->H b=none->(Hm s₁.heap H).get? b=some o:=λe n=>Nr e n
  have noA:∀{b:Addr} {o:Obj},s₁.heap.get? b=some o->(∀xs n,o.data≠.seq xs n)->(∀xs,o.data≠.fields xs)->H b=none:=λ{b o} e d d2=>by
   cases q:H b with
   |none=>rfl
   |some u =>
    rcases hA b (by rw[q];simp) with e'|e'
    ·subst e';rw[ha]at e;cases e;exact (d _ _ rfl).elim
    ·rw[(atT b e').1]at e;cases e;exact (d2 _ rfl).elim
  have nsK:∀{b:Addr} {m:Str->Option Value},s₁.heap.Ns b m->(Hm s₁.heap H).Ns b m:=λ{b m} ⟨o,es,ep,e,d,r⟩=>⟨o,es,ep,base_of e (noA e (λ_ _ z=>by rw[d]at z;cases z) (λ_ z=>by rw[d]at z;cases z)),d,r⟩
  have hKb:K.In (Hm s₁.heap H):=λb o e=>base_of (KX b o e) (by
   cases q:H b with
   |none=>rfl
   |some u =>
    rcases hA b (by rw[q];simp) with e'|e'
    ·subst e';rw[hK (by rw[q];simp)]at e;cases e
    ·rw[(atT b e').2.1]at e;cases e)
  have hM:Vh K mg (Hm s₁.heap H):=⟨hKb,nsK hns,⟨mb,nsK hb,hbb⟩,let ⟨mc,h1,h2⟩:=hlim;⟨mc,nsK h1,h2⟩⟩
  have hB:G4 mg (Hm s₁.heap H):=by obtain⟨bm,ob,b1,b2,b3,b4,b5,b6⟩:=hbm;exact⟨bm,ob,b1,b2,base_of b3 (noA b3 (λ_ _ z=>by rw[b6]at z;cases z) (λ_ z=>by rw[b6]at z;cases z)),b4,b5,b6⟩
  have e0:Jf P w K mg (Hm s₁.heap H) callerA [] s₁ H:=⟨rfl,hM,λb o e=>Pj e,Nat.le_of_eq (Mq _ _),trivial,λb hb=>qG (show b∈([]:List Addr) from hb) (by simp),hok,.of_eq hg⟩;refine codeAny_mono ((F _ hKb (nsK hns) hB).run callerA [] s₁ H ⟨[.ref a],[]⟩ [.ref a] [.ref a] _ _ hr e0 (hbind s₁ (.ref a)) (.cons rfl .nil) (hsp H hO hS)) λr s' h=>?_;cases r with
  |error e=>exact (hCX H e s' h).elim
  |ok fl =>
   cases fl with
   |next=>exact False.elim h
   |brk=>exact False.elim h
   |cont=>exact False.elim h
   |ret u =>
    obtain⟨v,H',os,bare,un,hok',r',q⟩:=h;have q':v=.bl true:=q;subst q';obtain rfl:u=Value.bool true:=r'
    have keep:∀b o,s₁.heap.get? b=some o->b∉cts.map (·.2)->s'.heap.get? b=some o:=λb o e nb=>by
     cases q:H b with
     |none=>exact un.keep b o e q (by intro z;exact qG (show b∈([]:List Addr) from z) (by simp)) (by simp)
     |some u =>
      rcases hO.1 b with z|⟨ob,xs,z⟩|⟨z,_⟩
      ·rw[q]at z;cases z
      ·have z2:=un.frzs b ob _ z;obtain⟨e1,_⟩:=hok b _ z;obtain⟨e2,_⟩:=hok' b _ z2;rw[e]at e1;cases e1;exact e2
      ·exact qG z nb
    have tabs:∀b∈cts.map (·.2),∃more,s'.heap.get? b=some {cls:=.none,data:=.fields ((#[]:Array Value)++more)}:=λb hb=>by obtain⟨more,z⟩:=un.tbls b #[] (hO.2 b hb);exact⟨more,hok' b _ z⟩
    refine⟨rfl,⟨λb o e=>?_,λb o e=>?_⟩,os,bare⟩
    ·by_cases hb:b∈cts.map (·.2)
     ·obtain⟨more,z⟩:=tabs b hb;have e1:=(atT b hb).1;rw[e]at e1;cases e1;exact .inr (.inl ⟨(atT b hb).2.2,rfl,#[],more,rfl,z⟩)
     ·exact .inl (keep b o e hb)
    ·by_cases hb:b∈cts.map (·.2)
     ·obtain⟨more,z⟩:=tabs b hb;exact⟨_,z⟩
     ·exact⟨o,keep b o e hb⟩
 cases hk:K.lookup a with
 |some o =>
  have e:=KX a o hk;rw[ha]at e;cases e;refine core (λb=>if b∈cts.map (·.2) then some (.tbl #[]) else none) ⟨λb=>?_,λb hb=>qF hb⟩ (.inr ⟨_,vs.toArray,_,hk,rfl,rfl,rfl,by rw[List.size_toArray,lenV];exact hl,by simpa using rv⟩) (λb u z=>?_) (λb z=>?_) λz=>qG (qE aT) z
  ·by_cases hb:b∈cts.map (·.2)
   ·exact .inr (.inr ⟨hb,qF hb⟩)
   ·exact .inl (qE hb)
  ·by_cases hb:b∈cts.map (·.2)
   ·have z':=(qF hb).symm.trans z;cases z';exact (atT b hb).1
   ·have z':=(qE hb).symm.trans z;cases z'
  ·by_cases hb:b∈cts.map (·.2)
   ·exact .inr hb
   ·exact qG (qE hb) z
 |none =>
  have at1:∀b,b∉cts.map (·.2)->b=a->(if b∈cts.map (·.2) then some (HO.tbl #[]) else if b=a then some (.frz {cls:=.type "list",data:=.seq vs.toArray} (.lst (ns.map V.int))) else none)=some (.frz {cls:=.type "list",data:=.seq vs.toArray} (.lst (ns.map V.int))):=λb h1 h2=>by rw[qE h1,qF h2]
  have at2:∀b,b∉cts.map (·.2)->b≠a->(if b∈cts.map (·.2) then some (HO.tbl #[]) else if b=a then some (.frz {cls:=.type "list",data:=.seq vs.toArray} (.lst (ns.map V.int))) else none)=none:=λb h1 h2=>by rw[qE h1,qE h2]
  refine core (λb=>if b∈cts.map (·.2) then some (.tbl #[]) else if b=a then some (.frz {cls:=.type "list",data:=.seq vs.toArray} (.lst (ns.map V.int))) else none) ⟨λb=>?_,λb hb=>qF hb⟩ (.inl (.inr ⟨{cls:=.type "list",data:=.seq vs.toArray},at1 a aT rfl⟩)) (λb u z=>?_) (λb z=>?_) λ_=>hk
  ·by_cases hb:b∈cts.map (·.2)
   ·exact .inr (.inr ⟨hb,qF hb⟩)
   ·by_cases hba:b=a
    ·exact .inr (.inl ⟨_,_,at1 b hb hba⟩)
    ·exact .inl (at2 b hb hba)
  ·by_cases hb:b∈cts.map (·.2)
   ·have z':=(qF hb).symm.trans z;cases z';exact (atT b hb).1
   ·by_cases hba:b=a
    ·have z':=(at1 b hb hba).symm.trans z;cases z';subst hba;exact⟨ha,by rw[Wq];exact hl,vs,_,rv,ha⟩
    ·have z':=(at2 b hb hba).symm.trans z;cases z'
  ·by_cases hb:b∈cts.map (·.2)
   ·exact .inr hb
   ·by_cases hba:b=a
    ·exact .inl hba
    ·exact qG (at2 b hb hba) z
abbrev CM:HO:=.ext λ_=>True
theorem G5{P:Program}{w:World}(e:h.get? a=some o):Ao P w H h a (.frz o CM):=⟨e,trivial,⟨o,e⟩,λ_ _ _ _=>trivial⟩
def Oy(oc:Obj)(q:Str):Prop:=∃vs t,oc.data=.fields vs/\vs[1]?=some (.str q t)
def BC(pos:Pos)(q:Str)(P:Addr)(H:Hp):Prop:=∃ps:Array Value,H P=some (.tbl ps)/\TriplesOk ps.toList /\
 ∀cv,codeAmong pos ps.toList=some cv->∃c' oc,cv=.ref c'/\H c'=some (.frz oc CM)/\Oy oc q
variable{q:Str}
theorem BC.same{P:Addr}(t:BC pos q P H)(e:AG H H'):BC pos q P H':=by obtain⟨ps,h1,h2,h3⟩:=t;refine⟨ps,e _ _ h1,h2,λcv hc=>?_⟩;obtain⟨c',oc,h4,h5,h6⟩:=h3 cv hc;exact⟨c',oc,h4,e _ _ h5,h6⟩
theorem BC.start{P:Addr}(h:H P=some (.tbl #[])):BC pos q P H:=⟨#[],h,trivial,λ_ z=>by cases z⟩
def BW(P:Addr)(H H':Hp):Prop:=∀b o,b≠P->H b=some o->H' b=some o
theorem AG.t{P:Addr}(e:AG H H'):BW P H H':=λb o _ h=>e b o h
theorem BW.trans{P:Addr}(a:BW P H H1)(b:BW P H1 H2):BW P H H2:=λc o n h=>b c o n (a c o n h)
abbrev Qb(q:Str)(params:Arguments)(body:Expr)(scope:Scope)(clos:List (Str×Addr))(pm:Value)(c':Addr)(ctv:Value):Obj:=PySem.W.kla_obj "<lambda>" q params body scope clos pm c' ctv
def IV(q:Str)(params:Arguments)(body:Expr)(scope:Scope)(clos:List (Str×Addr))(f:Addr)(H:Hp):Prop:=
 ∃pm c' ctv oc,H f=some (.frz (Qb q params body scope clos pm c' ctv) CM)/\H c'=some (.frz oc CM)/\Oy oc q
theorem IV.same{body:Expr}{clos:List (Str×Addr)}(l:IV q params body scope clos f H)(e:AG H H'):IV q params body scope clos f H':=by obtain⟨pm,c',ctv,oc,h1,h2,h3⟩:=l;exact⟨pm,c',ctv,oc,e _ _ h1,e _ _ h2,h3⟩
def WB(P:Addr)(pos:Pos)(q:Str)(params:Arguments)(body:Expr)(scope:Scope)(clos:List (Str×Addr)):TE:=λ_ H Q=>BC pos q P H /\
 ∀f H',BW P H H'->BC pos q P H'->H f=none->IV q params body scope clos f H'->Q (.ref f) H'
theorem SY{c P:Addr}{body:Expr}{clos:List (Str×Addr)}(hB:G4 X.mg X.base)(hcode:X.env.code=.ref c)(hc:PySem.W.codeHdIn X.K c P=true)
  (hcl:closureFor scope X.env=pure clos) (hdef:defaultsOf params X.env=([],[])):PE X (.Lambda params body scope pos) (WB P pos (X.env.qual++"<lambda>") params body scope clos):=by
 intro pins s σ H Q I h;obtain⟨⟨ps,hP,ht,hh⟩,hq⟩:=h;refine PySem.W.kla_eval hdef ?_;have hPh:s.heap.get? P=some (PySem.W.tabObj ps):=I.hok P _ hP;have hPl:P<s.heap.objs.size:=Wz hPh;have C:PySem.W.CodeHd s.heap c P:=PySem.W.codeHd_of_K I.kIn hc;have hgs:s.heap.Ns mainGlobals X.mg:=I.ok.mod.glob.keeps I.bk;obtain⟨bm,ob,b1,b2,b3,b4,b5,b6⟩:=hB;have b3':=I.bk _ _ b3
 have hgP:mainGlobals≠P:=λq=>by obtain⟨o,es,ep,e,hd,_⟩:=hgs;rw[q,hPh]at e;cases e;cases hd
 have hbP:bm≠P:=λq=>by rw[q,hPh]at b3';cases b3';cases b4
 have hbG:bm≠mainGlobals:=λq=>by obtain⟨o,es,ep,e,hd,_⟩:=hgs;rw[q,e]at b3';cases b3';rw[hd]at b6;cases b6
 have BA:s.heap.BuiltinsAt X.mg P:=⟨bm,ob,b1,b2,hbG,hbP,b3',b4,b5,b6⟩;have nP:∀b,H b=none->b≠P:=λb e z=>by rw[z,hP]at e;cases e
 have fresh:∀b,s.heap.objs.size<=b->H b=none:=λb hb=>I.hok.fresh hb
 cases hca:codeAmong pos ps.toList with
 |none =>
  refine PySem.W.kla_makeFunction (mg:=X.mg) hcl I.ok.glob hgs hcode C hPh ht hca hgP BA λc' ctv h' tk hx hge hlt hrec htb=>?_;obtain⟨c₂,oc,vs,t,e2,hoc,hd,hv⟩:=hrec;cases e2;have hsz:s.heap.objs.size<=h'.objs.size:=Xa hge (X7 hlt);obtain⟨f,hf⟩:∃f,f=h'.objs.size:=⟨_,rfl⟩;obtain⟨fo,hfo⟩:∃fo,fo=Qb (X.env.qual++"<lambda>") params body scope clos ((X.mg "__name__").getD .none) c' ctv:=⟨_,rfl⟩;obtain⟨H',hH'⟩:∃H',H'=Ae (Ae (Ae H P (.tbl (ps++#[rawInt pos.line,rawInt pos.col,.ref c']))) c' (.frz oc CM)) f (.frz fo CM):=⟨_,rfl⟩;have cf:c'≠f:=λz=>by rw[z,hf]at hlt;exact qG hlt (XN _)
  have Pc:P≠c':=λz=>qG (W2 hPl hge) (by rw[<-z];exact XN _)
  have Pf:P≠f:=λz=>qG (W2 hPl hsz) (by rw[<-hf,<-z];exact XN _)
  have nf:H f=none:=fresh f (by rw[hf];exact hsz);have nc:H c'=none:=fresh c' hge;have oth:∀b,b≠P->b≠c'->b≠f->H' b=H b:=λb h1 h2 h3=>by rw[hH',AI h3,AI h2,AI h1]
  have atP:H' P=some (.tbl (ps++#[rawInt pos.line,rawInt pos.col,.ref c'])):=by rw[hH',AI Pf,AI Pc];exact AC
  have atc:H' c'=some (.frz oc CM):=by rw[hH',AI cf];exact AC
  have atf:H' f=some (.frz fo CM):=by rw[hH'];exact AC
  have keep:∀b o,b≠P->s.heap.get? b=some o->(h'.push fo).get? b=some o:=λb o hb e=>Wu _ (hx b o hb e)
  have trk:∀b u,H b=some u->b≠c'/\b≠f:=λb u e=>⟨λz=>(by rw[z,nc]at e;cases e),λz=>(by rw[z,nf]at e;cases e)⟩
  have sm:BW P H H':=λb o hb e=>by rw[oth b hb (trk b o e).1 (trk b o e).2];exact e
  have un:Un (Cm X.stack) [] H H' s.heap (h'.push fo):=by
   refine⟨λb o e n _ _=>keep b o (nP b n) e,λb o e n _ _=>⟨o.slots,keep b o (nP b n) e⟩,λb o e n _=>?_,λb o e _=>?_,λb xs e=>?_,λb o u e=>?_,λb qs e=>?_⟩
   ·have hl:=Wz e;rw[oth b (nP b n) (λz=>qG (W2 hl hge) (by rw[z];exact XN _)) (λz=>qG (W2 hl hsz) (by rw[z,hf];exact XN _))];exact n
   ·by_cases hb:b=P
    ·rw[hb];exact⟨_,Wu _ htb⟩
    ·exact⟨o,keep b o hb e⟩
   ·exact sm b _ (λz=>by rw[z,hP]at e;cases e) e
   ·exact sm b _ (λz=>by rw[z,hP]at e;cases e) e
   ·by_cases hb:b=P
    ·subst hb;rw[hP]at e;cases e;exact⟨_,atP⟩
    ·exact⟨#[],by rw[Array.append_empty];exact sm b _ hb e⟩
  have hok:DQ X.prog X.w H' (h'.push fo):=λb u e=>by
   by_cases hbf:b=f
   ·subst hbf;rw[atf]at e;cases e;exact G5 (by rw[hf];exact W9 _ (by rw[hfo];rfl))
   ·by_cases hbc:b=c'
    ·subst hbc;rw[atc]at e;cases e;exact G5 (Wu _ hoc)
    ·by_cases hb:b=P
     ·subst hb;rw[atP]at e;cases e;exact Wu _ htb
     ·rw[oth b hb hbc hbf]at e;refine (I.hok b u e).stay (λd o hd q=>keep d o ?_ q) (λd q=>?_) λd xs q=>?_
      ·rcases hd with z|z
       ·rw[z];exact hb
       ·intro y;rw[y,hP]at z;cases z
      ·exact sm d _ (λy=>by rw[y,hP]at q;cases q) q
      ·exact sm d _ (λy=>by rw[y,hP]at q;cases q) q
  have I':AU X pins σ H' {s with heap:=h'.push fo,toks:=tk}:=I.call (g':=s.gens) (d':=s.drawn) (ch:=[]) un hok I.bare (λb z=>qG z (by simp));refine⟨.ref f,H',?_,by rw[hf];rfl,hq f H' sm ⟨_,atP,?_,λcv hcv=>?_⟩ nf ⟨(X.mg "__name__").getD .none,c',ctv,oc,by rw[atf,hfo],atc,vs,t,hd,hv⟩⟩
  ·subst hfo;exact I'
  ·rw[XY];exact TriplesOk_snoc _ _ _ _ ht
  ·rw[XY]at hcv;have e:=codeAmong_snoc (c:=.ref c') ps.toList ht hca;have hcv':codeAmong pos (ps.toList++[rawInt pos.line,rawInt pos.col,.ref c'])=some cv:=hcv;rw[e]at hcv';cases hcv';exact⟨c',oc,rfl,atc,vs,t,hd,hv⟩
 |some cv =>
  obtain⟨c',oc,rfl,hc',co⟩:=hh cv hca;refine PySem.W.kla_makeFunctionHit (mg:=X.mg) hcl I.ok.glob hgs hcode C hPh ht hca BA λctv h' tk hk hsz=>?_;obtain⟨f,hf⟩:∃f,f=h'.objs.size:=⟨_,rfl⟩;obtain⟨fo,hfo⟩:∃fo,fo=Qb (X.env.qual++"<lambda>") params body scope clos ((X.mg "__name__").getD .none) c' ctv:=⟨_,rfl⟩;have nf:H f=none:=fresh f (by rw[hf];exact hsz);have keep:∀b o,s.heap.get? b=some o->(h'.push fo).get? b=some o:=λb o e=>Wu _ (hk b o e)
  have sm:AG H (Ae H f (.frz fo CM)):=AG.new nf _;have hok:DQ X.prog X.w (Ae H f (.frz fo CM)) (h'.push fo):=I.hok.laid keep (by rw[hf];exact hsz) (G5 (by rw[hf];exact W9 _ (by rw[hfo];rfl)))
  have un:Un (Cm X.stack) [] H (Ae H f (.frz fo CM)) s.heap (h'.push fo):=by refine⟨λb o e n _ _=>keep b o e,λb o e n _ _=>⟨o.slots,keep b o e⟩,λb o e n _=>?_,λb o e _=>⟨o,keep b o e⟩,λb xs e=>sm _ _ e,λb o u e=>sm _ _ e,λb qs e=>⟨#[],by rw[Array.append_empty];exact sm _ _ e⟩⟩;rw[AI (λz=>qG (W2 (Wz e) hsz) (by rw[z,hf];exact XN _))];exact n
  have I':AU X pins σ (Ae H f (.frz fo CM)) {s with heap:=h'.push fo,toks:=tk}:=I.call (g':=s.gens) (d':=s.drawn) (ch:=[]) un hok I.bare (λb z=>qG z (by simp));refine⟨.ref f,Ae H f (.frz fo CM),?_,by rw[hf];rfl,hq f _ sm.t (BC.same ⟨ps,hP,ht,hh⟩ sm) nf ⟨(X.mg "__name__").getD .none,c',ctv,oc,by rw[AC,hfo],sm _ _ hc',co⟩⟩;subst hfo;exact I'
abbrev Bj(cl:List (Str×Addr)):List Addr:=cl.map (·.2)
noncomputable def Hl(cl:List (Str×Addr))(H:Hp):Hp:=λb=>if b∈Bj cl then none else H b
noncomputable def Ud(cl:List (Str×Addr))(H H':Hp):Hp:=λb=>if b∈Bj cl then H b else H' b
def Co(cl:List (Str×Addr))(vs:List V)(H:Hp):Prop:=Paired (λ(p:Str×Addr) (v:V)=>∃u o,An v u/\o.data=.cell (some u)/\H p.2=some (.frz o CM)) cl vs
theorem Bl{cl:List (Str×Addr)}(h:b∉Bj cl):Hl cl H b=H b:=qE h
theorem G6{cl:List (Str×Addr)}(h:b∈Bj cl):Hl cl H b=none:=qF h
theorem Cz{cl:List (Str×Addr)}(h:b∉Bj cl):Ud cl H H' b=H' b:=qE h
theorem Lg{cl:List (Str×Addr)}(h:b∈Bj cl):Ud cl H H' b=H b:=qF h
theorem Paired.left{F:α->β->Prop}:∀{l₁:List α} {l₂:List β},Paired F l₁ l₂->∀a∈l₁,∃b,F a b
 |_,_,.nil,_,h=>by cases h
 |_,_,.cons r t,a,h=>by
  rcases XE.mp h with rfl|h
  ·exact⟨_,r⟩
  ·exact Paired.left t a h
theorem Paired.at{F:α->β->Prop}:∀{l₁:List α} {l₂:List β},Paired F l₁ l₂->∀{i:Nat} {b:β},l₂[i]?=some b->∃a,l₁[i]?=some a/\F a b
 |_,_,.nil,_,_,h=>by simp at h
 |_,_,.cons r _,0,_,h=>by simp at h;subst h;exact⟨_,rfl,r⟩
 |_,_,.cons _ t,i+1,_,h=>by obtain⟨a,h1,h2⟩:=Paired.at t (i:=i) (by simpa using h);exact⟨a,by simpa using h1,h2⟩
theorem Paired.lens{F:α->β->Prop}:∀{l₁:List α} {l₂:List β},Paired F l₁ l₂->l₁.length=l₂.length
 |_,_,.nil=>rfl
 |_,_,.cons _ t=>by simp[Paired.lens t]
section
variable{cl:List (Str×Addr)}{vs:List V}
theorem Co.at(c:Co cl vs H)(h:b∈Bj cl):∃u o,o.data=.cell (some u)/\H b=some (.frz o CM):=by obtain⟨p,hp,rfl⟩:=XT.mp h;obtain⟨v,u,o,_,h1,h2⟩:=Paired.left c p hp;exact⟨u,o,h1,h2⟩
theorem Co.same(c:Co cl vs H)(e:AG H H'):Co cl vs H':=Paired.mapP c λ_ _ ⟨u,o,h1,h2,h3⟩=>⟨u,o,h1,h2,e _ _ h3⟩
theorem Co.out(c:Co cl vs H){u:HO}(h:H b=some u)(n:∀o,u≠.frz o CM):b∉Bj cl:=λz=>by obtain⟨_,o,_,e⟩:=c.at z;rw[h]at e;exact n o (Option.some.inj e)
theorem Oz(h0:∀b∈Bj cl,H b=none)(e:AG H H'):AG H (Hl cl H'):=λb o q=>by rw[Bl (λz=>by rw[h0 b z]at q;cases q)];exact e b o q
theorem C5(h:H b=none):Hl cl H b=none:=by
 unfold Hl;split
 ·rfl
 ·exact h
theorem O0(e:AG (Hl cl H) H'):AG H (Ud cl H H'):=λb o q=>by
 by_cases hb:b∈Bj cl
 ·rw[Lg hb];exact q
 ·rw[Cz hb];exact e b o (by rw[Bl hb];exact q)
theorem DQ.unC{P:Program}{w:World}(x:DQ P w H h)(n:∀b∈Bj cl,∀u,H b=some u->∃o,u=.frz o CM):DQ P w (Hl cl H) h:=λb u e=>by
 have hb:b∉Bj cl:=λz=>by rw[G6 z]at e;cases e
 rw[Bl hb]at e;refine (x b u e).stay (λ_ _ _ q=>q) (λc q=>?_) λc xs q=>?_
 ·rw[Bl (λz=>by obtain⟨o,y⟩:=n c z _ q;cases y)];exact q
 ·rw[Bl (λz=>by obtain⟨o,y⟩:=n c z _ q;cases y)];exact q
end
def SZ(P:Program)(w:World)(K:qJ)(mg:Str->Option Value)(base:Heap)(k i:Nat)(t:TA):TE:=λσ H Q=>∃f fd ps sp oc od fd' sl,σ[i]?=some (some (.ref f))/\EY P w K mg base (Hj P w) k f fd ps sp/\D3 K fd ps [] /\
 H f=some (.frz ⟨oc,od,.func fd',sl⟩ CM)/\t σ H λvs H1=>H1 f=some (.frz ⟨oc,od,.func fd',sl⟩ CM)/\sp vs H1 Q E0
theorem O1{k:Nat}{p pos:Pos}{e:Expr}{t:TA}(i:Nat)(hr:Bn k X.A)(ha:PA X (e::es) t)(hN:X.N[i]?=some x:=by rfl)
  (hv:Vi X.env.scope x:=by first|exact Or.inl rfl|exact Or.inr (Or.inl rfl)|exact Or.inr (Or.inr rfl)) (hdb:(x==("__debug__":Str))=false:=by decide) (hcd:(x==("__classdict__":Str))=false:=by decide)
  (he:starEach (e::es) X.env=(false,eval e X.env)::starEach es X.env:=by rfl) (hpl:(backTo pos (starEach es X.env)).any (·.1)=false:=by rfl):
  PE X (.Call (.Name x p) (e::es) [] pos) (SZ X.prog X.w X.K X.mg X.base k i t):=by
 intro pins s σ H Q I h;obtain⟨f,fd,ps,sp,oc,od,fd',sl,hi,F,hb,hf,h⟩:=h
 have fin:wpAny (model X.prog X.w) X.A (callWith pos (.ref f) [] (backTo pos (starEach (e::es) X.env)) []) (EP X pins σ Q) X.xe s:=by
  refine PySem.W.callWith_F ⟨oc,od,fd',sl,(I.hok f _ hf).1⟩ (BU (ha pos pins s σ H _ I h) λus s1 ⟨vs,H1,I1,r,hf1,q⟩=>⟨⟨oc,od,fd',sl,(I1.hok f _ hf1).1⟩,?_⟩) he hpl;have hl:us.length=ps.length:=by rw[<-r.length];exact F.len _ _ _ _ q
  have bd:=hb s1 us I1.kIn (by rw[Xn];exact hl);rw[Xn]at bd;refine wpAny_call (codeAny_mono (F.run X.A X.stack s1 H1 ⟨us,[]⟩ us vs Q E0 hr I1.env0 bd r q) λrs s2 hq=>?_);rcases rs with er|fl
  ·exact Qz (P:=X.prog) (w:=X.w) pins σ H1 s1 er s2 I1 hq
  ·cases fl with
   |ret u=>exact I1.after hq
   |next=>exact False.elim hq
   |brk=>exact False.elim hq
   |cont=>exact False.elim hq
 obtain⟨m,hn,hl⟩:=I.loc;obtain⟨u,r,l⟩:=hl i x _ hN hi hv;obtain rfl:u=Value.ref f:=r;refine wpAny_Call_Name_kw ?_;rcases l with⟨hk,hm⟩|⟨hk,c,hc,hcell⟩
 ·exact wpAny_Name (wpAny_loadName_local I.ok.kind hk hn hm fin) hdb
 ·rcases hk with hk|hk
  ·exact wpAny_Name (wpAny_loadName_cell I.ok.kind hk hc hcell fin) hdb
  ·exact wpAny_Name (wpAny_loadName_free I.ok.kind hk hc hcell fin hcd) hdb
def At(σ:St)(is:List Nat)(vs:List V):Prop:=Paired (λ(i:Nat) (v:V)=>σ[i]?=some (some v)) is vs
def Sa(cl:List (Str×Addr))(is:List Nat)(sp:Sp)(t:TA):TE:=λσ H Q=>∃Ed,At σ is Ed/\t σ H λvs H1=>∀H1',AG H1 H1'->(∀b∈Bj cl,H1 b=none)->Co cl Ed H1'->(∀b,b∉Bj cl->H1' b=H1 b)->sp vs H1' (λv H2=>Q v (Hl cl H2)) E0
theorem O2{k:Nat}{p pos:Pos}{e:Expr}{t:TA}{cl:List (Str×Addr)}{is:List Nat}(G:Aw X.prog X.w X.K X.mg X.base k f ps sp)(hr:Bn k X.A)(hg:Gl X x)(hm:X.mg x=some (.ref f))
  (ha:PA X (e::es) t) (hcl:Paired (λ(i:Nat) (q:Str×Addr)=>X.N[i]?=some q.1/\X.env.kindOf q.1=some .cell/\X.env.cells.lookup q.1=some q.2/\X.fn q.1=true) is cl)
  (hdb:(x==("__debug__":Str))=false:=by decide) (he:starEach (e::es) X.env=(false,eval e X.env)::starEach es X.env:=by rfl) (hpl:(backTo pos (starEach es X.env)).any (·.1)=false:=by rfl):
  PE X (.Call (.Name x p) (e::es) [] pos) (Sa cl is sp t):=by
 obtain⟨⟨fd,F,hb⟩,kp⟩:=G;intro pins s σ H Q I h;obtain⟨Ed,hAt,h⟩:=h;refine wpAny_Call_Name_kw (EK I hg hm ?_ hdb);refine PySem.W.callWith_K (h₀:=X.base) I.ok.mod.kin kp (BU (ha pos pins s σ H _ I h) λus s1 ⟨vs,H1,I1,r,q⟩=>⟨I1.kIn,?_⟩) he hpl
 have each:∀{is:List Nat} {cl:List (Str×Addr)} {Ed:List V},Paired (λ(i:Nat) (q:Str×Addr)=>X.N[i]?=some q.1/\X.env.kindOf q.1=some .cell/\X.env.cells.lookup q.1=some q.2/\X.fn q.1=true) is cl->At σ is Ed ->
   Paired (λ(p:Str×Addr) (v:V)=>∃u o,An v u/\o.data=.cell (some u)/\s1.heap.get? p.2=some o/\X.s₀.heap.objs.size<=p.2/\H1 p.2=none/\X.env.locals≠p.2) cl Ed:=by
  intro is cl Ed h1 h2
  induction h1 generalizing Ed with
  |nil=>cases h2;exact .nil
  |cons a _ ih =>
   cases h2 with
   |cons b h2 =>
    refine .cons ?_ (ih h2);obtain⟨n1,n2,n3,n4⟩:=a;obtain⟨m,hn,hl⟩:=I1.loc;obtain⟨u,ru,l⟩:=hl _ _ _ n1 b (.inr (.inl n2));rcases l with⟨hk,_⟩|⟨_,c,hc,o,ho,hd⟩
    ·rw[n2]at hk;cases hk
    ·rw[n3]at hc;cases hc;exact⟨u,o,ru,hd,ho,I1.ok.cab _ _ n4 n3,I1.freeC _ _ n3,(I1.cne _ _ n3).symm⟩
 have cells:=each hcl hAt
 have cin:∀b∈Bj cl,∃u o,o.data=.cell (some u)/\s1.heap.get? b=some o/\X.s₀.heap.objs.size<=b/\H1 b=none/\X.env.locals≠b:=λb hb=>by obtain⟨p,hp,rfl⟩:=XT.mp hb;obtain⟨v,u,o,_,h1,h2,h3,h4,h5⟩:=Paired.left cells p hp;exact⟨u,o,h1,h2,h3,h4,h5⟩
 obtain⟨H1',hH⟩:∃H1':Hp,H1'=λb=>if b∈Bj cl then (s1.heap.get? b).map (λo=>HO.frz o CM) else H1 b:=⟨_,rfl⟩
 have hin:∀b∈Bj cl,∀o,s1.heap.get? b=some o->H1' b=some (.frz o CM):=λb hb o e=>by rw[hH];show (if _ then _ else _)=_;rw[qF hb,e];rfl
 have hout:∀b,b∉Bj cl->H1' b=H1 b:=λb hb=>by rw[hH];exact qE hb
 have sm:AG H1 H1':=λb o q=>by rw[hout b (λz=>by obtain⟨_,_,_,_,_,n,_⟩:=cin b z;rw[n]at q;cases q)];exact q
 have ck:Co cl Ed H1':=by
  have go:∀{cl':List (Str×Addr)} {fv:List V},Paired (λ(p:Str×Addr) (v:V)=>∃u o,An v u/\o.data=.cell (some u)/\s1.heap.get? p.2=some o/\X.s₀.heap.objs.size<=p.2/\H1 p.2=none/\X.env.locals≠p.2) cl' fv->(∀q∈cl',q.2∈Bj cl)->Co cl' fv H1':=by
   intro cl' fv h1 h2
   induction h1 with
   |nil=>exact .nil
   |cons a _ ih =>
    obtain⟨u,o,r1,r2,r3,_⟩:=a;exact .cons ⟨u,o,r1,r2,hin _ (h2 _ W7) o r3⟩ (ih λq hq=>h2 q (XD _ hq))
  exact go cells λq hq=>XT.mpr ⟨q,hq,rfl⟩
 have q1:=q H1' sm (λb hb=>by obtain⟨_,_,_,_,_,n,_⟩:=cin b hb;exact n) ck hout;have hl:us.length=ps.length:=by rw[<-r.length];exact F.len _ _ _ _ q1
 have bd:=hb s1 us I1.kIn (by rw[Xn];exact hl);rw[Xn]at bd
 have stk:∀b∈Cm X.stack,b∉Bj cl:=λb hb z=>by
  obtain⟨_,o,_,ho,hs,_,hL⟩:=cin b z;rcases XE.mp (I1.stkSub b hb) with y|y
  ·exact hL y.symm
  ·obtain⟨_,o',ho',_⟩:=I1.ok.funs.mem y;exact qG (W2 (Wz ho') hs) (XN _)
 have hok1:DQ X.prog X.w H1' s1.heap:=λb u e=>by
  by_cases hb:b∈Bj cl
  ·obtain⟨_,o,_,ho,_⟩:=cin b hb;rw[hin b hb o ho]at e;cases e;exact G5 ho
  ·rw[hout b hb]at e;exact (I1.hok b u e).stay (λ_ _ _ q=>q) (λc q=>sm _ _ q) λc xs q=>sm _ _ q
 have e0:Jf X.prog X.w X.K X.mg X.base X.A X.stack s1 H1':=by
  have e:=I1.env0;refine⟨e.frames,e.mod,λb o q=>⟨(e.bs b o q).1,?_⟩,e.bsz,e.funs,λb hb=>?_,hok1,e.bare⟩
  ·rw[hout b (λz=>by
    obtain⟨_,_,_,_,hs,_⟩:=cin b z;exact qG (W2 (Wz q) (Xa I1.ok.bsz hs)) (XN _))]
   exact (e.bs b o q).2
  ·rw[hout b (stk b hb)];exact e.frf b hb
 refine wpAny_call (codeAny_mono (F.run X.A X.stack s1 H1' ⟨us,[]⟩ us vs _ E0 hr e0 bd r q1) λrs s2 hq=>?_);rcases rs with er|fl
 ·obtain⟨_,_,_,_,_,_,_,_,z⟩:=hq;exact z.elim
 ·cases fl with
  |next=>exact False.elim hq
  |brk=>exact False.elim hq
  |cont=>exact False.elim hq
  |ret u =>
   obtain⟨v,H2,os,bare,un,hok,rv,q2⟩:=hq
   have fz:∀b∈Bj cl,∃o,s1.heap.get? b=some o/\H2 b=some (.frz o CM)/\s2.heap.get? b=some o:=λb hb=>by obtain⟨_,o,_,ho,_⟩:=cin b hb;have z:=un.frzs b o _ (hin b hb o ho);exact⟨o,ho,z,(hok b _ z).1⟩
   have nC:∀{b:Addr} {o:HO},H1 b=some o->b∉Bj cl:=λ{b o} e z=>by obtain⟨_,_,_,_,_,n,_⟩:=cin b z;rw[n]at e;cases e
   have un':Un (Cm X.stack) [] H1 (Hl cl H2) s1.heap s2.heap:=by
    refine⟨λb o e n h1 h2=>?_,λb o e n h1 h2=>?_,λb o e n h2=>?_,un.there,λb xs e=>?_,λb o u e=>?_,λb qs e=>?_⟩
    ·by_cases hb:b∈Bj cl
     ·obtain⟨o',e1,_,e2⟩:=fz b hb;rw[e]at e1;cases e1;exact e2
     ·exact un.keep b o e (by rw[hout b hb];exact n) h1 h2
    ·exact un.slot b o e (by rw[hout b (stk b h1)];exact n) h1 h2
    ·by_cases hb:b∈Bj cl
     ·exact G6 hb
     ·rw[Bl hb];exact un.free b o e (by rw[hout b hb];exact n) h2
    ·rw[Bl (nC e)];exact un.tups b xs (sm _ _ e)
    ·rw[Bl (nC e)];exact un.frzs b o u (sm _ _ e)
    ·rw[Bl (nC e)];exact un.tbls b qs (sm _ _ e)
   have hok':DQ X.prog X.w (Hl cl H2) s2.heap:=hok.unC λb hb u e=>by obtain⟨o,_,z,_⟩:=fz b hb;rw[z]at e;cases e;exact⟨o,rfl⟩
   exact⟨v,Hl cl H2,I1.call' (ch:=[]) os un' hok' bare (λb z=>qG z (by simp)),rv,q2⟩
theorem DO(cl:List (Str×Addr)):∀(names:List (Str×NameKind)) (n:Nat) (acc:List (Str×Addr)),cellsFrom n names (acc++cl)=cellsFrom n names acc++cl
 |[],_,_=>rfl
 | (name,kind)::r,n,acc=>by
  unfold cellsFrom;split
  ·exact DO cl r (n+1) ((name,n)::acc)
  ·exact DO cl r n acc
theorem Ca:∀{l r:List (Str×α)},(l++r).lookup x=(l.lookup x).or (r.lookup x)
 |[],r=>by simp
 | (k,v)::l,r=>by
  rw[List.cons_append,YS,YS];split
  ·rfl
  ·exact Ca
theorem G7{f g:α->PUnit->Sem (ForInStep PUnit)}:∀{l:List α},(∀x∈l,f x ⟨⟩=g x ⟨⟩)->forIn l (⟨⟩:PUnit) f=forIn l (⟨⟩:PUnit) g
 |[],_=>by rw[List.forIn_nil,List.forIn_nil]
 |x::r,h=>by
  rw[List.forIn_cons,List.forIn_cons,h x W7];refine bind_congr λy=>?_;cases y with
  |done b=>rfl
  |yield b=>exact G7 λz hz=>h z (XD _ hz)
theorem Lh{e1 e2:Env}{v:Value}(h1:e1.scope=e2.scope)(h2:e1.locals=e2.locals)(h3:e1.globals=e2.globals)(h4:e1.cells.lookup x=e2.cells.lookup x)(hk:e1.scope.kind=.function)(hx:e1.kindOf x=some .local\/e1.kindOf x=some .cell):storeName e1 x v=storeName e2 x v:=by
 have k2:e2.kindOf x=e1.kindOf x:=by unfold Env.kindOf;rw[h1]
 have c2:cellOf e1 x=cellOf e2 x:=by unfold cellOf;rw[h4]
 unfold storeName;rw[k2];have hk2:e2.scope.kind=.function:=by rw[<-h1];exact hk
 rcases hx with hx|hx<;>rw[hx]<;>simp[h1,h2,h3,c2,hk2]
theorem Ht{M:Model}{A:Around}{globals:Addr}{binds:List (Str×Value)}{func:Option Addr}{code:Value}{builtins:Addr}{Q:Env->Shared->Prop}{cl:List (Str×Addr)}
  (hk:scope.kind=.function)
  (hkind:∀x∈binds,scope.names.lookup x.1=some .local\/(scope.names.lookup x.1=some .cell/\((cellsFrom (s.heap.objs.size+1) scope.names []).lookup x.1).isSome=true))
  (hout:∀x∈binds,∀c,(cellsFrom (s.heap.objs.size+1) scope.names []).lookup x.1=none->cl.lookup x.1≠some c)
  (hQ:∀s',InCallC s s.heap.objs.size (bindL (λx=>scope.names.lookup x) binds λ_=>none) (cellsFrom (s.heap.objs.size+1) scope.names []) (bindC (λx=>scope.names.lookup x) binds λ_=>none) s' ->
   Q (newEnv scope s.heap.objs.size globals (cellsFrom (s.heap.objs.size+1) scope.names []++cl) qual func code none builtins) s'):
  wpAny M A (newFunctionEnv scope globals cl binds qual func code none builtins) Q E s:=by
 simp only[newFunctionEnv,Option.isSome_none,Bool.false_eq_true,if_false];refine qC (wpAny_alloc ?_);refine qC (wpAny_layCells _ (λname kind cells=>by cases hkc:kind==NameKind.cell<;>simp[hkc]) _ _ _ _ ?_);have ok:=cellsFrom_ok scope.names (s.heap.push {cls:=.type "frame",data:=.dict #[]}) (s.heap.objs.size+1) [] ⟨λ_ _ hm=>(nomatch hm),List.Pairwise.nil⟩ (by rw[X5];exact Wv _);rw[X5]at ok;rw[show ({s with heap:=s.heap.push {cls:=.type "frame",data:=.dict #[]}}:Shared).heap.objs.size=s.heap.objs.size+1 from X5 ..];have ca:=DO cl scope.names (s.heap.objs.size+1) [];rw[ZU]at ca;rw[ca]
 have env2:∀x∈binds,(cellsFrom (s.heap.objs.size+1) scope.names []++cl).lookup x.1=(cellsFrom (s.heap.objs.size+1) scope.names []).lookup x.1:=λx hx=>by
  rw[Ca];cases e:(cellsFrom (s.heap.objs.size+1) scope.names []).lookup x.1 with
  |some c=>rfl
  |none =>
   cases e2:cl.lookup x.1 with
   |none=>rfl
   |some c=>exact qG e2 (hout x hx c e)
 refine qC ?_
 rw[G7 (g:=λ(x:Str×Value) _=>(do storeName (newEnv scope s.heap.objs.size globals (cellsFrom (s.heap.objs.size+1) scope.names []) qual func code none builtins) x.1 x.2;pure (.yield ⟨⟩):Sem (ForInStep PUnit))) (λx hx=>by
  exact congrArg (λz:Sem Unit=>(do z;pure (ForInStep.yield PUnit.unit):Sem (ForInStep PUnit))) (Lh (e1:=newEnv scope s.heap.objs.size globals (cellsFrom (s.heap.objs.size+1) scope.names []++cl) qual func code none builtins) (e2:=newEnv scope s.heap.objs.size globals (cellsFrom (s.heap.objs.size+1) scope.names []) qual func code none builtins) rfl rfl rfl (env2 x hx) hk (by
   rcases hkind x hx with z|z
   ·exact .inl z
   ·exact .inr z.1)))]
 exact wpAny_bindParams (s₀:=s) (env:=newEnv scope s.heap.objs.size globals (cellsFrom (s.heap.objs.size+1) scope.names []) qual func code none builtins)
  _ (λ_ _ _=>rfl) hk binds (λ_=>none) (λ_=>none) _ _
  ⟨⟨⟨_,_,rfl⟩,(Heap.Ns.new s.heap (.type "frame")).keeps (pushCells_keeps _ _),λb o e=>pushCells_keeps _ _ b o (Wu _ e),Wv _⟩,
   λn c hc=>(ok.empty n c (mem_of_lookup hc)).1,ok.apart,λn c hm=>(ok.empty n c hm).2⟩
  hkind λs' x=>qD (hQ s' x)
structure KY(ps fns:List Str)(sc:Scope):Prop where
 kind:sc.kind=.function
 co:sc.isCoroutine=false
 gen:sc.isGenerator=false
 nd:(ps++fns).Nodup
 par:∀x∈ps,sc.names.lookup x=some .local\/sc.names.lookup x=some .cell
 fre:∀x∈fns,sc.names.lookup x=some .free
 all:∀y∈sc.names,y.2=.free->y.1∈fns
 own:∀y∈sc.names,y.2=.cell->y.1∉fns
noncomputable def Vr(P:Program)(w:World)(K:qJ)(mg:Str->Option Value)(base:Heap)(N:List Str)(qual:Str)(scope:Scope)(f:Addr)(cd:Value)(cl:List (Str×Addr))(A:Around)(outer:List Env)(s:Shared)(H:Hp):Cx where
 prog:=P
 w:=w
 K:=K
 mg:=mg
 base:=base
 A:=A.deeper (PySem.W.envX qual scope s.heap.objs.size f cd (cellsFrom (s.heap.objs.size+1) scope.names []++cl))
 N:=N
 s₀:=s
 H₀:=Hl cl H
 env:=PySem.W.envX qual scope s.heap.objs.size f cd (cellsFrom (s.heap.objs.size+1) scope.names []++cl)
 outer:=outer
 stack:=PySem.W.envX qual scope s.heap.objs.size f cd (cellsFrom (s.heap.objs.size+1) scope.names []++cl)::outer
 ex:=[]
 calm:=true
 fn:=λx=>((cellsFrom (s.heap.objs.size+1) scope.names []).lookup x).isSome
 pn:=[]
 xe:=λ_ _=>False
theorem Fd{c:Addr}:∀{names:List (Str×NameKind)} {n:Nat} {acc:List (Str×Addr)},(cellsFrom n names acc).lookup x=some c->(∃k,(x,k)∈names/\k=.cell)\/acc.lookup x=some c
 |[],_,_,h=>.inr h
 | (name,kind)::r,n,acc,h=>by
  unfold cellsFrom at h
  split at h
  ·rename_i hk
   rcases Fd h with⟨k,h1,h2⟩|h
   ·exact .inl ⟨k,XD _ h1,h2⟩
   ·rw[YS]at h
    split at h
    ·rename_i hx
     exact .inl ⟨kind,by rw[beq_iff_eq.mp hx];exact W7,beq_iff_eq.mp hk⟩
    ·exact .inr h
  ·rcases Fd h with⟨k,h1,h2⟩|h
   ·exact .inl ⟨k,XD _ h1,h2⟩
   ·exact .inr h
theorem Cp{c:α}:∀{l:List (Str×α)},(l.map (·.1)).Nodup->(x,c)∈l->l.lookup x=some c
 |[],_,h=>by cases h
 | (k,v)::r,nd,h=>by
  rw[YS];rcases XE.mp h with e|h
  ·cases e;simp
  ·have:x≠k:=λz=>(Xl.mp nd).1 (by rw[<-z];exact XT.mpr ⟨(x,c),h,rfl⟩)
   rw[beq_eq_false_iff_ne.mpr this];exact Cp (Xl.mp nd).2 h
theorem Sb{P:Program}{w:World}{K:qJ}{mg:Str->Option Value}{base:Heap}{k:Nat}{c':Addr}{body:Expr}{pm ctv:Value}{fns:List Str}{cl:List (Str×Addr)}
  (S:KY ps fns scope) (hcl:cl.map (·.1)=fns) (hnd:(Bj cl).Nodup) (len:∀vs H Q E,sp vs H Q E->vs.length=ps.length)
  (hbody:∀(A:Around) (outer:List Env) (s:Shared) (H:Hp) (vs:List V) (Q:VK) (E:XK),Bn k (A.deeper (PySem.W.envX q scope s.heap.objs.size f (.ref c') (cellsFrom (s.heap.objs.size+1) scope.names []++cl)))->sp vs H Q E ->
   ∃Ed oc,H f=some (.frz (Qb q params body scope cl pm c' ctv) CM)/\H c'=some (.frz oc CM)/\Oy oc q/\Co cl Ed H /\
   ∃t,PE (Vr P w K mg base (ps++fns) q scope f (.ref c') cl A outer s H) body t/\t ((vs++Ed).map some) (Hl cl H) (λv H'=>(∀b∈Bj cl,H' b=none)->Q v (Ud cl H H'))):
  EY P w K mg base (Hj P w) (k+1) f (PySem.W.kla_fn "<lambda>" q params body scope cl pm (.ref c') ctv) ps sp:=by
 refine⟨len,λA outer s H args us vs Q E hr e0 hb r hsp=>?_⟩;have hl:=len _ _ _ _ hsp;have KX:K.In s.heap:=e0.mod.kin.keeps λb o e=>(e0.bs b o e).1
 have lim:s.heap.NoLimit:=e0.mod.nolimit.keeps λb o e=>(e0.bs b o e).1
 obtain⟨Ed,oc,hf,hc',⟨cvs,ctk,hcd,hcv⟩,hck,t,ht,hq⟩:=hbody A outer s H vs Q E (hr.deeper _) hsp
 have hkind:∀y∈ps.zip us,scope.names.lookup y.1=some .local\/(scope.names.lookup y.1=some .cell/\((cellsFrom (s.heap.objs.size+1) scope.names []).lookup y.1).isSome=true):=λ⟨n,v⟩ hy=>by
  rcases S.par n (Y7 hy).1 with q|q
  ·exact .inl q
  ·exact .inr ⟨q,ZE _ _ _ (.inl q)⟩
 have clin:∀{x:Str} {c:Addr},cl.lookup x=some c->x∈fns/\c∈Bj cl:=λ{x c} e=>by have m:=Xi e;exact⟨by rw[<-hcl];exact XT.mpr ⟨_,m,rfl⟩,XT.mpr ⟨_,m,rfl⟩⟩
 have ndf:fns.Nodup:=(Xq.mp S.nd).2.1;have ndp:ps.Nodup:=(Xq.mp S.nd).1;have apart:∀x∈ps,x∉fns:=λx h1 h2=>(Xq.mp S.nd).2.2 x h1 x h2 rfl
 have old:∀b∈Bj cl,∃u o,o.data=.cell (some u)/\H b=some (.frz o CM)/\s.heap.get? b=some o:=λb hb=>by obtain⟨u,o,h1,h2⟩:=hck.at hb;exact⟨u,o,h1,h2,(e0.hok b _ h2).1⟩
 refine PySem.W.kla_callFunE hr.depth (e0.hok f _ hf).1 rfl S.co S.gen rfl ⟨c',oc,cvs,ctk,rfl,(e0.hok c' _ hc').1,hcd,hcv⟩ (hb _ _ _ _ ?_);refine Ht S.kind hkind (λy hy c _ z=>apart y.1 (Y7 (a:=y.1) (b:=y.2) hy).1 (clin z).1) λs1 x=>?_;refine⟨lim.keeps x.toInCall.keep,PySem.W.kla_codeExpr ?_⟩;obtain⟨h1,tk,rfl,hk⟩:=x.done;obtain⟨own,hown⟩:∃own,own=cellsFrom (s.heap.objs.size+1) scope.names []:=⟨_,rfl⟩
 have ownk:∀{y:Str} {c:Addr},own.lookup y=some c->∃k,(y,k)∈scope.names/\k=.cell:=λ{y c} h=>by
  rw[hown]at h;rcases Fd h with z|z
  ·exact z
  ·cases z
 have noA:∀b:Addr,b∉(Vr P w K mg base (ps++fns) q scope f (.ref c') cl A outer s H).ex:=λb z=>qG (show b∈([]:List Addr) from z) (by simp)
 have lk:∀{y:Str} {c:Addr},(own++cl).lookup y=some c->(own.lookup y=some c)\/(own.lookup y=none/\cl.lookup y=some c):=λ{y c} h=>by
  rw[Ca]at h;cases e:own.lookup y with
  |some d=>rw[e]at h;left;exact h
  |none=>rw[e]at h;right;exact⟨rfl,h⟩
 have above:∀{y:Str} {c:Addr},own.lookup y=some c->s.heap.objs.size<c:=λ{y c} h=>x.above y c (by rw[hown]at h;exact Xi h)
 have ltc:∀b∈Bj cl,b<s.heap.objs.size:=λb hb=>by obtain⟨_,_,_,_,e⟩:=old b hb;exact Wz e
 have I:AU (Vr P w K mg base (ps++fns) q scope f (.ref c') cl A outer s H) [] ((vs++Ed).map some) (Hl cl H) {s with heap:=h1,toks:=tk}:=by
  refine⟨⟨e0.mod,S.kind,rfl,rfl,Wv _,λy z c h1 h2=>?_,λy hy=>?_,λy c h h2=>?_,λ_=>hr.hd,Around.frames_deeper e0.frames,.inr ⟨rfl,rfl⟩,λb z=>qG z (noA b),λb o e=>⟨(e0.bs b o e).1,C5 (e0.bs b o e).2⟩,e0.bsz,λb _ _=>noA b,λb z=>qG z (noA b),e0.funs,λb hb=>C5 (e0.frf b hb)⟩,
   rfl,e0.bare,Un.kept hk,⟨_,x.toInCall.ns,λi y v h1 h2 h3=>?_⟩,λy c h=>?_,C5 (e0.hok.fresh (Nat.le_refl _)),λy c h=>?_,λp hp=>qG (show p∈([]:List (Addr×Obj)) from hp) (by simp),?_,?_⟩
  ·have h1:(own++cl).lookup y=some c:=by rw[hown];exact h1
   have h2:(own++cl).lookup z=some c:=by rw[hown];exact h2
   rcases lk h1 with a|⟨_,a⟩<;>rcases lk h2 with b|⟨_,b⟩
   ·rw[hown]at a b;exact name_of_addr x.apart (Xi a) (Xi b)
   ·exact qG (Nat.lt_trans (above a) (ltc c (clin b).2)) (XN _)
   ·exact qG (Nat.lt_trans (above b) (ltc c (clin a).2)) (XN _)
   ·refine name_of_addr ?_ (Xi a) (Xi b);have z:=hnd;unfold Bj List.Nodup at z;rw[List.pairwise_map]at z;exact z
  ·have hy:scope.names.lookup y=some .cell\/scope.names.lookup y=some .free:=hy;show ∃c,(cellsFrom (s.heap.objs.size+1) scope.names []++cl).lookup y=some c;rw[Ca];rcases hy with hy|hy
   ·obtain⟨c,e⟩:=Ey (n:=s.heap.objs.size+1) hy;rw[e];exact⟨c,rfl⟩
   ·cases e:(cellsFrom (s.heap.objs.size+1) scope.names []).lookup y with
    |some c=>exact⟨c,rfl⟩
    |none =>
     have m:=S.all _ (Xi hy) rfl;rw[<-hcl]at m;obtain⟨p,hp,rfl⟩:=XT.mp m;exact⟨p.2,by rw[Option.none_or];exact Cp (by rw[hcl];exact ndf) hp⟩
  ·have h:((cellsFrom (s.heap.objs.size+1) scope.names []).lookup y).isSome=true:=h;have h2:(own++cl).lookup y=some c:=by rw[hown];exact h2
   rcases lk h2 with a|⟨a,_⟩
   ·exact X7 (above a)
   ·rw[hown]at a;rw[a]at h;cases h
  ·have h1:(ps++fns)[i]?=some y:=h1;rw[W0]at h2;cases e:(vs++Ed)[i]? with
   |none=>rw[e]at h2;cases h2
   |some v' =>
    rw[e]at h2;cases h2
    by_cases hi:i<vs.length
    ·rw[XX hi]at e;rw[XX (by lia)]at h1;obtain⟨u,hu,rv⟩:=r.get e;refine⟨u,rv,?_⟩;rcases S.par y (Wy h1) with k|k
     ·exact .inl ⟨k,FQ ndp h1 hu k⟩
     ·obtain⟨c,e⟩:=Ey (n:=s.heap.objs.size+1) k;refine .inr ⟨.inl k,c,?_,?_⟩
      ·show (cellsFrom (s.heap.objs.size+1) scope.names []++cl).lookup y=some c;rw[Ca,e];rfl
      ·have q:=x.cell y c e;rw[FR ndp h1 hu (by show scope.names.lookup y≠_;rw[k];decide)]at q;exact q
    ·rw[XB (by lia)]at e;rw[XB (by lia)]at h1;obtain⟨p,hp,u,o,rv,hd,hH⟩:=Paired.at hck e;have hp1:p.1=y:=by rw[<-hcl,W0,<-hl,hp]at h1;exact Option.some.inj h1
     have hy:=S.fre y (Wy h1);refine⟨u,rv,.inr ⟨.inr hy,p.2,?_,o,hk _ _ (e0.hok _ _ hH).1,hd⟩⟩;show (cellsFrom (s.heap.objs.size+1) scope.names []++cl).lookup y=some p.2;rw[Ca];cases ee:(cellsFrom (s.heap.objs.size+1) scope.names []).lookup y with
     |none=>rw[Option.none_or];exact Cp (by rw[hcl];exact ndf) (by rw[<-hp1];exact Wy hp)
     |some c =>
      obtain⟨kk,m1,m2⟩:=ownk (y:=y) (c:=c) (by rw[hown];exact ee);exact qG (Wy h1) (S.own _ m1 m2)
  ·have h:(own++cl).lookup y=some c:=by rw[hown];exact h
   rcases lk h with a|⟨_,a⟩
   ·rw[hown]at a;exact⟨_,x.cell y c a⟩
   ·obtain⟨u,o,hd,_,ho⟩:=old c (clin a).2;exact⟨some u,o,hk _ _ ho,hd⟩
  ·have h:(own++cl).lookup y=some c:=by rw[hown];exact h
   rcases lk h with a|⟨_,a⟩
   ·exact C5 (e0.hok.fresh (X7 (above a)))
   ·exact G6 (clin a).2
  ·refine DQ.unC (e0.hok.kept hk) λb hb u e=>?_;obtain⟨_,o,_,h2,_⟩:=old b hb;rw[h2]at e;cases e;exact⟨o,rfl⟩
  ·show ((vs++Ed).map some).length=(ps++fns).length;rw[Wq,W1,W1,hl,<-hcl,Wq,Paired.lens hck]
 refine wpAny_mono (ht [] _ _ _ _ I hq) (λu s' hs=>?_) λe s' hs=>hs.elim
 obtain⟨v,H',J,rv,qq⟩:=hs
 have frn:∀b∈Cm outer,b∉Bj cl:=λb hb z=>by obtain⟨_,_,_,h2,_⟩:=old b z;rw[e0.frf b hb]at h2;cases h2
 have nC:∀{b:Addr} {u:HO},H b=some u->(∀o,u≠.frz o CM)->b∉Bj cl:=λh n=>hck.out h n
 have cz:∀b∈Bj cl,H' b=none:=λb hb=>by obtain⟨_,o,_,_,ho⟩:=old b hb;exact J.base.free b o ho (G6 hb) (noA b)
 refine⟨v,Ud cl H H',J.os,J.bare,⟨λb o e n h1 h2=>J.base.keep b o e (C5 n) h1 h2,λb o e n h1 h2=>J.base.slot b o e (C5 n) h1 h2,λb o e n h2=>?_,J.base.there,λb xs e=>?_,λb o u e=>?_,λb qs e=>?_⟩,λb u e=>?_,rv,qq cz⟩
 ·have hb:b∉Bj cl:=λz=>by
   obtain⟨_,_,_,h2,_⟩:=old b z;rw[n]at h2;cases h2
  rw[Cz hb];exact J.base.free b o e (C5 n) h2
 ·have hb:=nC e (by intro o z;cases z);rw[Cz hb];exact J.base.tups b xs (by show Hl cl H b=_;rw[Bl hb];exact e)
 ·by_cases hb:b∈Bj cl
  ·rw[Lg hb];exact e
  ·rw[Cz hb];exact J.base.frzs b o u (by show Hl cl H b=_;rw[Bl hb];exact e)
 ·have hb:=nC e (by intro o z;cases z);rw[Cz hb];exact J.base.tbls b qs (by show Hl cl H b=_;rw[Bl hb];exact e)
 ·by_cases hb:b∈Bj cl
  ·rw[Lg hb]at e;obtain⟨_,o,_,h2,ho⟩:=old b hb;rw[h2]at e;cases e;refine G5 (J.base.keep b o ho (G6 hb) (λz=>frn b z hb) (noA b))
  ·rw[Cz hb]at e;refine (J.hok b u e).stay (λ_ _ _ q=>q) (λc q=>?_) λc xs q=>?_
   ·rw[Cz (λz=>by rw[cz c z]at q;cases q)];exact q
   ·rw[Cz (λz=>by rw[cz c z]at q;cases q)];exact q
structure Sc(K:qJ)(x qual:Str)(st:Stmt)(f c Pt:Addr)(fd:FuncData):Prop where
 ex:∃(oc:Value) (od:Option Addr) (kV doc pm:Value) (an:Option Addr) (ct:Value) (osl:Array (Option Value)),
  fd=PySem.W.fnOf x qual (DB st) (Bc st) (AH st) .none kV doc pm an (.ref c) ct/\K.lookup f=some ⟨oc,od,.func fd,osl⟩/\PySem.W.codeIn K (.ref c) qual=true
 kp:PySem.W.keepIn K (.ref f)=true
 hd:PySem.W.codeHdIn K c Pt=true
section
variable{P:Program}{w:World}{K:qJ}{mg:Str->Option Value}{base:Heap}{st:Stmt}{c Pt:Addr}{N:List Str}{k:Nat}
theorem Ue(D:∃fd,Sc K x qual st f c Pt fd)(S:AK N ps (AH st))(bd:DS x qual st ps) (h:∀vs H Q E,sp vs H Q E->vs.length=ps.length /\
  ∀(A:Around) (outer:List Env) (s:Shared),Bn k (A.deeper (envOfC qual (AH st) s.heap.objs.size f (.ref c))) ->
   ∃t,Fm (DL (Hj P w) P w K mg base N qual (AH st) f (.ref c) A outer s H E) (Bc st) t/\t {nx:=λ_ H'=>Q .non H',rt:=Q} (Ck N vs) H):Aw P w K mg base (k+1) f ps sp:=by
 obtain⟨fd,⟨oc,od,kV,doc,pm,an,ct,osl,rfl,lk,hcd⟩,kp,hd⟩:=D;exact⟨⟨_,Qw lk hcd S (λvs H Q E q=>(h vs H Q E q).1) λA outer s H vs Q E hr q=>(h vs H Q E q).2 A outer s hr,.all (bd kV doc pm an (.ref c) ct)⟩,kp⟩
def Ma(K:qJ)(x:Str)(st:Stmt)(f c Pt:Addr):Prop:=(∃fd,Sc K x x st f c Pt fd)/\PySem.W.nsIn K mainGlobals x=some (some (.ref f))
theorem Qc{kV pm ct:Value}(a:PySem.W.nsIn K mainGlobals x=some (some (.ref f)))
  (l:K.lookup f=some ⟨oc,od,.func (PySem.W.fnOf x x (DB st) (Bc st) (AH st) .none kV doc pm an (.ref c) ct),osl⟩) (e:PySem.W.codeIn K (.ref c) x=true) (k:PySem.W.keepIn K (.ref f)=true) (h:PySem.W.codeHdIn K c Pt=true):Ma K x st f c Pt:=
 ⟨⟨_,⟨⟨oc,od,kV,doc,pm,an,ct,osl,rfl,l,e⟩,k,h⟩⟩,a⟩
end
section
variable{P:Addr}
theorem BC.at(t:BC pos q P H):∃ps,H P=some (.tbl ps):=by obtain⟨ps,h,_⟩:=t;exact⟨ps,h⟩
theorem BW.get(e:BW P H H')(t:BC pos q P H){o:HO}(h:H b=some o)(n:∀ps,o≠.tbl ps):H' b=some o:=by obtain⟨ps,hp⟩:=t.at;exact e b o (λz=>by rw[z,hp]at h;cases h;exact n _ rfl) h
theorem BW.free(e:BW P H H')(t:BC pos q P H')(h:H' b=none):H b=none:=by
 cases z:H b with
 |none=>rfl
 |some o =>
  have n:b≠P:=λy=>by obtain⟨ps,hp⟩:=t.at;rw[y,hp]at h;cases h
  rw[e b o n z]at h;cases h
end
theorem Nd{K:qJ}{body:Expr}{cl:List (Str×Addr)}{pm ct:Value}
  (h:∀us:List Value,us.length=ps.length->bindArgs (PySem.W.kla_fn name q params body scope cl pm cdv ct) ⟨us,[]⟩=pure (ps.zip us)):D3 K (PySem.W.kla_fn name q params body scope cl pm cdv ct) ps []:=.all h
theorem Mb{K:qJ}:∀{ts:List Addr},(∀P∈ts,∃c,PySem.W.codeHdIn K c P=true)->(∀P∈ts,K.lookup P=none)->∃cts:List (Addr×Addr),cts.map (·.2)=ts/\Ox K cts
 |[],_,_=>⟨[],rfl,λq hq=>qG hq W6⟩
 |P::ts,h1,h2=>by
  obtain⟨c,hc⟩:=h1 P W7;obtain⟨cts,e,h⟩:=Mb (λP hP=>h1 P (XD _ hP)) λP hP=>h2 P (XD _ hP)
  refine⟨(c,P)::cts,by rw[Xt,e],λq hq=>?_⟩;rcases XE.mp hq with z|z
  ·rw[z];exact⟨hc,h2 P W7⟩
  ·exact h q z
inductive JG(K:qJ)(ts:List Addr)(vs:List V)(H:Hp)(Q:VK)(z3_:XK):Prop
 |m (a:Addr) (ns:List Int):vs=[.ref a]->Ab K H a (ns.map V.int)->ns.length<=63->(∀P∈ts,H P=some (.tbl #[]))->(∀H',Q (.bl true) H')->JG K ts vs H Q z3_
theorem Nf{l:PySem.W.OpenLaw}{n k:Nat}{q:Program}{loose:List Str}{XP:(Str->Option Value)->Heap->Prop}{YP:World->Heap->Prop}{d:DefRec}{K:Params->qJ}{ts:List Addr}
  (hn:l.most=some 63) (hdf:d.params.defaults=[]) (hr:Bn k callerA)
  (hY:∀(w:World) (h:Heap),YP w h->(K w.params).In h/\∀P∈ts,h.get? P=some (PySem.W.tabObj #[])) (hT:∀w:World,∀P∈ts,(K w.params).lookup P=none)
  (F:∀(w:World) (mg:Str->Option Value) (fa:Addr) (h:Heap),(K w.params).In h->h.Ns mainGlobals mg->mg d.name=some (.ref fa) ->
   (∀P∈ts,∃c,PySem.W.codeHdIn (K w.params) c P=true)/\∃fd:FuncData,(∀(s:Shared) (u:Value),BindsTo s fd ⟨[u],[]⟩ [(x,u)]) /\
    ∀base:Heap,(K w.params).In base->base.Ns mainGlobals mg->G4 mg base->EY l.prog w (K w.params) mg base (Hj l.prog w) k fa fd [x] (JG (K w.params) ts)):
  PySem.W.WalkO q loose XP YP l.row.toRowW d [] (λf vs=>PySem.call f vs):=by
 refine Att.attach_call hn hdf λw s₀ s₁ mg mb fa o pm cd doc a vs ns G Y ho hd hcd hmg hobj hints hlen hg=>?_;obtain⟨KX,TX⟩:=hY w _ Y;obtain⟨hc,fd,hb,hF⟩:=F w mg fa _ KX G.T.g hmg;obtain⟨cts,rfl,hT'⟩:=Mb hc (hT w);exact Nc KX G.T.g G.T.b G.T.builtins G.T.nolimit G.T.bmain hg hT' (λq hq=>TX _ (XT.mpr ⟨q,hq,rfl⟩)) hobj hints (Xa hlen (by decide)) hr hF hb (λH hO hS=>⟨a,ns,rfl,hS,hlen,hO.2,λ_=>rfl⟩) λH e s' ⟨_,_,_,_,_,_,_,_,z⟩=>z
end L2
namespace L2
open PySem PySem.Spec PyProof.Rows RW
variable{G i j mf:Nat}{H H':Hp}{a d f p r:Addr}{g lf:Int}{kvs:List (Bu×V)}{params:Arguments}{pos:Pos}{q:Str}{scope:Scope}{tab tf:List Int}{xs:List V}{α β:Type}
def Ai(A:List Int)(vs:List V):List (Bu×V):=List.zipWith (λa v=>(Sum.inl a,v)) A vs
theorem CB{A:List Int}{vs:List V}(h:vs.length=A.length):(Ai A vs).length=A.length:=by unfold Ai;rw[List.length_zipWith,h,Nat.min_self]
theorem O3{a b:Int}(h:a≠b):¬(Sum.inl a:Bu)=Sum.inl b:=λe=>h (Sum.inl.inj e)
theorem Cb:∀{A:List Int} {vs:List V} {a:Int},a∉A->CY (Ai A vs) (Sum.inl a)=none
 |[],_,_,_=>rfl
 |_::_,[],_,_=>rfl
 |b::A,v::vs,a,h=>by show CY ((Sum.inl b,v)::Ai A vs) (Sum.inl a)=none;rw[ED (show ¬(Sum.inl b,v).1=Sum.inl a from O3 λe=>h (by rw[e];exact W7))];exact Cb λe=>h (XD _ e)
theorem Bi:∀{A:List Int} {vs:List V} {i:Nat} {a:Int} {v:V},A.Nodup->A[i]?=some a->vs[i]?=some v->CY (Ai A vs) (Sum.inl a)=some v
 |[],_,_,_,_,_,h,_=>by simp at h
 |_::_,[],_,_,_,_,_,h=>by simp at h
 |b::A,v::vs,0,a,w,nd,h1,h2=>by simp at h1 h2;subst h1 h2;exact FD rfl
 |b::A,v::vs,i+1,a,w,nd,h1,h2=>by simp at h1 h2;have nd':=Xl.mp nd;show CY ((Sum.inl b,v)::Ai A vs) (Sum.inl a)=some w;rw[ED (show ¬(Sum.inl b,v).1=Sum.inl a from O3 λe=>nd'.1 (by rw[e];exact Wy h1))];exact Bi nd'.2 h1 h2
theorem DX{A:List Int}{vs:List V}{a:Int}{v:V}(hl:vs.length=A.length)(h:a∉A):CZ (Ai A vs) (Sum.inl a) v=Ai (A++[a]) (vs++[v]):=by rw[Ob _ (Cb h)];unfold Ai;rw[List.zipWith_append hl.symm];rfl
theorem Mc{A:List Int}{vs:List V}{k:Bu}{v:V}(h:(Ai A vs)[i]?=some (k,v)):∃a,A[i]?=some a/\vs[i]?=some v/\k=Sum.inl a:=by
 unfold Ai at h;rw[List.getElem?_zipWith]at h;cases ha:A[i]? with
 |none=>rw[ha]at h;simp at h
 |some a =>
  cases hl:vs[i]? with
  |none=>rw[ha,hl]at h;simp at h
  |some l =>
   rw[ha,hl]at h;simp at h;exact⟨a,rfl,by rw[h.2],h.1.symm⟩
theorem C6{A:List α}{a:α}(h:a∈A):∃i:Nat,A[i]?=some a:=List.mem_iff_getElem?.mp h
theorem Ft{A:List α}{ls:List β}(n:ls.length=A.length){a:α}(h:A[i]?=some a):∃l,ls[i]?=some l:=
 ⟨ls[i]'(by rw[n];exact (Ws.mp h).1),Wx _⟩
theorem C7{A:List Int}{vs:List V}{a:Int}(n:vs.length=A.length)(nd:A.Nodup):(CY (Ai A vs) (Sum.inl a)).isSome=decide (a∈A):=by
 by_cases h:a∈A
 ·obtain⟨i,hi⟩:=C6 h;obtain⟨v,hv⟩:=Ft n hi;rw[Bi nd hi hv,qH h];rfl
 ·rw[Cb h,qI h];rfl
structure EF(H:Hp)(ls:List Addr)(A:List Int)(F:Int->List Int):Prop where
 n:ls.length=A.length
 nd:ls.Nodup
 e:∀(i:Nat) (a:Int) (l:Addr),A[i]?=some a->ls[i]?=some l->H l=some (.lst ((F a).map V.int))
section
variable{ls:List Addr}{A:List Int}{F:Int->List Int}
theorem EF.nil:EF H [] [] F:=⟨rfl,List.nodup_nil,λi a l z=>by simp at z⟩
theorem EF.same(e:AG H H')(g:EF H ls A F):EF H' ls A F:=⟨g.n,g.nd,λi a l h1 h2=>e _ _ (g.e i a l h1 h2)⟩
theorem EF.snoc(g:EF H ls A F){l:Addr}{a:Int}(hl:l∉ls)(h:H l=some (.lst ((F a).map V.int))):EF H (ls++[l]) (A++[a]) F:=by
 refine⟨by rw[W1,W1,g.n];rfl,Xq.mpr ⟨g.nd,Xl.mpr ⟨W6,YK⟩,λx hx y hy e=>hl (by rw[<-Wr.mp hy,<-e];exact hx)⟩,λi b k h1 h2=>?_⟩
 by_cases z:i<A.length
 ·rw[XX z]at h1;rw[XX (by rw[g.n];exact z)]at h2;exact g.e i b k h1 h2
 ·rw[XB (by lia)]at h1;rw[XB (by rw[g.n];lia),g.n]at h2;have z0:i-A.length=0:=by have:=(Ws.mp h1).1;simp at this;lia
  rw[z0]at h1 h2;cases h1;cases h2;exact h
theorem EF.out(g:EF H ls A F){l:Addr}(h:∀xs,H l≠some (.lst xs)):l∉ls:=λz=>by obtain⟨i,hi⟩:=C6 z;obtain⟨a,ha⟩:=Ft g.n.symm hi;exact h _ (g.e i a l ha hi)
theorem EF.new(g:EF H ls A F){l:Addr}(h:H l=none):l∉ls:=g.out λxs z=>by rw[h]at z;cases z
theorem EF.keep(g:EF H ls A F){l:Addr}(nl:l∉ls)(v:HO):EF (Ae H l v) ls A F:=
 ⟨g.n,g.nd,λi a k h1 h2=>by rw[AI λe=>nl (by rw[<-e];exact Wy h2)];exact g.e i a k h1 h2⟩
theorem EF.push(g:EF H ls A F)(nd:A.Nodup){p0 x:Int}{l:Addr}(hj:A[j]?=some p0)(hl:ls[j]?=some l):EF (Ae H l (.lst ((F p0++[x]).map V.int))) ls A (λp=>if p0=p then F p++[x] else F p):=
 ⟨g.n,g.nd,λi a k h1 h2=>by
  by_cases e:p0=a
  ·subst e;have ij:i=j:=by have a1:=Ws.mp h1;have a2:=Ws.mp hj;exact (ZO (h₀:=a1.1) (h₁:=a2.1) nd).mp (by rw[a1.2,a2.2])
   subst ij;rw[hl]at h2;cases h2;rw[AC,qF rfl]
  ·have kl:k≠l:=λz=>by
    subst z;have b1:=Ws.mp h2;have b2:=Ws.mp hl;have ij:i=j:=(ZO (h₀:=b1.1) (h₁:=b2.1) g.nd).mp (by rw[b1.2,b2.2]);subst ij;rw[hj]at h1;exact e (Option.some.inj h1)
   rw[AI kl,qE e];exact g.e i a k h1 h2⟩
end
inductive F2(S:List Int)(F:Int->List Int):Int->Prop
 |base {s:Int}:s∈S->F2 S F s
 |step {a b:Int}:F2 S F a->b∈F a->F2 S F b
structure By(S:List Int)(F:Int->List Int)(A:List Int):Prop where
 nd:A.Nodup
 st:∀s∈S,s∈A
 cl:∀a∈A,∀b∈F a,b∈A
 co:∀a∈A,F2 S F a
structure Fe(S:List Int)(F:Int->List Int)(A W:List Int):Prop where
 nd:A.Nodup
 st:∀s∈S,s∈A\/s∈W
 cl:∀a∈A,∀b∈F a,b∈A\/b∈W
 co:∀a,a∈A\/a∈W->F2 S F a
section
variable{S:List Int}{F:Int->List Int}{A W:List Int}
theorem Fe.start:Fe S F [] S:=⟨YK,λ_ h=>.inr h,λ_ h=>qG h W6,λ_ h=>.base (h.resolve_left W6)⟩
theorem Fe.done(r:Fe S F A []):By S F A:=⟨r.nd,λs h=>(r.st s h).resolve_right W6,λa h b hb=>(r.cl a h b hb).resolve_right W6,λa h=>r.co a (.inl h)⟩
theorem Fe.old{x:Int}(r:Fe S F A (W++[x]))(h:x∈A):Fe S F A W:=by
 have k:∀{b:Int},b∈A\/b∈W++[x]->b∈A\/b∈W:=λ{b} z=>z.elim .inl λz=>(Ww.mp z).elim .inr λz=>.inl (by rw[Wr.mp z];exact h)
 exact⟨r.nd,λs z=>k (r.st s z),λa z b hb=>k (r.cl a z b hb),λa z=>r.co a (z.imp id λz=>Ww.mpr (.inl z))⟩
theorem Fe.next{x:Int}(r:Fe S F A (W++[x]))(h:x∉A):Fe S F (A++[x]) (W++F x):=by
 have k:∀{b:Int},b∈A\/b∈W++[x]->b∈A++[x]\/b∈W++F x:=λ{b} z=>z.elim (λz=>.inl (Ww.mpr (.inl z))) λz=>(Ww.mp z).elim (λz=>.inr (Ww.mpr (.inl z))) λz=>.inl (Ww.mpr (.inr z))
 have cx:=r.co x (.inr (Ww.mpr (.inr (Wr.mpr rfl))));refine⟨Xq.mpr ⟨r.nd,Xl.mpr ⟨W6,YK⟩,λa ha b hb e=>h (by rw[<-Wr.mp hb,<-e];exact ha)⟩,λs z=>k (r.st s z),λa ha b hb=>?_,λa ha=>?_⟩
 ·rcases Ww.mp ha with z|z
  ·exact k (r.cl a z b hb)
  ·rw[Wr.mp z]at hb;exact .inr (Ww.mpr (.inr hb))
 ·rcases ha with z|z
  ·rcases Ww.mp z with z|z
   ·exact r.co a (.inl z)
   ·rw[Wr.mp z];exact cx
  ·rcases Ww.mp z with z|z
   ·exact r.co a (.inr (Ww.mpr (.inl z)))
   ·exact .step cx z
theorem DY{N:Nat}{A:List Int}(nd:A.Nodup)(h:∀a∈A,0<=a/\a<(N:Int)):A.length<=N:=by
 have e:=nd.length_le_of_subset (l₂:=(List.range N).map λn:Nat=>(n:Int)) λa ha=>by obtain⟨a0,a1⟩:=h a ha;exact XT.mpr ⟨a.toNat,Xv.mpr (by lia),by lia⟩
 rwa [Wq,W8]at e
theorem F2.low{N:Nat}(hS:∀s∈S,0<=s/\s<(N:Int))(hF:∀x,0<=x->x<(N:Int)->∀y∈F x,0<=y/\y<(N:Int)){a:Int}(c:F2 S F a):0<=a/\a<(N:Int):=by
 induction c with
 |base h=>exact hS _ h
 |step _ h ih=>exact hF _ ih.1 ih.2 _ h
end
structure JH(A:List Int)(F:Int->List Int)(A2:List Int)(B:Int->List Int):Prop where
 nd:A2.Nodup
 all:∀p,p∈A2↔p∈A
 on:∀p q,q∈B p↔q∈A/\p∈F q
 len:∀p,(B p).length<=6000
structure G8(A:List Int)(F:Int->List Int)(i:Nat)(D:Int->Int->Prop)(n:Nat)(A2:List Int)(B:Int->List Int):Prop where
 nd:A2.Nodup
 sub:∀p∈A2,p∈A
 got:∀p∈A.take i,p∈A2
 no:∀p,p∉A2->B p=[]
 on:∀p q,q∈B p↔(q∈A.take i/\p∈F q)\/D p q
 len:∀p,(B p).length<=n
section
variable{A:List Int}{F:Int->List Int}{n:Nat}{D:Int->Int->Prop}{A2:List Int}{B:Int->List Int}
theorem G8.start:G8 A F 0 (λ_ _=>False) 0 [] λ_=>[]:=⟨List.nodup_nil,λp hp=>qG hp List.not_mem_nil,λp hp=>qG hp (by simp),λ_ _=>rfl,λp q=>by simp,λ_=>Nat.zero_le _⟩
theorem G8.key(t:G8 A F i D n A2 B){k:Int}(hk:k∉A2)(hA:k∈A):G8 A F i D n (A2++[k]) B where
 nd:=Xq.mpr ⟨t.nd,Xl.mpr ⟨W6,YK⟩,λx hx y hy e=>hk (by rw[<-Wr.mp hy,<-e];exact hx)⟩
 sub:=λp hp=>(Ww.mp hp).elim (t.sub p) λz=>by rw[Wr.mp z];exact hA
 got:=λp hp=>Ww.mpr (.inl (t.got p hp))
 no:=λp hp=>t.no p λz=>hp (Ww.mpr (.inl z))
 on:=t.on
 len:=t.len
theorem G8.inner(t:G8 A F i (λ_ _=>False) n A2 B)(a:Int):G8 A F i (λp q=>q=a/\p∈(F a).take 0) n A2 B:=⟨t.nd,t.sub,t.got,t.no,λp q=>by rw[t.on];simp,t.len⟩
theorem G8.push{a p0:Int}{L:List Int}(t:G8 A F i (λp q=>q=a/\p∈L.take j) n A2 B)(hp:L[j]?=some p0)(m:p0∈A2):G8 A F i (λp q=>q=a/\p∈L.take (j+1)) (n+1) A2 (λp=>if p0=p then B p++[a] else B p) where
 nd:=t.nd
 sub:=t.sub
 got:=t.got
 no:=λp h=>by rw[qE λe=>h (by rw[<-e];exact m)];exact t.no p h
 on:=λp q=>by
  rw[Xw,hp,show (some p0).toList=[p0] from rfl,Ww,Wr]
  by_cases e:p0=p
  ·rw[qF e,Ww,Wr,t.on];constructor
   ·rintro ((h|⟨h1,h2⟩)|h)
    ·exact .inl h
    ·exact .inr ⟨h1,.inl h2⟩
    ·exact .inr ⟨h,.inr e.symm⟩
   ·rintro (h|⟨h1,_⟩)
    ·exact .inl (.inl h)
    ·exact .inr h1
  ·rw[qE e,t.on];constructor
   ·rintro (h|⟨h1,h2⟩)
    ·exact .inl h
    ·exact .inr ⟨h1,.inl h2⟩
   ·rintro (h|⟨h1,h2|h2⟩)
    ·exact .inl h
    ·exact .inr ⟨h1,h2⟩
    ·exact qG h2.symm e
 len:=λp=>by
  have:=t.len p
  by_cases e:p0=p
  ·rw[qF e,W1,XM];lia
  ·rw[qE e];lia
theorem G8.outer{a:Int}(t:G8 A F i (λp q=>q=a/\p∈(F a).take (F a).length) n A2 B)(ha:A[i]?=some a)(m:a∈A2){n':Nat}(h:n<=n'):G8 A F (i+1) (λ_ _=>False) n' A2 B where
 nd:=t.nd
 sub:=t.sub
 got:=λp hp=>by
  rw[Xw,ha,show (some a).toList=[a] from rfl]at hp;rcases Ww.mp hp with z|z
  ·exact t.got p z
  ·rw[Wr.mp z];exact m
 no:=t.no
 on:=λp q=>by
  rw[t.on,Xw,ha,show (some a).toList=[a] from rfl,Ww,Wr,XZ,or_false];constructor
  ·rintro (⟨h1,h2⟩|⟨rfl,h2⟩)
   ·exact⟨.inl h1,h2⟩
   ·exact⟨.inr rfl,h2⟩
  ·rintro⟨h1|rfl,h2⟩
   ·exact .inl ⟨h1,h2⟩
   ·exact .inr ⟨rfl,h2⟩
 len:=λp=>Xa (t.len p) h
theorem G8.done(t:G8 A F A.length (λ_ _=>False) n A2 B)(h:n<=6000):JH A F A2 B where
 nd:=t.nd
 all:=λp=>⟨t.sub p,λhp=>t.got p (by rw[XZ];exact hp)⟩
 on:=λp q=>by rw[t.on,XZ,or_false]
 len:=λp=>Xa (t.len p) h
end
structure DZ(A:List Int)(F:Int->List Int)(E:List Int)(M:List Int)(f:Int->Nat):Prop where
 nd:M.Nodup
 sub:∀p∈M,p∈A\/p∈E
 ends:∀p∈E,p∈M/\f p=0
 zero:∀p∈M,f p=0->p∈E
 down:∀p∈M,∀n,f p=n+1->p∈A/\∃q∈F p,q∈M/\f q=n
 up:∀p∈A,∀q∈F p,q∈M->p∈M/\f p<=f q+1
structure JI(A:List Int)(F:Int->List Int)(E:List Int)(M:List Int)(f:Int->Nat)(n:Nat)(L R:List Int):Prop where
 nd:M.Nodup
 sub:∀p∈M,p∈A\/p∈E
 subL:∀p,p∈L\/p∈R->p∈A\/p∈E
 ends:∀p∈E,(p∈M/\f p=0)\/(n=0/\p∈L)
 zero:∀p∈M,f p=0->p∈E
 down:∀p∈M,∀m,f p=m+1->p∈A/\∃q∈F p,q∈M/\f q=m
 le:∀p∈M,f p<=n
 next:∀p∈L,p∈M\/(n=0/\p∈E)\/∃m,n=m+1/\p∈A/\∃q∈F p,q∈M/\f q=m
 more:∀p∈R,p∈A/\∃q∈F p,q∈M/\f q=n
 up:∀p∈A,∀q∈F p,q∈M->(p∈M/\f p<=f q+1)\/(f q+1=n/\p∈L)\/(f q=n/\p∈R)
section
variable{A:List Int}{F:Int->List Int}{E M:List Int}{f:Int->Nat}{n:Nat}{L R:List Int}
theorem JI.start:JI A F E [] f 0 E [] where
 nd:=YK
 sub:=λp hp=>qG hp W6
 subL:=λp hp=>.inr (hp.resolve_right W6)
 ends:=λp hp=>.inr ⟨rfl,hp⟩
 zero:=λp hp=>qG hp W6
 down:=λp hp=>qG hp W6
 le:=λp hp=>qG hp W6
 next:=λp hp=>.inr (.inl ⟨rfl,hp⟩)
 more:=λp hp=>qG hp W6
 up:=λp _ q _ hq=>qG hq W6
theorem JI.skip{x:Int}(w:JI A F E M f n (x::L) R)(h:x∈M):JI A F E M f n L R where
 nd:=w.nd
 sub:=w.sub
 subL:=λp hp=>w.subL p (hp.imp (XD _) id)
 ends:=λp hp=>by
  rcases w.ends p hp with z|⟨z,y⟩
  ·exact .inl z
  ·rcases XE.mp y with y|y
   ·exact .inl ⟨by rw[y];exact h,by have:=w.le x h;rw[y];lia⟩
   ·exact .inr ⟨z,y⟩
 zero:=w.zero
 down:=w.down
 le:=w.le
 next:=λp hp=>w.next p (XD _ hp)
 more:=w.more
 up:=λp hp q hq hM=>by
  rcases w.up p hp q hq hM with z|⟨z,y⟩|z
  ·exact .inl z
  ·rcases XE.mp y with y|y
   ·exact .inl ⟨by rw[y];exact h,by have:=w.le x h;rw[y];lia⟩
   ·exact .inr (.inl ⟨z,y⟩)
  ·exact .inr (.inr z)
theorem JI.take{x:Int}{B:Int->List Int}(w:JI A F E M f n (x::L) R)(h:x∉M)(hB:∀q,q∈B x↔q∈A/\x∈F q):JI A F E (M++[x]) (λp=>if p∈M then f p else n) n L (R++B x):=by
 have old:∀{p:Int},p∈M->(if p∈M then f p else n)=f p:=λz=>qF z
 have new:(if x∈M then f x else n)=n:=qE h;have mx:x∈M++[x]:=Ww.mpr (.inr (Wr.mpr rfl));have mM:∀{p:Int},p∈M->p∈M++[x]:=λz=>Ww.mpr (.inl z)
 refine⟨Xq.mpr ⟨w.nd,Xl.mpr ⟨W6,YK⟩,λa ha b hb e=>h (by rw[<-Wr.mp hb,<-e];exact ha)⟩,λp hp=>?_,λp hp=>?_,λp hp=>?_,λp hp=>?_,λp hp m e=>?_,λp hp=>?_,λp hp=>?_,λp hp=>?_,λp hp q hq hM=>?_⟩
 ·rcases Ww.mp hp with z|z
  ·exact w.sub p z
  ·rw[Wr.mp z];exact w.subL x (.inl W7)
 ·rcases hp with z|z
  ·exact w.subL p (.inl (XD _ z))
  ·rcases Ww.mp z with z|z
   ·exact w.subL p (.inr z)
   ·exact .inl ((hB p).mp z).1
 ·rcases w.ends p hp with⟨z,y⟩|⟨z,y⟩
  ·exact .inl ⟨mM z,by rw[old z];exact y⟩
  ·rcases XE.mp y with y|y
   ·exact .inl ⟨by rw[y];exact mx,by rw[y,new];exact z⟩
   ·exact .inr ⟨z,y⟩
 ·rcases Ww.mp hp with z|z
  ·intro e;rw[old z]at e;exact w.zero p z e
  ·rw[Wr.mp z,new];intro e;rcases w.next x W7 with y|⟨_,y⟩|⟨m,y,_⟩
   ·exact qG y h
   ·exact y
   ·lia
 ·rcases Ww.mp hp with z|z
  ·rw[old z]at e;obtain⟨h1,q,h2,h3,h4⟩:=w.down p z m e;exact⟨h1,q,h2,mM h3,by rw[old h3];exact h4⟩
  ·rw[Wr.mp z,new]at e;rw[Wr.mp z];rcases w.next x W7 with y|⟨y,_⟩|⟨m',y,h1,q,h2,h3,h4⟩
   ·exact qG y h
   ·lia
   ·exact⟨h1,q,h2,mM h3,by rw[old h3];lia⟩
 ·rcases Ww.mp hp with z|z
  ·rw[old z];exact w.le p z
  ·rw[Wr.mp z,new];exact Wv _
 ·rcases w.next p (XD _ hp) with z|z|⟨m,h1,h2,q,h3,h4,h5⟩
  ·exact .inl (mM z)
  ·exact .inr (.inl z)
  ·exact .inr (.inr ⟨m,h1,h2,q,h3,mM h4,by rw[old h4];exact h5⟩)
 ·rcases Ww.mp hp with z|z
  ·obtain⟨h1,q,h2,h3,h4⟩:=w.more p z;exact⟨h1,q,h2,mM h3,by rw[old h3];exact h4⟩
  ·obtain⟨h1,h2⟩:=(hB p).mp z;exact⟨h1,x,h2,mx,new⟩
 ·rcases Ww.mp hM with z|z
  ·rw[old z];rcases w.up p hp q hq z with⟨h1,h2⟩|⟨h1,h2⟩|⟨h1,h2⟩
   ·exact .inl ⟨mM h1,by rw[old h1];exact h2⟩
   ·rcases XE.mp h2 with y|y
    ·exact .inl ⟨by rw[y];exact mx,by rw[y,new];lia⟩
    ·exact .inr (.inl ⟨h1,y⟩)
   ·exact .inr (.inr ⟨h1,Ww.mpr (.inl h2)⟩)
  ·have e:=Wr.mp z;subst e;rw[new];exact .inr (.inr ⟨rfl,Ww.mpr (.inr ((hB p).mpr ⟨hp,hq⟩))⟩)
theorem JI.round(w:JI A F E M f n [] R):JI A F E M f (n+1) R [] where
 nd:=w.nd
 sub:=w.sub
 subL:=λp hp=>w.subL p (.inr (hp.resolve_right W6))
 ends:=λp hp=>.inl ((w.ends p hp).resolve_right λz=>qG z.2 W6)
 zero:=w.zero
 down:=w.down
 le:=λp hp=>Nat.le_succ_of_le (w.le p hp)
 next:=λp hp=>.inr (.inr ⟨n,rfl,w.more p hp⟩)
 more:=λp hp=>qG hp W6
 up:=λp hp q hq hM=>by
  rcases w.up p hp q hq hM with z|⟨_,z⟩|⟨z,y⟩
  ·exact .inl z
  ·exact qG z W6
  ·exact .inr (.inl ⟨by lia,y⟩)
theorem JI.done(w:JI A F E M f n [] []):DZ A F E M f where
 nd:=w.nd
 sub:=w.sub
 ends:=λp hp=>(w.ends p hp).resolve_right λz=>qG z.2 W6
 zero:=w.zero
 down:=w.down
 up:=λp hp q hq hM=>(w.up p hp q hq hM).resolve_right λz=>z.elim (λz=>qG z.2 W6) λz=>qG z.2 W6
theorem JI.few(w:JI A F E M f n L R):M.length<=A.length+E.length:=by rw[<-W1];exact w.nd.length_le_of_subset λp hp=>Ww.mpr (w.sub p hp)
end
def O4(P:Program)(w:World)(K:qJ)(mg:Str->Option Value)(base:Heap)(k:Nat)(f:Addr)(F:Int->List Int)(N:Nat)(H:Hp):Prop:=∃fd ps sp oc od fd' sl,EY P w K mg base (Hj P w) k f fd ps sp/\D3 K fd ps []/\H f=some (.frz ⟨oc,od,.func fd',sl⟩ CM) /\
 ∀x:Int,0<=x->x<(N:Int)->∀(H1:Hp) (Q:VK),AG H H1->(∀l H2,AG H1 H2->H1 l=none->H2 l=some (.lst ((F x).map V.int))->Q (.ref l) H2)->sp [.int x] H1 Q E0
def Uf(N:Nat)(F:Int->List Int):Prop:=∀x,0<=x->x<(N:Int)->(F x).length<=9/\∀y∈F x,0<=y/\y<(N:Int)
inductive Ff(P:Program)(w:World)(K:qJ)(mg:Str->Option Value)(base:Heap)(k:Nat)(vs:List V)(H:Hp)(Q:VK)(z3_:XK):Prop
 |m (a f:Addr) (S:List Int) (N:Nat) (F:Int->List Int):vs=[.ref a,.ref f]->Ab K H a (S.map V.int)->S.length<=100->N<=512->(∀s∈S,0<=s/\s<(N:Int))->Uf N F->O4 P w K mg base k f F N H->(∀d H' ls A,AG H H'->H d=none->(∀l∈ls,H l=none)->H' d=some (.dK (Ai A (ls.map V.ref)))->EF H' ls A F->By S F A->(∀a∈A,0<=a/\a<(N:Int))->Q (.ref d) H')->Ff P w K mg base k vs H Q z3_
def WC(H HX:Hp)(d p:Addr)(S:List Int)(F:Int->List Int)(A W:List Int):Prop:=∃ls,AG H HX/\(∀l∈ls,H l=none)/\HX d=some (.dK (Ai A (ls.map V.ref)))/\EF HX ls A F/\HX p=some (.lst (W.map V.int))/\p∉ls/\Fe S F A W
theorem Li{l:List α}(h:l≠[]):∃r x,l=r++[x]:=⟨l.dropLast,l.getLast h,(List.dropLast_concat_getLast h).symm⟩
noncomputable def AL(g:Int)(tf:List Int)(x:Int):List Int:=(List.range g.toNat).map λs:Nat=>Gz g.toNat tf (tf.length/g.toNat) x (s:Int)
theorem BS(g:Int)(tf:List Int)(x:Int):(AL g tf x).length=g.toNat:=by unfold AL;rw[List.length_map,List.length_range]
theorem FG{h:Nat}(h9:h<=9):2^h<=512:=Xa (Nat.pow_le_pow_right (by decide) h9) (by decide)
theorem Et(g9:g<=9)(tf:List Int):Uf (2^(tf.length/g.toNat)) (AL g tf):=λx _ _=>by refine⟨by rw[BS];lia,λy hy=>?_⟩;unfold AL at hy;obtain⟨s,_,rfl⟩:=XT.mp hy;have:=GK (tf.length/g.toNat) (Dx g.toNat tf (tf.length/g.toNat) x (s:Int) (tf.length/g.toNat));rw[ZZ];exact this
abbrev Ag(g:Int)(tf:List Int):Int:=2^(tf.length/g.toNat)-1
theorem G9(g:Int)(tf:List Int):0<=Ag g tf/\Ag g tf<((2^(tf.length/g.toNat):Nat):Int):=by
 have:=GK (tf.length/g.toNat) λ_=>true
 rw[Ol]at this;rw[ZZ];exact⟨this.1,Int.sub_lt_self _ Int.one_pos⟩
theorem Ay.sameT{P:Addr}{lo:Int}{m:Nat}(e:BW P H H')(t:BC pos q P H)(h:Ay H r g lo tab m):Ay H' r g lo tab m:=by obtain⟨⟨tb,v1,v2⟩,h1,h2,h3,h4,h5,h6,h7⟩:=h;exact⟨⟨tb,e.get t v1 (λ_ z=>by cases z),e.get t v2 (λ_ z=>by cases z)⟩,h1,h2,h3,h4,h5,h6,h7⟩
theorem Pi.sameT{P:Addr}{ps:List Addr}{ws:List (List Int)}(e:BW P H H')(t:BC pos q P H)(h:Pi H p ps ws):Pi H' p ps ws:=
 ⟨e.get t h.l (λ_ z=>by cases z),h.n,λi q w h1 h2=>e.get t (h.e i q w h1 h2) (λ_ z=>by cases z)⟩
noncomputable def Da(x:Str):Str:=x++".<locals>."++"<lambda>"
inductive GL(CT:Addr)(pos:Pos)(Pt:Addr)(vs:List V)(H:Hp)(Q:VK)(E:XK):Prop
 |m (r:Addr) (g lo:Int) (tab:List Int) (m:Nat) (lf:Int) (tf:List Int) (mf:Nat):vs=[.ref r]->Ay H r g lo tab m->Az g lo tab m lf tf mf->BC pos (Da "sets_reached") Pt H->(g^(mf-1)<=9->∀d H' ls A,BW Pt H H'->BC pos (Da "sets_reached") Pt H'->H d=none->(∀l∈ls,H l=none)->H' d=some (.dK (Ai A (ls.map V.ref)))->EF H' ls A (AL g tf)->By [Ag g tf] (AL g tf) A->(∀a∈A,0<=a/\a<((2^(tf.length/g.toNat):Nat):Int))->Q (.ref d) H')->(9<g^(mf-1)->∀H',AG H H'->E (.ref CT) none H')->GL CT pos Pt vs H Q E
variable{F:Int->List Int}
theorem Lj{P:Program}{w:World}{K:qJ}{mg:Str->Option Value}{base:Heap}{k:Nat}{body:Expr}{cl:List (Str×Addr)}{N:Nat}{Ed:List V}{x1:Str}{fns:List Str}
  (la:IV q params body scope cl f H) (ck:Co cl Ed H) (S:KY [x1] fns scope) (hcl:cl.map (·.1)=fns) (hnd:(Bj cl).Nodup) (hbind:∀(pm cdv ct:Value) (us:List Value),us.length=1->bindArgs (PySem.W.kla_fn "<lambda>" q params body scope cl pm cdv ct) ⟨us,[]⟩=pure ([x1].zip us))
  (hbody:∀(c':Addr) (A:Around) (outer:List Env) (s:Shared) (HA:Hp) (x:Int),Bn k (A.deeper (PySem.W.envX q scope s.heap.objs.size f (.ref c') (cellsFrom (s.heap.objs.size+1) scope.names []++cl)))->0<=x->x<(N:Int)->AG H HA ->
   ∃t,PE (Vr P w K mg base (x1::fns) q scope f (.ref c') cl A outer s HA) body t/\∀Q:VK,(∀D H',AG (Hl cl HA) H'->Hl cl HA D=none->H' D=some (.lst ((F x).map V.int))->Q (.ref D) H')->t (some (.int x)::Ed.map some) (Hl cl HA) Q):
  O4 P w K mg base (k+1) f F N H:=by
 obtain⟨pm,c',ctv,oc,l1,l2,l3⟩:=la;refine⟨_,[x1],λvs HA QA _=>∃x:Int,vs=[.int x]/\0<=x/\x<(N:Int)/\AG H HA/\∀l H2,AG HA H2->HA l=none->H2 l=some (.lst ((F x).map V.int))->QA (.ref l) H2,_,_,_,_,Sb (q:=q) (params:=params) (body:=body) (scope:=scope) (cl:=cl) (fns:=fns) (pm:=pm) (ctv:=ctv) (c':=c') S hcl hnd ?_ ?_,Nd (hbind pm (.ref c') ctv),l1,λx x0 x1 HA QA eA qA=>⟨x,rfl,x0,x1,eA,qA⟩⟩
 ·rintro vs HA QA _ ⟨x,rfl,_⟩;rfl
 ·rintro A outer s HA vs QA EA hr ⟨x,rfl,x0,x1,eA,qA⟩;obtain⟨t,ht,hq⟩:=hbody c' A outer s HA x hr x0 x1 eA;refine⟨Ed,oc,eA _ _ l1,eA _ _ l2,l3,ck.same eA,t,ht,hq _ λD H' e1 hD hH cz=>?_⟩;have out:D∉Bj cl:=λz=>by rw[cz D z]at hH;cases hH
  exact qA D _ (O0 e1) (by rw[<-hD,Bl out]) (by rw[Cz out];exact hH)
inductive JJ(vs:List V)(H:Hp)(Q:VK)(z3_:XK):Prop
 |m (d:Addr) (ls:List Addr) (A:List Int) (F:Int->List Int):vs=[.ref d]->Rd H d (.dK (Ai A (ls.map V.ref)))->EF H ls A F->A.Nodup->(∀a∈A,∀p∈F a,p∈A)->A.length<=512->(∀a∈A,(F a).length<=9)->(∀o H' d2 ls2 A2 B,AG (Ae H d (.frz o (.dK (Ai A (ls.map V.ref))))) H'->H d2=none->(∀l∈ls2,H l=none)->H' d2=some (.dK (Ai A2 (ls2.map V.ref)))->EF H' ls2 A2 B->JH A F A2 B->Q (.ref d2) H')->JJ vs H Q z3_
def Qd(H HX:Hp)(d2:Addr)(A2:List Int)(B:Int->List Int):Prop:=∃ls2:List Addr,(∀l∈ls2,H l=none)/\HX d2=some (.dK (Ai A2 (ls2.map V.ref)))/\EF HX ls2 A2 B
theorem Qd.put{HX:Hp}{d2:Addr}{A2:List Int}{B:Int->List Int}{ls2:List Addr}{l:Addr}{k:Int}(ln:∀l∈ls2,H l=none)(w0:HX d2=some (.dK (Ai A2 (ls2.map V.ref))))(g:EF HX ls2 A2 B)(hl:HX l=some (.lst []))(nl:l∉ls2)(h0:H l=none)(hk:k∉A2)(hB:B k=[]):
  (∀x∈ls2++[l],H x=none)/\Ae HX d2 (.dK (CZ (Ai A2 (ls2.map V.ref)) (Sum.inl k) (.ref l))) d2=some (.dK (Ai (A2++[k]) ((ls2++[l]).map V.ref)))/\EF (Ae HX d2 (.dK (CZ (Ai A2 (ls2.map V.ref)) (Sum.inl k) (.ref l)))) (ls2++[l]) (A2++[k]) B:=by
 have d2n:d2∉ls2:=g.out λxs z=>by rw[w0]at z;cases z
 refine⟨λx hx=>?_,by rw[AC,DX (by rw[Wq];exact g.n) hk,W3];rfl,(g.keep d2n _).snoc nl ?_⟩
 ·rcases Ww.mp hx with z|z
  ·exact ln x z
  ·rw[Wr.mp z];exact h0
 ·rw[AI (Ls hl w0 λz=>by cases z),hB];exact hl
theorem AG.bothI{H0:Hp}(e:AG H H0)(d:Addr)(v:HO):AG (Ae H d v) (Ae H0 d v):=λb y h=>by
 by_cases z:b=d
 ·subst z;rw[AC]at h⊢;exact h
 ·rw[AI z]at h⊢;exact e b y h
theorem Rd.is(r:Rd H d (.dK kvs)):∃u,H d=some u/\(∀xs,u≠.lst xs):=by
 rcases r with r|⟨o,r⟩
 ·exact⟨_,r,λ_ z=>by cases z⟩
 ·exact⟨_,r,λ_ z=>by cases z⟩
abbrev DP(M:List Int)(f:Int->Nat):List (Bu×V):=Ai M (M.map λp=>V.int ((f p:Nat):Int))
theorem O5(M:List Int)(f:Int->Nat):(DP M f).length=M.length:=CB (by rw[Wq])
theorem O6{M:List Int}{f:Int->Nat}{x:Int}{n:Nat}(h:x∉M):CZ (DP M f) (Sum.inl x) (.int ((n:Nat):Int))=DP (M++[x]) (λp=>if p∈M then f p else n):=by
 unfold DP;rw[DX (by rw[Wq]) h]
 congr 1
 rw[W3,Xt,Y5]
 congr 1
 ·exact YO λp hp=>by show V.int ((f p:Nat):Int)=V.int (((if p∈M then f p else n):Nat):Int);rw[qF hp]
 ·show[V.int ((n:Nat):Int)]=[V.int (((if x∈M then f x else n):Nat):Int)];rw[qE h]
theorem HD{M:List Int}{f:Int->Nat}(nd:M.Nodup)(x:Int):CY (DP M f) (Sum.inl x)=if x∈M then some (.int ((f x:Nat):Int)) else none:=by
 by_cases h:x∈M
 ·obtain⟨i,hi⟩:=C6 h;rw[qF h];exact Bi nd hi (by rw[W0,hi];rfl)
 ·rw[qE h];exact Cb h
inductive JK(vs:List V)(H:Hp)(Q:VK)(z3_:XK):Prop
 |m (d e:Addr) (ls:List Addr) (A:List Int) (F:Int->List Int) (E:List Int):vs=[.ref d,.ref e]->Rd H d (.dK (Ai A (ls.map V.ref)))->EF H ls A F->A.Nodup->(∀a∈A,∀p∈F a,p∈A)->A.length<=512->(∀a∈A,(F a).length<=9)->H e=some (.lst (E.map V.int))->E.length<=600->(∀o H' d2 M f,AG (Ae H d (.frz o (.dK (Ai A (ls.map V.ref))))) H'->H d2=none->H' d2=some (.dK (DP M f))->DZ A F E M f->Q (.ref d2) H')->JK vs H Q z3_
def WD(HB HX:Hp)(d2 p:Addr)(A:List Int)(F:Int->List Int)(E:List Int)(M0:List Int)(n:Nat)(L:List Int):Prop:=∃M f R,AG HB HX/\HX d2=some (.dK (DP M f))/\HX p=some (.lst (R.map V.int))/\R.length<=M.length*6000/\(R=[]\/M0.length<M.length)/\M0.length<=M.length/\JI A F E M f n L R
noncomputable def BH(M:List Int)(f:Int->Nat)(x:Int):Option Nat:=if x∈M then some (f x) else none
noncomputable def Cc(F:Int->List Int)(fo:Int->Option Nat)(n:Nat)(x:Int):Nat:=(F x).findIdx λy=>fo y==some n
noncomputable def Bz(F:Int->List Int)(fo:Int->Option Nat):Nat->Int->List Int
 |0,_=>[]
 |n+1,x=>((Cc F fo n x:Nat):Int)::Bz F fo n ((F x).getD (Cc F fo n x) 0)
variable{fo:Int->Option Nat}
theorem Lk{n:Nat}{x y:Int}(h:y∈F x)(e:fo y=some n):∃z,(F x)[Cc F fo n x]?=some z/\fo z=some n/\(F x).getD (Cc F fo n x) 0=z/\Cc F fo n x<(F x).length/\∀m,m<Cc F fo n x->∀y,(F x)[m]?=some y->fo y≠some n:=by
 have lt:Cc F fo n x<(F x).length:=List.findIdx_lt_length_of_exists ⟨y,h,by rw[e];exact beq_self_eq_true _⟩;refine⟨_,Wx lt,?_,by rw[Wt,Wx lt];rfl,lt,λm hm y hy=>?_⟩
 ·have:=List.findIdx_getElem (w:=lt);exact eq_of_beq this
 ·have ml:m<(F x).length:=Nat.lt_trans hm lt;rw[Wx ml]at hy;cases hy;intro z;have:=List.not_of_lt_findIdx hm;rw[z]at this;simp at this
theorem DZ.down'{A:List Int}{E M:List Int}{f:Int->Nat}(w:DZ A F E M f):∀x n,BH M f x=some (n+1)->∃y∈F x,BH M f y=some n:=λx n e=>by
 unfold BH at e
 split at e
 ·rename_i m
  obtain⟨_,q,h1,h2,h3⟩:=w.down x m n (Option.some.inj e);exact⟨q,h1,by unfold BH;rw[qF h2,h3]⟩
 ·cases e
theorem BW.into{P:Addr}(e:BW P H H')(h:H d=none)(u:HO):BW P H (Ae H' d u):=λb o n q=>by rw[AI λz=>by rw[z,h]at q;cases q];exact e b o n q
theorem BC.into{P:Addr}(t:BC pos q P H){u v:HO}(h:H d=some u)(n1:∀ps,u≠.tbl ps)(n2:∀o,u≠.frz o CM):BC pos q P (Ae H d v):=by obtain⟨ps,h1,h2,h3⟩:=t;refine⟨ps,by rw[AI λz=>by rw[z,h]at h1;cases h1;exact n1 _ rfl];exact h1,h2,λcv hc=>?_⟩;obtain⟨c',oc,h4,h5,h6⟩:=h3 cv hc;exact⟨c',oc,h4,by rw[AI λz=>by rw[z,h]at h5;cases h5;exact n2 _ rfl];exact h5,h6⟩
theorem DZ.chain{A:List Int}{E M:List Int}{f:Int->Nat}(w:DZ A F E M f):∀(n:Nat) (p:Int),p∈M->f p=n->∃l:List Int,l.length=n+1/\l.Nodup/\∀q∈l,q∈M/\f q<=n
 |0,p,hp,e=>⟨[p],rfl,Xl.mpr ⟨W6,YK⟩,λq hq=>by rw[Wr.mp hq];exact⟨hp,Nat.le_of_eq e⟩⟩
 |n+1,p,hp,e=>by
  obtain⟨_,q,_,hq,eq⟩:=w.down p hp n e;obtain⟨l,h1,h2,h3⟩:=w.chain n q hq eq;refine⟨p::l,by rw[Xo,h1],Xl.mpr ⟨λz=>by have:=(h3 p z).2;lia,h2⟩,λy hy=>?_⟩;rcases XE.mp hy with z|z
  ·rw[z];exact⟨hp,Nat.le_of_eq e⟩
  ·exact⟨(h3 y z).1,by have:=(h3 y z).2;lia⟩
theorem DZ.low{A:List Int}{E M:List Int}{f:Int->Nat}(w:DZ A F E M f){p:Int}(hp:p∈M):f p<M.length/\M.length<=A.length+E.length:=by
 obtain⟨l,h1,h2,h3⟩:=w.chain (f p) p hp rfl;have a:=h2.length_le_of_subset (l₂:=M) λq hq=>(h3 q hq).1
 have b:=w.nd.length_le_of_subset (l₂:=A++E) λq hq=>Ww.mpr (w.sub q hq)
 rw[W1]at b;lia
inductive JL(CT:Addr)(pos:Pos)(Pt:Addr)(vs:List V)(H:Hp)(Q:VK)(E:XK):Prop
 |m (r:Addr) (g lo:Int) (tab:List Int) (m:Nat) (lf:Int) (tf:List Int) (mf:Nat):vs=[.ref r]->Ay H r g lo tab m->Az g lo tab m lf tf mf->BC pos (Da "sets_reached") Pt H->(g^(mf-1)<=9->∀A M f,By [Ag g tf] (AL g tf) A->DZ A (AL g tf) [0] M f->(Ag g tf∉M->∀H',BW Pt H H'->BC pos (Da "sets_reached") Pt H'->Q .non H')/\(Ag g tf∈M->∀D H',BW Pt H H'->BC pos (Da "sets_reached") Pt H'->H D=none->H' D=some (.lst ((Bz (AL g tf) (BH M f) (f (Ag g tf)) (Ag g tf)).map V.int))->Q (.ref D) H'))->(9<g^(mf-1)->∀H',AG H H'->E (.ref CT) none H')->JL CT pos Pt vs H Q E
abbrev Cd(A:List Int):List (Bu×V):=Ai A (A.map λ_=>V.bl true)
theorem KZ(A:List Int):(Cd A).length=A.length:=CB (by rw[Wq])
theorem Qe:∀{A:List Int} {x:Int},x∈A->CZ (Cd A) (Sum.inl x) (.bl true)=Cd A:=λ{A x} h=>by
 unfold CZ
 have any:((Cd A).any λkv=>decide (kv.1=Sum.inl x))=true:=by obtain⟨i,hi⟩:=C6 h;refine Yc.mpr ⟨(Sum.inl x,.bl true),Wy (i:=i) ?_,qH rfl⟩;unfold Cd Ai;rw[List.getElem?_zipWith,W0,hi];rfl
 rw[qF any];refine Yp λi=>?_;rw[W0];cases e:(Cd A)[i]? with
 |none=>rfl
 |some kv =>
  obtain⟨k,v⟩:=kv;obtain⟨a,h1,h2,rfl⟩:=Mc e;rw[W0,h1]at h2;cases h2;show some (if (Sum.inl a:Bu)=Sum.inl x then ((Sum.inl a:Bu),V.bl true) else (Sum.inl a,V.bl true))=_
  split<;>rfl
theorem O7{A:List Int}{x:Int}:CZ (Cd A) (Sum.inl x) (.bl true)=Cd (if x∈A then A else A++[x]):=by
 by_cases h:x∈A
 ·rw[qF h,Qe h]
 ·rw[qE h];unfold Cd;rw[DX (by rw[Wq]) h,W3];rfl
structure Cs(H:Hp)(p:Addr)(ps:List Addr)(G:Nat)(D:Nat->List Int):Prop where
 l:H p=some (.lst (ps.map V.ref))
 n:ps.length=G
 nd:ps.Nodup
 np:p∉ps
 e:∀(s:Nat) (q:Addr),ps[s]?=some q->H q=some (.lst ((D s).map V.int))
theorem Cs.same{ps:List Addr}{D:Nat->List Int}(e:AG H H')(r:Cs H p ps G D):Cs H' p ps G D:=⟨e _ _ r.l,r.n,r.nd,r.np,λs q h=>e _ _ (r.e s q h)⟩
theorem Cs.congr{ps:List Addr}{D D':Nat->List Int}(r:Cs H p ps G D)(h:∀s,s<G->D' s=D s):Cs H p ps G D':=⟨r.l,r.n,r.nd,r.np,λs q hq=>by rw[h s (by rw[<-r.n];exact (Ws.mp hq).1)];exact r.e s q hq⟩
theorem Cs.set{ps:List Addr}{D:Nat->List Int}(r:Cs H p ps G D){s:Nat}{q:Addr}(hq:ps[s]?=some q)(L:List Int):Cs (Ae H q (.lst (L.map V.int))) p ps G (λk=>if k=s then L else D k):=by
 refine⟨by rw[AI λz=>r.np (by rw[z];exact Wy hq)];exact r.l,r.n,r.nd,r.np,λk q' hk=>?_⟩
 by_cases e:k=s
 ·subst e;rw[hq]at hk;cases hk;rw[AC];show some (HO.lst (L.map V.int))=some (.lst ((if k=k then L else D k).map V.int));rw[qF rfl]
 ·rw[AI λz=>e (by
   subst z;have a:=Ws.mp hk;have b:=Ws.mp hq;exact (ZO (h₀:=a.1) (h₁:=b.1) r.nd).mp (by rw[a.2,b.2]))]
  show H q'=some (.lst ((if k=s then L else D k).map V.int));rw[qE e];exact r.e k q' hk
theorem Cs.snoc{ps:List Addr}{D:Nat->List Int}(r:Cs H p ps G D){q:Addr}(hq:H q=some (.lst ((D G).map V.int)))(nq:q∉ps)(np:q≠p):Cs (Ae H p (.lst (ps.map V.ref++[V.ref q]))) p (ps++[q]) (G+1) D:=by
 refine⟨by rw[AC,W3];rfl,by rw[W1,r.n];rfl,Xq.mpr ⟨r.nd,Xl.mpr ⟨W6,YK⟩,λa ha b hb e=>nq (by rw[<-Wr.mp hb,<-e];exact ha)⟩,λz=>(Ww.mp z).elim r.np λz=>np (Wr.mp z).symm,λs q' h=>?_⟩
 by_cases z:s<ps.length
 ·rw[XX z]at h;rw[AI λy=>r.np (by rw[<-y];exact Wy h)];exact r.e s q' h
 ·rw[XB (by lia)]at h;have z0:s-ps.length=0:=by have:=(Ws.mp h).1;simp at this;lia
  rw[z0]at h;cases h;rw[AI np,show s=G by rw[<-r.n];lia];exact hq
inductive JM(vs:List V)(H:Hp)(Q:VK)(z3_:XK):Prop
 |m (p:Addr) (g:Int) (tab:List Int) (x:Int):vs=[.ref p,.int g,.int x]->H p=some (.lst (tab.map V.int))->2<=g->g<=9->tab.length=tab.length/g.toNat*g.toNat->1<=tab.length/g.toNat->tab.length/g.toNat<=9->(∀n∈tab,0<=n/\n<g)->(∀q H',FU H H' q (AL g tab x)->Q (.ref q) H')->JM vs H Q z3_
theorem O8(hg:2<=g){lo:Int}{m:Nat}(tb:∀n∈tab,0<=n/\n<g)(fw:Az g lo tab m lf tf mf):∀n∈tf,0<=n/\n<g:=by
 have bw:∀{lo:Int} {tab:List Int} {m:Nat} {low:Int} {M:Nat},(∀n∈tab,0<=n/\n<g)->∀n∈EZ g lo tab m low M,0<=n/\n<g:=λ{lo tab m low M} tb n hn=>by unfold EZ at hn;obtain⟨k,_,rfl⟩:=XT.mp hn;exact DE hg tb _
 obtain⟨low,M,n,rfl,⟨rfl,rfl,rfl⟩|⟨h2,rfl,rfl⟩⟩:=fw
 ·exact bw (bw tb)
 ·exact bw tb
theorem BW.seq{K:qJ}{P:Addr}(e:BW P H H')(t:BC pos q P H)(h:Ab K H a xs):Ab K H' a xs:=by
 rcases h with (h|⟨o,h⟩)|h
 ·exact .inl (.inl (e.get t h λ_ z=>by cases z))
 ·exact .inl (.inr ⟨o,e.get t h λ_ z=>by cases z⟩)
 ·exact .inr h
end L2
namespace L2
open PySem PySem.Spec PyProof.Rows
variable{E:Value->Shared->Prop}{i j:Nat}{s:Shared}{α β:Type}
theorem FH:∀{ns:List Int} {us:List Value},Al (ns.map V.int) us->IntsAre us ns
 |[],_,.nil=>.nil
 |n::ns,_,.cons ⟨t,e⟩ h=>by subst e;exact .cons n t (FH h)
noncomputable def JN:Bool->Keyed->Array Keyed->Nat->Nat->Nat->StateT SortSt Sem (Option Nat):=sortPriv% PySem.Builtin.gallop
def Sd(prog:Program)(w:World)(A:Around)(s:Shared)(k:SortKind)(a₀:Array Keyed)(L:Keyed->Keyed->Bool):Prop:=
 ∀x∈a₀.toList,∀y∈a₀.toList,∀(E:Value->Shared->Prop) (Q:Bool->Shared->Prop),Q (L x y) s->wpAny (model prog w) A (keyLt' k x.1 y.1) Q E s
structure Ug(b:Nat->Bool)(n k:Nat):Prop where
 le:k<=n
 lo:∀i,i<k->b i=true
 hi:∀i,k<=i->i<n->b i=false
variable{y:Keyed}{arr:Array Keyed}{hint:Nat}
section
variable{prog:Program}{w:World}{A:Around}{k:SortKind}{a₀:Array Keyed}{L:Keyed->Keyed->Bool}{st:SortSt}
theorem O9(hc:Sd prog w A s k a₀ L)(hk:kindOf st=k){x:Keyed}(mx:x∈a₀.toList)(my:y∈a₀.toList){Q:Option Bool->SortSt->Prop}(h:Q (some (L x y)) st):wpS (model prog w) A E s (lt' x y) Q st:=by rw[lt'_eq];refine wpS_bind (wpS_get ?_);rw[hk];exact wpS_bind (wpS_lift (wpAny_attempt (hc x mx y my _ _ ⟨rfl,wpS_pure h⟩)))
noncomputable def JO(L:Keyed->Keyed->Bool)(left:Bool)(key:Keyed)(arr:Array Keyed)(base i:Nat):Bool:=
 match arr[base+i]? with
 |some x=>if left then L x key else !L key x
 |none=>false
theorem Ka(hc:Sd prog w A s k a₀ L)(hk:kindOf st=k){left:Bool}{key:Keyed}{base n:Nat}(mk:key∈a₀.toList)(ma:∀x∈arr.toList,x∈a₀.toList)(hb:base+n<=arr.size)(hh:hint<n)
  (mono:∀i j,i<j->j<n->JO L left key arr base j=true->JO L left key arr base i=true) {Q:Option Nat->SortSt->Prop} (h:∀r,Ug (JO L left key arr base) n r->Q (some r) st):wpS (model prog w) A E s (JN left key arr base n hint) Q st:=by
 obtain⟨b,hbe⟩:∃b,b=JO L left key arr base:=⟨_,rfl⟩
 have bey:∀{i:Nat} {Q:Option Bool->SortSt->Prop},i<n->Q (some (b i)) st->wpS (model prog w) A E s ((λi=>do
   let x <-elem' arr (base+i)
   if left=true then lt' x key else do
    let r <-lt' key x
    pure (Option.map (λx=>!x) r)) i) Q st:=λ{i Q} hi q=>by
  have hlt:base+i<arr.size:=by lia
  have ex:arr[base+i]?=some arr[base+i]:=getElem?_pos arr _ hlt;have mx:=ma arr[base+i] (by simp);have eb:b i=if left then L arr[base+i] key else !L key arr[base+i]:=by rw[hbe];unfold JO;rw[ex]
  refine wpS_bind ?_;rw[elem'_eq,ex];refine wpS_pure ?_;cases left
  ·rw[eb]at q;exact wpS_bind (O9 hc hk mk mx (wpS_pure q))
  ·rw[eb]at q;exact O9 hc hk mx mk q
 rw[<-hbe]at mono h;clear hbe
 have half:∀{lo hi:Nat},lo<=hi->hi<=n->(∀i,i<lo->b i=true)->(∀i,hi<=i->i<n->b i=false)->∀{Q':Option (Option Nat)×Nat×Nat->SortSt->Prop},(∀r,Ug b n r->Q' (none,r,r) st)->wpS (model prog w) A E s (forIn [:n] ((none,lo,hi):Option (Option Nat)×Nat×Nat) λ_ c=>if c.2.1≥c.2.2 then pure (ForInStep.done (none,c.2.1,c.2.2)) else do
   let m <-(λi=>do
    let x <-elem' arr (base+i)
    if left=true then lt' x key else do
     let r <-lt' key x
     pure (Option.map (λx=>!x) r)) (c.2.1+(c.2.2-c.2.1)/2)
   match m with
   |some more=>if more=true then pure (ForInStep.yield (none,c.2.1+(c.2.2-c.2.1)/2+1,c.2.2)) else pure (ForInStep.yield (none,c.2.1,c.2.1+(c.2.2-c.2.1)/2))
   |_=>pure (ForInStep.done (some none,c.2.1,c.2.2))) Q' st:=λ{lo hi} h1 h2 h3 h4 {Q'} q=>by
  refine wpS_forRange (I:=λi c t=>t=st/\∃lo hi,c=(none,lo,hi)/\lo<=hi/\hi<=n/\hi-lo<=n-i/\(∀i,i<lo->b i=true)/\(∀i,hi<=i->i<n->b i=false)) ?_ ?_ ⟨rfl,lo,hi,rfl,h1,h2,by lia,h3,h4⟩
  ·rintro i c t _ hi' ⟨rfl,lo,hi,rfl,a1,a2,a3,a4,a5⟩;dsimp only
   by_cases z:lo≥hi
   ·rw[qF z];obtain rfl:lo=hi:=by lia
    exact wpS_pure (q lo ⟨a2,a4,a5⟩)
   rw[qE z];refine wpS_bind (bey (by lia) ?_);dsimp only;cases e:b (lo+(hi-lo)/2)
   ·rw[qE (by decide)]
    exact wpS_pure ⟨rfl,_,_,rfl,by lia,by lia,by lia,a4,λj hj hn=>by
     cases e2:b j
     ·rfl
     ·by_cases w:j=lo+(hi-lo)/2
      ·rw[w,e]at e2;cases e2
      ·rw[mono _ _ (by lia) hn e2]at e;cases e⟩
   ·rw[qF rfl]
    exact wpS_pure ⟨rfl,_,_,rfl,by lia,by lia,by lia,λj hj=>by
     by_cases w:j=lo+(hi-lo)/2
     ·rw[w];exact e
     ·exact mono _ _ (by lia) (by lia) e,a5⟩
  ·rintro c t ⟨rfl,lo,hi,rfl,a1,a2,a3,a4,a5⟩;obtain rfl:lo=hi:=by lia
   exact q lo ⟨a2,a4,a5⟩
 refine wpS_bind (bey hh ?_);dsimp only;cases e:b hint
 ·rw[qE (by decide)]
  have up:∀{la:Nat},la<=hint->b (hint-la)=false->∀i,hint-la<=i->i<n->b i=false:=λ{la} h1 h2 i h3 h4=>by
   cases e2:b i
   ·rfl
   ·by_cases w:hint-la=i
    ·rw[w,e2]at h2;cases h2
    ·rw[mono _ _ (by lia) h4 e2]at h2;cases h2
  refine wpS_bind (wpS_forRange (I:=λi c t=>t=st/\∃la fo,c=(none,la,fo)/\la<fo/\i+1<=fo/\la<=hint/\b (hint-la)=false) ?_ ?_ ⟨rfl,0,1,rfl,by decide,by decide,XO _,e⟩)
  ·rintro i c t _ hi ⟨rfl,la,fo,rfl,a1,a2,a3,a4⟩;dsimp only
   by_cases z:fo≥hint+1
   ·rw[qF z];refine wpS_pure ?_;dsimp only;exact wpS_bind (half (by lia) (by lia) (λj hj=>by lia) (up a3 a4) λr hr=>wpS_pure (h r hr))
   rw[qE z];refine wpS_bind (bey (by lia) ?_);dsimp only;cases e2:b (hint-fo)
   ·rw[qE (by decide)];exact wpS_pure ⟨rfl,_,_,rfl,by lia,by lia,by lia,e2⟩
   ·rw[qF rfl];refine wpS_pure ?_;dsimp only;refine wpS_bind (half (by lia) (by lia) (λj hj=>?_) (up a3 a4) λr hr=>wpS_pure (h r hr))
    by_cases w:j=hint-fo
    ·rw[w];exact e2
    ·exact mono _ _ (by lia) (by lia) e2
  ·rintro c t ⟨rfl,la,fo,rfl,a1,a2,a3,a4⟩;dsimp only;exact wpS_bind (half (by lia) (by lia) (λj hj=>by lia) (up a3 a4) λr hr=>wpS_pure (h r hr))
 ·rw[qF rfl]
  have dn:∀{la:Nat},hint+la<n->b (hint+la)=true->∀i,i<hint+la+1->b i=true:=λ{la} h1 h2 i h3=>by
   by_cases w:i=hint+la
   ·rw[w];exact h2
   ·exact mono _ _ (by lia) h1 h2
  refine wpS_bind (wpS_forRange (I:=λi c t=>t=st/\∃la fo,c=(none,la,fo)/\la<fo/\i+1<=fo/\hint+la<n/\b (hint+la)=true) ?_ ?_ ⟨rfl,0,1,rfl,by decide,by decide,hh,e⟩)
  ·rintro i c t _ hi ⟨rfl,la,fo,rfl,a1,a2,a3,a4⟩;dsimp only
   by_cases z:fo≥n-hint
   ·rw[qF z];refine wpS_pure ?_;dsimp only;exact wpS_bind (half (by lia) (by lia) (dn a3 a4) (λj hj hn=>by lia) λr hr=>wpS_pure (h r hr))
   rw[qE z];refine wpS_bind (bey (by lia) ?_);dsimp only;cases e2:b (hint+fo)
   ·rw[qF (show (!false)=true from rfl)];refine wpS_pure ?_;dsimp only;refine wpS_bind (half (by lia) (by lia) (dn a3 a4) (λj hj hn=>?_) λr hr=>wpS_pure (h r hr));cases e3:b j
    ·rfl
    ·by_cases w:hint+fo=j
     ·rw[<-w,e2]at e3;cases e3
     ·rw[mono _ _ (by lia) hn e3]at e2;cases e2
   ·rw[qE (show ¬(!true)=true by decide)];exact wpS_pure ⟨rfl,_,_,rfl,by lia,by lia,by lia,e2⟩
  ·rintro c t ⟨rfl,la,fo,rfl,a1,a2,a3,a4⟩;dsimp only;exact wpS_bind (half (by lia) (by lia) (dn a3 a4) (λj hj hn=>by lia) λr hr=>wpS_pure (h r hr))
end
noncomputable def PB:Array Keyed->Array Keyed->StateT SortSt Sem (Array Keyed):=sortPriv% PySem.Builtin.mergeLo
noncomputable def PD:Array Keyed->Array Keyed->StateT SortSt Sem (Array Keyed):=sortPriv% PySem.Builtin.mergeHi
structure SX(k:SortKind)(xs:Array Keyed)(p:Array (Nat×Nat×Nat))(st:SortSt):Prop where
 kd:kindOf st=k
 ar:arrOf st=xs
 pd:pendingOf st=p
 fl:failedOf st=none
abbrev Up(κ:Keyed->Int)(l:List Keyed):Prop:=l.Pairwise λx y=>κ x<=κ y
structure MI(κ:Keyed->Int)(a b:Array Keyed)(out:Array Keyed)(ia ib:Nat):Prop where
 ua:Up κ (out.toList++a.toList.drop ia)
 ub:Up κ (out.toList++b.toList.drop ib)
 pm:(out.toList++(a.toList.drop ia++b.toList.drop ib)).Perm (a.toList++b.toList)
section
variable{κ:Keyed->Int}{a b out:Array Keyed}{ia ib:Nat}
theorem Bm{l1 l2:List Keyed}:Up κ (l1++l2)↔Up κ l1/\Up κ l2/\∀x∈l1,∀y∈l2,κ x<=κ y:=List.pairwise_append
theorem EG(a:Array Keyed)(i k:Nat):(a.extract i (i+k)).toList=(a.toList.drop i).take k:=by
 rw[YW,YD]
 congr 1
 lia
theorem MI.takeA(M:MI κ a b out ia ib){k:Nat}(h:∀x∈(a.toList.drop ia).take k,∀y∈b.toList.drop ib,κ x<=κ y):MI κ a b (out++a.extract ia (ia+k)) (ia+k) ib:=by
 have e:a.toList.drop ia=(a.extract ia (ia+k)).toList++a.toList.drop (ia+k):=by rw[EG,<-List.drop_drop,Xk]
 obtain⟨h1,h2,h3⟩:=M;rw[e]at h1 h3;refine⟨by rw[XY,XW];exact h1,?_,?_⟩
 ·rw[XY,XW];rw[Bm]at h1 h2⊢;refine⟨h1.1,?_,λx hx y hy=>?_⟩
  ·rw[Bm];exact⟨(Bm.mp h1.2.1).1,h2.2.1,λx hx y hy=>h x (by rw[<-EG];exact hx) y hy⟩
  ·rcases Ww.mp hy with z|z
   ·exact h1.2.2 x hx y (Xr _ z)
   ·exact h2.2.2 x hx y z
 ·rw[XY];simp only[List.append_assoc]at h3⊢;exact h3
theorem MI.takeB(M:MI κ a b out ia ib){k:Nat}(h:∀x∈(b.toList.drop ib).take k,∀y∈a.toList.drop ia,κ x<=κ y):MI κ a b (out++b.extract ib (ib+k)) ia (ib+k):=by
 have e:b.toList.drop ib=(b.extract ib (ib+k)).toList++b.toList.drop (ib+k):=by rw[EG,<-List.drop_drop,Xk]
 obtain⟨h1,h2,h3⟩:=M;rw[e]at h2 h3;refine⟨?_,by rw[XY,XW];exact h2,?_⟩
 ·rw[XY,XW];rw[Bm]at h1 h2⊢;refine⟨h2.1,?_,λx hx y hy=>?_⟩
  ·rw[Bm];exact⟨(Bm.mp h2.2.1).1,h1.2.1,λx hx y hy=>h x (by rw[<-EG];exact hx) y hy⟩
  ·rcases Ww.mp hy with z|z
   ·exact h2.2.2 x hx y (Xr _ z)
   ·exact h1.2.2 x hx y z
 ·rw[XY];refine List.Perm.trans ?_ h3;simp only[List.append_assoc];refine Yn _ ?_;rw[<-XW,<-XW];exact ZF _ Yo
theorem Md(a:Array Keyed)(i:Nat)(h:i<a.size):a.extract i (i+1)=#[a[i]]:=by apply Array.ext';rw[EG];rw[List.drop_eq_getElem_cons (by simpa using h)];simp
theorem Kb(out a:Array Keyed)(i:Nat)(h:i<a.size):out.push a[i]=out++a.extract i (i+1):=by rw[Md a i h];simp
theorem CJ{l:List Keyed}(h:y∈l.drop i):∃j,i<=j/\∃h:j<l.length,l[j]=y:=by obtain⟨j,hj,e⟩:=ZS.mp h;rw[YI]at hj;exact⟨i+j,Yd ..,by lia,by rw[<-e,List.getElem_drop]⟩
theorem Dq{l:List Keyed}{k:Nat}(h:y∈(l.drop i).take k):∃j,i<=j/\j<i+k/\∃h:j<l.length,l[j]=y:=by obtain⟨j,hj,e⟩:=ZS.mp h;rw[XR,YI]at hj;exact⟨i+j,Yd ..,by lia,by lia,by rw[<-e,List.getElem_take,List.getElem_drop]⟩
theorem Se{l:List Keyed}(h:Up κ l)(hij:i<=j)(hj:j<l.length):κ l[i]<=κ l[j]:=by
 rcases Nat.lt_or_eq_of_le hij with z|z
 ·exact Y0.mp h i j (by lia) hj z
 ·subst z;exact X0 _
end
noncomputable def ky(κ:Keyed->Int)(xs:Array Keyed)(i:Nat):Int:=match xs[i]? with|some x=>κ x|none=>0
def C9(κ:Keyed->Int)(xs:Array Keyed)(i j:Nat):Prop:=∀x y,i<=x->x<=y->y<j->ky κ xs x<=ky κ xs y
section
variable{κ:Keyed->Int}{a b out:Array Keyed}{ia ib:Nat}
theorem A6(h:ia<a.size):ky κ a ia=κ a[ia]:=by unfold ky;rw[getElem?_pos a ia h]
theorem B0(h:a[i]?=b[j]?):ky κ a i=ky κ b j:=by unfold ky;rw[h]
theorem HE:Up κ a.toList↔C9 κ a 0 a.size:=by
 constructor
 ·intro h x y _ hxy hy;rw[A6 (show x<a.size by lia),A6 hy];have z:=Se h hxy (by simpa using hy);simpa using z
 ·intro h;unfold Up;rw[List.pairwise_iff_getElem];intro i j hi hj hij;have hi':i<a.size:=by simpa using hi
  have hj':j<a.size:=by simpa using hj
  have z:=h i j (XO _) (by lia) hj';rw[A6 hi',A6 hj']at z;simpa using z
def Kv(κ:Keyed->Int)(a b out:Array Keyed):Prop:=out.toList.Perm (a.toList++b.toList)/\Up κ out.toList
theorem Dr(a:Array Keyed)(i:Nat):(a.extract i a.size).toList=a.toList.drop i:=by rw[YW,YD,Yh];simp
theorem MI.doneB(M:MI κ a b out ia ib)(h:ib=b.size):Kv κ a b (out++a.extract ia a.size++b.extract ib b.size):=by have e:b.toList.drop ib=[]:=List.drop_eq_nil_of_le (by simp[h]);have z:=M.pm;rw[e]at z;unfold Kv;rw[XY,XY,Dr,Dr,e,Xn];rw[Xn]at z;exact⟨z,M.ua⟩
theorem MI.lastA(M:MI κ a b out ia ib)(h:ia+1=a.size)(hl:∀j,j<b.size->ky κ b j<=ky κ a (a.size-1)):Kv κ a b (out++b.extract ib b.size++a.extract ia a.size):=by
 unfold Kv;rw[XY,XY,Dr,Dr,XW];refine⟨List.Perm.trans (Yn _ Yo) M.pm,?_⟩;have u1:=Bm.mp M.ua;have u2:=Bm.mp M.ub;rw[Bm];refine⟨u1.1,?_,λx hx y hy=>?_⟩
 ·rw[Bm];refine⟨u2.2.1,u1.2.1,λx hx y hy=>?_⟩;obtain⟨j,h1,h2,e⟩:=CJ hy;rw[XI]at h2;obtain⟨j',h1',h2',e'⟩:=CJ hx;rw[XI]at h2';rw[<-e,<-e',Xs,Xs,<-A6 (κ:=κ) h2,<-A6 (κ:=κ) h2',show j=a.size-1 by lia];exact hl j' h2'
 ·rcases Ww.mp hy with z|z
  ·exact u2.2.2 x hx y z
  ·exact u1.2.2 x hx y z
theorem MI.someA(M:MI κ a b out ia ib)(sb:C9 κ b 0 b.size){k:Nat}(h:∀j,ia<=j->j<ia+k->j<a.size->ky κ a j<=ky κ b ib):MI κ a b (out++a.extract ia (ia+k)) (ia+k) ib:=by refine M.takeA λx hx y hy=>?_;obtain⟨j,h1,h2,h3,e⟩:=Dq hx;obtain⟨j',h1',h2',e'⟩:=CJ hy;rw[XI]at h3 h2';rw[<-e,<-e',Xs,Xs,<-A6 (κ:=κ) h3,<-A6 (κ:=κ) h2'];exact Xy (h j h1 h2 h3) (sb _ _ (XO _) h1' h2')
theorem MI.someB(M:MI κ a b out ia ib)(sa:C9 κ a 0 a.size){k:Nat}(h:∀j,ib<=j->j<ib+k->j<b.size->ky κ b j<=ky κ a ia):MI κ a b (out++b.extract ib (ib+k)) ia (ib+k):=by refine M.takeB λx hx y hy=>?_;obtain⟨j,h1,h2,h3,e⟩:=Dq hx;obtain⟨j',h1',h2',e'⟩:=CJ hy;rw[XI]at h3 h2';rw[<-e,<-e',Xs,Xs,<-A6 (κ:=κ) h3,<-A6 (κ:=κ) h2'];exact Xy (h j h1 h2 h3) (sa _ _ (XO _) h1' h2')
theorem MI.oneA(M:MI κ a b out ia ib)(sb:C9 κ b 0 b.size)(hi:ia<a.size)(h:ky κ a ia<=ky κ b ib):MI κ a b (out.push a[ia]) (ia+1) ib:=by rw[Kb out a ia hi];exact M.someA sb λj h1 h2 _=>by rw[show j=ia by lia];exact h
theorem MI.oneB(M:MI κ a b out ia ib)(sa:C9 κ a 0 a.size)(hi:ib<b.size)(h:ky κ b ib<=ky κ a ia):MI κ a b (out.push b[ib]) ia (ib+1):=by rw[Kb out b ib hi];exact M.someB sa λj h1 h2 _=>by rw[show j=ib by lia];exact h
end
section
variable{prog:Program}{w:World}{A:Around}{k:SortKind}{a₀ xs:Array Keyed}{p:Array (Nat×Nat×Nat)}{κ:Keyed->Int}{st:SortSt}
theorem BY(h:i<arr.size){Q:Keyed->SortSt->Prop}(q:Q arr[i] st):wpS (model prog w) A E s (elem' arr i) Q st:=by rw[elem'_eq,getElem?_pos arr i h];exact wpS_pure q
abbrev F3(prog:Program)(w:World)(A:Around)(s:Shared)(k:SortKind)(a₀:Array Keyed)(κ:Keyed->Int):Prop:=Sd prog w A s k a₀ λx y=>decide (κ x<κ y)
theorem Sf(hc:F3 prog w A s k a₀ κ)(hk:kindOf st=k){key:Keyed}{base n:Nat}(mk:key∈a₀.toList)(ma:∀x∈arr.toList,x∈a₀.toList)(hb:base+n<=arr.size)(hh:hint<n)
  (hs:C9 κ arr base (base+n)) {Q:Option Nat->SortSt->Prop} (h:∀r,r<=n->(∀j,base<=j->j<base+r->ky κ arr j<=κ key)->(∀j,base+r<=j->j<base+n->κ key<ky κ arr j)->Q (some r) st):wpS (model prog w) A E s (JN false key arr base n hint) Q st:=by
 have e:∀i,i<n->JO (λx y=>decide (κ x<κ y)) false key arr base i=!decide (κ key<ky κ arr (base+i)):=λi hi=>by unfold JO ky;rw[getElem?_pos arr (base+i) (by lia)];rfl
 refine Ka hc hk mk ma hb hh (λi j hij hj z=>?_) λr hr=>h r hr.le (λj h1 h2=>?_) λj h1 h2=>?_
 ·rw[e i (by lia)];rw[e j hj]at z;have z1:=hs (base+i) (base+j) (by lia) (by lia) (by lia);simp only[Bool.not_eq_true',decide_eq_false_iff_not,Int.not_lt]at z⊢;lia
 ·have z:=hr.lo (j-base) (by lia);rw[e _ (by have:=hr.le;lia),show base+(j-base)=j by lia]at z;simp only[Bool.not_eq_true',decide_eq_false_iff_not,Int.not_lt]at z;exact z
 ·have z:=hr.hi (j-base) (by lia) (by lia);rw[e _ (by lia),show base+(j-base)=j by lia]at z;simp only[Bool.not_eq_false',decide_eq_true_eq]at z;exact z
theorem Sg(hc:F3 prog w A s k a₀ κ)(hk:kindOf st=k){key:Keyed}{base n:Nat}(mk:key∈a₀.toList)(ma:∀x∈arr.toList,x∈a₀.toList)(hb:base+n<=arr.size)(hh:hint<n)
  (hs:C9 κ arr base (base+n)) {Q:Option Nat->SortSt->Prop} (h:∀r,r<=n->(∀j,base<=j->j<base+r->ky κ arr j<κ key)->(∀j,base+r<=j->j<base+n->κ key<=ky κ arr j)->Q (some r) st):wpS (model prog w) A E s (JN true key arr base n hint) Q st:=by
 have e:∀i,i<n->JO (λx y=>decide (κ x<κ y)) true key arr base i=decide (ky κ arr (base+i)<κ key):=λi hi=>by unfold JO ky;rw[getElem?_pos arr (base+i) (by lia)];rfl
 refine Ka hc hk mk ma hb hh (λi j hij hj z=>?_) λr hr=>h r hr.le (λj h1 h2=>?_) λj h1 h2=>?_
 ·rw[e i (by lia)];rw[e j hj]at z;have z1:=hs (base+i) (base+j) (by lia) (by lia) (by lia);simp only[decide_eq_true_eq]at z⊢;lia
 ·have z:=hr.lo (j-base) (by lia);rw[e _ (by have:=hr.le;lia),show base+(j-base)=j by lia]at z;simp only[decide_eq_true_eq]at z;exact z
 ·have z:=hr.hi (j-base) (by lia) (by lia);rw[e _ (by lia),show base+(j-base)=j by lia]at z;simp only[decide_eq_false_iff_not,Int.not_lt]at z;exact z
noncomputable def Qf:Nat->StateT SortSt Sem Unit:=sortPriv% PySem.Builtin.setMinGallop
theorem FI(X:SX k xs p st){g:Nat}{Q:Unit->SortSt->Prop}(h:∀t,SX k xs p t->Q () t):wpS (model prog w) A E s (Qf g) Q st:=
 wpS_modify (h _ ⟨X.kd,X.ar,X.pd,X.fl⟩)
end
structure Kc(κ:Keyed->Int)(a b:Array Keyed)(P:Nat)(out:Array Keyed)(ia ib:Nat):Prop where
 mi:MI κ a b out ia ib
 la:ia+1<a.size
 lb:ib<b.size
 ge:P<=ia+ib
section
variable{prog:Program}{w:World}{A:Around}{k:SortKind}{a₀ xs:Array Keyed}{p:Array (Nat×Nat×Nat)}{κ:Keyed->Int}{st:SortSt}
theorem AZ{c:Prop}[Decidable c]{m n:StateT SortSt Sem α}{Q:α->SortSt->Prop}(h1:c->wpS (model prog w) A E s m Q st)(h2:¬c->wpS (model prog w) A E s n Q st):wpS (model prog w) A E s (if c then m else n) Q st:=by
 split
 ·exact h1 ‹_›
 ·exact h2 ‹_›
theorem C8{m n:Nat}(h:¬(m==n)=true):m≠n:=λe=>h (by simp[e])
theorem Me{c:Prop}[Decidable c]{f:β->StateT SortSt Sem α}{x y:β}{Q:α->SortSt->Prop}(J:∀g,wpS (model prog w) A E s (f g) Q st):wpS (model prog w) A E s (if c then f x else f y) Q st:=by
 split
 ·exact J _
 ·exact J _
theorem GM{γ:Type}{f:β->γ->StateT SortSt Sem α}{m:StateT SortSt Sem α}{Q:α->SortSt->Prop}(R:β->γ->Prop)(J:∀x y,R x y->wpS (model prog w) A E s (f x y) Q st)(h:(∀x y,R x y->wpS (model prog w) A E s (f x y) Q st)->wpS (model prog w) A E s m Q st):wpS (model prog w) A E s m Q st:=h J
theorem PH(hc:F3 prog w A s k a₀ κ)(X:SX k xs p st){x:Keyed}(mx:x∈a₀.toList)(my:y∈a₀.toList){Q:Option Bool->SortSt->Prop}(h1:κ x<κ y->Q (some true) st)(h2:κ y<=κ x->Q (some false) st):wpS (model prog w) A E s (lt' x y) Q st:=by
 refine O9 hc X.kd mx my ?_
 by_cases z:κ x<κ y
 ·rw[show decide (κ x<κ y)=true by simpa using z];exact h1 z
 ·rw[show decide (κ x<κ y)=false by simpa using z];exact h2 (by lia)
theorem Ng(hc:F3 prog w A s k a₀ κ)(X:SX k xs p st){a b:Array Keyed}(ma:∀x∈a.toList,x∈a₀.toList)(mb:∀x∈b.toList,x∈a₀.toList)(sA:C9 κ a 0 a.size)(sB:C9 κ b 0 b.size)(ha:0<a.size)(hb:0<b.size)
  (h0:ky κ b 0<ky κ a 0) (hl:∀j,j<b.size->ky κ b j<ky κ a (a.size-1)) {Q:Array Keyed->SortSt->Prop} (h:∀out t,SX k xs p t->Kv κ a b out->Q out t):wpS (model prog w) A E s (PB a b) Q st:=by
 have ga:∀{i:Nat} (hi:i<a.size),a[i]∈a₀.toList:=λ{i} hi=>ma _ (by simp)
 have gb:∀{i:Nat} (hi:i<b.size),b[i]∈a₀.toList:=λ{i} hi=>mb _ (by simp)
 have hl':∀j,j<b.size->ky κ b j<=ky κ a (a.size-1):=λj hj=>XQ (hl j hj)
 refine wpS_bind (wpS_lift (wpAny_rule ⟨rfl,?_⟩));refine wpS_bind (BY hb ?_)
 have M0:MI κ a b #[b[0]] 0 1:=by have z:MI κ a b #[] 0 0:=⟨by simpa using HE.mpr sA,by simpa using HE.mpr sB,by simp⟩;have z:=z.oneB sA hb (XQ h0);simpa using z
 refine AZ (λe=>?_) λe=>AZ (λe2=>?_) λe2=>?_
 ·exact wpS_pure (h _ _ X (M0.doneB (by simpa using e)))
 ·exact wpS_pure (h _ _ X (M0.lastA (by simpa using e2) hl'))
 have e:b.size≠1:=λz=>e (by simp[z])
 have e2:a.size≠1:=λz=>e2 (by simp[z])
 refine wpS_bind (wpS_get ?_);refine wpS_bind (wpS_forRange (I:=λi c t=>SX k xs p t/\∃out ia ib mg,c=(none,out,ia,ib,mg)/\Kc κ a b (i+1) out ia ib) ?_ ?_ ⟨X,_,_,_,_,rfl,M0,by lia,by lia,by lia⟩)
 ·rintro i c t _ hi ⟨X,out,ia,ib,mg,rfl,M⟩;refine wpS_bind (wpS_mono (wpS_forRange (I:=λ_ c t=>SX k xs p t/\∃out ia ib ac bc,c=(none,out,ia,ib,ac,bc)/\Kc κ a b (i+1) out ia ib) (Q:=λc t=>SX k xs p t/\((∃r o,c=(some r,o)/\Kv κ a b r)\/∃out ia ib ac bc,c=(none,out,ia,ib,ac,bc)/\Kc κ a b (i+1) out ia ib)) ?_ ?_ ⟨X,out,ia,ib,0,0,rfl,M⟩) ?_)
  ·clear M X;rintro j c t _ hj ⟨X,out,ia,ib,ac,bc,rfl,M⟩;have la:=M.la;have lb:=M.lb;have ge:=M.ge;refine wpS_bind (BY M.lb (wpS_bind (BY (show ia<a.size by lia) (wpS_bind (PH hc X (gb lb) (ga (by lia)) (λz=>?_) λz=>?_)))))
   ·refine AZ (λ_=>?_) (λz=>qG rfl z);rw[<-A6 (κ:=κ),<-A6 (κ:=κ)]at z;have M2:=M.mi.oneB sA lb (XQ z);have M3:ib+1<b.size->Kc κ a b (i+1) (out.push b[ib]) ia (ib+1):=λq=>⟨M2,la,q,by lia⟩
    refine wpS_bind (BY M.lb (AZ (λz=>?_) λz=>AZ (λ_=>?_) λ_=>?_))
    ·exact wpS_pure ⟨X,.inl ⟨_,_,rfl,M2.doneB (by simpa using z)⟩⟩
    ·exact wpS_pure ⟨X,.inr ⟨_,_,_,_,_,rfl,M3 (X6 lb (C8 z))⟩⟩
    ·exact wpS_pure ⟨X,_,_,_,_,_,rfl,M3 (X6 lb (C8 z))⟩
   ·refine AZ (λz=>qG z (by decide)) (λ_=>?_);rw[<-A6 (κ:=κ),<-A6 (κ:=κ)]at z;have M2:=M.mi.oneA sB (by lia) z;have M3:ia+1+1<a.size->Kc κ a b (i+1) (out.push (a[ia]'(by lia))) (ia+1) ib:=λq=>⟨M2,q,lb,by lia⟩
    refine wpS_bind (BY (show ia<a.size by lia) (AZ (λz=>?_) λz=>AZ (λ_=>?_) λ_=>?_))
    ·exact wpS_pure ⟨X,.inl ⟨_,_,rfl,M2.lastA (by simpa using z) hl'⟩⟩
    ·exact wpS_pure ⟨X,.inr ⟨_,_,_,_,_,rfl,M3 (X6 la (C8 z))⟩⟩
    ·exact wpS_pure ⟨X,_,_,_,_,_,rfl,M3 (X6 la (C8 z))⟩
  ·rintro c t ⟨X,out,ia,ib,ac,bc,rfl,M⟩;exact⟨X,.inr ⟨out,ia,ib,ac,bc,rfl,M⟩⟩
  clear M X;rintro c t ⟨X,⟨r,o,rfl,R⟩|⟨out,ia,ib,ac,bc,rfl,M⟩⟩
  ·exact wpS_pure (wpS_pure (h _ _ X R))
  refine wpS_bind (wpS_lift (wpAny_rule ⟨rfl,?_⟩));refine wpS_bind (wpS_mono (wpS_forRange (I:=λj c t=>SX k xs p t/\∃out ia ib mg ac bc,c=(none,out,ia,ib,mg,ac,bc)/\Kc κ a b (i+1+j) out ia ib) (Q:=λc t=>SX k xs p t/\((∃r o,c=(some r,o)/\Kv κ a b r)\/∃out ia ib mg ac bc,c=(none,out,ia,ib,mg,ac,bc)/\Kc κ a b (i+1+1) out ia ib)) ?_ ?_ ⟨X,_,_,_,_,_,_,rfl,M⟩) ?_)
  ·clear M X;rintro j c t _ hj ⟨X,out,ia,ib,mg,ac,bc,rfl,M⟩;dsimp (config:={zeta:=false,zetaHave:=false}) only
   extract_lets c1 out1 c2 ia1 c3 ib1 c4 mg1 c5 ac1 bc1 ib2 jp mg2
   have la:=M.la;have lb:=M.lb;have ge:=M.ge;refine Me (f:=jp ()) λg=>?_;refine wpS_bind (FI X λt X=>wpS_bind (BY lb (wpS_bind (Sf hc X.kd (gb lb) ma (by dsimp only[ia1,c2,c1];lia) (by dsimp only[ia1,c2,c1];lia) (λx y h1 h2 h3=>sA x y (Nat.zero_le _) h2 (by dsimp only[ia1,c2,c1]at h3;lia)) λr hr r1 r2=>?_))));dsimp (config:={zeta:=false,zetaHave:=false}) only;rw[<-A6 (κ:=κ)]at r1 r2
   extract_lets ac2 jp2 out2 ia2
   refine GM (f:=jp2 ()) (λout' ia'=>MI κ a b out' ia' ib/\ia'+1<a.size/\ia<=ia'/\ky κ b ib<=ky κ a ia') (λout' ia' R=>?_) λJ=>?_
   ·obtain⟨R1,R2,R3,R4⟩:=R;have MB:=R1.oneB sA lb R4;refine wpS_bind (BY lb (AZ (λz=>wpS_pure ⟨X,.inl ⟨_,_,rfl,MB.doneB (eq_of_beq z)⟩⟩) λz=>?_));have lb2:ib+1<b.size:=X6 lb (C8 z);have la2:ia'<a.size:=by lia
    refine wpS_bind (BY la2 (wpS_bind (Sg hc X.kd (ga la2) mb (show ib+1+(b.size-(ib+1))<=b.size by lia) (show 0<b.size-(ib+1) by lia) (λx y h1 h2 (h3:y<ib+1+(b.size-(ib+1)))=>sB x y (XO _) h2 (by lia)) λr' (hr':r'<=b.size-(ib+1)) (r1':∀j,ib+1<=j->j<ib+1+r'->ky κ b j<κ a[ia']) (r2':∀j,ib+1+r'<=j->j<ib+1+(b.size-(ib+1))->κ a[ia']<=ky κ b j)=>?_)));rw[<-A6 (κ:=κ)]at r1' r2';dsimp (config:={zeta:=false,zetaHave:=false}) only
    extract_lets bc2 ia4 jp3 out3 ib3
    have MC:MI κ a b ((out'.push b[ib])++b.extract (ib+1) (ib+1+r')) ia' (ib+1+r'):=MB.someB sA λj h1 h2 _=>XQ (r1' j h1 h2)
    refine GM (f:=jp3 ()) (λout' ib'=>MI κ a b out' ia' ib'/\ib'<b.size/\ib+1<=ib'/\ky κ a ia'<=ky κ b ib') (λout' ib' R=>?_) λJ=>?_
    ·obtain⟨S1,S2,S3,S4⟩:=R;have MA:=S1.oneA sB la2 S4;have MD:∀P,P<=i+1+(j+1)->ia'+1+1<a.size->Kc κ a b P (out'.push a[ia']) (ia'+1) ib':=λP hP q=>⟨MA,q,S2,by lia⟩
     refine wpS_bind (BY la2 (AZ (λz=>wpS_pure ⟨X,.inl ⟨_,_,rfl,MA.lastA (eq_of_beq z) hl'⟩⟩) λz=>AZ (λ_=>?_) λ_=>?_))
     ·exact wpS_pure ⟨X,.inr ⟨_,_,_,_,_,_,rfl,MD _ (by lia) (X6 R2 (C8 z))⟩⟩
     ·exact wpS_pure ⟨X,_,_,_,_,_,_,rfl,MD _ (Wv _) (X6 R2 (C8 z))⟩
    ·refine AZ (λz1=>AZ (λz=>wpS_pure ⟨X,.inl ⟨_,_,rfl,MC.doneB (eq_of_beq z)⟩⟩) λz=>J _ _ ?_) λz1=>J _ _ ?_
     ·have q:ib+1+r'≠b.size:=C8 z;exact⟨MC,show ib+1+r'<b.size by lia,show ib+1<=ib+1+r' by lia,r2' (ib+1+r') (Wv _) (by lia)⟩
     ·obtain rfl:r'=0:=by lia
      exact⟨MB,lb2,Wv _,r2' (ib+1) (Wv _) (by lia)⟩
   ·have r1:∀j,ia<=j->j<ia+r->ky κ a j<=ky κ b ib:=r1;have r2:∀j,ia+r<=j->j<ia+(a.size-ia)->ky κ b ib<ky κ a j:=r2;have hr:r<=a.size-ia:=hr
    have lt:ia+r<a.size:=by
     rcases Nat.lt_or_ge (ia+r) a.size with z|z
     ·exact z
     ·have z1:=r1 (a.size-1) (by lia) (by lia);have z2:=hl ib lb;lia
    have MC:MI κ a b (out++a.extract ia (ia+r)) (ia+r) ib:=M.mi.someA sB λj h1 h2 _=>r1 j h1 h2
    refine AZ (λz1=>AZ (λz=>wpS_pure ⟨X,.inl ⟨_,_,rfl,MC.lastA (eq_of_beq z) hl'⟩⟩) λz=>AZ (λy=>?_) λ_=>J _ _ ?_) λz1=>J _ _ ?_
    ·have y:ia+r=a.size:=eq_of_beq y;lia
    ·have q:ia+r+1≠a.size:=C8 z;exact⟨MC,show ia+r+1<a.size by lia,Yd _ _,XQ (r2 (ia+r) (Wv _) (by lia))⟩
    ·obtain rfl:r=0:=by lia
     exact⟨M.mi,la,Wv _,XQ (r2 ia (Wv _) (by lia))⟩
  ·rintro c t ⟨X,out,ia,ib,mg,ac,bc,rfl,M⟩;have:=M.la;have:=M.lb;have:=M.ge;lia
  clear M X;rintro c t ⟨X,⟨r,o,rfl,R⟩|⟨out,ia,ib,mg,ac,bc,rfl,M⟩⟩
  ·exact wpS_pure (wpS_pure (h _ _ X R))
  exact wpS_bind (FI X λt X=>wpS_pure ⟨X,_,_,_,_,rfl,M⟩)
 ·rintro c t ⟨X,out,ia,ib,mg,rfl,M⟩;have:=M.la;have:=M.lb;have:=M.ge;lia
end
structure MJ(κ:Keyed->Int)(a b:Array Keyed)(out:Array Keyed)(na nb:Nat):Prop where
 ua:Up κ (a.toList.take na++out.toList.reverse)
 ub:Up κ (b.toList.take nb++out.toList.reverse)
 pm:(a.toList.take na++(b.toList.take nb++out.toList.reverse)).Perm (a.toList++b.toList)
structure RK(κ:Keyed->Int)(a b:Array Keyed)(P:Nat)(out:Array Keyed)(na nb:Nat):Prop where
 mi:MJ κ a b out na nb
 la:1<=na
 lb:2<=nb
 za:na<=a.size
 zb:nb<=b.size
 ge:na+nb+P<=a.size+b.size
section
variable{κ:Keyed->Int}{a b out:Array Keyed}{na nb at':Nat}
theorem HG(a:Array Keyed)(i j:Nat):(a.extract i j).toList=(a.toList.take j).drop i:=by rw[YW,YD,List.drop_take]
theorem HI(a:Array Keyed)(h:i<=j):a.toList.take j=a.toList.take i++(a.extract i j).toList:=by
 rw[HG];have e:a.toList.take i=(a.toList.take j).take i:=by rw[List.take_take,Y8 h]
 rw[e,Xk]
theorem Mf{a:Array Keyed}(h:y∈(a.extract i j).toList):∃x,i<=x/\x<j/\x<a.size/\κ y=ky κ a x:=by rw[HG]at h;obtain⟨x,h1,h2,e⟩:=CJ h;rw[XR,XI]at h2;refine⟨x,h1,by lia,by lia,?_⟩;rw[<-e,List.getElem_take,Xs,A6]
theorem JP{a:Array Keyed}(h:y∈a.toList.take j):∃x,x<j/\x<a.size/\κ y=ky κ a x:=by obtain⟨x,h2,e⟩:=ZS.mp h;rw[XR,XI]at h2;refine⟨x,by lia,by lia,?_⟩;rw[<-e,List.getElem_take,Xs,A6]
theorem MJ.someA(M:MJ κ a b out na nb)(hn:at'<=na)(h:∀x y,at'<=x->x<na->x<a.size->y<nb->y<b.size->ky κ b y<=ky κ a x):MJ κ a b (out++(a.extract at' na).reverse) at' nb:=by
 obtain⟨h1,h2,h3⟩:=M;have e:(out++(a.extract at' na).reverse).toList.reverse=(a.extract at' na).toList++out.toList.reverse:=by simp
 rw[HI a hn,XW]at h1 h3;refine⟨by rw[e];exact h1,?_,?_⟩
 ·rw[e];have z1:=Bm.mp h1;have z2:=Bm.mp h2;rw[Bm];refine⟨z2.1,z1.2.1,λx hx y hy=>?_⟩;rcases Ww.mp hy with z|z
  ·obtain⟨x',q1,q2,e1⟩:=JP (κ:=κ) hx;obtain⟨y',q3,q4,q5,e2⟩:=Mf (κ:=κ) z;rw[e1,e2];exact h _ _ q3 q4 q5 q1 q2
  ·exact z2.2.2 x hx y z
 ·rw[e];refine List.Perm.trans (Yn _ ?_) h3;rw[<-XW,<-XW];exact ZF _ Yo
theorem MJ.someB(M:MJ κ a b out na nb)(hn:at'<=nb)(h:∀x y,at'<=x->x<nb->x<b.size->y<na->y<a.size->ky κ a y<=ky κ b x):MJ κ a b (out++(b.extract at' nb).reverse) na at':=by
 obtain⟨h1,h2,h3⟩:=M;have e:(out++(b.extract at' nb).reverse).toList.reverse=(b.extract at' nb).toList++out.toList.reverse:=by simp
 rw[HI b hn,XW]at h2 h3;refine⟨?_,by rw[e];exact h2,by rw[e];exact h3⟩;rw[e];have z1:=Bm.mp h1;have z2:=Bm.mp h2;rw[Bm];refine⟨z1.1,z2.2.1,λx hx y hy=>?_⟩;rcases Ww.mp hy with z|z
 ·obtain⟨x',q1,q2,e1⟩:=JP (κ:=κ) hx;obtain⟨y',q3,q4,q5,e2⟩:=Mf (κ:=κ) z;rw[e1,e2];exact h _ _ q3 q4 q5 q1 q2
 ·exact z1.2.2 x hx y z
theorem Ke(out a:Array Keyed)(i:Nat)(h:i<a.size):out.push a[i]=out++(a.extract i (i+1)).reverse:=by rw[Md a i h];simp
theorem MJ.oneA(M:MJ κ a b out (na+1) nb)(sB:C9 κ b 0 b.size)(hn:na<a.size)(h1:1<=nb)(h2:nb<=b.size)(h:ky κ b (nb-1)<=ky κ a na):MJ κ a b (out.push a[na]) na nb:=by
 rw[Ke out a na hn];refine M.someA (Ya _) λx y q1 q2 _ q3 q4=>?_;obtain rfl:x=na:=by lia
 exact Xy (sB y (nb-1) (XO _) (by lia) (by lia)) h
theorem MJ.oneB(M:MJ κ a b out na (nb+1))(sA:C9 κ a 0 a.size)(hn:nb<b.size)(h1:1<=na)(h2:na<=a.size)(h:ky κ a (na-1)<=ky κ b nb):MJ κ a b (out.push b[nb]) na nb:=by
 rw[Ke out b nb hn];refine M.someB (Ya _) λx y q1 q2 _ q3 q4=>?_;obtain rfl:x=nb:=by lia
 exact Xy (sA y (na-1) (XO _) (by lia) (by lia)) h
theorem FJ(a:Array Keyed)(i:Nat):(a.extract 0 i).toList=a.toList.take i:=by rw[HG,List.drop_zero]
theorem MJ.doneA(M:MJ κ a b out na nb)(h:na=0):Kv κ a b (a.extract 0 na++b.extract 0 nb++out.reverse):=by unfold Kv;rw[XY,XY,FJ,FJ,ZT,XW];refine⟨M.pm,?_⟩;rw[h,List.take_zero,ZU];exact M.ub
theorem MJ.firstB(M:MJ κ a b out na nb)(h:nb=1)(h0:∀j,j<a.size->ky κ b 0<=ky κ a j):Kv κ a b (b.extract 0 nb++a.extract 0 na++out.reverse):=by
 unfold Kv;rw[XY,XY,FJ,FJ,ZT,XW];refine⟨List.Perm.trans ?_ M.pm,?_⟩
 ·rw[<-XW,<-XW];exact ZF _ Yo
 have z1:=Bm.mp M.ua;have z2:=Bm.mp M.ub;rw[Bm];refine⟨z2.1,M.ua,λx hx y hy=>?_⟩;rcases Ww.mp hy with z|z
 ·obtain⟨x',q1,q2,e1⟩:=JP (κ:=κ) hx;obtain⟨y',q3,q4,e2⟩:=JP (κ:=κ) z;rw[e1,e2];obtain rfl:x'=0:=by lia
  exact h0 _ q4
 ·exact z2.2.2 x hx y z
end
section
variable{prog:Program}{w:World}{A:Around}{k:SortKind}{a₀ xs:Array Keyed}{p:Array (Nat×Nat×Nat)}{κ:Keyed->Int}{st:SortSt}
theorem Nh(hc:F3 prog w A s k a₀ κ)(X:SX k xs p st){a b:Array Keyed}(ma:∀x∈a.toList,x∈a₀.toList)(mb:∀x∈b.toList,x∈a₀.toList)(sA:C9 κ a 0 a.size)(sB:C9 κ b 0 b.size)(ha:0<a.size)(hb:0<b.size)
  (h0:ky κ b 0<ky κ a 0) (hl:ky κ b (b.size-1)<ky κ a (a.size-1)) {Q:Array Keyed->SortSt->Prop} (h:∀out t,SX k xs p t->Kv κ a b out->Q out t):wpS (model prog w) A E s (PD a b) Q st:=by
 have ga:∀{i:Nat} (hi:i<a.size),a[i]∈a₀.toList:=λ{i} hi=>ma _ (by simp)
 have gb:∀{i:Nat} (hi:i<b.size),b[i]∈a₀.toList:=λ{i} hi=>mb _ (by simp)
 have hf:∀j,j<a.size->ky κ b 0<ky κ a j:=λj hj=>Int.lt_of_lt_of_le h0 (sA 0 j (XO _) (XO _) hj)
 have hf':∀j,j<a.size->ky κ b 0<=ky κ a j:=λj hj=>XQ (hf j hj)
 refine wpS_bind (wpS_lift (wpAny_rule ⟨rfl,?_⟩));refine wpS_bind (BY (show a.size-1<a.size by lia) ?_)
 have M0:MJ κ a b #[a[a.size-1]] (a.size-1) b.size:=by
  have z:MJ κ a b #[] (a.size-1+1) b.size:=by rw[show a.size-1+1=a.size by lia];have e1:a.toList.take a.size=a.toList:=List.take_of_length_le (by simp);have e2:b.toList.take b.size=b.toList:=List.take_of_length_le (by simp);exact⟨by rw[e1];simpa using HE.mpr sA,by rw[e2];simpa using HE.mpr sB,by rw[e1,e2];simp⟩
  have z:=z.oneA sB (by lia) hb (Wv _) (XQ hl);simpa using z
 refine AZ (λe=>?_) λe=>AZ (λe2=>?_) λe2=>?_
 ·exact wpS_pure (h _ _ X (M0.doneA (eq_of_beq e)))
 ·exact wpS_pure (h _ _ X (M0.firstB (eq_of_beq e2) hf'))
 have e:a.size-1≠0:=C8 e;have e2:b.size≠1:=C8 e2;refine wpS_bind (wpS_get ?_);refine wpS_bind (wpS_forRange (I:=λi c t=>SX k xs p t/\∃na nb out mg,c=(none,na,nb,out,mg)/\RK κ a b (i+1) out na nb) ?_ ?_ ⟨X,_,_,_,_,rfl,M0,by lia,by lia,by lia,Wv _,by lia⟩)
 ·rintro i c t _ hi ⟨X,na,nb,out,mg,rfl,M⟩;refine wpS_bind (wpS_mono (wpS_forRange (I:=λ_ c t=>SX k xs p t/\∃na nb out ac bc,c=(none,na,nb,out,ac,bc)/\RK κ a b (i+1) out na nb) (Q:=λc t=>SX k xs p t/\((∃r o,c=(some r,o)/\Kv κ a b r)\/∃na nb out ac bc,c=(none,na,nb,out,ac,bc)/\RK κ a b (i+1) out na nb)) ?_ ?_ ⟨X,na,nb,out,0,0,rfl,M⟩) ?_)
  ·clear M X;rintro j c t _ hj ⟨X,na,nb,out,ac,bc,rfl,M⟩;obtain⟨M,la,lb,za,zb,ge⟩:=M;obtain⟨m,rfl⟩:∃m,na=m+1:=⟨na-1,by lia⟩;obtain⟨n,rfl⟩:∃n,nb=n+1:=⟨nb-1,by lia⟩;have lm:m<a.size:=za;have ln:n<b.size:=zb;refine wpS_bind (BY ln (wpS_bind (BY lm (wpS_bind (PH hc X (gb ln) (ga lm) (λz=>?_) λz=>?_)))))
   ·refine AZ (λ_=>?_) (λz=>qG rfl z);rw[<-A6 (κ:=κ),<-A6 (κ:=κ)]at z;have M2:=M.oneA sB lm (by lia) zb (XQ z);have M3:m≠0->RK κ a b (i+1) (out.push a[m]) m (n+1):=λq=>⟨M2,by lia,lb,by lia,zb,by lia⟩
    refine wpS_bind (BY lm (AZ (λz=>?_) λz=>AZ (λ_=>?_) λ_=>?_))
    ·exact wpS_pure ⟨X,.inl ⟨_,_,rfl,M2.doneA (eq_of_beq z)⟩⟩
    ·exact wpS_pure ⟨X,.inr ⟨_,_,_,_,_,rfl,M3 (C8 z)⟩⟩
    ·exact wpS_pure ⟨X,_,_,_,_,_,rfl,M3 (C8 z)⟩
   ·refine AZ (λz=>qG z (by decide)) (λ_=>?_);rw[<-A6 (κ:=κ),<-A6 (κ:=κ)]at z;have M2:=M.oneB sA ln la za z;have M3:n≠1->RK κ a b (i+1) (out.push b[n]) (m+1) n:=λq=>⟨M2,la,by lia,za,by lia,by lia⟩
    refine wpS_bind (BY ln (AZ (λz=>?_) λz=>AZ (λ_=>?_) λ_=>?_))
    ·exact wpS_pure ⟨X,.inl ⟨_,_,rfl,M2.firstB (eq_of_beq z) hf'⟩⟩
    ·exact wpS_pure ⟨X,.inr ⟨_,_,_,_,_,rfl,M3 (C8 z)⟩⟩
    ·exact wpS_pure ⟨X,_,_,_,_,_,rfl,M3 (C8 z)⟩
  ·rintro c t ⟨X,na,nb,out,ac,bc,rfl,M⟩;exact⟨X,.inr ⟨na,nb,out,ac,bc,rfl,M⟩⟩
  clear M X;rintro c t ⟨X,⟨r,o,rfl,R⟩|⟨na,nb,out,ac,bc,rfl,M⟩⟩
  ·exact wpS_pure (wpS_pure (h _ _ X R))
  refine wpS_bind (wpS_lift (wpAny_rule ⟨rfl,?_⟩));refine wpS_bind (wpS_mono (wpS_forRange (I:=λj c t=>SX k xs p t/\∃na nb out mg ac bc,c=(none,na,nb,out,mg,ac,bc)/\RK κ a b (i+1+j) out na nb) (Q:=λc t=>SX k xs p t/\((∃r o,c=(some r,o)/\Kv κ a b r)\/∃na nb out mg ac bc,c=(none,na,nb,out,mg,ac,bc)/\RK κ a b (i+1+1) out na nb)) ?_ ?_ ⟨X,_,_,_,_,_,_,rfl,M⟩) ?_)
  ·clear M X;rintro j c t _ hj ⟨X,na,nb,out,mg,ac,bc,rfl,M⟩;obtain⟨M,la,lb,za,zb,ge⟩:=M;obtain⟨n,rfl⟩:∃n,nb=n+1:=⟨nb-1,by lia⟩;have ln:n<b.size:=zb;dsimp (config:={zeta:=false,zetaHave:=false}) only
   extract_lets c1 na1 c2 nb1 c3 out1 c4 mg1 c5 ac1 bc1 nb2 jp mg2
   refine Me (f:=jp ()) λg=>?_;refine wpS_bind (FI X λt X=>wpS_bind (BY ln (wpS_bind (Sf hc X.kd (gb ln) ma (show 0+na<=a.size by lia) (show na-1<na by lia) (λx y h1 h2 (h3:y<0+na)=>sA x y (XO _) h2 (by lia)) λr (hr:r<=na) (r1:∀j,0<=j->j<0+r->ky κ a j<=κ b[n]) (r2:∀j,0+r<=j->j<0+na->κ b[n]<ky κ a j)=>?_))));rw[<-A6 (κ:=κ)]at r1 r2;simp only[Nat.zero_add]at r1 r2;dsimp (config:={zeta:=false,zetaHave:=false}) only
   extract_lets k1 ac2 jp2 out2 na2
   refine GM (f:=jp2 ()) (λna' out'=>MJ κ a b out' na' (n+1)/\1<=na'/\na'<=na/\ky κ a (na'-1)<=ky κ b n) (λna' out' R=>?_) λJ=>?_
   ·obtain⟨R1,R2,R3,R4⟩:=R;have MB:=R1.oneB sA ln R2 (by lia) R4;refine wpS_bind (BY ln (AZ (λz=>wpS_pure ⟨X,.inl ⟨_,_,rfl,MB.firstB (eq_of_beq z) hf'⟩⟩) λz=>?_));have lb2:n≠1:=C8 z;obtain⟨m,rfl⟩:∃m,na'=m+1:=⟨na'-1,by lia⟩;have lm:m<a.size:=by lia
    refine wpS_bind (BY lm (wpS_bind (Sg hc X.kd (ga lm) mb (show 0+n<=b.size by lia) (show n-1<n by lia) (λx y h1 h2 (h3:y<0+n)=>sB x y (XO _) h2 (by lia)) λr' (hr':r'<=n) (r1':∀j,0<=j->j<0+r'->ky κ b j<κ a[m]) (r2':∀j,0+r'<=j->j<0+n->κ a[m]<=ky κ b j)=>?_)));rw[<-A6 (κ:=κ)]at r1' r2';simp only[Nat.zero_add]at r1' r2'
    have r0:1<=r':=by
     rcases Yk r' with z|z
     ·have z1:=r2' 0 (by lia) (by lia);have z2:=hf m lm;lia
     ·exact z
    dsimp (config:={zeta:=false,zetaHave:=false}) only
    extract_lets k2 bc2 na4 jp3 out3 nb3
    have MC:MJ κ a b (out'.push b[n]++(b.extract r' n).reverse) (m+1) r':=MB.someB hr' λx y q1 q2 _ q3 q4=>Xy (sA y m (XO _) (by lia) lm) (r2' x q1 q2)
    refine GM (f:=jp3 ()) (λnb' out'=>MJ κ a b out' (m+1) nb'/\2<=nb'/\nb'<=n/\ky κ b (nb'-1)<=ky κ a m) (λnb' out' R=>?_) λJ=>?_
    ·obtain⟨S1,S2,S3,S4⟩:=R;have MA:=S1.oneA sB lm (by lia) (by lia) S4;have MD:∀P,P<=i+1+(j+1)->m≠0->RK κ a b P (out'.push a[m]) m nb':=λP hP q=>⟨MA,by lia,S2,by lia,by lia,by lia⟩
     refine wpS_bind (BY lm (AZ (λz=>wpS_pure ⟨X,.inl ⟨_,_,rfl,MA.doneA (eq_of_beq z)⟩⟩) λz=>AZ (λ_=>?_) λ_=>?_))
     ·exact wpS_pure ⟨X,.inr ⟨_,_,_,_,_,_,rfl,MD _ (by lia) (C8 z)⟩⟩
     ·exact wpS_pure ⟨X,_,_,_,_,_,_,rfl,MD _ (Wv _) (C8 z)⟩
    ·refine AZ (λz1=>AZ (λz=>wpS_pure ⟨X,.inl ⟨_,_,rfl,MC.firstB (eq_of_beq z) hf'⟩⟩) λz=>AZ (λy=>?_) λ_=>J _ _ ?_) λz1=>J _ _ ?_
     ·have y:r'=0:=eq_of_beq y;lia
     ·have q:r'≠1:=C8 z;exact⟨MC,show 2<=r' by lia,hr',XQ (r1' (r'-1) (XO _) (by lia))⟩
     ·have z1:¬n-r'>0:=z1;exact⟨MB,show 2<=n by lia,Wv _,XQ (r1' (n-1) (XO _) (by lia))⟩
   ·have MC:MJ κ a b (out++(a.extract r na).reverse) r (n+1):=M.someA hr λx y q1 q2 _ q3 q4=>Xy (sB y n (XO _) (by lia) ln) (XQ (r2 x q1 q2))
    refine AZ (λz1=>AZ (λz=>wpS_pure ⟨X,.inl ⟨_,_,rfl,MC.doneA (eq_of_beq z)⟩⟩) λz=>J _ _ ?_) λz1=>J _ _ ?_
    ·have q:r≠0:=C8 z;exact⟨MC,show 1<=r by lia,hr,r1 (r-1) (XO _) (by lia)⟩
    ·have z1:¬na-r>0:=z1;exact⟨M,la,Wv _,r1 (na-1) (XO _) (by lia)⟩
  ·rintro c t ⟨X,na,nb,out,mg,ac,bc,rfl,M⟩;have:=M.la;have:=M.lb;have:=M.ge;lia
  clear M X;rintro c t ⟨X,⟨r,o,rfl,R⟩|⟨na,nb,out,mg,ac,bc,rfl,M⟩⟩
  ·exact wpS_pure (wpS_pure (h _ _ X R))
  exact wpS_bind (FI X λt X=>wpS_pure ⟨X,_,_,_,_,rfl,M⟩)
 ·rintro c t ⟨X,na,nb,out,mg,rfl,M⟩;have:=M.la;have:=M.lb;have:=M.ge;lia
end
structure Vs(κ:Keyed->Int)(xs xs':Array Keyed)(lo hi:Nat):Prop where
 pm:xs'.toList.Perm xs.toList
 ot:∀j,j<lo\/hi<=j->xs'[j]?=xs[j]?
 up:C9 κ xs' lo hi
section
variable{κ:Keyed->Int}{xs xs':Array Keyed}
theorem Ll:∀(l:List Keyed) (off at':Nat) (xs:Array Keyed),at'+off+l.length<=xs.size->∀j:Nat,((l.zipIdx off).foldl (λa x=>a.setIfInBounds (at'+x.2) x.1) xs)[j]?=if at'+off<=j/\j<at'+off+l.length then l[j-(at'+off)]? else xs[j]?
 |[],off,at',xs,_,j=>by rw[qE (by simp only[List.length_nil];lia)];rfl
 |y::l,off,at',xs,h,j=>by
  rw[Xo]at h;rw[List.zipIdx_cons,List.foldl_cons,Ll l _ _ _ (by rw[Array.size_setIfInBounds];lia)];dsimp only;rw[Xo]
  by_cases e:j=at'+off
  ·subst e;rw[qE (by lia),qF (by lia),Xx,Array.getElem?_setIfInBounds_self_of_lt (by lia)];rfl
  ·by_cases e2:at'+off<=j/\j<at'+off+(l.length+1)
   ·rw[qF (by lia),qF e2,show j-(at'+off)=(j-(at'+(off+1)))+1 by lia];rfl
   ·rw[qE (by lia),qE e2,Array.getElem?_setIfInBounds_ne (by lia)]
theorem Qg{l:List Keyed}{at' n:Nat}(h:at'+n<=xs.size)(hp:l.Perm ((xs.toList.drop at').take n)):((l.zipIdx 0).foldl (λa x=>a.setIfInBounds (at'+x.2) x.1) xs).toList.Perm xs.toList:=by
 have ln:l.length=n:=by rw[hp.length_eq,XR,YI,XI];lia
 have e:((l.zipIdx 0).foldl (λa x=>a.setIfInBounds (at'+x.2) x.1) xs).toList=xs.toList.take at'++(l++xs.toList.drop (at'+n)):=by
  apply Yp;intro j;have zl:xs.toList.length=xs.size:=XI;have lt:(xs.toList.take at').length=at':=by rw[XR];lia
  rw[X3,Ll l 0 at' xs (by lia),Nat.add_zero,ln]
  by_cases e1:j<at'
  ·rw[XX (by lia),qE (by lia),Y4 e1,X3]
  ·rw[XB (by lia),lt]
   by_cases e2:j<at'+n
   ·rw[XX (by lia),qF (by lia)]
   ·rw[XB (by lia),qE (by lia),List.getElem?_drop,X3]
    congr 1
    lia
 rw[e]
 have e3:xs.toList=xs.toList.take at'++((xs.toList.drop at').take n++xs.toList.drop (at'+n)):=by rw[<-List.drop_drop,Xk,Xk]
 exact (Yn _ (hp.append_right _)).trans (List.Perm.of_eq e3.symm)
theorem Vs.refl{lo hi:Nat}(h:C9 κ xs lo hi):Vs κ xs xs lo hi:=⟨.refl _,λ_ _=>rfl,h⟩
theorem Lm{sa n1 k sb nb nb':Nat}{m:Array Keyed}(hz:sb+nb<=xs.size)(hk:sa+k<sb)(hn:nb'<=nb)(h1:C9 κ xs sa sb)(h2:C9 κ xs sb (sb+nb))
  (ha:∀j,sa<=j->j<sa+k->ky κ xs j<=ky κ xs sb) (hb:∀j,sb+nb'<=j->j<sb+nb->ky κ xs (sb-1)<=ky κ xs j) (hnb:1<=nb)
  (hm:Kv κ (xs.extract (sa+k) sb) (xs.extract sb (sb+nb')) m):Vs κ xs ((m.toList.zipIdx 0).foldl (λa x=>a.setIfInBounds (sa+k+x.2) x.1) xs) sa (sb+nb):=by
 have e:(xs.extract (sa+k) sb).toList++(xs.extract sb (sb+nb')).toList=(xs.toList.drop (sa+k)).take (sb+nb'-(sa+k)):=by
  rw[YW,YW,YD,YD]
  have:(xs.toList.drop (sa+k)).take (sb+nb'-(sa+k))=(xs.toList.drop (sa+k)).take (sb-(sa+k))++((xs.toList.drop (sa+k)).drop (sb-(sa+k))).take (sb+nb'-sb):=by
   rw[<-List.take_add]
   congr 1
   lia
  rw[this,List.drop_drop]
  congr 3
  lia
 have pm:=hm.1;rw[e]at pm;have ln:m.toList.length=sb+nb'-(sa+k):=by rw[pm.length_eq,XR,YI,XI];lia
 have g:∀j,((m.toList.zipIdx 0).foldl (λa x=>a.setIfInBounds (sa+k+x.2) x.1) xs)[j]?=if sa+k<=j/\j<sb+nb' then m.toList[j-(sa+k)]? else xs[j]?:=λj=>by rw[Ll _ _ _ _ (by rw[ln];lia),ln];rw[Nat.add_zero,show sa+k+(sb+nb'-(sa+k))=sb+nb' by lia]
 refine⟨Qg (by lia) pm,λj hj=>by rw[g,qE (by lia)],?_⟩;have k1:∀j,¬(sa+k<=j/\j<sb+nb')->ky κ ((m.toList.zipIdx 0).foldl (λa x=>a.setIfInBounds (sa+k+x.2) x.1) xs) j=ky κ xs j:=λj hj=>B0 (by rw[g,qE hj])
 have k2:∀j,sa+k<=j->j<sb+nb'->ky κ ((m.toList.zipIdx 0).foldl (λa x=>a.setIfInBounds (sa+k+x.2) x.1) xs) j=ky κ m (j-(sa+k)):=λj h1 h2=>B0 (by rw[g,qF ⟨h1,h2⟩,X3])
 have k3:∀j,sa+k<=j->j<sb+nb'->∃i,sa+k<=i/\i<sb+nb'/\ky κ m (j-(sa+k))=ky κ xs i:=λj h1 h2=>by
  have hl:j-(sa+k)<m.size:=by rw[<-XI,ln];lia
  have mem:m[j-(sa+k)]∈m.toList:=by simp
  obtain⟨i,q1,q2,q3,e⟩:=Dq (pm.mem_iff.mp mem);rw[XI]at q3;refine⟨i,q1,by lia,?_⟩;rw[A6 hl,A6 q3,<-e,Xs]
 have sm:=HE.mp hm.2;have zm:m.size=sb+nb'-(sa+k):=by rw[<-XI,ln]
 intro x y hx hxy hy
 by_cases c1:x<sa+k
 ·rw[k1 x (by lia)]
  by_cases c2:y<sa+k
  ·rw[k1 y (by lia)];exact h1 x y hx hxy (by lia)
  ·by_cases c3:y<sb+nb'
   ·rw[k2 y (by lia) c3];obtain⟨i,q1,q2,e⟩:=k3 y (by lia) c3;rw[e]
    by_cases c4:i<sb
    ·exact h1 x i hx (by lia) c4
    ·exact Xy (ha x hx c1) (h2 sb i (Wv _) (by lia) (by lia))
   ·rw[k1 y (by lia)];exact Xy (ha x hx c1) (h2 sb y (Wv _) (by lia) hy)
 ·by_cases c3:x<sb+nb'
  ·rw[k2 x (by lia) c3]
   by_cases c4:y<sb+nb'
   ·rw[k2 y (by lia) c4];exact sm _ _ (XO _) (by lia) (by lia)
   ·rw[k1 y (by lia)];obtain⟨i,q1,q2,e⟩:=k3 x (by lia) c3;rw[e]
    by_cases c5:i<sb
    ·exact Xy (h1 i (sb-1) (by lia) (by lia) (by lia)) (hb y (by lia) hy)
    ·exact h2 i y (by lia) (by lia) hy
  ·rw[k1 x (by lia),k1 y (by lia)];exact h2 x y (by lia) hxy hy
end
section
variable{prog:Program}{w:World}{A:Around}{k:SortKind}{a₀ xs:Array Keyed}{p:Array (Nat×Nat×Nat)}{κ:Keyed->Int}{st:SortSt}
theorem Qh{t:SortSt}{Q:PUnit->SortSt->Prop}(h:Q ⟨⟩ t):wpS (model prog w) A E s (set t:StateT SortSt Sem PUnit) Q st:=by unfold wpS;rw[StateT.run_set];exact qD ⟨rfl,h⟩
theorem Ni(hc:F3 prog w A s k a₀ κ)(X:SX k xs p st)(mx:∀x∈xs.toList,x∈a₀.toList){sa na pw nb pw2:Nat}(e1:p[i]?=some (sa,na,pw))(e2:p[i+1]?=some (sa+na,nb,pw2))(hna:1<=na)(hnb:1<=nb)(hz:sa+na+nb<=xs.size)
  (s1:C9 κ xs sa (sa+na)) (s2:C9 κ xs (sa+na) (sa+na+nb)) {Q:Bool->SortSt->Prop} (h:∀xs' t,Vs κ xs xs' sa (sa+na+nb)->SX k xs' ((p.setIfInBounds i (sa,na+nb,pw)).eraseIdxIfInBounds (i+1)) t->Q true t):wpS (model prog w) A E s (mergeAt' i) Q st:=by
 have gx:∀{i:Nat} (hi:i<xs.size),xs[i]∈a₀.toList:=λ{i} hi=>mx _ (by simp)
 have zx:C9 κ xs sa (sa+na+nb)->∀t,SX k xs ((p.setIfInBounds i (sa,na+nb,pw)).eraseIdxIfInBounds (i+1)) t->Q true t:=λz t T=>h xs t (.refl z) T
 rcases st with⟨k',xs',p',gm,fl⟩;have ek:=X.kd;have ex:=X.ar;have ep:=X.pd;have ef:=X.fl;dsimp only[kindOf,arrOf,pendingOf,failedOf]at ek ex ep ef;subst ek ex ep ef;refine wpS_bind (wpS_get ?_);dsimp (config:={zeta:=false,zetaHave:=false}) only;rw[e1,e2];obtain⟨sb,hsb⟩:∃sb,sb=sa+na:=⟨_,rfl⟩;rw[<-hsb]at s1 s2 hz h zx⊢;have X2:SX k' xs' ((p'.setIfInBounds i (sa,na+nb,pw)).eraseIdxIfInBounds (i+1)) (SortSt.mk' k' xs' ((p'.setIfInBounds i (sa,na+nb,pw)).eraseIdxIfInBounds (i+1)) gm none):=⟨rfl,rfl,rfl,rfl⟩;have lsb:sb<xs'.size:=by lia
 refine wpS_bind (Qh ?_);refine wpS_bind (BY lsb (wpS_bind (Sf hc rfl (gx lsb) mx (by lia) (by lia) (by rw[<-hsb];exact s1) λr hr r1 r2=>?_)));rw[<-A6 (κ:=κ),<-hsb]at r2;rw[<-A6 (κ:=κ)]at r1;refine AZ (λz=>?_) λz=>?_
 ·have z:na-r=0:=eq_of_beq z;refine wpS_pure (zx (λx y hx hxy hy=>?_) _ X2)
  by_cases c1:y<sb
  ·exact s1 x y hx hxy c1
  ·by_cases c2:x<sb
   ·exact Xy (r1 x hx (by lia)) (s2 sb y (Wv _) (by lia) hy)
   ·exact s2 x y (by lia) hxy hy
 have z:na-r≠0:=C8 z;have ll:sb-1<xs'.size:=by lia
 have e3:sa+r+(na-r)-1=sb-1:=by lia
 rw[e3];refine wpS_bind (BY ll (wpS_bind (Sg hc rfl (gx ll) mx (by lia) (by lia) s2 λr' hr' r1' r2'=>?_)));rw[<-A6 (κ:=κ)]at r1' r2';refine AZ (λz=>?_) λz=>?_
 ·have z:r'=0:=eq_of_beq z;subst z;refine wpS_pure (zx (λx y hx hxy hy=>?_) _ X2)
  by_cases c1:y<sb
  ·exact s1 x y hx hxy c1
  ·by_cases c2:x<sb
   ·exact Xy (s1 x (sb-1) hx (by lia) (by lia)) (r2' y (by lia) hy)
   ·exact s2 x y (by lia) hxy hy
 have z2:r'≠0:=C8 z
 extract_lets x y jp
 have zx1:(xs'.extract (sa+r) sb).size=sb-(sa+r):=by rw[Array.size_extract];lia
 have zy1:(xs'.extract sb (sb+r')).size=r':=by rw[Array.size_extract];lia
 have kx:∀j,j<sb-(sa+r)->ky κ (xs'.extract (sa+r) sb) j=ky κ xs' (sa+r+j):=λj hj=>B0 (by rw[Array.getElem?_extract,qF (by lia)])
 have ky1:∀j,j<r'->ky κ (xs'.extract sb (sb+r')) j=ky κ xs' (sb+j):=λj hj=>B0 (by rw[Array.getElem?_extract,qF (by lia)])
 have mx1:∀q∈(xs'.extract (sa+r) sb).toList,q∈a₀.toList:=λq hq=>mx q (by rw[HG]at hq;exact Yw (ZR hq))
 have my1:∀q∈(xs'.extract sb (sb+r')).toList,q∈a₀.toList:=λq hq=>mx q (by rw[HG]at hq;exact Yw (ZR hq))
 have sx1:C9 κ (xs'.extract (sa+r) sb) 0 (xs'.extract (sa+r) sb).size:=λx y _ hxy hy=>by rw[zx1]at hy;rw[kx _ (by lia),kx _ (by lia)];exact s1 _ _ (by lia) (by lia) (by lia)
 have sy1:C9 κ (xs'.extract sb (sb+r')) 0 (xs'.extract sb (sb+r')).size:=λx y _ hxy hy=>by rw[zy1]at hy;rw[ky1 _ (by lia),ky1 _ (by lia)];exact s2 _ _ (by lia) (by lia) (by lia)
 have h0:ky κ (xs'.extract sb (sb+r')) 0<ky κ (xs'.extract (sa+r) sb) 0:=by rw[kx _ (by lia),ky1 _ (by lia)];exact r2 _ (by lia) (by lia)
 have hl:∀j,j<r'->ky κ (xs'.extract sb (sb+r')) j<ky κ (xs'.extract (sa+r) sb) ((xs'.extract (sa+r) sb).size-1):=λj hj=>by rw[kx _ (by lia),ky1 _ hj,zx1,show sa+r+(sb-(sa+r)-1)=sb-1 by lia];exact r1' _ (by lia) (by lia)
 have J:∀m t,SX k' xs' ((p'.setIfInBounds i (sa,na+nb,pw)).eraseIdxIfInBounds (i+1)) t->Kv κ (xs'.extract (sa+r) sb) (xs'.extract sb (sb+r')) m->wpS (model prog w) A E s (jp m) Q t:=λm t T R=>by refine wpS_bind (wpS_modify (wpS_bind (wpS_get (wpS_pure ?_))));have sw:=Lm (n1:=0) hz (by lia) hr' s1 s2 (λj h1 h2=>r1 j h1 h2) (λj h1 h2=>r2' j h1 h2) hnb R;have tf:=T.fl;have ta:=T.ar;have q:=h _ (SortSt.mk' (kindOf t) ((m.toList.zipIdx 0).foldl (λa x=>a.setIfInBounds (sa+r+x.2) x.1) (arrOf t)) (pendingOf t) (gallopOf t) (failedOf t)) sw ⟨T.kd,by show List.foldl _ (arrOf t) _=_;rw[ta],T.pd,T.fl⟩;show Q (failedOf t).isNone _;rw[tf];exact q
 refine AZ (λ_=>wpS_bind (Ng hc X2 mx1 my1 sx1 sy1 (by lia) (by lia) h0 (λj hj=>hl j (by lia)) λm t T R=>J m t T R)) λ_=>wpS_bind (Nh hc X2 mx1 my1 sx1 sy1 (by lia) (by lia) h0 (hl _ (by lia)) λm t T R=>J m t T R)
end
structure Kf(xs ys:Array Keyed)(lo:Nat):Prop where
 pm:ys.toList.Perm xs.toList
 ot:∀j,j<lo->ys[j]?=xs[j]?
def To(κ:Keyed->Int)(xs:Array Keyed)(i j:Nat):Prop:=∀x y,i<=x->x<=y->y<j->ky κ xs y<=ky κ xs x
section
variable{κ:Keyed->Int}{xs ys:Array Keyed}{lo:Nat}
theorem Kf.size(h:Kf xs ys lo):ys.size=xs.size:=by have z:=h.pm.length_eq;simpa using z
theorem Kf.mirror(h:Kf xs ys lo)(hi:lo<=i)(hj:j<=ys.size):Kf xs (mirror ys i j ((j-i)/2)) lo:=
 ⟨(Yt.mp (mirror_perm ..)).trans h.pm,λx hx=>by rw[getElem?_mirror_all hj,qE (by lia)];exact h.ot x hx⟩
theorem Kf.bubble(h:Kf xs ys lo){src d:Nat}(hs:src<ys.size)(hd:lo+d<=src):Kf xs (bubble ys src d) lo:=
 ⟨(Yt.mp (bubble_perm ..)).trans h.pm,λx hx=>by rw[getElem?_bubble hs _ (by lia),qE (by lia),qE (by lia)];exact h.ot x hx⟩
theorem Fg(hj:j<=xs.size)(x:Nat):ky κ (mirror xs i j ((j-i)/2)) x=if i<=x/\x<j then ky κ xs (i+j-1-x) else ky κ xs x:=by
 have e:=getElem?_mirror_all (i:=i) hj x;split
 ·rw[qF ‹_›]at e;exact B0 e
 ·rw[qE ‹_›]at e;exact B0 e
theorem CK(hj:j<=xs.size)(h:∀x,i<=x->x<j->ky κ xs x=ky κ xs (j-1))(x:Nat):ky κ (mirror xs i j ((j-i)/2)) x=ky κ xs x:=by
 rw[Fg hj];split
 ·rw[h _ (by lia) (by lia),h x (by lia) (by lia)]
 ·rfl
end
section
variable{prog:Program}{w:World}{A:Around}{k:SortKind}{a₀ xs ys:Array Keyed}{p:Array (Nat×Nat×Nat)}{κ:Keyed->Int}{st:SortSt}{lo:Nat}
theorem EW(hc:F3 prog w A s k a₀ κ)(X:SX k ys p st)(my:∀x∈ys.toList,x∈a₀.toList)(hi:i<ys.size)(hj:j<ys.size){Q:Option Bool->SortSt->Prop}(h1:ky κ ys i<ky κ ys j->Q (some true) st)(h2:ky κ ys j<=ky κ ys i->Q (some false) st):wpS (model prog w) A E s (ltAt' i j) Q st:=by
 rw[ltAt'_eq];refine wpS_bind (wpS_get ?_);dsimp only;rw[X.ar];refine wpS_bind (BY hi (wpS_bind (BY hj (PH hc X (my _ (by simp)) (my _ (by simp)) ?_ ?_))))
 ·rw[<-A6 (κ:=κ),<-A6 (κ:=κ)];exact h1
 ·rw[<-A6 (κ:=κ),<-A6 (κ:=κ)];exact h2
theorem Mg(X:SX k ys p st){Q:Unit->SortSt->Prop}(h:∀t,SX k (mirror ys i j ((j-i)/2)) p t->Q () t):wpS (model prog w) A E s (reverseSlice' i j) Q st:=by rw[reverseSlice'_eq];exact wpS_modify (h _ ⟨X.kd,by show mirror (arrOf st) _ _ _=_;rw[X.ar],X.pd,X.fl⟩)
theorem Sh(X:SX k ys p st){Q:Unit->SortSt->Prop}(h:∀t,SX k (bubble ys i (i-j)) p t->Q () t):wpS (model prog w) A E s (moveDown' i j) Q st:=by rw[moveDown'_eq];exact wpS_modify (h _ ⟨X.kd,by show bubble (arrOf st) _ _=_;rw[X.ar],X.pd,X.fl⟩)
theorem Ln(hc:F3 prog w A s k a₀ κ)(X:SX k xs p st)(mx:∀x∈xs.toList,x∈a₀.toList){nrem:Nat}(h1:1<=nrem)(hz:lo+nrem<=xs.size){Q:Option Nat->SortSt->Prop}
  (h:∀r ys t,1<=r->r<=nrem->SX k ys p t->Kf xs ys lo->C9 κ ys lo (lo+r)->Q (some r) t):wpS (model prog w) A E s (countRun' lo nrem) Q st:=by
 have one:∀{ys:Array Keyed},C9 κ ys lo (lo+1):=λ{ys} x y h1 h2 h3=>by
  obtain rfl:x=y:=by lia
  exact X0 _
 have grow:∀{ys:Array Keyed} {n:Nat},1<=n->C9 κ ys lo (lo+n)->ky κ ys (lo+n-1)<=ky κ ys (lo+n)->C9 κ ys lo (lo+(n+1)):=λ{ys n} n1 hs hle x y q1 q2 q3=>by
  by_cases c:y<lo+n
  ·exact hs x y q1 q2 c
  ·obtain rfl:y=lo+n:=by lia
   by_cases c2:x=lo+n
   ·subst c2;exact X0 _
   ·exact Xy (hs x (lo+n-1) q1 (by lia) (by lia)) hle
 have K0:Kf xs xs lo:=⟨.refl _,λ_ _=>rfl⟩;refine wpS_bind (wpS_mono (wpS_forRange (I:=λn c t=>t=st/\c=(none,n)/\C9 κ xs lo (lo+n)) (Q:=λc t=>t=st/\∃n,c=(none,n)/\1<=n/\n<=nrem/\C9 κ xs lo (lo+n)/\(n=nrem\/ky κ xs (lo+n)<ky κ xs (lo+n-1))) ?_ ?_ ⟨rfl,rfl,one⟩) ?_)
 ·rintro n c t q1 q2 ⟨rfl,rfl,hs⟩;refine wpS_bind (EW hc X mx (show lo+n<xs.size by lia) (show lo+n-1<xs.size by lia) (λz=>?_) λz=>?_)
  ·exact AZ (λ_=>wpS_pure ⟨rfl,n,rfl,q1,by lia,hs,.inr z⟩) λz=>qG rfl z
  ·exact AZ (λz=>qG z (by decide)) λ_=>wpS_pure ⟨rfl,rfl,grow q1 hs z⟩
 ·rintro c t ⟨rfl,rfl,hs⟩;rw[show max 1 nrem=nrem by lia]at hs⊢;exact⟨rfl,nrem,rfl,h1,Wv _,hs,.inl rfl⟩
 rintro c t ⟨rfl,n,rfl,n1,nn,hs,hor⟩;refine AZ (λz=>wpS_pure (h n xs _ n1 nn X K0 hs)) λz=>?_;have z:n≠nrem:=C8 z;have hlt:=hor.resolve_left z
 extract_lets n2 n3 jp
 have J:∀ys t,SX k ys p t->Kf xs ys lo->To κ ys lo (lo+(n+1))->wpS (model prog w) A E s (jp ()) Q t:=λys t X K D=>by
  refine wpS_bind (wpS_lift (wpAny_rule ⟨rfl,?_⟩));have zy:=K.size
  refine wpS_bind (wpS_mono (wpS_forRange (I:=λm c t=>∃q zs,c=(none,m,q)/\SX k zs p t/\Kf xs zs lo/\To κ zs lo (lo+m)/\q+1<=m/\∀x,lo+m-(q+1)<=x->x<lo+m->ky κ zs x=ky κ zs (lo+m-1))
   (Q:=λc t=>∃m q zs,c=(none,m,q)/\1<=m/\m<=nrem/\SX k zs p t/\Kf xs zs lo/\To κ zs lo (lo+m)/\q+1<=m/\∀x,lo+m-(q+1)<=x->x<lo+m->ky κ zs x=ky κ zs (lo+m-1)) ?_ ?_ ⟨0,ys,rfl,X,K,D,Nat.le_add_left _ _,λx q1 q2=>by
    have q1:lo+(n+1)-(0+1)<=x:=q1;have q2:x<lo+(n+1):=q2;show ky κ ys x=ky κ ys (lo+(n+1)-1)
    congr 1;lia⟩) ?_)
  ·rintro m c t (q1:n+1<=m) q2 ⟨q,zs,rfl,X,K,D,hq,he⟩;have zz:=K.size;have mz:∀x∈zs.toList,x∈a₀.toList:=λx hx=>mx x (K.pm.mem_iff.mp hx)
   refine wpS_bind (EW hc X mz (show lo+m<zs.size by lia) (show lo+m-1<zs.size by lia) (λz=>?_) λz=>?_)
   ·have dn:∀us:Array Keyed,(∀x,ky κ us x=ky κ zs x)->To κ us lo (lo+(m+1)):=λus hu x y r1 r2 r3=>by
     rw[hu,hu]
     by_cases c:y<lo+m
     ·exact D x y r1 r2 c
     ·obtain rfl:y=lo+m:=by lia
      by_cases c2:x=lo+m
      ·subst c2;exact X0 _
      ·exact Xy (XQ z) (D x (lo+m-1) r1 (by lia) (by lia))
    have last:∀us:Array Keyed,∀x,lo+(m+1)-(0+1)<=x->x<lo+(m+1)->ky κ us x=ky κ us (lo+(m+1)-1):=λus x r1 r2=>by congr 1;lia
    refine AZ (λ_=>AZ (λg=>?_) λg=>?_) λz=>qG rfl z
    ·refine wpS_bind (Mg X λt X=>wpS_pure ⟨0,_,rfl,X,K.mirror (show lo<=lo+m-(q+1) by lia) (show lo+m<=zs.size by lia),dn _ (CK (show lo+m<=zs.size by lia) he),by lia,last _⟩)
    ·exact wpS_pure ⟨0,_,rfl,X,K,dn _ λ_=>rfl,by lia,last _⟩
   ·refine AZ (λz=>qG z (by decide)) λ_=>?_;refine wpS_bind (EW hc X mz (show lo+m-1<zs.size by lia) (show lo+m<zs.size by lia) (λz2=>?_) λz2=>?_)
    ·exact AZ (λ_=>wpS_pure ⟨m,q,zs,rfl,by lia,by lia,X,K,D,hq,he⟩) λz=>qG rfl z
    ·have ee:ky κ zs (lo+m)=ky κ zs (lo+m-1):=by lia
     refine AZ (λz=>qG z (by decide)) λ_=>wpS_pure ⟨q+1,zs,rfl,X,K,λx y r1 r2 r3=>?_,by lia,λx r1 r2=>?_⟩
     ·by_cases c:y<lo+m
      ·exact D x y r1 r2 c
      ·obtain rfl:y=lo+m:=by lia
       by_cases c2:x=lo+m
       ·subst c2;exact X0 _
       ·rw[ee];exact D x (lo+m-1) r1 (by lia) (by lia)
     ·rw[show lo+(m+1)-1=lo+m by lia]
      by_cases c:x=lo+m
      ·subst c;rfl
      ·rw[ee];exact he x (by lia) (by lia)
  ·rintro c t ⟨q,zs,rfl,X,K,D,hq,he⟩;have em:max (n+1) nrem=nrem:=by lia
   have D:To κ zs lo (lo+max (n+1) nrem):=D;have hq:q+1<=max (n+1) nrem:=hq;have he:∀x,lo+max (n+1) nrem-(q+1)<=x->x<lo+max (n+1) nrem->ky κ zs x=ky κ zs (lo+max (n+1) nrem-1):=he;rw[em]at D hq he;exact⟨nrem,q,zs,by show (none,max (n+1) nrem,q)=_;rw[em],h1,Wv _,X,K,D,hq,he⟩
  rintro c t ⟨m,q,zs,rfl,m1,mn,X,K,D,hq,he⟩
  extract_lets c1 c2 c3 c4 jp2
  have J2:∀us t,SX k us p t->Kf xs us lo->To κ us lo (lo+m)->wpS (model prog w) A E s (jp2 ()) Q t:=λus t X K D=>by
   have zu:=K.size;refine wpS_bind (Mg X λt X=>?_);have K:=K.mirror (Wv lo) (show lo+m<=us.size by lia)
   have S:C9 κ (mirror us lo (lo+m) ((lo+m-lo)/2)) lo (lo+m):=λx y r1 r2 r3=>by rw[Fg (by lia),Fg (by lia),qF (by lia),qF (by lia)];exact D _ _ (by lia) (by lia) (by lia)
   have zv:=K.size;have X:SX k (mirror us lo (lo+m) ((lo+m-lo)/2)) p t:=X;obtain⟨vs,hv⟩:∃vs,vs=mirror us lo (lo+m) ((lo+m-lo)/2):=⟨_,rfl⟩;rw[<-hv]at X K S zv;clear hv;have mv:∀x∈vs.toList,x∈a₀.toList:=λx hx=>mx x (K.pm.mem_iff.mp hx)
   refine wpS_bind (wpS_mono (wpS_forRange (I:=λn c u=>u=t/\c=(none,n)/\C9 κ vs lo (lo+n)) (Q:=λc u=>u=t/\∃n,c=(none,n)/\1<=n/\n<=nrem/\C9 κ vs lo (lo+n)) ?_ ?_ ⟨rfl,rfl,S⟩) ?_)
   ·rintro n c t (q1:m<=n) q2 ⟨rfl,rfl,hs⟩;refine wpS_bind (EW hc X mv (show lo+n<vs.size by lia) (show lo+n-1<vs.size by lia) (λz=>?_) λz=>?_)
    ·exact AZ (λ_=>wpS_pure ⟨rfl,n,rfl,by lia,by lia,hs⟩) λz=>qG rfl z
    ·exact AZ (λz=>qG z (by decide)) λ_=>wpS_pure ⟨rfl,rfl,grow (by lia) hs z⟩
   ·rintro c u ⟨rfl,rfl,hs⟩;have em:max m nrem=nrem:=by lia
    have hs:C9 κ vs lo (lo+max m nrem):=hs;rw[em]at hs;exact⟨rfl,nrem,by show (none,max m nrem)=_;rw[em],h1,Wv _,hs⟩
   ·rintro c u ⟨rfl,n,rfl,q1,q2,hs⟩;exact wpS_pure (h n vs _ q1 q2 X K hs)
  have zz:=K.size;refine AZ (λg=>?_) λg=>J2 _ _ X K D
  refine wpS_bind (Mg X λt X=>J2 _ _ X (K.mirror (show lo<=lo+m-(q+1) by lia) (show lo+m<=zs.size by lia)) λx y r1 r2 r3=>?_);rw[CK (by lia) he,CK (by lia) he];exact D x y r1 r2 r3
 refine AZ (λg=>?_) λg=>?_
 ·have g:n>1:=g;refine wpS_bind (EW hc X mx (show lo<xs.size by lia) (show lo+n-1<xs.size by lia) (λz=>?_) λz=>?_)
  ·exact AZ (λ_=>wpS_pure (h n xs _ n1 nn X K0 hs)) λz=>qG rfl z
  ·have al:∀x,lo<=x->x<lo+n->ky κ xs x=ky κ xs (lo+n-1):=λx q1 q2=>by
    have a1:=hs lo x (Wv _) q1 q2;have a2:=hs x (lo+n-1) q1 (by lia) (by lia);lia
   refine AZ (λz=>qG z (by decide)) λ_=>wpS_bind (Mg X λt X=>J _ _ X (K0.mirror (Wv _) (show lo+n<=xs.size by lia)) λx y r1 r2 r3=>?_)
   rw[CK (by lia) al,CK (by lia) al]
   by_cases c:y<lo+n
   ·rw[al x r1 (by lia),al y (by lia) c];exact X0 _
   ·obtain rfl:y=lo+n:=by lia
    by_cases c2:x=lo+n
    ·subst c2;exact X0 _
    ·rw[al x r1 (by lia)];exact XQ hlt
 ·have g:¬n>1:=g;obtain rfl:n=1:=by lia
  refine J xs _ X K0 λx y r1 r2 r3=>?_
  by_cases c2:x=y
  ·subst c2;exact X0 _
  ·obtain rfl:y=lo+1:=by lia
   obtain rfl:x=lo:=by lia
   exact XQ hlt
end
noncomputable def Rl(κ:Keyed->Int)(xs:Array Keyed):Nat->List (Nat×Nat×Nat)->Nat->Prop
 |at',[],lo=>at'=lo
 |at',x::l,lo=>x.1=at'/\1<=x.2.1/\C9 κ xs at' (at'+x.2.1)/\Rl κ xs (at'+x.2.1) l lo
section
variable{κ:Keyed->Int}{xs ys:Array Keyed}
theorem Rl.len:∀{l:List (Nat×Nat×Nat)} {at' lo:Nat},Rl κ xs at' l lo->at'+l.length<=lo
 |[],_,_,h=>Nat.le_of_eq h
 |x::l,at',lo,⟨_,h2,_,h4⟩=>by have z:=Rl.len h4;rw[Xo];lia
theorem IW(h:∀x,i<=x->x<j->ys[x]?=xs[x]?)(s:C9 κ xs i j):C9 κ ys i j:=λx y h1 h2 h3=>by rw[B0 (h x h1 (by lia)),B0 (h y (by lia) h3)];exact s x y h1 h2 h3
theorem Rl.congr:∀{l:List (Nat×Nat×Nat)} {at' lo:Nat},(∀x,at'<=x->x<lo->ys[x]?=xs[x]?)->Rl κ xs at' l lo->Rl κ ys at' l lo
 |[],_,_,_,h=>h
 |x::l,at',lo,hx,⟨h1,h2,h3,h4⟩=>by have z:=Rl.len h4;exact⟨h1,h2,IW (λy q1 q2=>hx y q1 (by lia)) h3,Rl.congr (λy q1 q2=>hx y (by lia) q2) h4⟩
theorem Rl.app:∀{l1 l2:List (Nat×Nat×Nat)} {at' lo:Nat},Rl κ xs at' (l1++l2) lo↔∃m,Rl κ xs at' l1 m/\Rl κ xs m l2 lo
 |[],l2,at',lo=>⟨λh=>⟨at',rfl,h⟩,λ⟨m,h1,h2⟩=>by rw[show at'=m from h1];exact h2⟩
 |x::l1,l2,at',lo=>⟨λ⟨h1,h2,h3,h4⟩=>by obtain⟨m,q1,q2⟩:=Rl.app.mp h4;exact⟨m,⟨h1,h2,h3,q1⟩,q2⟩,λ⟨m,⟨h1,h2,h3,h4⟩,q⟩=>⟨h1,h2,h3,Rl.app.mpr ⟨m,h4,q⟩⟩⟩
theorem Rl.same:∀{l l':List (Nat×Nat×Nat)} {at' lo:Nat},l'.map (λx=>(x.1,x.2.1))=l.map (λx=>(x.1,x.2.1))->Rl κ xs at' l lo->Rl κ xs at' l' lo
 |[],[],_,_,_,h=>h
 |x::l,y::l',at',lo,e,⟨h1,h2,h3,h4⟩=>by
  rw[Xt,Xt]at e
  injection e with e1 e2
  injection e1 with e3 e4
  refine⟨e3.trans h1,?_,?_,?_⟩
  ·rw[e4];exact h2
  ·rw[e4];exact h3
  ·rw[e4];exact Rl.same e2 h4
 |[],_::_,_,_,e,_=>by simp at e
 |_::_,[],_,_,e,_=>by simp at e
theorem PJ(p:Array (Nat×Nat×Nat))(i pw:Nat):(p.modify i λx=>(x.1,x.2.1,pw)).toList.map (λx=>(x.1,x.2.1))=p.toList.map (λx=>(x.1,x.2.1)):=by
 apply Yp;intro j;rw[W0,W0,X3,X3,Array.getElem?_modify];split
 ·cases p[j]?<;>rfl
 ·rfl
end
section
variable{prog:Program}{w:World}{A:Around}{k:SortKind}{a₀ xs ys:Array Keyed}{p:Array (Nat×Nat×Nat)}{κ:Keyed->Int}{st:SortSt}{lo:Nat}
theorem Kg(hc:F3 prog w A s k a₀ κ)(X:SX k xs p st)(mx:∀x∈xs.toList,x∈a₀.toList)(R:Rl κ xs 0 p.toList lo)(hz:lo<=xs.size)(hi:i+1<p.size){Q:Bool->SortSt->Prop}
  (h:∀ys q t,SX k ys q t->ys.toList.Perm xs.toList->(∀j,lo<=j->ys[j]?=xs[j]?)->Rl κ ys 0 q.toList lo->q.size+1=p.size->Q true t):wpS (model prog w) A E s (mergeAt' i) Q st:=by
 have e0:p.toList=p.toList.take i++(p[i]::p[i+1]::p.toList.drop (i+2)):=by
  conv=>lhs;rw[<-Xk i p.toList]
  congr 1
  rw[List.drop_eq_getElem_cons (by simp;lia),List.drop_eq_getElem_cons (by simp;lia)];simp
 rw[e0]at R;obtain⟨m,R1,R2,R3,R4,R5,R6,R7,R8⟩:=Rl.app.mp R;have z1:=R1.len;have z2:=R8.len;rcases ep:p[i] with⟨sa,na,pw⟩;rcases ep2:p[i+1] with⟨sb,nb,pw2⟩;rw[ep]at R2 R3 R4 R5 R7 R8 z2;rw[ep2]at R5 R6 R7 R8 z2;dsimp only at R2 R3 R4 R5 R6 R7 R8 z2;subst R2;subst R5;refine Ni hc X mx (by rw[getElem?_pos p i (by lia),ep]) (by rw[getElem?_pos p (i+1) hi,ep2]) R3 R6 (by lia) R4 R7 λys t sw T=>?_
 have e1:((p.setIfInBounds i (sa,na+nb,pw)).eraseIdxIfInBounds (i+1)).toList=p.toList.take i++((sa,na+nb,pw)::p.toList.drop (i+2)):=by
  rw[Array.toList_eraseIdxIfInBounds,Array.toList_setIfInBounds]
  conv=>lhs;rw[e0]
  have ll:(p.toList.take i).length=i:=by rw[XR,XI];lia
  rw[List.set_append_right _ _ (by lia),ll,Xx,List.set_cons_zero,List.eraseIdx_append_of_length_le (by lia),ll,show i+1-i=1 by lia];rfl
 refine h ys _ t T sw.pm (λj hj=>sw.ot j (.inr (by lia))) ?_ ?_
 ·rw[e1];refine Rl.app.mpr ⟨sa,R1.congr λx q1 q2=>sw.ot x (.inl q2),rfl,by show 1<=na+nb;lia,?_,?_⟩
  ·show C9 κ ys sa (sa+(na+nb));rw[<-Nat.add_assoc];exact sw.up
  ·show Rl κ ys (sa+(na+nb)) _ lo;rw[<-Nat.add_assoc];exact R8.congr λx q1 q2=>sw.ot x (.inr q1)
 ·have z:=congrArg List.length e1;have z0:=congrArg List.length e0;simp only[Array.length_toList,List.length_append,List.length_cons]at z z0;lia
theorem PL(hc:F3 prog w A s k a₀ κ)(X:SX k xs p st)(mx:∀x∈xs.toList,x∈a₀.toList){n ok:Nat}(h1:1<=ok)(h2:ok<=n)(hz:lo+n<=xs.size)(hs:C9 κ xs lo (lo+ok)){Q:Bool->SortSt->Prop}
  (h:∀ys t,SX k ys p t->Kf xs ys lo->C9 κ ys lo (lo+n)->Q true t):wpS (model prog w) A E s (binarySort' lo n ok) Q st:=by
 refine wpS_bind (wpS_mono (wpS_forRange (I:=λx c t=>∃ys,c=(none,())/\SX k ys p t/\Kf xs ys lo/\C9 κ ys lo (lo+x)) (Q:=λc t=>∃ys,c=(none,())/\SX k ys p t/\Kf xs ys lo/\C9 κ ys lo (lo+n)) ?_ ?_ ⟨xs,rfl,X,⟨.refl _,λ_ _=>rfl⟩,by rw[show max ok 1=ok by lia];exact hs⟩) ?_)
 ·rintro x c t q1 q2 ⟨ys,rfl,X,K,S⟩;have zy:=K.size;have my:∀x∈ys.toList,x∈a₀.toList:=λx hx=>mx x (K.pm.mem_iff.mp hx)
  refine wpS_bind (wpS_mono (wpS_forRange (I:=λi c u=>u=t/\∃l r,c=(none,l,r)/\l<=r/\r<=x/\r-l<=x-i/\(∀j,j<l->ky κ ys (lo+j)<=ky κ ys (lo+x))/\(∀j,r<=j->j<x->ky κ ys (lo+x)<ky κ ys (lo+j)))
   (Q:=λc u=>u=t/\∃l r,c=(none,l,r)/\l<=x/\(∀j,j<l->ky κ ys (lo+j)<=ky κ ys (lo+x))/\(∀j,l<=j->j<x->ky κ ys (lo+x)<ky κ ys (lo+j))) ?_ ?_ ⟨rfl,0,x,rfl,by lia,by lia,by lia,λj hj=>by lia,λj a b=>by lia⟩) ?_)
  ·rintro i c u _ ix ⟨rfl,l,r,rfl,a1,a2,a3,a4,a5⟩;refine AZ (λz=>?_) λz=>?_
   ·obtain rfl:l=r:=Nat.le_antisymm a1 z;exact wpS_pure ⟨rfl,l,l,rfl,a2,a4,a5⟩
   ·have z:¬l≥r:=z;refine wpS_bind (EW hc X my (show lo+x<ys.size by lia) (show lo+(l+r)/2<ys.size by lia) (λy=>?_) λy=>?_)
    ·have y:ky κ ys (lo+x)<ky κ ys (lo+(l+r)/2):=y;refine AZ (λ_=>wpS_pure ⟨rfl,l,(l+r)/2,rfl,by lia,by lia,by lia,a4,λj b1 b2=>?_⟩) λz=>qG rfl z
     exact Int.lt_of_lt_of_le y (S _ _ (by lia) (by lia) (by lia))
    ·have y:ky κ ys (lo+(l+r)/2)<=ky κ ys (lo+x):=y;refine AZ (λz=>qG z (by decide)) λ_=>wpS_pure ⟨rfl,(l+r)/2+1,r,rfl,by lia,by lia,by lia,λj b1=>?_,a5⟩
     exact Xy (S _ _ (by lia) (by lia) (by lia)) y
  ·rintro c u ⟨rfl,l,r,rfl,a1,a2,a3,a4,a5⟩;obtain rfl:l=r:=by lia
   exact⟨rfl,l,l,rfl,a2,a4,a5⟩
  ·rintro c u ⟨rfl,l,r,rfl,a1,a4,a5⟩;refine wpS_bind (Sh X λt X=>wpS_pure ⟨_,rfl,X,K.bubble (show lo+x<ys.size by lia) (show lo+(lo+x-(lo+l))<=lo+x by lia),?_⟩)
   have kb:∀j,ky κ (bubble ys (lo+x) (lo+x-(lo+l))) j=if j=lo+l then ky κ ys (lo+x) else if lo+l<j/\j<=lo+x then ky κ ys (j-1) else ky κ ys j:=λj=>by
    have e:=getElem?_bubble (xs:=ys) (show lo+x<ys.size by lia) (lo+x-(lo+l)) (by lia) j;rw[show lo+x-(lo+x-(lo+l))=lo+l by lia]at e;split
    ·rw[qF ‹_›]at e;exact B0 e
    ·rw[qE ‹_›]at e;split
     ·rw[qF ‹_›]at e;exact B0 e
     ·rw[qE ‹_›]at e;exact B0 e
   intro a b b1 b2 b3;show ky κ (bubble ys (lo+x) (lo+x-(lo+l))) a<=ky κ (bubble ys (lo+x) (lo+x-(lo+l))) b
   have a4':∀j,lo<=j->j<lo+l->ky κ ys j<=ky κ ys (lo+x):=λj q1 q2=>by have z:=a4 (j-lo) (by lia);rw[show lo+(j-lo)=j by lia]at z;exact z
   have a5':∀j,lo+l<=j->j<lo+x->ky κ ys (lo+x)<ky κ ys j:=λj q1 q2=>by have z:=a5 (j-lo) (by lia) (by lia);rw[show lo+(j-lo)=j by lia]at z;exact z
   rw[kb,kb]
   repeat' split
   all_goals first
    | (exfalso;lia)
    |exact X0 _
    |exact a4' _ (by lia) (by lia)
    |exact XQ (a5' _ (by lia) (by lia))
    |exact S _ _ (by lia) (by lia) (by lia)
 ·rintro c t ⟨ys,rfl,X,K,S⟩;rw[show max (max ok 1) n=n by lia]at S;exact⟨ys,rfl,X,K,S⟩
 ·rintro c t ⟨ys,rfl,X,K,S⟩;exact wpS_pure (h ys t X K S)
end
section
variable{prog:Program}{w:World}{A:Around}{k:SortKind}{a₀ xs ys:Array Keyed}{p:Array (Nat×Nat×Nat)}{κ:Keyed->Int}{st:SortSt}{lo:Nat}
theorem PM{f:β->StateT SortSt Sem α}{m:StateT SortSt Sem α}{Q:α->SortSt->Prop}(R:β->SortSt->Prop)(J:∀x t,R x t->wpS (model prog w) A E s (f x) Q t)(h:(∀x t,R x t->wpS (model prog w) A E s (f x) Q t)->wpS (model prog w) A E s m Q st):wpS (model prog w) A E s m Q st:=h J
theorem Qi(hc:F3 prog w A s k a₀ κ)(X:SX k a₀ #[] st){Q:Unit->SortSt->Prop}(h:∀ys q t,SX k ys q t->ys.toList.Perm a₀.toList->C9 κ ys 0 a₀.size->Q () t):wpS (model prog w) A E s sortRuns' Q st:=by
 have sz:∀{ys:Array Keyed},ys.toList.Perm a₀.toList->ys.size=a₀.size:=λ{ys} z=>by have z:=z.length_eq;simpa using z
 refine wpS_bind (wpS_get ?_);have ea:(arrOf st).size=a₀.size:=by rw[X.ar]
 extract_lets n0 mr lo0
 obtain⟨n,hn⟩:∃n,n=n0:=⟨_,rfl⟩;have en:n=a₀.size:=hn.trans ea;clear_value mr;rw[<-hn];clear_value n0;refine wpS_bind (wpS_mono (wpS_forRange (I:=λi c t=>∃lo ys p,c=(none,lo)/\SX k ys p t/\ys.toList.Perm a₀.toList/\Rl κ ys 0 p.toList lo/\lo<=n/\i<=lo) (Q:=λc t=>∃ys p,c=(none,n)/\SX k ys p t/\ys.toList.Perm a₀.toList/\Rl κ ys 0 p.toList n) ?_ ?_ ⟨0,a₀,#[],rfl,X,.refl _,rfl,XO _,XO _⟩) ?_)
 ·rintro i c t _ hi ⟨lo,ys,p,rfl,X,P,R,ln,li⟩;have zy:=sz P;have my:∀x∈ys.toList,x∈a₀.toList:=λx hx=>P.mem_iff.mp hx
  refine AZ (λz=>?_) λz=>?_
  ·have z:lo≥n:=z;obtain rfl:lo=n:=by lia
   exact wpS_pure ⟨ys,p,rfl,X,P,R⟩
  have z:¬lo≥n:=z;refine wpS_bind (Ln hc X my (show 1<=n-lo by lia) (show lo+(n-lo)<=ys.size by lia) λr ys t r1 r2 X K S=>?_);dsimp (config:={zeta:=false,zetaHave:=false}) only
  extract_lets f jp fc
  have P:=K.pm.trans P;have R:=R.congr λx _ q=>K.ot x q
  have zy:=sz P;refine PM (f:=jp ()) (λm t=>∃ys,1<=m/\lo+m<=n/\SX k ys p t/\ys.toList.Perm a₀.toList/\Rl κ ys 0 p.toList lo/\C9 κ ys lo (lo+m)) (λm t ⟨ys,m1,m2,X,P,R,S⟩=>?_) λJ=>?_
  ·refine wpS_bind (wpS_get ?_)
   extract_lets lo1 jp2
   refine PM (f:=jp2) (λ_ t=>∃ys p,SX k ys p t/\ys.toList.Perm a₀.toList/\Rl κ ys 0 p.toList lo/\C9 κ ys lo (lo+m)) (λ_ t ⟨ys,p,X,P,R,S⟩=>?_) λJ2=>?_
   ·refine wpS_bind (wpS_modify (wpS_pure ⟨lo+m,ys,p.push (lo,m,0),rfl,⟨X.kd,X.ar,by show (pendingOf t).push _=_;rw[X.pd],X.fl⟩,P,?_,m2,by lia⟩));rw[Array.toList_push];exact Rl.app.mpr ⟨lo,R,rfl,m1,S,rfl⟩
   have ep:(sortPriv% PySem.Builtin.SortState.pending) t=p:=X.pd;rw[ep];rcases eb:p.back? with _|⟨s1,n1,w1⟩
   ·exact J2 () t ⟨ys,p,X,P,R,S⟩
   refine wpS_bind (wpS_mono (wpS_forRange (I:=λ_ c t=>∃ys p,c=(none,())/\SX k ys p t/\ys.toList.Perm a₀.toList/\Rl κ ys 0 p.toList lo/\C9 κ ys lo (lo+m)) (Q:=λc t=>∃ys p,c=(none,())/\SX k ys p t/\ys.toList.Perm a₀.toList/\Rl κ ys 0 p.toList lo/\C9 κ ys lo (lo+m)) ?_ (λ_ _ z=>z) ⟨ys,p,rfl,X,P,R,S⟩) ?_)
   ·rintro j c t _ _ ⟨ys,p,rfl,X,P,R,S⟩;refine wpS_bind (wpS_get ?_);have ep:(sortPriv% PySem.Builtin.SortState.pending) t=p:=X.pd;rw[ep]
    extract_lets p2
    by_cases c1:p.size>1
    ·rw[qF c1,getElem?_pos p (p.size-2) (by lia)];rcases p[p.size-2] with⟨a1,a2,a3⟩;refine AZ (λ_=>wpS_pure ⟨ys,p,rfl,X,P,R,S⟩) λ_=>?_;have zy:=sz P;refine wpS_bind (Kg hc X (λx hx=>P.mem_iff.mp hx) R (by lia) (show p.size-2+1<p.size by lia) λzs q t X P' O R' _=>?_);exact AZ (λz=>qG z (by decide)) λ_=>wpS_pure ⟨zs,q,rfl,X,P'.trans P,R',IW (λx q1 _=>O x q1) S⟩
    ·rw[qE c1];exact wpS_pure ⟨ys,p,rfl,X,P,R,S⟩
   ·rintro c t ⟨ys,p,rfl,X,P,R,S⟩;exact wpS_bind (wpS_modify (J2 () _ ⟨ys,p.modify (p.size-1) λx=>(x.1,x.2.1,power' n (2*s1+n1) (2*s1+n1+n1+m) n),⟨X.kd,X.ar,congrArg (λz:Array (Nat×Nat×Nat)=>z.modify (z.size-1) λx=>(x.1,x.2.1,power' n (2*s1+n1) (2*s1+n1+n1+m) n)) X.pd,X.fl⟩,P,R.same (PJ p (p.size-1) _),S⟩))
  refine AZ (λg=>?_) λg=>J r t ⟨ys,r1,by lia,X,P,R,S⟩
  have g:r<mr:=g;refine wpS_bind (wpS_lift (wpAny_rule ⟨rfl,?_⟩));refine wpS_bind (PL hc X (λx hx=>P.mem_iff.mp hx) r1 (show r<=min (n-lo) mr by lia) (show lo+min (n-lo) mr<=ys.size by lia) S λzs t X K S=>?_);exact AZ (λz=>qG z (by decide)) λ_=>J _ t ⟨zs,show 1<=min (n-lo) mr by lia,show lo+min (n-lo) mr<=n by lia,X,K.pm.trans P,R.congr λx _ q=>K.ot x q,S⟩
 ·rintro c t ⟨lo,ys,p,rfl,X,P,R,ln,li⟩;obtain rfl:lo=n:=by lia
  exact⟨ys,p,rfl,X,P,R⟩
 rintro c t ⟨ys,p,rfl,X,P,R⟩
 have fin:∀ys p t,SX k ys p t->ys.toList.Perm a₀.toList->Rl κ ys 0 p.toList n->p.size<=1->Q () t:=λys p t X P R h1=>by
  refine h ys p t X P ?_;rcases p with⟨l⟩;rw[<-en]
  match l,R,h1 with
  |[],R,_=>intro x y _ _ hy;have:0=n:=R;lia
  |[x],⟨_,_,S,R⟩,_ =>
   have e:0+x.2.1=n:=R;rw[e]at S;exact S
  |x::y::l,_,h1=>simp at h1
 have zp:=R.len;refine wpS_bind (wpS_mono (wpS_forRange (I:=λj c t=>∃ys p,c=(none,())/\SX k ys p t/\ys.toList.Perm a₀.toList/\Rl κ ys 0 p.toList n/\p.size+j<=n) (Q:=λc t=>c=(none,())/\Q () t) ?_ ?_ ⟨ys,p,rfl,X,P,R,by simp at zp;lia⟩) ?_)
 ·rintro j c t _ hj ⟨ys,p,rfl,X,P,R,pj⟩;refine wpS_bind (wpS_get ?_);have ep:(sortPriv% PySem.Builtin.SortState.pending) t=p:=X.pd;rw[ep];refine AZ (λz=>?_) λz=>?_
  ·exact wpS_pure ⟨rfl,fin ys p t X P R z⟩
  have z:¬p.size<=1:=z;have zy:=sz P;refine wpS_bind (Kg hc X (λx hx=>P.mem_iff.mp hx) R (by lia) ?_ λzs q t X P' O R' e=>?_)
  ·(repeat' split)<;>lia
  ·exact AZ (λz=>qG z (by decide)) λ_=>wpS_pure ⟨zs,q,rfl,X,P'.trans P,R',by lia⟩
 ·rintro c t ⟨ys,p,rfl,X,P,R,pj⟩;exact⟨rfl,fin ys p t X P R (by lia)⟩
 ·rintro c t ⟨rfl,q⟩;exact wpS_pure q
end
end L2
namespace PySem
open Sem (wp)
open PyProof.Rows
section
variable{prog:Program}{w:World}{K:Type}[DecidableEq K]{knd:KeyKind prog w K}{A:Around}{E:Value->Shared->Prop}{s:Shared}
theorem collect_dict{R:List Value->Shared->Prop}{d:Addr}{kvs:List (K×Value)}{ep:Nat}(hh:A.handled=none)(hm:(d==sysModules)=false)(hr:s.heap.DictAt knd d kvs ep)(hlen:kvs.length<=sizeLine)
  (q:∀h' tk acc,s.heap.objs.size<h'.objs.size->(∀b o,s.heap.get? b=some o->h'.get? b=some o)->ItemsOf (λi v=>∃k x,kvs[i]?=some (k,x)/\knd.is k v=true) acc kvs.length->R acc.toList {s with heap:=h',toks:=tk}):wpAny (model prog w) A (collect (.ref d)) R E s:=by
 unfold collect;apply qC;apply wpAny_runValue;refine codeAny_builtin F.entry_proto_collect ?_;rw[A.under_plainId F.plain_proto_collect];show wpAny _ A.in1 (newList [] >>= λz=>again (.builtin "list.__iadd__" ⟨[z,.ref d],[]⟩)) _ _ s;apply qC;refine wpAny_newObj_type ?_;apply qD;refine⟨plainId_quiet F.plain_list_iadd _,?_⟩;refine codeAny_builtin F.entry_list_iadd ?_;rw[A.under_plainId F.plain_list_iadd];generalize hS:s.heap.objs.size=S;generalize hG:s.heap.push {cls:=.type "list",data:=.seq ([]:List Value).toArray}=G;have gS:G.get? S=some {cls:=.type "list",data:=.seq #[] 0}:=by rw[<-hG,<-hS];exact W9 _ rfl
 have gk:∀b o,s.heap.get? b=some o->G.get? b=some o:=λb o e=>by rw[<-hG];exact Wu _ e
 show wpAny _ A.in1 (Builtin.List.listExtendWith (.ref S) (.ref d) (.ref S)) _ _ _;refine wpAny_mono (extend_dict (A:=A) (s:={s with heap:=G}) (knd:=knd) (R:=λx s'=>x=.ok (.ret (.ref S))/\∃(h':Heap) (tk:Nat) (acc:Array Value) (c':Nat),s'={s with heap:=h',toks:=tk}/\(∀b o,s.heap.get? b=some o->h'.get? b=some o)/\h'.get? S=some {cls:=.type "list",dict:=none,data:=.seq acc c',slots:=#[]}/\ItemsOf (λi v=>∃k x,kvs[i]?=some (k,x)/\knd.is k v=true) acc kvs.length) hh hm (hr.at' λo e=>gk d o e) hlen S (.ref S) 0 gS λh' tk acc c' hk hS' hacc=>⟨rfl,h',tk,acc,c',rfl,λb o e=>hk b o (λz=>?_) (gk b o e),hS',hacc⟩) (λfin s' h=>?_) (λe s' h=>?_)
 ·have:=Wz e;rw[z,hS]at this;exact XN _ this
 ·have last:∀(x:Result) (s':Shared),(x=.ok (.ret (.ref S))/\∃(h':Heap) (tk:Nat) (acc:Array Value) (c':Nat),s'={s with heap:=h',toks:=tk}/\(∀b o,s.heap.get? b=some o->h'.get? b=some o)/\h'.get? S=some {cls:=.type "list",dict:=none,data:=.seq acc c',slots:=#[]}/\ItemsOf (λi v=>∃k x,kvs[i]?=some (k,x)/\knd.is k v=true) acc kvs.length)->wpAny (model prog w) A (match Value.ref S with
    |Value.ref a=>do
     match (<-load a).data with
      |Data.seq xs _=>pure xs.toList
      |_=>unsupported "internal:collect"
    |_=>unsupported "internal:collect") R E s':=by
   rintro x s' ⟨rfl,h',tk,acc,c',rfl,hk,hS',hacc⟩;show wpAny _ A (load S >>= _) _ _ _;apply qC;refine wpAny_load hS' ?_;exact qD (q h' tk acc (by rw[hS];exact Wz hS') hk hacc)
  cases fin with
  |done f =>
   have e:=h.1;cases e;exact last _ _ h
  |again c'=>exact⟨h.1,codeAny_mono h.2 λx s2 hx=>by have e:=hx.1;subst e;exact last _ _ hx⟩
 ·exact nomatch h.1
end
end PySem
namespace L2
open PySem PySem.Spec PyProof.Rows
variable{E Q:Value->Shared->Prop}{X:Cx}{a d:Addr}{pos:Pos}{s:Shared}{ta:TA}{te:TE}
section
variable{prog:Program}{w:World}{A:Around}
theorem PN{a₀:Array Keyed}(h:∀x∈a₀.toList,∃n t,x.1=.int n t):F3 prog w A s oneType' a₀ (λx=>numOf x.1):=λx hx y hy E Q q=>by
 obtain⟨n,t,e⟩:=h x hx;obtain⟨m,u,e2⟩:=h y hy;have e3:(λx y:Keyed=>decide ((λx:Keyed=>numOf x.1) x<(λx:Keyed=>numOf x.1) y)) x y=decide (n<m):=by simp only[e,e2];rfl
 rw[e3]at q;rw[keyLt'_oneType,e,e2];exact oneLt_int q
theorem Uh{xs:Array Keyed}(i:Nat):ky (λx=>numOf x.1) xs i=K xs i:=by unfold ky K;cases xs[i]?<;>rfl
theorem Nj{vs:List Value}{ns:List Int}{n:Nat}{b:Bool}{P:Fin->Shared->Prop}(ho:s.heap.get? a=some (seqObj "list" vs.toArray n))(hI:IntsAre vs ns)(hz:vs.length<=sizeLine)
  (h:∀(out:Array Value) (ns':List Int),IntsAre out.toList ns'->ns'.Perm ns->Ordered b ns'->P (.done (.ret .none)) {s with heap:=sortedHeap s.heap a vs out}):wpAny (model prog w) A (Builtin.«list.sort» ⟨[.ref a],[(Str.ofString "reverse",.bool b)]⟩) P E s:=by
 rw[list_sort_rev];have ha:=Wz ho;obtain⟨e1,ho1⟩:∃e1,(s.heap.update a (Obj.mapSeq λ_=>#[])).get? a=some (seqObj "list" #[] e1):=⟨_,get?_update_seq ho (λ_=>#[])⟩;refine qC (listItems_at ho rfl (qC (listUpdate_at ho rfl (qC (seqEpoch_at ho1 rfl (qC (wpAny_newTuple (qC (wpAny_newList (wpAny_holding ?_))))))))));have hl:(((s.heap.update a (Obj.mapSeq λ_=>#[])).push (seqObj "tuple" vs.toArray 0)).push (seqObj "list" #[] 0)).get? a=some (seqObj "list" #[] e1):=Wu _ (Wu _ ho1);show wpAny (model prog w) A _ P E {s with heap:=((s.heap.update a (Obj.mapSeq λ_=>#[])).push (seqObj "tuple" vs.toArray 0)).push (seqObj "list" #[] 0)};have sz:vs.toArray.size=vs.length:=by simp
 have hstart:(if b=true then (vs.toArray.zip vs.toArray).reverse else vs.toArray.zip vs.toArray).toList.Perm (pairsOf vs).toList:=by
  cases b with
  |false=>exact .refl _
  |true=>rw[qF rfl,ZT];exact List.reverse_perm _
 dsimp only
 have step:∀t:Sem Fin,wpAny (model prog w) A t P E {s with heap:=((s.heap.update a (Obj.mapSeq λ_=>#[])).push (seqObj "tuple" vs.toArray 0)).push (seqObj "list" #[] 0)} ->
   wpAny (model prog w) A (if b=true then (do let _ <-rule "list.sort.reverse";t) else t) P E {s with heap:=((s.heap.update a (Obj.mapSeq λ_=>#[])).push (seqObj "tuple" vs.toArray 0)).push (seqObj "list" #[] 0)}:=λt ht=>by
  split
  ·exact qC (wpAny_rule ht)
  ·exact ht
 refine step _ ?_
 have low:∀xs:Array Keyed,xs.toList.Perm (pairsOf vs).toList->(if b=true then (xs.map (·.2)).reverse else xs.map (·.2)).size<=sizeLine+1:=λxs p=>by
  have z:=p.length_eq;rw[XI,XI,pairsOf_size]at z;split
  ·rw[Array.size_reverse,Array.size_map];lia
  ·rw[Array.size_map];lia
 have fin:∀xs:Array Keyed,xs.toList.Perm (pairsOf vs).toList->SortedTo xs (pairsOf vs).size->P (.done (.ret .none)) {s with heap:=sortedHeap s.heap a vs (if b then (xs.map (·.2)).reverse else xs.map (·.2))}:=λxs p hs=>by obtain⟨ns',h1,h2,h3⟩:=sorted_out_rev hI (Yt.mpr p) hs b;exact h _ ns' h1 h2 h3
 by_cases h2:vs.toArray.size<2
 ·rw[qF h2,qF h2];refine qC (qD ?_);rw[StateT.run_pure];refine qC (qD (qC (seqEpoch_at hl rfl (qC (listUpdate_at hl rfl ?_ (hsz2:=low _ hstart))))));simp only[bne_self_eq_false,Bool.false_eq_true,if_false];refine qD (fin _ hstart ?_);intro i j hij hj;have:i=j:=by rw[pairsOf_size]at hj;lia
  subst this;exact X0 _
 ·rw[qE h2,qE h2]
  obtain⟨v₁,v₂,rest,rfl⟩:∃v₁ v₂ rest,vs=v₁::v₂::rest:=by
   match vs,sz,h2 with
   |[],_,h2=>simp at h2
   |[_],_,h2=>simp at h2
   |v₁::v₂::rest,_,_=>exact⟨v₁,v₂,rest,rfl⟩
  rw[keyKind_ints hI];refine qC (qD ?_);obtain⟨a₀,ea⟩:∃a₀,a₀=(if b=true then ((v₁::v₂::rest).toArray.zip (v₁::v₂::rest).toArray).reverse else (v₁::v₂::rest).toArray.zip (v₁::v₂::rest).toArray):=⟨_,rfl⟩;rw[<-ea]at hstart⊢
  refine qC (wpAny_mono (Qi (k:=oneType') (a₀:=a₀) (κ:=λx=>numOf x.1) (st:=SortSt.mk' oneType' a₀ #[] 7 none)
   (Q:=λ_ t=>(arrOf t).toList.Perm a₀.toList/\failedOf t=none/\C9 (λx=>numOf x.1) (arrOf t) 0 a₀.size) (PN λx hx=>hI.intKeys x (hstart.mem_iff.mp hx)) ⟨rfl,rfl,rfl,rfl⟩ λys q t X p S=>⟨by rw[X.ar];exact p,X.fl,by rw[X.ar];exact S⟩) ?_ λ_ _ e=>e)
  rintro⟨⟨⟩,t⟩ s' ⟨rfl,hp,hf,hs⟩;dsimp only;refine qC (seqEpoch_at hl rfl (qC (listUpdate_at hl rfl ?_ (hsz2:=low _ (hp.trans hstart)))));rw[hf];simp only[bne_self_eq_false,Bool.false_eq_true,if_false];refine qD (fin (arrOf t) (hp.trans hstart) λi j hij hj=>?_);have z:=hs i j (XO _) hij (by have y:=hstart.length_eq;rw[XI,XI]at y;lia);rw[Uh,Uh]at z;exact z
theorem Lo{w:World}{P:Program}{kvs:List (Bu×Value)}{A:List Int}{acc:Array Value}(hA:kvs.map (·.1)=A.map Sum.inl)(h:ItemsOf (λi v=>∃k x,kvs[i]?=some (k,x)/\(BE P w).is k v=true) acc kvs.length):IntsAre acc.toList A:=by
 have ln:A.length=kvs.length:=by have z:=congrArg List.length hA;simpa using z.symm
 have vl:Al (A.map V.int) acc.toList:=by refine MH (by have z:=h.1;rw[List.length_map,ln];simp only[Array.length_toList];lia) λi x u e1 e2=>?_;obtain⟨k,x',hk,is⟩:=h.2 i u (by simpa using e2);rw[W0]at e1;obtain⟨a,ha,rfl⟩:=XS.mp e1;have z:=congrArg (λl=>l[i]?) hA;simp only[List.getElem?_map,hk,ha,Option.map_some]at z;rw[show k=Sum.inl a from Option.some.inj z]at is;exact RI is
 exact FH vl
theorem FK:∀{vs:List Value} {ns:List Int},IntsAre vs ns->Al (ns.map V.int) vs
 |_,_,.nil=>.nil
 |_,_,.cons n t h=>.cons ⟨t,rfl⟩ (FK h)
theorem Nk{kvs:List (Bu×Value)}{ep:Nat}{A':List Int}{b:Bool}(hh:A.handled=none)(hm:(d==sysModules)=false)(hr:s.heap.DictAt (BE prog w) d kvs ep)(hA:kvs.map (·.1)=A'.map Sum.inl)(hlen:kvs.length<=sizeLine)
  (h:∀(D:Addr) (h':Heap) (tk:Nat) (out:Array Value) (ns:List Int) (e:Nat),s.heap.objs.size<=D->(∀b o,s.heap.get? b=some o->h'.get? b=some o)->h'.get? D=some (seqObj "list" out e)->IntsAre out.toList ns->ns.Perm A'->Ordered b ns->Q (.ref D) {s with heap:=h',toks:=tk}):wpAny (model prog w) A (call (.builtin "sorted") [.ref d] [(Str.ofString "reverse",.bool b)]) Q E s:=by
 refine call_function_entry_kw kind_sorted plain_sorted entry_sorted (args_sorted_rev _ _) ?_;unfold Builtin.«sorted»;refine qC (m:=checkCount "sorted" 1 1 _) (qD (qC (collect_dict (A:=A.in1) hh hm hr hlen λh' tk acc sl kp hacc=>?_)));have hI:=Lo hA hacc;have zl:acc.toList.length<=sizeLine:=by rw[XI,hacc.1];exact hlen
 refine qC (wpAny_newList ?_);have gL:(h'.push (seqObj "list" acc.toList.toArray 0)).get? h'.objs.size=some (seqObj "list" acc.toList.toArray 0):=W9 _ rfl;show wpAny _ _ _ _ _ {s with heap:=h'.push (seqObj "list" acc.toList.toArray 0),toks:=tk};refine qC (wpAny_holding (wpAny_call_entry_kw slot_list_sort ⟨_,gL,rfl⟩ entry_list_sort (Nj gL hI zl λout ns' a1 a2 a3=>⟨_,rfl,?_⟩) (args_list_sort_rev _ _)));obtain⟨e,he⟩:=sortedHeap_at (out:=out) gL;refine qD ⟨_,rfl,h _ _ _ out ns' e ?_ (λc o z=>?_) he a1 a2 a3⟩
 ·exact X7 sl
 ·have lt:=Wz (kp c o z);rw[sortedHeap_old (Xd lt) (by rw[size_push'];exact ZJ lt)];exact Wu _ (kp c o z)
end
section
variable{tv:TE}{e v:Expr}{p kpos:Pos}
def Si(ta tk:TA):TE:=λσ H Q=>ta σ H λvs H1=>tk σ H1 λws H2=>∃(d:Addr) (kvs:List (Bu×V)) (A:List Int) (b:Bool),vs=[.ref d]/\ws=[.bl b]/\Rd H2 d (.dK kvs)/\kvs.map (·.1)=A.map Sum.inl/\∀l zs,H2 l=none->zs.Perm A->Ordered b zs->Q (.ref l) (Ae H2 l (.lst (zs.map V.int)))
theorem PP{tk:TA}(hc:X.calm=true)(hg:Gl X "sorted")(hm:X.mg "sorted"=none)(ha:PA X [e] ta)(hk:PK X [⟨some "reverse",v,kpos⟩] tk)(hs:backTo pos (starEach [e] X.env)=(false,eval e X.env)::backTo pos (starEach [] X.env):=by rfl)(hs2:(backTo pos (starEach [e] X.env)).any (·.1)=false:=by rfl)(hall:(backToKw pos (keywordEach [⟨some "reverse",v,kpos⟩] X.env)).all (·.1.isSome)=true:=by rfl)(hks:(backToKw pos (keywordEach [⟨some "reverse",v,kpos⟩] X.env)).filterMap (·.1)=[Str.ofString "reverse"]:=by rfl)
  (hkw:(backToKw pos (keywordEach [⟨some "reverse",v,kpos⟩] X.env)).any (·.1.isNone)=false:=by rfl):PE X (.Call (.Name "sorted" p) [e] [⟨some "reverse",v,kpos⟩] pos) (Si ta tk):=by
 intro pins s σ H Q I h;refine wpAny_Call_Name_kw (CP I hg hm PyProof.Rows.boot_sorted ?_);refine callWith_kw (BU (ha pos pins s σ H _ I h) λus s1 z9=>?_) hs hs2 hall hkw;obtain⟨vs,H1,I1,r1,q1⟩:=z9;refine BU (hk pos pins s1 σ H1 _ I1 q1) λws s2 z9=>?_;obtain⟨zs,H2,I2,rz,q2⟩:=z9;rw[hks];obtain⟨d,kvs,A,b,rfl,rfl,hd,hA,q⟩:=q2;obtain⟨u,rfl,ru⟩:=Eb r1;cases ru;obtain⟨u2,rfl,ru2⟩:=Eb rz;cases ru2;obtain⟨z,hd,vs,rel,dd⟩:=FE I2.hok hd;obtain⟨ep,da⟩:=dd.dictAt;have hl:=rel.length;refine Nk (A':=A) (I.ok.hd hc) hd da ?_ (by lia) λD h' tk out ns e hD kp he hI hp ho=>?_
 ·rw[<-hA];apply Yp;intro i;rw[W0,W0];rcases e1:kvs[i]? with _|⟨k,v'⟩
  ·have:vs[i]?=none:=by rw[List.getElem?_eq_none_iff]at e1⊢;lia
   rw[this];rfl
  ·obtain⟨y,hy,ry⟩:=Es rel e1;rw[hy,Option.map_some,Option.map_some,show k=y.1 from ry.1]
 ·have ln:=hI.length;refine⟨.ref D,_,I2.laid (t':=tk) kp hD (show Ao X.prog X.w _ h' _ (.lst (ns.map V.int)) from⟨?_,out.toList,e,?_,by rw[Array.toArray_toList];exact he⟩),rfl,q D ns (I2.hok.fresh hD) hp ho⟩
  ·have y:=congrArg List.length hA;rw[Wq,Wq]at y;rw[Wq,hp.length_eq,<-y];exact z
  ·exact FK hI
end
end L2
namespace L2
open PySem PySem.Spec PyProof.Rows RW
variable{F:Int->List Int}{H H':Hp}{fo:Int->Option Nat}{g:Int}{p:Addr}{tf:List Int}
noncomputable def Fu:Option Nat->V
 |none=>.non
 |some n=>.int ((n:Nat):Int)
def CL(H:Hp)(p:Addr)(Z:List Int)(F:Int->List Int)(fo:Int->Option Nat):Prop:=∃ts:List Addr,H p=some (.lst (ts.map V.ref))/\ts.length=Z.length/\∀(i:Nat) (t:Addr) (z:Int),ts[i]?=some t->Z[i]?=some z->∃l,H t=some (.tup [.int z,.ref l,Fu (fo z)])/\H l=some (.lst ((F z).map V.int))
variable{Z:List Int}
theorem CL.same(e:AG H H')(h:CL H p Z F fo):CL H' p Z F fo:=by obtain⟨ts,h1,h2,h3⟩:=h;exact⟨ts,e _ _ h1,h2,λi t z q1 q2=>by obtain⟨l,k1,k2⟩:=h3 i t z q1 q2;exact⟨l,e _ _ k1,e _ _ k2⟩⟩
inductive JQ(CT:Addr)(pos:Pos)(Pt:Addr)(vs:List V)(H:Hp)(Q:VK)(E:XK):Prop
 |m (r:Addr) (g lo:Int) (tab:List Int) (m:Nat) (lf:Int) (tf:List Int) (mf:Nat):vs=[.ref r]->Ay H r g lo tab m->Az g lo tab m lf tf mf->BC pos (Da "sets_reached") Pt H->(g^(mf-1)<=9->∀A M f,By [Ag g tf] (AL g tf) A->DZ A (AL g tf) [0] M f->∀H',BW Pt H H'->BC pos (Da "sets_reached") Pt H'->Q (.bl (decide (Ag g tf∉M))) H')->(9<g^(mf-1)->∀H',AG H H'->E (.ref CT) none H')->JQ CT pos Pt vs H Q E
section
variable{A M:List Int}{f:Int->Nat}
theorem HJ(g2:2<=g)(rA:By [Ag g tf] (AL g tf) A)(lw:∀a∈A,0<=a/\a<=Ag g tf)(p:Z.Perm A)(o:Ordered true Z):∃Z',Z=Ag g tf::Z':=by
 have hf:=p.mem_iff.mpr (rA.st _ (Wr.mpr rfl));cases Z with
 |nil=>cases hf
 |cons a Z' =>
  have o:(a::Z').Pairwise (·≥·):=o;rcases XE.mp hf with z|z
  ·exact⟨Z',by rw[z]⟩
  ·have y:=(YU.mp o).1 _ z;have x:=(lw a (p.mem_iff.mp W7)).2;exact⟨Z',by rw[show a=Ag g tf by lia]⟩
end
theorem Kh:∀{A:List Int} {vs:List V},vs.length=A.length->(Ai A vs).map (·.1)=A.map Sum.inl
 |[],[],_=>rfl
 |a::A,v::vs,h=>by show Sum.inl a::(Ai A vs).map (·.1)=Sum.inl a::A.map Sum.inl;rw[Kh (by simpa using h)]
 |[],_::_,h=>by simp at h
 |_::_,[],h=>by simp at h
theorem Qj{M:List Int}{f:Int->Nat}(nd:M.Nodup)(x:Int):(CY (DP M f) (Sum.inl x)).getD .non=Fu (BH M f x):=by
 rw[HD nd];unfold BH
 split<;>rfl
def Qk(H0 H:Hp)(p:Addr)(Z:List Int)(F:Int->List Int)(fo:Int->Option Nat):Prop:=∃ts:List Addr,H p=some (.lst (ts.map V.ref))/\ts.length=Z.length/\(∀t∈ts,H0 t=none)/\∀(i:Nat) (t:Addr) (z:Int),ts[i]?=some t->Z[i]?=some z->∃l,H0 l=none/\H t=some (.tup [.int z,.ref l,Fu (fo z)])/\H l=some (.lst ((F z).map V.int))
theorem Qk.v{H0:Hp}(h:Qk H0 H p Z F fo):CL H p Z F fo:=by obtain⟨ts,h1,h2,hn,h3⟩:=h;exact⟨ts,h1,h2,λi t z q1 q2=>by obtain⟨l,k0,k1,k2⟩:=h3 i t z q1 q2;exact⟨l,k1,k2⟩⟩
inductive EH(CT:Addr)(pos:Pos)(Pt:Addr)(vs:List V)(H:Hp)(Q:VK)(E:XK):Prop
 |m (r:Addr) (g lo:Int) (tab:List Int) (m:Nat) (lf:Int) (tf:List Int) (mf:Nat):vs=[.ref r]->Ay H r g lo tab m->Az g lo tab m lf tf mf->BC pos (Da "sets_reached") Pt H->(g^(mf-1)<=9->∀A M f Z,By [Ag g tf] (AL g tf) A->DZ A (AL g tf) [0] M f->Z.Perm A->Ordered true Z->∀p H',BW Pt H H'->BC pos (Da "sets_reached") Pt H'->H p=none->Qk H H' p Z (AL g tf) (BH M f)->Q (.ref p) H')->(9<g^(mf-1)->∀H',AG H H'->E (.ref CT) none H')->EH CT pos Pt vs H Q E
end L2
local macro_rules|`(tactic|walk_at "rd")=>`(tactic|try simp only[L2.Rv,L2.V7,L2.UB,L2.Kx,L2.Lv,L2.Pm,L2.T7,L2.Ny,L2.Nn,L2.We,L2.Kw,L2.tC,L2.OA,L2.AV,L2.Bs,L2.Nz,L2.CD,L2.Jb,L2.Cq,L2.Qs,L2.Wi,L2.Vl,L2.L9,L2.Pl,L2.Qy,L2.US,L2.LI,L2.Ed,Option.join_some,L2.T1,L2.Gb,L2.Ii,L2.Q0,L2.UE,L2.OI,L2.NB,L2.T9,L2.UA,
 L2.Tr,L2.Tq,L2.Wc,L2.tB,L2.Qq,L2.Qr,L2.rI,L2.No,L2.rU,L2.Rs,L2.P3,L2.Wh,L2.Qx,L2.F7,L2.Ck,L2.Rg,L2.Pq,L2.T0,L2.V2,L2.Wf,L2.Rj,
 Xt,Y5,Xo,Ym,List.cons_append,ZU,List.replicate,List.getElem?_cons_zero,List.getElem?_cons_succ,List.set_cons_zero,List.set_cons_succ,Nat.reduceAdd,Nat.reduceSub,
 Option.some.injEq,L2.V.int.injEq,L2.V.bl.injEq,L2.V.ref.injEq,L2.V.str.injEq,List.cons.injEq,and_true,true_and,exists_eq_left',exists_eq_left,exists_eq_right,exists_and_left,exists_and_right,exists_eq,and_assoc,if_true,if_false,reduceIte,reduceCtorEq,not_true_eq_false,not_false_eq_true,Bool.false_eq_true,Bool.not_true,Bool.not_false,decide_eq_true_eq,Bool.not_eq_true',decide_eq_false_iff_not])
namespace K43
open PySem L2 RW
def Ci(i:Nat):Stmt:=PySem.Challenge.pw_rowrules_k43_papers_of_reach.main.body.getD i (.Pass ⟨0,0,0,0⟩)
abbrev WE:Stmt:=Px (Ci 3) 0
abbrev Sj:Stmt:=Ci 8
abbrev Sk:Stmt:=Ci 9
abbrev Sl:Stmt:=Ci 10
abbrev WF:Stmt:=Ci 11
abbrev Sm:Stmt:=Ci 12
abbrev Sn:Stmt:=Ci 13
abbrev So:Stmt:=Ci 16
abbrev Sq:Stmt:=Ci 17
abbrev WG:Stmt:=Ci 18
abbrev Sr:Stmt:=Ci 19
abbrev Ss:Stmt:=Ci 20
abbrev Su:Stmt:=Ci 21
abbrev Sv:Stmt:=Ci 22
abbrev Sw:Stmt:=Ci 23
abbrev Sx:Stmt:=Ci 24
abbrev Sy:Stmt:=Ci 26
abbrev Sz:Stmt:=Ci 27
abbrev WH:Stmt:=Ci 28
abbrev S0:Stmt:=Ci 29
abbrev S5:Stmt:=Ci 30
abbrev S6:Stmt:=Ci 31
abbrev S7:Stmt:=Ci 34
abbrev S8:Stmt:=Ci 35
abbrev S9:Stmt:=Ci 36
abbrev TB:Stmt:=Ci 37
abbrev WI:Stmt:=Ci 38
abbrev TC:Stmt:=Ci 39
abbrev TD:Stmt:=Ci 41
abbrev TF:Stmt:=Ci 42
abbrev WJ:Stmt:=Ci 43
abbrev WK:Stmt:=Ci 45
abbrev TH:Stmt:=Ci 46
abbrev TJ:Stmt:=Ci 47
abbrev TK:Stmt:=Ci 48
abbrev TL:Stmt:=Ci 50
abbrev WL:Stmt:=Ci 51
abbrev TM:Stmt:=Ci 52
abbrev TN:Stmt:=Ci 53
abbrev TQ:Stmt:=Ci 54
abbrev TR:Stmt:=Ci 55
abbrev TU:Stmt:=Ci 56
abbrev TV:Stmt:=Ci 57
abbrev TW:Stmt:=Ci 58
abbrev TY:Stmt:=Ci 59
abbrev TZ:Stmt:=Ci 60
abbrev Ta:Stmt:=Ci 61
abbrev Tb:Stmt:=Ci 62
abbrev Tc:Stmt:=Ci 63
abbrev Td:Stmt:=Ci 64
abbrev Te:Stmt:=Ci 65
abbrev WM:Stmt:=Ci 66
abbrev WN:Stmt:=Ci 67
abbrev Ql:Stmt:=Ci 68
set_option genInjectivity false
structure Wo where
 (c_36 c_47 c_52 c_48 c_35 c_40:Addr)
 (f_1 f_39 f_42 f_22 f_5 f_33 f_46 f_21 f_24 f_9 f_12 f_58 f_51 f_32 f_34 f_54 f_49 f_38 f_0 f_31 f_50 f_45 f_53 f_55 f_23 f_41 f_8 f_44 f_43 f_14 f_6 f_7 f_13 f_57 f_56 f_20 f_2 f_10 f_17 f_18 f_29 f_19 f_28 f_15 f_26 f_37 f_27 f_25 f_16 f_30 f_11 f_3 f_4 f_59:Addr)
 (cc_7 p_7:Addr)
structure Ce(K:qJ)(mg:Str->Option Value)(t:Wo):Prop where
 m_36:mg "RowError"=some (.ref t.c_36)
 m_47:mg "NoRule"=some (.ref t.c_47)
 m_52:mg "NoRow"=some (.ref t.c_52)
 m_48:mg "NoSuch"=some (.ref t.c_48)
 m_35:mg "NoWindow"=some (.ref t.c_35)
 m_40:mg "TooWide"=some (.ref t.c_40)
 d_1:∃fd,B1 K "__init__" "NoRow.__init__" WE t.f_1 fd
 m_39:mg "is_whole"=some (.ref t.f_39)
 d_39:∃fd,B1 K "is_whole" "is_whole" Sj t.f_39 fd
 m_42:mg "is_sign"=some (.ref t.f_42)
 d_42:∃fd,B1 K "is_sign" "is_sign" Sk t.f_42 fd
 m_22:mg "check_word"=some (.ref t.f_22)
 d_22:∃fd,B1 K "check_word" "check_word" Sl t.f_22 fd
 m_5:mg "check_length"=some (.ref t.f_5)
 d_5:∃fd,B1 K "check_length" "check_length" WF t.f_5 fd
 m_33:mg "number_of"=some (.ref t.f_33)
 d_33:∃fd,B1 K "number_of" "number_of" Sm t.f_33 fd
 m_46:mg "word_of"=some (.ref t.f_46)
 d_46:∃fd,B1 K "word_of" "word_of" Sn t.f_46 fd
 m_21:mg "check_head"=some (.ref t.f_21)
 d_21:∃fd,B1 K "check_head" "check_head" So t.f_21 fd
 m_24:mg "places_for"=some (.ref t.f_24)
 d_24:∃fd,B1 K "places_for" "places_for" Sq t.f_24 fd
 m_9:mg "table_length"=some (.ref t.f_9)
 d_9:∃fd,B1 K "table_length" "table_length" WG t.f_9 fd
 m_12:mg "check_table"=some (.ref t.f_12)
 d_12:∃fd,B1 K "check_table" "check_table" Sr t.f_12 fd
 m_58:mg "rule"=some (.ref t.f_58)
 d_58:∃fd,B1 K "rule" "rule" Ss t.f_58 fd
 m_51:mg "places"=some (.ref t.f_51)
 d_51:∃fd,B1 K "places" "places" Su t.f_51 fd
 m_32:mg "next_sign"=some (.ref t.f_32)
 d_32:∃fd,B1 K "next_sign" "next_sign" Sv t.f_32 fd
 m_34:mg "told_from"=some (.ref t.f_34)
 d_34:∃fd,B1 K "told_from" "told_from" Sw t.f_34 fd
 m_54:mg "heads"=some (.ref t.f_54)
 d_54:∃fd,B1 K "heads" "heads" Sx t.f_54 fd
 m_49:mg "counts"=some (.ref t.f_49)
 d_49:∃fd,B1 K "counts" "counts" Sy t.f_49 fd
 m_38:mg "counting"=some (.ref t.f_38)
 d_38:∃fd,B1 K "counting" "counting" Sz t.f_38 fd
 m_0:mg "sign_or_nought"=some (.ref t.f_0)
 d_0:∃fd,B1 K "sign_or_nought" "sign_or_nought" WH t.f_0 fd
 m_31:mg "by_window"=some (.ref t.f_31)
 d_31:∃fd,B1 K "by_window" "by_window" S0 t.f_31 fd
 m_50:mg "narrow"=some (.ref t.f_50)
 d_50:∃fd,B1 K "narrow" "narrow" S5 t.f_50 fd
 m_45:mg "widened"=some (.ref t.f_45)
 d_45:∃fd,B1 K "widened" "widened" S6 t.f_45 fd
 m_53:mg "frame"=some (.ref t.f_53)
 d_53:∃fd,B1 K "frame" "frame" S7 t.f_53 fd
 m_55:mg "nodes"=some (.ref t.f_55)
 d_55:∃fd,B1 K "nodes" "nodes" S8 t.f_55 fd
 m_23:mg "everything"=some (.ref t.f_23)
 d_23:∃fd,B1 K "everything" "everything" S9 t.f_23 fd
 m_41:mg "ends_of"=some (.ref t.f_41)
 d_41:∃fd,B1 K "ends_of" "ends_of" TB t.f_41 fd
 m_8:mg "single_steps"=some (.ref t.f_8)
 d_8:∃fd,B1 K "single_steps" "single_steps" WI t.f_8 fd
 m_44:mg "step_by"=some (.ref t.f_44)
 d_44:∃fd,B1 K "step_by" "step_by" TC t.f_44 fd
 m_43:mg "reached"=some (.ref t.f_43)
 d_43:∃fd,B1 K "reached" "reached" TD t.f_43 fd
 m_14:mg "turned_back"=some (.ref t.f_14)
 d_14:∃fd,B1 K "turned_back" "turned_back" TF t.f_14 fd
 m_6:mg "fewest_steps"=some (.ref t.f_6)
 d_6:∃fd,B1 K "fewest_steps" "fewest_steps" WJ t.f_6 fd
 m_7:mg "sets_reached"=some (.ref t.f_7)
 d_7:∃fd,Sc K "sets_reached" "sets_reached" WK t.f_7 t.cc_7 t.p_7 fd
 hd_7:PySem.W.codeHdIn K t.cc_7 t.p_7=true
 m_13:mg "reach_paper"=some (.ref t.f_13)
 d_13:∃fd,B1 K "reach_paper" "reach_paper" TH t.f_13 fd
 m_57:mg "onto"=some (.ref t.f_57)
 d_57:∃fd,B1 K "onto" "onto" TJ t.f_57 fd
 m_56:mg "lost"=some (.ref t.f_56)
 d_56:∃fd,B1 K "lost" "lost" TK t.f_56 fd
 m_20:mg "_law_whole"=some (.ref t.f_20)
 d_20:∃fd,B1 K "_law_whole" "_law_whole" TL t.f_20 fd
 m_2:mg "_law_cell_at"=some (.ref t.f_2)
 d_2:∃fd,B1 K "_law_cell_at" "_law_cell_at" WL t.f_2 fd
 m_10:mg "_law_stream"=some (.ref t.f_10)
 d_10:∃fd,B1 K "_law_stream" "_law_stream" TM t.f_10 fd
 m_17:mg "_law_power"=some (.ref t.f_17)
 d_17:∃fd,B1 K "_law_power" "_law_power" TN t.f_17 fd
 m_18:mg "_law_shape"=some (.ref t.f_18)
 d_18:∃fd,B1 K "_law_shape" "_law_shape" TQ t.f_18 fd
 m_29:mg "_law_sums"=some (.ref t.f_29)
 d_29:∃fd,B1 K "_law_sums" "_law_sums" TR t.f_29 fd
 m_19:mg "_law_table"=some (.ref t.f_19)
 d_19:∃fd,B1 K "_law_table" "_law_table" TU t.f_19 fd
 m_28:mg "_law_rule"=some (.ref t.f_28)
 d_28:∃fd,B1 K "_law_rule" "_law_rule" TV t.f_28 fd
 m_15:mg "_law_frame"=some (.ref t.f_15)
 d_15:∃fd,B1 K "_law_frame" "_law_frame" TW t.f_15 fd
 m_26:mg "_law_ends"=some (.ref t.f_26)
 d_26:∃fd,B1 K "_law_ends" "_law_ends" TY t.f_26 fd
 m_37:mg "_law_row"=some (.ref t.f_37)
 d_37:∃fd,B1 K "_law_row" "_law_row" TZ t.f_37 fd
 m_27:mg "_law_left"=some (.ref t.f_27)
 d_27:∃fd,B1 K "_law_left" "_law_left" Ta t.f_27 fd
 m_25:mg "_law_come"=some (.ref t.f_25)
 d_25:∃fd,B1 K "_law_come" "_law_come" Tb t.f_25 fd
 m_16:mg "_law_paper"=some (.ref t.f_16)
 d_16:∃fd,B1 K "_law_paper" "_law_paper" Tc t.f_16 fd
 m_30:mg "_law_word"=some (.ref t.f_30)
 d_30:∃fd,B1 K "_law_word" "_law_word" Td t.f_30 fd
 m_11:mg "_law_truths"=some (.ref t.f_11)
 d_11:∃fd,B1 K "_law_truths" "_law_truths" Te t.f_11 fd
 m_3:mg "_law_refusal"=some (.ref t.f_3)
 d_3:∃fd,B1 K "_law_refusal" "_law_refusal" WM t.f_3 fd
 m_4:mg "_law_refused"=some (.ref t.f_4)
 d_4:∃fd,B1 K "_law_refused" "_law_refused" WN t.f_4 fd
 m_59:mg "law"=some (.ref t.f_59)
 d_59:∃fd,B1 K "law" "law" Ql t.f_59 fd
 z_len:mg "len"=none
 z_list:mg "list"=none
 z_reversed:mg "reversed"=none
 z_isinstance:mg "isinstance"=none
 z_range:mg "range"=none
 z_int:mg "int"=none
 z_bool:mg "bool"=none
 z_ValueError:mg "ValueError"=none
 z_tuple:mg "tuple"=none
 z_enumerate:mg "enumerate"=none
 z_min:mg "min"=none
 z_sorted:mg "sorted"=none
 z_zip:mg "zip"=none
 g_LONGEST_TABLE:∃k,mg "LONGEST_TABLE"=some (.int 256 k)
 g_MOST_NODES:∃k,mg "MOST_NODES"=some (.int 9 k)
 x_47:PySem.W.excIn K t.c_47 FS "ValueError.__new__"=true
 x_48:PySem.W.excIn K t.c_48 FS "ValueError.__new__"=true
 x_35:PySem.W.excIn K t.c_35 FS "ValueError.__new__"=true
 x_40:PySem.W.excIn K t.c_40 FS "ValueError.__new__"=true
 xm_52:Vo K t.c_52 t.f_1
 ek_52:Ih K t.c_52
 ek_40:Ih K t.c_40
 xa_NoRow_at:XA K t.c_52 t.c_36 "at"
 kt_40_40:PySem.W.kitOne K (.ref t.c_40) (.ref t.c_40)=some true
 kt_TooWide_ValueError:PySem.W.kitOne K (.ref t.c_40) (.type "ValueError")=some true
 kt_40_47:PySem.W.kitOne K (.ref t.c_40) (.ref t.c_47)=some false
 kt_40_35:PySem.W.kitOne K (.ref t.c_40) (.ref t.c_35)=some false
 em_40_36:PySem.W.exmOne K (.ref t.c_40) (.ref t.c_36)=some true
abbrev LP:Pos:=⟨196,41,196,113⟩
inductive Fh(vs:List V)(H:Hp)(Q:VK)(z3_:XK):Prop
 |m (r:Addr) (g lo:Int) (tab:List Int) (m:Nat):vs=[.ref r]->Ay H r g lo tab m->(∀(p:Addr) (lf:Int) (tf:List Int) (mf:Nat) (H':Hp),AG H H'->Az g lo tab m lf tf mf->H' p=some (.lst (tf.map V.int))->(tf.length:Int)=g^mf->mf<=8->Q (.ref p) H')->Fh vs H Q z3_
def GN(g:Int)(i:Nat)(acc:List V):Prop:=∃us:List Int,acc=us.map V.int/\us.length=i/\∀n∈us,0<=n/\n<g
theorem GN.nil{g:Int}:GN g 0 []:=⟨[],rfl,rfl,λn hn=>by cases hn⟩
theorem GN.put{g:Int}{i:Nat}{acc:List V}(h:GN g i acc){v:Int}(v0:0<=v)(v1:v<g):GN g (i+1) (acc++[V.int v]):=by
 obtain⟨us,rfl,ul,ub⟩:=h;refine⟨us++[v],by rw[W3];rfl,by rw[W1,ul];rfl,λn hn=>?_⟩;rcases Ww.mp hn with z|z
 ·exact ub n z
 ·rw[Wr.mp z];exact⟨v0,v1⟩
theorem GN.snoc{g:Int}(g2:2<=g){i:Nat}{acc:List V}(h:GN g i acc)(v:Int):GN g (i+1) (acc++[V.int (v%g)]):=h.put (Xj _ (by lia)) (Xf _ (by lia))
theorem GN.len{g:Int}{i:Nat}{acc:List V}(h:GN g i acc)(hi:i<=900):acc.length<sizeLine:=by obtain⟨us,rfl,ul,_⟩:=h;rw[Wq];exact AW (by lia)
inductive Fi(vs:List V)(H:Hp)(Q:VK)(z3_:XK):Prop
 |m (c m:Int):vs=[.int c,.int m]->0<=m->m<=300->(∀(r:Addr) (H':Hp) (l:List Int),l.length=m.toNat->(∀x∈l,0<=x/\x<2147483647)->AG H H'->H r=none->H' r=some (.lst (l.map V.int))->Q (.ref r) H')->Fi vs H Q z3_
inductive HK(vs:List V)(H:Hp)(Q:VK)(z3_:XK):Prop
 |m (g:Int) (m:Nat) (a:Addr) (xs:List Int):vs=[.int g,.int ((m:Nat):Int),.ref a]->2<=g->g<=9->m<=4->g^m<=81->H a=some (.lst (xs.map V.int))->xs.length=90->(∀x∈xs,0<=x/\x<2147483647)->(∀(p:Addr) (tab:List Int) (H':Hp),FU H H' p tab->tab.length=(g^m).toNat->(∀n∈tab,0<=n/\n<g)->Q (.ref p) H')->HK vs H Q z3_
inductive Fj(vs:List V)(H:Hp)(Q:VK)(z3_:XK):Prop
 |m (g:Int) (m:Nat) (way:Int) (a:Addr) (xs:List Int):vs=[.int g,.int ((m:Nat):Int),.int way,.ref a]->2<=g->g<=9->1<=m->m<=4->g^m<=81->0<=way->H a=some (.lst (xs.map V.int))->xs.length=90->(∀x∈xs,0<=x/\x<2147483647)->(∀(p:Addr) (tab:List Int) (H':Hp),FU H H' p tab->tab.length=(g^m).toNat->(∀n∈tab,0<=n/\n<g)->Q (.ref p) H')->Fj vs H Q z3_
def Ui(g lo:Int)(tab:List Int)(m:Nat):Prop:=∀lf tf mf,Az g lo tab m lf tf mf->g^(mf-1)<=9
theorem PQ{g x:Int}(g2:2<=g)(x0:0<x):x<=x*g:=by have z:=Xp (show 1<=g by lia) (show 0<=x by lia);rw[Int.mul_one]at z;exact z
theorem GO{ns:List Int}(k:Nat)(k1:1<=k)(h:k<=ns.length):Ia (ns.map V.int) (-(k:Int))=some (.int (ns.getD (ns.length-k) 0)):=by
 have e:=CG (ns:=ns) (k:=ns.length-k) (by lia)
 have z:K7 (ns.map V.int).length (-(k:Int))=some (ns.length-k):=by
  unfold K7;rw[Wq];rw[qE (by lia),qF (by lia)]
  congr 1
  lia
 have y:K7 (ns.map V.int).length (((ns.length-k:Nat)):Int)=some (ns.length-k):=by rw[Wq];exact EN (by lia)
 unfold Ia at e⊢;rw[y]at e;rw[z];exact e
theorem Lp{g:Int}{tab:List Int}(tb:∀n∈tab,0<=n/\n<g){k:Nat}{v:Int}(hv:0<=v/\v<g):∀n∈tab.set k v,0<=n/\n<g:=λn hn=>by
 rcases List.mem_or_eq_of_mem_set hn with z|rfl
 ·exact tb n z
 ·exact hv
noncomputable def Ki:List (List Int):=[[2,3],[2,4],[3,2],[2,4],[4,2],[3,3],[5,2],[2,2],[6,2],[3,1],[7,2],[8,2]]
def Bd(g:Int)(m:Nat):Prop:=2<=g/\g<=9/\1<=m/\m<=4/\g^m<=81/\g^(m-1)<=9
theorem Kj:∀k,k<12->∃(g:Int) (m:Nat),Ki[k]?=some [g,(m:Int)]/\Bd g m
 |0,_=>⟨2,3,rfl,by unfold Bd;decide⟩
 |1,_=>⟨2,4,rfl,by unfold Bd;decide⟩
 |2,_=>⟨3,2,rfl,by unfold Bd;decide⟩
 |3,_=>⟨2,4,rfl,by unfold Bd;decide⟩
 |4,_=>⟨4,2,rfl,by unfold Bd;decide⟩
 |5,_=>⟨3,3,rfl,by unfold Bd;decide⟩
 |6,_=>⟨5,2,rfl,by unfold Bd;decide⟩
 |7,_=>⟨2,2,rfl,by unfold Bd;decide⟩
 |8,_=>⟨6,2,rfl,by unfold Bd;decide⟩
 |9,_=>⟨3,1,rfl,by unfold Bd;decide⟩
 |10,_=>⟨7,2,rfl,by unfold Bd;decide⟩
 |11,_=>⟨8,2,rfl,by unfold Bd;decide⟩
 |n+12,h=>qG h (by lia)
theorem Qm{g:Int}{m:Nat}(s:Bd g m){lo lo':Int}{tab tab':List Int}{m':Nat}(tl:(tab.length:Int)=g^m)(tl':(tab'.length:Int)=g^m')(al:Be g lo' tab' m' lo tab m):Ui g lo' tab' m':=λlf tf mf fw=>by
 obtain⟨g2,g9,m1,m4,_,s9⟩:=s;have:=fw.le g2 tl' tl al
 by_cases y:mf<=m
 ·exact Xy (Bo g2 (show mf-1<=m-1 by lia)) s9
 ·rw[show mf-1=0+1 by have:=fw.two;lia,XJ,Xh,YC];lia
theorem EV{tab:List Int}:∀(n k:Nat),k<n*tab.length->(List.replicate n tab).flatten.getD k 0=tab.getD (k%tab.length) 0
 |0,k,h=>by lia
 |n+1,k,h=>by
  rw[Xm,YB,Wt]
  by_cases z:k<tab.length
  ·rw[XX z,YJ z,Wt]
  ·rw[XB (by lia),<-Wt,EV n (k-tab.length) (by rw[Nat.succ_mul]at h;lia),Nat.mod_eq_sub_mod (show k≥tab.length by lia)]
theorem GH(tab:List Int)(n:Nat):(List.replicate n tab).flatten.length=n*tab.length:=by simp
theorem HL{g:Int}(g2:2<=g)(lo:Int){tab:List Int}{m:Nat}(tl:(tab.length:Int)=g^m):(((List.replicate g.toNat tab).flatten.length:Nat):Int)=g^(m+1)/\Be g lo (List.replicate g.toNat tab).flatten (m+1) (lo+1) tab m:=by
 have gp:=RW.Ap g2 m;have hl:(((List.replicate g.toNat tab).flatten.length:Nat):Int)=g^(m+1):=by rw[GH,YF,tl,show ((g.toNat:Nat):Int)=g by lia,XJ,X8]
 have a:=IR g2 lo hl tl λk hk=>by rw[GH]at hk;rw[EV _ _ hk,EV _ _ (Yj (Za ..) hk),Nat.mod_mod]
 have z:(List.replicate g.toNat tab).flatten.take tab.length=tab:=by obtain⟨n,hn⟩:∃n,g.toNat=n+1:=⟨g.toNat-1,by lia⟩;rw[hn,Xm,YB,List.take_left]
 rw[z]at a;exact⟨hl,a.symm⟩
theorem IX{g:Int}(g2:2<=g)(lo:Int){tab:List Int}{m:Nat}(tl:(tab.length:Int)=g^m):((((List.range (tab.length*g.toNat)).map λk=>tab.getD (k/g.toNat) 0).length:Nat):Int)=g^(m+1)/\Be g lo ((List.range (tab.length*g.toNat)).map λk=>tab.getD (k/g.toNat) 0) (m+1) lo tab m:=by
 have gn:((g.toNat:Nat):Int)=g:=by lia
 have G1:0<g.toNat:=by lia
 have hl:((((List.range (tab.length*g.toNat)).map λk=>tab.getD (k/g.toNat) 0).length:Nat):Int)=g^(m+1):=by rw[Wq,W8,YF,tl,gn,XJ]
 have a:=KH g2 lo hl tl gn λk hk=>by
  rw[Wq,W8]at hk;have:=Za k g.toNat;rw[AT hk,AT (by lia)]
  congr 1
  have e:k-k%g.toNat=k/g.toNat*g.toNat:=by have:=ZW k g.toNat;rw[X4]at this;lia
  rw[e,Nat.mul_div_cancel _ G1]
 have z:((List.range tab.length).map λi=>((List.range (tab.length*g.toNat)).map λk=>tab.getD (k/g.toNat) 0).getD (i*g.toNat) 0)=tab:=by refine Aq (by rw[Wq,W8]) λk hk=>?_;rw[Wq,W8]at hk;rw[AT hk,AT (Nat.mul_lt_mul_of_pos_right hk G1),Nat.mul_div_cancel _ G1]
 rw[z]at a;exact⟨hl,a.symm⟩
def PR(g:Int)(tab:List Int)(m:Nat)(tab':List Int)(m':Nat):Prop:=(tab'.length:Int)=g^m'/\m'<=8/\1<=m'/\g^m'<=256/\(∀n∈tab',0<=n/\n<g)/\∀lo,∃lo',Be g lo tab' m' lo' tab m
inductive Fk(vs:List V)(H:Hp)(Q:VK)(z3_:XK):Prop
 |m (c:Int):vs=[.int c]->(∀(b:Addr) (g:Int) (m:Nat) (H':Hp),AG H H'->H' b=some (.tup [.int g,.int ((m:Nat):Int)])->Bd g m->Q (.ref b) H')->Fk vs H Q z3_
inductive HM(K:qJ)(vs:List V)(H:Hp)(Q:VK)(z3_:XK):Prop
 |m (a:Addr) (ns:List Int) (st:Nat):vs=[.ref a,.int ((st:Nat):Int)]->st<=2->Ab K H a (ns.map V.int)->ns.length<=63->(∀(r:Addr) (g lo:Int) (tab:List Int) (m:Nat) (H':Hp),AG H H'->Ay H' r g lo tab m->Ui g lo tab m->Q (.ref r) H')->HM K vs H Q z3_
inductive HN(CT:Addr)(pos:Pos)(Pt:Addr)(vs:List V)(H:Hp)(Q:VK)(z3_:XK):Prop
 |m (r:Addr) (g lo:Int) (tab:List Int) (m:Nat) (lf:Int) (tf:List Int) (mf:Nat) (way:Int):vs=[.ref r,.int way]->Ay H r g lo tab m->Az g lo tab m lf tf mf->9<g^(mf-1)->BC pos (Da "sets_reached") Pt H->(∀(H':Hp) (ea:Addr),AG H H'->H' ea=some (JX ea (.ref CT) none false)->Q (.ref ea) H')->HN CT pos Pt vs H Q z3_
inductive HP(pos:Pos)(Pt:Addr)(vs:List V)(H:Hp)(Q:VK)(z3_:XK):Prop
 |m (c:Int):vs=[.int c]->BC pos (Da "sets_reached") Pt H->(∀H',AG H H'->Q (.bl true) H')->HP pos Pt vs H Q z3_
theorem Nl{g:Int}(g2:2<=g)(m:Nat):∀n∈Bf g m,0<=n/\n<g:=λn hn=>by unfold Bf at hn;obtain⟨k,_,rfl⟩:=XT.mp hn;exact⟨Xj _ (by lia),Xf _ (by lia)⟩
def Eu(H:Hp)(ts:List Addr)(Z:List Int)(F:Int->List Int)(fo:Int->Option Nat):Prop:=ts.length=Z.length/\∀(i:Nat) (t:Addr) (z:Int),ts[i]?=some t->Z[i]?=some z->∃l,H t=some (.tup [.int z,.ref l,Fu (fo z)])/\H l=some (.lst ((F z).map V.int))
theorem Eu.same{H H':Hp}{ts:List Addr}{Z:List Int}{F:Int->List Int}{fo:Int->Option Nat}(e:AG H H')(h:Eu H ts Z F fo):Eu H' ts Z F fo:=⟨h.1,λi t z q1 q2=>by obtain⟨l,k1,k2⟩:=h.2 i t z q1 q2;exact⟨l,e _ _ k1,e _ _ k2⟩⟩
theorem Eu.get{H:Hp}{ts:List Addr}{Z:List Int}{F:Int->List Int}{fo:Int->Option Nat}{d:Addr}(h:Eu H ts Z F fo)(nd:Z.Nodup)(hd:H d=some (.dK (Ai Z (ts.map V.ref)))){z:Int}(hz:z∈Z):∃t l,Cy H d (.int z) (some (.ref t))/\H t=some (.tup [.int z,.ref l,Fu (fo z)])/\H l=some (.lst ((F z).map V.int)):=by obtain⟨i,hi⟩:=C6 hz;obtain⟨t,ht⟩:=Ft h.1 hi;obtain⟨l,k1,k2⟩:=h.2 i t z ht hi;exact⟨t,l,.inl ⟨_,Sum.inl z,.inl hd,rfl,by rw[Bi nd hi (by rw[W0,ht];rfl)]⟩,k1,k2⟩
theorem Eu.getS{H HX:Hp}{ts:List Addr}{Z:List Int}{F:Int->List Int}{fo:Int->Option Nat}{d:Addr}(h:Eu H ts Z F fo)(nd:Z.Nodup)(e:AG H HX)(hd:HX d=some (.dK (Ai Z (ts.map V.ref)))){z:Int}(hz:z∈Z):∃t l,Cy HX d (.int z) (some (.ref t))/\H t=some (.tup [.int z,.ref l,Fu (fo z)])/\H l=some (.lst ((F z).map V.int)):=by obtain⟨i,hi⟩:=C6 hz;obtain⟨t,ht⟩:=Ft h.1 hi;obtain⟨l,k1,k2⟩:=h.2 i t z ht hi;exact⟨t,l,.inl ⟨_,Sum.inl z,.inl hd,rfl,by rw[Bi nd hi (by rw[W0,ht];rfl)]⟩,k1,k2⟩
theorem Fl{S:List Int}{F:Int->List Int}{A A2:List Int}(r:By S F A)(r2:By S F A2):∀a∈A,a∈A2:=λa ha=>by
 have z:∀a,F2 S F a->a∈A2:=λa c=>by
  induction c with
  |base h=>exact r2.st _ h
  |step _ h ih=>exact r2.cl _ ih _ h
 exact z a (r.co a ha)
theorem Tf{S:List Int}{F:Int->List Int}{A A2:List Int}(r:By S F A)(r2:By S F A2):A.length=A2.length:=
 Nat.le_antisymm (r.nd.length_le_of_subset (Fl r r2)) (r2.nd.length_le_of_subset (Fl r2 r))
theorem PU{A:List Int}{F:Int->List Int}{M:List Int}{f:Int->Nat}(w:DZ A F [0] M f){z:Int}(z0:z≠0)(h:(F z).filterMap (BH M f)=[]):BH M f z=none:=by
 cases e:BH M f z with
 |none=>rfl
 |some n =>
  cases n with
  |zero =>
   unfold BH at e
   split at e
   ·rename_i m
    exact qG (Wr.mp (w.zero z m (Option.some.inj e))) z0
   ·cases e
  |succ n =>
   obtain⟨y,hy,ey⟩:=w.down' z n e;have:n∈(F z).filterMap (BH M f):=YH.mpr ⟨y,hy,ey⟩;rw[h]at this;cases this
theorem Nm{A:List Int}{F:Int->List Int}{M:List Int}{f:Int->Nat}(w:DZ A F [0] M f){z:Int}(hz:z∈A)(z0:z≠0){m:Nat}(hm:m∈(F z).filterMap (BH M f))(hl:∀k∈(F z).filterMap (BH M f),m<=k):BH M f z=some (m+1):=by
 obtain⟨y,hy,ey⟩:=YH.mp hm;unfold BH at ey
 split at ey
 ·rename_i my
  have ey:=Option.some.inj ey;obtain⟨mz,lz⟩:=w.up z hz y hy my;have e:BH M f z=some (f z):=by unfold BH;rw[qF mz]
  cases ef:f z with
  |zero=>exact qG (Wr.mp (w.zero z mz ef)) z0
  |succ n =>
   rw[ef]at e;obtain⟨y2,hy2,ey2⟩:=w.down' z n e;have:=hl n (YH.mpr ⟨y2,hy2,ey2⟩);rw[e]
   congr 1
   lia
 ·cases ey
def Tg(g:Int)(tf:List Int):Prop:=2<=g/\g<=9/\tf.length=tf.length/g.toNat*g.toNat/\1<=tf.length/g.toNat/\tf.length/g.toNat<=9/\∀n∈tf,0<=n/\n<g
inductive JR(vs:List V)(H:Hp)(Q:VK)(z3_:XK):Prop
 |m (t l pt:Addr) (z g:Int) (tf:List Int) (o:Option Nat):vs=[.ref t,.ref pt,.int g]->H t=some (.tup [.int z,.ref l,Fu o])->H l=some (.lst ((AL g tf z).map V.int))->H pt=some (.lst (tf.map V.int))->Tg g tf->0<=z->(∀H',AG H H'->Q (.bl true) H')->JR vs H Q z3_
inductive HR(vs:List V)(H:Hp)(Q:VK)(z3_:XK):Prop
 |m (t l d:Addr) (z:Int) (ts:List Addr) (Z A:List Int) (F:Int->List Int) (M:List Int) (f:Int->Nat):vs=[.ref t,.ref d]->H t=some (.tup [.int z,.ref l,Fu (BH M f z)])->H l=some (.lst ((F z).map V.int))->H d=some (.dK (Ai Z (ts.map V.ref)))->Z.Nodup->Eu H ts Z F (BH M f)->z∈A->(∀y∈F z,y∈Z)->(F z).length<=9->DZ A F [0] M f->(∀H',AG H H'->Q (.bl true) H')->HR vs H Q z3_
inductive HS(vs:List V)(H:Hp)(Q:VK)(z3_:XK):Prop
 |m (d:Addr) (s:Int) (ts:List Addr) (Z:List Int) (F:Int->List Int) (fo:Int->Option Nat):vs=[.ref d,.int s]->H d=some (.dK (Ai Z (ts.map V.ref)))->Z.Nodup->Z.length<=512->Eu H ts Z F fo->s∈Z->(∀z∈Z,∀y∈F z,y∈Z)->(∀z∈Z,(F z).length<=9)->(∀(A:List Int) H',AG H H'->By [s] F A->Q (.int ((A.length:Nat):Int)) H')->HS vs H Q z3_
structure Lq(s:Int)(F:Int->List Int)(Z A:List Int)(R:Int->Prop):Prop where
 nd:A.Nodup
 st:s∈A
 sub:∀a∈A,a∈Z
 co:∀a∈A,F2 [s] F a
 ok:∀a∈A,R a\/∀b∈F a,b∈A
theorem Lq.add{s:Int}{F:Int->List Int}{Z A:List Int}{R R':Int->Prop}(c:Lq s F Z A R){y:Int}(hy:y∉A)(yZ:y∈Z)(cy:F2 [s] F y)(hR:∀a,R a->R' a)(ry:R' y):Lq s F Z (A++[y]) R' where
 nd:=by rw[Xq];exact⟨c.nd,by simp,λa ha b hb e=>hy (by rw[List.mem_singleton]at hb;rw[<-hb,<-e];exact ha)⟩
 st:=Xr _ c.st
 sub:=λa ha=>(Ww.mp ha).elim (c.sub a) λz=>by rw[Wr.mp z];exact yZ
 co:=λa ha=>(Ww.mp ha).elim (c.co a) λz=>by rw[Wr.mp z];exact cy
 ok:=λa ha=>(Ww.mp ha).elim (λz=>(c.ok a z).imp (hR a) λw b hb=>Xr _ (w b hb)) λz=>.inl (by rw[Wr.mp z];exact ry)
theorem Lq.mono{s:Int}{F:Int->List Int}{Z A:List Int}{R R':Int->Prop}(c:Lq s F Z A R)(h:∀a∈A,R a->R' a\/∀b∈F a,b∈A):Lq s F Z A R':=⟨c.nd,c.st,c.sub,c.co,λa ha=>(c.ok a ha).elim (h a ha) .inr⟩
theorem Lq.done{s:Int}{F:Int->List Int}{Z A:List Int}{R:Int->Prop}(c:Lq s F Z A R)(no:∀a∈A,¬R a):By [s] F A:=⟨c.nd,λx hx=>by rw[Wr.mp hx];exact c.st,λa ha=>(c.ok a ha).resolve_left (no a ha),c.co⟩
theorem Lq.len{s:Int}{F:Int->List Int}{Z A:List Int}{R:Int->Prop}(c:Lq s F Z A R):A.length<=Z.length:=c.nd.length_le_of_subset c.sub
theorem CL.r{H:Hp}{p:Addr}{Z:List Int}{F:Int->List Int}{fo:Int->Option Nat}(h:CL H p Z F fo):∃ts:List Addr,H p=some (.lst (ts.map V.ref))/\Eu H ts Z F fo:=by obtain⟨ts,h1,h2,h3⟩:=h;exact⟨ts,h1,h2,h3⟩
structure CC(g:Int)(tf Z A M:List Int)(f:Int->Nat):Prop where
 tok:Tg g tf
 rp:By [Ag g tf] (AL g tf) A
 fi:DZ A (AL g tf) [0] M f
 pm:Z.Perm A
 od:PyProof.Rows.Ordered true Z
theorem CC.nd{g:Int}{tf Z A M:List Int}{f:Int->Nat}(d:CC g tf Z A M f):Z.Nodup:=d.pm.nodup_iff.mpr d.rp.nd
theorem CC.low{g:Int}{tf Z A M:List Int}{f:Int->Nat}(d:CC g tf Z A M f):∀a∈A,0<=a/\a<((2^(tf.length/g.toNat):Nat):Int):=λa ha=>(d.rp.co a ha).low (λs hs=>by rw[Wr.mp hs];exact G9 g tf) (λx h1 h2 y hy=>((Et d.tok.2.1 tf) x h1 h2).2 y hy)
theorem CC.few{g:Int}{tf Z A M:List Int}{f:Int->Nat}(d:CC g tf Z A M f):Z.length<=512:=by rw[d.pm.length_eq];exact Xa (DY d.rp.nd d.low) (FG d.tok.2.2.2.2.1)
theorem CC.first{g:Int}{tf Z A M:List Int}{f:Int->Nat}(d:CC g tf Z A M f):∃Z',Z=Ag g tf::Z':=by
 refine HJ d.tok.1 d.rp (λa ha=>?_) d.pm d.od;have z:=d.low a ha;refine⟨z.1,?_⟩;unfold Ag;have y:(2:Int)^(tf.length/g.toNat)=((2^(tf.length/g.toNat):Nat):Int):=by rw[ZZ];rfl
 lia
theorem CC.falls{g:Int}{tf Z A M:List Int}{f:Int->Nat}(d:CC g tf Z A M f){i:Nat}{a b:Int}(ha:Z[i]?=some a)(hb:Z[i+1]?=some b):¬a<=b:=by have o:Z.Pairwise (·≥·):=d.od;obtain⟨i1,rfl⟩:=Ws.mp ha;obtain⟨i2,rfl⟩:=Ws.mp hb;have h1:=Y0.mp o i (i+1) i1 i2 (by lia);have h2:=Y0.mp d.nd i (i+1) i1 i2 (by lia);intro h;exact h2 (Int.le_antisymm h h1)
noncomputable def JS:Option Nat->PyData
 |none=>.none
 |some n=>.int ((n:Nat):Int)
noncomputable def F4(Z:List Int)(F:Int->List Int)(fo:Int->Option Nat):PyData:=.list (Z.map λz=>.tuple [.int z,.list ((F z).map PyData.int),JS (fo z)])
theorem Uj{K:qJ}{H:Hp}:∀o:Option Nat,D7 K H (Fu o) (JS o)
 |none=>.non
 |some n=>.int _
theorem Kk{K:qJ}{H:Hp}{F:Int->List Int}{fo:Int->Option Nat}:∀(ts:List Addr) (Z:List Int),Eu H ts Z F fo->CU K H (ts.map V.ref) (Z.map λz=>.tuple [.int z,.list ((F z).map PyData.int),JS (fo z)])
 |[],[],_=>.nil
 |[],w::ws,h=>by cases h.1
 |p::ps,[],h=>by cases h.1
 |p::ps,z::Z,h=>by obtain⟨l,k1,k2⟩:=h.2 0 p z rfl rfl;exact .cons (.tup (BL.of k1) (.cons (.int z) (.cons (.lst (Ab.of k2) (Jr _)) (.cons (Uj _) .nil)))) (Kk ps Z ⟨Nat.succ.inj h.1,λi t y h1 h2=>h.2 (i+1) t y h1 h2⟩)
theorem CL.dat{K:qJ}{H:Hp}{p:Addr}{Z:List Int}{F:Int->List Int}{fo:Int->Option Nat}(h:CL H p Z F fo):D7 K H (.ref p) (F4 Z F fo):=by obtain⟨ts,h1,h2,h3⟩:=h;exact .lst (Ab.of h1) (Kk ts Z ⟨h2,h3⟩)
theorem PV:∀o,(JS o).canLay0=true
 |none=>rfl
 |some n=>rfl
theorem Ha(F:Int->List Int)(fo:Int->Option Nat):∀Z:List Int,PyData.canLayAll0 (Z.map λz=>PyData.tuple [.int z,.list ((F z).map PyData.int),JS (fo z)])=true
 |[]=>by simp only[List.map_nil,PyData.canLayAll0]
 |z::Z=>by simp only[List.map_cons,PyData.canLayAll0,PyData.canLay0,Js,PV,Ha F fo Z,Bool.and_self]
theorem EI(Z:List Int)(F:Int->List Int)(fo:Int->Option Nat):(F4 Z F fo).canLay0=true:=by unfold F4;simp only[PyData.canLay0,Ha]
theorem Kl:∀ns:List Int,PyData.depthAll (ns.map PyData.int)=0
 |[]=>by simp only[List.map_nil,PyData.depthAll]
 |n::ns=>by simp only[List.map_cons,PyData.depthAll,PyData.depth,Kl ns,Nat.max_self]
theorem PX:∀o,(JS o).depth=0
 |none=>by simp only[JS,PyData.depth]
 |some n=>by simp only[JS,PyData.depth]
theorem Km(F:Int->List Int)(fo:Int->Option Nat):∀Z:List Int,PyData.depthAll (Z.map λz=>PyData.tuple [.int z,.list ((F z).map PyData.int),JS (fo z)])<=2
 |[]=>by simp only[List.map_nil,PyData.depthAll,Nat.zero_le]
 |z::Z=>by have:=Km F fo Z;simp only[List.map_cons,PyData.depthAll,PyData.depth,Kl,PX];lia
theorem Hb(Z:List Int)(F:Int->List Int)(fo:Int->Option Nat):(F4 Z F fo).depth<=60:=by have:=Km F fo Z;unfold F4;simp only[PyData.depth];lia
theorem Kn(Z:List Int)(F:Int->List Int)(fo:Int->Option Nat):PyData.eqv (F4 Z F fo) (F4 Z F fo)=true:=SeqAt.eqvAll_refl _ (Ha F fo Z)
theorem PY{z:Int}{Z:List Int}(F:Int->List Int)(fo:Int->Option Nat):PyData.eqv (F4 (z::Z) F fo) (.list [])=false:=by simp[F4,PyData.eqv,PyData.eqvAll]
inductive JT(vs:List V)(H:Hp)(Q:VK)(z3_:XK):Prop
 |m (p pt:Addr) (g:Int) (tf Z A M:List Int) (f:Int->Nat):vs=[.ref p,.ref pt,.int g]->CL H p Z (AL g tf) (BH M f)->H pt=some (.lst (tf.map V.int))->CC g tf Z A M f->(∀H',AG H H'->Q (.bl true) H')->JT vs H Q z3_
inductive Hc(vs:List V)(H:Hp)(Q:VK)(z3_:XK):Prop
 |m (p:Addr) (g:Int) (tf Z A M:List Int) (f:Int->Nat):vs=[.ref p]->CL H p Z (AL g tf) (BH M f)->CC g tf Z A M f->(Ag g tf∉M->Q .non H)->(Ag g tf∈M->∀r H',FU H H' r (Bz (AL g tf) (BH M f) (f (Ag g tf)) (Ag g tf))->Q (.ref r) H')->Hc vs H Q z3_
theorem Eu.sameT{P:Addr}{H H':Hp}{pos:Pos}{q:Str}{ts:List Addr}{Z:List Int}{F:Int->List Int}{fo:Int->Option Nat}(e:BW P H H')(t:BC pos q P H)(h:Eu H ts Z F fo):Eu H' ts Z F fo:=⟨h.1,λi t1 z q1 q2=>by obtain⟨l,k1,k2⟩:=h.2 i t1 z q1 q2;exact⟨l,e.get t k1 (λ_ z=>nomatch z),e.get t k2 (λ_ z=>nomatch z)⟩⟩
theorem CL.sameT{P:Addr}{H H':Hp}{pos:Pos}{q:Str}{p:Addr}{Z:List Int}{F:Int->List Int}{fo:Int->Option Nat}(e:BW P H H')(t:BC pos q P H)(h:CL H p Z F fo):CL H' p Z F fo:=by obtain⟨ts,h1,h2⟩:=CL.r h;have h3:=Eu.sameT e t h2;exact⟨ts,e.get t h1 (λ_ z=>nomatch z),h3.1,h3.2⟩
theorem Mh{A A2:List Int}{F:Int->List Int}{M M2:List Int}{f f2:Int->Nat}(h:∀a∈A,a∈A2)(cl:∀a∈A,∀b∈F a,b∈A)(w:DZ A F [0] M f)(w2:DZ A2 F [0] M2 f2):∀(n:Nat) (x:Int),x∈A->BH M f x=some n->∃k,BH M2 f2 x=some k/\k<=n
 |0,x,hx,e=>by
  unfold BH at e
  split at e
  ·rename_i m
   have z:=Wr.mp (w.zero x m (Option.some.inj e));have y:=w2.ends 0 (Wr.mpr rfl);exact⟨0,by rw[z];unfold BH;rw[qF y.1,y.2],Nat.le_refl _⟩
  ·cases e
 |n+1,x,hx,e=>by
  obtain⟨y,hy,ey⟩:=w.down' x n e;obtain⟨k,ek,lk⟩:=Mh h cl w w2 n y (cl x hx y hy) ey;unfold BH at ek
  split at ek
  ·rename_i my
   have ek:=Option.some.inj ek;obtain⟨mx,lx⟩:=w2.up x (h x hx) y hy my;exact⟨f2 x,by unfold BH;rw[qF mx],by lia⟩
  ·cases ek
theorem Hd{S:List Int}{A A2:List Int}{F:Int->List Int}{M M2:List Int}{f f2:Int->Nat}(r:By S F A)(r2:By S F A2)(w:DZ A F [0] M f)(w2:DZ A2 F [0] M2 f2){x:Int}(hx:x∈A):BH M f x=BH M2 f2 x:=by
 have s1:=Fl r r2;have s2:=Fl r2 r;cases e:BH M f x with
 |some n =>
  obtain⟨k,ek,lk⟩:=Mh s1 r.cl w w2 n x hx e;obtain⟨j,ej,lj⟩:=Mh s2 r2.cl w2 w k x (s1 x hx) ek;rw[e]at ej;cases ej;rw[ek]
  congr 1
  lia
 |none =>
  cases e2:BH M2 f2 x with
  |none=>rfl
  |some k =>
   obtain⟨j,ej,lj⟩:=Mh s2 r2.cl w2 w k x (s1 x hx) e2;rw[e]at ej;cases ej
theorem PZ:∀{Z Z2:List Int},Z.Pairwise (·≥·)->Z2.Pairwise (·≥·)->Z.Perm Z2->Z=Z2
 |[],Z2,_,_,p=>by rw[List.nil_perm.mp p]
 |a::Z,[],_,_,p=>by have:=p.length_eq;simp at this
 |a::Z,b::Z2,o,o2,p=>by
  obtain⟨h1,h2⟩:=YU.mp o;obtain⟨k1,k2⟩:=YU.mp o2
  have e:a=b:=by
   rcases XE.mp (p.mem_iff.mp (show a∈a::Z from W7)) with z|z
   ·exact z
   ·rcases XE.mp (p.mem_iff.mpr (show b∈b::Z2 from W7)) with y|y
    ·exact y.symm
    ·have:=h1 b y;have:=k1 a z;lia
  subst e;rw[PZ h2 k2 ((List.perm_cons a).mp p)]
theorem Th{g:Int}{tf Z A M Z2 A2 M2:List Int}{f f2:Int->Nat}(d:CC g tf Z A M f)(d2:CC g tf Z2 A2 M2 f2):Z=Z2/\∀z∈Z,BH M f z=BH M2 f2 z:=by
 have pA:A.Perm A2:=(List.perm_ext_iff_of_nodup d.rp.nd d2.rp.nd).mpr λa=>⟨Fl d.rp d2.rp a,Fl d2.rp d.rp a⟩
 exact⟨PZ d.od d2.od ((d.pm.trans pA).trans d2.pm.symm),λz hz=>Hd d.rp d2.rp d.fi d2.fi (d.pm.mem_iff.mp hz)⟩
theorem Qn{g:Int}{tf Z A M Z2 A2 M2:List Int}{f f2:Int->Nat}(d:CC g tf Z A M f)(d2:CC g tf Z2 A2 M2 f2):F4 Z2 (AL g tf) (BH M2 f2)=F4 Z (AL g tf) (BH M f):=by
 obtain⟨rfl,h⟩:=Th d d2;unfold F4
 congr 1
 exact YO λz hz=>by rw[h z hz]
inductive JU(pos:Pos)(Pt:Addr)(vs:List V)(H:Hp)(Q:VK)(z3_:XK):Prop
 |m (r p:Addr) (g lo:Int) (tab:List Int) (m:Nat) (lf:Int) (tf:List Int) (mf:Nat) (Z A M:List Int) (f:Int->Nat):vs=[.ref r,.ref p]->Ay H r g lo tab m->Az g lo tab m lf tf mf->g^(mf-1)<=9->CL H p Z (AL g tf) (BH M f)->CC g tf Z A M f->BC pos (Da "sets_reached") Pt H->(∀H',BW Pt H H'->BC pos (Da "sets_reached") Pt H'->Q (.bl true) H')->JU pos Pt vs H Q z3_
theorem He{M M2:List Int}{f f2:Int->Nat}{x:Int}(h:BH M f x=BH M2 f2 x):(x∈M↔x∈M2)/\(x∈M->f x=f2 x):=by
 unfold BH at h
 by_cases a:x∈M
 ·by_cases b:x∈M2
  ·rw[qF a,qF b]at h;exact⟨⟨λ_=>b,λ_=>a⟩,λ_=>Option.some.inj h⟩
  ·rw[qF a,qE b]at h;cases h
 ·by_cases b:x∈M2
  ·rw[qE a,qF b]at h;cases h
  ·exact⟨⟨λz=>qG z a,λz=>qG z b⟩,λz=>qG z a⟩
theorem Hf{p q:Int->Bool}:∀{l:List Int},(∀y∈l,p y=q y)->l.findIdx p=l.findIdx q
 |[],_=>rfl
 |a::l,h=>by rw[List.findIdx_cons,List.findIdx_cons,h a W7,Hf λy hy=>h y (XD _ hy)]
theorem Fv{A:List Int}{F:Int->List Int}{fo fo2:Int->Option Nat}(cl:∀a∈A,∀b∈F a,b∈A)(h:∀a∈A,fo a=fo2 a)(dn:∀x n,fo x=some (n+1)->∃y∈F x,fo y=some n):∀(n:Nat) (x:Int),x∈A->fo x=some n->Bz F fo n x=Bz F fo2 n x
 |0,_,_,_=>rfl
 |n+1,x,hx,e=>by
  obtain⟨y,hy,ey⟩:=dn x n e;obtain⟨z,s1,s2,s3,s4,_⟩:=Lk hy ey;have es:Cc F fo n x=Cc F fo2 n x:=Hf λy hy=>by rw[h y (cl x hx y hy)]
  have zA:=cl x hx z (Wy s1);show ((Cc F fo n x:Nat):Int)::Bz F fo n ((F x).getD (Cc F fo n x) 0)=((Cc F fo2 n x:Nat):Int)::Bz F fo2 n ((F x).getD (Cc F fo2 n x) 0);rw[<-es,s3,Fv cl h dn n z zA s2]
theorem Hu{X:Cx}{K:qJ}(h:X.K=K):Ds X (.type "list") (λxs H Q=>∃p ys,xs=[.ref p]/\(Ab K H p ys\/BL K H p ys)/\∀l,H l=none->Q (.ref l) (Ae H l (.lst ys))):=by subst h;exact De
theorem Pa{H:Hp}{r:Addr}{g lo:Int}{tab:List Int}{m:Nat}{lf:Int}{tf:List Int}{mf:Nat}(ok:Ay H r g lo tab m)(fw:Az g lo tab m lf tf mf)(s9:g^(mf-1)<=9):Tg g tf:=by obtain⟨hn,hl⟩:=DJ ok.g2 ok.len fw;have gp:=RW.Ap ok.g2 (mf-1);exact⟨ok.g2,ok.g9,hl,by lia,by lia,O8 ok.g2 ok.tb fw⟩
def Mt(H1 H5:Hp)(x:Addr):Prop:=H1 x=none/\∃xs:List Int,H5 x=some (.lst (xs.map V.int))/\xs.length<=9/\0<xs.length
section
variable{P:Program}{w:World}{K:qJ}{mg:Str->Option Value}{base:Heap}{t:Wo}
theorem WO:AK ["self","at"] ["self","at"] (AH WE):=Ch (by decide +kernel)
theorem WP(T:Ce K mg t) :Aw P w K mg base 1 t.f_1 ["self","at"] (Im K t.c_52 t.c_36):=by refine BJ T.d_1 WO (λ_ _ _ _ _ _=>b2 λ_ _=>rfl) λvs H Q E h=>?_;obtain⟨a,n,y,rfl,ea,q⟩:=h;refine⟨rfl,λcdv A outer s hr=>?_⟩;refine⟨_,(AE (Rw (pv 0) (pv 1))),?_⟩;walk_at "rd";exact⟨_,_,n,ea,T.xa_NoRow_at,q⟩
theorem Uk:AK ["thing"] ["thing"] (AH Sj):=Ch (by decide +kernel)
theorem Ul(T:Ce K mg t) :Aw P w K mg base 1 t.f_39 ["thing"] (Dh):=by
 refine BJ T.d_39 Uk (λ_ _ _ _ _ _=>b1 λ_=>rfl) λvs H Q E h=>?_;obtain⟨x,rfl,kd,q⟩:=h;refine⟨rfl,λcdv A outer s hr=>?_⟩;refine⟨_,(AE (AQ (FO (CS rfl T.z_isinstance (pv 0) (Dw rfl T.z_int PyProof.Rows.boot_int)) (GS (Nt (CS rfl T.z_isinstance (pv 0) (Dw rfl T.z_bool PyProof.Rows.boot_bool))))))),?_⟩;walk_at "rd";cases x with
 |int i =>
  refine⟨_,.of (.int i),_,Q3,?_⟩;rw[qF rfl];exact⟨_,.of (.int i),_,Q4,q⟩
 |bl b =>
  refine⟨_,.of (.bl b),_,Q5,?_⟩;rw[qF rfl];exact⟨_,.of (.bl b),_,MK,q⟩
 |non =>
  refine⟨_,.of .non,_,Q6,?_⟩;rw[qE (by decide)];exact q
 |str y =>
  refine⟨_,.of (.str y),_,Q7,?_⟩;rw[qE (by decide)];exact q
 |ref a =>
  obtain⟨xs,z|z⟩:=kd
  ·refine⟨_,.of (.lst z),_,Q8,?_⟩;rw[qE (by decide)];exact q
  ·refine⟨_,.of (.tup z),_,RA,?_⟩;rw[qE (by decide)];exact q
 |byt _=>exact kd.elim
 |flt _=>exact kd.elim
 |ty _=>exact kd.elim
theorem Um:AK ["thing","signs"] ["thing","signs"] (AH Sk):=Ch (by decide +kernel)
theorem Uo(T:Ce K mg t)(G_39:Aw P w K mg base 1 t.f_39 ["thing"] (Dh)):Aw P w K mg base 2 t.f_42 ["thing","signs"] (Il):=by
 refine BJ T.d_42 Um (λ_ _ _ _ _ _=>b2 λ_ _=>rfl) λvs H Q E h=>?_;obtain⟨x,g,rfl,kd,q⟩:=h;refine⟨rfl,λcdv A outer s hr=>?_⟩;refine⟨_,(AE (AQ (FO (Af hr G_39 T.m_39 (AA (pv 0) AD)) (FO (Bk Je AF (pv 0) (AN _)) (GS (Bk Ex (pv 0) (pv 1) (AN _))))))),?_⟩;walk_at "rd";refine⟨x,rfl,kd,?_⟩;cases x with
 |int i =>
  walk_at "rd";simp only[OJ]at q
  by_cases h:0<=i
  ·rw[qH h,Bool.true_and]at q;rw[qF h];exact q
  ·rw[qI h,Bool.false_and]at q;rw[qE h];exact q
 |_=>exact⟨false,rfl,My q⟩
theorem Pb:AK ["word","signs","at","thing"] ["word","signs"] (AH Sl):=Ch (by decide +kernel)
theorem Uq(T:Ce K mg t)(G_42:Aw P w K mg base 2 t.f_42 ["thing","signs"] (Il))(G_1:Aw P w K mg base 1 t.f_1 ["self","at"] (Im K t.c_52 t.c_36)):Aw P w K mg base 3 t.f_22 ["word","signs"] (F9 K t.c_52):=by
 refine DI T.d_22 Pb (λ_ _ _ _ _ _=>b2 λ_ _=>rfl) λvs H Q E h=>?_;obtain⟨a,xs,g,rfl,hS,kd,h⟩:=h;refine⟨rfl,λcdv A outer s hr=>?_⟩;refine⟨_,(AE (Ar PassesOwn.leaving rfl (MG rfl T.z_enumerate (AA (pv 0) AD)) (IY rfl (Cj (BG 2 Pb) (Cj (BG 3 Pb) F6))) (AE (Ak (BX (BQ (Af hr G_42 T.m_42 (AA (pv 3) (AA (pv 1) AD))))) (AE (II rfl T.xm_52 G_1 (hr.mono (by decide)) rfl T.m_52 E5 (AA (pv 2) AD))) AX)))),?_⟩;refine⟨_,rfl,a,xs,rfl,hS,?_⟩;refine Jn (xs:=xs) (λi σ H1=>B8 g (xs.take i)=none/\(∃x2 x3,σ=[some (.ref a),some (.int g),x2,x3])/\AG H H1) ⟨rfl,⟨none,none,rfl⟩,AG.refl _⟩ (λi σ H1 _ z=>z.2.2.seq hS) ?_ ?_
 ·rintro i x p σ H1 hx ⟨hb,⟨x2,x3,rfl⟩,e⟩ hp;have e2:AG H (Ae H1 p (.tup [.int ((i:Nat):Int),x])):=e.trans (AG.new hp _);refine⟨p,_,rfl,BL.of AC,rfl,_,_,rfl,_,_,rfl,rfl,?_⟩;walk_at "rd";refine⟨x,g,rfl,(kd x (Wy hx)).same e2,?_⟩;cases hs:OJ g x with
  |true =>
   walk_at "rd";exact⟨El hb hx hs,⟨_,rfl⟩,e2⟩
  |false =>
   walk_at "rd";refine⟨by decide,λea hea=>⟨ea,true,_,rfl,AC,λdx hdx=>⟨rfl,some dx,?_,?_⟩⟩⟩
   ·rw[AI (Ne.symm (DR hdx).1),AC]
   ·rw[Em hb hx hs]at h;exact h _ dx (Gg e2 hea hdx) (by rw[Cg (DR hdx).1,AC])
 ·rintro σ H1 ⟨hb,_,e⟩;rw[XZ]at hb;rw[hb]at h;exact h H1 e
theorem WQ:AK ["word","signs","many"] ["word","signs","many"] (AH WF):=Ch (by decide +kernel)
theorem WR(T:Ce K mg t)(G_22:Aw P w K mg base 3 t.f_22 ["word","signs"] (F9 K t.c_52))(G_1:Aw P w K mg base 1 t.f_1 ["self","at"] (Im K t.c_52 t.c_36)):Aw P w K mg base 4 t.f_5 ["word","signs","many"] (En K t.c_52):=by
 refine DI T.d_5 WQ (λ_ _ _ _ _ _=>b3 λ_ _ _=>rfl) λvs H Q E h=>?_;obtain⟨a,xs,g,m,rfl,hS,kd,h⟩:=h;refine⟨rfl,λcdv A outer s hr=>?_⟩
 refine⟨_,(AB (A8 (BF G_22 (hr.mono (by decide)) rfl T.m_22 Au (AA (D4 E2 (pv 0) Ez (E1 (pv 2))) (AA (pv 1) AD))))
  (AE (Ak (AM Hz (Aa AO rfl T.z_len XH (AA (pv 0) AD)) (pv 2) (AN _)) (AE (II rfl T.xm_52 G_1 (hr.mono (by decide)) rfl T.m_52 E5 (AA (Aa (IA rfl) rfl T.z_min ZN (AA (Aa AO rfl T.z_len XH (AA (pv 0) AD)) (AA (pv 2) AD))) AD))) AX))),?_⟩
 walk_at "rd";refine Gh hS λp H1 e1 _ h1=>?_;rw[Iu]at h1;refine⟨p,_,g,rfl,Ab.of h1,λx hx=>(kd x (Yw hx)).same e1,?_⟩;unfold EC at h;cases hb:B8 g (xs.take m) with
 |some i =>
  rw[hb]at h;exact RB.same e1 h
 |none =>
  rw[hb]at h;dsimp only at h;intro H2 e2;refine⟨xs,.inl ((e1.trans e2).seq hS),?_⟩
  by_cases hl:xs.length=m
  ·rw[qF hl]at h;rw[qE (by lia)];exact h _ (e1.trans e2)
  ·rw[qE hl]at h;rw[qF (by lia)];refine⟨xs,.inl ((e1.trans e2).seq hS),by decide,λea hea=>⟨ea,true,_,rfl,AC,λdx hdx=>⟨rfl,some dx,?_,?_⟩⟩⟩
   ·rw[AI (Ne.symm (DR hdx).1),AC]
   ·refine h _ dx (Gg (e1.trans e2) hea hdx) ?_;rw[Cg (DR hdx).1,AC];have e:(if (m:Int)<(xs.length:Int) then (m:Int) else (xs.length:Int))=((min xs.length m:Nat):Int):=by split<;>lia
    rw[e]
theorem Mi:AK ["word","signs","number","sign"] ["word","signs"] (AH Sm):=Ch (by decide +kernel)
theorem Ur(T:Ce K mg t)(G_22:Aw P w K mg base 3 t.f_22 ["word","signs"] (F9 K t.c_52)):Aw P w K mg base 4 t.f_33 ["word","signs"] (Gd K t.c_52):=by
 refine DI T.d_33 Mi (λ_ _ _ _ _ _=>b2 λ_ _=>rfl) λvs H Q E h=>?_;obtain⟨a,xs,g,rfl,g2,g9,hS,kd,h⟩:=h;refine⟨rfl,λcdv A outer s hr=>?_⟩
 refine⟨_,(AB (A8 (BF G_22 (hr.mono (by decide)) rfl T.m_22 Au (AA (pv 0) (AA (pv 1) AD))))
  (AB (AS 2 Mi AF)
  (AB (PS.nox (Ar PassesOwn.never rfl (BK (pv 0)) (BG 3 Mi) (AE (AS 2 Mi (AJ BD (AJ B6 (pv 2) (pv 1)) (pv 3))))))
  (AE (AQ (pv 2)))))),?_⟩
 walk_at "rd";refine⟨a,xs,g,rfl,hS,kd,?_⟩;cases hb:B8 g xs with
 |some i =>
  rw[hb]at h;exact h
 |none =>
  rw[hb]at h;obtain⟨ns,rfl,hns⟩:=Ek hb;intro H1 e;refine⟨_,rfl,a,rfl,⟨_,e.seq hS⟩,?_⟩;refine BM (xs:=ns.map V.int) (λi σ H2=>(∃x3,σ=[some (.ref a),some (.int g),some (.int (Bt g (ns.take i))),x3])/\H2=H1) ⟨⟨none,rfl⟩,rfl⟩ (λi σ H2 _ z=>by rw[z.2];exact e.seq hS) ?_ ?_
  ·rintro i x σ H2 hx ⟨⟨x3,rfl⟩,rfl⟩;obtain⟨n,hn,rfl⟩:=CA hx;walk_at "rd";refine⟨.inr ⟨by lia,by lia⟩,?_⟩;rw[Jp hn];exact⟨rfl,_,rfl⟩
  ·rintro σ H2 ⟨⟨x3,rfl⟩,rfl⟩;walk_at "rd";rw[Wq,XZ];exact h ns rfl _ e
theorem Mj:AK ["number","signs","many","backwards","rest"] ["number","signs","many"] (AH Sn):=Ch (by decide +kernel)
theorem Us(T:Ce K mg t) :QG P w K mg base 1 t.f_46 ["number","signs","many"] (LQ t.c_48):=by
 refine QH T.d_46 Mj (λ_ _ _ _ _ _ us hl=>match us,hl with|[_,_,_],_=>rfl) (λvs H Q E h=>?_) (λcdv A outer s H vs Q E hr h=>?_)
 ·obtain⟨n,g,m,rfl,g2,g9,m0,m3,hbad,hgood⟩:=h;rfl
 obtain⟨n,g,m,rfl,g2,g9,m0,m3,hbad,hgood⟩:=h
 refine⟨_,(AB (Ak (AM Ex (pv 0) AF (AN _)) (AE (Bv rfl T.x_48 rfl T.m_48 BN (AA C0 AD))) AX)
  (AB (AS 3 Mj (BR AD))
  (AB (AS 4 Mj (pv 0))
  (AB (PS.nox (B7 PassesOwn.never (AM Ex (Aa AO rfl T.z_len XH (AA (pv 3) AD)) (pv 2) (AN _)) (AB (A8 (CO XF XU XV BP (pv 3) (AA (AJ As (pv 4) (pv 1)) AD)))
  (AE (AS 4 Mj (AJ Ax (pv 4) (pv 1)))))))
  (AB (Ak (AM Dt (pv 4) AF (AN _)) (AE (Bv rfl T.x_48 rfl T.m_48 BN (AA C0 AD))) AX)
  (AE (AQ (P5 rfl rfl T.z_reversed rfl T.z_list (AA (pv 3) AD))))))))),?_⟩
 walk_at "rd"
 by_cases hn:n<0
 ·rw[qF hn];exact⟨by decide,hbad (.inl hn) H (AG.refl H)⟩
 rw[qE hn];refine⟨XO _,λp hp=>?_⟩
 refine D0 (λσ H1=>∃i:Nat,i<=m.toNat/\σ=[some (.int n),some (.int g),some (.int m),some (.ref p),some (.int (dr g n i))]/\H1=Ae H p (.lst ((DN g n i).map V.int)))
  (λσ H1=>match H1 p with|some (.lst xs)=>m.toNat-xs.length|_=>0) ⟨0,XO _,rfl,rfl⟩ ?_ ?_
 ·rintro σ H1 ⟨i,hi,rfl,rfl⟩;walk_at "rd";have hl:((DN g n i).map V.int).length=i:=by rw[Wq,DC]
  refine⟨_,.inl (Ab.of AC),?_⟩;rw[hl]
  by_cases hlt:(i:Int)<m
  ·rw[qF hlt];refine⟨.inl ⟨_,Ab.of AC⟩,by lia,_,AC,by rw[hl];exact AW (by lia),by lia,by lia,⟨i+1,by lia,rfl,?_⟩,?_⟩
   ·rw[F5,DN,W3];rfl
   ·rw[AC,AC];show m.toNat-(List.map V.int (DN g n i)++[V.int (dr g n i%g)]).length<m.toNat-(List.map V.int (DN g n i)).length;rw[W1,hl];simp only[List.length_cons,List.length_nil];lia
  ·rw[qE hlt];have ei:i=m.toNat:=by lia
   by_cases hd:0<dr g n i
   ·rw[qF hd];refine⟨by decide,hbad (.inr (Int.not_lt.mp λz=>?_)) _ (AG.new hp _)⟩;rw[ei,MO g2 (by lia) z]at hd;lia
   ·rw[qE hd];refine⟨_,Ab.of AC,λr hr'=>hgood (by lia) (Int.not_le.mp λz=>?_) r _ ⟨(AG.new hp _).trans (AG.new hr' _),(DR hr').2,?_⟩⟩
    ·rw[ei]at hd;exact hd (SD g2 z)
    ·rw[AC,ei,List.map_reverse]
 ·intro σ H1 Q1 Q2 hq;walk_at "rd";rintro⟨v,h1,p,h2,x,h3,v2,h4,x1,h5,h6⟩;exact⟨v,h1,p,h2,x,h3,v2,h4,x1,h5,hq _ _ h6⟩
theorem Ut:AK ["signs","low"] ["signs","low"] (AH So):=Ch (by decide +kernel)
theorem Uu(T:Ce K mg t)(G_39:Aw P w K mg base 1 t.f_39 ["thing"] (Dh)):Aw P w K mg base 2 t.f_21 ["signs","low"] (LO t.c_47):=by
 refine DI T.d_21 Ut (λ_ _ _ _ _ _=>b2 λ_ _=>rfl) λvs H Q E h=>?_;obtain⟨x,y,rfl,kx,ky,hg,hbad⟩:=h;refine⟨rfl,λcdv A outer s hr=>?_⟩
 refine⟨_,(AB (Ak (PW.pt (CN (BX (BQ (Af hr G_39 T.m_39 (AA (pv 0) AD)))) (CN (AM Ex (pv 0) AF (AN _)) (CF (AM Dt (pv 0) AF (AN _)))))) (AE (Bv rfl T.x_47 rfl T.m_47 BN (AA C0 AD))) AX)
  (AE (Ak (BX (BQ (Af hr G_39 T.m_39 (AA (pv 1) AD)))) (AE (Bv rfl T.x_47 rfl T.m_47 BN (AA C0 AD))) AX))),?_⟩
 walk_at "rd";refine⟨x,rfl,kx,NB x,rfl,?_⟩;cases x with
 |int g =>
  show if true=false then _ else _;rw[qE (by decide)];refine⟨g,rfl,?_⟩
  by_cases h2:g<2
  ·rw[qF h2];exact⟨by decide,hbad (by show ((decide (2<=g)&&decide (g<=9))&&NB y)=false;rw[qI (p:=2<=g) (by lia)];rfl)⟩
  rw[qE h2];refine⟨g,rfl,?_⟩
  by_cases h9:9<g
  ·rw[qF h9];exact⟨by decide,hbad (by show ((decide (2<=g)&&decide (g<=9))&&NB y)=false;rw[qI (p:=g<=9) (by lia),Bool.and_false];rfl)⟩
  rw[qE h9]
  have e:C1 (.int g) y=NB y:=by show ((decide (2<=g)&&decide (g<=9))&&NB y)=NB y;rw[qH (p:=2<=g) (by lia),qH (p:=g<=9) (by lia)];rfl
  rw[e]at hg hbad;refine⟨y,rfl,ky,NB y,rfl,?_⟩;cases hy:NB y with
  |false =>
   rw[qF rfl];exact⟨by decide,hbad hy⟩
  |true =>
   rw[qE (by decide)];exact hg hy
 |_ =>
  show if false=false then _ else _;rw[qF rfl];exact⟨by decide,hbad rfl⟩
theorem Ko:AK ["signs","length","many","words"] ["signs","length"] (AH Sq):=Ch (by decide +kernel)
theorem Uv(T:Ce K mg t) :Aw P w K mg base 1 t.f_24 ["signs","length"] (DD):=by
 refine BJ T.d_24 Ko (λ_ _ _ _ _ _=>b2 λ_ _=>rfl) λvs H Q E h=>?_;obtain⟨g,n,rfl,g2,g9,hy,hn⟩:=h;refine⟨rfl,λcdv A outer s hr=>?_⟩
 refine⟨_,(AB (AS 2 Ko AF)
  (AB (AS 3 Ko AF)
  (AB (B7 PassesOwn.never (AM Ex (pv 3) (pv 1) (AN _)) (AB (AS 3 Ko (AJ B6 (pv 3) (pv 0)))
  (AE (AS 2 Ko (AJ BD (pv 2) AF)))))
  (AB (Ak (AM Bb (pv 3) (pv 1) (AN _)) (AE (AQ (pv 2))) AX)
  (AE (AQ AF)))))),?_⟩
 walk_at "rd"
 refine D0 (λσ H1=>∃i:Nat,σ=[some (.int g),some (.int n),some (.int ((i:Nat):Int)),some (.int (g^i))]/\H1=H/\∀j,j<i->g^j<n)
  (λ(σ:St) (H1:Hp)=>match σ[3]? with|some (some (V.int x))=>(n-x).toNat|_=>0) ⟨0,by rw[Xh];rfl,rfl,λj hj=>qG hj (ZV _)⟩ ?_ ?_
 ·rintro σ H1 ⟨i,rfl,rfl,hj⟩;have gp:=RW.Ap g2 i;walk_at "rd"
  by_cases hlt:g^i<n
  ·rw[qF hlt];refine⟨.inr ⟨by lia,by lia⟩,⟨i+1,rfl,?_,λj hj2=>?_⟩,?_⟩
   ·rw[XJ]
   ·by_cases z:j=i
    ·rw[z];exact hlt
    ·exact hj j (by lia)
   ·have:g^i<g^i*g:=by
     have:=Xp g2 (XQ gp);lia
    lia
  ·rw[qE hlt]
   by_cases he:g^i=n
   ·rw[qF he];exact hy i he.symm
   ·rw[qE he];refine hn λm z=>?_
    by_cases hm:m<i
    ·have:=hj m hm;lia
    ·have:=Bo g2 (Nat.le_of_not_lt hm);lia
 ·intro σ H1 Q1 Q2 hq;walk_at "rd";rintro⟨v,h1,v2,h2,i,h3,x,h4,h5⟩;exact⟨v,h1,v2,h2,i,h3,x,h4,hq _ _ h5⟩
theorem Pd:AK ["signs","many","length","done"] ["signs","many"] (AH WG):=Ch (by decide +kernel)
theorem WS(T:Ce K mg t) :Aw P w K mg base 1 t.f_9 ["signs","many"] (Iz):=by
 refine BJ T.d_9 Pd (λ_ _ _ _ _ _=>b2 λ_ _=>rfl) λvs H Q E h=>?_;obtain⟨g,m,rfl,g2,g9,m1,hy,hn⟩:=h;refine⟨rfl,λcdv A outer s hr=>?_⟩
 refine⟨_,(AB (AS 2 Pd AF)
  (AB (AS 3 Pd AF)
  (AB (B7 PassesOwn.never (PW.pt (Eg (AM Ex (pv 3) (pv 1) (AN _)) (Db (AM Je (pv 2) (EL rfl T.g_LONGEST_TABLE) (AN _))))) (AB (AS 2 Pd (AJ B6 (pv 2) (pv 0)))
  (AE (AS 3 Pd (AJ BD (pv 3) AF)))))
  (AE (AQ (pv 2)))))),?_⟩
 walk_at "rd"
 refine D0 (λσ H1=>∃i:Nat,i<=m.toNat/\σ=[some (.int g),some (.int m),some (.int (g^i)),some (.int ((i:Nat):Int))]/\H1=H)
  (λ(σ:St) (H1:Hp)=>match σ[3]? with|some (some (V.int x))=>(m-x).toNat|_=>0) ⟨0,XO _,by rw[Xh];rfl,rfl⟩ ?_ ?_
 ·rintro σ H1 ⟨i,hi,rfl,rfl⟩;have gp:=RW.Ap g2 i;walk_at "rd"
  by_cases hlt:(i:Int)<m
  ·rw[qF hlt]
   by_cases hle:g^i<=256
   ·rw[qF hle];exact⟨.inr ⟨by lia,by lia⟩,⟨i+1,by lia,by rw[XJ],by lia⟩,by lia⟩
   ·rw[qE hle];have:=Bo g2 hi;exact hn (by lia) _ (by lia)
  ·rw[qE hlt];have ei:i=m.toNat:=by lia
   subst ei
   by_cases hle:g^m.toNat<=256
   ·exact hy hle
   ·exact hn (by lia) _ (by lia)
 ·intro σ H1 Q1 Q2 hq;walk_at "rd";rintro⟨v,h1,v2,h2,i,h3,x,h4,h5⟩;refine⟨v,h1,v2,h2,i,h3,x,h4,?_⟩
  by_cases z:i<x
  ·rw[qF z]at h5⊢;obtain⟨v3,h6,j,h7,h8⟩:=h5;exact⟨v3,h6,j,h7,hq _ _ h8⟩
  ·rw[qE z]at h5⊢;exact hq _ _ h5
theorem RL:AK ["signs","table","told"] ["signs","table"] (AH Sr):=Ch (by decide +kernel)
theorem Uw(T:Ce K mg t)(G_24:Aw P w K mg base 1 t.f_24 ["signs","length"] (DD))(G_42:Aw P w K mg base 2 t.f_42 ["thing","signs"] (Il)):Aw P w K mg base 3 t.f_12 ["signs","table"] (Ix t.c_47):=by
 refine DI T.d_12 RL (λ_ _ _ _ _ _=>b2 λ_ _=>rfl) λvs H Q E h=>?_;obtain⟨g,z,rfl,g2,g9,kz,hg,hbad⟩:=h;refine⟨rfl,λcdv A outer s hr=>?_⟩
 refine⟨_,(AB (Ak (BX (BQ (QC rfl T.z_isinstance (pv 1) (AA (Dw rfl T.z_list PyProof.Rows.boot_list) (AA (Dw rfl T.z_tuple PyProof.Rows.boot_tuple) AD))))) (AE (Bv rfl T.x_47 rfl T.m_47 BN (AA C0 AD))) AX)
  (AB (Ak (PW.pt (CN (AM Dt (Aa AO rfl T.z_len XH (AA (pv 1) AD)) (EL rfl T.g_LONGEST_TABLE) (AN _)) (CF (AM Bb (Af hr G_24 T.m_24 (AA (pv 0) (AA (Aa AO rfl T.z_len XH (AA (pv 1) AD)) AD))) AF (AN _))))) (AE (Bv rfl T.x_47 rfl T.m_47 BN (AA C0 AD))) AX)
  (AE (Ar PassesOwn.leaving rfl (UJ (BK (pv 1)) (Re (pv 1))) (BG 2 RL) (AE (Ak (BX (BQ (Af hr G_42 T.m_42 (AA (pv 2) (AA (pv 0) AD))))) (AE (Bv rfl T.x_47 rfl T.m_47 BN (AA C0 AD))) AX)))))),?_⟩
 walk_at "rd";refine⟨by decide,λp hp=>?_⟩;have e1:=AG.new hp (.tup [V.ty "list",V.ty "tuple"]);have h1:Ae H p (.tup [V.ty "list",V.ty "tuple"]) p=some (.tup [V.ty "list",V.ty "tuple"]):=AC;generalize Ae H p (HO.tup [V.ty "list",V.ty "tuple"])=H1 at e1 h1⊢;cases z with
 |ref a =>
  obtain⟨xs,hs,kx⟩:=kz;have hs1:=hs.same e1
  have notk:¬MP g xs->¬GA H g (.ref a):=by rintro h ⟨b,ys,e,hs2,ok⟩;cases e;have:=hs.inj hs2;subst this;exact h ok
  obtain⟨tt,ty,hk⟩:∃tt,Tn K H1 (.ref a) tt/\PySem.W.kitAny K tt [.type "list",.type "tuple"]=some true:=hs1.elim (λq=>⟨_,.of (.lst q),Wj ML _⟩) λq=>⟨_,.of (.tup q),QF UH (Wj Q9 _)⟩
  refine⟨tt,ty,_,h1,[.type "list",.type "tuple"],rfl,true,hk,?_⟩;rw[qE (by decide)];refine⟨a,rfl,xs,hs1.sq,?_⟩
  by_cases h256:(256:Int)<xs.length
  ·rw[qF h256];exact⟨by decide,hbad (notk λok=>by have:=ok.1;lia) _ e1⟩
  rw[qE h256];refine⟨a,rfl,xs,hs1.sq,g,_,rfl,g2,g9,λm hm=>⟨rfl,?_⟩,λhno=>⟨rfl,?_⟩⟩
  ·by_cases hm0:m=0
   ·subst hm0;rw[qF (show V.int ((0:Nat):Int)=V.int 0 from rfl)];refine⟨by decide,hbad (notk λok=>?_) _ e1⟩;obtain⟨m',hm1,hl⟩:=ok.2.1;have:=Cv g2 (hm.symm.trans hl);lia
   rw[qE (by intro z;injection z with z;lia)];rcases hs1 with hL|hT
   ·refine Or.inl ⟨_,rfl,a,rfl,⟨_,Ab.of hL⟩,?_⟩;refine BM (xs:=xs) (λi σ H2=>B8 g (xs.take i)=none/\(∃x2,σ=[some (.int g),some (.ref a),x2])/\H2=H1) ⟨rfl,⟨none,rfl⟩,rfl⟩ (λi σ H2 _ z=>by rw[z.2.2];exact Ab.of hL) ?_ ?_
    ·rintro i x σ H2 hx ⟨hb,⟨x2,rfl⟩,rfl⟩;walk_at "rd";refine⟨x,g,rfl,(kx x (Wy hx)).same e1,?_⟩;cases hsg:OJ g x with
     |true =>
      walk_at "rd";exact⟨El hb hx hsg,_,rfl⟩
     |false =>
      walk_at "rd";exact⟨by decide,hbad (notk λok=>by have z:=ok.2.2;rw[Em hb hx hsg]at z;cases z) _ e1⟩
    ·rintro σ H2 ⟨hb,_,rfl⟩;rw[XZ]at hb;exact hg ⟨a,xs,rfl,hs,by lia,⟨m,by lia,hm⟩,hb⟩ _ e1
   ·refine Or.inr ⟨_,rfl,a,rfl,⟨_,BL.of hT⟩,?_⟩;refine Pn (xs:=xs) (λi σ H2=>B8 g (xs.take i)=none/\(∃x2,σ=[some (.int g),some (.ref a),x2])/\H2=H1) ⟨rfl,⟨none,rfl⟩,rfl⟩ (λi σ H2 _ z=>by rw[z.2.2];exact BL.of hT) ?_ ?_
    ·rintro i x σ H2 hx ⟨hb,⟨x2,rfl⟩,rfl⟩;walk_at "rd";refine⟨x,g,rfl,(kx x (Wy hx)).same e1,?_⟩;cases hsg:OJ g x with
     |true =>
      walk_at "rd";exact⟨El hb hx hsg,_,rfl⟩
     |false =>
      walk_at "rd";exact⟨by decide,hbad (notk λok=>by have z:=ok.2.2;rw[Em hb hx hsg]at z;cases z) _ e1⟩
    ·rintro σ H2 ⟨hb,_,rfl⟩;rw[XZ]at hb;exact hg ⟨a,xs,rfl,hs,by lia,⟨m,by lia,hm⟩,hb⟩ _ e1
  ·rw[qF rfl];refine⟨by decide,hbad (notk λok=>?_) _ e1⟩;obtain⟨m',_,hl⟩:=ok.2.1;exact hno m' hl
 |non =>
  refine⟨_,.of .non,_,h1,[.type "list",.type "tuple"],rfl,false,QF UK (QF UL rfl),?_⟩;rw[qF rfl];exact⟨by decide,hbad (λ⟨_,_,e,_⟩=>nomatch e) _ e1⟩
 |str y =>
  refine⟨_,.of (.str y),_,h1,[.type "list",.type "tuple"],rfl,false,QF UM (QF UN rfl),?_⟩;rw[qF rfl];exact⟨by decide,hbad (λ⟨_,_,e,_⟩=>nomatch e) _ e1⟩
 |int y =>
  refine⟨_,.of (.int y),_,h1,[.type "list",.type "tuple"],rfl,false,QF UO (QF UP rfl),?_⟩;rw[qF rfl];exact⟨by decide,hbad (λ⟨_,_,e,_⟩=>nomatch e) _ e1⟩
 |bl y =>
  refine⟨_,.of (.bl y),_,h1,[.type "list",.type "tuple"],rfl,false,QF UQ (QF UR rfl),?_⟩;rw[qF rfl];exact⟨by decide,hbad (λ⟨_,_,e,_⟩=>nomatch e) _ e1⟩
 |byt _=>exact kz.elim
 |flt _=>exact kz.elim
 |ty _=>exact kz.elim
theorem Ux:AK ["signs","low","table"] ["signs","low","table"] (AH Ss):=Ch (by decide +kernel)
theorem Uy(T:Ce K mg t)(G_21:Aw P w K mg base 2 t.f_21 ["signs","low"] (LO t.c_47))(G_12:Aw P w K mg base 3 t.f_12 ["signs","table"] (Ix t.c_47)):Aw P w K mg base 4 t.f_58 ["signs","low","table"] (Iy t.c_47):=by
 refine DI T.d_58 Ux (λ_ _ _ _ _ _=>b3 λ_ _ _=>rfl) λvs H Q E h=>?_;obtain⟨x,y,z,rfl,kx,ky,kz,hg,hbad⟩:=h;refine⟨rfl,λcdv A outer s hr=>?_⟩
 refine⟨_,(AB (A8 (BF G_21 (hr.mono (by decide)) rfl T.m_21 Au (AA (pv 0) (AA (pv 1) AD))))
  (AB (A8 (BF G_12 (hr.mono (by decide)) rfl T.m_12 Au (AA (pv 0) (AA (pv 2) AD))))
  (AE (AQ (D1 (AA (pv 0) (AA (pv 1) (AA (CQ DM rfl T.z_tuple ZB (AA (pv 2) AD)) AD)))))))),?_⟩
 walk_at "rd";refine⟨x,y,rfl,kx,ky,λhgood=>?_,λhb=>hbad (λh=>by rw[h.1]at hb;cases hb) _ (AG.refl _)⟩;obtain⟨g,lo,rfl,rfl,g2,g9⟩:=Iw hgood;refine⟨g,z,rfl,g2,g9,kz,λok H1 e1=>?_,λnok H1 e1=>hbad (λh=>?_) _ e1⟩
 ·obtain⟨a,xs,rfl,hs,ok⟩:=ok;obtain⟨tab,rfl,htab⟩:=Ek ok.2.2;refine⟨a,rfl,tab.map V.int,?_⟩;rcases hs with hL|hT
  ·refine .inl ⟨Ab.of (e1 _ _ hL),λl hl=>⟨by decide,λp hp=>?_⟩⟩;have e2:=AG.new hl (.tup (tab.map V.int));have e3:=AG.new hp (.tup [.int g,.int lo,.ref l]);exact hg g lo tab a rfl rfl rfl (.inl hL) g2 g9 ok htab p _ ((e1.trans e2).trans e3) ⟨l,AC,e3 _ _ AC⟩
  ·refine .inr ⟨BL.of (e1 _ _ hT),by decide,λp hp=>?_⟩;have e3:=AG.new hp (.tup [.int g,.int lo,.ref a]);exact hg g lo tab a rfl rfl rfl (.inr hT) g2 g9 ok htab p _ (e1.trans e3) ⟨a,AC,e3 _ _ (e1 _ _ hT)⟩
 ·obtain⟨_,g',e,h'⟩:=h;cases e;exact nok h'
theorem Uz:AK ["one"] ["one"] (AH Su):=Ch (by decide +kernel)
theorem U0(T:Ce K mg t)(G_24:Aw P w K mg base 1 t.f_24 ["signs","length"] (DD)):Aw P w K mg base 2 t.f_51 ["one"] (DT):=by
 refine BJ T.d_51 Uz (λ_ _ _ _ _ _=>b1 λ_=>rfl) λvs H Q E h=>?_;obtain⟨r,g,lo,tab,m,rfl,g2,g9,⟨tb,h1,h2⟩,hl,q⟩:=h;refine⟨rfl,λcdv A outer s hr=>?_⟩;refine⟨_,(AE (AQ (Af hr G_24 T.m_24 (AA (AR AY (pv 0) AF (λ_ _=>rfl)) (AA (Aa AO rfl T.z_len XH (AA (AR AY (pv 0) AF (λ_ _=>rfl)) AD)) AD))))),?_⟩;walk_at "rd";refine⟨r,_,0,.int g,rfl,rfl,BL.of h1,Cf rfl,r,_,2,.ref tb,rfl,rfl,BL.of h1,Cf rfl,?_⟩;walk_at "rd";refine⟨_,.inr (BL.of h2),g,_,rfl,g2,g9,λm' e=>?_,λz=>?_⟩
 ·rw[Wq,hl]at e;rw[<-Cv g2 e];exact q
 ·exact qG (by rw[Wq,hl]) (z m)
theorem U1:AK ["one","word"] ["one","word"] (AH Sv):=Ch (by decide +kernel)
theorem U2(T:Ce K mg t)(G_5:Aw P w K mg base 4 t.f_5 ["word","signs","many"] (En K t.c_52))(G_51:Aw P w K mg base 2 t.f_51 ["one"] (DT))(G_33:Aw P w K mg base 4 t.f_33 ["word","signs"] (Gd K t.c_52)):Aw P w K mg base 5 t.f_32 ["one","word"] (LN K t.c_52):=by
 refine DI T.d_32 U1 (λ_ _ _ _ _ _=>b2 λ_ _=>rfl) λvs H Q E h=>?_;obtain⟨r,a,g,lo,tab,m,xs,rfl,g2,g9,hR,hl,hS,kd,h⟩:=h;refine⟨rfl,λcdv A outer s hr=>?_⟩
 refine⟨_,(AB (A8 (BF G_5 (hr.mono (by decide)) rfl T.m_5 Au (AA (pv 1) (AA (AR AY (pv 0) AF (λ_ _=>rfl)) (AA (Af hr G_51 T.m_51 (AA (pv 0) AD)) AD)))))
  (AE (AQ (AR AY (AR AY (pv 0) AF (λ_ _=>rfl)) (BF G_33 (hr.mono (by decide)) rfl T.m_33 Au (AA (pv 1) (AA (AR AY (pv 0) AF (λ_ _=>rfl)) AD))) (λ_ _=>rfl))))),?_⟩
 obtain⟨tb,h1,h2⟩:=id hR;walk_at "rd";refine⟨r,_,0,_,rfl,rfl,BL.of h1,rfl,r,g,lo,tab,m,rfl,g2,g9,hR,hl,a,xs,g,m,rfl,hS,kd,?_⟩;cases hb:EC g m xs with
 |some i =>
  rw[hb]at h;exact h
 |none =>
  rw[hb]at h;obtain⟨hlen,hbi⟩:=Jz hb;obtain⟨ns,rfl,hns⟩:=Ek hbi;rw[Wq]at hlen;intro H1 e1;refine⟨r,_,2,_,rfl,rfl,BL.of (e1 _ _ h1),rfl,r,_,0,_,rfl,rfl,BL.of (e1 _ _ h1),rfl,a,_,g,rfl,g2,g9,e1.seq hS,Io,?_⟩;rw[hbi];intro ms hms H2 e2;have:=Gf hms;subst this;have nb:=Dj g2 hns;rw[hlen,<-hl]at nb;refine⟨tb,_,_,.int (tab.getD (Bt g ns).toNat 0),rfl,rfl,BL.of (e2 _ _ (e1 _ _ h2)),?_,h ns rfl _ (e1.trans e2)⟩;have z:=CG (ns:=tab) (k:=(Bt g ns).toNat) (by lia);rw[show (((Bt g ns).toNat:Nat):Int)=Bt g ns by lia]at z;exact z
theorem RM:AK ["one","head","sign","first"] ["one","head","sign"] (AH Sw):=Ch (by decide +kernel)
theorem U3(T:Ce K mg t) :Aw P w K mg base 1 t.f_34 ["one","head","sign"] (LY):=by
 refine BJ T.d_34 RM (λ_ _ _ _ _ _=>b3 λ_ _ _=>rfl) λvs H Q E h=>?_;obtain⟨r,g,lo,tab,m,h,s',rfl,ok,hh,q⟩:=h;refine⟨rfl,λcdv A outer s hr=>?_⟩
 refine⟨_,(AB (AS 3 RM (AJ B6 (pv 1) (AR AY (pv 0) AF (λ_ _=>rfl))))
  (AE (AQ (Ef [(2,"sign"),(0,"one")] [("sign",_),("one",_)] (Ms rfl T.z_range (AA (pv 3) (AA (AJ BD (pv 3) (AR AY (pv 0) AF (λ_ _=>rfl))) AD))) (λ_ _ _ _=>(OM (AM Bb (AR (Di (K:=K) rfl) (AR (Di (K:=K) rfl) (pv 2) AF (λ_ _=>rfl)) (pv 0) (λ_ _=>rfl)) (pv 1) (AN _)))) (λ_ _ _ _=>(pv 0)))))),?_⟩
 obtain⟨tb,h1,h2⟩:=id ok.v;have g2:=ok.g2;have g9:=ok.g9;have m1:=ok.m1;have m8:=ok.m8;have hl:=ok.len;have sz:=ok.sz;have hlm:(tab.map V.int).length=tab.length:=Wq ..;have hd:=C4 g2 hl m1;walk_at "rd";have gn:((g.toNat:Nat):Int)=g:=by lia
 have hb2:h*g.toNat+g.toNat<=tab.length:=by have:=Nat.mul_le_mul_right g.toNat (show h+1<=tab.length/g.toNat from hh);rw[Nat.add_mul,Nat.one_mul]at this;lia
 refine⟨r,_,0,_,rfl,rfl,BL.of h1,rfl,g,rfl,.inr ⟨by lia,by lia⟩,?_⟩;refine⟨_,rfl,_,rfl,_,rfl,r,_,0,_,rfl,rfl,BL.of h1,rfl,_,_,rfl,rfl,_,_,rfl,?_⟩;have eh:(h:Int)*g=((h*g.toNat:Nat):Int):=by rw[YF,gn]
 rw[eh];refine⟨⟨by lia,by lia,by lia,by lia⟩,λD hD=>?_⟩;rw[show (((h*g.toNat:Nat):Int)+g-((h*g.toNat:Nat):Int)).toNat=g.toNat by lia];refine A4 (lo:=((h*g.toNat:Nat):Int)) (n:=g.toNat) (λi acc Hx=>acc=(Hs (((List.range i).filter λj=>decide (tab.getD (h*g.toNat+j) 0=s')).map λj=>h*g.toNat+j)).map V.int/\Hx=Ae H D (.lst acc)) ⟨rfl,rfl⟩ ?_ ?_
 ·rintro i acc Hx hi ⟨rfl,rfl⟩;have en:=AG.new hD (.lst ((Hs (((List.range i).filter λj=>decide (tab.getD (h*g.toNat+j) 0=s')).map λj=>h*g.toNat+j)).map V.int));have ei:((h*g.toNat:Nat):Int)+(i:Int)=((h*g.toNat+i:Nat):Int):=by lia
  have fl:((List.range i).filter λj=>decide (tab.getD (h*g.toNat+j) 0=s')).length<=i:=by have:=List.length_filter_le (λj=>decide (tab.getD (h*g.toNat+j) 0=s')) (List.range i);rw[W8]at this;exact this
  rw[ei];walk_at "rd";refine⟨r,_,2,_,rfl,rfl,BL.of (en _ _ h1),rfl,tb,_,_,_,rfl,rfl,BL.of (en _ _ h2),CG (by lia),rfl,?_⟩
  by_cases hc:tab.getD (h*g.toNat+i) 0=s'
  ·rw[qF (by rw[hc])];refine⟨AC,?_,?_,by rw[F5]⟩
   ·unfold Hs;rw[Wq,Wq,Wq];exact AW (by lia)
   ·unfold Hs;have f1:([i]:List Nat).filter (λj=>decide (tab.getD (h*g.toNat+j) 0=s'))=[i]:=by rw[List.filter_cons,qF (qH hc)];rfl
    rw[YE,ZC,f1,W3,W3,W3];rfl
  ·rw[qE (by intro z;exact hc (V.int.inj z))];have f1:([i]:List Nat).filter (λj=>decide (tab.getD (h*g.toNat+j) 0=s'))=[]:=by rw[List.filter_cons,qE (by rw[qI hc];decide)];rfl
   rw[YE,ZC,f1,Xn];exact⟨rfl,rfl⟩
 ·rintro acc Hx ⟨rfl,rfl⟩;exact q D _ ⟨AG.new hD _,hD,AC⟩
theorem U4:AK ["one"] ["one"] (AH Sx):=Ch (by decide +kernel)
theorem U5(T:Ce K mg t) :Aw P w K mg base 1 t.f_54 ["one"] (EQ):=by
 refine BJ T.d_54 U4 (λ_ _ _ _ _ _=>b1 λ_=>rfl) λvs H Q E h=>?_;obtain⟨r,g,lo,tab,m,rfl,ok,q⟩:=h;refine⟨rfl,λcdv A outer s hr=>?_⟩;refine⟨_,(AE (AQ (AJ Ax (Aa AO rfl T.z_len XH (AA (AR AY (pv 0) AF (λ_ _=>rfl)) AD)) (AR AY (pv 0) AF (λ_ _=>rfl))))),?_⟩;obtain⟨tb,h1,h2⟩:=id ok.v;have g2:=ok.g2;have g9:=ok.g9;have m1:=ok.m1;have m8:=ok.m8;have hl:=ok.len;have sz:=ok.sz;have hlm:(tab.map V.int).length=tab.length:=Wq ..;walk_at "rd";refine⟨r,_,2,_,rfl,rfl,BL.of h1,rfl,?_⟩;walk_at "rd";refine⟨_,.inr (BL.of h2),r,_,0,_,rfl,rfl,BL.of h1,rfl,g,rfl,by lia,by lia,?_⟩
 have e:(((tab.map V.int).length:Nat):Int)/g=((tab.length/g.toNat:Nat):Int):=by rw[hlm,X9,X1 (by lia)]
 rw[e];exact q
theorem Kp:AK ["one","weight","table","number","told","there"] ["one","weight"] (AH Sy):=Ch (by decide +kernel)
theorem U6(T:Ce K mg t) :Aw P w K mg base 1 t.f_49 ["one","weight"] (Gk):=by
 refine BJ T.d_49 Kp (λ_ _ _ _ _ _=>b2 λ_ _=>rfl) λvs H Q E h=>?_;obtain⟨r,g,lo,tab,wt,rfl,g2,g9,hR,w0,w3,tl,q⟩:=h;refine⟨rfl,λcdv A outer s hr=>?_⟩
 refine⟨_,(AB (AS 2 Kp (AR AY (pv 0) AF (λ_ _=>rfl)))
  (AB (Ar PassesOwn.never rfl (OQ rfl T.z_enumerate (AA (pv 2) AD)) (IY rfl (Cj (BG 3 Kp) (Cj (BG 4 Kp) F6))) (AB (AS 5 Kp (AJ As (AJ Ax (pv 3) (pv 1)) (AR AY (pv 0) AF (λ_ _=>rfl))))
  (AE (Ak (AM Hz (pv 4) (AR AY (pv 2) (AJ Bq (pv 3) (AJ B6 (pv 5) (pv 1))) (λ_ _=>rfl)) (AN _)) (AE (AQ B5)) AX))))
  (AE (AQ B5)))),?_⟩
 obtain⟨tb,h1,h2⟩:=id hR;walk_at "rd";refine⟨r,_,2,_,rfl,rfl,BL.of h1,rfl,?_⟩;walk_at "rd";refine⟨_,rfl,tb,_,rfl,BL.of h2,?_⟩;refine NE (xs:=tab.map V.int) (λi σ H1=>(∃x3 x4 x5,σ=[some (.ref r),some (.int wt),some (.ref tb),x3,x4,x5])/\AG H H1/\∀k,k<i->tab.getD k 0=tab.getD ((k:Int)-(k:Int)/wt%g*wt).toNat 0) ⟨⟨none,none,none,rfl⟩,AG.refl _,λk hk=>qG hk (ZV _)⟩ (λi σ H1 _ z=>BL.of (z.2.1 _ _ h2)) ?_ ?_
 ·rintro i x p2 σ H1 hx ⟨⟨x3,x4,x5,rfl⟩,e,hall⟩ hp2;obtain⟨n,hn,rfl⟩:=CA hx;have hi:i<tab.length:=(Ws.mp hn).1;have e2:AG H (Ae H1 p2 (.tup [.int ((i:Nat):Int),.int n])):=e.trans (AG.new hp2 _);refine⟨p2,_,rfl,BL.of AC,rfl,_,_,rfl,_,_,rfl,rfl,?_⟩;walk_at "rd";have ix:=SG (k:=(i:Int)) (w:=wt) (g:=g) (by lia) w0 g2;have gA:=C3 (ns:=tab) ix.1 (by lia);have ng:n=tab.getD i 0:=by rw[Wt,hn];rfl
  refine⟨w0,by lia,r,_,0,_,rfl,rfl,BL.of (e2 _ _ h1),rfl,g,rfl,by lia,.inr ⟨by lia,by lia⟩,tb,_,_,_,rfl,rfl,BL.of (e2 _ _ h2),gA,rfl,?_⟩
  by_cases hd:V.int n=V.int (tab.getD ((i:Int)-(i:Int)/wt%g*wt).toNat 0)
  ·rw[qE (λz=>z hd)];refine⟨⟨_,rfl⟩,e2,λk hk=>?_⟩
   by_cases z:k=i
   ·subst z;rw[<-ng];exact V.int.inj hd
   ·exact hall k (by lia)
  ·rw[qF hd];have z:A5 g tab wt=true:=DU.mpr ⟨i,hi,λy=>hd (by rw[ng,y])⟩;rw[z]at q;exact q _ e2
 ·rintro σ H1 ⟨⟨x3,x4,x5,rfl⟩,e,hall⟩;walk_at "rd";rw[Wq]at hall
  have z:A5 g tab wt=false:=by
   cases z:A5 g tab wt with
   |false=>rfl
   |true =>
    obtain⟨k,hk,h⟩:=DU.mp z;exact qG (hall k hk) h
  rw[z]at q;exact q H1 e
theorem Kq:AK ["one","found","weight","at"] ["one"] (AH Sz):=Ch (by decide +kernel)
theorem U7(T:Ce K mg t)(G_51:Aw P w K mg base 2 t.f_51 ["one"] (DT))(G_49:Aw P w K mg base 1 t.f_49 ["one","weight"] (Gk)):Aw P w K mg base 3 t.f_38 ["one"] (Dk):=by
 refine BJ T.d_38 Kq (λ_ _ _ _ _ _=>b1 λ_=>rfl) λvs H Q E h=>?_;obtain⟨r,g,lo,tab,m,rfl,g2,g9,hR,hl,m1,m8,gm,q⟩:=h;refine⟨rfl,λcdv A outer s hr=>?_⟩
 refine⟨_,(AB (AS 1 Kq (BR AD))
  (AB (AS 2 Kq (Aa AO rfl T.z_len XH (AA (AR AY (pv 0) AF (λ_ _=>rfl)) AD)))
  (AB (Ar PassesOwn.never rfl (Ah rfl T.z_range (AA (Af hr G_51 T.m_51 (AA (pv 0) AD)) AD)) (BG 3 Kq) (AB (AS 2 Kq (AJ Ax (pv 2) (AR AY (pv 0) AF (λ_ _=>rfl))))
  (AE (Ak (BQ (Af hr G_49 T.m_49 (AA (pv 0) (AA (pv 2) AD)))) (AE (A8 (CO XF XU XV BP (pv 1) (AA (AJ BD (AR AY (pv 0) AF (λ_ _=>rfl)) (pv 3)) AD)))) AX))))
  (AE (AQ (pv 1)))))),?_⟩
 obtain⟨tb,h1,h2⟩:=id hR;walk_at "rd";refine⟨XO _,λp hp=>?_⟩;have e0:=AG.new hp (.lst []);refine⟨r,_,2,_,rfl,rfl,BL.of (e0 _ _ h1),rfl,?_⟩;walk_at "rd";refine⟨_,.inr (BL.of (e0 _ _ h2)),?_⟩;rw[Wq];refine⟨_,rfl,r,g,lo,tab,m,rfl,g2,g9,hR.same e0,hl,_,rfl,by lia,by lia,?_⟩;refine BZ (n:=m) (λi σ H1=>∃x3,σ=[some (.ref r),some (.ref p),some (.int (g^(m-i))),x3]/\AG H H1/\H1 p=some (.lst ((((List.range i).filter λj=>A5 g tab (g^(m-1-j))).map λj:Nat=>lo+(j:Int)).map V.int))) ⟨none,by rw[hl,ZL],e0,AC⟩ ?_ ?_
 ·rintro i σ H1 hi ⟨x3,rfl,e,hp1⟩;have dv:g^(m-i)/g=g^(m-1-i):=by rw[show m-i=(m-1-i)+1 by lia,XJ,Int.mul_ediv_cancel _ (by lia)]
  have gp:=RW.Ap g2 (m-1-i);have gb:=Bo g2 (show m-1-i<=m by lia);walk_at "rd";refine⟨r,_,0,_,rfl,rfl,BL.of (e _ _ h1),rfl,?_⟩;walk_at "rd";rw[dv];refine⟨by lia,by lia,r,g,lo,tab,_,rfl,g2,g9,hR.same e,gp,by lia,by lia,λH2 e2=>?_⟩;have e3:=e.trans e2;refine⟨_,rfl,?_⟩;cases hc:A5 g tab (g^(m-1-i)) with
  |true =>
   rw[qF rfl];refine⟨.inl ⟨_,Ab.of (e2 _ _ hp1)⟩,r,_,1,_,rfl,rfl,BL.of (e3 _ _ h1),rfl,lo,rfl,_,e2 _ _ hp1,?_,by rw[show m-(i+1)=m-1-i by lia],e3.into hp,?_⟩
   ·rw[Wq,Wq];have:=List.length_filter_le (λj=>A5 g tab (g^(m-1-j))) (List.range i);rw[W8]at this;exact AW (by lia)
   ·rw[AC,YE,ZC,W3,W3,Xe];simp[List.filter,hc]
  |false =>
   rw[qE (by decide)];refine⟨by rw[show m-(i+1)=m-1-i by lia],e3,?_⟩;rw[e2 _ _ hp1,YE,ZC];simp[List.filter,hc]
 ·rintro σ H1 ⟨x3,rfl,e,hp1⟩;walk_at "rd";exact q p H1 ⟨e,hp,hp1⟩
theorem WT:AK ["word","at"] ["word","at"] (AH WH):=Ch (by decide +kernel)
theorem WU(T:Ce K mg t) :Aw P w K mg base 1 t.f_0 ["word","at"] (Gp K):=by
 refine BJ T.d_0 WT (λ_ _ _ _ _ _=>b2 λ_ _=>rfl) λvs H Q E h=>?_;obtain⟨a,v,z,rfl,hS,q⟩:=h;refine⟨rfl,λcdv A outer s hr=>?_⟩
 refine⟨_,(AB (Ak (PW.pt (CN (AM Ex (pv 1) AF (AN _)) (CF (AM Qv (pv 1) (Aa AO rfl T.z_len XH (AA (pv 0) AD)) (AN _))))) (AE (AQ AF)) AX)
  (AE (AQ (AR A9 (pv 0) (pv 1) (λ_ _=>rfl))))),?_⟩
 have hlm:(v.map V.int).length=v.length:=Wq ..;unfold sn at q;walk_at "rd"
 by_cases h0:z<0
 ·rw[qF (.inl h0)]at q;rw[qF h0];exact q
 rw[qE h0];refine⟨_,.inl hS,?_⟩;rw[hlm]
 by_cases h1:(v.length:Int)<=z
 ·rw[qF (.inr h1)]at q;rw[qF h1];exact q
 rw[qE h1];rw[qE (by lia)]at q;exact⟨a,_,_,_,rfl,rfl,hS,C3 (by lia) (by lia),q⟩
theorem Kr:AK ["one","low","many","ahead","table","number","word"] ["one","low","many"] (AH S0):=Ch (by decide +kernel)
theorem U8(T:Ce K mg t)(G_58:Aw P w K mg base 4 t.f_58 ["signs","low","table"] (Iy t.c_47))(G_9:Aw P w K mg base 1 t.f_9 ["signs","many"] (Iz))(G_46:QG P w K mg base 1 t.f_46 ["number","signs","many"] (LQ t.c_48))(G_32:Aw P w K mg base 5 t.f_32 ["one","word"] (LN K t.c_52))(G_0:Aw P w K mg base 1 t.f_0 ["word","at"] (Gp K))(G_51:Aw P w K mg base 2 t.f_51 ["one"] (DT)):Aw P w K mg base 6 t.f_31 ["one","low","many"] (GC):=by
 refine BJ T.d_31 Kr (λ_ _ _ _ _ _=>b3 λ_ _ _=>rfl) λvs H Q E h=>?_;obtain⟨r,g,lo,tab,m,low,M,rfl,ok,M1,gM,q⟩:=h;refine⟨rfl,λcdv A outer s hr=>?_⟩
 refine⟨_,(AB (AS 3 Kr (AJ Bq (AR AY (pv 0) AF (λ_ _=>rfl)) (pv 1)))
  (AB (AS 4 Kr (BR AD))
  (AB (Ar PassesOwn.never rfl (Ah rfl T.z_range (AA (Af hr G_9 T.m_9 (AA (AR AY (pv 0) AF (λ_ _=>rfl)) (AA (pv 2) AD))) AD)) (BG 5 Kr) (AB (AS 6 Kr (OL G_46 (hr.mono (by decide)) rfl T.m_46 SH (AA (pv 5) (AA (AR AY (pv 0) AF (λ_ _=>rfl)) (AA (pv 2) AD)))))
  (AE (A8 (CO XF XU XV BP (pv 4) (AA (Af hr G_32 T.m_32 (AA (pv 0) (AA (Ef [(6,"word"),(3,"ahead")] [("word",_),("ahead",_)] (Ah rfl T.z_range (AA (Af hr G_51 T.m_51 (AA (pv 0) AD)) AD)) (λ_ _ _ _=>Bw) (λ_ _ _ _=>(Af hr G_0 T.m_0 (AA (pv 1) (AA (AJ BD (pv 2) (pv 0)) AD))))) AD))) AD))))))
  (AE (AQ (Af hr G_58 T.m_58 (AA (AR AY (pv 0) AF (λ_ _=>rfl)) (AA (pv 1) (AA (pv 4) AD))))))))),?_⟩
 obtain⟨tb,h1,h2⟩:=id ok.v;have g2:=ok.g2;have g9:=ok.g9;have m8:=ok.m8;have hl:=ok.len;have gp:=RW.Ap g2 M;have M8:=E8 g2 gM;walk_at "rd";refine⟨r,_,1,_,rfl,rfl,BL.of h1,rfl,lo,rfl,XO _,λp hp=>?_⟩;have e0:=AG.new hp (.lst []);refine⟨_,rfl,r,_,0,_,rfl,rfl,BL.of (e0 _ _ h1),rfl,_,rfl,?_⟩;refine⟨g,_,rfl,g2,g9,by lia,λ_=>?_,λz=>qG z (by rw[XC];lia)⟩;rw[XC];refine⟨_,rfl,by lia,by lia,?_⟩;refine BZ (n:=(g^M).toNat) (λi σ H1=>∃x5 x6,σ=[some (.ref r),some (.int low),some (.int ((M:Nat):Int)),some (.int (lo-low)),some (.ref p),x5,x6]/\AG H H1/\H1 p=some (.lst (((List.range i).map λn:Nat=>tab.getD (Bt g (LS (Cr g (n:Int) M) (lo-low) m)).toNat 0).map V.int))) ⟨none,none,rfl,e0,AC⟩ ?_ ?_
 ·rintro i σ H1 hi ⟨x5,x6,rfl,e,hp1⟩;walk_at "rd";refine⟨r,_,0,_,rfl,rfl,BL.of (e _ _ h1),rfl,_,g,_,rfl,g2,g9,by lia,by lia,λz=>qG z (by rw[XC];lia),λ_ _ pw H2 hN2=>?_⟩;rw[XC,Xe]at hN2;have e2:=e.trans hN2.1;have hp2:=hN2.1 _ _ hp1;refine⟨.inl ⟨_,Ab.of hp2⟩,?_⟩;refine⟨_,rfl,r,g,lo,tab,m,rfl,g2,g9,ok.v.same e2,hl,_,rfl,by lia,by lia,λD hD=>?_⟩;rw[XC];have hw2:H2 pw=some (.lst ((Cr g (i:Int) M).map V.int)):=hN2.2.2;refine A4 (n:=m) (λj acc Hx=>acc=((List.range j).map λk:Nat=>sn (Cr g (i:Int) M) (lo-low+(k:Int))).map V.int/\Hx=Ae H2 D (.lst acc)) ⟨rfl,rfl⟩ ?_ ?_
  ·rintro j acc Hx hj ⟨rfl,rfl⟩;walk_at "rd";rw[Xe];refine⟨pw,_,_,rfl,Ab.of (AG.new hD _ _ _ hw2),AC,?_,?_,by rw[F5]⟩
   ·rw[Wq,Wq,W8];exact AW (by lia)
   ·rw[Am,W3];rfl
  ·rintro acc Hx ⟨rfl,rfl⟩;have en:=AG.new hD (.lst ((LS (Cr g (i:Int) M) (lo-low) m).map V.int));have bb:=LU g2 (Gj g2 (i:Int) M) (lo-low) m;have bl:=J1 bb;rw[E7]at bl;refine⟨r,D,g,lo,tab,m,(LS (Cr g (i:Int) M) (lo-low) m).map V.int,rfl,g2,g9,(ok.v.same e2).same en,hl,Ab.of AC,Io,?_⟩;rw[bl];intro ms hms H4 e4;have:=Gf hms;subst this;have e24:=en.trans e4;refine⟨_,e24 _ _ hp2,?_,(e2.trans e24).into hp,?_⟩
   ·rw[Wq,Wq,W8];exact AW (by lia)
   ·rw[AC,Am,W3];rfl
 ·rintro σ H1 ⟨x5,x6,rfl,e,hp1⟩;walk_at "rd";refine⟨r,_,0,_,rfl,rfl,BL.of (e _ _ h1),rfl,?_⟩;exact NO (tab:=EZ g lo tab m low M) g2 g9 M1 (BI g2 _ _ _ _ _) gM (OV g2 _ ok.tb _ _ _) (.inl hp1) λr' H' e' hR=>q r' H' (e.trans e') (ok.bw M1 gM hR)
theorem RN:AK ["one","found"] ["one"] (AH S5):=Ch (by decide +kernel)
theorem U9(T:Ce K mg t)(G_38:Aw P w K mg base 3 t.f_38 ["one"] (Dk))(G_31:Aw P w K mg base 6 t.f_31 ["one","low","many"] (GC)):Aw P w K mg base 7 t.f_50 ["one"] (Gq):=by
 refine BJ T.d_50 RN (λ_ _ _ _ _ _=>b1 λ_=>rfl) λvs H Q E h=>?_;obtain⟨r,g,lo,tab,m,rfl,ok,q⟩:=h;refine⟨rfl,λcdv A outer s hr=>?_⟩
 refine⟨_,(AB (AS 1 RN (Af hr G_38 T.m_38 (AA (pv 0) AD)))
  (AB (Ak (AM Bb (Aa AO rfl T.z_len XH (AA (pv 1) AD)) AF (AN _)) (AE (AQ (Af hr G_31 T.m_31 (AA (pv 0) (BO (BO AD)))))) AX)
  (AE (AQ (Af hr G_31 T.m_31 (AA (pv 0) (AA (AR A9 (pv 1) AF (λ_ _=>rfl)) (AA (AJ BD (AJ Bq (AR A9 (pv 1) (Jd GX AF) (λ_ _=>rfl)) (AR A9 (pv 1) AF (λ_ _=>rfl))) AF) AD)))))))),?_⟩
 have g2:=ok.g2;have g9:=ok.g9;have m1:=ok.m1;have m8:=ok.m8;have sz:=ok.sz;walk_at "rd";refine⟨r,g,lo,tab,m,rfl,g2,g9,ok.v,ok.len,m1,m8,sz,λp H1 hN1=>?_⟩;have hcl:((Bg g lo tab m).map V.int).length=(Bg g lo tab m).length:=Wq ..;walk_at "rd";refine⟨_,.inl (Ab.of hN1.2.2),?_⟩;rw[hcl]
 by_cases hc:Bg g lo tab m=[]
 ·rw[qF (by rw[hc];rfl)];have g1:g^1=g:=by rw[XJ,Xh,YC]
  exact⟨r,g,lo,tab,m,0,1,rfl,ok.same hN1.1,Wv _,by lia,λr' H' e' ok'=>q 0 1 (KB hc) r' H' (hN1.1.trans e') ok'⟩
 ·obtain⟨M,hM,hMm,hW⟩:=IL hc;have hp0:0<(Bg g lo tab m).length:=Y2.mpr hc;rw[qE (by lia)];have gM:=Bo g2 hMm;refine⟨p,_,0,_,rfl,rfl,Ab.of hN1.2.2,C3 (by decide) (by show 0<_;lia),p,_,_,_,rfl,rfl,Ab.of hN1.2.2,NP hp0,p,_,0,_,rfl,rfl,Ab.of hN1.2.2,C3 (by decide) (by show 0<_;lia),_,rfl,_,rfl,?_⟩;refine⟨r,g,lo,tab,m,(Bg g lo tab m).getD 0 0,M,?_,ok.same hN1.1,hW.one,by lia,λr' H' e' ok'=>q _ M hW r' H' (hN1.1.trans e') ok'⟩;rw[hM];rfl
theorem RO:AK ["one","low","high","place"] ["one","low","high"] (AH S6):=Ch (by decide +kernel)
theorem VA(T:Ce K mg t)(G_38:Aw P w K mg base 3 t.f_38 ["one"] (Dk))(G_31:Aw P w K mg base 6 t.f_31 ["one","low","many"] (GC))(G_9:Aw P w K mg base 1 t.f_9 ["signs","many"] (Iz)):Aw P w K mg base 7 t.f_45 ["one","low","high"] (FX t.c_35 t.c_40):=by
 refine DI T.d_45 RO (λ_ _ _ _ _ _=>b3 λ_ _ _=>rfl) λvs H Q E h=>?_;obtain⟨r,g,lo,tab,m,low,high,rfl,ok,hout,hwide,hok⟩:=h;refine⟨rfl,λcdv A outer s hr=>?_⟩
 refine⟨_,(AB (Ak (AM Dt (pv 1) (pv 2) (AN _)) (AE (Bv rfl T.x_35 rfl T.m_35 BN (AA C0 AD))) AX)
  (AB (Ar PassesOwn.leaving rfl (BK (Af hr G_38 T.m_38 (AA (pv 0) AD))) (BG 3 RO) (AE (Ak (PW.pt (CN (AM Ex (pv 3) (pv 1) (AN _)) (CF (AM Dt (pv 3) (pv 2) (AN _))))) (AE (Bv rfl T.x_35 rfl T.m_35 BN (AA C0 AD))) AX)))
  (AB (Ak (AM Dt (Af hr G_9 T.m_9 (AA (AR AY (pv 0) AF (λ_ _=>rfl)) (AA (AJ BD (AJ Bq (pv 2) (pv 1)) AF) AD))) (EL rfl T.g_LONGEST_TABLE) (AN _)) (AE (Bv rfl T.x_40 rfl T.m_40 BN (AA C0 AD))) AX)
  (AE (AQ (Af hr G_31 T.m_31 (AA (pv 0) (AA (pv 1) (AA (AJ BD (AJ Bq (pv 2) (pv 1)) AF) AD))))))))),?_⟩
 obtain⟨tb,h1,h2⟩:=id ok.v;have g2:=ok.g2;have g9:=ok.g9;have m1:=ok.m1;have m8:=ok.m8;walk_at "rd"
 by_cases hlh:high<low
 ·rw[qF hlh];exact⟨by decide,hout (.inl hlh) _ (AG.refl _)⟩
 rw[qE hlh];refine⟨_,rfl,r,g,lo,tab,m,rfl,g2,g9,ok.v,ok.len,m1,m8,ok.sz,λp H1 hN1=>?_⟩;refine⟨p,rfl,⟨_,Ab.of hN1.2.2⟩,?_⟩;refine BM (xs:=(Bg g lo tab m).map V.int) (λi σ H2=>(∃x3,σ=[some (.ref r),some (.int low),some (.int high),x3])/\H2=H1/\∀z∈(Bg g lo tab m).take i,low<=z/\z<=high) ⟨⟨none,rfl⟩,rfl,λz hz=>qG hz (by simp)⟩ (λi σ H2 _ z=>by rw[z.2.1];exact Ab.of hN1.2.2) ?_ ?_
 ·rintro i x σ H2 hx ⟨⟨x3,rfl⟩,rfl,hall⟩;obtain⟨n,hn,rfl⟩:=CA hx;have nm:=Wy hn;walk_at "rd"
  by_cases c1:n<low
  ·rw[qF c1];exact⟨by decide,hout (.inr ⟨n,nm,.inl c1⟩) _ hN1.1⟩
  rw[qE c1]
  by_cases c2:high<n
  ·rw[qF c2];exact⟨by decide,hout (.inr ⟨n,nm,.inr c2⟩) _ hN1.1⟩
  rw[qE c2];refine⟨⟨_,rfl⟩,λz hz=>?_⟩;rw[List.take_succ,hn]at hz;rcases Ww.mp hz with y|y
  ·exact hall z y
  ·have:z=n:=by simpa using y
   lia
 ·rintro σ H2 ⟨⟨x3,rfl⟩,rfl,hall⟩;rw[Wq,XZ]at hall
  have nout:¬QM g lo tab m low high:=by
   rintro (z|⟨z,hz,y⟩)
   ·exact hlh z
   ·have:=hall z hz;lia
  walk_at "rd";refine⟨r,_,0,_,rfl,rfl,BL.of (hN1.1 _ _ h1),rfl,g,_,rfl,g2,g9,by lia,λhle=>?_,λhgt rr hrr=>?_⟩
  ·refine⟨_,rfl,?_⟩;rw[qE (by lia)];exact⟨r,g,lo,tab,m,low,(high-low+1).toNat,by rw[show (((high-low+1).toNat:Nat):Int)=high-low+1 by lia],ok.same hN1.1,by lia,hle,λr' H' e' ok'=>hok nout hle r' H' (hN1.1.trans e') ok'⟩
  ·refine⟨_,rfl,?_⟩;rw[qF hrr];exact⟨by decide,hwide nout hgt _ hN1.1⟩
theorem RP:AK ["one","least"] ["one"] (AH S7):=Ch (by decide +kernel)
theorem VB(T:Ce K mg t)(G_50:Aw P w K mg base 7 t.f_50 ["one"] (Gq))(G_51:Aw P w K mg base 2 t.f_51 ["one"] (DT))(G_45:Aw P w K mg base 7 t.f_45 ["one","low","high"] (FX t.c_35 t.c_40))(G_54:Aw P w K mg base 1 t.f_54 ["one"] (EQ)):Aw P w K mg base 8 t.f_53 ["one"] (GI t.c_40):=by
 refine DI T.d_53 RP (λ_ _ _ _ _ _=>b1 λ_=>rfl) λvs H Q E h=>?_;obtain⟨r,g,lo,tab,m,lf,tf,mf,rfl,ok,fw,hok,hex⟩:=h;refine⟨rfl,λcdv A outer s hr=>?_⟩
 refine⟨_,(AB (AS 1 RP (Af hr G_50 T.m_50 (AA (pv 0) AD)))
  (AB (Ak (AM Bb (Af hr G_51 T.m_51 (AA (pv 1) AD)) AF (AN _)) (AE (AQ (BF G_45 (hr.mono (by decide)) rfl T.m_45 Au (AA (pv 1) (AA (AR AY (pv 1) AF (λ_ _=>rfl)) (AA (AJ BD (AR AY (pv 1) AF (λ_ _=>rfl)) AF) AD)))))) AX)
  (AB (Ak (AM Dt (Af hr G_54 T.m_54 (AA (pv 1) AD)) (EL rfl T.g_MOST_NODES) (AN _)) (AE (Bv rfl T.x_40 rfl T.m_40 BN (AA C0 AD))) AX)
  (AE (AQ (pv 1)))))),?_⟩
 have g2:=ok.g2;have g9:=ok.g9;refine Av λN hN=>?_;walk_at "rd";refine⟨r,g,lo,tab,m,rfl,ok,λlow M hW r1 H1 e1 ok1=>hN _ _ ?_⟩;clear hN N;walk_at "rd";refine⟨r1,g,low,_,M,rfl,g2,g9,ok1.v,ok1.len,rfl,?_⟩;obtain⟨low',M',hW',elf,hc⟩:=id fw;obtain⟨rfl,rfl⟩:=KL g2 ok.len hW hW';subst elf;obtain⟨tb,h1,h2⟩:=id ok1.v;rcases hc with⟨rfl,rfl,rfl⟩|⟨hM,rfl,rfl⟩
 ·rw[qF (show V.int ((1:Nat):Int)=V.int 1 from rfl)];have g1:g^(2-1)=g:=by show g^(0+1)=g;rw[XJ,Xh,YC]
  have e2:(lf+1-lf+1).toNat=2:=by lia
  refine⟨r1,_,1,_,rfl,rfl,BL.of h1,rfl,r1,_,1,_,rfl,rfl,BL.of h1,rfl,lf,rfl,?_⟩;refine⟨r1,g,lf,_,1,lf,lf+1,rfl,ok1,λho=>?_,λ_ hw=>?_,λ_ _ r2 H2 f2 ok2=>?_⟩
  ·exfalso;rcases ho with z|⟨z,hz,y⟩
   ·lia
   ·unfold Bg at hz;obtain⟨j,hj,rfl⟩:=XT.mp hz;have:=Xv.mp (YX.mp hj).1;lia
  ·exfalso;rw[e2]at hw;have:g^2<=9*9:=by rw[show (2:Nat)=(2-1)+1 from rfl,XJ,g1];exact Yz g9 g9 (by lia) (by lia)
   lia
  ·rw[e2]at ok2;exact hok (by lia) r2 H2 (e1.trans f2) ok2
 ·rw[qE (λz=>by have:=V.int.inj z;lia)];refine⟨r1,g,lf,_,mf,rfl,ok1,_,rfl,?_⟩;rw[(C4 g2 ok1.len ok1.m1).1]
  by_cases h9:9<g^(mf-1)
  ·rw[qF h9];exact⟨by decide,hex h9 _ e1⟩
  ·rw[qE h9];exact hok (by lia) r1 H1 e1 ok1
theorem VC:AK ["one"] ["one"] (AH S8):=Ch (by decide +kernel)
theorem VD(T:Ce K mg t)(G_54:Aw P w K mg base 1 t.f_54 ["one"] (EQ))(G_53:Aw P w K mg base 8 t.f_53 ["one"] (GI t.c_40)):Aw P w K mg base 9 t.f_55 ["one"] (JF t.c_40):=by refine DI T.d_55 VC (λ_ _ _ _ _ _=>b1 λ_=>rfl) λvs H Q E h=>?_;obtain⟨r,g,lo,tab,m,lf,tf,mf,rfl,ok,fw,hok,hex⟩:=h;refine⟨rfl,λcdv A outer s hr=>?_⟩;refine⟨_,(AE (AQ (Af hr G_54 T.m_54 (AA (BF G_53 (hr.mono (by decide)) rfl T.m_53 Au (AA (pv 0) AD)) AD)))),?_⟩;walk_at "rd";refine⟨r,g,lo,tab,m,lf,tf,mf,rfl,ok,fw,λh9 r1 H1 e1 ok1=>⟨r1,g,lf,tf,mf,rfl,ok1,?_⟩,hex⟩;rw[(C4 ok1.g2 ok1.len ok1.m1).1];exact hok h9 _ e1
theorem VE:AK ["one"] ["one"] (AH S9):=Ch (by decide +kernel)
theorem VF(T:Ce K mg t)(G_55:Aw P w K mg base 9 t.f_55 ["one"] (JF t.c_40)):Aw P w K mg base 10 t.f_23 ["one"] (GJ t.c_40):=by refine DI T.d_23 VE (λ_ _ _ _ _ _=>b1 λ_=>rfl) λvs H Q E h=>?_;obtain⟨r,g,lo,tab,m,lf,tf,mf,rfl,ok,fw,hok,hex⟩:=h;refine⟨rfl,λcdv A outer s hr=>?_⟩;refine⟨_,(AE (AQ (AJ Bq (AJ Nw AF (BF G_55 (hr.mono (by decide)) rfl T.m_55 Au (AA (pv 0) AD))) AF))),?_⟩;walk_at "rd";refine⟨r,g,lo,tab,m,lf,tf,mf,rfl,ok,fw,λh9 H1 e1=>⟨_,rfl,XQ (RW.Ap ok.g2 _),by lia,by decide,?_⟩,hex⟩;rw[YC];exact hok h9 _ e1
theorem Mk:AK ["framed","fitting","some","number"] ["framed","fitting"] (AH TB):=Ch (by decide +kernel)
theorem VG(T:Ce K mg t)(G_54:Aw P w K mg base 1 t.f_54 ["one"] (EQ)):Aw P w K mg base 2 t.f_41 ["framed","fitting"] (Le):=by
 refine BJ T.d_41 Mk (λ_ _ _ _ _ _=>b2 λ_ _=>rfl) λvs H Q E h=>?_;obtain⟨r,f,g,lo,tab,m,ks,rfl,ok,hf,q⟩:=h;refine⟨rfl,λcdv A outer s hr=>?_⟩
 refine⟨_,(AB (AS 2 Mk AF)
  (AB (Ar PassesOwn.never rfl (BK (pv 1)) (BG 3 Mk) (AE (AS 2 Mk (AJ Qu (pv 2) (AJ Nw AF (AJ As (pv 3) (Af hr G_54 T.m_54 (AA (pv 0) AD))))))))
  (AE (AQ (pv 2))))),?_⟩
 have g2:=ok.g2;have hd:=C4 g2 ok.len ok.m1
 have h1:1<=tab.length/g.toNat:=by have:=RW.Ap g2 (m-1);lia
 obtain⟨h,hh⟩:∃h,h=tab.length/g.toNat:=⟨_,rfl⟩;rw[<-hh]at h1 q;refine Av λN hN=>?_;walk_at "rd";refine hN _ _ ?_;clear hN N;refine Ct (λσ HX=>(∃x3,σ=[some (.ref r),some (.ref f),some (.int (Bh h (Er h ks))),x3])/\HX=H) (λN hN=>?_) ?_
 ·refine⟨_,rfl,f,rfl,⟨_,Ab.of hf⟩,?_⟩;refine BM (xs:=(Hs ks).map V.int) (λi σ HX=>(∃x3,σ=[some (.ref r),some (.ref f),some (.int (Bh h (Er h (ks.take i)))),x3])/\HX=H) ⟨⟨none,by rw[List.take_zero,show Er h []=λ_=>false from rfl,Fb]⟩,rfl⟩ (λi σ HX _ z=>by rw[z.2];exact Ab.of hf) ?_ ?_
  ·rintro i x σ HX hx ⟨⟨x3,rfl⟩,rfl⟩;obtain⟨v,hv,rfl⟩:=CA hx
   obtain⟨n,hn,rfl⟩:∃n:Nat,ks[i]?=some n/\v=(n:Int):=by
    unfold Hs at hv;rw[W0]at hv;cases z:ks[i]? with
    |none=>rw[z]at hv;cases hv
    |some n=>rw[z]at hv;exact⟨n,rfl,(Option.some.inj hv).symm⟩
   walk_at "rd";have md:(n:Int)%((h:Nat):Int)=((n%h:Nat):Int):=(Ye ..).symm;have lt:=Zb n h1;have hle:tab.length/g.toNat<=tab.length:=ZX ..;have sz:=ok.sz;have tl:=ok.len;refine⟨r,g,lo,tab,m,rfl,ok,_,rfl,?_⟩;rw[<-hh,md,XC,YC];refine⟨by lia,by lia,by lia,by decide,?_,⟨_,rfl⟩,rfl⟩;rw[Oo h1,List.take_succ,hn];rfl
  ·rintro σ HX ⟨⟨x3,rfl⟩,rfl⟩;have lf:((Hs ks).map V.int).length=ks.length:=by unfold Hs;rw[List.length_map,List.length_map]
   rw[lf,XZ];exact hN _ _ ⟨⟨_,rfl⟩,rfl⟩
 rintro σ HX ⟨⟨x3,rfl⟩,rfl⟩;walk_at "rd";exact q
theorem Ti:AK ["framed","singles","node"] ["framed"] (AH WI):=Ch (by decide +kernel)
theorem WV(T:Ce K mg t)(G_54:Aw P w K mg base 1 t.f_54 ["one"] (EQ))(G_41:Aw P w K mg base 2 t.f_41 ["framed","fitting"] (Le))(G_34:Aw P w K mg base 1 t.f_34 ["one","head","sign"] (LY)):Aw P w K mg base 3 t.f_8 ["framed"] (Fc):=by
 refine BJ T.d_8 Ti (λ_ _ _ _ _ _=>b1 λ_=>rfl) λvs H Q E h=>?_;obtain⟨r,g,lo,tab,m,rfl,ok,h9,q⟩:=h;refine⟨rfl,λcdv A outer s hr=>?_⟩
 refine⟨_,(AB (AS 1 Ti (BR AD))
  (AB (Ar PassesOwn.never rfl (Ah rfl T.z_range (AA (Af hr G_54 T.m_54 (AA (pv 0) AD)) AD)) (BG 2 Ti) (AE (A8 (CO XF XU XV BP (pv 1) (AA (Ef [(2,"node"),(0,"framed")] [("node",_),("framed",_)] (Ah rfl T.z_range (AA (AR AY (pv 0) AF (λ_ _=>rfl)) AD)) (λ_ _ _ _=>Bw) (λ_ _ _ _=>(Af hr G_41 T.m_41 (AA (pv 2) (AA (Af hr G_34 T.m_34 (AA (pv 2) (AA (pv 1) (AA (pv 0) AD)))) AD))))) AD)))))
  (AE (AQ (pv 1))))),?_⟩
 obtain⟨tb,h1,h2⟩:=id ok.v;have g2:=ok.g2;have g9:=ok.g9;have hd:=C4 g2 ok.len ok.m1;obtain⟨h,hh⟩:∃h,h=tab.length/g.toNat:=⟨_,rfl⟩;rw[<-hh]at h9 q;refine Av λN hN=>?_;walk_at "rd";refine⟨XO _,λp hp=>hN _ _ ?_⟩;clear hN N;refine Ct (λσ HX=>(∃x2,σ=[some (.ref r),some (.ref p),x2])/\AG H HX/\∃ps,Pi HX p ps (Dy g.toNat tab h h)/\p∉ps) (λN hN=>?_) ?_
 ·refine⟨_,rfl,r,g,lo,tab,m,rfl,ok.same (AG.new hp _),_,rfl,by lia,by lia,?_⟩;rw[<-hh,XC];refine BZ (n:=h) (λi σ HX=>(∃x2,σ=[some (.ref r),some (.ref p),x2])/\AG H HX/\∃ps,Pi HX p ps (Dy g.toNat tab h i)/\p∉ps) ⟨⟨none,rfl⟩,AG.new hp _,[],⟨AC,rfl,λi q w hq=>qG hq (by simp)⟩,by simp⟩ ?_ λσ HX z=>hN _ _ z
  rintro i σ HX hi ⟨⟨x2,rfl⟩,eX,ps,hs,np⟩;walk_at "rd";have npH:H p=none:=hp;refine⟨.inl ⟨_,Ab.of hs.l⟩,?_⟩;refine⟨_,rfl,r,_,0,_,rfl,rfl,BL.of (eX _ _ h1),rfl,_,rfl,by lia,by lia,λD hD=>?_⟩;refine A4 (n:=g.toNat) (λs acc Hx=>acc=((List.range s).map λs:Nat=>Bh h (Er h (Fp g.toNat tab i (s:Int)))).map V.int/\AG HX Hx/\Hx D=some (.lst acc)) ⟨rfl,AG.new hD _,AC⟩ ?_ ?_
  ·rintro s acc Hx hs' ⟨rfl,ex,hDx⟩;walk_at "rd";simp only[Int.zero_add];refine⟨r,g,lo,tab,m,i,_,rfl,ok.same (eX.trans ex),by lia,λp2 H2 n2=>?_⟩;refine⟨r,p2,g,lo,tab,m,_,rfl,ok.same ((eX.trans ex).trans n2.1),n2.2.2,?_⟩;rw[<-hh];refine⟨n2.1 _ _ hDx,?_,?_,(ex.trans n2.1).into hD,AC⟩
   ·rw[Wq,Wq,W8];exact AW (by lia)
   ·rw[Am,W3];rfl
  rintro acc H5 ⟨rfl,e5,h5⟩
  have Dp:D≠p:=λz=>by rw[z,hs.l]at hD;cases hD
  have sl:(Dy g.toNat tab h i).length=i:=by unfold Dy;rw[List.length_map,List.length_range]
  have ss:Dy g.toNat tab h (i+1)=Dy g.toNat tab h i++[G0 g.toNat tab h i]:=by unfold Dy;rw[List.range_succ,List.map_append];rfl
  have pl:ps.length=i:=by rw[hs.n,sl]
  refine⟨_,e5 _ _ hs.l,?_,⟨_,rfl⟩,(eX.trans e5).into npH,ps++[D],⟨?_,?_,λk q' w hq hw=>?_⟩,?_⟩
  ·rw[Wq];exact AW (by lia)
  ·rw[AC,W3];rfl
  ·rw[ss,W1,W1,hs.n];rfl
  ·have qp:q'≠p:=λz=>by
    have:=Wy hq;rw[z]at this;rcases Ww.mp this with y|y
    ·exact np y
    ·exact Dp (Wr.mp y).symm
   rw[AI qp];rw[ss]at hw
   by_cases kl:k<i
   ·rw[XX (by lia)]at hq hw;exact e5 _ _ (hs.e k q' w hq hw)
   ·rw[XB (by lia)]at hq hw;have k0:k-i=0:=by rw[pl]at hq;have:=(Ws.mp hq).1;rw[XM]at this;lia
    rw[pl,k0]at hq;rw[sl,k0]at hw;cases hq;cases hw;exact h5
  ·intro z;rcases Ww.mp z with y|y
   ·exact np y
   ·exact Dp (Wr.mp y).symm
 rintro σ HX ⟨⟨x2,rfl⟩,eX,ps,hs,np⟩;walk_at "rd";exact q p ps _ eX hs
theorem Ks:AK ["singles","some","sign","come","node","steps"] ["singles","some","sign"] (AH TC):=Ch (by decide +kernel)
theorem VH(T:Ce K mg t) :Aw P w K mg base 1 t.f_44 ["singles","some","sign"] (G2):=by
 refine BJ T.d_44 Ks (λ_ _ _ _ _ _=>b3 λ_ _ _=>rfl) λvs H Q E h=>?_;obtain⟨p,ps,G,tab,h,x,s',rfl,hs,x0,sG,q⟩:=h;refine⟨rfl,λcdv A outer s hr=>?_⟩
 refine⟨_,(AB (AS 3 Ks AF)
  (AB (Ar PassesOwn.never rfl (MG rfl T.z_enumerate (AA (pv 0) AD)) (IY rfl (Cj (BG 4 Ks) (Cj (BG 5 Ks) F6))) (AE (Ak (AM Bb (AJ Ri (AJ Rh (pv 1) (pv 4)) AF) AF (AN _)) (AE (AS 3 Ks (AJ Qu (pv 3) (AR A9 (pv 5) (pv 2) (λ_ _=>rfl))))) AX)))
  (AE (AQ (pv 3))))),?_⟩
 refine Av λN hN=>?_;walk_at "rd";refine hN _ _ ?_;clear hN N;have sn:(Dy G tab h h).length=h:=by unfold Dy;rw[List.length_map,List.length_range]
 refine Ct (λσ HX=>(∃x4 x5,σ=[some (.ref p),some (.int x),some (.int ((s':Nat):Int)),some (.int (Gz G tab h x (s':Int))),x4,x5])/\AG H HX) (λN hN=>?_) ?_
 ·refine⟨_,rfl,p,_,rfl,Ab.of hs.l,?_⟩;refine Jn (xs:=ps.map V.ref) (λi σ HX=>(∃x4 x5,σ=[some (.ref p),some (.int x),some (.int ((s':Nat):Int)),some (.int (Bh h (Dx G tab h x (s':Int) i))),x4,x5])/\AG H HX) ⟨⟨none,none,by rw[show Dx G tab h x (s':Int) 0=λ_=>false from rfl,Fb]⟩,AG.refl _⟩ (λi σ HX _ z=>Ab.of (z.2 _ _ hs.l)) ?_ ?_
  ·rintro i y p2 σ HX hy ⟨⟨x4,x5,rfl⟩,eX⟩ hp2
   obtain⟨pk,hpk,rfl⟩:∃pk,ps[i]?=some pk/\y=.ref pk:=by
    rw[W0]at hy;cases z:ps[i]? with
    |none=>rw[z]at hy;cases hy
    |some pk=>rw[z]at hy;exact⟨pk,rfl,(Option.some.inj hy).symm⟩
   have e2:=eX.trans (AG.new hp2 (.tup [.int ((i:Nat):Int),.ref pk]));have il:i<h:=by rw[<-sn,<-hs.n];exact (Ws.mp hpk).1
   have hw:=e2 _ _ (hs.e i pk (G0 G tab h i) hpk (by unfold Dy;rw[List.getElem?_map,List.getElem?_range il];rfl));refine⟨p2,_,rfl,BL.of AC,rfl,_,_,rfl,_,_,rfl,rfl,?_⟩;generalize Ae HX p2 (.tup [.int ((i:Nat):Int),.ref pk])=HT at e2 hw⊢;walk_at "rd";refine⟨by lia,?_⟩;rw[XC,QX (YN x0 (XQ (Int.pow_pos (by decide))))]
   by_cases z:x/2^i%2=1
   ·rw[qF z];have gl:s'<(G0 G tab h i).length:=by unfold G0;rw[List.length_map,List.length_range];exact sG
    refine⟨pk,_,_,_,rfl,rfl,Ab.of hw,CG gl,_,rfl,?_,⟨_,rfl⟩,e2⟩;rw[show (G0 G tab h i).getD s' 0=Bh h (Er h (Fp G tab i (s':Int))) by unfold G0;rw[AT sG]];exact QY z
   ·rw[qE z];exact⟨Op z,⟨_,rfl⟩,e2⟩
  ·rintro σ HX ⟨⟨x4,x5,rfl⟩,eX⟩;rw[Wq,hs.n,sn];exact hN _ _ ⟨⟨_,_,rfl⟩,eX⟩
 rintro σ HX ⟨⟨x4,x5,rfl⟩,eX⟩;walk_at "rd";exact q _ eX
theorem Ml:AK ["starts","nexts_of","nexts","waiting","here"] ["starts","nexts_of"] (AH TD):=Ch (by decide +kernel)
theorem VI(T:Ce K mg t) :Aw P w K mg base 3 t.f_43 ["starts","nexts_of"] (Ff P w K mg base 2):=by
 refine BJ T.d_43 Ml (λ_ _ _ _ _ _=>b2 λ_ _=>rfl) λvs H Q E h=>?_;obtain⟨a,f,S,N,F,rfl,hS,sl,n5,lS,lF,⟨fd,ps,sp,oc,od,fd',sl',fok,fb,hf,hsp⟩,q⟩:=h;refine⟨rfl,λcdv A outer s hr=>?_⟩
 refine⟨_,(AB (AS 2 Ml EE)
  (AB (AS 3 Ml (CQ De rfl T.z_list Yf (AA (pv 0) AD)))
  (AB (B7 PassesOwn.never (AM Dt (Aa AO rfl T.z_len XH (AA (pv 3) AD)) AF (AN _)) (AB (AS 4 Ml (N4 XF PySem.F.slot_list_pop PySem.F.type_list_pop Ro (pv 3)))
  (AE (Ak (GR (DV (Br hr) (pv 4) (pv 2))) (AB (FF (Br hr) (pv 2) (pv 4) (O1 (k:=2) 1 (hr.mono (by decide)) (AA (pv 4) AD)) rfl)
  (AE (A8 (CO XF PySem.F.slot_list_extend PySem.F.type_list_extend IE (pv 3) (AA (CI (Br hr) (pv 2) (pv 4) (λ_ _=>rfl)) AD))))) AX))))
  (AE (AQ (pv 2)))))),?_⟩
 refine Av λN1 hN=>?_;intro d hd;refine hN _ _ ?_;clear hN N1;have e0:=AG.new hd (.dK []);refine Av λN1 hN=>?_;walk_at "rd";refine⟨_,.inl (e0.seq hS),λp hp=>hN _ _ ?_⟩;clear hN N1;have pd:d≠p:=λz=>by rw[<-z,AC]at hp;cases hp
 have dw:F2 S F=F2 S F:=rfl;have low:∀{A W:List Int},Fe S F A W->(∀a∈A,0<=a/\a<(N:Int))/\(∀a∈W,0<=a/\a<(N:Int)):=λr=>⟨λa ha=>(r.co a (.inl ha)).low lS λx h0 h1=>(lF x h0 h1).2,λa ha=>(r.co a (.inr ha)).low lS λx h0 h1=>(lF x h0 h1).2⟩
 refine Ct (λσ HX=>∃x4,σ=[some (.ref a),some (.ref f),some (.ref d),some (.ref p),x4]/\∃A,WC H HX d p S F A []) (λN1 hN=>?_) ?_
 ·refine⟨λm σ HX=>(∃x4,σ=[some (.ref a),some (.ref f),some (.ref d),some (.ref p),x4])/\∃A W,WC H HX d p S F A W/\m=(512-A.length)*10+W.length/\m<=5220,⟨_,⟨none,rfl⟩,[],S,⟨[],(e0.trans (AG.new hp _)),λl hl=>qG hl W6,?_,EF.nil,AC,W6,Fe.start⟩,rfl,by rw[Ym];lia⟩,?_⟩
  ·rw[AI pd];exact AC
  rintro m σ HX ⟨⟨x4,rfl⟩,A,W,⟨ls,eX,ln,hdX,gX,hpX,np,rc⟩,rfl,m5⟩;obtain⟨lA,lW⟩:=low rc;have cA:=DY rc.nd lA;refine⟨_,rfl,p,_,rfl,.inl (Ab.of hpX),_,_,rfl,rfl,_,rfl,?_⟩;rw[Wq]
  by_cases z:W=[]
  ·subst z;rw[qE (by decide)];exact hN _ _ ⟨_,rfl,A,ls,eX,ln,hdX,gX,hpX,np,rc⟩
  obtain⟨W',x,rfl⟩:=Li z;rw[qF (by rw[W1,XM];exact qH (by lia))];refine⟨λσ' H'=>∃m',m'<(512-A.length)*10+(W'++[x]).length/\((∃x4,σ'=[some (.ref a),some (.ref f),some (.ref d),some (.ref p),x4])/\∃A W,WC H H' d p S F A W/\m'=(512-A.length)*10+W.length/\m'<=5220),λ_ _ h=>h,?_⟩;obtain⟨x0,x1⟩:=lW x (Ww.mpr (.inr (Wr.mpr rfl)));obtain⟨fx9,fxl⟩:=lF x x0 x1;refine Av λN2 hN2=>?_;refine⟨_,rfl,.inl ⟨rfl,_,Ab.of hpX⟩,p,_,.int x,rfl,rfl,hpX,?_,?_⟩
  ·rw[Wq,W1,XM,Y9,W0,XB (Wv _),Xx];rfl
  rw[show ((W'++[x]).map V.int).dropLast=W'.map V.int by rw[W3,Xt,Y5,List.dropLast_concat]];refine hN2 _ _ ?_;clear hN2 N2;have pn:H p=none:=e0.free hp;have dX2:Ae HX p (.lst (W'.map V.int)) d=some (.dK (Ai A (ls.map V.ref))):=by rw[AI pd];exact hdX
  have eX2:AG H (Ae HX p (.lst (W'.map V.int))):=eX.into pn;have gX2:=gX.keep np (.lst (W'.map V.int));have pX2:Ae HX p (.lst (W'.map V.int)) p=some (.lst (W'.map V.int)):=AC;generalize Ae HX p (.lst (W'.map V.int))=HY at dX2 eX2 gX2 pX2⊢;clear hdX eX gX hpX HX hp;have rl:(ls.map V.ref).length=A.length:=by rw[Wq];exact gX2.n
  refine⟨_,rfl,_,rfl,d,_,rfl,Cy.k (k:=Sum.inl x) dX2,_,rfl,?_⟩;rw[C7 rl rc.nd]
  by_cases m:x∈A
  ·rw[qH m];rw[W1,XM]at m5⊢;exact My ⟨_,by lia,⟨_,rfl⟩,A,W',⟨ls,eX2,ln,dX2,gX2,pX2,np,rc.old m⟩,rfl,by lia⟩
  rw[qI m];refine Py ?_;refine Av λN2 hN2=>?_;refine⟨f,fd,ps,sp,oc,od,fd',sl',rfl,fok,fb,eX2 _ _ hf,_,rfl,eX2 _ _ hf,hsp x x0 x1 HY _ eX2 λl HZ eZ hl hlZ=>?_⟩
  have cA2:A.length<512:=by have nd2:=rc.next m;have:=DY nd2.nd (low nd2).1;rw[W1,XM]at this;lia
  refine⟨_,rfl,_,rfl,d,_,rfl,JE.k (k:=Sum.inl x) (eZ _ _ dX2) (by rw[CB rl];exact AW (by lia)),hN2 _ _ ?_⟩;clear hN2 N2;rw[DX rl m];have nl:=gX2.new hl;have ld:l≠d:=λz=>by rw[z,dX2]at hl;cases hl
  have lp:l≠p:=λz=>by rw[z,pX2]at hl;cases hl
  have dn:d∉ls:=gX2.out λxs z=>by rw[dX2]at z;cases z
  have gQ:=(gX2.same eZ).keep dn (.dK (Ai (A++[x]) (ls.map V.ref++[V.ref l])));have lQ:Ae HZ d (.dK (Ai (A++[x]) (ls.map V.ref++[V.ref l]))) l=some (.lst ((F x).map V.int)):=by rw[AI ld];exact hlZ
  have pQ:Ae HZ d (.dK (Ai (A++[x]) (ls.map V.ref++[V.ref l]))) p=some (.lst (W'.map V.int)):=by rw[AI (Ne.symm pd)];exact eZ _ _ pX2
  have eQ:AG H (Ae HZ d (.dK (Ai (A++[x]) (ls.map V.ref++[V.ref l])))):=(eX2.trans eZ).into hd;have dQ:Ae HZ d (.dK (Ai (A++[x]) (ls.map V.ref++[V.ref l]))) d=some (.dK (Ai (A++[x]) ((ls++[l]).map V.ref))):=by rw[AC,W3];rfl
  generalize Ae HZ d (.dK (Ai (A++[x]) (ls.map V.ref++[V.ref l])))=HQ at gQ lQ pQ eQ dQ⊢;have gQ2:=gQ.snoc nl lQ;have rl2:((ls++[l]).map V.ref).length=(A++[x]).length:=by rw[Wq];exact gQ2.n
  refine⟨_,rfl,.inl ⟨rfl,_,Ab.of pQ⟩,_,rfl,_,rfl,d,_,rfl,?_,p,l,_,_,rfl,rfl,pQ,lQ,?_,?_⟩
  ·have:=Cy.k (k:=Sum.inl x) dQ;rw[Bi (rc.next m).nd (i:=A.length) (by rw[XB (Wv _),Xx];rfl) (v:=.ref l) (by rw[W0,XB (by rw[gQ.n];exact Wv _),gQ.n,Xx];rfl)]at this;exact this
  ·rw[W1,XM]at m5;rw[Wq,Wq,sizeLine_eq];lia
  ·rw[<-W3];rw[W1,XM]at m5⊢;have pl:p∉ls++[l]:=λz=>(Ww.mp z).elim np λz=>lp (Wr.mp z).symm
   refine⟨_,?_,⟨_,rfl⟩,A++[x],W'++F x,⟨ls++[l],eQ.into pn,λy hy=>?_,?_,gQ2.keep pl _,AC,pl,rc.next m⟩,rfl,?_⟩
   ·rw[W1,W1,XM];lia
   ·rcases Ww.mp hy with z|z
    ·exact ln y z
    ·rw[Wr.mp z];exact eX2.free hl
   ·rw[AI pd];exact dQ
   ·rw[W1,W1,XM];lia
 rintro σ HX ⟨x4,rfl,A,ls,eX,ln,hdX,gX,hpX,np,rc⟩;walk_at "rd";exact q d HX ls A eX hd ln hdX gX rc.done (low rc).1
theorem Mm:AK ["nexts","ahead","here","come"] ["nexts"] (AH TF):=Ch (by decide +kernel)
theorem VJ(T:Ce K mg t) :Aw P w K mg base 1 t.f_14 ["nexts"] (JJ):=by
 refine BJ T.d_14 Mm (λ_ _ _ _ _ _=>b1 λ_=>rfl) λvs H Q E h=>?_;obtain⟨d,ls,A0,F,rfl,dr,gr,nd,cl,lA,lF,q⟩:=h;refine⟨rfl,λcdv A outer s hr=>?_⟩
 refine⟨_,(AB (AS 1 Mm EE)
  (AB (Ar PassesOwn.never rfl (Ou (pv 0)) (BG 2 Mm) (AB (A8 (CO Yb Yl PySem.F.type_dict_setdefault G3 (pv 1) (AA (pv 2) (AA (BR AD) AD))))
  (AE (Ar PassesOwn.never rfl (BK (CI (Br hr) (pv 0) (pv 2) (λ_ _=>rfl))) (BG 3 Mm) (AE (A8 (CO XF XU XV BP (CO Yb Yl PySem.F.type_dict_setdefault G3 (pv 1) (AA (pv 3) (AA (BR AD) AD))) (AA (pv 2) AD))))))))
  (AE (AQ (pv 1))))),?_⟩
 refine Av λN hN=>?_;intro d2 hd2;refine hN _ _ ?_;clear hN N;have e0:=AG.new hd2 (.dK []);obtain⟨u0,hu0,nu0⟩:=dr.is;have nd2:d≠d2:=λe=>by rw[e,hd2]at hu0;cases hu0
 refine Ct (λσ HX=>(∃x2 x3,σ=[some (.ref d),some (.ref d2),x2,x3])/\∃o A2 B,AG (Ae H d (.frz o (.dK (Ai A0 (ls.map V.ref))))) HX/\Qd H HX d2 A2 B/\JH A0 F A2 B) (λN hN=>?_) ?_
 ·have dr0:Rd (Ae H d2 (.dK [])) d (.dK (Ai A0 (ls.map V.ref))):=by
   rcases dr with r|⟨o,r⟩
   ·exact .inl (e0 _ _ r)
   ·exact .inr ⟨o,e0 _ _ r⟩
  refine⟨_,rfl,d,_,rfl,dr0,λo=>?_⟩;obtain⟨U,hU⟩:∃U,U=HO.frz o (.dK (Ai A0 (ls.map V.ref))):=⟨_,rfl⟩;rw[<-hU];have eF:=e0.bothI d U;have dF:Ae (Ae H d2 (.dK [])) d U d=some U:=AC;have dn:d∉ls:=gr.out λxs z=>by rw[hu0]at z;exact nu0 xs (Option.some.inj z)
  have gF:=(gr.same e0).keep dn U;have aF:Qd H (Ae (Ae H d2 (.dK [])) d U) d2 [] (λ_=>[]):=⟨[],λl hl=>qG hl W6,by rw[AI (Ne.symm nd2)];exact AC,EF.nil⟩;generalize Ae (Ae H d2 (.dK [])) d U=HF at eF dF gF aF⊢;have uU:∀{HX:Hp},AG (Ae H d U) HX->HX d=some U:=λe=>e _ _ AC
  refine Nb (d:=d) (o:=o) (kvs:=Ai A0 (ls.map V.ref)) (λi σ HX=>(∃x2 x3,σ=[some (.ref d),some (.ref d2),x2,x3])/\AG (Ae H d U) HX/\EF HX ls A0 F/\∃A2 B,Qd H HX d2 A2 B/\G8 A0 F i (λ_ _=>False) (i*9) A2 B) ⟨⟨none,none,rfl⟩,eF,gF,[],λ_=>[],aF,G8.start⟩ (λi σ HX _ z=>by rw[<-hU];exact uU z.2.1) ?_ ?_
  ·rintro i k v σ HX hk ⟨⟨x2,x3,rfl⟩,eX,gX,A2,B,aX,tX⟩;obtain⟨a,ha,hv,rfl⟩:=Mc hk;rw[W0]at hv;obtain⟨l,hl,rfl⟩:=XS.mp hv;have aA:a∈A0:=Wy ha;have i5:i<=512:=by have:=(Ws.mp ha).1;lia
   have lA2:∀{A2:List Int} {B:Int->List Int} {D:Int->Int->Prop} {n:Nat},G8 A0 F i D n A2 B->A2.length<=512:=λt=>Xa (t.nd.length_le_of_subset t.sub) lA
   have Hn:∀{HX:Hp} {l:Addr},AG (Ae H d U) HX->HX l=none->H l=none:=λ{HX l} e z=>by have y:=e.free z;rw[AI λx=>by rw[x,AC]at y;cases y]at y;exact y
   have hd2':Ae H d U d2=none:=by rw[AI (Ne.symm nd2)];exact hd2
   have frn:∀{l:Addr},H l=none->Ae H d U l=none:=λ{l} h=>by rw[AI λz=>by rw[z,hu0]at h;cases h];exact h
   refine Ct (λσ HY=>(∃x3,σ=[some (.ref d),some (.ref d2),some (.int a),x3])/\AG (Ae H d U) HY/\EF HY ls A0 F/\∃A2 B,Qd H HY d2 A2 B/\G8 A0 F i (λ_ _=>False) (i*9) A2 B/\a∈A2) (λN2 hN2=>?_) ?_
   ·obtain⟨ls2,ln,wX,g2⟩:=aX;have rl:(Ai A2 (ls2.map V.ref)).length=A2.length:=CB (by rw[Wq];exact g2.n);refine⟨_,rfl,.inr (.inr (.inl ⟨rfl,.inl ⟨_,wX⟩⟩)),_,rfl,by decide,λl' hl'=>?_⟩;have f1:=AG.new hl' (.lst []);have h0:=Hn eX hl';have nl:=g2.new hl';have lY:Ae HX l' (.lst []) l'=some (.lst []):=AC;have eY:=eX.trans f1;have gY:=gX.same f1;have wY:=f1 _ _ wX;have g2Y:=g2.same f1;generalize Ae HX l' (.lst [])=HY at lY eY gY wY g2Y⊢;refine⟨d2,_,Sum.inl a,.ref l',rfl,rfl,wY,by rw[rl];have:=lA2 tX;exact AW (by lia),λz hz=>hN2 _ _ ⟨⟨_,rfl⟩,eY,gY,A2,B,⟨ls2,ln,wY,g2Y⟩,tX,?_⟩,λhz=>hN2 _ _ ?_⟩
    ·by_cases m:a∈A2
     ·exact m
     ·rw[Cb m]at hz;cases hz
    ·have m:a∉A2:=λm=>by
      have y:=C7 (a:=a) (vs:=ls2.map V.ref) (by rw[Wq];exact g2.n) tX.nd;rw[hz,qH m]at y;cases y
     have d2n:d2∉ls:=gY.out λxs z=>by rw[wY]at z;cases z
     exact⟨⟨_,rfl⟩,eY.into hd2',gY.keep d2n _,A2++[a],B,⟨_,Qd.put ln wY g2Y lY nl h0 m (tX.no a m)⟩,tX.key m aA,Ww.mpr (.inr (Wr.mpr rfl))⟩
   clear tX aX eX gX;rintro σ HY ⟨⟨x3,rfl⟩,eX,gX,A2,B,aX,tX,mA⟩;have hps:=gX.e i a l ha hl;have fa:=lF a aA;refine⟨_,rfl,_,rfl,d,.ref l,rfl,.inl ⟨_,Sum.inl a,.inr ⟨o,by rw[<-hU];exact uU eX⟩,rfl,?_⟩,l,rfl,⟨_,Ab.of hps⟩,?_⟩
   ·rw[Bi nd ha (by rw[W0,hl];rfl)]
   refine BM (xs:=(F a).map V.int) (λj σ HZ=>(∃x3,σ=[some (.ref d),some (.ref d2),some (.int a),x3])/\AG (Ae H d U) HZ/\EF HZ ls A0 F/\∃A2 B,Qd H HZ d2 A2 B/\G8 A0 F i (λp q=>q=a/\p∈(F a).take j) (i*9+j) A2 B/\a∈A2) ⟨⟨_,rfl⟩,eX,gX,A2,B,aX,tX.inner a,mA⟩ (λj σ HZ _ z=>Ab.of (z.2.2.1.e i a l ha hl)) ?_ ?_
   ·clear tX aX eX gX mA hps;rintro j x σ HZ hx ⟨⟨x3,rfl⟩,eX,gX,A2,B,⟨ls2,ln,wX,g2⟩,tX,mA⟩;obtain⟨p0,hp0,rfl⟩:=CA hx;have p0A:p0∈A0:=cl a aA p0 (Wy hp0);have j9:j<9:=by have:=(Ws.mp hp0).1;lia
    have rl:(Ai A2 (ls2.map V.ref)).length=A2.length:=CB (by rw[Wq];exact g2.n)
    have app:∀(HQ:Hp) (A2:List Int) (ls2:List Addr) (j2:Nat) (l2:Addr),AG (Ae H d U) HQ->EF HQ ls A0 F->(∀l∈ls2,H l=none)->HQ d2=some (.dK (Ai A2 (ls2.map V.ref)))->EF HQ ls2 A2 B->G8 A0 F i (λp q=>q=a/\p∈(F a).take j) (i*9+j) A2 B->a∈A2->A2[j2]?=some p0->ls2[j2]?=some l2 ->
      HQ l2=some (.lst ((B p0).map V.int))/\((B p0).map V.int).length<sizeLine/\∃HW,HW=Ae HQ l2 (.lst ((B p0).map V.int++[V.int a]))/\AG (Ae H d U) HW/\EF HW ls A0 F/\∃A2 B,Qd H HW d2 A2 B/\G8 A0 F i (λp q=>q=a/\p∈(F a).take (j+1)) (i*9+(j+1)) A2 B/\a∈A2:=by
     intro HQ A2 ls2 j2 l2 e h4 ln w2 g2 t m hj2 hl2;have hq:=g2.e j2 p0 l2 hj2 hl2;have ml:=Wy hl2;have h0:=ln l2 ml;have nl:l2∉ls:=gr.new h0;have lb:=t.len p0;have tp:=t.push hp0 (Wy hj2);rw[Nat.add_assoc]at tp;refine⟨hq,by rw[Wq,sizeLine_eq];lia,_,rfl,?_⟩;rw[show (B p0).map V.int++[V.int a]=(B p0++[a]).map V.int by rw[W3];rfl];refine⟨e.into (frn h0),h4.keep nl _,A2,_,⟨ls2,ln,?_,g2.push t.nd hj2 hl2⟩,tp,m⟩;rw[AI (Ls w2 hq λz=>by cases z)];exact w2
    refine⟨_,rfl,.inr (.inr (.inl ⟨rfl,.inl ⟨_,wX⟩⟩)),_,rfl,by decide,λl' hl'=>?_⟩;have f1:=AG.new hl' (.lst []);have h0:=Hn eX hl';have nl:=g2.new hl';have lY:Ae HZ l' (.lst []) l'=some (.lst []):=AC;have eY:=eX.trans f1;have gY:=gX.same f1;have wY:=f1 _ _ wX;have g2Y:=g2.same f1;generalize Ae HZ l' (.lst [])=HY at lY eY gY wY g2Y⊢;refine⟨d2,_,Sum.inl p0,.ref l',rfl,rfl,wY,by rw[rl];have:=lA2 tX;exact AW (by lia),λz hz=>?_,λhz=>?_⟩
    ·have m:p0∈A2:=by
      by_cases m:p0∈A2
      ·exact m
      ·rw[Cb m]at hz;cases hz
     obtain⟨j2,hj2⟩:=C6 m;obtain⟨l2,hl2⟩:=Ft g2Y.n hj2;rw[Bi tX.nd hj2 (v:=.ref l2) (by rw[W0,hl2];rfl)]at hz;cases hz;obtain⟨h1,h2,HW,hW,h3⟩:=app HY A2 ls2 j2 l2 eY gY ln wY g2Y tX mA hj2 hl2;refine⟨.inl ⟨rfl,_,Ab.of h1⟩,_,rfl,l2,_,_,rfl,rfl,h1,h2,⟨_,rfl⟩,?_⟩;rw[<-hW];exact h3
    ·have m:p0∉A2:=λm=>by
      have y:=C7 (a:=p0) (vs:=ls2.map V.ref) (by rw[Wq];exact g2.n) tX.nd;rw[hz,qH m]at y;cases y
     have d2n:d2∉ls:=gY.out λxs z=>by rw[wY]at z;cases z
     obtain⟨k1,k2,k3⟩:=Qd.put ln wY g2Y lY nl h0 m (tX.no p0 m);obtain⟨h1,h2,HW,hW,h3⟩:=app _ (A2++[p0]) (ls2++[l']) A2.length l' (eY.into hd2') (gY.keep d2n _) k1 k2 k3 (tX.key m p0A) (Ww.mpr (.inl mA)) (by rw[XB (Wv _),Xx];rfl) (by rw[XB (by rw[g2.n];exact Wv _),g2.n,Xx];rfl);refine⟨.inl ⟨rfl,_,Ab.of h1⟩,_,rfl,l',_,_,rfl,rfl,h1,h2,⟨_,rfl⟩,?_⟩;rw[<-hW];exact h3
   ·rintro σ HZ ⟨⟨x3,rfl⟩,eX,gX,A2,B,aX,tX,mA⟩;rw[Wq]at tX;exact⟨⟨_,_,rfl⟩,eX,gX,A2,B,aX,tX.outer ha mA (by lia)⟩
  ·rintro σ HX ⟨⟨x2,x3,rfl⟩,eX,gX,A2,B,aX,tX⟩;rw[CB (by rw[Wq];exact gr.n)]at tX;exact hN _ _ ⟨⟨_,_,rfl⟩,o,A2,B,by rw[<-hU];exact eX,aX,tX.done (by lia)⟩
 rintro σ HX ⟨⟨x2,x3,rfl⟩,o,A2,B,eX,⟨ls2,ln,wX,g2⟩,tI⟩;walk_at "rd";exact q o HX d2 ls2 A2 B eX hd2 ln wX g2 tI
theorem JV:AK ["nexts","ends","ahead","left","found","steps","further","come"] ["nexts","ends"] (AH WJ):=Ch (by decide +kernel)
theorem WW(T:Ce K mg t)(G_14:Aw P w K mg base 1 t.f_14 ["nexts"] (JJ)):Aw P w K mg base 2 t.f_6 ["nexts","ends"] (JK):=by
 refine BJ T.d_6 JV (λ_ _ _ _ _ _=>b2 λ_ _=>rfl) λvs H Q E h=>?_;obtain⟨d,e,ls,A0,F,E0,rfl,dr,gr,nd,cl,lA,lF,he,lE,q⟩:=h;refine⟨rfl,λcdv A outer s hr=>?_⟩
 refine⟨_,(AB (AS 2 JV (Af hr G_14 T.m_14 (AA (pv 0) AD)))
  (AB (AS 3 JV EE)
  (AB (AS 4 JV (pv 1))
  (AB (AS 5 JV AF)
  (AB (B7 PassesOwn.never (AM Dt (Aa AO rfl T.z_len XH (AA (pv 4) AD)) AF (AN _)) (AB (AS 6 JV (BR AD))
  (AB (Ar PassesOwn.never rfl (BK (pv 4)) (BG 7 JV) (AE (Ak (GR (DV (Br hr) (pv 7) (pv 3))) (AB (FF (Br hr) (pv 3) (pv 7) (pv 5) rfl)
  (AE (A8 (CO XF PySem.F.slot_list_extend PySem.F.type_list_extend IE (pv 6) (AA (Of (Br hr) (pv 2) (pv 7) (BR AD) ⟨rfl,rfl,rfl,rfl⟩) AD))))) AX)))
  (AB (AS 4 JV (pv 6))
  (AE (AS 5 JV (AJ BD (pv 5) AF)))))))
  (AE (AQ (pv 3)))))))),?_⟩
 refine Av λN hN=>?_;walk_at "rd";refine⟨d,ls,A0,F,rfl,dr,gr,nd,cl,lA,lF,λo H1 d1 ls1 A1 B e1 hd1 hls1 w1 g1 ti=>hN _ _ ?_⟩;clear hN N;obtain⟨u0,hu0,nu0⟩:=dr.is;have he1:H1 e=some (.lst (E0.map V.int)):=e1 _ _ (by rw[AI λz=>by rw[z,hu0]at he;exact nu0 _ (Option.some.inj he)];exact he)
 have fr1:∀{l:Addr},H1 l=none->H l=none:=λ{l} h=>by have y:=e1.free h;rw[AI λx=>by rw[x,AC]at y;cases y]at y;exact y
 refine Av λN hN=>?_;intro d2 hd2;refine hN _ _ ?_;clear hN N;have e2:=AG.new hd2 (.dK (DP [] λ_=>0));refine Av λN hN=>?_;walk_at "rd";refine hN _ _ ?_;clear hN N;refine Av λN hN=>?_;walk_at "rd";refine hN _ _ ?_;clear hN N;refine Ct (λσ HX=>(∃x4 x5 x6 x7,σ=[some (.ref d),some (.ref e),some (.ref d1),some (.ref d2),x4,x5,x6,x7])/\AG H1 HX/\∃M f,HX d2=some (.dK (DP M f))/\DZ A0 F E0 M f) (λN hN=>?_) ?_
 ·refine⟨λm σ HX=>∃(p:Addr) (n:Nat) (L M:List Int) (f:Int->Nat),(∃x6 x7,σ=[some (.ref d),some (.ref e),some (.ref d1),some (.ref d2),some (.ref p),some (.int ((n:Nat):Int)),x6,x7])/\AG H1 HX/\HX d2=some (.dK (DP M f))/\HX p=some (.lst (L.map V.int))/\JI A0 F E0 M f n L []/\m=2*(A0.length+E0.length-M.length)+(if L=[] then 0 else 1),⟨_,e,0,E0,[],λ_=>0,⟨none,none,rfl⟩,e2,AC,e2 _ _ he1,JI.start,rfl⟩,?_⟩;rintro m σ HX ⟨p,n,L,M,f,⟨x6,x7,rfl⟩,eX,hX,hpX,fw,rfl⟩;refine⟨_,rfl,p,_,rfl,.inl (Ab.of hpX),_,_,rfl,rfl,_,rfl,?_⟩;rw[Wq]
  by_cases z:L=[]
  ·subst z;rw[qE (by decide)];exact hN _ _ ⟨⟨_,_,_,_,rfl⟩,eX,M,f,hX,fw.done⟩
  dsimp only;rw[qF (qH (by have:=Y2.mpr z;lia)),qE z];refine⟨λσ' H'=>∃m',m'<2*(A0.length+E0.length-M.length)+1/\∃(p:Addr) (n:Nat) (L M:List Int) (f:Int->Nat),(∃x6 x7,σ'=[some (.ref d),some (.ref e),some (.ref d1),some (.ref d2),some (.ref p),some (.int ((n:Nat):Int)),x6,x7])/\AG H1 H'/\H' d2=some (.dK (DP M f))/\H' p=some (.lst (L.map V.int))/\JI A0 F E0 M f n L []/\m'=2*(A0.length+E0.length-M.length)+(if L=[] then 0 else 1),λ_ _ h=>h,?_⟩;refine Av λN2 hN2=>?_;walk_at "rd";refine⟨by decide,λr hr'=>hN2 _ _ ?_⟩;clear hN2 N2;have e3:=AG.new hr' (.lst []);have rp:p≠r:=λz=>by rw[<-z,hpX]at hr';cases hr'
  have rd2:d2≠r:=λz=>by rw[<-z,hX]at hr';cases hr'
  have rH:H1 r=none:=eX.free hr';refine Ct (λσ HY=>(∃x7,σ=[some (.ref d),some (.ref e),some (.ref d1),some (.ref d2),some (.ref p),some (.int ((n:Nat):Int)),some (.ref r),x7])/\WD H1 HY d2 r A0 F E0 M n []) (λN2 hN2=>?_) ?_
  ·refine⟨_,rfl,p,rfl,⟨_,Ab.of (e3 _ _ hpX)⟩,?_⟩;refine BM (xs:=L.map V.int) (λi σ HY=>(∃x7,σ=[some (.ref d),some (.ref e),some (.ref d1),some (.ref d2),some (.ref p),some (.int ((n:Nat):Int)),some (.ref r),x7])/\HY p=some (.lst (L.map V.int))/\WD H1 HY d2 r A0 F E0 M n (L.drop i)) ⟨⟨_,rfl⟩,e3 _ _ hpX,M,f,[],eX.trans e3,e3 _ _ hX,AC,XO _,.inl rfl,Wv _,fw⟩ (λi σ HY _ z=>Ab.of z.2.1) ?_ ?_
   ·rintro i x σ HY hx ⟨⟨x7,rfl⟩,hpY,M1,f1,R,eY,hY,hrY,lR,nR,mM,fw1⟩;obtain⟨x,hxi,rfl⟩:=CA hx;have hdr:L.drop i=x::L.drop (i+1):=by have:=(Ws.mp hxi);rw[Xz this.1,this.2]
    rw[hdr]at fw1;dsimp only[Cq];refine⟨_,rfl,_,rfl,d2,_,rfl,Cy.k (k:=Sum.inl x) hY,_,rfl,?_⟩;rw[C7 (by rw[Wq]) fw1.nd]
    by_cases m:x∈M1
    ·rw[qH m];exact My ⟨⟨_,rfl⟩,hpY,M1,f1,R,eY,hY,hrY,lR,nR,mM,fw1.skip m⟩
    rw[qI m];refine Py ?_;have few:=fw1.few;refine Av λN3 hN3=>?_;refine⟨_,rfl,_,rfl,_,rfl,d2,_,rfl,JE.k (k:=Sum.inl x) hY (by rw[O5,sizeLine_eq];lia),hN3 _ _ ?_⟩;clear hN3 N3;rw[O6 m];have fw2:=fw1.take m (B:=B) λq=>ti.on x q
    have few2:=fw2.few;have pd2:p≠d2:=Ls hpY hY λz=>by cases z
    have eQ:AG H1 (Ae HY d2 (.dK (DP (M1++[x]) (λp=>if p∈M1 then f1 p else n)))):=eY.into hd2;have dQ:Ae HY d2 (.dK (DP (M1++[x]) (λp=>if p∈M1 then f1 p else n))) d2=some (.dK (DP (M1++[x]) (λp=>if p∈M1 then f1 p else n))):=AC;have pQ:Ae HY d2 (.dK (DP (M1++[x]) (λp=>if p∈M1 then f1 p else n))) p=some (.lst (L.map V.int)):=by rw[AI pd2];exact hpY
    have rQ:Ae HY d2 (.dK (DP (M1++[x]) (λp=>if p∈M1 then f1 p else n))) r=some (.lst (R.map V.int)):=by rw[AI (Ne.symm rd2)];exact hrY
    generalize Ae HY d2 (.dK (DP (M1++[x]) (λp=>if p∈M1 then f1 p else n)))=HQ at eQ dQ pQ rQ⊢;refine⟨_,rfl,.inl ⟨rfl,_,Ab.of rQ⟩,_,rfl,d1,rfl,.inl ⟨_,.inl (eQ _ _ w1)⟩,_,rfl,by decide,λz hz=>?_⟩;have f4:=AG.new hz (.lst []);have zr:Ae HQ z (.lst []) z=some (.lst ([].map V.int)):=AC;have eZ:=eQ.trans f4;have rl:(ls1.map V.ref).length=A1.length:=by rw[Wq];exact g1.n
    have fin:∀(l2:Addr),Ae HQ z (.lst []) l2=some (.lst ((B x).map V.int))->∃(l b:Addr) (xs zs:List V),V.ref r=.ref l/\[V.ref l2]=[.ref b]/\Ae HQ z (.lst []) l=some (.lst xs)/\Ae HQ z (.lst []) b=some (.lst zs)/\xs.length+zs.length<=sizeLine/\((∃x7,[some (V.ref d),some (.ref e),some (.ref d1),some (.ref d2),some (.ref p),some (.int ((n:Nat):Int)),some (.ref r),some (.int x)]=[some (.ref d),some (.ref e),some (.ref d1),some (.ref d2),some (.ref p),some (.int ((n:Nat):Int)),some (.ref r),x7])/\Ae (Ae HQ z (.lst [])) l (.lst (xs++zs)) p=some (.lst (L.map V.int))/\WD H1 (Ae (Ae HQ z (.lst [])) l (.lst (xs++zs))) d2 r A0 F E0 M n (L.drop (i+1))):=by
     intro l2 h2;have lb:=ti.len x;refine⟨r,l2,_,_,rfl,rfl,f4 _ _ rQ,h2,by rw[Wq,Wq,sizeLine_eq];lia,⟨_,rfl⟩,by rw[AI rp];exact f4 _ _ pQ,M1++[x],_,R++B x,eZ.into rH,by rw[AI rd2];exact f4 _ _ dQ,by rw[AC,W3],?_,.inr ?_,?_,fw2⟩
     ·rw[W1,W1,XM];lia
     ·rw[W1,XM];lia
     ·rw[W1];lia
    by_cases mA:x∈A1
    ·obtain⟨j,hj⟩:=C6 mA;obtain⟨l2,hl2⟩:=Ft g1.n hj;refine⟨some (.ref l2),.inl ⟨_,Sum.inl x,.inl (eZ _ _ w1),rfl,?_⟩,?_⟩
     ·rw[Bi ti.nd hj (by rw[W0,hl2];rfl)]
     ·exact fin l2 (eZ _ _ (g1.e j x l2 hj hl2))
    ·refine⟨none,.inl ⟨_,Sum.inl x,.inl (eZ _ _ w1),rfl,?_⟩,?_⟩
     ·rw[Cb mA]
     ·refine fin z ?_;have bn:B x=[]:=List.eq_nil_iff_forall_not_mem.mpr λy hy=>by obtain⟨h1,h2⟩:=(ti.on x y).mp hy;exact mA ((ti.all x).mpr (cl y h1 x h2))
      rw[bn];exact zr
   ·rintro σ HY ⟨⟨x7,rfl⟩,_,fv⟩;rw[Wq,List.drop_length]at fv;exact hN2 _ _ ⟨⟨_,rfl⟩,fv⟩
  rintro σ HY ⟨⟨x7,rfl⟩,M1,f1,R,eY,hY,hrY,lR,nR,mM,fw1⟩;have few:=fw1.few;refine Av λN3 hN3=>?_;walk_at "rd";refine hN3 _ _ ?_;clear hN3 N3;refine⟨_,rfl,_,_,rfl,rfl,_,?_,r,n+1,R,M1,f1,⟨_,_,rfl⟩,eY,hY,hrY,fw1.round,rfl⟩
  by_cases z:R=[]
  ·rw[qF z];lia
  ·rw[qE z];have:=nR.resolve_left z;lia
 rintro σ HX ⟨⟨x4,x5,x6,x7,rfl⟩,eX,M,f,hX,fw⟩;walk_at "rd";exact q o HX d2 M f (e1.trans eX) (fr1 hd2) hX fw
theorem Tj:AK ["one","framed","singles"] ["one"] (AH WK):=Ch (by decide +kernel)
theorem WX(T:Ce K mg t)(hB:G4 mg base)(G_53:Aw P w K mg base 8 t.f_53 ["one"] (GI t.c_40))(G_8:Aw P w K mg base 3 t.f_8 ["framed"] (Fc))(G_43:Aw P w K mg base 3 t.f_43 ["starts","nexts_of"] (Ff P w K mg base 2))(G_23:Aw P w K mg base 10 t.f_23 ["one"] (GJ t.c_40))(G_44:Aw P w K mg base 1 t.f_44 ["singles","some","sign"] (G2)):Aw P w K mg base 11 t.f_7 ["one"] (GL t.c_40 LP t.p_7):=by
 refine Ue T.d_7 Tj (λ_ _ _ _ _ _=>b1 λ_=>rfl) λvs H Q E h=>?_;obtain⟨r,g,lo,tab,m,lf,tf,mf,rfl,ok,fw,tb,hsm,hbig⟩:=h;refine⟨rfl,λA outer s hr=>?_⟩
 refine⟨_,(AB (AS 1 Tj (BF G_53 (hr.mono (by decide)) rfl T.m_53 Au (AA (pv 0) AD)))
  (AB (AS 2 Tj (Af hr G_8 T.m_8 (AA (pv 1) AD)))
  (AE (AQ (O2 (cl:=[("singles",_),("framed",_)]) (is:=[2,1]) G_43 (hr.mono (by decide)) rfl T.m_43 (AA (BR (AA (BF G_23 (hr.mono (by decide)) rfl T.m_23 Au (AA (pv 1) AD)) AD)) (AA (SY (clos:=[("singles",_),("framed",_)]) hB rfl T.hd_7 (by with_unfolding_all rfl) rfl) AD)) (.cons ⟨rfl,rfl,by with_unfolding_all rfl,rfl⟩ (.cons ⟨rfl,rfl,by with_unfolding_all rfl,rfl⟩ .nil))))))),?_⟩
 have g2:=ok.g2;have g9:=ok.g9;obtain⟨hn,hl⟩:=DJ g2 ok.len fw;refine Av λN hN=>?_;walk_at "rd";refine⟨r,g,lo,tab,m,lf,tf,mf,rfl,ok,fw,λs9 r1 H1 e1 ok1=>hN _ _ ?_,hbig⟩;clear hN N;have h9:tf.length/g.toNat<=9:=by lia
 refine Av λN hN=>?_;walk_at "rd";refine⟨r1,g,lf,tf,mf,rfl,ok1,h9,λp ps H2 e2 sl=>hN _ _ ?_⟩;clear hN N;have e12:=e1.trans e2;refine⟨[.ref p,.ref r1],.cons rfl (.cons rfl .nil),?_⟩;have fa:=KP g2 ok.len fw;have hh:(g^(mf-1)).toNat=tf.length/g.toNat:=by rw[<-hn,XC]
 refine⟨_,rfl,r1,g,lf,tf,mf,lf,tf,mf,rfl,ok1.same e2,fa,λ_ H3 e3=>⟨X7 (AW (show 1<=1000 by decide)),λa ha=>?_⟩,λz=>by lia⟩;rw[hh];have e4:=AG.new ha (.lst [V.int (2^(tf.length/g.toNat)-1)]);have a4:Ae H3 a (.lst [V.int (2^(tf.length/g.toNat)-1)]) a=some (.lst ([Ag g tf].map V.int)):=AC;have e24:=e3.trans e4;generalize Ae H3 a (.lst [V.int (2^(tf.length/g.toNat)-1)])=H4 at e4 a4 e24⊢;clear ha;have e14:=e12.trans e24;refine⟨tb.same e14,λf H5 s5 tb5 hf la=>?_⟩;obtain⟨pm,c',ctv,oc,l1,l2,l3⟩:=la;dsimp only[Bs];intro H6 e6 n6 ck6 o6;have ab:=s5.get (tb.same e14) a4 (λ_ z=>by cases z);have ok5:=(ok1.same (e2.trans e24)).sameT s5 (tb.same e14);have sl5:=(sl.same e24).sameT s5 (tb.same e14);have ok6:=ok5.same e6;have sl6:=sl5.same e6;have s56:∀{HA:Hp},AG H6 HA->AG H5 (Hl [("singles",s.heap.objs.size+1+1),("framed",s.heap.objs.size+1)] HA):=λeA=>Oz n6 (e6.trans eA)
 refine⟨a,f,[Ag g tf],2^(tf.length/g.toNat),AL g tf,rfl,Ab.of (e6 _ _ ab),(show 1<=100 by decide),FG h9,λs hs=>by rw[Wr.mp hs];exact G9 g tf,Et g9 tf,Lj (k:=1) (x1:="some") (fns:=["singles","framed"]) (IV.same ⟨pm,c',ctv,oc,l1,l2,l3⟩ e6) ck6 ⟨rfl,rfl,rfl,by decide,λx hx=>by rw[Wr.mp hx];exact .inr rfl,λx hx=>by rcases XE.mp hx with z|z;rw[z];rfl;rw[Wr.mp z];rfl,by decide +kernel,by decide +kernel⟩ rfl ?N (λ_ _ _=>b1 λ_=>rfl) λc2 A2 outer2 s2 HA x hr x0 x1 eA=>⟨_,(Ef [(0,"some"),(1,"singles")] [("some",_),("singles",_)] (Ah rfl T.z_range (AA (AR AY (pv 2) AF (λ_ _=>rfl)) AD)) (λ_ _ _ _=>Bw) (λ_ _ _ _=>(Af hr G_44 T.m_44 (AA (pv 2) (AA (pv 1) (AA (pv 0) AD)))))),?B⟩,λd H7 ls A e7 hd hls hd7 g7 rp lA=>?_⟩
 case N=>exact Xl.mpr ⟨λz=>qG (Wr.mp z) (by show s.heap.objs.size+1+1≠s.heap.objs.size+1;lia),Xl.mpr ⟨W6,YK⟩⟩
 case B =>
  intro QB qB;have eB:=s56 eA;obtain⟨tb',v1,v2⟩:=(ok5.same eB).v;have slB:=sl5.same eB;generalize Hl [("singles",s.heap.objs.size+1+1),("framed",s.heap.objs.size+1)] HA=HB at eB v1 v2 slB qB⊢;refine⟨_,rfl,r1,_,0,_,rfl,rfl,BL.of v1,rfl,_,rfl,by lia,by lia,λD hD=>?_⟩;refine A4 (n:=g.toNat) (λi acc Hx=>acc=((List.range i).map λs:Nat=>Gz g.toNat tf (tf.length/g.toNat) x (s:Int)).map V.int/\AG HB Hx/\Hx D=some (.lst acc)) ⟨rfl,AG.new hD _,AC⟩ ?_ ?_
  ·rintro i acc Hx hi ⟨rfl,ex,hDx⟩;dsimp only[LI];rw[qF rfl];refine⟨_,rfl,_,rfl,_,rfl,p,ps,g.toNat,tf,tf.length/g.toNat,x,i,?_,slB.same ex,x0,hi,λH8 e8=>⟨e8 _ _ hDx,?_,?_,(ex.trans e8).into hD,AC⟩⟩
   ·rw[Xe];rfl
   ·rw[Wq,Wq,W8];exact AW (by lia)
   ·rw[Am,W3];rfl
  ·rintro acc H8 ⟨rfl,e8,h8⟩;exact qB D _ e8 hD h8
 have e57:=s56 e7
 have out:∀{b:Addr},H6 b=none->b∉Bj [(("singles":Str),s.heap.objs.size+1+1),("framed",s.heap.objs.size+1)]:=λ{b} h z=>by obtain⟨_,_,_,y⟩:=ck6.at z;rw[h]at y;cases y
 have fr:∀{b:Addr},H6 b=none->H b=none:=λh=>e14.free (s5.free tb5 (e6.free h))
 exact hsm s9 d _ ls A ((e14.t.trans s5).trans e57.t) (tb5.same e57) (fr hd) (λl hl=>fr (hls l hl)) (by rw[Bl (out hd)];exact hd7) ⟨g7.n,g7.nd,λi b l h1 h2=>by rw[Bl (out (hls l (Wy h2)))];exact g7.e i b l h1 h2⟩ rp lA
theorem Pe:AK ["one","nexts","left"] ["one"] (AH TH):=Ch (by decide +kernel)
theorem VL(T:Ce K mg t)(G_7:Aw P w K mg base 11 t.f_7 ["one"] (GL t.c_40 LP t.p_7))(G_6:Aw P w K mg base 2 t.f_6 ["nexts","ends"] (JK)):Aw P w K mg base 12 t.f_13 ["one"] (EH t.c_40 LP t.p_7):=by
 refine DI T.d_13 Pe (λ_ _ _ _ _ _=>b1 λ_=>rfl) λvs H Q E h=>?_;obtain⟨r,g,lo,tab,m,lf,tf,mf,rfl,ok,fw,tb,hsm,hbig⟩:=h;refine⟨rfl,λcdv A outer s hr=>?_⟩
 refine⟨_,(AB (AS 1 Pe (BF G_7 (hr.mono (by decide)) rfl T.m_7 Au (AA (pv 0) AD)))
  (AB (AS 2 Pe (Af hr G_6 T.m_6 (AA (pv 1) (AA (BR (BO AD)) AD))))
  (AE (AQ (Ef [(1,"nexts"),(2,"left")] [("nexts",_),("left",_)] (BK (PP rfl rfl T.z_sorted (AA (pv 1) AD) (Pr B5 Rm))) (λ_ _ _ _=>Bw) (λ_ _ _ _=>(D1 (AA (pv 0) (AA (CI (Br hr) (pv 1) (pv 0) (λ_ _=>rfl)) (AA (KG (Br hr) (pv 2) (pv 0) ⟨rfl,rfl,rfl,rfl⟩) AD)))))))))),?_⟩
 have g2:=ok.g2;have g9:=ok.g9;obtain⟨hn,hl⟩:=DJ g2 ok.len fw;refine Av λN hN=>?_;walk_at "rd";refine⟨r,g,lo,tab,m,lf,tf,mf,rfl,ok,fw,tb,λs9 d H1 ls A s1 tb1 hd hls w1 g1 rp lA=>hN _ _ ?_,hbig⟩;clear hN N;have h9:tf.length/g.toNat<=9:=by lia
 have ok1:=ok.sameT s1 tb;have cA:A.length<=512:=Xa (DY rp.nd lA) (FG h9);refine Av λN hN=>?_;walk_at "rd";refine⟨by decide,λe he=>?_⟩;have e1:=AG.new he (.lst [V.int 0]);refine⟨d,e,ls,A,AL g tf,[0],rfl,.inl (e1 _ _ w1),g1.same e1,rp.nd,rp.cl,cA,λa _=>by rw[BS];lia,AC,by decide,λo H2 d2 M f e2 hd2 w2 fi=>hN _ _ ?_⟩;clear hN N;have s2:BW t.p_7 H H2:=((s1.trans e1.t).into hd _).trans e2.t;have tb2:BC LP (Da "sets_reached") t.p_7 H2:=((tb1.same e1).into (e1 _ _ w1) (λ_ z=>by cases z) (λ_ z=>by cases z)).same e2;have dZ:H2 d=some (.frz o (.dK (Ai A (ls.map V.ref)))):=e2 _ _ AC;have dn:d∉ls:=g1.out λxs z=>by rw[w1]at z;cases z
 have g2':=((g1.same e1).keep dn (.frz o (.dK (Ai A (ls.map V.ref))))).same e2;walk_at "rd";refine⟨_,rfl,d,_,A,true,rfl,rfl,.inr ⟨o,dZ⟩,Kh (by rw[Wq];exact g1.n),λl Z hl' pZ oZ=>⟨l,rfl,⟨_,Ab.of AC⟩,λD hD=>?_⟩⟩;have e3:=AG.new hl' (.lst (Z.map V.int));have z3:Ae H2 l (.lst (Z.map V.int)) l=some (.lst (Z.map V.int)):=AC;generalize Ae H2 l (.lst (Z.map V.int))=H3 at e3 z3 hD⊢;have s3:=s2.trans e3.t;have tb3:=tb2.same e3;have d3:=e3 _ _ dZ;have w3:=e3 _ _ w2;have g3:=g2'.same e3
 have nx:∀{HX:Hp} {x:Int},AG H3 HX->x∈A->∃l,l∈ls/\Cy HX d (.int x) (some (.ref l))/\H3 l=some (.lst ((AL g tf x).map V.int)):=λ{HX x} e hx=>by obtain⟨i,hi⟩:=C6 hx;obtain⟨l,hl⟩:=Ft g3.n hi;exact⟨l,Wy hl,.inl ⟨_,Sum.inl x,.inr ⟨o,e _ _ d3⟩,rfl,by rw[Bi rp.nd hi (by rw[W0,hl];rfl)]⟩,g3.e i x l hi hl⟩
 have lZ:Z.length=A.length:=pZ.length_eq;refine EM (xs:=Z.map V.int) (λi acc Hx=>∃ts:List Addr,acc=ts.map V.ref/\ts.length=i/\AG H3 Hx/\Hx D=some (.lst acc)/\(∀t∈ts,H3 t=none)/\∀(j:Nat) (t:Addr) (z:Int),ts[j]?=some t->Z[j]?=some z->∃l,l∈ls/\Hx t=some (.tup [.int z,.ref l,Fu (BH M f z)])/\H3 l=some (.lst ((AL g tf z).map V.int))) ⟨[],rfl,rfl,AG.new hD _,AC,λt h=>qG h List.not_mem_nil,λj t z h=>by simp at h⟩ (λi acc Hx _ z=>by obtain⟨_,_,_,e,_⟩:=z;exact Ab.of (e _ _ z3)) ?_ ?_
 ·rintro i v acc Hx hv ⟨ts,rfl,tl,ex,hDx,tn,hts⟩;obtain⟨x,hx,rfl⟩:=CA hv;have xi:=(Ws.mp hx).1;obtain⟨l2,ml2,dg,hl2⟩:=nx ex (pZ.mem_iff.mp (Wy hx));dsimp only[LI];rw[qF rfl];refine⟨_,rfl,_,rfl,_,rfl,d,.ref l2,rfl,dg,_,rfl,d2,rfl,.inl ⟨_,.inl (ex _ _ w3)⟩,_,rfl,_,Cy.k (k:=Sum.inl x) (ex _ _ w3),X7 (AW (show 3<=1000 by decide)),λt ht=>?_⟩;rw[Qj fi.nd];have f4:=AG.new ht (.tup [V.int x,.ref l2,Fu (BH M f x)]);have tD:D≠t:=λz=>by rw[<-z,hDx]at ht;cases ht
  refine⟨f4 _ _ hDx,by rw[Wq];exact AW (by lia),ts++[t],by rw[W3];rfl,by rw[W1,tl];rfl,(ex.trans f4).into hD,AC,λt' ht'=>(Ww.mp ht').elim (tn t') λz=>by rw[Wr.mp z];exact ex.free ht,λj t' z h1 h2=>?_⟩
  by_cases jl:j<ts.length
  ·rw[XX jl]at h1;obtain⟨l,ml,k1,k2⟩:=hts j t' z h1 h2;exact⟨l,ml,by rw[AI λy=>by rw[y,hDx]at k1;cases k1];exact f4 _ _ k1,k2⟩
  ·rw[XB (by lia)]at h1
   obtain⟨y1,y2⟩:j=ts.length/\t=t':=by
    rcases Yk (j-ts.length) with z|z
    ·rw[z]at h1;exact⟨by lia,Option.some.inj h1⟩
    ·rw[List.getElem?_eq_none (by simp only[List.length_singleton];lia)]at h1;cases h1
   subst y2;rw[y1,tl,hx]at h2;cases h2;exact⟨l2,ml2,by rw[AI (Ne.symm tD)];exact AC,hl2⟩
 ·rintro acc Hx ⟨ts,rfl,tl,ex,hDx,tn,hts⟩;refine hsm s9 A M f Z rp fi pZ oZ D Hx (s3.trans ex.t) (tb3.same ex) (s3.free tb3 hD) ⟨ts,hDx,by rw[tl,Wq],λt h=>s3.free tb3 (tn t h),λj t z h1 h2=>by obtain⟨l,ml,k1,k2⟩:=hts j t z h1 h2;exact⟨l,hls l ml,k1,ex _ _ k2⟩⟩
theorem VM:AK ["one"] ["one"] (AH TJ):=Ch (by decide +kernel)
theorem VN(T:Ce K mg t)(G_13:Aw P w K mg base 12 t.f_13 ["one"] (EH t.c_40 LP t.p_7)):Aw P w K mg base 13 t.f_57 ["one"] (JQ t.c_40 LP t.p_7):=by
 refine DI T.d_57 VM (λ_ _ _ _ _ _=>b1 λ_=>rfl) λvs H Q E h=>?_;obtain⟨r,g,lo,tab,m,lf,tf,mf,rfl,ok,fw,tb,hsm,hbig⟩:=h;refine⟨rfl,λcdv A outer s hr=>?_⟩;refine⟨_,(AE (AQ (Bk Eh (AR AY (AR A9 (BF G_13 (hr.mono (by decide)) rfl T.m_13 Au (AA (pv 0) AD)) AF (λ_ _=>rfl)) AF (λ_ _=>rfl)) Cn (AN _)))),?_⟩;walk_at "rd";refine⟨r,g,lo,tab,m,lf,tf,mf,rfl,ok,fw,tb,λs9 A M f Z rp fi pZ oZ p H1 s1 tb1 hp pv=>?_,hbig⟩;have g2:=ok.g2;have g9:=ok.g9
 obtain⟨Z',rfl⟩:=HJ g2 rp (λa ha=>by
  have z:=(rp.co a ha).low (N:=2^(tf.length/g.toNat)) (λs hs=>by rw[Wr.mp hs];exact G9 g tf) (λx h1 h2 y hy=>((Et g9 tf) x h1 h2).2 y hy);refine⟨z.1,?_⟩;unfold Ag;have y:(2:Int)^(tf.length/g.toNat)=((2^(tf.length/g.toNat):Nat):Int):=by rw[ZZ];rfl
  lia) pZ oZ
 obtain⟨ts,h1,h2,_,h3⟩:=pv
 obtain⟨t0,ts',rfl⟩:∃t0 ts',ts=t0::ts':=by
  cases ts with
  |nil=>simp at h2
  |cons a b=>exact⟨a,b,rfl⟩
 obtain⟨l,_,k1,k2⟩:=h3 0 t0 _ rfl rfl;refine⟨p,_,0,V.ref t0,rfl,rfl,Ab.of h1,(show Ia _ ((0:Nat):Int)=_ from Cf rfl),t0,_,2,_,rfl,rfl,BL.of k1,rfl,?_⟩
 have e:decide (Fu (BH M f (Ag g tf))=V.non)=decide (Ag g tf∉M):=by
  unfold BH
  by_cases z:Ag g tf∈M
  ·rw[qF z,qI (λy=>by cases y),qI (λy=>y z)]
  ·rw[qE z,qH (show Fu none=V.non from rfl),qH z]
 dsimp only;rw[e];exact hsm s9 A M f rp fi H1 s1 tb1
theorem Hg:AK ["one","nexts","left","some","stretch","sign"] ["one"] (AH TK):=Ch (by decide +kernel)
theorem VO(T:Ce K mg t)(G_7:Aw P w K mg base 11 t.f_7 ["one"] (GL t.c_40 LP t.p_7))(G_6:Aw P w K mg base 2 t.f_6 ["nexts","ends"] (JK))(G_23:Aw P w K mg base 10 t.f_23 ["one"] (GJ t.c_40)):Aw P w K mg base 12 t.f_56 ["one"] (JL t.c_40 LP t.p_7):=by
 refine DI T.d_56 Hg (λ_ _ _ _ _ _=>b1 λ_=>rfl) λvs H Q E h=>?_;obtain⟨r,g,lo,tab,m,lf,tf,mf,rfl,ok,fw,tb,hsm,hbig⟩:=h;refine⟨rfl,λcdv A outer s hr=>?_⟩
 refine⟨_,(AB (AS 1 Hg (BF G_7 (hr.mono (by decide)) rfl T.m_7 Au (AA (pv 0) AD)))
  (AB (AS 2 Hg (Af hr G_6 T.m_6 (AA (pv 1) (AA (BR (BO AD)) AD))))
  (AB (AS 3 Hg (BF G_23 (hr.mono (by decide)) rfl T.m_23 Au (AA (pv 0) AD)))
  (AB (Ak (GR (DV (Br hr) (pv 3) (pv 2))) (AE (AQ Cn)) AX)
  (AB (AS 4 Hg (BR AD))
  (AB (PS.nox (B7 PassesOwn.never (AM Hz (pv 3) AF (AN _)) (AB (AS 5 Hg (CO XF PySem.F.slot_list_index PySem.F.type_list_index Ov (Ef [(2,"left")] [("left",_)] (BK (CI (Br hr) (pv 1) (pv 3) (λ_ _=>rfl))) (λ_ _ _ _=>Bw) (λ_ _ _ _=>(KG (Br hr) (pv 1) (pv 0) ⟨rfl,rfl,rfl,rfl⟩))) (AA (AJ Bq (CI (Br hr) (pv 2) (pv 3) (λ_ _=>rfl)) AF) AD)))
  (AB (A8 (CO XF XU XV BP (pv 4) (AA (pv 5) AD)))
  (AE (AS 3 Hg (AR A9 (CI (Br hr) (pv 1) (pv 3) (λ_ _=>rfl)) (pv 5) (λ_ _=>rfl))))))))
  (AE (AQ (pv 4))))))))),?_⟩
 have g2:=ok.g2;have g9:=ok.g9;obtain⟨hn,hl⟩:=DJ g2 ok.len fw;refine Av λN hN=>?_;walk_at "rd";refine⟨r,g,lo,tab,m,lf,tf,mf,rfl,ok,fw,tb,λs9 d H1 ls A s1 tb1 hd hls w1 g1 rp lA=>hN _ _ ?_,hbig⟩;clear hN N;have h9:tf.length/g.toNat<=9:=by lia
 have ok1:=ok.sameT s1 tb;have cA:A.length<=512:=Xa (DY rp.nd lA) (FG h9);refine Av λN hN=>?_;walk_at "rd";refine⟨by decide,λe he=>?_⟩;have e1:=AG.new he (.lst [V.int 0]);refine⟨d,e,ls,A,AL g tf,[0],rfl,.inl (e1 _ _ w1),g1.same e1,rp.nd,rp.cl,cA,λa _=>by rw[BS];lia,AC,by decide,λo H2 d2 M f e2 hd2 w2 fi=>hN _ _ ?_⟩;clear hN N;have eD:H e=none:=s1.free tb1 he;have s2:BW t.p_7 H H2:=((s1.trans e1.t).into hd _).trans e2.t;have tb2:BC LP (Da "sets_reached") t.p_7 H2:=((tb1.same e1).into (e1 _ _ w1) (λ_ z=>by cases z) (λ_ z=>by cases z)).same e2;have ok2:=ok.sameT s2 tb;have dZ:H2 d=some (.frz o (.dK (Ai A (ls.map V.ref)))):=e2 _ _ AC;have dn:d∉ls:=g1.out λxs z=>by rw[w1]at z;cases z
 have g2':=((g1.same e1).keep dn (.frz o (.dK (Ai A (ls.map V.ref))))).same e2;have hh:(g^(mf-1)).toNat=tf.length/g.toNat:=by rw[<-hn,XC]
 refine Av λN hN=>?_;walk_at "rd";refine⟨r,g,lo,tab,m,lf,tf,mf,rfl,ok2,fw,λ_ H3 e3=>hN _ _ ?_,λz=>by lia⟩;clear hN N;rw[hh];have s3:=s2.trans e3.t;have tb3:=tb2.same e3;have w3:=e3 _ _ w2;have d3:=e3 _ _ dZ;have g3:=g2'.same e3;obtain⟨qn,qs⟩:=hsm s9 A M f rp fi;have rdd:∀{HX:Hp},AG H3 HX->Rd HX d (.dK (Ai A (ls.map V.ref))):=λe=>.inr ⟨o,e _ _ d3⟩
 have nx:∀{HX:Hp} {x:Int},AG H3 HX->x∈A->∃l,Cy HX d (.int x) (some (.ref l))/\HX l=some (.lst ((AL g tf x).map V.int)):=λ{HX x} e hx=>by obtain⟨i,hi⟩:=C6 hx;obtain⟨l,hl⟩:=Ft g3.n hi;exact⟨l,.inl ⟨_,Sum.inl x,rdd e,rfl,by rw[Bi rp.nd hi (by rw[W0,hl];rfl)]⟩,e _ _ (g3.e i x l hi hl)⟩
 refine Ct (λσ HX=>(∃x4 x5,σ=[some (.ref r),some (.ref d),some (.ref d2),some (.int (Ag g tf)),x4,x5])/\HX=H3/\Ag g tf∈M) (λN hN=>?_) ?_
 ·refine⟨_,rfl,_,rfl,d2,_,rfl,Cy.k (k:=Sum.inl (Ag g tf)) w3,_,rfl,?_⟩;rw[C7 (by rw[Wq]) fi.nd]
  by_cases z:Ag g tf∈M
  ·rw[qH z];exact My (hN _ _ ⟨⟨_,_,rfl⟩,rfl,z⟩)
  ·rw[qI z];exact Py (qn z _ s3 tb3)
 rintro σ HX ⟨⟨x4,x5,rfl⟩,rfl,fm⟩;refine Av λN hN=>?_;walk_at "rd";refine⟨by decide,λD hD=>hN _ _ ?_⟩;clear hN N;have DH:H D=none:=s3.free tb3 hD;refine Ct (λσ HY=>(∃x3 x5,σ=[some (.ref r),some (.ref d),some (.ref d2),x3,some (.ref D),x5])/\AG HX HY/\HY D=some (.lst ((Bz (AL g tf) (BH M f) (f (Ag g tf)) (Ag g tf)).map V.int))) (λN hN=>?_) ?_
 ·refine⟨λn σ HY=>∃(x:Int) (L:List Int),(∃x5,σ=[some (.ref r),some (.ref d),some (.ref d2),some (.int x),some (.ref D),x5])/\AG HX HY/\HY D=some (.lst (L.map V.int))/\x∈M/\f x=n/\L.length+n<=2000/\L++Bz (AL g tf) (BH M f) n x=Bz (AL g tf) (BH M f) (f (Ag g tf)) (Ag g tf),⟨_,Ag g tf,[],⟨_,rfl⟩,AG.new hD _,AC,fm,rfl,?_,rfl⟩,?_⟩
  ·have:=fi.low fm;rw[Ym,Nat.zero_add];simp only[List.length_cons,List.length_nil]at this;lia
  rintro n σ HY ⟨x,L,⟨x5,rfl⟩,eY,hY,xM,rfl,lL,eL⟩;refine⟨_,rfl,rfl,_,rfl,?_⟩;dsimp only
  by_cases x0:x=0
  ·rw[qE (by rw[x0];decide)];have f0:f x=0:=by rw[x0];exact (fi.ends 0 (Wr.mpr rfl)).2
   rw[f0,show Bz (AL g tf) (BH M f) 0 x=[] from rfl,Xn]at eL;exact hN _ _ ⟨⟨_,_,rfl⟩,eY,by rw[<-eL];exact hY⟩
  rw[qF (by rw[qI (λz=>x0 (V.int.inj z))];rfl)]
  obtain⟨n,hn1⟩:∃n,f x=n+1:=⟨f x-1,by
   have:f x≠0:=λz=>x0 (Wr.mp (fi.zero x xM z))
   lia⟩
  obtain⟨xA,q0,hq0,q0M,fq0⟩:=fi.down x xM n hn1;obtain⟨z,z1,z2,z3,z4,z5⟩:=Lk (F:=AL g tf) (fo:=BH M f) hq0 (n:=n) (by unfold BH;rw[qF q0M,fq0])
  have zM:z∈M/\f z=n:=by
   unfold BH at z2
   split at z2
   ·exact⟨‹_›,Option.some.inj z2⟩
   ·cases z2
  rw[hn1]at eL lL⊢;refine⟨λσ' H'=>∃m',m'<n+1/\∃(x:Int) (L:List Int),(∃x5,σ'=[some (.ref r),some (.ref d),some (.ref d2),some (.int x),some (.ref D),x5])/\AG HX H'/\H' D=some (.lst (L.map V.int))/\x∈M/\f x=m'/\L.length+m'<=2000/\L++Bz (AL g tf) (BH M f) m' x=Bz (AL g tf) (BH M f) (f (Ag g tf)) (Ag g tf),λ_ _ h=>h,?_⟩;refine Ct (λσ HZ=>σ=[some (.ref r),some (.ref d),some (.ref d2),some (.int x),some (.ref D),some (.int ((Cc (AL g tf) (BH M f) n x:Nat):Int))]/\AG HX HZ/\HZ D=some (.lst (L.map V.int))) (λN2 hN2=>?_) ?_
  ·obtain⟨l,dg,hl'⟩:=nx eY xA;refine⟨_,rfl,_,rfl,d,.ref l,rfl,dg,l,rfl,⟨_,Ab.of hl'⟩,λD2 hD2=>?_⟩;refine EM (xs:=(AL g tf x).map V.int) (λi acc Hx=>acc=((AL g tf x).take i).map (λy=>(CY (DP M f) (Sum.inl y)).getD .non)/\AG HY Hx/\Hx D2=some (.lst acc)) ⟨rfl,AG.new hD2 _,AC⟩ (λi acc Hx _ z=>Ab.of (z.2.1 _ _ hl')) ?_ ?_
   ·rintro i y acc Hx hy ⟨rfl,ex,h2⟩;obtain⟨y,hyi,rfl⟩:=CA hy;dsimp only[LI];rw[qF rfl];have w4:=ex _ _ (eY _ _ w3);refine⟨_,rfl,d2,rfl,.inl ⟨_,.inl w4⟩,_,rfl,_,Cy.k (k:=Sum.inl y) w4,h2,?_,?_,ex.into hD2,AC⟩
    ·rw[Wq,XR,BS];exact AW (by lia)
    ·rw[Xw,hyi,W3];rfl
   ·rintro acc Hx ⟨rfl,ex,h2⟩;rw[Wq,XZ]at h2
    have get:∀y,(CY (DP M f) (Sum.inl y)).getD .non=match BH M f y with|some k=>V.int ((k:Nat):Int)|none=>.non:=λy=>by
     rw[HD fi.nd];unfold BH
     split<;>rfl
    have w4:=ex _ _ (eY _ _ w3);refine⟨.inl ⟨rfl,_,Ab.of h2⟩,_,rfl,_,rfl,d2,.int ((f x:Nat):Int),rfl,?_,_,_,rfl,rfl,D2,_,((n:Nat):Int),Cc (AL g tf) (BH M f) n x,rfl,?_,h2,?_,?_,?_,?_⟩
    ·have:=Cy.k (k:=Sum.inl x) w4;rw[HD fi.nd,qF xM]at this;exact this
    ·rw[hn1];show[V.int (((n+1:Nat):Int)-1)]=_;rw[show ((n+1:Nat):Int)-1=(n:Int) by lia]
    ·intro y hy;obtain⟨k,_,rfl⟩:=XT.mp hy;rw[get]
     split<;>trivial
    ·rw[W0,z1];show some ((CY (DP M f) (Sum.inl z)).getD .non)=_;rw[get,z2]
    ·intro k hk y hy;rw[W0]at hy;obtain⟨y',h1,rfl⟩:=XS.mp hy;rw[get];have:=z5 k hk y' h1;split
     ·rename_i k' hk'
      show (((k':Nat):Int)==(n:Int))=false;rw[beq_eq_false_iff_ne];intro z;exact this (by rw[hk',show k'=n by lia])
     ·rfl
    ·exact hN2 _ _ ⟨rfl,eY.trans ex,ex _ _ hY⟩
  rintro σ HZ ⟨rfl,eZ,hZ⟩;refine Av λN2 hN2=>?_;walk_at "rd";refine⟨.inl ⟨_,Ab.of hZ⟩,_,hZ,by rw[Wq];exact Yj (Xa (Yd ..) lL) (by decide),hN2 _ _ ?_⟩;clear hN2 N2;have eW:AG HX (Ae HZ D (.lst (L.map V.int++[V.int ((Cc (AL g tf) (BH M f) n x:Nat):Int)]))):=eZ.into hD;have hW:Ae HZ D (.lst (L.map V.int++[V.int ((Cc (AL g tf) (BH M f) n x:Nat):Int)])) D=some (.lst ((L++[((Cc (AL g tf) (BH M f) n x:Nat):Int)]).map V.int)):=by rw[AC,W3];rfl
  generalize Ae HZ D (.lst (L.map V.int++[V.int ((Cc (AL g tf) (BH M f) n x:Nat):Int)]))=HW at eW hW⊢;obtain⟨l,dg,hl'⟩:=nx eW xA;refine⟨_,rfl,_,rfl,d,.ref l,rfl,dg,_,rfl,l,_,_,_,rfl,rfl,Ab.of hl',Cf (by rw[W0,z1];rfl),n,Nat.lt_succ_self n,z,L++[((Cc (AL g tf) (BH M f) n x:Nat):Int)],⟨_,rfl⟩,eW,hW,zM.1,zM.2,?_,?_⟩
  ·rw[W1,XM];lia
  ·rw[<-eL,XW];show L++([((Cc (AL g tf) (BH M f) n x:Nat):Int)]++Bz (AL g tf) (BH M f) n z)=L++(((Cc (AL g tf) (BH M f) n x:Nat):Int)::Bz (AL g tf) (BH M f) n ((AL g tf x).getD (Cc (AL g tf) (BH M f) n x) 0));rw[z3];rfl
 rintro σ HY ⟨⟨x3,x5,rfl⟩,eY,hY⟩;walk_at "rd";exact qs fm D HY (s3.trans eY.t) (tb3.same eY) DH hY
theorem VP:AK ["_law_found"] ["_law_found"] (AH TL):=Ch (by decide +kernel)
theorem VQ(T:Ce K mg t) :Aw P w K mg base 1 t.f_20 ["_law_found"] (Dh):=by
 refine BJ T.d_20 VP (λ_ _ _ _ _ _=>b1 λ_=>rfl) λvs H Q E h=>?_;obtain⟨x,rfl,kd,q⟩:=h;refine⟨rfl,λcdv A outer s hr=>?_⟩;refine⟨_,(AE (AQ (FO (CS rfl T.z_isinstance (pv 0) (Dw rfl T.z_int PyProof.Rows.boot_int)) (GS (Nt (CS rfl T.z_isinstance (pv 0) (Dw rfl T.z_bool PyProof.Rows.boot_bool))))))),?_⟩;walk_at "rd";cases x with
 |int i =>
  refine⟨_,.of (.int i),_,Q3,?_⟩;rw[qF rfl];exact⟨_,.of (.int i),_,Q4,q⟩
 |bl b =>
  refine⟨_,.of (.bl b),_,Q5,?_⟩;rw[qF rfl];exact⟨_,.of (.bl b),_,MK,q⟩
 |non =>
  refine⟨_,.of .non,_,Q6,?_⟩;rw[qE (by decide)];exact q
 |str y =>
  refine⟨_,.of (.str y),_,Q7,?_⟩;rw[qE (by decide)];exact q
 |ref a =>
  obtain⟨xs,z|z⟩:=kd
  ·refine⟨_,.of (.lst z),_,Q8,?_⟩;rw[qE (by decide)];exact q
  ·refine⟨_,.of (.tup z),_,RA,?_⟩;rw[qE (by decide)];exact q
 |byt _=>exact kd.elim
 |flt _=>exact kd.elim
 |ty _=>exact kd.elim
theorem WY:AK ["_law_script","_law_k"] ["_law_script","_law_k"] (AH WL):=Ch (by decide +kernel)
theorem WZ(T:Ce K mg t) :Aw P w K mg base 1 t.f_2 ["_law_script","_law_k"] (Ik K):=by
 refine BJ T.d_2 WY (λ_ _ _ _ _ _=>b2 λ_ _=>rfl) λvs H Q E h=>?_;obtain⟨a,ns,k,rfl,hS,h63,q⟩:=h;refine⟨rfl,λcdv A outer s hr=>?_⟩
 refine⟨_,(AB (Ak (AM Ex (pv 1) (Aa AO rfl T.z_len XH (AA (pv 0) AD)) (AN _)) (AE (AQ (AR A9 (pv 0) (pv 1) (λ_ _=>rfl)))) AX)
  (AE (AQ AF))),?_⟩
 walk_at "rd";refine⟨_,.inl hS,?_⟩;rw[Wq]
 by_cases h:(k:Int)<(ns.length:Int)
 ·rw[qF h];have hk:k<ns.length:=by lia
  refine⟨a,_,k,.int (ns.getD k 0),rfl,rfl,hS,Cf ?_,q⟩;rw[W0,Wx hk,Wt,Wx hk];rfl
 ·rw[qE h];have e:ns.getD k 0=0:=by rw[Wt,ZK (by lia)];rfl
  rw[e]at q;exact q
theorem Kt:AK ["_law_cell","_law_many","_law_found","_law_number","_law_k"] ["_law_cell","_law_many"] (AH TM):=Ch (by decide +kernel)
theorem VR(T:Ce K mg t) :Aw P w K mg base 1 t.f_10 ["_law_cell","_law_many"] (Fi):=by
 refine BJ T.d_10 Kt (λ_ _ _ _ _ _=>b2 λ_ _=>rfl) λvs H Q E h=>?_;obtain⟨c,m,rfl,m0,m3,q⟩:=h;refine⟨rfl,λcdv A outer s hr=>?_⟩
 refine⟨_,(AB (AS 2 Kt (BR AD))
  (AB (AS 3 Kt (AJ BD (AJ As (pv 0) AF) AF))
  (AB (Ar PassesOwn.never rfl (Ah rfl T.z_range (AA (pv 1) AD)) (BG 4 Kt) (AB (AS 3 Kt (AJ As (AJ BD (AJ BD (AJ B6 (pv 3) AF) (AJ B6 (pv 4) (pv 4))) AF) AF))
  (AE (A8 (CO XF XU XV BP (pv 2) (AA (AJ Ax (pv 3) AF) AD))))))
  (AE (AQ (pv 2)))))),?_⟩
 walk_at "rd";refine⟨XO _,λp hp=>⟨by decide,?_⟩⟩;refine⟨_,rfl,m,rfl,by lia,by lia,?_⟩;refine BZ (n:=m.toNat) (λi σ H1=>∃(l:List Int) (x3:Int) (x4:Option V),(l.length=i/\∀x∈l,0<=x/\x<2147483647)/\σ=[some (.int c),some (.int m),some (.ref p),some (.int x3),x4]/\H1=Ae H p (.lst (l.map V.int))) ⟨[],_,none,⟨rfl,λx h=>by cases h⟩,rfl,rfl⟩ ?_ ?_
 ·rintro i σ H1 hi ⟨l,x3,x4,⟨hl,hb⟩,rfl,rfl⟩;walk_at "rd";refine⟨.inr ⟨by decide,by decide⟩,.inl ⟨by lia,by lia⟩,by decide,.inl ⟨_,Ab.of AC⟩,by decide,by decide,_,AC,?_,l++[(x3*48271+(0+(i:Int))*(0+(i:Int))+11)%2147483647/7],?_,λx hx=>?_,?_⟩
  ·rw[Wq];exact AW (by lia)
  ·rw[W1,hl];rfl
  ·rcases Ww.mp hx with y|y
   ·exact hb x y
   ·rw[Wr.mp y];generalize x3*48271+(0+(i:Int))*(0+(i:Int))+11=u;lia
  ·rw[F5,W3];rfl
 ·rintro σ H1 ⟨l,x3,x4,⟨hl,hb⟩,rfl,rfl⟩;walk_at "rd";exact q p _ l hl hb (AG.new hp _) hp AC
theorem Mn:AK ["_law_signs","_law_many","_law_size","_law_k"] ["_law_signs","_law_many"] (AH TN):=Ch (by decide +kernel)
theorem VS(T:Ce K mg t) :Aw P w K mg base 1 t.f_17 ["_law_signs","_law_many"] (EO):=by
 refine BJ T.d_17 Mn (λ_ _ _ _ _ _=>b2 λ_ _=>rfl) λvs H Q E h=>?_;obtain⟨g,m,rfl,g2,g9,m0,m3,q⟩:=h;refine⟨rfl,λcdv A outer s hr=>?_⟩
 refine⟨_,(AB (AS 2 Mn AF)
  (AB (Ar PassesOwn.never rfl (Ah rfl T.z_range (AA (pv 1) AD)) (BG 3 Mn) (AE (AS 2 Mn (AJ B6 (pv 2) (pv 0)))))
  (AE (AQ (pv 2))))),?_⟩
 walk_at "rd";refine⟨_,rfl,m,rfl,by lia,by lia,?_⟩;refine BZ (n:=m.toNat) (λi σ H1=>∃x,σ=[some (.int g),some (.int m),some (.int (g^i)),x]/\H1=H) ⟨none,by rw[Xh],rfl⟩ ?_ ?_
 ·rintro i σ H1 hi ⟨x,rfl,rfl⟩;walk_at "rd";refine⟨.inr ⟨by lia,by lia⟩,?_⟩;rw[XJ];exact⟨rfl,_,rfl⟩
 ·rintro σ H1 ⟨x,rfl,rfl⟩;walk_at "rd";exact q
theorem RQ:AK ["_law_cell","_law_some"] ["_law_cell"] (AH TQ):=Ch (by decide +kernel)
theorem VT(T:Ce K mg t) :Aw P w K mg base 1 t.f_18 ["_law_cell"] (Fk):=by
 refine BJ T.d_18 RQ (λ_ _ _ _ _ _=>b1 λ_=>rfl) λvs H Q E h=>?_;obtain⟨c0,rfl,q⟩:=h;refine⟨rfl,λcdv A outer s hr=>?_⟩;refine Exists.intro (Kx (Jb (Nz (AV (CD (AV (tC (V.int 2)) (AV (tC (V.int 3)) Bs))) (AV (CD (AV (tC (V.int 2)) (AV (tC (V.int 4)) Bs))) (AV (CD (AV (tC (V.int 3)) (AV (tC (V.int 2)) Bs))) (AV (CD (AV (tC (V.int 2)) (AV (tC (V.int 4)) Bs))) (AV (CD (AV (tC (V.int 4)) (AV (tC (V.int 2)) Bs))) (AV (CD (AV (tC (V.int 3)) (AV (tC (V.int 3)) Bs))) (AV (CD (AV (tC (V.int 5)) (AV (tC (V.int 2)) Bs))) (AV (CD (AV (tC (V.int 2)) (AV (tC (V.int 2)) Bs))) (AV (CD (AV (tC (V.int 6)) (AV (tC (V.int 2)) Bs))) (AV (CD (AV (tC (V.int 3)) (AV (tC (V.int 1)) Bs))) (AV (CD (AV (tC (V.int 7)) (AV (tC (V.int 2)) Bs))) (AV (CD (AV (tC (V.int 8)) (AV (tC (V.int 2)) Bs))) Bs))))))))))))) (Cq 1)) (Kx (Pm (Ny (Nn V2 (Nn (rI (λ_ j=>0<j) λi j=>.int (i%j)) (Kw 0) (tC (.int 12))) (tC (.int 11)))) (Pl (CD (AV (Nn (No λi j=>.int (i+j)) (tC (.int 8)) (Nn (rI (λ_ j=>0<j) λi j=>.int (i%j)) (Nn (rI Rg λi j=>.int (i/j)) (Kw 0) (tC (.int 12))) (tC (.int 2)))) (AV (tC (.int 2)) Bs)))) Lv) (Pl (Nn (Rn K) (Kw 1) (Nn (rI (λ_ j=>0<j) λi j=>.int (i%j)) (Kw 0) (tC (.int 12))))))) (And.intro (E9.out ?d) ?_)
 case d =>
  refine Bp ?a ?c
  case c =>
   refine Bp ?i ?r
   case i =>
    refine JD ?i1 ?i2 GD
    case i1=>exact AM Bb (AJ As (pv 0) AF) AF (AN _)
    case i2 =>
     refine ER (Np.of ?i3);exact AQ (D1 (AA (AJ BD AF (AJ As (AJ Ax (pv 0) AF) AF)) (BO AD)))
   case r =>
    refine ER (Np.of ?r1);exact AQ (AR A9 (pv 1) (AJ As (pv 0) AF) (λ_ _=>rfl))
  case a =>
   refine Cw (i:=1) RQ.nd ?ah1 ?ah2 ?al ?ah3 ?ah4
   case ah1=>rfl
   case ah2=>exact Or.inl rfl
   case al =>
    refine QN ?_;refine Ba (Aj (Aj B3)) ?_;refine Ba (Aj (Aj B3)) ?_;refine Ba (Aj (Aj B3)) ?_;refine Ba (Aj (Aj B3)) ?_;refine Ba (Aj (Aj B3)) ?_;refine Ba (Aj (Aj B3)) ?_;refine Ba (Aj (Aj B3)) ?_;refine Ba (Aj (Aj B3)) ?_;refine Ba (Aj (Aj B3)) ?_;refine Ba (Aj (Aj B3)) ?_;refine Ba (Aj (Aj B3)) ?_;refine Ba (Aj (Aj B3)) ?_;exact B3
   case ah3=>rfl
   case ah4=>exact .inl rfl
 have z0:=Xj c0 (show (12:Int)≠0 by decide);have z1:=Xf c0 (show (0:Int)<12 by decide);refine Av λN hN=>?_;have eT:((AV (CD (AV (tC (V.int 2)) (AV (tC (V.int 3)) Bs))) (AV (CD (AV (tC (V.int 2)) (AV (tC (V.int 4)) Bs))) (AV (CD (AV (tC (V.int 3)) (AV (tC (V.int 2)) Bs))) (AV (CD (AV (tC (V.int 2)) (AV (tC (V.int 4)) Bs))) (AV (CD (AV (tC (V.int 4)) (AV (tC (V.int 2)) Bs))) (AV (CD (AV (tC (V.int 3)) (AV (tC (V.int 3)) Bs))) (AV (CD (AV (tC (V.int 5)) (AV (tC (V.int 2)) Bs))) (AV (CD (AV (tC (V.int 2)) (AV (tC (V.int 2)) Bs))) (AV (CD (AV (tC (V.int 6)) (AV (tC (V.int 2)) Bs))) (AV (CD (AV (tC (V.int 3)) (AV (tC (V.int 1)) Bs))) (AV (CD (AV (tC (V.int 7)) (AV (tC (V.int 2)) Bs))) (AV (CD (AV (tC (V.int 8)) (AV (tC (V.int 2)) Bs))) Bs)))))))))))):TA)=MW Ki:=rfl;rw[eT];refine SS (Os (by decide) (by decide) λqs H0 e0 hv ps hps=>hN _ _ ?_);clear hN N eT;obtain⟨k,hk⟩:∃k:Nat,(k:Int)=c0%12:=⟨(c0%12).toNat,by lia⟩;have kl:k<12:=by lia
 have e01:=AG.new hps (.lst (qs.map V.ref));obtain⟨sh,hqs⟩:∃b,qs[k]?=some b:=⟨_,Wx (by rw[hv.n];exact kl)⟩;obtain⟨g,m,hw,shp⟩:=Kj k kl;have hsh:Ae H0 ps (.lst (qs.map V.ref)) sh=some (.tup [.int g,.int ((m:Nat):Int)]):=e01 _ _ (hv.e k sh _ hqs hw);have hpsv:Ae H0 ps (.lst (qs.map V.ref)) ps=some (.lst (qs.map V.ref)):=AC;have e1:=e0.trans e01;generalize Ae H0 ps (.lst (qs.map V.ref))=H1 at e1 hsh hpsv⊢;have at1:Ia (qs.map V.ref) (c0%12)=some (.ref sh):=by rw[<-hk];exact Cf (by rw[W0,hqs];rfl)
 walk_at "rd";refine⟨by decide,?_⟩
 by_cases k11:c0%12=11
 ·rw[qF k11];have y0:=Xj (c0/12) (show (2:Int)≠0 by decide);have y1:=Xf (c0/12) (show (0:Int)<2 by decide);refine⟨by decide,by decide,by decide,by decide,λp9 hp9=>q p9 (8+c0/12%2) 2 _ (e1.trans (AG.new hp9 _)) AC ?_⟩;obtain z|z:c0/12%2=0\/c0/12%2=1:=by lia
  ·rw[z];unfold Bd;decide
  ·rw[z];unfold Bd;decide
 ·rw[qE k11];exact⟨by decide,ps,_,_,.ref sh,rfl,rfl,Ab.of hpsv,at1,q sh g m H1 e1 hsh shp⟩
theorem Fw:AK ["_law_signs","_law_many","_law_xs","_law_table_here","_law_at","_law_left_here","_law_told","_law_k"] ["_law_signs","_law_many","_law_xs"] (AH TR):=Ch (by decide +kernel)
theorem VU(T:Ce K mg t)(G_17:Aw P w K mg base 1 t.f_17 ["_law_signs","_law_many"] (EO)):Aw P w K mg base 2 t.f_29 ["_law_signs","_law_many","_law_xs"] (HK):=by
 refine BJ T.d_29 Fw (λ_ _ _ _ _ _=>b3 λ_ _ _=>rfl) λvs H Q E h=>?_;obtain⟨g,m,a,xs,rfl,g2,g9,m4,sz,ha,xl,xb,q⟩:=h;refine⟨rfl,λcdv A outer s hr=>?_⟩
 refine⟨_,(AB (AS 3 Fw (BR AD))
  (AB (Ar PassesOwn.never rfl (Ah rfl T.z_range (AA (Af hr G_17 T.m_17 (AA (pv 0) (AA (pv 1) AD))) AD)) (BG 4 Fw) (AB (AS 5 Fw (pv 4))
  (AB (AS 6 Fw (AR A9 (pv 2) AF (λ_ _=>rfl)))
  (AB (Ar PassesOwn.never rfl (Ah rfl T.z_range (AA (pv 1) AD)) (BG 7 Fw) (AB (AS 6 Fw (AJ BD (pv 6) (AJ B6 (AR A9 (pv 2) (AJ BD AF (pv 7)) (λ_ _=>rfl)) (AJ As (pv 5) (pv 0)))))
  (AE (AS 5 Fw (AJ Ax (pv 5) (pv 0))))))
  (AE (A8 (CO XF XU XV BP (pv 3) (AA (AJ As (pv 6) (pv 0)) AD))))))))
  (AE (AQ (pv 3))))),?_⟩
 have gp:=RW.Ap g2 m;refine Av λN hN=>?_;walk_at "rd";refine⟨by decide,λp hp=>hN _ _ ?_⟩;clear hN N;have e1:=AG.new hp (.lst []);refine Ct (λσ HX=>(∃x4 x5 x6 x7,σ=[some (.int g),some (.int ((m:Nat):Int)),some (.ref a),some (.ref p),x4,x5,x6,x7])/\∃tab,FU H HX p tab/\tab.length=(g^m).toNat/\∀n∈tab,0<=n/\n<g) (λN hN=>?_) ?_
 ·refine⟨_,rfl,_,rfl,g,_,rfl,g2,by lia,by lia,by lia,_,rfl,?_⟩;rw[XC];refine⟨by lia,by lia,?_⟩;refine BZ (n:=(g^m).toNat) (λi σ HX=>(∃x4 x5 x6 x7,σ=[some (.int g),some (.int ((m:Nat):Int)),some (.ref a),some (.ref p),x4,x5,x6,x7])/\∃acc,GN g i acc/\AG H HX/\HX p=some (.lst acc)) ⟨⟨_,_,_,_,rfl⟩,[],GN.nil,e1,AC⟩ ?_ ?_
  ·rintro i σ HX hi ⟨⟨x4,x5,x6,x7,rfl⟩,acc,sg,eX,hX⟩;have haX:=eX _ _ ha;refine Av λN2 hN2=>?_;walk_at "rd";refine hN2 _ _ ?_;clear hN2 N2;refine Av λN2 hN2=>?_;walk_at "rd";refine⟨a,_,0,_,rfl,rfl,Ab.of haX,C3 (z:=0) (by lia) (by rw[xl];decide),hN2 _ _ ?_⟩;clear hN2 N2;refine Ct (λσ HY=>HY=HX/\∃(y:Int) (z:Int) (x7:Option V),σ=[some (.int g),some (.int ((m:Nat):Int)),some (.ref a),some (.ref p),some (.int (0+(i:Int))),some (.int z),some (.int y),x7]) (λN2 hN2=>?_) ?_
   ·refine⟨_,rfl,_,rfl,by lia,by lia,?_⟩;refine BZ (n:=m) (λj σ HY=>HY=HX/\∃(y z:Int) (x7:Option V),0<=z/\z<=256/\σ=[some (.int g),some (.int ((m:Nat):Int)),some (.ref a),some (.ref p),some (.int (0+(i:Int))),some (.int z),some (.int y),x7]) ⟨rfl,_,_,_,by lia,by lia,rfl⟩ ?_ ?_
    ·rintro j σ HY hj ⟨rfl,y,z,x7,z0,z1,rfl⟩;have d0:0<=z/g:=YN z0 (by lia);have d1:z/g<=z:=ZP g z0;have m0:=Xj z (show g≠0 by lia);have m1:=Xf z (show 0<g by lia);walk_at "rd";refine⟨a,_,_,_,rfl,rfl,Ab.of haX,C3 (z:=1+(0+(j:Int))) (by lia) (by rw[xl];lia),by lia,_,rfl,.inr ⟨by lia,by lia⟩,by lia,by lia,rfl,_,_,d0,by lia,rfl,rfl,_,rfl⟩
    ·rintro σ HY ⟨rfl,y,z,x7,z0,z1,rfl⟩;exact hN2 _ _ ⟨rfl,y,z,x7,rfl⟩
   rintro σ HY ⟨rfl,y,z,x7,rfl⟩;walk_at "rd";exact⟨.inl ⟨_,Ab.of hX⟩,by lia,_,hX,sg.len (by lia),⟨_,rfl⟩,_,sg.snoc g2 y,eX.into hp,AC⟩
  ·rintro σ HX ⟨hσ,acc,⟨us,rfl,ul,ub⟩,eX,hX⟩;exact hN _ _ ⟨hσ,us,⟨eX,hp,hX⟩,ul,ub⟩
 rintro σ HX ⟨⟨x4,x5,x6,x7,rfl⟩,tab,n,l,b⟩;walk_at "rd";exact q p tab HX n l b
theorem FL:AK ["_law_signs","_law_many","_law_way","_law_xs","_law_size","_law_part","_law_table_here","_law_at"] ["_law_signs","_law_many","_law_way","_law_xs"] (AH TU):=Ch (by decide +kernel)
theorem VW(T:Ce K mg t)(G_17:Aw P w K mg base 1 t.f_17 ["_law_signs","_law_many"] (EO))(G_29:Aw P w K mg base 2 t.f_29 ["_law_signs","_law_many","_law_xs"] (HK)):Aw P w K mg base 3 t.f_19 ["_law_signs","_law_many","_law_way","_law_xs"] (Fj):=by
 refine BJ T.d_19 FL (λ_ _ _ _ _ _=>b4 λ_ _ _ _=>rfl) λvs H Q E h=>?_;obtain⟨g,m,way,a,xs,rfl,g2,g9,m1,m4,sz,w0,ha,xl,xb,q⟩:=h;refine⟨rfl,λcdv A outer s hr=>?_⟩
 refine⟨_,(AB (AS 4 FL (Af hr G_17 T.m_17 (AA (pv 0) (AA (pv 1) AD))))
  (AB (AS 5 FL (AJ Ax (pv 4) (pv 0)))
  (AB (Ak (PW.pt (CN (AM Bb (pv 2) AF (AN _)) (CF (AM Bb (pv 2) AF (AN _))))) (AE (Cu (iy:=6) (fv:=[(3,"_law_xs"),(0,"_law_signs")]) (cl:=[("_law_xs",_),("_law_signs",_)]) rfl FL.nd rfl (Or.inl rfl) (Ah rfl T.z_range (AA (pv 4) AD)) (by with_unfolding_all rfl) (by with_unfolding_all rfl) (by decide +kernel) rfl (by decide +kernel) rfl ⟨(by with_unfolding_all rfl),⟨(by with_unfolding_all rfl),trivial⟩⟩ (by with_unfolding_all rfl) ⟨⟨rfl,rfl,(by with_unfolding_all rfl),rfl⟩,⟨⟨rfl,rfl,(by with_unfolding_all rfl),rfl⟩,trivial⟩⟩ (by decide) (λ_ _ _ _=>Bw) (λ_ _ _ _=>(AJ As (AJ BD (AR (B9 (K:=K) rfl) (pv 1) (AJ Ax (pv 0) (pv 2)) (λ_ _=>rfl)) (AJ As (pv 0) (pv 2))) (pv 2))))) (AE (Ak (PW.pt (CN (AM Bb (pv 2) AF (AN _)) (CF (AM Bb (pv 2) AF (AN _))))) (AE (Cu (iy:=6) (fv:=[(3,"_law_xs"),(0,"_law_signs"),(5,"_law_part")]) (cl:=[("_law_xs",_),("_law_signs",_),("_law_part",_)]) rfl FL.nd rfl (Or.inl rfl) (Ah rfl T.z_range (AA (pv 4) AD)) (by with_unfolding_all rfl) (by with_unfolding_all rfl) (by decide +kernel) rfl (by decide +kernel) rfl ⟨(by with_unfolding_all rfl),⟨(by with_unfolding_all rfl),⟨(by with_unfolding_all rfl),trivial⟩⟩⟩ (by with_unfolding_all rfl) ⟨⟨rfl,rfl,(by with_unfolding_all rfl),rfl⟩,⟨⟨rfl,rfl,(by with_unfolding_all rfl),rfl⟩,⟨⟨rfl,rfl,(by with_unfolding_all rfl),rfl⟩,trivial⟩⟩⟩ (by decide) (λ_ _ _ _=>Bw) (λ_ _ _ _=>(AJ As (AJ BD (AR (B9 (K:=K) rfl) (pv 1) (AJ As (pv 0) (pv 3)) (λ_ _=>rfl)) (AJ Ax (pv 0) (pv 3))) (pv 2))))) (AE (Ak (AM Bb (pv 2) AF (AN _)) (AE (Cu (iy:=6) (fv:=[(3,"_law_xs"),(0,"_law_signs")]) (cl:=[("_law_xs",_),("_law_signs",_)]) rfl FL.nd rfl (Or.inl rfl) (Ah rfl T.z_range (AA (pv 4) AD)) (by with_unfolding_all rfl) (by with_unfolding_all rfl) (by decide +kernel) rfl (by decide +kernel) rfl ⟨(by with_unfolding_all rfl),⟨(by with_unfolding_all rfl),trivial⟩⟩ (by with_unfolding_all rfl) ⟨⟨rfl,rfl,(by with_unfolding_all rfl),rfl⟩,⟨⟨rfl,rfl,(by with_unfolding_all rfl),rfl⟩,trivial⟩⟩ (by decide) (λ_ _ _ _=>Bw) (λ_ _ _ _=>(AJ B6 (CQ LJ rfl T.z_int PyProof.Rows.boot_int (AA (Bk Bb (AJ As (AR (B9 (K:=K) rfl) (pv 1) (pv 0) (λ_ _=>rfl)) AF) AF (AN _)) AD)) (AJ As (AJ Ax (AR (B9 (K:=K) rfl) (pv 1) (pv 0) (λ_ _=>rfl)) AF) (pv 2)))))) (AE (Ak (AM Bb (pv 2) AF (AN _)) (AE (AS 6 FL (Af hr G_29 T.m_29 (AA (pv 0) (AA (pv 1) (AA (pv 3) AD)))))) (AE (Cu (iy:=6) (fv:=[(3,"_law_xs"),(0,"_law_signs")]) (cl:=[("_law_xs",_),("_law_signs",_)]) rfl FL.nd rfl (Or.inl rfl) (Ah rfl T.z_range (AA (pv 4) AD)) (by with_unfolding_all rfl) (by with_unfolding_all rfl) (by decide +kernel) rfl (by decide +kernel) rfl ⟨(by with_unfolding_all rfl),⟨(by with_unfolding_all rfl),trivial⟩⟩ (by with_unfolding_all rfl) ⟨⟨rfl,rfl,(by with_unfolding_all rfl),rfl⟩,⟨⟨rfl,rfl,(by with_unfolding_all rfl),rfl⟩,trivial⟩⟩ (by decide) (λ_ _ _ _=>Bw) (λ_ _ _ _=>(AJ As (AR (B9 (K:=K) rfl) (pv 1) (pv 0) (λ_ _=>rfl)) (pv 2))))))))))))
  (AB (Ak (PW.pt (CN (AM Bb (pv 2) AF (AN _)) (CF (AM Bb (pv 2) AF (AN _))))) (AB (AS 7 FL (AJ As (AR A9 (pv 3) (Jd GX AF) (λ_ _=>rfl)) (pv 4)))
  (AE (Kz (AJ As (AJ BD (AJ BD (AR A9 (pv 6) (pv 7) (λ_ _=>rfl)) AF) (AJ As (AR A9 (pv 3) (Jd GX AF) (λ_ _=>rfl)) (AJ Bq (pv 0) AF))) (pv 0)) (Ky (pv 6) (pv 7) GZ)))) AX)
  (AE (AQ (pv 6))))))),?_⟩
 have gp:=RW.Ap g2 m;have gp1:=RW.Ap g2 (m-1);have gm:g^(m-1)*g=g^m:=by rw[<-XJ,show (m-1).succ=m by lia]
 have szn:((g^m).toNat:Int)=g^m:=by lia
 refine Av λN hN=>?_;walk_at "rd";refine⟨g,_,rfl,g2,by lia,by lia,by lia,hN _ _ ?_⟩;clear hN N;rw[XC];refine Av λN hN=>?_;walk_at "rd";refine⟨by lia,by lia,hN _ _ ?_⟩;clear hN N;rw[<-gm,Int.mul_ediv_cancel _ (show g≠0 by lia),gm];have fin:∀{HX:Hp} {p:Addr} {tab:List Int},FU H HX p tab->tab.length=(g^m).toNat->(∀n∈tab,0<=n/\n<g)->Q (.ref p) HX:=λn tl tb=>q _ _ _ n tl tb
 refine Ct (λσ HZ=>∃(p:Addr) (tab:List Int),σ=[some (.int g),some (.int ((m:Nat):Int)),some (.int way),some (.ref a),some (.int (g^m)),some (.int (g^(m-1))),some (.ref p),none]/\FU H HZ p tab/\tab.length=(g^m).toNat/\∀n∈tab,0<=n/\n<g) (λN hN=>?_) ?_
 ·walk_at "rd"
  by_cases w1:way=1
  ·rw[qF w1];refine⟨_,rfl,_,rfl,by lia,by lia,λD hD=>?_⟩;refine A4 (n:=(g^m).toNat) (λi acc Hx=>GN g i acc/\AG H Hx/\Hx D=some (.lst acc)) ⟨GN.nil,AG.new hD _,AC⟩ ?_ ?_
   ·rintro i acc Hx hi ⟨sg,ex,hDx⟩;have d0:0<=(i:Int)/g:=YN (by lia) (by lia);have d1:(i:Int)/g<=i:=ZP g (by lia);walk_at "rd";rw[Xe];exact⟨by lia,by lia,a,_,_,_,rfl,rfl,Ab.of (ex _ _ ha),C3 d0 (by lia),by lia,_,rfl,by lia,hDx,sg.len (by lia),sg.snoc g2 _,ex.into hD,AC⟩
   ·rintro acc H2 ⟨⟨us,rfl,ul,ub⟩,e2,h2⟩;exact hN _ _ ⟨D,us,rfl,⟨e2,hD,h2⟩,ul,ub⟩
  rw[qE w1]
  by_cases w3:way=3
  ·rw[qF w3];refine⟨_,rfl,_,rfl,by lia,by lia,λD hD=>?_⟩;refine A4 (n:=(g^m).toNat) (λi acc Hx=>GN g i acc/\AG H Hx/\Hx D=some (.lst acc)) ⟨GN.nil,AG.new hD _,AC⟩ ?_ ?_
   ·rintro i acc Hx hi ⟨sg,ex,hDx⟩;have d0:0<=(i:Int)/g:=YN (by lia) (by lia);have d1:(i:Int)/g<=i:=ZP g (by lia);walk_at "rd";rw[Xe];exact⟨by lia,by lia,a,_,_,_,rfl,rfl,Ab.of (ex _ _ ha),C3 d0 (by lia),by lia,_,rfl,by lia,hDx,sg.len (by lia),sg.snoc g2 _,ex.into hD,AC⟩
   ·rintro acc H2 ⟨⟨us,rfl,ul,ub⟩,e2,h2⟩;exact hN _ _ ⟨D,us,rfl,⟨e2,hD,h2⟩,ul,ub⟩
  rw[qE w3]
  by_cases w2:way=2
  ·rw[qF w2];refine⟨_,rfl,_,rfl,by lia,by lia,λD hD=>?_⟩;refine A4 (n:=(g^m).toNat) (λi acc Hx=>GN g i acc/\AG H Hx/\Hx D=some (.lst acc)) ⟨GN.nil,AG.new hD _,AC⟩ ?_ ?_
   ·rintro i acc Hx hi ⟨sg,ex,hDx⟩;have d0:=Xj (i:Int) (show g^(m-1)≠0 by lia);have d1:=Xf (i:Int) gp1;have d2:g^(m-1)<=g^m:=by rw[<-gm];exact PQ g2 gp1
    walk_at "rd";rw[Xe];exact⟨by lia,a,_,_,_,rfl,rfl,Ab.of (ex _ _ ha),C3 d0 (by lia),by lia,by lia,_,rfl,by lia,hDx,sg.len (by lia),sg.snoc g2 _,ex.into hD,AC⟩
   ·rintro acc H2 ⟨⟨us,rfl,ul,ub⟩,e2,h2⟩;exact hN _ _ ⟨D,us,rfl,⟨e2,hD,h2⟩,ul,ub⟩
  rw[qE w2]
  by_cases w4:way=4
  ·rw[qF w4];refine⟨_,rfl,_,rfl,by lia,by lia,λD hD=>?_⟩;refine A4 (n:=(g^m).toNat) (λi acc Hx=>GN g i acc/\AG H Hx/\Hx D=some (.lst acc)) ⟨GN.nil,AG.new hD _,AC⟩ ?_ ?_
   ·rintro i acc Hx hi ⟨sg,ex,hDx⟩;have d0:=Xj (i:Int) (show g^(m-1)≠0 by lia);have d1:=Xf (i:Int) gp1;have d2:g^(m-1)<=g^m:=by rw[<-gm];exact PQ g2 gp1
    walk_at "rd";rw[Xe];exact⟨by lia,a,_,_,_,rfl,rfl,Ab.of (ex _ _ ha),C3 d0 (by lia),by lia,by lia,_,rfl,by lia,hDx,sg.len (by lia),sg.snoc g2 _,ex.into hD,AC⟩
   ·rintro acc H2 ⟨⟨us,rfl,ul,ub⟩,e2,h2⟩;exact hN _ _ ⟨D,us,rfl,⟨e2,hD,h2⟩,ul,ub⟩
  rw[qE w4]
  by_cases w5:way=5
  ·rw[qF w5];refine⟨_,rfl,_,rfl,by lia,by lia,λD hD=>?_⟩;refine A4 (n:=(g^m).toNat) (λi acc Hx=>GN g i acc/\AG H Hx/\Hx D=some (.lst acc)) ⟨GN.nil,AG.new hD _,AC⟩ ?_ ?_
   ·rintro i acc Hx hi ⟨sg,ex,hDx⟩;walk_at "rd";rw[Xe];have m0:=Xj (xs.getD i 0/5) (show g≠0 by lia);have m1:=Xf (xs.getD i 0/5) (show 0<g by lia);refine⟨a,_,_,_,rfl,rfl,Ab.of (ex _ _ ha),CG (by lia),_,rfl,by decide,_,.inr rfl,a,_,_,_,rfl,rfl,Ab.of (ex _ _ ha),CG (by lia),_,rfl,by decide,by decide,by lia,.inr ⟨by lia,by lia⟩,hDx,sg.len (by lia),?_,ex.into hD,AC⟩;split
    ·rw[YC];exact sg.snoc g2 _
    ·rw[Int.zero_mul];exact sg.put (by lia) (by lia)
   ·rintro acc H2 ⟨⟨us,rfl,ul,ub⟩,e2,h2⟩;exact hN _ _ ⟨D,us,rfl,⟨e2,hD,h2⟩,ul,ub⟩
  rw[qE w5]
  by_cases w6:way=6
  ·rw[qF w6];exact⟨g,m,a,xs,rfl,g2,g9,m4,sz,ha,xl,xb,λp tab H2 n tl tb=>hN _ _ ⟨p,tab,rfl,n,tl,tb⟩⟩
  rw[qE w6];refine⟨_,rfl,_,rfl,by lia,by lia,λD hD=>?_⟩;refine A4 (n:=(g^m).toNat) (λi acc Hx=>GN g i acc/\AG H Hx/\Hx D=some (.lst acc)) ⟨GN.nil,AG.new hD _,AC⟩ ?_ ?_
  ·rintro i acc Hx hi ⟨sg,ex,hDx⟩;walk_at "rd";rw[Xe];exact⟨a,_,_,_,rfl,rfl,Ab.of (ex _ _ ha),CG (by lia),_,rfl,by lia,hDx,sg.len (by lia),sg.snoc g2 _,ex.into hD,AC⟩
  ·rintro acc H2 ⟨⟨us,rfl,ul,ub⟩,e2,h2⟩;exact hN _ _ ⟨D,us,rfl,⟨e2,hD,h2⟩,ul,ub⟩
 rintro σ H2 ⟨p,tab,rfl,n2,tl,tb⟩;have hx2:=n2.1 _ _ ha;refine Ct (λσ HX=>∃x8 tab,σ=[some (.int g),some (.int ((m:Nat):Int)),some (.int way),some (.ref a),some (.int (g^m)),some (.int (g^(m-1))),some (.ref p),x8]/\FU H HX p tab/\tab.length=(g^m).toNat/\∀n∈tab,0<=n/\n<g) (λN hN=>?_) ?_
 ·walk_at "rd"
  by_cases w3:way=3
  ·rw[qF w3];have d0:=Xj (xs.getD (xs.length-1) 0) (show g^m≠0 by lia);have d1:=Xf (xs.getD (xs.length-1) 0) gp;refine⟨a,_,-1,_,rfl,rfl,Ab.of hx2,GO 1 (by decide) (by lia),_,rfl,gp,?_⟩;generalize xs.getD (xs.length-1) 0%g^m=j at d0 d1⊢;obtain⟨k,rfl⟩:∃k:Nat,j=(k:Int):=⟨j.toNat,by lia⟩;have kl:k<tab.length:=by lia
   refine⟨p,_,_,_,rfl,rfl,Ab.of n2.2.2,CG kl,_,rfl,a,_,-2,_,rfl,rfl,Ab.of hx2,GO 2 (by decide) (by lia),_,rfl,by lia,by lia,?_⟩;refine⟨_,rfl,_,rfl,p,_,_,k,rfl,rfl,n2.2.2,(by rw[Wq];exact EN kl),hN _ _ ⟨_,_,rfl,⟨n2.1.into n2.2.1,n2.2.1,by rw[AC,<-List.map_set]⟩,by rw[YM];exact tl,Lp tb ⟨Xj _ (by lia),Xf _ (by lia)⟩⟩⟩
  rw[qE w3]
  by_cases w4:way=4
  ·rw[qF w4];have d0:=Xj (xs.getD (xs.length-1) 0) (show g^m≠0 by lia);have d1:=Xf (xs.getD (xs.length-1) 0) gp;refine⟨a,_,-1,_,rfl,rfl,Ab.of hx2,GO 1 (by decide) (by lia),_,rfl,gp,?_⟩;generalize xs.getD (xs.length-1) 0%g^m=j at d0 d1⊢;obtain⟨k,rfl⟩:∃k:Nat,j=(k:Int):=⟨j.toNat,by lia⟩;have kl:k<tab.length:=by lia
   refine⟨p,_,_,_,rfl,rfl,Ab.of n2.2.2,CG kl,_,rfl,a,_,-2,_,rfl,rfl,Ab.of hx2,GO 2 (by decide) (by lia),_,rfl,by lia,by lia,?_⟩;refine⟨_,rfl,_,rfl,p,_,_,k,rfl,rfl,n2.2.2,(by rw[Wq];exact EN kl),hN _ _ ⟨_,_,rfl,⟨n2.1.into n2.2.1,n2.2.1,by rw[AC,<-List.map_set]⟩,by rw[YM];exact tl,Lp tb ⟨Xj _ (by lia),Xf _ (by lia)⟩⟩⟩
  rw[qE w4];exact hN _ _ ⟨_,tab,rfl,n2,tl,tb⟩
 rintro σ HX ⟨x8,tab',rfl,n3,tl3,tb3⟩;walk_at "rd";exact fin n3 tl3 tb3
theorem EJ:AK ["_law_script","_law_start","_law_first","_law_shape_here","_law_signs","_law_xs","_law_k","_law_table_here","_law_wider"] ["_law_script","_law_start"] (AH TV):=Ch (by decide +kernel)
theorem VX(T:Ce K mg t)(G_2:Aw P w K mg base 1 t.f_2 ["_law_script","_law_k"] (Ik K))(G_18:Aw P w K mg base 1 t.f_18 ["_law_cell"] (Fk))(G_10:Aw P w K mg base 1 t.f_10 ["_law_cell","_law_many"] (Fi))(G_19:Aw P w K mg base 3 t.f_19 ["_law_signs","_law_many","_law_way","_law_xs"] (Fj)):Aw P w K mg base 4 t.f_28 ["_law_script","_law_start"] (HM K):=by
 refine BJ T.d_28 EJ (λ_ _ _ _ _ _=>b2 λ_ _=>rfl) λvs H Q E h=>?_;obtain⟨a,ns,st,rfl,s2,hS,h63,q⟩:=h;refine⟨rfl,λcdv A outer s hr=>?_⟩
 refine⟨_,(E9.out (Bp (Cw (i:=2) EJ.nd rfl (Or.inl rfl) (.of (Af hr G_2 T.m_2 (AA (pv 0) (AA (pv 1) AD)))) rfl (by first|exact .inl rfl|exact .inr rfl))
  (Bp (JD (PW.pt (Eg (AM Dt (pv 1) AF (AN _)) (Db (AM Bb (AJ As (pv 2) AF) AF (AN _))))) (ER (Cw (i:=2) EJ.nd rfl (Or.inl rfl) (.of (AJ Bq (pv 2) AF)) rfl (by first|exact .inl rfl|exact .inr rfl))) GD)
  (Bp (Cw (i:=3) EJ.nd rfl (Or.inl rfl) (.of (Af hr G_18 T.m_18 (AA (pv 2) AD))) rfl (by first|exact .inl rfl|exact .inr rfl))
  (Bp (Cw (i:=4) EJ.nd rfl (Or.inr rfl) (.of (AR AY (pv 3) AF (λ_ _=>rfl))) rfl (by first|exact .inl rfl|exact .inr rfl))
  (Bp (Cw (i:=5) EJ.nd rfl (Or.inl rfl) (.of (Af hr G_10 T.m_10 (AA (Af hr G_2 T.m_2 (AA (pv 0) (AA (AJ BD (pv 1) AF) AD))) (BO AD)))) rfl (by first|exact .inl rfl|exact .inr rfl))
  (Bp (.of (Ar PassesOwn.never rfl (Ah rfl T.z_range (AA (Aa (IA rfl) rfl T.z_min ZN (BO (AA (AJ Bq (Aa AO rfl T.z_len XH (AA (pv 0) AD)) AF) AD))) AD)) (BG 6 EJ) (AE (Kz (AJ As (AR A9 (pv 0) (AJ BD AF (pv 6)) (λ_ _=>rfl)) AF) (Ky (pv 5) (pv 6) GZ)))))
  (Bp (Cw (i:=7) EJ.nd rfl (Or.inr rfl) (.of (Af hr G_19 T.m_19 (AA (pv 4) (AA (AR AY (pv 3) AF (λ_ _=>rfl)) (AA (AJ As (AJ Ax (pv 2) AF) AF) (AA (pv 5) AD)))))) rfl (by first|exact .inl rfl|exact .inr rfl))
  (Bp (Cw (i:=8) EJ.nd rfl (Or.inl rfl) (.of (AJ As (AJ Ax (pv 2) AF) AF)) rfl (by first|exact .inl rfl|exact .inr rfl))
  (Bp (JD (PW.pt (Eg (AM Bb (pv 8) AF (AN _)) (Db (AM Je (AJ B6 (Aa AO rfl T.z_len XH (AA (pv 7) AD)) (pv 4)) AF (AN _))))) (ER (Cw (i:=7) EJ.nd rfl (Or.inr rfl) (.of (AJ LB (pv 7) (pv 4))) rfl (by first|exact .inl rfl|exact .inr rfl))) GD)
  (Bp (JD (PW.pt (Eg (AM Bb (pv 8) AF (AN _)) (Db (AM Je (AJ B6 (Aa AO rfl T.z_len XH (AA (pv 7) AD)) (pv 4)) AF (AN _))))) (ER (.of (GU (i:=7) EJ.nd rfl (Or.inr rfl) (Ef [(7,"_law_table_here"),(4,"_law_signs")] [("_law_table_here",_),("_law_signs",_)] (Ah rfl T.z_range (AA (AJ B6 (Aa AO rfl T.z_len XH (AA (pv 7) AD)) (pv 4)) AD)) (λ_ _ _ _=>Bw) (λ_ _ _ _=>(AR (B9 (K:=K) rfl) (pv 1) (AJ Ax (pv 0) (pv 2)) (λ_ _=>rfl)))) (hs:=by with_unfolding_all rfl)))) GD)
  (ER (.of (AQ (D1 (AA (pv 4) (AA (AJ Bq (AJ As (AJ Ax (pv 2) AF) AF) AF) (AA (CQ DM rfl T.z_tuple ZB (AA (pv 7) AD)) AD)))))))))))))))))),?_⟩
 refine Av λN hN=>?_;walk_at "rd";refine⟨a,ns,st,rfl,hS,h63,hN _ _ ?_⟩;clear hN N;refine Ct (λσ HX=>∃c0,σ=[some (.ref a),some (.int ((st:Nat):Int)),some (.int c0),none,none,none,none,none,none]/\HX=H) (λN hN=>?_) ?_
 ·walk_at "rd";split
  ·refine⟨by decide,?_⟩;split
   ·exact hN _ _ ⟨_,rfl,rfl⟩
   ·exact hN _ _ ⟨_,rfl,rfl⟩
  ·exact hN _ _ ⟨_,rfl,rfl⟩
 rintro σ HX ⟨c0,rfl,rfl⟩;refine Av λN hN=>?_;walk_at "rd";refine⟨c0,rfl,λsh g m H1 e1 hsh shp=>hN _ _ ?_⟩;clear hN N;obtain⟨g2,g9,m1,m4,s81,s9⟩:=shp;refine Av λN hN=>?_;walk_at "rd";refine⟨sh,_,0,_,rfl,rfl,BL.of hsh,rfl,hN _ _ ?_⟩;clear hN N;have gp:=RW.Ap g2 m;refine Av λN hN=>?_;walk_at "rd";refine⟨a,ns,st+1,by rw[Int.natCast_add];rfl,e1.seq hS,h63,_,_,rfl,by decide,by decide,λpx H2 xs xl xb e2 n2 h2=>hN _ _ ?_⟩;clear hN N;have xl90:xs.length=90:=xl;refine Ct (λσ HY=>∃(xs:List Int) (x7:Option V),σ=[some (.ref a),some (.int ((st:Nat):Int)),some (.int c0),some (.ref sh),some (.int g),some (.ref px),x7,none,none]/\AG H1 HY/\HY px=some (.lst (xs.map V.int))/\xs.length=90/\∀x∈xs,0<=x/\x<2147483647) (λN hN=>?_) ?_
 ·have hS2:=(e1.trans e2).seq hS;refine⟨_,rfl,a,_,rfl,.inl hS2,_,_,rfl,rfl,_,_,rfl,_,rfl,?_⟩;rw[Wq];obtain⟨n,hn⟩:∃n:Int,n=(if (ns.length:Int)-4<88 then (ns.length:Int)-4 else 88):=⟨_,rfl⟩;rw[<-hn];have n0:n<=59:=by rw[hn];split<;>lia
  have n1:-4<=n:=by rw[hn];split<;>lia
  have n2':n<=(ns.length:Int)-4:=by rw[hn];split<;>lia
  clear hn;refine⟨by lia,by lia,?_⟩;refine BZ (n:=n.toNat) (λi σ HX=>(∃(xs:List Int) (x7:Option V),σ=[some (.ref a),some (.int ((st:Nat):Int)),some (.int c0),some (.ref sh),some (.int g),some (.ref px),x7,none,none]/\AG H1 HX/\HX px=some (.lst (xs.map V.int))/\xs.length=90/\∀x∈xs,0<=x/\x<2147483647)) ⟨xs,none,rfl,e2,h2,xl90,xb⟩ ?_ λσ HX z=>hN _ _ z
  rintro i σ HX hi ⟨xs,x7,rfl,eX,hX,xl,xb⟩;walk_at "rd";rw[Xe,show 4+(i:Int)=((4+i:Nat):Int) by lia];have z0:=Xj (ns.getD (4+i) 0) (show (2147483647:Int)≠0 by decide);have z1:=Xf (ns.getD (4+i) 0) (show (0:Int)<2147483647 by decide);refine⟨a,_,_,_,rfl,rfl,(e1.trans eX).seq hS,CG (by lia),_,rfl,by decide,?_⟩;refine⟨_,rfl,_,rfl,px,_,_,i,rfl,rfl,hX,(by rw[Wq];exact EN (by lia)),⟨_,rfl⟩,eX.into n2,_,by rw[AC,<-List.map_set],by rw[YM];exact xl,Lp xb ⟨z0,z1⟩⟩
 clear h2 xb xl90 xl e2;rintro σ HW ⟨xs,x7,rfl,e2,h2,xl90,xb⟩;have w0:=Xj (c0/24) (show (8:Int)≠0 by decide);refine Av λN hN=>?_;walk_at "rd";refine⟨sh,_,1,_,rfl,rfl,BL.of (e2 _ _ hsh),rfl,by decide,by decide,by decide,g,m,_,px,xs,rfl,g2,g9,m1,m4,s81,w0,h2,xl90,xb,λpt tab H3 n3 tl tb=>hN _ _ ?_⟩;clear hN N;have szn:((g^m).toNat:Int)=g^m:=by lia
 have tlm:(tab.length:Int)=g^m:=by lia
 refine Av λN hN=>?_;walk_at "rd";refine⟨by decide,by decide,by decide,hN _ _ ?_⟩;clear hN N;obtain⟨wd,hwd⟩:∃w:Int,w=c0/192%6:=⟨_,rfl⟩;rw[<-hwd];refine Ct (λσ HY=>∃pt tab' m',σ=[some (.ref a),some (.int ((st:Nat):Int)),some (.int c0),some (.ref sh),some (.int g),some (.ref px),x7,some (.ref pt),some (.int wd)]/\AG HW HY/\HY pt=some (.lst (tab'.map V.int))/\PR g tab m tab' m'/\(wd=1\/tab'=tab)) (λN hN=>?_) ?_
 ·have stay:=hN _ H3 ⟨pt,tab,m,rfl,n3.1,n3.2.2,⟨tlm,by lia,m1,by lia,tb,λlo=>⟨lo,λ_ _=>rfl⟩⟩,.inr rfl⟩;walk_at "rd"
  by_cases w1:wd=1
  ·rw[qF w1];refine⟨_,.inl (Ab.of n3.2.2),.inr ⟨by lia,by lia⟩,?_⟩;rw[Wq,tlm]
   by_cases y:g^m*g<=256
   ·rw[qF y];refine J3 n3.2.2 (by lia) (by lia) (Xa (Nat.mul_le_mul (show _<=81 by rw[Wq];lia) (show g.toNat<=9 by lia)) (by decide)) λp4 H4 e4 _ h4=>hN _ _ ⟨p4,(List.replicate g.toNat tab).flatten,m+1,rfl,n3.1.trans e4,by rw[h4,List.map_flatten,ZA],⟨(HL g2 0 tlm).1,by lia,by lia,by rw[XJ];lia,λn hn=>?_,λlo=>⟨_,(HL g2 lo tlm).2⟩⟩,.inl w1⟩
    obtain⟨l,hl,hn⟩:=List.mem_flatten.mp hn;rw[(List.mem_replicate.mp hl).2]at hn;exact tb n hn
   ·rw[qE y];exact stay
  ·rw[qE w1];exact stay
 rintro σ HY ⟨p4,tab4,m4',rfl,e4,h4,W4,o4⟩;refine Ct (λσ HZ=>∃pt tab' m',σ=[some (.ref a),some (.int ((st:Nat):Int)),some (.int c0),some (.ref sh),some (.int g),some (.ref px),x7,some (.ref pt),some (.int wd)]/\AG HW HZ/\HZ pt=some (.lst (tab'.map V.int))/\PR g tab m tab' m') (λN hN=>?_) ?_
 ·have stay:=hN _ HY ⟨p4,tab4,m4',rfl,e4,h4,W4⟩;walk_at "rd"
  by_cases w1:wd=2
  ·rw[qF w1];obtain rfl:tab4=tab:=o4.resolve_left (by lia);refine⟨_,.inl (Ab.of h4),.inr ⟨by lia,by lia⟩,?_⟩;rw[Wq,tlm]
   by_cases y:g^m*g<=256
   ·rw[qF y];have lg:0<g^m*g:=Int.mul_pos gp (by lia)
    have ln:tab4.length*g.toNat=(g^m*g).toNat:=by
     have z:((tab4.length*g.toNat:Nat):Int)=g^m*g:=by rw[YF,tlm,show ((g.toNat:Nat):Int)=g by lia]
     lia
    refine⟨_,rfl,p4,rfl,_,.inl (Ab.of h4),_,rfl,_,_,rfl,rfl,.inr ⟨by lia,by lia⟩,_,rfl,?_⟩;rw[Wq,tlm];refine⟨by lia,by lia,λD hD=>?_⟩;refine A4 (n:=(g^m*g).toNat) (λi acc Hx=>acc=((List.range i).map λk=>tab4.getD (k/g.toNat) 0).map V.int/\AG HY Hx/\Hx D=some (.lst acc)) ⟨rfl,AG.new hD _,AC⟩ ?_ ?_
    ·rintro i acc Hx hi ⟨rfl,ex,hDx⟩;have d0:(i:Int)/g=((i/g.toNat:Nat):Int):=by rw[X9,X1 (by lia)]
     have d1:i/g.toNat<tab4.length:=by rw[Nat.div_lt_iff_lt_mul (by lia),ln];exact hi
     walk_at "rd";rw[Xe,d0];refine⟨by lia,by lia,p4,_,_,_,rfl,rfl,Ab.of (ex _ _ h4),CG d1,hDx,by rw[Wq,Wq,W8];exact AW (by lia),?_,ex.into hD,AC⟩;rw[Am,W3];rfl
    ·rintro acc H5 ⟨rfl,e5,h5⟩;have wl:=IX g2 0 tlm;refine hN _ _ ⟨D,(List.range (tab4.length*g.toNat)).map λk=>tab4.getD (k/g.toNat) 0,m+1,rfl,e4.trans e5,by rw[h5,ln],⟨wl.1,by lia,by lia,by rw[XJ];lia,λn hn=>?_,λlo=>⟨_,(IX g2 lo tlm).2⟩⟩⟩;obtain⟨k,_,rfl⟩:=XT.mp hn;exact DE (by lia) tb _
   ·rw[qE y];exact stay
  ·rw[qE w1];exact stay
 rintro σ HZ ⟨p5,tab5,m5,rfl,e5,h5,W5⟩;obtain⟨l5,m56,m51,s5,b5,al5⟩:=W5;have e5':=e2.trans e5;walk_at "rd";refine⟨by decide,by decide,by decide,_,.inl ⟨Ab.of h5,λl8 hl8=>⟨by decide,λp9 hp9=>?_⟩⟩⟩;have f8:=AG.new hl8 (.tup (tab5.map V.int));obtain⟨lo,hlo⟩:∃lo:Int,lo=c0/1152%7-3:=⟨_,rfl⟩;rw[<-hlo];have f9:=AG.new hp9 (.tup [.int g,.int lo,.ref l8]);obtain⟨lo',al⟩:=al5 lo;exact q p9 g lo tab5 m5 _ (((e1.trans e5').trans f8).trans f9) ⟨⟨l8,AC,f9 _ _ AC⟩,g2,g9,m51,by lia,l5,by lia,b5⟩ (Qm ⟨g2,g9,m1,m4,s81,s9⟩ tlm l5 al)
theorem Fx:AK ["_law_one","_law_signs","_law_table_here","_law_heads"] ["_law_one"] (AH TW):=Ch (by decide +kernel)
theorem VY(T:Ce K mg t) :Aw P w K mg base 1 t.f_15 ["_law_one"] (Fh):=by
 refine BJ T.d_15 Fx (λ_ _ _ _ _ _=>b1 λ_=>rfl) λvs H Q E h=>?_;obtain⟨r,g,lo,tab,m,rfl,ok,q⟩:=h;refine⟨rfl,λcdv A outer s hr=>?_⟩
 refine⟨_,(AB (AS 1 Fx (AR AY (pv 0) AF (λ_ _=>rfl)))
  (AB (AS 2 Fx (CQ De rfl T.z_list Yf (AA (AR AY (pv 0) AF (λ_ _=>rfl)) AD)))
  (AB (B7 PassesOwn.never (PW.pt (Eg (AM Dt (Aa AO rfl T.z_len XH (AA (pv 2) AD)) (pv 1) (AN _)) (Db (AM (Gc hr.units) (pv 2) (AJ LB (D4 E2 (pv 2) Ez (E1 (AJ Ax (Aa AO rfl T.z_len XH (AA (pv 2) AD)) (pv 1)))) (pv 1)) (AN _))))) (AE (AS 2 Fx (D4 E2 (pv 2) Ez (E1 (AJ Ax (Aa AO rfl T.z_len XH (AA (pv 2) AD)) (pv 1)))))))
  (AB (Cu (iy:=3) (fv:=[(2,"_law_table_here"),(1,"_law_signs")]) (cl:=[("_law_table_here",_),("_law_signs",_)]) rfl Fx.nd rfl (Or.inl rfl) (Ah rfl T.z_range (AA (Aa AO rfl T.z_len XH (AA (pv 2) AD)) AD)) (by with_unfolding_all rfl) (by with_unfolding_all rfl) (by decide +kernel) rfl (by decide +kernel) rfl ⟨(by with_unfolding_all rfl),⟨(by with_unfolding_all rfl),trivial⟩⟩ (by with_unfolding_all rfl) ⟨⟨rfl,rfl,(by with_unfolding_all rfl),rfl⟩,⟨⟨rfl,rfl,(by with_unfolding_all rfl),rfl⟩,trivial⟩⟩ (by decide) (λ_ _ _ _=>Bw) (λ_ _ _ _=>(AR (B9 (K:=K) rfl) (pv 1) (AJ Bq (pv 0) (AJ As (pv 0) (pv 2))) (λ_ _=>rfl))))
  (AB (B7 PassesOwn.never (PW.pt (Eg (AM Dt (Aa AO rfl T.z_len XH (AA (pv 2) AD)) (pv 1) (AN _)) (Db (AM (Gc hr.units) (pv 2) (pv 3) (AN _))))) (AB (GU (i:=2) Fx.nd rfl (Or.inr rfl) (Ef [(2,"_law_table_here")] [("_law_table_here",_)] (NC rfl T.z_range (BO (AA (Aa AO rfl T.z_len XH (AA (pv 2) AD)) (AA (pv 1) AD)))) (λ_ _ _ _=>Bw) (λ_ _ _ _=>(AR (B9 (K:=K) rfl) (pv 1) (pv 0) (λ_ _=>rfl)))) (hs:=by with_unfolding_all rfl))
  (AE (Cu (iy:=3) (fv:=[(2,"_law_table_here"),(1,"_law_signs")]) (cl:=[("_law_table_here",_),("_law_signs",_)]) rfl Fx.nd rfl (Or.inl rfl) (Ah rfl T.z_range (AA (Aa AO rfl T.z_len XH (AA (pv 2) AD)) AD)) (by with_unfolding_all rfl) (by with_unfolding_all rfl) (by decide +kernel) rfl (by decide +kernel) rfl ⟨(by with_unfolding_all rfl),⟨(by with_unfolding_all rfl),trivial⟩⟩ (by with_unfolding_all rfl) ⟨⟨rfl,rfl,(by with_unfolding_all rfl),rfl⟩,⟨⟨rfl,rfl,(by with_unfolding_all rfl),rfl⟩,trivial⟩⟩ (by decide) (λ_ _ _ _=>Bw) (λ_ _ _ _=>(AR (B9 (K:=K) rfl) (pv 1) (AJ Bq (pv 0) (AJ As (pv 0) (pv 2))) (λ_ _=>rfl)))))))
  (AB (Ak (AM Bb (Aa AO rfl T.z_len XH (AA (pv 2) AD)) (pv 1) (AN _)) (AE (GU (i:=2) Fx.nd rfl (Or.inr rfl) (Ef [(2,"_law_table_here"),(1,"_law_signs")] [("_law_table_here",_),("_law_signs",_)] (Ah rfl T.z_range (AA (AJ B6 (pv 1) (pv 1)) AD)) (λ_ _ _ _=>Bw) (λ_ _ _ _=>(AR (B9 (K:=K) rfl) (pv 1) (AJ Ax (pv 0) (pv 2)) (λ_ _=>rfl)))) (hs:=by with_unfolding_all rfl))) AX)
  (AE (AQ (pv 2))))))))),?_⟩
 obtain⟨tb,r1,r2⟩:=id ok.v;have g2:=ok.g2;have g9:=ok.g9;have hl:=ok.len;have m1:=ok.m1;have m8:=ok.m8;have sz:=ok.sz;have tbb:=ok.tb;refine Av λN hN=>?_;walk_at "rd";refine⟨r,_,0,_,rfl,rfl,BL.of r1,rfl,hN _ _ ?_⟩;clear hN N;refine Av λN hN=>?_;walk_at "rd";refine⟨r,_,2,_,rfl,rfl,BL.of r1,rfl,tb,rfl,_,.inr (BL.of r2),λp0 hp0=>hN _ _ ?_⟩;clear hN N;have e0:=AG.new hp0 (.lst (tab.map V.int));refine OK (λHX=>AG H HX/\HX p0=some (.lst (tab.map V.int))) ⟨e0,AC⟩ ?_;clear e0 hp0;rintro H0 ⟨e0,h0⟩;have gn:((g.toNat:Nat):Int)=g:=by lia
 have c0:Ea g lo tab m lo tab m:=⟨m1,Wv _,hl,tbb,λ_ _=>rfl⟩;refine Ct (λσ HX=>∃(p:Addr) (lo':Int) (tab':List Int) (m':Nat),σ=[some (.ref r),some (.int g),some (.ref p),none]/\AG H HX/\HX p=some (.lst (tab'.map V.int))/\Ea g lo tab m lo' tab' m'/\(2<=m'->A5 g tab' (g^(m'-1))=true)) (λN hN=>?_) ?_
 ·refine D0 (λσ HX=>∃(p:Addr) (lo':Int) (tab':List Int) (m':Nat),σ=[some (.ref r),some (.int g),some (.ref p),none]/\AG H HX/\HX p=some (.lst (tab'.map V.int))/\Ea g lo tab m lo' tab' m')
   (λ(σ:St) (HX:Hp)=>match σ[2]? with|some (some (V.ref d))=>(match HX d with|some (.lst xs)=>xs.length|_=>0)|_=>0) ⟨p0,lo,tab,m,rfl,e0,h0,c0⟩ ?_ ?_
  ·rintro σ HX ⟨p,lo',tab',m',rfl,eX,hpX,c⟩;have hh:=c.half g2;have cl:=c.len;have g1:g^1=g:=by rw[XJ,Xh,YC]
   have hlm:(tab'.map V.int).length=tab'.length:=Wq ..;have hsz:tab'.length<=256:=by have:=Bo g2 c.le;lia
   have e:(((tab'.map V.int).length:Nat):Int)/g=((tab'.length/g.toNat:Nat):Int):=by rw[hlm,X9,gn]
   walk_at "rd";refine⟨_,.inl (Ab.of hpX),?_⟩
   by_cases z:g<(((tab'.map V.int).length:Nat):Int)
   ·rw[qF z]
    have m2:2<=m':=by
     have m1:=c.m1
     by_cases y:m'=1
     ·subst y;lia
     ·lia
    refine⟨_,.inl (Ab.of hpX),by lia,by lia,?_⟩;rw[e];refine Gh (Ab.of hpX) λp2 H2 e2 _ h2'=>?_;rw[Iu,<-List.map_take]at h2';refine J3 h2' (by lia) (by lia) ?_ λp3 H3 e3 _ h3=>?_
    ·rw[Wq,XR];have:=hh.2;have:tab'.length/g.toNat<=tab'.length:=ZX ..;have:min (tab'.length/g.toNat) tab'.length*g.toNat<=tab'.length:=by rw[Y8 this];lia
     lia
    rw[<-ZA,<-List.map_flatten]at h3;have e23:=e2.trans e3;refine⟨p3,rfl,tab',Ab.of (e23 _ _ hpX),_,Ab.of h3,?_⟩
    by_cases y:tab'=(List.replicate g.toNat (tab'.take (tab'.length/g.toNat))).flatten
    ·rw[qF y];refine⟨_,.inl (Ab.of (e23 _ _ hpX)),by lia,by lia,?_⟩;rw[e];refine Gh (Ab.of (e23 _ _ hpX)) λp4 H4 e4 _ h4=>?_;rw[Iu,<-List.map_take]at h4;have c2:=c.first g2 m2 y;refine⟨⟨p4,rfl,(eX.trans e23).trans e4,lo'+1,_,h4,_,c2⟩,?_⟩;dsimp only;rw[h4,hpX];show ((tab'.take _).map V.int).length<(tab'.map V.int).length;rw[Wq,XR,hlm];have:tab'.length/g.toNat<tab'.length:=Nat.div_lt_self (by lia) (by lia);lia
    ·rw[qE y];exact hN _ _ ⟨p,lo',tab',m',rfl,eX.trans e23,e23 _ _ hpX,c,λ_=>c.first_counts g2 y⟩
   ·rw[qE z];refine hN _ _ ⟨p,lo',tab',m',rfl,eX,hpX,c,λm2=>?_⟩;have:=Ir g2 (show 1<m' by lia);lia
  ·intro σ H1 Q1 Q2 hq;walk_at "rd";rintro⟨v,h1,p,e1,x,h2,v2,h3,x1,e3,hh⟩;refine⟨v,h1,p,e1,x,h2,v2,h3,x1,e3,?_⟩
   by_cases z:x1<(x.length:Int)
   ·rw[qF z]at hh⊢;obtain⟨a1,b1,a2,b2,a3,b3,p4,b4,x4,b5,a6,b6,x7,b7,y1,y2,s1,s2,s3,s4,hh⟩:=hh;refine⟨a1,b1,a2,b2,a3,b3,p4,b4,x4,b5,a6,b6,x7,b7,y1,y2,s1,s2,s3,s4,λq hq2=>?_⟩;obtain⟨a8,b8,l,k,xs,c1,c2,c3,c4,c5,c6,hh⟩:=hh q hq2;refine⟨a8,b8,l,k,xs,c1,c2,c3,c4,c5,c6,λq2 hq3=>?_⟩;obtain⟨d1,d2,d3,d4,d5,d6,d7,d8,hh⟩:=hh q2 hq3;exact⟨d1,d2,d3,d4,d5,d6,d7,d8,hq _ _ hh⟩
   ·rw[qE z]at hh⊢;exact hq _ _ hh
 clear c0;rintro σ HX ⟨p,lo',tab',m',rfl,eX,hpX,c,k0⟩;have hsz:tab'.length<=256:=by have:=Bo g2 c.le;have:=c.len;lia
 refine Av λN hN=>?_;refine⟨_,rfl,p,_,rfl,.inl (Ab.of hpX),_,rfl,by rw[Wq];lia,by rw[Wq];lia,λD hD=>?_⟩;rw[Wq];refine A4 (n:=tab'.length) (λi acc Hx=>acc=((List.range i).map λk=>tab'.getD (k-k%g.toNat) 0).map V.int/\AG HX Hx/\Hx D=some (.lst acc)) ⟨rfl,AG.new hD _,AC⟩ ?_ ?_
 ·rintro i acc Hx hi ⟨rfl,ex,hDx⟩;have ei:(0+(i:Int))-(0+(i:Int))%g=((i-i%g.toNat:Nat):Int):=by have:=Za i g.toNat;rw[Xe,Int.natCast_sub this,Ye,gn]
  walk_at "rd";rw[ei];refine⟨by lia,p,_,_,_,rfl,rfl,Ab.of (ex _ _ hpX),CG (by lia),hDx,?_,?_,ex.into hD,AC⟩
  ·rw[Wq,Wq,W8];exact AW (by lia)
  ·rw[Am,W3];rfl
 rintro acc H5 ⟨rfl,e5,h5⟩;refine hN _ _ ?_;clear hN N hsz;refine Ct (λσ HX=>∃(p:Addr) (x4:Option V) (lo':Int) (tab':List Int) (m':Nat),σ=[some (.ref r),some (.int g),some (.ref p),x4]/\AG H HX/\HX p=some (.lst (tab'.map V.int))/\Ea g lo tab m lo' tab' m'/\(2<=m'->A5 g tab' (g^(m'-1))=true/\A5 g tab' 1=true)) (λN hN=>?_) ?_
 ·refine D0 (λσ HX=>∃(p q:Addr) (lo':Int) (tab':List Int) (m':Nat),σ=[some (.ref r),some (.int g),some (.ref p),some (.ref q)]/\AG H HX/\HX p=some (.lst (tab'.map V.int))/\HX q=some (.lst (((List.range tab'.length).map λk=>tab'.getD (k-k%g.toNat) 0).map V.int))/\Ea g lo tab m lo' tab' m'/\(2<=m'->A5 g tab' (g^(m'-1))=true))
   (λ(σ:St) (HX:Hp)=>match σ[2]? with|some (some (V.ref d))=>(match HX d with|some (.lst xs)=>xs.length|_=>0)|_=>0) ⟨p,_,lo',tab',m',rfl,eX.trans e5,e5 _ _ hpX,h5,c,k0⟩ ?_ ?_
  ·clear k0 c h5 e5 hpX eX;rintro σ HX ⟨p,q',lo',tab',m',rfl,eX,hpX,hqX,c,k0⟩;have hh:=c.half g2;have cl:=c.len;have g1:g^1=g:=by rw[XJ,Xh,YC]
   have hlm:(tab'.map V.int).length=tab'.length:=Wq ..;have hsz:tab'.length<=256:=by have:=Bo g2 c.le;lia
   walk_at "rd";refine⟨_,.inl (Ab.of hpX),?_⟩
   by_cases z:g<(((tab'.map V.int).length:Nat):Int)
   ·rw[qF z]
    have m2:2<=m':=by
     have m1:=c.m1
     by_cases y:m'=1
     ·subst y;lia
     ·lia
    refine⟨tab',Ab.of hpX,_,Ab.of hqX,?_⟩
    by_cases y:tab'=(List.range tab'.length).map λk=>tab'.getD (k-k%g.toNat) 0
    ·rw[qF y];have c2:=c.last g2 m2 y;have s2:2<=m'-1->_:=λm3=>c.stays g2 (by lia) y (k0 m2)
     have hpos:1<=tab'.length/g.toNat:=by have:=RW.Ap g2 (m'-1);lia
     refine⟨_,rfl,p,rfl,_,.inl (Ab.of hpX),_,rfl,0,_,g,rfl,⟨by decide,by decide,by lia,by lia,by lia,by lia⟩,λD hD=>?_⟩;rw[hlm,QW g2 hh.2 hpos];have hle:tab'.length/g.toNat<=tab'.length:=ZX ..;refine Jx (lo:=0) (c:=g) (n:=tab'.length/g.toNat) (λi acc Hx=>acc=((List.range i).map λk=>tab'.getD (k*g.toNat) 0).map V.int/\AG HX Hx/\Hx D=some (.lst acc)) ⟨rfl,AG.new hD _,AC⟩ ?_ ?_
     ·rintro i acc Hx hi ⟨rfl,ex,hDx⟩;have ei:0+(i:Int)*g=((i*g.toNat:Nat):Int):=by rw[Xe,YF,gn]
      have il:i*g.toNat<tab'.length:=by have:=Nat.mul_lt_mul_of_pos_right hi (show 0<g.toNat by lia);lia
      walk_at "rd";rw[ei];refine⟨p,_,_,_,rfl,rfl,Ab.of (ex _ _ hpX),CG il,hDx,?_,?_,ex.into hD,AC⟩
      ·rw[Wq,Wq,W8];exact AW (by lia)
      ·rw[Am,W3];rfl
     rintro acc H6 ⟨rfl,e6,h6⟩
     have ll:((List.range (tab'.length/g.toNat)).map λk=>tab'.getD (k*g.toNat) 0).length<tab'.length:=by rw[Wq,W8];exact Nat.div_lt_self (by lia) (by lia)
     obtain⟨T2,hT2⟩:∃T2,T2=(List.range (tab'.length/g.toNat)).map λk=>tab'.getD (k*g.toNat) 0:=⟨_,rfl⟩
     rw[<-hT2]at h6 c2 s2 ll;refine⟨_,rfl,D,rfl,_,.inl (Ab.of h6),_,rfl,by rw[Wq];lia,by rw[Wq];lia,λD2 hD2=>?_⟩;rw[Wq];refine A4 (n:=T2.length) (λi acc Hx=>acc=((List.range i).map λk=>T2.getD (k-k%g.toNat) 0).map V.int/\AG H6 Hx/\Hx D2=some (.lst acc)) ⟨rfl,AG.new hD2 _,AC⟩ ?_ ?_
     ·rintro i acc Hx hi ⟨rfl,ex,hDx⟩;have ei:(0+(i:Int))-(0+(i:Int))%g=((i-i%g.toNat:Nat):Int):=by have:=Za i g.toNat;rw[Xe,Int.natCast_sub this,Ye,gn]
      walk_at "rd";rw[ei];refine⟨by lia,D,_,_,_,rfl,rfl,Ab.of (ex _ _ h6),CG (by lia),hDx,?_,?_,ex.into hD2,AC⟩
      ·rw[Wq,Wq,W8];exact AW (by lia)
      ·rw[Am,W3];rfl
     rintro acc H7 ⟨rfl,e7,h7⟩;refine⟨⟨D,rfl,D2,rfl,(eX.trans e6).trans e7,lo',T2,e7 _ _ h6,h7,_,c2,s2⟩,?_⟩;dsimp only;rw[e7 _ _ h6,hpX];show (T2.map V.int).length<(tab'.map V.int).length;rw[Wq,hlm];exact ll
    ·rw[qE y];exact hN _ _ ⟨p,_,lo',tab',m',rfl,eX,hpX,c,λ_=>⟨k0 m2,c.last_counts g2 y⟩⟩
   ·rw[qE z];refine hN _ _ ⟨p,_,lo',tab',m',rfl,eX,hpX,c,λm2=>?_⟩;have:=Ir g2 (show 1<m' by lia);lia
  ·intro σ H1 Q1 Q2 hq;walk_at "rd";rintro⟨v,h1,p,e1,x,h2,v2,h3,x1,e3,hh⟩;refine⟨v,h1,p,e1,x,h2,v2,h3,x1,e3,?_⟩
   by_cases z:x1<(x.length:Int)
   ·rw[qF z]at hh⊢;obtain⟨a1,b1,a2,b2,a3,b3,a4,b4,a5,b5,a6,b6,hh⟩:=hh;exact⟨a1,b1,a2,b2,a3,b3,a4,b4,a5,b5,a6,b6,hq _ _ hh⟩
   ·rw[qE z]at hh⊢;exact hq _ _ hh
 clear k0 c h5 e5 hpX eX;rintro σ HX ⟨p,x4,lo',tab',m',rfl,eX,hpX,c,k0⟩;refine Ct (λσ HX=>∃(p:Addr) (x4:Option V) (lf:Int) (tf:List Int) (mf:Nat),σ=[some (.ref r),some (.int g),some (.ref p),x4]/\AG H HX/\HX p=some (.lst (tf.map V.int))/\Az g lo tab m lf tf mf/\(tf.length:Int)=g^mf/\mf<=8) (λN hN=>?_) ?_
 ·have cl:=c.len;have g1:g^1=g:=by rw[XJ,Xh,YC]
  have hlm:(tab'.map V.int).length=tab'.length:=Wq ..;walk_at "rd";refine⟨_,.inl (Ab.of hpX),?_⟩;rw[hlm]
  by_cases z:(tab'.length:Int)=g
  ·rw[qF z];have mf1:m'=1:=Cv g2 (by rw[g1,<-cl];exact z);have ggn:g*g=((g.toNat*g.toNat:Nat):Int):=by rw[YF,gn]
   have gg0:0<=g*g:=Int.mul_nonneg (by lia) (by lia);have gg1:g*g<=9*9:=Yz g9 g9 (by lia) (by lia);refine⟨_,rfl,_,rfl,_,_,rfl,rfl,.inr ⟨by lia,by lia⟩,_,rfl,by lia,by lia,λD hD=>?_⟩;rw[show (g*g).toNat=g.toNat*g.toNat by rw[ggn,XC]];refine A4 (n:=g.toNat*g.toNat) (λi acc Hx=>acc=((List.range i).map λk=>tab'.getD (k/g.toNat) 0).map V.int/\AG HX Hx/\Hx D=some (.lst acc)) ⟨rfl,AG.new hD _,AC⟩ ?_ ?_
   ·rintro i acc Hx hi ⟨rfl,ex,hDx⟩;have ei:(0+(i:Int))/g=((i/g.toNat:Nat):Int):=by rw[Xe,X9,gn]
    have il:i/g.toNat<tab'.length:=by have:=YV hi;lia
    walk_at "rd";rw[ei];refine⟨by lia,by lia,p,_,_,_,rfl,rfl,Ab.of (ex _ _ hpX),CG il,hDx,?_,?_,ex.into hD,AC⟩
    ·rw[Wq,Wq,W8];exact AW (by lia)
    ·rw[Am,W3];rfl
   rintro acc H7 ⟨rfl,e7,h7⟩
   obtain⟨x,hx0,hx1⟩:∃x:Int,(tab'=List.replicate g.toNat (tab'.getD 0 0)->x=0)/\(¬tab'=List.replicate g.toNat (tab'.getD 0 0)->x=lo'):=by
    by_cases y:tab'=List.replicate g.toNat (tab'.getD 0 0)
    ·exact⟨0,λ_=>rfl,λne=>qG y ne⟩
    ·exact⟨lo',λe=>qG e y,λ_=>rfl⟩
   exact hN _ _ ⟨D,x4,x,_,2,rfl,eX.trans e7,h7,c.frame1 g2 hl mf1 x hx0 hx1,by rw[Wq,W8,<-ggn,show (2:Nat)=1+1 from rfl,XJ,g1],by decide⟩
  ·rw[qE z]
   have m2:2<=m':=by
    have m1:=c.m1
    by_cases y:m'=1
    ·subst y;lia
    ·lia
   exact hN _ _ ⟨p,x4,lo',tab',m',rfl,eX,hpX,c.frame g2 hl m2 (k0 m2).1 (k0 m2).2,cl,Xa c.le m8⟩
 rintro σ H8 ⟨p',x4',lf,tf,mf,rfl,e8,h8,fw,tl,mf8⟩;walk_at "rd";exact q p' lf tf mf _ e8 fw h8 tl mf8
theorem Dz:AK ["_law_table_here","_law_signs","_law_some","_law_many","_law_begins","_law_k","_law_ends_here","_law_at","_law_found","_law_row_here","_law_number","_law_bit"] ["_law_table_here","_law_signs","_law_some"] (AH TY):=Ch (by decide +kernel)
theorem VZ(T:Ce K mg t) :Aw P w K mg base 1 t.f_26 ["_law_table_here","_law_signs","_law_some"] (JM):=by
 refine BJ T.d_26 Dz (λ_ _ _ _ _ _=>b3 λ_ _ _=>rfl) λvs H Q E h=>?_;obtain⟨p,g,tab,x,rfl,hp,g2,g9,tl,h1,h9,tb,q⟩:=h;refine⟨rfl,λcdv A outer s hr=>?_⟩
 refine⟨_,(AB (AS 3 Dz (AJ Ax (Aa AO rfl T.z_len XH (AA (pv 0) AD)) (pv 1)))
  (AB (AS 4 Dz (BR AD))
  (AB (Ar PassesOwn.never rfl (Ah rfl T.z_range (AA (pv 3) AD)) (BG 5 Dz) (AB (A8 (CO XF XU XV BP (pv 4) (AA (AJ As (pv 2) AF) AD)))
  (AE (AS 2 Dz (AJ Ax (pv 2) AF)))))
  (AB (Cu (iy:=6) (fv:=[(3,"_law_many")]) (cl:=[("_law_many",_)]) rfl Dz.nd rfl (Or.inl rfl) (Ah rfl T.z_range (AA (pv 1) AD)) (by with_unfolding_all rfl) (by with_unfolding_all rfl) (by decide +kernel) rfl (by decide +kernel) rfl ⟨(by with_unfolding_all rfl),trivial⟩ (by with_unfolding_all rfl) ⟨⟨rfl,rfl,(by with_unfolding_all rfl),rfl⟩,trivial⟩ (by decide) (λ_ _ _ _=>Bw) (λ_ _ _ _=>(AJ LB (BR (BO AD)) (pv 1))))
  (AB (Ar PassesOwn.never rfl (Ah rfl T.z_range (AA (Aa AO rfl T.z_len XH (AA (pv 0) AD)) AD)) (BG 7 Dz) (AE (Ak (AM Bb (AR A9 (pv 4) (AJ Ax (pv 7) (pv 1)) (λ_ _=>rfl)) AF (AN _)) (AE (Kz AF (Ky (AR A9 (pv 6) (AR A9 (pv 0) (pv 7) (λ_ _=>rfl)) (λ_ _=>rfl)) (AJ As (pv 7) (pv 3)) GZ))) AX)))
  (AB (AS 8 Dz (BR AD))
  (AB (Ar PassesOwn.never rfl (BK (pv 6)) (BG 9 Dz) (AB (AS 10 Dz AF)
  (AB (Ar PassesOwn.never rfl (Rt rfl T.z_reversed (AA (pv 9) AD)) (BG 11 Dz) (AE (AS 10 Dz (AJ BD (AJ B6 (pv 10) AF) (pv 11)))))
  (AE (A8 (CO XF XU XV BP (pv 8) (AA (pv 10) AD)))))))
  (AE (AQ (pv 8)))))))))),?_⟩
 have hlm:(tab.map V.int).length=tab.length:=Wq ..;have gn:((g.toNat:Nat):Int)=g:=by lia
 have e:(((tab.map V.int).length:Nat):Int)/g=((tab.length/g.toNat:Nat):Int):=by rw[hlm,X9,gn]
 refine Av λN hN=>?_;walk_at "rd";refine⟨_,.inl (Ab.of hp),by lia,by lia,?_⟩;rw[e];refine hN _ _ ?_;clear hN N e;obtain⟨h,hh⟩:∃h,h=tab.length/g.toNat:=⟨_,rfl⟩;rw[<-hh]at tl h1 h9⊢;refine Av λN hN=>?_;walk_at "rd";refine⟨by decide,λb hb=>hN _ _ ?_⟩;clear hN N;refine Ct (λσ HX=>(∃x2 x5,σ=[some (.ref p),some (.int g),x2,some (.int ((h:Nat):Int)),some (.ref b),x5,none,none,none,none,none,none])/\AG H HX/\HX b=some (.lst (((List.range h).map λi:Nat=>x/2^i%2).map V.int))) (λN hN=>?_) ?_
 ·refine⟨_,rfl,_,rfl,by lia,by lia,?_⟩;rw[XC];refine BZ (n:=h) (λi σ HX=>(∃x5,σ=[some (.ref p),some (.int g),some (.int (x/2^i)),some (.int ((h:Nat):Int)),some (.ref b),x5,none,none,none,none,none,none])/\AG H HX/\HX b=some (.lst (((List.range i).map λi:Nat=>x/2^i%2).map V.int))) ⟨⟨none,by rw[Xh,Int.ediv_one]⟩,AG.new hb _,AC⟩ ?_ ?_
  ·rintro i σ HX hi ⟨⟨x5,rfl⟩,eX,hX⟩;walk_at "rd";refine⟨.inl ⟨_,Ab.of hX⟩,by decide,_,hX,?_,by decide,by decide,Na x i,⟨_,rfl⟩,eX.into hb,?_⟩
   ·rw[Wq,Wq,W8];exact AW (by lia)
   ·rw[AC,Am,W3];rfl
  ·rintro σ HX ⟨⟨x5,rfl⟩,eX,hX⟩;exact hN _ _ ⟨⟨_,_,rfl⟩,eX,hX⟩
 rintro σ H1 ⟨⟨x2,x5,rfl⟩,e1,b1⟩;refine Ct (λσ HX=>∃(pe:Addr) (ps:List Addr),σ=[some (.ref p),some (.int g),x2,some (.int ((h:Nat):Int)),some (.ref b),x5,some (.ref pe),none,none,none,none,none]/\AG H1 HX/\(∀y∈ps,H1 y=none)/\Cs HX pe ps g.toNat (λs=>DA g.toNat tab h x (s:Int) 0)) (λN hN=>?_) ?_
 ·refine⟨_,rfl,_,rfl,by lia,by lia,λD hD=>?_⟩;refine A4 (n:=g.toNat) (λi acc Hx=>∃ps:List Addr,acc=ps.map V.ref/\AG H1 Hx/\(∀y∈ps,H1 y=none)/\Cs Hx D ps i (λs=>DA g.toNat tab h x (s:Int) 0)) ⟨[],rfl,AG.new hD _,λy hy=>qG hy List.not_mem_nil,AC,rfl,List.nodup_nil,List.not_mem_nil,λs q hq=>by simp at hq⟩ ?_ ?_
  ·rintro i acc Hx hi ⟨ps,rfl,ex,pn,rv⟩;dsimp only[LI];rw[qF rfl];refine⟨by decide,λp2 hp2=>⟨_,rfl,QJ AC (by lia) (by lia) λp3 H3 e3 n3 h3=>?_⟩⟩;have f2:=(AG.new hp2 (.lst [V.int 0])).trans e3;have n3':Hx p3=none:=(AG.new hp2 (.lst [V.int 0])).free n3;have rv3:=rv.same f2;refine⟨rv3.l,by rw[Wq,rv.n];exact AW (by lia),ps++[p3],by rw[W3];rfl,(ex.trans f2).into hD,λy hy=>?_,rv3.snoc ?_ ?_ ?_⟩
   ·rcases Ww.mp hy with z|z
    ·exact pn y z
    ·rw[Wr.mp z];exact ex.free n3'
   ·rw[h3,NZ,ZA,XC]
   ·intro z;obtain⟨s,hs⟩:=C6 z;rw[rv.e s _ hs]at n3';cases n3'
   ·intro z;rw[z,rv.l]at n3';cases n3'
  ·rintro acc H5 ⟨ps,rfl,e5,pn,rv⟩;exact hN _ _ ⟨D,ps,rfl,e5,pn,rv⟩
 rintro σ H2 ⟨pe,ps,rfl,e2,pn,rv⟩;have e12:=e1.trans e2;have hnp:∀y∈ps,H y=none:=λy hy=>e1.free (pn y hy)
 have pps:p∉ps:=λz=>by rw[hnp p z]at hp;cases hp
 have bps:b∉ps:=λz=>by rw[pn b z]at b1;cases b1
 refine Ct (λσ HX=>(∃x7,σ=[some (.ref p),some (.int g),x2,some (.int ((h:Nat):Int)),some (.ref b),x5,some (.ref pe),x7,none,none,none,none])/\AG H HX/\Cs HX pe ps g.toNat (λs=>DA g.toNat tab h x (s:Int) (h*g.toNat))) (λN hN=>?_) ?_
 ·have tle:tab.length<=9*9:=by rw[tl];exact Nat.mul_le_mul h9 (by lia)
  refine⟨_,rfl,p,_,rfl,.inl (Ab.of (e12 _ _ hp)),_,rfl,by lia,by lia,?_⟩;rw[hlm];refine BZ (n:=tab.length) (λi σ HX=>(∃x7,σ=[some (.ref p),some (.int g),x2,some (.int ((h:Nat):Int)),some (.ref b),x5,some (.ref pe),x7,none,none,none,none])/\AG H HX/\HX p=some (.lst (tab.map V.int))/\HX b=some (.lst (((List.range h).map λi:Nat=>x/2^i%2).map V.int))/\Cs HX pe ps g.toNat (λs=>DA g.toNat tab h x (s:Int) i)) ⟨⟨none,rfl⟩,e12,e12 _ _ hp,e2 _ _ b1,rv⟩ ?_ ?_
  ·rintro i σ HX hi ⟨⟨x7,rfl⟩,eX,hpX,hbX,rX⟩;have ei:(0+(i:Int))/g=((i/g.toNat:Nat):Int):=by rw[Xe,X9,gn]
   have em:(0+(i:Int))%((h:Nat):Int)=((i%h:Nat):Int):=by rw[Xe,Ye]
   have il:i/g.toNat<h:=YV (by rw[X4];lia);have ml:=Zb i h1;have bg:((List.range h).map λi:Nat=>x/2^i%2).getD (i/g.toNat) 0=x/2^(i/g.toNat)%2:=AT il;obtain⟨t0,t1⟩:=DE g2 tb i;obtain⟨s,hs⟩:∃s:Nat,tab.getD i 0=(s:Int):=⟨(tab.getD i 0).toNat,by lia⟩;have sg:s<g.toNat:=by lia
   obtain⟨q',hq'⟩:∃q',ps[s]?=some q':=⟨ps[s]'(by rw[rX.n];exact sg),Wx _⟩;walk_at "rd";rw[ei];refine⟨by lia,by lia,b,_,_,_,rfl,rfl,Ab.of hbX,CG (by rw[Wq,W8];exact il),rfl,?_⟩;rw[bg]
   by_cases z2:x/2^(i/g.toNat)%2=1
   ·rw[qF (by rw[z2])];have qn:=hnp q' (Wy hq');have qm:=Wy hq';refine⟨_,rfl,_,rfl,_,rfl,p,_,_,_,rfl,rfl,Ab.of hpX,C3 (by lia) (by lia),pe,_,_,V.ref q',rfl,rfl,Ab.of rX.l,?_,?_⟩
    ·rw[show (0+(i:Int)).toNat=i by lia,hs];exact Cf (by rw[W0,hq'];rfl)
    refine⟨_,rfl,_,rfl,_,_,rfl,rfl,by lia,q',_,_,i%h,rfl,rfl,rX.e s q' hq',?_,⟨_,rfl⟩,eX.into qn,by rw[AI λz=>pps (by rw[z];exact qm)];exact hpX,by rw[AI λz=>bps (by rw[z];exact qm)];exact hbX,?_⟩
    ·rw[em,Wq];exact EN (by rw[DW];exact ml)
    ·have r2:=rX.set hq' ((DA g.toNat tab h x (s:Int) i).set (i%h) 1);rw[List.map_set]at r2;refine r2.congr λk _=>?_
     by_cases ks:k=s
     ·rw[ks,qF rfl,QZ h1 hs z2]
     ·rw[qE ks];exact (KU λz=>ks (by have y:=hs.symm.trans z.1;lia)).symm
   ·rw[qE (λz=>z2 (V.int.inj z))];exact⟨⟨_,rfl⟩,eX,hpX,hbX,rX.congr λs _=>(KU λz=>z2 z.2).symm⟩
  ·rintro σ HX ⟨⟨x7,rfl⟩,eX,_,_,rX⟩;rw[tl]at rX;exact hN _ _ ⟨⟨_,rfl⟩,eX,rX⟩
 rintro σ H3 ⟨⟨x7,rfl⟩,e3,rv3⟩;refine Av λN hN=>?_;walk_at "rd";refine⟨by decide,λf hf=>hN _ _ ?_⟩;clear hN N;have e4:=AG.new hf (.lst []);refine Ct (λσ HX=>(∃x9 x10 x11,σ=[some (.ref p),some (.int g),x2,some (.int ((h:Nat):Int)),some (.ref b),x5,some (.ref pe),x7,some (.ref f),x9,x10,x11])/\AG H3 HX/\HX f=some (.lst ((AL g tab x).map V.int))) (λN hN=>?_) ?_
 ·refine⟨_,rfl,pe,rfl,⟨_,Ab.of (e4 _ _ rv3.l)⟩,?_⟩;refine BM (xs:=ps.map V.ref) (λi σ HX=>(∃x9 x10 x11,σ=[some (.ref p),some (.int g),x2,some (.int ((h:Nat):Int)),some (.ref b),x5,some (.ref pe),x7,some (.ref f),x9,x10,x11])/\AG H3 HX/\HX f=some (.lst (((List.range i).map λs:Nat=>Gz g.toNat tab h x (s:Int)).map V.int))) ⟨⟨none,none,none,rfl⟩,e4,AC⟩ (λi σ HX _ z=>Ab.of (z.2.1 _ _ rv3.l)) ?_ ?_
  ·rintro i y σ HX hy ⟨⟨x9,x10,x11,rfl⟩,eX,hX⟩;rw[W0]at hy;obtain⟨q',hq',rfl⟩:=XS.mp hy;have hr:=eX _ _ (rv3.e i q' hq');have ig:i<g.toNat:=by rw[<-rv3.n];exact (Ws.mp hq').1
   dsimp only[Cq];refine Av λN2 hN2=>?_;walk_at "rd";refine hN2 _ _ ?_;clear hN2 N2;refine Ct (λσ HY=>(∃x11,σ=[some (.ref p),some (.int g),x2,some (.int ((h:Nat):Int)),some (.ref b),x5,some (.ref pe),x7,some (.ref f),some (.ref q'),some (.int (Gz g.toNat tab h x (i:Int))),x11])/\HY=HX) (λN2 hN2=>?_) ?_
   ·refine⟨_,rfl,q',_,rfl,Ab.of hr,?_⟩;refine P4 (xs:=(DA g.toNat tab h x (i:Int) (h*g.toNat)).map V.int) (λj σ HY=>(∃x11,σ=[some (.ref p),some (.int g),x2,some (.int ((h:Nat):Int)),some (.ref b),x5,some (.ref pe),x7,some (.ref f),some (.ref q'),some (.int (Bt 2 ((DA g.toNat tab h x (i:Int) (h*g.toNat)).reverse.take j))),x11])/\HY=HX) ⟨⟨_,rfl⟩,rfl⟩ (λj σ HY _ z=>by rw[z.2];exact Ab.of hr) ?_ ?_
    ·rintro j y σ HY hy ⟨⟨x11,rfl⟩,rfl⟩;rw[<-List.map_reverse]at hy;obtain⟨v,hv,rfl⟩:=CA hy;walk_at "rd";refine⟨.inr ⟨by decide,by decide⟩,?_,⟨_,rfl⟩⟩;rw[Jp hv]
    ·rintro σ HY ⟨⟨x11,rfl⟩,rfl⟩;refine hN2 _ _ ⟨⟨x11,?_⟩,rfl⟩;rw[Wq,<-Y1,XZ,Qa (by lia)]
   rintro σ HY ⟨⟨x11',rfl⟩,rfl⟩;walk_at "rd";refine⟨.inl ⟨_,Ab.of hX⟩,_,hX,?_,⟨_,rfl⟩,eX.into hf,?_⟩
   ·rw[Wq,Wq,W8];exact AW (by lia)
   ·rw[AC,Am,W3];rfl
  ·rintro σ HX ⟨⟨x9,x10,x11,rfl⟩,eX,hX⟩;rw[Wq,rv3.n]at hX;exact hN _ _ ⟨⟨_,_,_,rfl⟩,eX,by rw[hX];unfold AL;rw[hh]⟩
 rintro σ H4 ⟨⟨x9,x10,x11,rfl⟩,eX,hX⟩;walk_at "rd";exact q f _ ⟨e3.trans eX,e3.free hf,hX⟩
theorem RS:AK ["_law_row_here","_law_table_here","_law_signs","_law_some"] ["_law_row_here","_law_table_here","_law_signs"] (AH TZ):=Ch (by decide +kernel)
theorem Va(T:Ce K mg t)(G_20:Aw P w K mg base 1 t.f_20 ["_law_found"] (Dh))(G_26:Aw P w K mg base 1 t.f_26 ["_law_table_here","_law_signs","_law_some"] (JM)):Aw P w K mg base 2 t.f_37 ["_law_row_here","_law_table_here","_law_signs"] (JR):=by
 refine BJ T.d_37 RS (λ_ _ _ _ _ _=>b3 λ_ _ _=>rfl) λvs H Q E h=>?_;obtain⟨t1,l,pt,z,g,tf,o,rfl,ht,hl,hpt,tfo,z0,q⟩:=h;refine⟨rfl,λcdv A outer s hr=>?_⟩
 refine⟨_,(AB (Ak (PW.pt (CN (BX (BQ (CS rfl T.z_isinstance (pv 0) (Dw rfl T.z_tuple PyProof.Rows.boot_tuple)))) (CN (AM Hz (Aa AO rfl T.z_len PySem.boot_len (AA (pv 0) AD)) AF (AN _)) (CN (BX (BQ (Af hr G_20 T.m_20 (AA (AR AY (pv 0) AF (λ_ _=>rfl)) AD)))) (CF (BX (BQ (CS rfl T.z_isinstance (AR AY (pv 0) AF (λ_ _=>rfl)) (Dw rfl T.z_list PyProof.Rows.boot_list))))))))) (AE (AQ B5)) AX)
  (AB (Ar PassesOwn.never rfl (BK (AR AY (pv 0) AF (λ_ _=>rfl))) (BG 3 RS) (AE (Ak (BX (BQ (Af hr G_20 T.m_20 (AA (pv 3) AD)))) (AE (AQ B5)) AX)))
  (AB (Ak (PW.pt (Eg (AM L0 (AR AY (pv 0) AF (λ_ _=>rfl)) Cn (AN _)) (Db (BX (BQ (Af hr G_20 T.m_20 (AA (AR AY (pv 0) AF (λ_ _=>rfl)) AD))))))) (AE (AQ B5)) AX)
  (AE (AQ (FO (Bk Qv (AR AY (pv 0) AF (λ_ _=>rfl)) AF (AN _)) (GS (Bk (Gc hr.units) (AR AY (pv 0) AF (λ_ _=>rfl)) (Af hr G_26 T.m_26 (AA (pv 1) (AA (pv 2) (AA (AR AY (pv 0) AF (λ_ _=>rfl)) AD)))) (AN _))))))))),?_⟩
 obtain⟨g2,g9,h1,h2,h3,h4⟩:=tfo;refine Ct (λσ HX=>σ=[some (.ref t1),some (.ref pt),some (.int g),none]/\HX=H) (λN hN=>?_) ?_
 ·walk_at "rd";refine⟨_,.of (.tup ht),_,Q9,?_⟩;rw[qE (by decide)];refine⟨_,.inr (BL.of ht),?_⟩;rw[qE (by exact λz=>z rfl)];refine⟨t1,_,0,_,rfl,rfl,BL.of ht,rfl,.int z,rfl,True.intro,true,rfl,?_⟩;rw[qE (by decide)];refine⟨t1,_,1,_,rfl,rfl,BL.of ht,rfl,_,.of (.lst hl),_,ML,?_⟩;rw[qE (by decide)];exact hN _ _ ⟨rfl,rfl⟩
 rintro σ HX ⟨rfl,rfl⟩;refine Ct (λσ HY=>(∃x3,σ=[some (.ref t1),some (.ref pt),some (.int g),x3])/\HY=HX) (λN hN=>?_) ?_
 ·refine⟨_,rfl,t1,_,1,_,rfl,rfl,BL.of ht,rfl,l,rfl,⟨_,Ab.of hl⟩,?_⟩;refine BM (xs:=(AL g tf z).map V.int) (λi σ HY=>(∃x3,σ=[some (.ref t1),some (.ref pt),some (.int g),x3])/\HY=HX) ⟨⟨none,rfl⟩,rfl⟩ (λi σ HY _ zz=>by rw[zz.2];exact Ab.of hl) ?_ λσ HY zz=>hN _ _ zz
  rintro i v σ HY hv ⟨⟨x3,rfl⟩,rfl⟩;obtain⟨x,hx,rfl⟩:=CA hv;walk_at "rd";exact⟨.int x,rfl,True.intro,true,rfl,by rw[qE (by decide)];exact⟨⟨_,rfl⟩,rfl⟩⟩
 rintro σ HY ⟨⟨x3,rfl⟩,rfl⟩;refine Ct (λσ HZ=>σ=[some (.ref t1),some (.ref pt),some (.int g),x3]/\HZ=HY) (λN hN=>?_) ?_
 ·walk_at "rd";refine⟨t1,_,2,_,rfl,rfl,BL.of ht,rfl,?_⟩;cases o with
  |none =>
   rw[qE (show ¬¬Fu none=V.non from λz=>z rfl)];exact hN _ _ ⟨rfl,rfl⟩
  |some n =>
   rw[qF (show ¬Fu (some n)=V.non from λz=>nomatch z)];exact⟨t1,_,2,_,rfl,rfl,BL.of ht,rfl,.int n,rfl,True.intro,true,rfl,by rw[qE (by decide)];exact hN _ _ ⟨rfl,rfl⟩⟩
 rintro σ HZ ⟨rfl,rfl⟩;walk_at "rd";refine⟨t1,_,0,_,rfl,rfl,BL.of ht,rfl,_,rfl,?_⟩;rw[qF z0];refine⟨t1,_,1,_,rfl,rfl,BL.of ht,rfl,t1,_,0,_,rfl,rfl,BL.of ht,rfl,pt,g,tf,z,rfl,hpt,g2,g9,h1,h2,h3,h4,λp5 H5 n5=>⟨l,rfl,p5,rfl,_,Ab.of (n5.1 _ _ hl),_,Ab.of n5.2.2,?_⟩⟩;rw[qH rfl];exact q _ n5.1
theorem RT:AK ["_law_row_here","_law_rows","_law_some"] ["_law_row_here","_law_rows"] (AH Ta):=Ch (by decide +kernel)
theorem Vb(T:Ce K mg t) :Aw P w K mg base 1 t.f_27 ["_law_row_here","_law_rows"] (HR):=by
 refine BJ T.d_27 RT (λ_ _ _ _ _ _=>b2 λ_ _=>rfl) λvs H Q E h=>?_;obtain⟨t1,l,d,z,ts,Z,A',F,M,f,rfl,ht,hl,hd,nd,pr,hz,hZ,l9,w',q⟩:=h;refine⟨rfl,λcdv A outer s hr=>?_⟩
 refine⟨_,(AB (Ak (AM Bb (AR AY (pv 0) AF (λ_ _=>rfl)) AF (AN _)) (AE (AQ (Bk Bb (AR AY (pv 0) AF (λ_ _=>rfl)) AF (AN _)))) AX)
  (AB (Cu (iy:=2) (fv:=[(1,"_law_rows")]) (cl:=[("_law_rows",_)]) rfl RT.nd rfl (Or.inl rfl) (BK (AR AY (pv 0) AF (λ_ _=>rfl))) (by with_unfolding_all rfl) (by with_unfolding_all rfl) (by decide +kernel) rfl (by decide +kernel) rfl ⟨(by with_unfolding_all rfl),trivial⟩ (by with_unfolding_all rfl) ⟨⟨rfl,rfl,(by with_unfolding_all rfl),rfl⟩,trivial⟩ (by decide) (λ_ _ _ _=>(OM (AM L0 (AR (Di (K:=K) rfl) (CI (Br hr) (pv 1) (pv 0) (λ_ _=>rfl)) AF (λ_ _=>rfl)) Cn (AN _)))) (λ_ _ _ _=>(AR (Di (K:=K) rfl) (CI (Br hr) (pv 1) (pv 0) (λ_ _=>rfl)) AF (λ_ _=>rfl))))
  (AB (Ak (AM (Gc hr.units) (pv 2) (BR AD) (AN _)) (AE (AQ (Bk Eh (AR AY (pv 0) AF (λ_ _=>rfl)) Cn (AN _)))) AX)
  (AE (AQ (Bk Bb (AR AY (pv 0) AF (λ_ _=>rfl)) (AJ BD AF (Aa (Jv rfl) rfl T.z_min ZN (AA (pv 2) AD))) (AN _))))))),?_⟩
 by_cases z0:z=0
 ·subst z0;have e0:=w'.ends 0 (Wr.mpr rfl);have e1:BH M f 0=some 0:=by unfold BH;rw[qF e0.1,e0.2]
  rw[e1]at ht;walk_at "rd";refine⟨t1,_,0,_,rfl,rfl,BL.of ht,rfl,rfl,?_⟩;rw[qF rfl];refine⟨t1,_,2,_,rfl,rfl,BL.of ht,rfl,rfl,?_⟩;rw[qH (show Fu (some 0)=V.int 0 from rfl)];exact q _ (AG.refl _)
 refine Ct (λσ HX=>σ=[some (.ref t1),some (.ref d),none]/\HX=H) (λN hN=>?_) ?_
 ·walk_at "rd";refine⟨t1,_,0,_,rfl,rfl,BL.of ht,rfl,rfl,?_⟩;rw[qE (λy=>z0 (V.int.inj y))];exact hN _ _ ⟨rfl,rfl⟩
 rintro σ HX ⟨rfl,rfl⟩;refine Ct (λσ HY=>∃D,σ=[some (.ref t1),some (.ref d),some (.ref D)]/\FU HX HY D (((F z).filterMap (BH M f)).map λn:Nat=>(n:Int))) (λN hN=>?_) ?_
 ·refine⟨_,rfl,t1,_,1,_,rfl,rfl,BL.of ht,rfl,l,rfl,⟨_,Ab.of hl⟩,λD hD=>?_⟩;refine EM (xs:=(F z).map V.int) (λi acc Hx=>acc=((((F z).take i).filterMap (BH M f)).map λn:Nat=>(n:Int)).map V.int/\AG HX Hx/\Hx D=some (.lst acc)) ⟨by simp,AG.new hD _,AC⟩ (λi acc Hx _ zz=>Ab.of (zz.2.1 _ _ hl)) ?_ ?_
  ·rintro i v acc Hx hv ⟨rfl,ex,hDx⟩;obtain⟨x,hx,rfl⟩:=CA hv;walk_at "rd";obtain⟨t2,l2,dg,k1,k2⟩:=(pr.same ex).get nd (ex _ _ hd) (hZ x (Wy hx));have xi:=(Ws.mp hx).1;have tk:(F z).take (i+1)=(F z).take i++[x]:=by rw[Xw,hx];rfl
   refine⟨_,rfl,_,rfl,d,.ref t2,rfl,dg,t2,_,2,_,rfl,rfl,BL.of k1,rfl,?_⟩;dsimp only;cases hfo:BH M f x with
   |none =>
    rw[qE (show ¬¬Fu none=V.non from λz=>z rfl)];have e:((F z).take (i+1)).filterMap (BH M f)=((F z).take i).filterMap (BH M f):=by rw[tk,List.filterMap_append,List.filterMap_cons,hfo,List.filterMap_nil,Xn]
    rw[e];exact⟨rfl,ex,hDx⟩
   |some n =>
    rw[qF (show ¬Fu (some n)=V.non from λz=>nomatch z)];have e:((F z).take (i+1)).filterMap (BH M f)=((F z).take i).filterMap (BH M f)++[n]:=by rw[tk,List.filterMap_append,List.filterMap_cons,hfo,List.filterMap_nil]
    have ln:=List.length_filterMap_le (BH M f) ((F z).take i);rw[XR]at ln;rw[hfo]at k1;refine⟨_,rfl,_,rfl,d,.ref t2,rfl,dg,t2,_,2,_,rfl,rfl,BL.of k1,rfl,hDx,by rw[Wq,Wq];exact AW (by lia),?_,ex.into hD,AC⟩;rw[e,W3,W3];rfl
  ·rintro acc H2 ⟨rfl,e2,h2⟩;rw[Wq,XZ]at h2;exact hN _ _ ⟨D,rfl,e2,hD,h2⟩
 rintro σ HY ⟨D,rfl,e2,n2,h2⟩;walk_at "rd";refine⟨XO _,λp hp=>?_⟩;have f1:=AG.new hp (.lst []);refine⟨_,Ab.of (f1 _ _ h2),[],Ab.of AC,?_⟩
 by_cases em:(F z).filterMap (BH M f)=[]
 ·rw[qF (by rw[em];rfl)];refine⟨t1,_,2,_,rfl,rfl,BL.of (f1 _ _ (e2 _ _ ht)),rfl,?_⟩;dsimp only;rw[PU w' z0 em,qH (show Fu none=V.non from rfl)];exact q _ (e2.trans f1)
 ·rw[qE (λy=>em (List.map_eq_nil_iff.mp y))];refine⟨t1,_,2,_,rfl,rfl,BL.of (f1 _ _ (e2 _ _ ht)),rfl,_,Ab.of (f1 _ _ h2),by rw[Wq];exact Y2.mpr em,λm hm hle=>?_⟩;obtain⟨k,hk,rfl⟩:=XT.mp hm;have e:=Nm w' hz z0 hk (λj hj=>by have:=hle j (XT.mpr ⟨j,hj,rfl⟩);lia);rw[e];refine⟨rfl,?_⟩;rw[qH (show Fu (some (k+1))=V.int (1+(k:Int)) from by show V.int ((k+1:Nat):Int)=_;congr 1;lia)];exact q _ (e2.trans f1)
theorem Hh:AK ["_law_rows","_law_start","_law_met","_law_layer","_law_ahead","_law_some","_law_other"] ["_law_rows","_law_start"] (AH Tb):=Ch (by decide +kernel)
theorem Vc(T:Ce K mg t) :Aw P w K mg base 1 t.f_25 ["_law_rows","_law_start"] (HS):=by
 refine BJ T.d_25 Hh (λ_ _ _ _ _ _=>b2 λ_ _=>rfl) λvs H Q E h=>?_;obtain⟨d,st,ts,Z,F,fo,rfl,hd,nd,l512,pr,hs,hZ,l9,q⟩:=h;refine⟨rfl,λcdv A outer s hr=>?_⟩
 refine⟨_,(AB (AS 2 Hh (QT (Od (pv 1) B5 QS) rfl rfl (λz=>nomatch z) (by decide)))
  (AB (AS 3 Hh (BR (AA (pv 1) AD)))
  (AB (B7 PassesOwn.never (AM (Ru hr.units) (pv 3) (BR AD) (AN _)) (AB (AS 4 Hh (BR AD))
  (AB (Ar PassesOwn.never rfl (BK (pv 3)) (BG 5 Hh) (AE (Ar PassesOwn.never rfl (BK (AR AY (CI (Br hr) (pv 0) (pv 5) (λ_ _=>rfl)) AF (λ_ _=>rfl))) (BG 6 Hh) (AE (Ak (GR (DV (Br hr) (pv 6) (pv 2))) (AB (FF (Br hr) (pv 2) (pv 6) B5 rfl)
  (AE (A8 (CO XF XU XV BP (pv 4) (AA (pv 6) AD))))) AX)))))
  (AE (AS 3 Hh (pv 4))))))
  (AE (AQ (Aa KW rfl T.z_len XH (AA (pv 2) AD))))))),?_⟩
 refine Av λN hN=>?_;intro e he;refine⟨_,rfl,AC,[(Sum.inl st,.bl true)],rfl,(show 1<=15 by decide),hN _ _ ?_⟩;clear hN N;have m1:FZ [] [(Sum.inl st,V.bl true)]=Cd [st]:=rfl;rw[m1];have e1:AG H (Ae (Ae H e (.dK [])) e (.dK (Cd [st]))):=(AG.new he _).into he;have d1:Ae (Ae H e (.dK [])) e (.dK (Cd [st])) e=some (.dK (Cd [st])):=AC;generalize Ae (Ae H e (.dK [])) e (.dK (Cd [st]))=H1 at e1 d1⊢;refine Av λN hN=>?_;walk_at "rd";refine⟨by decide,λp hp=>hN _ _ ?_⟩;clear hN N;have f2:=AG.new hp (.lst [V.int st]);refine Ct (λσ HX=>∃(A:List Int) (x3 x4 x5 x6:Option V),σ=[some (.ref d),some (.int st),some (.ref e),x3,x4,x5,x6]/\AG H HX/\HX e=some (.dK (Cd A))/\By [st] F A) (λN hN=>?_) ?_
 ·refine⟨λm σ HX=>∃(A L:List Int) (p:Addr),(∃(x4 x5 x6:Option V),σ=[some (.ref d),some (.int st),some (.ref e),some (.ref p),x4,x5,x6])/\AG H HX/\HX e=some (.dK (Cd A))/\HX p=some (.lst (L.map V.int))/\(∀a∈L,a∈A)/\Lq st F Z A (λa=>a∈L)/\m=(513-A.length)*2+(if L=[] then 0 else 1),⟨_,[st],[st],p,⟨none,none,none,rfl⟩,e1.trans f2,f2 _ _ d1,AC,λa ha=>ha,⟨by simp,List.mem_singleton.mpr rfl,λa ha=>by rw[List.mem_singleton.mp ha];exact hs,λa ha=>.base ha,λa ha=>.inl ha⟩,rfl⟩,?_⟩;rintro m' σ HX ⟨A,L,p,⟨x4,x5,x6,rfl⟩,eX,hX,hpX,LA,cm,rfl⟩;have lA:=cm.len;refine⟨_,rfl,by decide,λz1 hz1=>?_⟩;have f1:=AG.new hz1 (.lst []);have eY:=eX.trans f1;have dY:=f1 _ _ hX;have pY:=f1 _ _ hpX;have zY:Ae HX z1 (.lst []) z1=some (.lst (([]:List Int).map V.int)):=AC;generalize Ae HX z1 (.lst [])=HY at eY dY pY zY⊢;refine⟨p,z1,L,[],rfl,rfl,Ab.of pY,Ab.of zY,_,rfl,?_⟩;dsimp only
  by_cases z:L=[]
  ·subst z;rw[qE (by decide)];exact hN _ _ ⟨A,_,_,_,_,rfl,eY,dY,cm.done λa _=>W6⟩
  rw[qF (by rw[qI z];rfl),qE z];refine⟨λσ' H'=>∃m',m'<(513-A.length)*2+1/\∃(A L:List Int) (p:Addr),(∃(x4 x5 x6:Option V),σ'=[some (.ref d),some (.int st),some (.ref e),some (.ref p),x4,x5,x6])/\AG H H'/\H' e=some (.dK (Cd A))/\H' p=some (.lst (L.map V.int))/\(∀a∈L,a∈A)/\Lq st F Z A (λa=>a∈L)/\m'=(513-A.length)*2+(if L=[] then 0 else 1),λ_ _ h=>h,?_⟩;refine Av λN2 hN2=>?_;walk_at "rd";refine⟨by decide,λp4 hp4=>hN2 _ _ ?_⟩;clear hN2 N2;have f4:=AG.new hp4 (.lst []);have eZ:=eY.trans f4;have dZ:=f4 _ _ dY;have pZ:=f4 _ _ pY;have qZ:Ae HY p4 (.lst []) p4=some (.lst (([]:List Int).map V.int)):=AC;have n4:H p4=none:=eY.free hp4;have p4p:p4≠p:=λz=>by rw[z,pY]at hp4;cases hp4
  have p4e:p4≠e:=λz=>by rw[z,dY]at hp4;cases hp4
  have pe:p≠e:=λz=>by rw[z,dY]at pY;cases pY
  generalize Ae HY p4 (.lst [])=HZ at eZ dZ pZ qZ⊢;refine Ct (λσ HW=>∃(A' B:List Int) (x5 x6:Option V),σ=[some (.ref d),some (.int st),some (.ref e),some (.ref p),some (.ref p4),x5,x6]/\AG H HW/\HW e=some (.dK (Cd A'))/\HW p4=some (.lst (B.map V.int))/\(∀a∈B,a∈A')/\Lq st F Z A' (λa=>a∈B)/\A'.length=A.length+B.length) (λN2 hN2=>?_) ?_
  ·refine⟨_,rfl,p,rfl,⟨_,Ab.of pZ⟩,?_⟩;refine BM (xs:=L.map V.int) (λi σ HW=>∃(A' B:List Int),(∃(x5 x6:Option V),σ=[some (.ref d),some (.int st),some (.ref e),some (.ref p),some (.ref p4),x5,x6])/\AG H HW/\HW e=some (.dK (Cd A'))/\HW p=some (.lst (L.map V.int))/\HW p4=some (.lst (B.map V.int))/\(∀a∈L,a∈A')/\(∀a∈B,a∈A')/\Lq st F Z A' (λa=>a∈L.drop i\/a∈B)/\A'.length=A.length+B.length) ⟨A,[],⟨x5,x6,rfl⟩,eZ,dZ,pZ,qZ,LA,λa h=>qG h W6,cm.mono λa _ h=>.inl (.inl h),rfl⟩ (λi σ HW _ zz=>by obtain⟨_,_,_,_,_,hp,_⟩:=zz;exact Ab.of hp) ?_ ?_
   ·rintro i v σ HW hv ⟨A',B,⟨y5,y6,rfl⟩,eW,dW,pW,qW,LA',BA',cm',len'⟩;obtain⟨x,hx,rfl⟩:=CA hv;have xA:=LA' x (Wy hx);have xZ:=cm'.sub x xA;obtain⟨t2,l2,dg,k1,k2⟩:=pr.getS nd eW (eW _ _ hd) xZ;have nl2:l2≠p4:=λz=>by rw[z,n4]at k2;cases k2
    have k1:=eW _ _ k1;have k2:=eW _ _ k2;dsimp only[Cq];refine⟨_,rfl,_,rfl,d,.ref t2,rfl,dg,t2,_,1,_,rfl,rfl,BL.of k1,rfl,l2,rfl,⟨_,Ab.of k2⟩,?_⟩;refine BM (xs:=(F x).map V.int) (λj σ HV=>∃(A' B:List Int),(∃(x6:Option V),σ=[some (.ref d),some (.int st),some (.ref e),some (.ref p),some (.ref p4),some (.int x),x6])/\AG H HV/\HV e=some (.dK (Cd A'))/\HV p=some (.lst (L.map V.int))/\HV p4=some (.lst (B.map V.int))/\HV l2=some (.lst ((F x).map V.int))/\(∀a∈L,a∈A')/\(∀a∈B,a∈A')/\(∀b∈(F x).take j,b∈A')/\Lq st F Z A' (λa=>a=x\/a∈L.drop (i+1)\/a∈B)/\A'.length=A.length+B.length) ⟨A',B,⟨y6,rfl⟩,eW,dW,pW,qW,k2,LA',BA',λb h=>qG h (by simp),cm'.mono λa _ h=>.inl ?_,len'⟩ (λj σ HV _ zz=>by obtain⟨_,_,_,_,_,_,_,hl,_⟩:=zz;exact Ab.of hl) ?_ ?_
    ·rcases h with h|h
     ·rw[Xz (Ws.mp hx).1]at h;rcases XE.mp h with y|y
      ·exact .inl (by rw[y];exact (Ws.mp hx).2)
      ·exact .inr (.inl y)
     ·exact .inr (.inr h)
    ·rintro j v σ HV hv ⟨A2,B2,⟨z6,rfl⟩,eV,dV,pV,qV,lV,LA2,BA2,tA2,cm2,len2⟩;obtain⟨y,hy,rfl⟩:=CA hv;have yF:=Wy hy;have tk:(F x).take (j+1)=(F x).take j++[y]:=by rw[Xw,hy];rfl
     have xA2:=LA2 x (Wy hx);have le2:=cm2.len;dsimp only[Cq];refine⟨_,rfl,_,rfl,e,_,rfl,Cy.k (k:=Sum.inl y) dV,_,rfl,?_⟩;rw[C7 (by rw[Wq]) cm2.nd]
     by_cases m:y∈A2
     ·rw[qH m];exact My ⟨A2,B2,⟨_,rfl⟩,eV,dV,pV,qV,lV,LA2,BA2,λb hb=>by rw[tk]at hb;exact (Ww.mp hb).elim (tA2 b) λz=>by rw[Wr.mp z];exact m,cm2,len2⟩
     rw[qI m];refine Py ?_;refine Av λN3 hN3=>?_;refine⟨_,rfl,_,rfl,e,_,rfl,JE.k (k:=Sum.inl y) dV (by rw[KZ];exact AW (by lia)),hN3 _ _ ?_⟩;clear hN3 N3;rw[O7,qE m];have el:l2≠e:=λz=>by rw[z,dV]at lV;cases lV
     have eU:AG H (Ae HV e (.dK (Cd (A2++[y])))):=eV.into he;have dU:Ae HV e (.dK (Cd (A2++[y]))) e=some (.dK (Cd (A2++[y]))):=AC;have pU:Ae HV e (.dK (Cd (A2++[y]))) p=some (.lst (L.map V.int)):=by rw[AI pe];exact pV
     have qU:Ae HV e (.dK (Cd (A2++[y]))) p4=some (.lst (B2.map V.int)):=by rw[AI p4e];exact qV
     have lU:Ae HV e (.dK (Cd (A2++[y]))) l2=some (.lst ((F x).map V.int)):=by rw[AI el];exact lV
     generalize Ae HV e (.dK (Cd (A2++[y])))=HU at eU dU pU qU lU⊢;walk_at "rd";have gt:∀{a:Int},a∈A2->a∈A2++[y]:=λh=>Xr _ h
     have gy:y∈A2++[y]:=Xg _ (Wr.mpr rfl);refine⟨.inl ⟨_,Ab.of qU⟩,_,qU,by rw[List.length_map];exact AW (by lia),⟨_,rfl⟩,eU.into n4,A2++[y],by rw[AI (Ne.symm p4e)];exact dU,by rw[AI (Ne.symm p4p)];exact pU,B2++[y],by rw[AC,List.map_append];rfl,by rw[AI nl2];exact lU,λa h=>gt (LA2 a h),λa h=>(List.mem_append.mp h).elim (λz=>gt (BA2 a z)) λz=>by rw[List.mem_singleton.mp z];exact gy,λb hb=>by rw[tk]at hb;exact (List.mem_append.mp hb).elim (λz=>gt (tA2 b z)) λz=>by rw[List.mem_singleton.mp z];exact gy,?_,by rw[List.length_append,List.length_append,len2];simp;lia⟩;exact cm2.add m (hZ x xZ y yF) (.step (cm2.co x xA2) yF) (λa h=>h.imp_right λh=>h.imp_right λh=>Xr _ h) (.inr (.inr (Xg _ (Wr.mpr rfl))))
    ·rintro σ HV ⟨A2,B2,⟨z6,rfl⟩,eV,dV,pV,qV,lV,LA2,BA2,tA2,cm2,len2⟩;rw[Wq,XZ]at tA2;exact⟨A2,B2,⟨_,_,rfl⟩,eV,dV,pV,qV,LA2,BA2,cm2.mono λa _ h=>h.elim (λz=>.inr (by rw[z];exact tA2)) .inl,len2⟩
   ·rintro σ HW ⟨A',B,⟨y5,y6,rfl⟩,eW,dW,pW,qW,LA',BA',cm',len'⟩;rw[Wq,List.drop_length]at cm';exact hN2 _ _ ⟨A',B,y5,y6,rfl,eW,dW,qW,BA',cm'.mono λa _ h=>.inl (h.resolve_left W6),len'⟩
  rintro σ HW ⟨A',B,y5,y6,rfl,eW,dW,qW,BA',cm',len'⟩;walk_at "rd";refine⟨_,?_,⟨_,rfl⟩,eW,A',dW,B,qW,BA',cm',rfl⟩;have:=cm'.len
  by_cases zB:B=[]
  ·rw[qF zB];lia
  ·rw[qE zB];have:=Y2.mpr zB;lia
 rintro σ HX ⟨A,x3,x4,x5,x6,rfl,eX,hX,rp⟩;walk_at "rd";refine⟨_,.inl hX,?_⟩;rw[KZ];exact q A HX eX rp
theorem FM:AK ["_law_found","_law_table_here","_law_signs","_law_rows","_law_row_here","_law_one","_law_other","_law_start"] ["_law_found","_law_table_here","_law_signs"] (AH Tc):=Ch (by decide +kernel)
theorem Vd(T:Ce K mg t)(G_17:Aw P w K mg base 1 t.f_17 ["_law_signs","_law_many"] (EO))(G_37:Aw P w K mg base 2 t.f_37 ["_law_row_here","_law_table_here","_law_signs"] (JR))(G_27:Aw P w K mg base 1 t.f_27 ["_law_row_here","_law_rows"] (HR))(G_25:Aw P w K mg base 1 t.f_25 ["_law_rows","_law_start"] (HS)):Aw P w K mg base 3 t.f_16 ["_law_found","_law_table_here","_law_signs"] (JT):=by
 refine BJ T.d_16 FM (λ_ _ _ _ _ _=>b3 λ_ _ _=>rfl) λvs H Q E h=>?_;obtain⟨p,pt,g,tf,Z,A',M,f,rfl,pv',hpt,due,q⟩:=h;refine⟨rfl,λcdv A outer s hr=>?_⟩
 refine⟨_,(AB (Ak (PW.pt (CN (BX (BQ (CS rfl T.z_isinstance (pv 0) (Dw rfl T.z_list PyProof.Rows.boot_list)))) (CF (AM (MZ (K:=K) rfl hr.units) (pv 0) (BR AD) (AN _))))) (AE (AQ B5)) AX)
  (AB (AS 3 FM EE)
  (AB (Ar PassesOwn.never rfl (BK (pv 0)) (BG 4 FM) (AB (Ak (BX (BQ (Af hr G_37 T.m_37 (AA (pv 4) (AA (pv 1) (AA (pv 2) AD)))))) (AE (AQ B5)) AX)
  (AE (FF (Br hr) (pv 3) (AR AY (pv 4) AF (λ_ _=>rfl)) (pv 4) rfl))))
  (AB (Ar PassesOwn.never rfl (SO rfl T.z_zip (AA (D4 E2 (pv 0) Ez (E1 (Jd GX AF))) (AA (D4 E2 (pv 0) (E1 AF) Ez) AD))) (IY rfl (Cj (BG 5 FM) (Cj (BG 6 FM) F6))) (AE (Ak (AM Je (AR AY (pv 5) AF (λ_ _=>rfl)) (AR AY (pv 6) AF (λ_ _=>rfl)) (AN _)) (AE (AQ B5)) AX)))
  (AB (Ar PassesOwn.never rfl (BK (pv 0)) (BG 4 FM) (AE (Ar PassesOwn.never rfl (BK (AR AY (pv 4) AF (λ_ _=>rfl))) (BG 6 FM) (AE (Ak (GR (DV (Br hr) (pv 6) (pv 3))) (AE (AQ B5)) AX)))))
  (AB (Ar PassesOwn.never rfl (BK (pv 0)) (BG 4 FM) (AE (Ak (BX (BQ (Af hr G_27 T.m_27 (AA (pv 4) (AA (pv 3) AD))))) (AE (AQ B5)) AX)))
  (AB (AS 7 FM (AJ Bq (Af hr G_17 T.m_17 (BO (AA (AJ Ax (Aa AO rfl T.z_len XH (AA (pv 1) AD)) (pv 2)) AD))) AF))
  (AE (AQ (FO (Bk Bb (AR AY (AR A9 (pv 0) AF (λ_ _=>rfl)) AF (λ_ _=>rfl)) (pv 7) (AN _)) (GS (Bk Bb (Af hr G_25 T.m_25 (AA (pv 3) (AA (pv 7) AD))) (Aa AO rfl T.z_len XH (AA (pv 0) AD)) (AN _))))))))))))),?_⟩
 obtain⟨g2,g9,t1,t2,t3,t4⟩:=due.tok;have nd:=due.nd;have few:=due.few;have low:=due.low;have mA:∀{z},z∈Z->z∈A':=λh=>due.pm.mem_iff.mp h
 have mZ:∀{z},z∈A'->z∈Z:=λh=>due.pm.mem_iff.mpr h
 obtain⟨Z',hZ'⟩:=due.first;obtain⟨ts,hp,pr⟩:=CL.r pv';have tl:=pr.1;refine Ct (λσ HX=>σ=[some (.ref p),some (.ref pt),some (.int g),none,none,none,none,none]/\AG H HX) (λN hN=>?_) ?_
 ·walk_at "rd";refine⟨_,.of (.lst hp),_,ML,?_⟩;rw[qE (by decide)];refine⟨XO _,λp6 hp6=>⟨_,_,CL.dat (pv'.same (AG.new hp6 _)),D7.lst (Ab.of AC) CU.nil,EI _ _ _,rfl,Hb _ _ _,_,rfl,?_⟩⟩;rw[hZ',PY,qE (by decide)];exact hN _ _ ⟨rfl,AG.new hp6 _⟩
 rintro σ H1 ⟨rfl,e1⟩;refine Av λN hN=>?_;intro d hd;refine hN _ _ ?_;clear hN N;have e2:=AG.new hd (.dK []);have nd2:=e1.free hd;refine Ct (λσ HX=>(∃x4,σ=[some (.ref p),some (.ref pt),some (.int g),some (.ref d),x4,none,none,none])/\AG H HX/\HX d=some (.dK (Ai Z (ts.map V.ref)))) (λN hN=>?_) ?_
 ·refine⟨_,rfl,p,rfl,⟨_,Ab.of ((e1.trans e2) _ _ hp)⟩,?_⟩;refine BM (xs:=ts.map V.ref) (λi σ HX=>(∃x4,σ=[some (.ref p),some (.ref pt),some (.int g),some (.ref d),x4,none,none,none])/\AG H HX/\HX d=some (.dK (Ai (Z.take i) ((ts.take i).map V.ref)))) ⟨⟨none,rfl⟩,e1.trans e2,AC⟩ (λi σ HX _ zz=>Ab.of (zz.2.1 _ _ hp)) ?_ ?_
  ·rintro i v σ HX hv ⟨⟨x4,rfl⟩,eX,dX⟩;rw[W0]at hv;obtain⟨t1',ht,rfl⟩:=XS.mp hv;have ti:=(Ws.mp ht).1;obtain⟨z,hz⟩:∃z,Z[i]?=some z:=⟨_,Wx (by lia)⟩;obtain⟨l,k1,k2⟩:=pr.2 i t1' z ht hz;have zZ:=Wy hz;have zn:z∉Z.take i:=λh=>by have y:=nd;rw[<-Xk i Z,Xq]at y;obtain⟨zi,ez⟩:=Ws.mp hz;exact y.2.2 z h z (by rw[Xz zi,ez];exact W7) rfl
   walk_at "rd";refine⟨t1',l,pt,z,g,tf,BH M f z,rfl,eX _ _ k1,eX _ _ k2,eX _ _ hpt,due.tok,(low z (mA zZ)).1,λH5 e5=>⟨true,rfl,?_⟩⟩;rw[qE (by decide)];have ll:((ts.take i).map V.ref).length=(Z.take i).length:=by rw[Wq,XR,XR,tl]
   refine⟨_,rfl,_,rfl,_,rfl,t1',_,0,_,rfl,rfl,BL.of (e5 _ _ (eX _ _ k1)),rfl,d,_,rfl,JE.k (k:=Sum.inl z) (e5 _ _ dX) (by rw[CB ll,XR];exact AW (by lia)),⟨_,rfl⟩,(eX.trans e5).into nd2,?_⟩;rw[AC,DX ll zn,Xw,Xw,hz,ht,W3];rfl
  ·rintro σ HX ⟨⟨x4,rfl⟩,eX,dX⟩;rw[Wq,XZ,tl,XZ]at dX;exact hN _ _ ⟨⟨x4,rfl⟩,eX,dX⟩
 rintro σ H2 ⟨⟨x4,rfl⟩,e2',d2⟩;refine Ct (λσ HX=>(∃x5 x6,σ=[some (.ref p),some (.ref pt),some (.int g),some (.ref d),x4,x5,x6,none])/\AG H2 HX) (λN hN=>?_) ?_
 ·refine⟨_,rfl,?_⟩;dsimp only[F7];refine⟨_,rfl,_,rfl,?_⟩;refine Gh (Ab.of (e2' _ _ hp)) λp1 H3 f3 n3 h3=>?_;refine⟨_,rfl,_,rfl,?_⟩;dsimp only[F7];refine Gh (Ab.of ((e2'.trans f3) _ _ hp)) λp2 H4 f4 n4 h4=>?_;have h3:=f4 _ _ h3;rw[Iv]at h3;rw[show (1:Int)=((1:Nat):Int) from rfl,NF]at h4;refine⟨p1,p2,_,_,rfl,Ab.of h3,Ab.of h4,?_⟩;have f34:=f3.trans f4;refine QU (D:={nx:=N,rt:=Q}) (xs:=(ts.map V.ref).take ((ts.map V.ref).length-1)) (ys:=(ts.map V.ref).drop 1) (by simp) (λi σ HX=>(∃x5 x6,σ=[some (.ref p),some (.ref pt),some (.int g),some (.ref d),x4,x5,x6,none])/\AG H4 HX) ⟨⟨none,none,rfl⟩,AG.refl _⟩ (λi σ HX _ zz=>⟨Ab.of (zz.2 _ _ h3),Ab.of (zz.2 _ _ h4)⟩) ?_ ?_
  case refine_2 =>
   rintro σ HX zz;exact hN _ _ ⟨zz.1,f34.trans zz.2⟩
  rintro i x y pu σ HX hx hy ⟨⟨x5,x6,rfl⟩,eX⟩ hpu
  obtain⟨ta,hta,rfl⟩:∃ta,ts[i]?=some ta/\V.ref ta=x:=by have hi:=(Ws.mp hx).1;rw[XR,Wq]at hi;rw[Y4 (by rw[Wq];lia),W0]at hx;exact XS.mp hx
  obtain⟨tb,htb,rfl⟩:∃tb,ts[i+1]?=some tb/\V.ref tb=y:=by rw[List.getElem?_drop,W0,Nat.add_comm]at hy;exact XS.mp hy
  have tbi:=(Ws.mp htb).1;obtain⟨za,hza⟩:∃z,Z[i]?=some z:=⟨_,Wx (by lia)⟩;obtain⟨zb,hzb⟩:∃z,Z[i+1]?=some z:=⟨_,Wx (by lia)⟩;obtain⟨la,ka,_⟩:=pr.2 i ta za hta hza;obtain⟨lb,kb,_⟩:=pr.2 (i+1) tb zb htb hzb;have f5:=AG.new hpu (.tup [.ref ta,.ref tb]);have eT:=((e2'.trans f34).trans eX).trans f5;refine⟨pu,_,rfl,BL.of AC,rfl,_,_,rfl,_,_,rfl,rfl,?_⟩;walk_at "rd";refine⟨ta,_,0,_,rfl,rfl,BL.of (eT _ _ ka),rfl,tb,_,0,_,rfl,rfl,BL.of (eT _ _ kb),rfl,?_⟩;refine⟨_,rfl,_,rfl,?_⟩;rw[qE (due.falls hza hzb)];exact⟨⟨_,rfl⟩,eX.trans f5⟩
 rintro σ H3 ⟨⟨x5,x6,rfl⟩,e3⟩;refine Ct (λσ HX=>(∃x4 x6,σ=[some (.ref p),some (.ref pt),some (.int g),some (.ref d),x4,x5,x6,none])/\HX=H3) (λN hN=>?_) ?_
 ·refine⟨_,rfl,p,rfl,⟨_,Ab.of ((e2'.trans e3) _ _ hp)⟩,?_⟩;refine BM (xs:=ts.map V.ref) (λi σ HX=>(∃x4 x6,σ=[some (.ref p),some (.ref pt),some (.int g),some (.ref d),x4,x5,x6,none])/\HX=H3) ⟨⟨_,_,rfl⟩,rfl⟩ (λi σ HX _ zz=>by rw[zz.2];exact Ab.of ((e2'.trans e3) _ _ hp)) ?_ λσ HX zz=>hN _ _ zz
  rintro i v σ HX hv ⟨⟨y4,y6,rfl⟩,rfl⟩;rw[W0]at hv;obtain⟨t1',ht,rfl⟩:=XS.mp hv;have ti:=(Ws.mp ht).1;obtain⟨z,hz⟩:∃z,Z[i]?=some z:=⟨_,Wx (by lia)⟩;obtain⟨l,k1,k2⟩:=(pr.same (e2'.trans e3)).2 i t1' z ht hz;have zZ:=Wy hz;dsimp only[Cq];refine⟨_,rfl,t1',_,1,_,rfl,rfl,BL.of k1,rfl,l,rfl,⟨_,Ab.of k2⟩,?_⟩;refine BM (xs:=(AL g tf z).map V.int) (λj σ HY=>(∃x6,σ=[some (.ref p),some (.ref pt),some (.int g),some (.ref d),some (.ref t1'),x5,x6,none])/\HY=HX) ⟨⟨_,rfl⟩,rfl⟩ (λj σ HY _ zz=>by rw[zz.2];exact Ab.of k2) ?_ ?_
  ·rintro j v σ HY hv ⟨⟨z6,rfl⟩,rfl⟩;obtain⟨y,hy,rfl⟩:=CA hv;dsimp only[Cq];refine⟨_,rfl,_,rfl,d,_,rfl,Cy.k (k:=Sum.inl y) (e3 _ _ d2),_,rfl,?_⟩;rw[C7 (by rw[Wq];exact tl) nd,qH (mZ (due.rp.cl z (mA zZ) y (Wy hy)))];exact My ⟨⟨_,rfl⟩,rfl⟩
  ·rintro σ HY ⟨⟨z6,rfl⟩,rfl⟩;exact⟨⟨_,_,rfl⟩,rfl⟩
 rintro σ H5 ⟨⟨y4,y6,rfl⟩,rfl⟩;have e13:=e2'.trans e3;refine Ct (λσ HX=>(∃x4,σ=[some (.ref p),some (.ref pt),some (.int g),some (.ref d),x4,x5,y6,none])/\AG H5 HX) (λN hN=>?_) ?_
 ·refine⟨_,rfl,p,rfl,⟨_,Ab.of (e13 _ _ hp)⟩,?_⟩;refine BM (xs:=ts.map V.ref) (λi σ HX=>(∃x4,σ=[some (.ref p),some (.ref pt),some (.int g),some (.ref d),x4,x5,y6,none])/\AG H5 HX) ⟨⟨_,rfl⟩,AG.refl _⟩ (λi σ HX _ zz=>Ab.of (zz.2 _ _ (e13 _ _ hp))) ?_ λσ HX zz=>hN _ _ zz
  rintro i v σ HX hv ⟨⟨z4,rfl⟩,eX⟩;rw[W0]at hv;obtain⟨t1',ht,rfl⟩:=XS.mp hv;have ti:=(Ws.mp ht).1;obtain⟨z,hz⟩:∃z,Z[i]?=some z:=⟨_,Wx (by lia)⟩;have pr3:=pr.same (e13.trans eX);obtain⟨l,k1,k2⟩:=pr3.2 i t1' z ht hz;have zZ:=Wy hz;walk_at "rd";refine⟨t1',l,d,z,ts,Z,A',AL g tf,M,f,rfl,k1,k2,eX _ _ (e3 _ _ d2),nd,pr3,mA zZ,λy hy=>mZ (due.rp.cl z (mA zZ) y hy),by rw[BS];lia,due.fi,λH7 e7=>⟨true,rfl,?_⟩⟩;rw[qE (by decide)];exact⟨⟨_,rfl⟩,eX.trans e7⟩
 rintro σ H4 ⟨⟨z4,rfl⟩,e4⟩;have e14:=e13.trans e4;refine Av λN hN=>?_;walk_at "rd";have gn:((g.toNat:Nat):Int)=g:=by lia
 refine⟨_,.inl (Ab.of (e14 _ _ hpt)),by lia,by lia,?_⟩;rw[Wq,<-gn,<-X9];refine⟨2,_,rfl,by decide,by decide,by lia,by lia,_,rfl,hN _ _ ?_⟩;clear hN N;rw[gn,XC];have fe:(2:Int)^(tf.length/g.toNat)-1=Ag g tf:=rfl;rw[fe];have pr4:=pr.same e14
 obtain⟨t0,ts',hts⟩:∃t0 ts',ts=t0::ts':=by
  cases ts with
  |nil=>rw[hZ']at tl;cases tl
  |cons a b=>exact⟨a,b,rfl⟩
 obtain⟨l0,k1,k2⟩:=pr4.2 0 t0 (Ag g tf) (by rw[hts];rfl) (by rw[hZ'];rfl);have fZ:Ag g tf∈Z:=by rw[hZ'];exact W7
 walk_at "rd";refine⟨p,_,0,V.ref t0,rfl,rfl,Ab.of (e14 _ _ hp),(by rw[hts];exact (show Ia _ ((0:Nat):Int)=_ from Cf rfl)),t0,_,0,_,rfl,rfl,BL.of k1,rfl,?_⟩;refine⟨rfl,?_⟩;rw[qF rfl];refine⟨d,Ag g tf,ts,Z,AL g tf,BH M f,rfl,e4 _ _ (e3 _ _ d2),nd,few,pr4,fZ,λz hz y hy=>mZ (due.rp.cl z (mA hz) y hy),λz _=>by rw[BS];lia,λA2 H9 e9 r2=>⟨_,.inl (Ab.of (e9 _ _ (e14 _ _ hp))),rfl,?_⟩⟩;rw[Wq,tl,due.pm.length_eq,Tf r2 due.rp,qH rfl];exact q _ (e14.trans e9)
theorem Fy:AK ["_law_found","_law_rows","_law_row_here","_law_some","_law_word_here","_law_sign"] ["_law_found"] (AH Td):=Ch (by decide +kernel)
theorem Ve(T:Ce K mg t) :Aw P w K mg base 1 t.f_30 ["_law_found"] (Hc):=by
 refine BJ T.d_30 Fy (λ_ _ _ _ _ _=>b1 λ_=>rfl) λvs H Q E h=>?_;obtain⟨p,g,tf,Z,A',M,f,rfl,pv',due,qn,qs⟩:=h;refine⟨rfl,λcdv A outer s hr=>?_⟩
 refine⟨_,(AB (Ak (AM Eh (AR AY (AR A9 (pv 0) AF (λ_ _=>rfl)) AF (λ_ _=>rfl)) Cn (AN _)) (AE (AQ Cn)) AX)
  (AB (AS 1 Fy EE)
  (AB (Ar PassesOwn.never rfl (BK (pv 0)) (BG 2 Fy) (AE (FF (Br hr) (pv 1) (AR AY (pv 2) AF (λ_ _=>rfl)) (pv 2) rfl)))
  (AB (AS 3 Fy (AR AY (AR A9 (pv 0) AF (λ_ _=>rfl)) AF (λ_ _=>rfl)))
  (AB (AS 4 Fy (BR AD))
  (AB (B7 PassesOwn.never (AM Hz (pv 3) AF (AN _)) (AB (AS 2 Fy (CI (Br hr) (pv 1) (pv 3) (λ_ _=>rfl)))
  (AE (Ar PassesOwn.never rfl (Ah rfl T.z_range (AA (Aa AO rfl T.z_len XH (AA (AR AY (pv 2) AF (λ_ _=>rfl)) AD)) AD)) (BG 5 Fy) (AE (Ak (AM Bb (AR AY (CI (Br hr) (pv 1) (AR A9 (AR AY (pv 2) AF (λ_ _=>rfl)) (pv 5) (λ_ _=>rfl)) (λ_ _=>rfl)) AF (λ_ _=>rfl)) (AJ Bq (AR AY (pv 2) AF (λ_ _=>rfl)) AF) (AN _)) (AB (A8 (CO XF XU XV BP (pv 4) (AA (pv 5) AD)))
  (AB (AS 3 Fy (AR A9 (AR AY (pv 2) AF (λ_ _=>rfl)) (pv 5) (λ_ _=>rfl)))
  (AE Nu))) AX))))))
  (AE (AQ (pv 4))))))))),?_⟩
 obtain⟨g2,g9,u1,u2,u3,u4⟩:=due.tok;have nd:=due.nd;have few:=due.few;have mA:∀{z},z∈Z->z∈A':=λh=>due.pm.mem_iff.mp h
 have mZ:∀{z},z∈A'->z∈Z:=λh=>due.pm.mem_iff.mpr h
 obtain⟨Z',hZ'⟩:=due.first;obtain⟨ts,hp,pr⟩:=CL.r pv';have tl:=pr.1
 obtain⟨t0,ts',hts⟩:∃t0 ts',ts=t0::ts':=by
  cases ts with
  |nil=>rw[hZ']at tl;cases tl
  |cons a b=>exact⟨a,b,rfl⟩
 obtain⟨l0,k1,k2⟩:=pr.2 0 t0 (Ag g tf) (by rw[hts];rfl) (by rw[hZ'];rfl);have fZ:Ag g tf∈Z:=by rw[hZ'];exact W7
 have at0:Ia (ts.map V.ref) 0=some (.ref t0):=by rw[hts];exact (show Ia _ ((0:Nat):Int)=_ from Cf rfl)
 by_cases hm:Ag g tf∈M
 rotate_left
 ·have e0:BH M f (Ag g tf)=none:=by unfold BH;rw[qE hm]
  rw[e0]at k1;walk_at "rd";refine⟨p,_,0,V.ref t0,rfl,rfl,Ab.of hp,at0,t0,_,2,_,rfl,rfl,BL.of k1,rfl,?_⟩;dsimp only;rw[qF (show Fu none=V.non from rfl)];exact qn hm
 have e0:BH M f (Ag g tf)=some (f (Ag g tf)):=by unfold BH;rw[qF hm]
 refine Ct (λσ HX=>σ=[some (.ref p),none,none,none,none,none]/\HX=H) (λN hN=>?_) ?_
 ·rw[e0]at k1;walk_at "rd";refine⟨p,_,0,V.ref t0,rfl,rfl,Ab.of hp,at0,t0,_,2,_,rfl,rfl,BL.of k1,rfl,?_⟩;dsimp only;rw[qE (show ¬Fu (some (f (Ag g tf)))=V.non from λz=>nomatch z)];exact hN _ _ ⟨rfl,rfl⟩
 rintro σ HX ⟨rfl,rfl⟩;refine Av λN hN=>?_;intro d hd;refine hN _ _ ?_;clear hN N;have e2:=AG.new hd (.dK []);refine Ct (λσ HY=>(∃x2,σ=[some (.ref p),some (.ref d),x2,none,none,none])/\AG HX HY/\HY d=some (.dK (Ai Z (ts.map V.ref)))) (λN hN=>?_) ?_
 ·refine⟨_,rfl,p,rfl,⟨_,Ab.of (e2 _ _ hp)⟩,?_⟩;refine BM (xs:=ts.map V.ref) (λi σ HY=>(∃x2,σ=[some (.ref p),some (.ref d),x2,none,none,none])/\AG HX HY/\HY d=some (.dK (Ai (Z.take i) ((ts.take i).map V.ref)))) ⟨⟨none,rfl⟩,e2,AC⟩ (λi σ HX _ zz=>Ab.of (zz.2.1 _ _ hp)) ?_ ?_
  ·rintro i v σ HY hv ⟨⟨x4,rfl⟩,eX,dX⟩;rw[W0]at hv;obtain⟨t1',ht,rfl⟩:=XS.mp hv;have ti:=(Ws.mp ht).1;obtain⟨z,hz⟩:∃z,Z[i]?=some z:=⟨_,Wx (by lia)⟩;obtain⟨l,k1,k2⟩:=pr.2 i t1' z ht hz;have zn:z∉Z.take i:=λh=>by have y:=nd;rw[<-Xk i Z,Xq]at y;obtain⟨zi,ez⟩:=Ws.mp hz;exact y.2.2 z h z (by rw[Xz zi,ez];exact W7) rfl
   have ll:((ts.take i).map V.ref).length=(Z.take i).length:=by rw[Wq,XR,XR,tl]
   dsimp only[Cq];refine⟨_,rfl,_,rfl,_,rfl,t1',_,0,_,rfl,rfl,BL.of (eX _ _ k1),rfl,d,_,rfl,JE.k (k:=Sum.inl z) dX (by rw[CB ll,XR];exact AW (by lia)),⟨_,rfl⟩,eX.into hd,?_⟩;rw[AC,DX ll zn,Xw,Xw,hz,ht,W3];rfl
  ·rintro σ HY ⟨⟨x4,rfl⟩,eX,dX⟩;rw[Wq,XZ,tl,XZ]at dX;exact hN _ _ ⟨⟨x4,rfl⟩,eX,dX⟩
 rintro σ H2 ⟨⟨x2,rfl⟩,e2',d2⟩;refine Av λN hN=>?_;walk_at "rd";refine⟨p,_,0,V.ref t0,rfl,rfl,Ab.of (e2' _ _ hp),at0,t0,_,0,_,rfl,rfl,BL.of (e2' _ _ k1),rfl,hN _ _ ?_⟩;clear hN N;refine Av λN hN=>?_;walk_at "rd";refine⟨XO _,λr hr'=>hN _ _ ?_⟩;clear hN N;have f3:=AG.new hr' (.lst []);have n3:=e2'.free hr';refine Ct (λσ HY=>(∃x2 x3 x5,σ=[some (.ref p),some (.ref d),x2,x3,some (.ref r),x5])/\FU HX HY r (Bz (AL g tf) (BH M f) (f (Ag g tf)) (Ag g tf))) (λN hN=>?_) ?_
 ·refine⟨λm σ HY=>∃(x:Int) (ws:List Int),(∃x2 x5,σ=[some (.ref p),some (.ref d),x2,some (.int x),some (.ref r),x5])/\AG H2 HY/\HY r=some (.lst (ws.map V.int))/\x∈Z/\BH M f x=some m/\ws++Bz (AL g tf) (BH M f) m x=Bz (AL g tf) (BH M f) (f (Ag g tf)) (Ag g tf)/\ws.length+m<=600,⟨f (Ag g tf),Ag g tf,[],⟨x2,none,rfl⟩,f3,AC,fZ,e0,rfl,?_⟩,?_⟩
  ·have y:=(due.fi.low hm).1;have y2:=(due.fi.low hm).2;have:=due.pm.length_eq;simp only[List.length_nil,List.length_singleton]at *;lia
  rintro m σ HY ⟨x,ws,⟨y2,y5,rfl⟩,eY,hY,xZ,fx,hw,w6⟩;refine⟨_,rfl,rfl,_,rfl,?_⟩;dsimp only
  by_cases x0:x=0
  ·subst x0;have z0:=due.fi.ends 0 (Wr.mpr rfl);have z1:BH M f 0=some 0:=by unfold BH;rw[qF z0.1,z0.2]
   rw[z1]at fx;cases fx;rw[qE (by decide)];have hw:ws=Bz (AL g tf) (BH M f) (f (Ag g tf)) (Ag g tf):=by rw[<-hw];exact (Xn _).symm
   exact hN _ _ ⟨⟨_,_,_,rfl⟩,e2'.trans eY,n3,by rw[hY,hw]⟩
  rw[qF (by rw[qI (λz=>x0 (V.int.inj z))];rfl)]
  obtain⟨k,rfl⟩:∃k,m=k+1:=by
   cases m with
   |zero =>
    unfold BH at fx
    split at fx
    ·rename_i mx
     exact qG (Wr.mp (due.fi.zero x mx (Option.some.inj fx))) x0
    ·cases fx
   |succ k=>exact⟨k,rfl⟩
  obtain⟨y0,hy0,ey0⟩:=due.fi.down' x k fx;obtain⟨z,sg1,sg2,sg3,sg4,sg5⟩:=Lk hy0 ey0;refine⟨λσ' H'=>∃m',m'<k+1/\∃(x:Int) (ws:List Int),(∃x2 x5,σ'=[some (.ref p),some (.ref d),x2,some (.int x),some (.ref r),x5])/\AG H2 H'/\H' r=some (.lst (ws.map V.int))/\x∈Z/\BH M f x=some m'/\ws++Bz (AL g tf) (BH M f) m' x=Bz (AL g tf) (BH M f) (f (Ag g tf)) (Ag g tf)/\ws.length+m'<=600,λ_ _ h=>h,?_⟩;obtain⟨t2,l2,dg,j1,j2⟩:=pr.getS nd (e2'.trans eY) (eY _ _ d2) xZ;have eXY:=e2'.trans eY;rw[fx]at j1;refine Av λN2 hN2=>?_;refine⟨_,rfl,_,rfl,d,.ref t2,rfl,dg,hN2 _ _ ?_⟩;clear hN2 N2;refine⟨_,rfl,t2,_,1,_,rfl,rfl,BL.of (eXY _ _ j1),rfl,l2,_,rfl,.inl (Ab.of (eXY _ _ j2)),_,rfl,?_⟩;rw[Wq,BS];refine⟨by lia,by lia,?_⟩;refine BZ (n:=g.toNat) (λj σ HV=>(∃x5,σ=[some (.ref p),some (.ref d),some (.ref t2),some (.int x),some (.ref r),x5])/\HV=HY/\∀i,i<j->∀y,(AL g tf x)[i]?=some y->BH M f y≠some k) ⟨⟨_,rfl⟩,rfl,λi hi=>qG hi (ZV _)⟩ ?_ ?_
  ·rintro j σ HV hj ⟨⟨z5,rfl⟩,rfl,no⟩;obtain⟨y,hy⟩:∃y,(AL g tf x)[j]?=some y:=⟨_,Wx (by rw[BS];exact hj)⟩;have yZ:y∈Z:=mZ (due.rp.cl x (mA xZ) y (Wy hy));obtain⟨t3,l3,dg3,j3,j4⟩:=pr.getS nd eXY (eY _ _ d2) yZ;have yF:(AL g tf x).getD j 0=y:=by rw[Wt,hy];rfl
   have aty:Ia ((AL g tf x).map V.int) (j:Int)=some (.int y):=by rw[<-yF];exact CG (by rw[BS];exact hj)
   have t2r:t2≠r:=λz=>by rw[z,n3]at j1;cases j1
   have l2r:l2≠r:=λz=>by rw[z,n3]at j2;cases j2
   walk_at "rd";rw[Xe];refine⟨_,rfl,_,rfl,t2,_,1,_,rfl,rfl,BL.of (eXY _ _ j1),rfl,_,rfl,l2,_,_,_,rfl,rfl,Ab.of (eXY _ _ j2),aty,d,.ref t3,rfl,dg3,t3,_,2,_,rfl,rfl,BL.of (eXY _ _ j3),rfl,t2,_,2,_,rfl,rfl,BL.of (eXY _ _ j1),rfl,((k+1:Nat):Int),rfl,?_⟩
   by_cases hfo:BH M f y=some k
   ·rw[hfo];refine⟨rfl,?_⟩;rw[qF (show Fu (some k)=V.int (((k+1:Nat):Int)-1) from by show V.int _=_;congr 1;lia)]
    have js:Cc (AL g tf) (BH M f) k x=j:=by
     rcases Nat.lt_trichotomy (Cc (AL g tf) (BH M f) k x) j with c|c|c
     ·exact qG sg2 (no _ c z sg1)
     ·exact c
     ·exact qG hfo (sg5 j c y hy)
    refine⟨.inl ⟨_,Ab.of hY⟩,_,hY,by rw[Wq];exact AW (by lia),t2,_,1,_,rfl,rfl,BL.of (by rw[AI t2r];exact eXY _ _ j1),rfl,l2,_,_,_,rfl,rfl,Ab.of (by rw[AI l2r];exact eXY _ _ j2),aty,?_⟩;refine⟨k,by lia,y,⟨_,_,rfl⟩,eY.into hr',ws++[(j:Int)],by rw[AC,W3];rfl,yZ,hfo,?_,by rw[W1,XM];lia⟩;rw[<-hw,XW]
    congr 1
    show _=((Cc (AL g tf) (BH M f) k x:Nat):Int)::Bz (AL g tf) (BH M f) k ((AL g tf x).getD (Cc (AL g tf) (BH M f) k x) 0);rw[js,yF];rfl
   ·refine⟨by cases BH M f y<;>rfl,?_⟩;rw[qE (λz=>hfo ?_)]
    ·refine⟨⟨_,rfl⟩,rfl,λi hi y' hy'=>?_⟩
     by_cases c:i=j
     ·rw[c,hy]at hy';cases hy';exact hfo
     ·exact no i (by lia) y' hy'
    ·cases c:BH M f y with
     |none=>rw[c]at z;cases z
     |some n =>
      rw[c]at z;have:=V.int.inj z
      congr 1
      lia
  ·rintro σ HV ⟨⟨z5,rfl⟩,rfl,no⟩;exact qG sg2 (no _ (by rw[BS]at sg4;exact sg4) z sg1)
 rintro σ HY ⟨⟨y2,y3,y5,rfl⟩,n⟩;walk_at "rd";exact qs hm r HY n
theorem Ku:AK ["_law_one","_law_found","_law_due","_law_truth","_law_word_here","_law_sign"] ["_law_one","_law_found"] (AH Te):=Ch (by decide +kernel)
theorem Vf(T:Ce K mg t)(G_30:Aw P w K mg base 1 t.f_30 ["_law_found"] (Hc))(G_57:Aw P w K mg base 13 t.f_57 ["one"] (JQ t.c_40 LP t.p_7))(G_56:Aw P w K mg base 12 t.f_56 ["one"] (JL t.c_40 LP t.p_7))(G_20:Aw P w K mg base 1 t.f_20 ["_law_found"] (Dh)):Aw P w K mg base 14 t.f_11 ["_law_one","_law_found"] (JU LP t.p_7):=by
 refine BJ T.d_11 Ku (λ_ _ _ _ _ _=>b2 λ_ _=>rfl) λvs H Q E h=>?_;obtain⟨r,p,g,lo,tab,m,lf,tf,mf,Z,A',M,f,rfl,ok,fw,s9,pv',due,tb,q⟩:=h;refine⟨rfl,λcdv A outer s hr=>?_⟩
 refine⟨_,(AB (AS 2 Ku (Af hr G_30 T.m_30 (AA (pv 1) AD)))
  (AB (AS 3 Ku (Af hr G_57 T.m_57 (AA (pv 0) AD)))
  (AB (Ak (PW.pt (CN (BX (BQ (CS rfl T.z_isinstance (pv 3) (Dw rfl T.z_bool PyProof.Rows.boot_bool)))) (CF (AM Hz (pv 3) (Bk Eh (pv 2) Cn (AN _)) (AN _))))) (AE (AQ B5)) AX)
  (AB (AS 4 Ku (Af hr G_56 T.m_56 (AA (pv 0) AD)))
  (AB (Ak (AM Eh (pv 2) Cn (AN _)) (AE (AQ (Bk Eh (pv 4) Cn (AN _)))) AX)
  (AB (Ak (BX (BQ (CS rfl T.z_isinstance (pv 4) (Dw rfl T.z_list PyProof.Rows.boot_list)))) (AE (AQ B5)) AX)
  (AB (Ar PassesOwn.never rfl (BK (pv 4)) (BG 5 Ku) (AE (Ak (BX (BQ (Af hr G_20 T.m_20 (AA (pv 5) AD)))) (AE (AQ B5)) AX)))
  (AE (AQ (Bk (Gc hr.units) (pv 4) (pv 2) (AN _))))))))))),?_⟩
 have fA:=due.rp.st _ (Wr.mpr rfl);refine Av λN hN=>?_;walk_at "rd";refine⟨p,g,tf,Z,A',M,f,rfl,pv',due,λhm=>hN _ _ ?_,λhm r1 H1 n1=>hN _ _ ?_⟩
 ·clear hN N;refine Av λN hN=>?_;walk_at "rd";refine⟨r,g,lo,tab,m,lf,tf,mf,rfl,ok,fw,tb,λ_ A2 M2 f2 r2 w2 H2 s2 tb2=>hN _ _ ?_,λh=>qG s9 (by lia)⟩;clear hN N;have mm:=He (Hd due.rp r2 due.fi w2 fA);rw[qH (show Ag g tf∉M2 from λz=>hm (mm.1.mpr z))];refine Av λN hN=>?_;walk_at "rd";refine⟨_,.of (.bl _),_,MK,?_⟩;rw[qE (by decide),qE (by decide)];refine hN _ _ ?_;clear hN N;refine Av λN hN=>?_;walk_at "rd";refine⟨r,g,lo,tab,m,lf,tf,mf,rfl,ok.sameT s2 tb,fw,tb2,λ_ A3 M3 f3 r3 w3=>⟨λno H3 s3 tb3=>hN _ _ ?_,λyes=>qG ((He (Hd due.rp r3 due.fi w3 fA)).1.mpr yes) hm⟩,λh=>qG s9 (by lia)⟩;clear hN N;walk_at "rd";exact q _ (s2.trans s3) tb3
 clear hN N;have ok1:=ok.same n1.1;have tb1:=tb.same n1.1;refine Av λN hN=>?_;walk_at "rd";refine⟨r,g,lo,tab,m,lf,tf,mf,rfl,ok1,fw,tb1,λ_ A2 M2 f2 r2 w2 H2 s2 tb2=>hN _ _ ?_,λh=>qG s9 (by lia)⟩;clear hN N;have mm:=He (Hd due.rp r2 due.fi w2 fA);rw[qI (show ¬Ag g tf∉M2 from λz=>z (mm.1.mp hm))];refine Av λN hN=>?_;walk_at "rd";refine⟨_,.of (.bl _),_,MK,?_⟩;rw[qE (by decide),qE (by decide)];refine hN _ _ ?_;clear hN N;have h12:=s2.get tb1 n1.2.2 (λ_ z=>nomatch z);refine Av λN hN=>?_;walk_at "rd";refine⟨r,g,lo,tab,m,lf,tf,mf,rfl,ok1.sameT s2 tb1,fw,tb2,λ_ A3 M3 f3 r3 w3=>⟨λno=>qG ((He (Hd due.rp r3 due.fi w3 fA)).1.mp hm) no,λyes D H3 s3 tb3 nD hD=>hN _ _ ?_⟩,λh=>qG s9 (by lia)⟩;clear hN N;have fe:=He (Hd due.rp r3 due.fi w3 fA);have e0:BH M f (Ag g tf)=some (f (Ag g tf)):=by unfold BH;rw[qF hm]
 rw[<-fe.2 hm,<-Fv due.rp.cl (λa ha=>Hd due.rp r3 due.fi w3 ha) due.fi.down' _ _ fA e0]at hD;have h13:=s3.get tb2 h12 (λ_ z=>nomatch z);generalize Bz (AL g tf) (BH M f) (f (Ag g tf)) (Ag g tf)=ws at hD h13;have fin:=q H3 ((n1.1.t.trans s2).trans s3) tb3;refine Ct (λσ HX=>σ=[some (.ref r),some (.ref p),some (.ref r1),some (.bl false),some (.ref D),none]/\HX=H3) (λN hN=>?_) ?_
 ·walk_at "rd";exact hN _ _ ⟨rfl,rfl⟩
 rintro σ H4 ⟨rfl,rfl⟩;refine Ct (λσ HX=>σ=[some (.ref r),some (.ref p),some (.ref r1),some (.bl false),some (.ref D),none]/\HX=H4) (λN hN=>?_) ?_
 ·walk_at "rd";refine⟨_,.of (.lst hD),_,ML,?_⟩;rw[qE (by decide)];exact hN _ _ ⟨rfl,rfl⟩
 rintro σ H5 ⟨rfl,rfl⟩;refine Ct (λσ HX=>(∃x5,σ=[some (.ref r),some (.ref p),some (.ref r1),some (.bl false),some (.ref D),x5])/\HX=H5) (λN hN=>?_) ?_
 ·refine⟨_,rfl,D,rfl,⟨_,Ab.of hD⟩,?_⟩;refine BM (xs:=ws.map V.int) (λi σ HX=>(∃x5,σ=[some (.ref r),some (.ref p),some (.ref r1),some (.bl false),some (.ref D),x5])/\HX=H5) ⟨⟨none,rfl⟩,rfl⟩ (λi σ HX _ zz=>by rw[zz.2];exact Ab.of hD) ?_ λσ HX zz=>hN _ _ zz
  rintro i v σ HX hv ⟨⟨x5,rfl⟩,rfl⟩;obtain⟨x,hx,rfl⟩:=CA hv;walk_at "rd";exact⟨.int x,rfl,True.intro,true,rfl,by rw[qE (by decide)];exact⟨⟨_,rfl⟩,rfl⟩⟩
 rintro σ H6 ⟨⟨x5,rfl⟩,rfl⟩;walk_at "rd";refine⟨ws,Ab.of hD,ws,Ab.of h13,?_⟩;rw[qH rfl];exact fin
theorem Qo:AK ["_law_one","_law_way","_law_came","error"] ["_law_one","_law_way"] (AH WM):=Ch (by decide +kernel)
theorem Wa(T:Ce K mg t)(G_13:Aw P w K mg base 12 t.f_13 ["one"] (EH t.c_40 LP t.p_7))(G_57:Aw P w K mg base 13 t.f_57 ["one"] (JQ t.c_40 LP t.p_7))(G_56:Aw P w K mg base 12 t.f_56 ["one"] (JL t.c_40 LP t.p_7)):Aw P w K mg base 14 t.f_3 ["_law_one","_law_way"] (HN t.c_40 LP t.p_7):=by
 refine BJ T.d_3 Qo (λ_ _ _ _ _ _=>b2 λ_ _=>rfl) λvs H Q E h=>?_;obtain⟨r,g,lo,tab,m,lf,tf,mf,way,rfl,ok,fw,hw,tb,q⟩:=h;refine⟨rfl,λcdv A outer s hr=>?_⟩
 refine⟨_,(AB (AS 2 Qo Cn)
  (AB (Rr (i:=3) (W:=λσ cls D H'=>σ=[some (.ref r),some (.int way),some .non,none]/\AG H H'/\cls=.ref t.c_40/\D=none) Qo.nd rfl rfl rfl T.m_36 rfl rfl (λ_=>(AE (Ak (AM Bb (pv 1) AF (AN _)) (AE (A8 (BF G_13 (hr.mono (by decide)) rfl T.m_13 Ej (AA (pv 0) AD)))) (AE (Ak (AM Bb (pv 1) AF (AN _)) (AE (A8 (BF G_57 (hr.mono (by decide)) rfl T.m_57 Ej (AA (pv 0) AD)))) (AE (A8 (BF G_56 (hr.mono (by decide)) rfl T.m_56 Ej (AA (pv 0) AD))))))))) (λ_=>(AE (AS 2 Qo (pv 3)))))
  (AE (AQ (pv 2))))),?_⟩
 walk_at "rd";refine⟨?_,?_⟩
 ·split
  ·exact⟨r,g,lo,tab,m,lf,tf,mf,rfl,ok,fw,tb,λh9=>qG hw (by lia),λ_ H' e=>⟨e,rfl,rfl⟩⟩
  split
  ·exact⟨r,g,lo,tab,m,lf,tf,mf,rfl,ok,fw,tb,λh9=>qG hw (by lia),λ_ H' e=>⟨e,rfl,rfl⟩⟩
  ·exact⟨r,g,lo,tab,m,lf,tf,mf,rfl,ok,fw,tb,λh9=>qG hw (by lia),λ_ H' e=>⟨e,rfl,rfl⟩⟩
 rintro σ' cls D' H' ⟨rfl,e,rfl,rfl⟩;refine⟨T.em_40_36,λea hea=>?_⟩;walk_at "rd";exact q _ ea (e.trans (AG.new hea _)) AC
theorem Lr:AK ["_law_cell","_law_signs","_law_many","_law_part","_law_one","_law_way","_law_came"] ["_law_cell"] (AH WN):=Ch (by decide +kernel)
theorem Wb(T:Ce K mg t)(G_17:Aw P w K mg base 1 t.f_17 ["_law_signs","_law_many"] (EO))(G_3:Aw P w K mg base 14 t.f_3 ["_law_one","_law_way"] (HN t.c_40 LP t.p_7)):Aw P w K mg base 15 t.f_4 ["_law_cell"] (HP LP t.p_7):=by
 refine BJ T.d_4 Lr (λ_ _ _ _ _ _=>b1 λ_=>rfl) λvs H Q E h=>?_;obtain⟨c,rfl,tbl,q⟩:=h;refine⟨rfl,λcdv A outer s hr=>?_⟩
 refine⟨_,(AB (AS 1 Lr (AJ BD AF (AJ As (pv 0) AF)))
  (AB (AS 2 Lr (AR A9 (BR (AA (AJ BD AF (AJ As (AJ Ax (pv 0) AF) AF)) (AA (AJ BD AF (AJ As (AJ Ax (pv 0) AF) AF)) (AA (AJ BD AF (AJ As (AJ Ax (pv 0) AF) AF)) (BO (BO AD)))))) (AJ Bq (pv 1) AF) (λ_ _=>rfl)))
  (AB (AS 3 Lr (Af hr G_17 T.m_17 (AA (pv 1) (AA (AJ Bq (pv 2) AF) AD))))
  (AB (AS 4 Lr (D1 (AA (pv 1) (AA (AJ Bq (AJ As (AJ Ax (pv 0) AF) AF) AF) (AA (CQ DM rfl T.z_tuple ZB (AA (Ef [(1,"_law_signs"),(3,"_law_part")] [("_law_signs",_),("_law_part",_)] (Ah rfl T.z_range (AA (AJ B6 (pv 3) (pv 1)) AD)) (λ_ _ _ _=>Bw) (λ_ _ _ _=>(AJ As (AJ BD (AJ Ax (pv 0) (pv 2)) (pv 0)) (pv 1)))) AD)) AD)))))
  (AB (Ar PassesOwn.never rfl (Ah rfl T.z_range (BO AD)) (BG 5 Lr) (AB (AS 6 Lr (Af hr G_3 T.m_3 (AA (pv 4) (AA (pv 5) AD))))
  (AB (Ak (PW.pt (CN (AM Eh (pv 6) Cn (AN _)) (CN (BX (BQ (CS rfl T.z_isinstance (pv 6) (LF rfl T.m_40)))) (CF (BX (BQ (CS rfl T.z_isinstance (pv 6) (Dw rfl T.z_ValueError PyProof.Rows.Boot.«ValueError»)))))))) (AE (AQ B5)) AX)
  (AE (Ak (PW.pt (CN (BQ (CS rfl T.z_isinstance (pv 6) (LF rfl T.m_47))) (CF (BQ (CS rfl T.z_isinstance (pv 6) (LF rfl T.m_35)))))) (AE (AQ B5)) AX)))))
  (AE (AQ B5))))))),?_⟩
 obtain⟨g,hg⟩:∃g:Int,g=2+c%5:=⟨_,rfl⟩;have g2:2<=g:=by lia
 have g6:g<=6:=by lia
 refine Av λN hN=>?_;walk_at "rd";refine⟨by decide,hN _ _ ?_⟩;clear hN N;rw[<-hg];clear hg;refine Av λN hN=>?_;walk_at "rd";obtain⟨m,hx,m3,m8,sz,wd⟩:=Oj g2 g6 (c/5);refine⟨by decide,by decide,by decide,by decide,by decide,by decide,by decide,by decide,by decide,by decide,λp hp=>⟨p,_,_,_,rfl,rfl,Ab.of AC,hx,hN _ _ ?_⟩⟩;clear hN N hx;have e1:=AG.new hp (.lst [V.int (5+c/5%4),V.int (4+c/5%2),V.int (3+c/5%2),V.int 3,V.int 3]);refine OK (λHX=>AG H HX) e1 ?_;clear e1 hp;intro H1 e1;refine Av λN hN=>?_;walk_at "rd";refine⟨g,_,rfl,g2,by lia,by lia,by lia,hN _ _ ?_⟩;clear hN N;rw[show ((m:Int)-1).toNat=m-1 by lia];have gp:=RW.Ap g2 (m-1);have gm:g^(m-1)*g=g^m:=by rw[<-XJ,show (m-1).succ=m by lia]
 walk_at "rd";have gmp:=RW.Ap g2 m;have gmm:=Bo g2 (show m-1<=m by lia);have hP:((g^(m-1)).toNat:Int)=g^(m-1):=by lia
 refine⟨by decide,by decide,by decide,_,rfl,_,rfl,_,_,rfl,rfl,.inr ⟨by lia,by lia⟩,_,rfl,by lia,by lia,λD hD=>?_⟩;rw[gm];refine A4 (n:=(g^m).toNat) (λi acc Hx=>acc=((List.range i).map λk:Nat=>((k/(g^(m-1)).toNat+k:Nat):Int)%g).map V.int/\AG H1 Hx/\Hx D=some (.lst acc)) ⟨rfl,AG.new hD _,AC⟩ ?_ ?_
 ·rintro i acc Hx hi ⟨rfl,ex,hDx⟩;have ei:(0+(i:Int))/g^(m-1)+(0+(i:Int))=((i/(g^(m-1)).toNat+i:Nat):Int):=by rw[Xe,Int.natCast_add,X9,hP]
  walk_at "rd";rw[ei];refine⟨gp,by lia,by lia,hDx,?_,?_,ex.into hD,AC⟩
  ·rw[Wq,Wq,W8];exact AW (by lia)
  ·rw[Am,W3];rfl
 rintro acc H2 ⟨rfl,e2,h2⟩;obtain⟨gl,gf⟩:=KQ g2 (c/20%9-4) (m:=m) (by lia);refine⟨D,rfl,_,.inl ⟨Ab.of h2,λl9 hl9=>⟨by decide,λp9 hp9=>?_⟩⟩⟩;have f8:=AG.new hl9 (.tup ((Bf g m).map V.int));have f9:=AG.new hp9 (.tup [.int g,.int (c/20%9-4),.ref l9]);have ok:Ay (Ae (Ae H2 l9 (.tup ((Bf g m).map V.int))) p9 (.tup [.int g,.int (c/20%9-4),.ref l9])) p9 g (c/20%9-4) (Bf g m) m:=⟨⟨l9,AC,f9 _ _ AC⟩,g2,by lia,by lia,m8,gl,sz,Nl g2 m⟩;have e9:=((e1.trans e2).trans f8).trans f9;have tb9:=tbl.same e9;have ok9:=ok;generalize hG:Ae (Ae H2 l9 (.tup ((Bf g m).map V.int))) p9 (.tup [.int g,.int (c/20%9-4),.ref l9])=H9 at ok9;have hG2:Ae (Ae H2 l9 (.tup (((List.range (g^m).toNat).map λk:Nat=>((k/(g^(m-1)).toNat+k:Nat):Int)%g).map V.int))) p9 (.tup [.int g,.int (c/20%9-4),.ref l9])=H9:=hG;rw[hG2]at e9 tb9⊢;clear ok f8 f9 hG hG2 hp9 hl9;refine⟨3,rfl,by decide,by decide,?_⟩;refine BZ (n:=3) (λi σ HX=>(∃x5 x6,σ=[some (.int c),some (.int g),some (.int ((m:Nat):Int)),some (.int (g^(m-1))),some (.ref p9),x5,x6])/\AG H9 HX) ⟨⟨none,none,rfl⟩,AG.refl _⟩ ?_ ?_
 ·rintro i σ HX hi ⟨⟨x1,x2,rfl⟩,eX⟩;walk_at "rd";refine⟨p9,g,c/20%9-4,Bf g m,m,_,_,m,_,rfl,ok9.same eX,gf,wd,tb9.same eX,λH3 ea e3 he=>?_⟩;try dsimp only
  rw[qE (by intro z;cases z)];refine⟨_,.exc he T.ek_40,_,T.kt_40_40,?_⟩;rw[qE (by decide)];refine⟨_,.exc he T.ek_40,_,T.kt_TooWide_ValueError,?_⟩;rw[qE (by decide)];refine⟨_,.exc he T.ek_40,_,T.kt_40_47,?_⟩;rw[qE (by decide)];refine⟨_,.exc he T.ek_40,_,T.kt_40_35,?_⟩;rw[qE (by decide)];exact⟨⟨_,rfl⟩,eX.trans e3⟩
 rintro σ HX ⟨⟨x5,x6,rfl⟩,eX⟩;walk_at "rd";exact q _ (e9.trans eX)
theorem Hi:AK ["_law_script","_law_one","_law_found","_law_held","_law_two","_law_between","_law_row_here"] ["_law_script"] (AH Ql):=Ch (by decide +kernel)
theorem Vg{f:Addr}{fd:FuncData}(T:Ce K mg t)(F:B1 K "law" "law" Ql f fd)(G_28:Aw P w K mg base 4 t.f_28 ["_law_script","_law_start"] (HM K))(G_13:Aw P w K mg base 12 t.f_13 ["one"] (EH t.c_40 LP t.p_7))(G_4:Aw P w K mg base 15 t.f_4 ["_law_cell"] (HP LP t.p_7))(G_2:Aw P w K mg base 1 t.f_2 ["_law_script","_law_k"] (Ik K))(G_16:Aw P w K mg base 3 t.f_16 ["_law_found","_law_table_here","_law_signs"] (JT))(G_11:Aw P w K mg base 14 t.f_11 ["_law_one","_law_found"] (JU LP t.p_7))(G_15:Aw P w K mg base 1 t.f_15 ["_law_one"] (Fh)):EY P w K mg base (Hj P w) 16 f fd ["_law_script"] (JG K [t.p_7]):=by
 refine F.okY Hi λvs H Q E h=>?_;obtain⟨a,ns,rfl,hS,h63,hT,q⟩:=h;refine⟨rfl,λcdv A outer s hr=>?_⟩
 refine⟨_,(AB (Ak (BX (BQ (Af hr G_4 T.m_4 (AA (Af hr G_2 T.m_2 (AA (pv 0) (BO AD))) AD)))) (AE (AQ B5)) AX)
  (AB (AS 1 Hi (Af hr G_28 T.m_28 (AA (pv 0) (BO AD))))
  (AB (AS 2 Hi (Af hr G_13 T.m_13 (AA (pv 1) AD)))
  (AB (Ak (PW.pt (CN (BX (BQ (Af hr G_16 T.m_16 (AA (pv 2) (AA (Af hr G_15 T.m_15 (AA (pv 1) AD)) (AA (AR AY (pv 1) AF (λ_ _=>rfl)) AD)))))) (CF (BX (BQ (Af hr G_11 T.m_11 (AA (pv 1) (AA (pv 2) AD)))))))) (AE (AQ B5)) AX)
  (AB (Cu (iy:=3) (fv:=[]) (cl:=[]) rfl Hi.nd rfl (Or.inl rfl) (BK (pv 2)) (by with_unfolding_all rfl) (by with_unfolding_all rfl) (by decide +kernel) rfl (by decide +kernel) rfl trivial (by with_unfolding_all rfl) trivial (by decide) (λ_ _ _ _=>Bw) (λ_ _ _ _=>(D1 (AA (AR (Di (K:=K) rfl) (pv 0) AF (λ_ _=>rfl)) (AA (CQ (Hu (K:=K) rfl) rfl T.z_list Yf (AA (AR (Di (K:=K) rfl) (pv 0) AF (λ_ _=>rfl)) AD)) (AA (AR (Di (K:=K) rfl) (pv 0) AF (λ_ _=>rfl)) AD))))))
  (AB (AS 4 Hi (Af hr G_28 T.m_28 (AA (pv 0) (BO AD))))
  (AB (AS 5 Hi (Af hr G_13 T.m_13 (AA (pv 4) AD)))
  (AB (Ak (PW.pt (CN (BX (BQ (Af hr G_16 T.m_16 (AA (pv 5) (AA (Af hr G_15 T.m_15 (AA (pv 4) AD)) (AA (AR AY (pv 4) AF (λ_ _=>rfl)) AD)))))) (CF (AM (Ow (K:=K) rfl hr.units) (pv 2) (pv 3) (AN _))))) (AE (AQ B5)) AX)
  (AB (Ar PassesOwn.never rfl (BK (pv 2)) (BG 6 Hi) (AE (A8 (CO XF XU XV BP (AR AY (pv 6) AF (λ_ _=>rfl)) (AA (Jd GX AF) AD)))))
  (AB (A8 (N4 XF PySem.F.slot_list_clear PySem.F.type_list_clear N5 (pv 2)))
  (AE (AQ (Bk (MZ (K:=K) rfl hr.units) (Af hr G_13 T.m_13 (AA (pv 1) AD)) (pv 3) (AN _)))))))))))))),?_⟩
 have tb0:BC LP (Da "sets_reached") t.p_7 H:=BC.start (hT _ (Wr.mpr rfl));refine Av λN hN=>?_;walk_at "rd";refine⟨a,ns,3,rfl,hS,h63,_,rfl,tb0,λH0 e0=>⟨true,rfl,?_⟩⟩;rw[qE (by decide)];refine hN _ _ ?_;clear hN N;refine Av λN hN=>?_;walk_at "rd";refine⟨a,ns,0,rfl,by decide,e0.seq hS,h63,λr g lo tab m H1 e1 ok sm=>hN _ _ ?_⟩;clear hN N;have e01:=e0.trans e1;have tb1:=tb0.same e01;have hS1:=e01.seq hS;clear e0 e1 e01 tb0 hS;have g2:=ok.g2;have g9:=ok.g9;obtain⟨lf,tf,mf,fw⟩:=KM g2 lo (tab:=tab) (m:=m);have s9:=sm lf tf mf fw;refine Av λN hN=>?_;walk_at "rd";refine⟨r,g,lo,tab,m,lf,tf,mf,rfl,ok,fw,tb1,λ_ A1 M f Z rp fi pZ oZ p H2 s2 tb2 np pf=>hN _ _ ?_,λh=>qG s9 (by lia)⟩;clear hN N;have due:CC g tf Z A1 M f:=⟨Pa ok fw s9,rp,fi,pZ,oZ⟩;have pv2:=pf.v;have ok2:=ok.sameT s2 tb1;obtain⟨tb',v1,v2⟩:=id ok2.v;refine Ct (λσ HX=>σ=[some (.ref a),some (.ref r),some (.ref p),none,none,none,none]/\BW t.p_7 H2 HX/\BC LP (Da "sets_reached") t.p_7 HX) (λN hN=>?_) ?_
 ·walk_at "rd";refine⟨r,g,lo,tab,m,rfl,ok2,λpq lf' tf' mf' H3 e3 fw' h3 _ _=>?_⟩;obtain⟨rfl,rfl⟩:=Gx g2 ok.len fw fw';refine⟨r,_,0,_,rfl,rfl,BL.of (e3 _ _ v1),rfl,p,pq,g,tf,Z,A1,M,f,rfl,pv2.same e3,h3,due,λH4 e4=>⟨true,rfl,?_⟩⟩;rw[qE (by decide)];have e34:=e3.trans e4;refine⟨r,p,g,lo,tab,m,lf,tf,mf,Z,A1,M,f,rfl,ok2.same e34,fw,s9,pv2.same e34,due,tb2.same e34,λH5 s5 tb5=>⟨true,rfl,?_⟩⟩;rw[qE (by decide)];exact hN _ _ ⟨rfl,e34.t.trans s5,tb5⟩
 rintro σ H5 ⟨rfl,s5,tb5⟩;obtain⟨ts,hp,tl,tn,hts⟩:=pf;have hp5:=s5.get tb2 hp (λ_ z=>nomatch z)
 have hts5:∀(i:Nat) (t1:Addr) (z:Int),ts[i]?=some t1->Z[i]?=some z->∃l,H1 l=none/\H5 t1=some (.tup [.int z,.ref l,Fu (BH M f z)])/\H5 l=some (.lst ((AL g tf z).map V.int)):=λi t1 z h1 h2=>by obtain⟨l,l0,l1,l2⟩:=hts i t1 z h1 h2;exact⟨l,l0,s5.get tb2 l1 (λ_ z=>nomatch z),s5.get tb2 l2 (λ_ z=>nomatch z)⟩
 have ok5:=ok2.sameT s5 tb2;have hS5:=s5.seq tb2 (s2.seq tb1 hS1);have few:=due.few;refine Ct (λσ HX=>∃D,σ=[some (.ref a),some (.ref r),some (.ref p),some (.ref D),none,none,none]/\AG H5 HX/\H5 D=none/\Qk H5 HX D Z (AL g tf) (BH M f)) (λN hN=>?_) ?_
 ·refine⟨_,rfl,p,rfl,⟨_,Ab.of hp5⟩,λD hD=>?_⟩;refine EM (xs:=ts.map V.ref) (λi acc Hx=>∃us:List Addr,acc=us.map V.ref/\us.length=i/\AG H5 Hx/\Hx D=some (.lst acc)/\(∀u∈us,H5 u=none)/\∀(j:Nat) (u:Addr) (z:Int),us[j]?=some u->Z[j]?=some z->∃l,H5 l=none/\D≠l/\D≠u/\Hx u=some (.tup [.int z,.ref l,Fu (BH M f z)])/\Hx l=some (.lst ((AL g tf z).map V.int))) ⟨[],rfl,rfl,AG.new hD _,AC,λt h=>qG h List.not_mem_nil,λj t z h=>by simp at h⟩ (λi acc Hx _ z=>by obtain⟨_,_,_,e,_⟩:=z;exact Ab.of (e _ _ hp5)) ?_ ?_
  ·rintro i v acc Hx hv ⟨us,rfl,ul,ex,hDx,un,hus⟩;rw[W0]at hv;obtain⟨t1,ht,rfl⟩:=XS.mp hv;have ti:=(Ws.mp ht).1;obtain⟨z,hz⟩:∃z,Z[i]?=some z:=⟨_,Wx (by lia)⟩;obtain⟨l,l0,l1,l2⟩:=hts5 i t1 z ht hz;dsimp only[LI];rw[qF rfl];refine⟨_,rfl,t1,_,0,_,rfl,rfl,BL.of (ex _ _ l1),rfl,_,rfl,t1,_,1,_,rfl,rfl,BL.of (ex _ _ l1),rfl,l,_,rfl,.inl (Ab.of (ex _ _ l2)),λl' hl'=>?_⟩;have f4:=AG.new hl' (.lst ((AL g tf z).map V.int));refine⟨_,rfl,t1,_,2,_,rfl,rfl,BL.of (f4 _ _ (ex _ _ l1)),rfl,X7 (AW (show 3<=1000 by decide)),λu hu=>?_⟩;have f5:=AG.new hu (.tup [.int z,.ref l',Fu (BH M f z)]);have Du:D≠u:=λy=>by rw[<-y,f4 _ _ hDx]at hu;cases hu
   have Dl:D≠l':=λy=>by rw[<-y,hDx]at hl';cases hl'
   refine⟨f5 _ _ (f4 _ _ hDx),by rw[Wq];exact AW (by lia),us++[u],by rw[W3];rfl,by rw[W1,ul];rfl,((ex.trans f4).trans f5).into hD,AC,λu' hu'=>(Ww.mp hu').elim (un u') λy=>by rw[Wr.mp y];exact (ex.trans f4).free hu,λj u' z' h1 h2=>?_⟩
   by_cases jl:j<us.length
   ·rw[XX jl]at h1;obtain⟨l3,k0,kl,ku,k1,k2⟩:=hus j u' z' h1 h2;exact⟨l3,k0,kl,ku,by rw[AI (Ne.symm ku)];exact f5 _ _ (f4 _ _ k1),by rw[AI (Ne.symm kl)];exact f5 _ _ (f4 _ _ k2)⟩
   ·rw[XB (by lia)]at h1
    obtain⟨y1,y2⟩:j=us.length/\u=u':=by
     rcases Yk (j-us.length) with y|y
     ·rw[y]at h1;exact⟨by lia,Option.some.inj h1⟩
     ·rw[List.getElem?_eq_none (by simp only[List.length_singleton];lia)]at h1;cases h1
    subst y2;rw[y1,ul,hz]at h2;cases h2;exact⟨l',ex.free hl',Dl,Du,by rw[AI (Ne.symm Du)];exact AC,by rw[AI (Ne.symm Dl)];exact f5 _ _ AC⟩
  ·rintro acc Hx ⟨us,rfl,ul,ex,hDx,un,hus⟩;exact hN _ _ ⟨D,rfl,ex,hD,us,hDx,by rw[ul,Wq,tl],un,λj u z h1 h2=>by obtain⟨l,k0,_,_,k1,k2⟩:=hus j u z h1 h2;exact⟨l,k0,k1,k2⟩⟩
 rintro σ H6 ⟨D,rfl,e6,nD,pf6⟩;have tb6:=tb5.same e6;refine Av λN hN=>?_;walk_at "rd";refine⟨a,ns,2,rfl,by decide,e6.seq hS5,h63,λr' g' lo' tab' m' H7 e7 ok7 sm7=>hN _ _ ?_⟩;clear hN N;obtain⟨lf7,tf7,mf7,fw7⟩:=KM ok7.g2 lo' (tab:=tab') (m:=m');have s97:=sm7 lf7 tf7 mf7 fw7;have tb7:=tb6.same e7;refine Av λN hN=>?_;walk_at "rd";refine⟨r',g',lo',tab',m',lf7,tf7,mf7,rfl,ok7,fw7,tb7,λ_ A2 M2 f2 Z2 rp2 fi2 pZ2 oZ2 p8 H8 s8 tb8 np8 pf8=>hN _ _ ?_,λh=>qG s97 (by lia)⟩;clear hN N;have due8:CC g' tf7 Z2 A2 M2 f2:=⟨Pa ok7 fw7 s97,rp2,fi2,pZ2,oZ2⟩;have ok8:=ok7.sameT s8 tb7;obtain⟨tb8',w1,w2⟩:=id ok8.v;have S58:BW t.p_7 H5 H8:=(e6.trans e7).t.trans s8;have pvD:CL H8 D Z (AL g tf) (BH M f):=CL.sameT s8 tb7 (pf6.v.same e7);have pvP:CL H8 p Z (AL g tf) (BH M f):=CL.sameT S58 tb5 (CL.sameT s5 tb2 pv2);refine Ct (λσ HX=>σ=[some (.ref a),some (.ref r),some (.ref p),some (.ref D),some (.ref r'),some (.ref p8),none]/\AG H8 HX) (λN hN=>?_) ?_
 ·walk_at "rd";refine⟨r',g',lo',tab',m',rfl,ok8,λpq lf' tf' mf' H9 e9 fw' h9 _ _=>?_⟩;obtain⟨rfl,rfl⟩:=Gx ok7.g2 ok7.len fw7 fw';refine⟨r',_,0,_,rfl,rfl,BL.of (e9 _ _ w1),rfl,p8,pq,g',tf7,Z2,A2,M2,f2,rfl,pf8.v.same e9,h9,due8,λHA eA=>⟨true,rfl,?_⟩⟩;rw[qE (by decide)];have e9A:=e9.trans eA;refine⟨_,_,CL.dat (pvP.same e9A),CL.dat (pvD.same e9A),EI _ _ _,EI _ _ _,Hb _ _ _,?_⟩;refine⟨false,by rw[Kn];rfl,?_⟩;rw[qE (by decide)];exact hN _ _ ⟨rfl,e9A⟩
 rintro σ H9 ⟨rfl,e9⟩;have S59:BW t.p_7 H5 H9:=S58.trans e9.t;have S69:BW t.p_7 H6 H9:=(e7.t.trans s8).trans e9.t;have tb9:=tb8.same e9;have hp9:=S59.get tb5 hp5 (λ_ z=>nomatch z);have g3:0<g.toNat:=by lia
 have mtl:∀{z:Int} {l:Addr},H1 l=none->H5 l=some (.lst ((AL g tf z).map V.int))->Mt H1 H5 l:=λh1 h2=>⟨h1,_,h2,by rw[BS];lia,by rw[BS];exact g3⟩
 have ntp:∀{x:Addr} {xs:List V},H5 x=some (.tup xs)->¬Mt H1 H5 x:=λh ⟨_,_,y,_⟩=>by rw[h]at y;cases y
 have np5:¬Mt H1 H5 p:=λ⟨_,xs,y,_,y2⟩=>by
  rw[hp5]at y;cases ts with
  |nil=>cases xs with
   |nil=>cases y2
   |cons b xs=>simp at y
  |cons b ts=>cases xs with
   |nil=>cases y2
   |cons c xs=>simp at y
 have nno:∀{x:Addr},H5 x=none->¬Mt H1 H5 x:=λh ⟨_,_,y,_⟩=>by rw[h]at y;cases y
 refine Ct (λσ HX=>(∃x6,σ=[some (.ref a),some (.ref r),some (.ref p),some (.ref D),some (.ref r'),some (.ref p8),x6])/\(∀x o,¬Mt H1 H5 x->H9 x=some o->HX x=some o)/\BC LP (Da "sets_reached") t.p_7 HX) (λN hN=>?_) ?_
 ·refine⟨_,rfl,p,rfl,⟨_,Ab.of hp9⟩,?_⟩;refine BM (xs:=ts.map V.ref) (λi σ HX=>(∃x6,σ=[some (.ref a),some (.ref r),some (.ref p),some (.ref D),some (.ref r'),some (.ref p8),x6])/\(∀x o,¬Mt H1 H5 x->H9 x=some o->HX x=some o)/\BC LP (Da "sets_reached") t.p_7 HX/\∀x,Mt H1 H5 x->∃ys,HX x=some (.lst ys)/\ys.length<=9+i) ⟨⟨none,rfl⟩,λx o _ h=>h,tb9,λx ⟨_,xs,y,y9,_⟩=>⟨_,S59.get tb5 y (λ_ z=>nomatch z),by rw[Wq];lia⟩⟩ (λi σ HX _ zz=>Ab.of (zz.2.1 _ _ np5 hp9)) ?_ λσ HX zz=>hN _ _ ⟨zz.1,zz.2.1,zz.2.2.1⟩
  rintro i v σ HX hv ⟨⟨x6,rfl⟩,kp,tbX,mt⟩;rw[W0]at hv;obtain⟨t1,ht,rfl⟩:=XS.mp hv;have ti:=(Ws.mp ht).1;obtain⟨z,hz⟩:∃z,Z[i]?=some z:=⟨_,Wx (by lia)⟩;obtain⟨l,l0,l1,l2⟩:=hts5 i t1 z ht hz;have ml:=mtl l0 l2;obtain⟨ys,hys,yl⟩:=mt l ml;have l1X:=kp _ _ (ntp l1) (S59.get tb5 l1 (λ_ z=>nomatch z));walk_at "rd";refine⟨t1,_,1,_,rfl,rfl,BL.of l1X,rfl,?_⟩;refine⟨.inl ⟨_,Ab.of hys⟩,l,rfl,ys,hys,AW (by lia),⟨_,rfl⟩,λx o nx h=>?_,tbX.into hys (λ_ z=>nomatch z) (λ_ z=>nomatch z),λx mx=>?_⟩
  ·rw[AI λy=>nx (by rw[y];exact ml)];exact kp x o nx h
  ·by_cases xl:x=l
   ·rw[xl,AC];exact⟨_,rfl,by rw[W1,XM];lia⟩
   ·rw[AI xl];obtain⟨ys',h1,h2⟩:=mt x mx;exact⟨ys',h1,by lia⟩
 rintro σ HX ⟨⟨x6,rfl⟩,kp,tbX⟩;have hpX:=kp _ _ np5 hp9;refine Av λN hN=>?_;walk_at "rd";refine⟨_,rfl,.inl ⟨rfl,_,Ab.of hpX⟩,p,_,rfl,rfl,hpX,hN _ _ ?_⟩;clear hN N;have tbC:BC LP (Da "sets_reached") t.p_7 (Ae HX p (.lst [])):=tbX.into hpX (λ_ z=>nomatch z) (λ_ z=>nomatch z);have kc:∀x o,¬Mt H1 H5 x->x≠p->H9 x=some o->Ae HX p (.lst []) x=some o:=λx o h1 h2 h3=>by rw[AI h2];exact kp x o h1 h3
 generalize Ae HX p (.lst [])=HC at tbC kc⊢
 have okC:Ay HC r g lo tab m:=by obtain⟨tb9',a1,a2⟩:=id ok5.v;have b1:=S59.get tb5 a1 (λ_ z=>nomatch z);have b2:=S59.get tb5 a2 (λ_ z=>nomatch z);exact {ok5 with v:=⟨tb9',kc _ _ (ntp a1) (λy=>by rw[y,hp5]at a1;cases a1) b1,kc _ _ (ntp a2) (λy=>by rw[y,hp5]at a2;cases a2) b2⟩}
 have neP:∀{x:Addr},H5 x=none->x≠p:=λh y=>by rw[y,hp5]at h;cases h
 have pvC:CL HC D Z (AL g tf) (BH M f):=by obtain⟨us,hD6,ul,un,hus⟩:=pf6;refine⟨us,kc _ _ (nno nD) (neP nD) (S69.get tb6 hD6 (λ_ z=>nomatch z)),ul,λi u z h1 h2=>?_⟩;obtain⟨l,k0,k1,k2⟩:=hus i u z h1 h2;have u0:=un u (Wy h1);exact⟨l,kc _ _ (nno u0) (neP u0) (S69.get tb6 k1 (λ_ z=>nomatch z)),kc _ _ (nno k0) (neP k0) (S69.get tb6 k2 (λ_ z=>nomatch z))⟩
 walk_at "rd";refine⟨r,g,lo,tab,m,lf,tf,mf,rfl,okC,fw,tbC,λ_ A3 M3 f3 Z3 rp3 fi3 pZ3 oZ3 p9 HZ sZ tbZ nZ pfZ=>?_,λh=>qG s9 (by lia)⟩;have due3:CC g tf Z3 A3 M3 f3:=⟨Pa okC fw s9,rp3,fi3,pZ3,oZ3⟩;refine⟨_,_,CL.dat pfZ.v,CL.dat (CL.sameT sZ tbC pvC),EI _ _ _,EI _ _ _,Hb _ _ _,?_⟩;rw[Qn due due3,Kn];exact q _
end
theorem Tk{l:PySem.W.OpenLaw}{w:World}{K:qJ}{h:Heap}{mg:Str->Option Value}{fa c_36 c_47 c_52 c_48 c_35 c_40 f_1 f_39 f_42 f_22 f_5 f_33 f_46 f_21 f_24 f_9 f_12 f_58 f_51 f_32 f_34 f_54 f_49 f_38 f_0 f_31 f_50 f_45 f_53 f_55 f_23 f_41 f_8 f_44 f_43 f_14 f_6 f_7 f_13 f_57 f_56 f_20 f_2 f_10 f_17 f_18 f_29 f_19 f_28 f_15 f_26 f_37 f_27 f_25 f_16 f_30 f_11 f_3 f_4 f_59 cc_7 p_7:Addr}{g_LONGEST_TABLE g_MOST_NODES:Tok}(X:K.In h)(G:h.Ns mainGlobals mg)(hfa:mg "law"=some (.ref fa))
  (n_36:PySem.W.nsIn K mainGlobals "RowError"=some (some (.ref c_36)))
  (n_47:PySem.W.nsIn K mainGlobals "NoRule"=some (some (.ref c_47)))
  (n_52:PySem.W.nsIn K mainGlobals "NoRow"=some (some (.ref c_52)))
  (n_48:PySem.W.nsIn K mainGlobals "NoSuch"=some (some (.ref c_48)))
  (n_35:PySem.W.nsIn K mainGlobals "NoWindow"=some (some (.ref c_35)))
  (n_40:PySem.W.nsIn K mainGlobals "TooWide"=some (some (.ref c_40)))
  (a_1:PySem.W.findIn K (.ref c_52) "__init__"=some (some (.ref f_1)))
  (h_1:∃fd,B1 K "__init__" "NoRow.__init__" WE f_1 fd)
  (h_39:Ac K "is_whole" Sj f_39)
  (h_42:Ac K "is_sign" Sk f_42)
  (h_22:Ac K "check_word" Sl f_22)
  (h_5:Ac K "check_length" WF f_5)
  (h_33:Ac K "number_of" Sm f_33)
  (h_46:Ac K "word_of" Sn f_46)
  (h_21:Ac K "check_head" So f_21)
  (h_24:Ac K "places_for" Sq f_24)
  (h_9:Ac K "table_length" WG f_9)
  (h_12:Ac K "check_table" Sr f_12)
  (h_58:Ac K "rule" Ss f_58)
  (h_51:Ac K "places" Su f_51)
  (h_32:Ac K "next_sign" Sv f_32)
  (h_34:Ac K "told_from" Sw f_34)
  (h_54:Ac K "heads" Sx f_54)
  (h_49:Ac K "counts" Sy f_49)
  (h_38:Ac K "counting" Sz f_38)
  (h_0:Ac K "sign_or_nought" WH f_0)
  (h_31:Ac K "by_window" S0 f_31)
  (h_50:Ac K "narrow" S5 f_50)
  (h_45:Ac K "widened" S6 f_45)
  (h_53:Ac K "frame" S7 f_53)
  (h_55:Ac K "nodes" S8 f_55)
  (h_23:Ac K "everything" S9 f_23)
  (h_41:Ac K "ends_of" TB f_41)
  (h_8:Ac K "single_steps" WI f_8)
  (h_44:Ac K "step_by" TC f_44)
  (h_43:Ac K "reached" TD f_43)
  (h_14:Ac K "turned_back" TF f_14)
  (h_6:Ac K "fewest_steps" WJ f_6)
  (h_7:Ma K "sets_reached" WK f_7 cc_7 p_7)
  (h_13:Ac K "reach_paper" TH f_13)
  (h_57:Ac K "onto" TJ f_57)
  (h_56:Ac K "lost" TK f_56)
  (h_20:Ac K "_law_whole" TL f_20)
  (h_2:Ac K "_law_cell_at" WL f_2)
  (h_10:Ac K "_law_stream" TM f_10)
  (h_17:Ac K "_law_power" TN f_17)
  (h_18:Ac K "_law_shape" TQ f_18)
  (h_29:Ac K "_law_sums" TR f_29)
  (h_19:Ac K "_law_table" TU f_19)
  (h_28:Ac K "_law_rule" TV f_28)
  (h_15:Ac K "_law_frame" TW f_15)
  (h_26:Ac K "_law_ends" TY f_26)
  (h_37:Ac K "_law_row" TZ f_37)
  (h_27:Ac K "_law_left" Ta f_27)
  (h_25:Ac K "_law_come" Tb f_25)
  (h_16:Ac K "_law_paper" Tc f_16)
  (h_30:Ac K "_law_word" Td f_30)
  (h_11:Ac K "_law_truths" Te f_11)
  (h_3:Ac K "_law_refusal" WM f_3)
  (h_4:Ac K "_law_refused" WN f_4)
  (h_59:Ac K "law" Ql f_59)
  (z_len:PySem.W.nsIn K mainGlobals "len"=some none)
  (z_list:PySem.W.nsIn K mainGlobals "list"=some none)
  (z_reversed:PySem.W.nsIn K mainGlobals "reversed"=some none)
  (z_isinstance:PySem.W.nsIn K mainGlobals "isinstance"=some none)
  (z_range:PySem.W.nsIn K mainGlobals "range"=some none)
  (z_int:PySem.W.nsIn K mainGlobals "int"=some none)
  (z_bool:PySem.W.nsIn K mainGlobals "bool"=some none)
  (z_ValueError:PySem.W.nsIn K mainGlobals "ValueError"=some none)
  (z_tuple:PySem.W.nsIn K mainGlobals "tuple"=some none)
  (z_enumerate:PySem.W.nsIn K mainGlobals "enumerate"=some none)
  (z_min:PySem.W.nsIn K mainGlobals "min"=some none)
  (z_sorted:PySem.W.nsIn K mainGlobals "sorted"=some none)
  (z_zip:PySem.W.nsIn K mainGlobals "zip"=some none)
  (w_LONGEST_TABLE:PySem.W.nsIn K mainGlobals "LONGEST_TABLE"=some (some (.int 256 g_LONGEST_TABLE)))
  (w_MOST_NODES:PySem.W.nsIn K mainGlobals "MOST_NODES"=some (some (.int 9 g_MOST_NODES)))
  (x_47:PySem.W.excIn K c_47 FS "ValueError.__new__"=true)
  (x_48:PySem.W.excIn K c_48 FS "ValueError.__new__"=true)
  (x_35:PySem.W.excIn K c_35 FS "ValueError.__new__"=true)
  (x_40:PySem.W.excIn K c_40 FS "ValueError.__new__"=true)
  (xi_52:Vn K c_52 f_1=true)
  (xt_52:PySem.W.typeIn K (.ref f_1)=some (.type "function"))
  (xk_52:PySem.W.keepIn K (.ref c_52)=true)
  (ci_52:(PySem.W.clsIn K c_52).isSome=true)
  (ga_52:PySem.W.findIn K (.ref c_52) "__getattribute__"=some (some (.builtin "BaseException.__getattribute__")))
  (gn_52:PySem.W.findIn K (.ref c_52) "__getattr__"=some none)
  (ca_52:PySem.W.findIn K (.ref c_52) "__class__"=some (some (.builtin "object.__class__")))
  (sg_52:PySem.W.specialIn K (.builtin "object.__class__") "__get__"=some (some (.builtin "getset_descriptor.__get__")))
  (tk_52:PySem.W.takesIn K (.builtin "object.__class__")=some true)
  (mo_52:PySem.W.mroIn K c_52 (.type "object")=some true)
  (mb_52:PySem.W.mroIn K c_52 (.type "BaseException")=some true)
  (ci_40:(PySem.W.clsIn K c_40).isSome=true)
  (ga_40:PySem.W.findIn K (.ref c_40) "__getattribute__"=some (some (.builtin "BaseException.__getattribute__")))
  (gn_40:PySem.W.findIn K (.ref c_40) "__getattr__"=some none)
  (ca_40:PySem.W.findIn K (.ref c_40) "__class__"=some (some (.builtin "object.__class__")))
  (sg_40:PySem.W.specialIn K (.builtin "object.__class__") "__get__"=some (some (.builtin "getset_descriptor.__get__")))
  (tk_40:PySem.W.takesIn K (.builtin "object.__class__")=some true)
  (mo_40:PySem.W.mroIn K c_40 (.type "object")=some true)
  (mb_40:PySem.W.mroIn K c_40 (.type "BaseException")=some true)
  (sa_52:PySem.W.findIn K (.ref c_52) "__setattr__"=some (some (.builtin "object.__setattr__")))
  (hd_52:PySem.W.hasDictIn K c_52=true)
  (mr_52:UD K c_52 c_36=true)
  (no_52:PySem.W.findIn K (.ref c_52) "at"=some none)
  (kt_40_40:PySem.W.kitOne K (.ref c_40) (.ref c_40)=some true)
  (kt_TooWide_ValueError:PySem.W.kitOne K (.ref c_40) (.type "ValueError")=some true)
  (kt_40_47:PySem.W.kitOne K (.ref c_40) (.ref c_47)=some false)
  (kt_40_35:PySem.W.kitOne K (.ref c_40) (.ref c_35)=some false)
  (em_40_36:PySem.W.exmOne K (.ref c_40) (.ref c_36)=some true)
  : (∀P∈[p_7],∃c,PySem.W.codeHdIn K c P=true)/\∃fd:FuncData,(∀(s:Shared) (v:Value),BindsTo s fd ⟨[v],[]⟩ [("_law_script",v)])/\∀base:Heap,K.In base->base.Ns mainGlobals mg->G4 mg base->EY l.prog w K mg base (Hj l.prog w) 16 fa fd ["_law_script"] (JG K [p_7]):=by
 have T:Ce K mg ⟨c_36,c_47,c_52,c_48,c_35,c_40,f_1,f_39,f_42,f_22,f_5,f_33,f_46,f_21,f_24,f_9,f_12,f_58,f_51,f_32,f_34,f_54,f_49,f_38,f_0,f_31,f_50,f_45,f_53,f_55,f_23,f_41,f_8,f_44,f_43,f_14,f_6,f_7,f_13,f_57,f_56,f_20,f_2,f_10,f_17,f_18,f_29,f_19,f_28,f_15,f_26,f_37,f_27,f_25,f_16,f_30,f_11,f_3,f_4,f_59,cc_7,p_7⟩:=⟨PySem.W.mg_of X G n_36,PySem.W.mg_of X G n_47,PySem.W.mg_of X G n_52,PySem.W.mg_of X G n_48,PySem.W.mg_of X G n_35,PySem.W.mg_of X G n_40,h_1,PySem.W.mg_of X G h_39.2,h_39.1,PySem.W.mg_of X G h_42.2,h_42.1,PySem.W.mg_of X G h_22.2,h_22.1,PySem.W.mg_of X G h_5.2,h_5.1,PySem.W.mg_of X G h_33.2,h_33.1,PySem.W.mg_of X G h_46.2,h_46.1,PySem.W.mg_of X G h_21.2,h_21.1,PySem.W.mg_of X G h_24.2,h_24.1,PySem.W.mg_of X G h_9.2,h_9.1,PySem.W.mg_of X G h_12.2,h_12.1,PySem.W.mg_of X G h_58.2,h_58.1,PySem.W.mg_of X G h_51.2,h_51.1,PySem.W.mg_of X G h_32.2,h_32.1,PySem.W.mg_of X G h_34.2,h_34.1,PySem.W.mg_of X G h_54.2,h_54.1,PySem.W.mg_of X G h_49.2,h_49.1,PySem.W.mg_of X G h_38.2,h_38.1,PySem.W.mg_of X G h_0.2,h_0.1,PySem.W.mg_of X G h_31.2,h_31.1,PySem.W.mg_of X G h_50.2,h_50.1,PySem.W.mg_of X G h_45.2,h_45.1,PySem.W.mg_of X G h_53.2,h_53.1,PySem.W.mg_of X G h_55.2,h_55.1,PySem.W.mg_of X G h_23.2,h_23.1,PySem.W.mg_of X G h_41.2,h_41.1,PySem.W.mg_of X G h_8.2,h_8.1,PySem.W.mg_of X G h_44.2,h_44.1,PySem.W.mg_of X G h_43.2,h_43.1,PySem.W.mg_of X G h_14.2,h_14.1,PySem.W.mg_of X G h_6.2,h_6.1,PySem.W.mg_of X G h_7.2,h_7.1,(let ⟨_,z⟩:=h_7.1;z.hd),PySem.W.mg_of X G h_13.2,h_13.1,PySem.W.mg_of X G h_57.2,h_57.1,PySem.W.mg_of X G h_56.2,h_56.1,PySem.W.mg_of X G h_20.2,h_20.1,PySem.W.mg_of X G h_2.2,h_2.1,PySem.W.mg_of X G h_10.2,h_10.1,PySem.W.mg_of X G h_17.2,h_17.1,PySem.W.mg_of X G h_18.2,h_18.1,PySem.W.mg_of X G h_29.2,h_29.1,PySem.W.mg_of X G h_19.2,h_19.1,PySem.W.mg_of X G h_28.2,h_28.1,PySem.W.mg_of X G h_15.2,h_15.1,PySem.W.mg_of X G h_26.2,h_26.1,PySem.W.mg_of X G h_37.2,h_37.1,PySem.W.mg_of X G h_27.2,h_27.1,PySem.W.mg_of X G h_25.2,h_25.1,PySem.W.mg_of X G h_16.2,h_16.1,PySem.W.mg_of X G h_30.2,h_30.1,PySem.W.mg_of X G h_11.2,h_11.1,PySem.W.mg_of X G h_3.2,h_3.1,PySem.W.mg_of X G h_4.2,h_4.1,PySem.W.mg_of X G h_59.2,h_59.1,PySem.W.mg_none_of X G z_len,PySem.W.mg_none_of X G z_list,PySem.W.mg_none_of X G z_reversed,PySem.W.mg_none_of X G z_isinstance,PySem.W.mg_none_of X G z_range,PySem.W.mg_none_of X G z_int,PySem.W.mg_none_of X G z_bool,PySem.W.mg_none_of X G z_ValueError,PySem.W.mg_none_of X G z_tuple,PySem.W.mg_none_of X G z_enumerate,PySem.W.mg_none_of X G z_min,PySem.W.mg_none_of X G z_sorted,PySem.W.mg_none_of X G z_zip,⟨_,PySem.W.mg_of X G w_LONGEST_TABLE⟩,⟨_,PySem.W.mg_of X G w_MOST_NODES⟩,x_47,x_48,x_35,x_40,⟨xi_52,xt_52,xk_52⟩,⟨ci_52,ga_52,gn_52,ca_52,sg_52,tk_52,mo_52,mb_52⟩,⟨ci_40,ga_40,gn_40,ca_40,sg_40,tk_40,mo_40,mb_40⟩,⟨sa_52,hd_52,mr_52,no_52,⟨ci_52,ga_52,gn_52,ca_52,sg_52,tk_52,mo_52,mb_52⟩⟩,kt_40_40,kt_TooWide_ValueError,kt_40_47,kt_40_35,em_40_36⟩;have e:=hfa.symm.trans T.m_59;cases e;obtain⟨fd,F⟩:=T.d_59;obtain⟨oc,od,kV,doc,pm,an,cdv,ct,osl,ef,lk,hcd⟩:=F.ex;refine⟨(List.forall_mem_cons.mpr ⟨⟨_,T.hd_7⟩,(λ_ h=>qG h W6)⟩),fd,λs v=>by rw[ef];exact .of_eq rfl,λbase _ _ hB=>?_⟩;have G_1:=WP (P:=l.prog) (w:=w) (base:=base) T;have G_39:=Ul (P:=l.prog) (w:=w) (base:=base) T;have G_42:=Uo (P:=l.prog) (w:=w) (base:=base) T G_39;have G_22:=Uq (P:=l.prog) (w:=w) (base:=base) T G_42 G_1;have G_5:=WR (P:=l.prog) (w:=w) (base:=base) T G_22 G_1;have G_33:=Ur (P:=l.prog) (w:=w) (base:=base) T G_22;have G_46:=Us (P:=l.prog) (w:=w) (base:=base) T;have G_21:=Uu (P:=l.prog) (w:=w) (base:=base) T G_39;have G_24:=Uv (P:=l.prog) (w:=w) (base:=base) T;have G_9:=WS (P:=l.prog) (w:=w) (base:=base) T;have G_12:=Uw (P:=l.prog) (w:=w) (base:=base) T G_24 G_42;have G_58:=Uy (P:=l.prog) (w:=w) (base:=base) T G_21 G_12;have G_51:=U0 (P:=l.prog) (w:=w) (base:=base) T G_24;have G_32:=U2 (P:=l.prog) (w:=w) (base:=base) T G_5 G_51 G_33;have G_34:=U3 (P:=l.prog) (w:=w) (base:=base) T;have G_54:=U5 (P:=l.prog) (w:=w) (base:=base) T;have G_49:=U6 (P:=l.prog) (w:=w) (base:=base) T;have G_38:=U7 (P:=l.prog) (w:=w) (base:=base) T G_51 G_49;have G_0:=WU (P:=l.prog) (w:=w) (base:=base) T;have G_31:=U8 (P:=l.prog) (w:=w) (base:=base) T G_58 G_9 G_46 G_32 G_0 G_51;have G_50:=U9 (P:=l.prog) (w:=w) (base:=base) T G_38 G_31;have G_45:=VA (P:=l.prog) (w:=w) (base:=base) T G_38 G_31 G_9;have G_53:=VB (P:=l.prog) (w:=w) (base:=base) T G_50 G_51 G_45 G_54;have G_55:=VD (P:=l.prog) (w:=w) (base:=base) T G_54 G_53;have G_23:=VF (P:=l.prog) (w:=w) (base:=base) T G_55;have G_41:=VG (P:=l.prog) (w:=w) (base:=base) T G_54;have G_8:=WV (P:=l.prog) (w:=w) (base:=base) T G_54 G_41 G_34;have G_44:=VH (P:=l.prog) (w:=w) (base:=base) T;have G_43:=VI (P:=l.prog) (w:=w) (base:=base) T;have G_14:=VJ (P:=l.prog) (w:=w) (base:=base) T;have G_6:=WW (P:=l.prog) (w:=w) (base:=base) T G_14;have G_7:=WX (P:=l.prog) (w:=w) (base:=base) T hB G_53 G_8 G_43 G_23 G_44;have G_13:=VL (P:=l.prog) (w:=w) (base:=base) T G_7 G_6;have G_57:=VN (P:=l.prog) (w:=w) (base:=base) T G_13;have G_56:=VO (P:=l.prog) (w:=w) (base:=base) T G_7 G_6 G_23;have G_20:=VQ (P:=l.prog) (w:=w) (base:=base) T;have G_2:=WZ (P:=l.prog) (w:=w) (base:=base) T;have G_10:=VR (P:=l.prog) (w:=w) (base:=base) T;have G_17:=VS (P:=l.prog) (w:=w) (base:=base) T;have G_18:=VT (P:=l.prog) (w:=w) (base:=base) T;have G_29:=VU (P:=l.prog) (w:=w) (base:=base) T G_17;have G_19:=VW (P:=l.prog) (w:=w) (base:=base) T G_17 G_29;have G_28:=VX (P:=l.prog) (w:=w) (base:=base) T G_2 G_18 G_10 G_19;have G_15:=VY (P:=l.prog) (w:=w) (base:=base) T;have G_26:=VZ (P:=l.prog) (w:=w) (base:=base) T;have G_37:=Va (P:=l.prog) (w:=w) (base:=base) T G_20 G_26;have G_27:=Vb (P:=l.prog) (w:=w) (base:=base) T;have G_25:=Vc (P:=l.prog) (w:=w) (base:=base) T;have G_16:=Vd (P:=l.prog) (w:=w) (base:=base) T G_17 G_37 G_27 G_25;have G_30:=Ve (P:=l.prog) (w:=w) (base:=base) T;have G_11:=Vf (P:=l.prog) (w:=w) (base:=base) T G_30 G_57 G_56 G_20;have G_3:=Wa (P:=l.prog) (w:=w) (base:=base) T G_13 G_57 G_56;have G_4:=Wb (P:=l.prog) (w:=w) (base:=base) T G_17 G_3;exact Vg T F G_28 G_13 G_4 G_2 G_16 G_11 G_15
end K43
noncomputable def PySem.W.Fast.tw14806222984533428521:=PySem.Challenge.pw_rowrules_k43_papers_of_reach
theorem PySem.W.Fast.te14806222984533428521:PySem.Challenge.pw_rowrules_k43_papers_of_reach=PySem.W.Fast.tw14806222984533428521:=rfl
namespace PySem.W.Fast
theorem tw2487116130251286737:0=0:=rfl
theorem tw12740919941891573256:0=0:=rfl
theorem tw13228670006539244000:0=0:=rfl
theorem tw3617562806382889805:0=0:=rfl
theorem tw13322959387555267207:0=0:=rfl
theorem tw15370749829289334354:0=0:=rfl
theorem tw14594333330061002979:0=0:=rfl
theorem tw13480288035134332661:0=0:=rfl
theorem tw12595125673774342187:0=0:=rfl
theorem tw7595132969820478245:0=0:=rfl
theorem tw1658994585213481336:0=0:=rfl
theorem tw6346532719829231262:0=0:=rfl
theorem tw13656328527673916125:0=0:=rfl
theorem tw5174698231741134641:0=0:=rfl
theorem tw17494979551822843165:0=0:=rfl
theorem tw9039384822316309272:0=0:=rfl
theorem tw3650451029330073162:0=0:=rfl
theorem tw11014812939314624240:0=0:=rfl
theorem tw13054967792703281102:0=0:=rfl
theorem tw3679304561523096877:0=0:=rfl
theorem tw15247724539513104570:0=0:=rfl
theorem tw13851176740036656014:0=0:=rfl
theorem tw2512527427472487573:0=0:=rfl
theorem tw17895698186316855513:0=0:=rfl
theorem tw6411435915458959400:0=0:=rfl
theorem tw8594725416887976094:0=0:=rfl
theorem tw10391424000869792856:0=0:=rfl
theorem tw3805617358157042127:0=0:=rfl
theorem tw18082988110843356474:0=0:=rfl
theorem tw3210634214237024216:0=0:=rfl
theorem tw5293171543396134227:0=0:=rfl
theorem tw7071060936495412711:0=0:=rfl
theorem tw7309762097227228425:0=0:=rfl
theorem tw17434341615398264127:0=0:=rfl
theorem tw17185157876248713629:0=0:=rfl
theorem tw1854971265448351554:0=0:=rfl
theorem tw5037505980148308100:0=0:=rfl
theorem tw7052948761317597199:0=0:=rfl
theorem tw6502373484172876403:0=0:=rfl
theorem tw8659474808538872643:0=0:=rfl
theorem tw3804592024695638712:0=0:=rfl
theorem tw2790521329252055597:0=0:=rfl
theorem tw14175466110059181146:0=0:=rfl
theorem tw6856755630414850230:0=0:=rfl
theorem tw8483532248114698695:0=0:=rfl
theorem tw14142358515713492469:0=0:=rfl
theorem tw7779137092755145501:0=0:=rfl
theorem tw15610683414094657667:0=0:=rfl
theorem tw5190747951529351763:0=0:=rfl
theorem tw4343380881315178491:0=0:=rfl
theorem tw15981325090629808042:0=0:=rfl
theorem tw5337431224959223615:0=0:=rfl
theorem tw3371159321634510583:0=0:=rfl
theorem tw10234853954655914668:0=0:=rfl
theorem tw352803299786987597:0=0:=rfl
theorem tw3968492373996104596:0=0:=rfl
theorem tw13280060338050517425:0=0:=rfl
theorem tw13134541520085832359:0=0:=rfl
theorem tw13789606339138257456:0=0:=rfl
theorem tw6917928625066956940:0=0:=rfl
theorem tw8290972823590477613:0=0:=rfl
theorem tw10644878850877865001:0=0:=rfl
theorem tw6836111900558954376:0=0:=rfl
theorem tw13718919315183684529:0=0:=rfl
theorem tw3347103752113405646:0=0:=rfl
theorem tw3292537416379422530:0=0:=rfl
theorem tw14742154153145532044:0=0:=rfl
theorem tw17882713969259512735:0=0:=rfl
theorem tw14290246457906411167:0=0:=rfl
theorem tw1768897157057383161:0=0:=rfl
theorem tw15969980750001623906:0=0:=rfl
theorem tw9168113550818267470:0=0:=rfl
theorem tw16404106357359792506:0=0:=rfl
theorem tw13568583744767518408:0=0:=rfl
theorem tw15067049481309549649:0=0:=rfl
theorem tw16672725116434299407:0=0:=rfl
theorem tw15384239414429250532:0=0:=rfl
theorem tw15324570575114744644:0=0:=rfl
theorem tw16151909939260514993:0=0:=rfl
theorem tw11710079741475987907:0=0:=rfl
theorem tw738339488107182367:0=0:=rfl
theorem tw3134125978823938974:0=0:=rfl
theorem tw8439332456379757129:0=0:=rfl
theorem tw8521491514472608509:0=0:=rfl
theorem tw13375159865668388987:0=0:=rfl
theorem tw11623419307332594796:0=0:=rfl
theorem tw5969427794837819021:0=0:=rfl
theorem tw8934779152947825451:0=0:=rfl
theorem tw17443022141153888923:0=0:=rfl
theorem tw904055382930326808:0=0:=rfl
theorem tw4648741982309232779:0=0:=rfl
theorem tw15848145477507195205:0=0:=rfl
theorem tw13839332376391390997:0=0:=rfl
theorem tw17080047230168672252:0=0:=rfl
theorem tw14429306087989134763:0=0:=rfl
theorem tw17473823551418018920:0=0:=rfl
theorem tw13081417846421341547:0=0:=rfl
theorem tw10052945606633726237:0=0:=rfl
theorem tw4157822115204643721:0=0:=rfl
theorem tw1952829286142143020:0=0:=rfl
theorem tw6439215682030039527:0=0:=rfl
theorem tw12078777585727239546:0=0:=rfl
theorem tw14098230547729245244:0=0:=rfl
theorem tw6532538397127373352:0=0:=rfl
theorem tw7929509847853159275:0=0:=rfl
theorem tw17601659023289395063:0=0:=rfl
theorem tw13608534771417694613:0=0:=rfl
theorem tw2580980451927194387:0=0:=rfl
theorem tw4832301224069205382:0=0:=rfl
theorem tw6449102076571504865:0=0:=rfl
theorem tw4508968346765367971:0=0:=rfl
theorem tw10520323228132728294:0=0:=rfl
theorem tw12871082541571201093:0=0:=rfl
theorem tw12731577170575370971:0=0:=rfl
theorem tw14898746030460352496:0=0:=rfl
theorem tw17774663177566707028:0=0:=rfl
theorem tw13857608670292219938:0=0:=rfl
theorem tw12011704094585618661:0=0:=rfl
theorem tw17256163997437850278:0=0:=rfl
theorem tw15343080826203771655:0=0:=rfl
theorem tw7034305070681634512:0=0:=rfl
theorem tw1981418247901204925:0=0:=rfl
theorem tw2684942893031358696:0=0:=rfl
theorem tw18432230223076931728:0=0:=rfl
theorem tw17138703724967696432:0=0:=rfl
theorem tw11893054019418801628:0=0:=rfl
theorem tw11067782906687597728:0=0:=rfl
theorem tw10384116262500217451:0=0:=rfl
theorem tw6204039452422585417:0=0:=rfl
theorem tw7462307157502045883:0=0:=rfl
theorem tw15381184293761579717:0=0:=rfl
theorem tw6915784536890734915:0=0:=rfl
theorem tw1083876532778761358:0=0:=rfl
theorem tw15674251468096773144:0=0:=rfl
theorem tw5330819833776832565:0=0:=rfl
theorem tw4123035514140974812:0=0:=rfl
theorem tw5420919296491697112:0=0:=rfl
theorem tw14998501648824275709:0=0:=rfl
theorem tw1464331318889987333:0=0:=rfl
theorem tw13228639230143750333:0=0:=rfl
theorem tw3932116238597545131:0=0:=rfl
theorem tw8810006479010323635:0=0:=rfl
theorem tw18377509924835587566:0=0:=rfl
theorem tw7578388191497968685:0=0:=rfl
theorem tw3484725547043471806:0=0:=rfl
theorem tw13917037503092073907:0=0:=rfl
theorem tw16879153766128428213:0=0:=rfl
theorem tw17320364480327339051:0=0:=rfl
theorem tw6071986780799187552:0=0:=rfl
theorem tw16756250045995620580:0=0:=rfl
theorem tw12658823571428151536:0=0:=rfl
theorem tw15195171960872004278:0=0:=rfl
theorem tw9117971254110113758:0=0:=rfl
theorem tw13937247165579641468:0=0:=rfl
theorem tw2564062579504535197:0=0:=rfl
theorem tw8525591436076573984:0=0:=rfl
theorem tw15447030465078744023:0=0:=rfl
theorem tw9170674841697729475:0=0:=rfl
theorem tw15448551803726893994:0=0:=rfl
theorem tw7525149798887603801:0=0:=rfl
theorem tw17369265463867175351:0=0:=rfl
theorem tw1402170130983186012:0=0:=rfl
theorem tw12977306175509795905:0=0:=rfl
theorem tw4918080163420567789:0=0:=rfl
theorem tw16504357797832546684:0=0:=rfl
theorem tw6490714809623206107:0=0:=rfl
theorem tw4619760304973711814:0=0:=rfl
theorem tw11409940883874276261:0=0:=rfl
theorem tw400227118876733523:0=0:=rfl
theorem tw18044155034507269220:0=0:=rfl
theorem tw12274846501542833073:0=0:=rfl
theorem tw6162097129532501877:0=0:=rfl
theorem tw2430063344378555633:0=0:=rfl
theorem tw8706423457619695948:0=0:=rfl
theorem tw5708859806580377330:0=0:=rfl
theorem tw2843638677642893519:0=0:=rfl
theorem tw15481382577352507572:0=0:=rfl
theorem tw15076160813864415714:0=0:=rfl
theorem tw16422896807219511596:0=0:=rfl
theorem tw9079296645463621749:0=0:=rfl
theorem tw7832043936375316673:0=0:=rfl
theorem tw16852082675332254289:0=0:=rfl
theorem tw966643379236400415:0=0:=rfl
theorem tw15269043397251411345:0=0:=rfl
theorem tw4884783321146300035:0=0:=rfl
theorem tw10621422494553156466:0=0:=rfl
theorem tw3177815263597803650:0=0:=rfl
theorem tw7404188531070128460:0=0:=rfl
theorem tw5656495923621727588:0=0:=rfl
theorem tw5313389737904646465:0=0:=rfl
theorem tw973443433961400397:0=0:=rfl
theorem tw6569755785784730129:0=0:=rfl
theorem tw10503045446610969560:0=0:=rfl
theorem tw11222349522516929015:0=0:=rfl
theorem tw15855911369031626410:0=0:=rfl
theorem tw16009078912179775966:0=0:=rfl
theorem tw15263865739244786532:0=0:=rfl
theorem tw17598993654894454605:0=0:=rfl
theorem tw13839485326833610281:0=0:=rfl
theorem tw5276215407619247875:0=0:=rfl
theorem tw5729389518541306771:0=0:=rfl
theorem tw8269602177537889299:0=0:=rfl
theorem tw7005512125274746347:0=0:=rfl
theorem tw17048010845603073812:0=0:=rfl
theorem tw6124781501004397000:0=0:=rfl
theorem tw2105954212131187734:0=0:=rfl
theorem tw11455245567293870343:0=0:=rfl
theorem tw2591454885901495936:0=0:=rfl
theorem tw8600726939110022977:0=0:=rfl
theorem tw8557716043594370902:0=0:=rfl
theorem tw10625413726437549932:0=0:=rfl
theorem tw17206782750737424146:0=0:=rfl
theorem tw15946509645863895074:0=0:=rfl
theorem tw12219742594285350171:0=0:=rfl
theorem tw771846430396599131:0=0:=rfl
theorem tw5946733393371152314:0=0:=rfl
theorem tw14371436344011612683:0=0:=rfl
theorem tw13434403486348459936:0=0:=rfl
theorem tw9925640528349689561:0=0:=rfl
theorem tw118835301499246760:0=0:=rfl
theorem tw18296670454101045542:0=0:=rfl
theorem tw7513017464509765117:0=0:=rfl
theorem tw2816858546528077098:0=0:=rfl
theorem tw16972004066695742962:0=0:=rfl
theorem tw9100634978463987121:0=0:=rfl
theorem tw14827627719564212254:0=0:=rfl
theorem tw16037214361534728760:0=0:=rfl
theorem tw11957194100392043439:0=0:=rfl
theorem tw9111592296822235669:0=0:=rfl
theorem tw5418344120320017153:0=0:=rfl
theorem tw994237389733030927:0=0:=rfl
theorem tw1677064968702143618:0=0:=rfl
theorem tw817839622587531334:0=0:=rfl
theorem tw9841942766013258053:0=0:=rfl
theorem tw18426565043531473787:0=0:=rfl
theorem tw15319327226824113743:0=0:=rfl
theorem tw3555733916701792866:0=0:=rfl
theorem tw17684747188065538639:0=0:=rfl
theorem tw13144461467421093980:0=0:=rfl
theorem tw7048428452424332458:0=0:=rfl
theorem tw18093907836928694296:0=0:=rfl
theorem tw1153587225460245615:0=0:=rfl
theorem tw15153084191474781631:0=0:=rfl
theorem tw6537590787070015525:0=0:=rfl
end PySem.W.Fast
open PySem PySem.W PyProof.Rows
set_option maxRecDepth 100000 in
set_option maxHeartbeats 0 in
theorem PySem.Challenge.cw_rowrules_k43_papers_of_reach_holds : PySem.Challenge.rw_rowrules_k43_papers_of_reach.Holds := by
 w_on;o_law;k_head;(case hw=>w_witness2)
 k_fill
 refine L2.Nf (l:=PySem.Challenge.rw_rowrules_k43_papers_of_reach) (k:=16) (n:=0) (x:="_law_script") (ts:=[_]) rfl rfl ⟨rfl,by decide,by decide⟩ (λw h Y=>⟨PySem.W.km_in_of Y,PySem.W.km_tabs_of Y⟩) ?hTab ?F
 case hTab=>exact λw=>(List.forall_mem_cons.mpr ⟨by kernel_rfl,λ_ h=>absurd h W6⟩)
 case F =>
  intro w mg fa h KX G hmg;refine' K43.Tk KX G hmg ?_ ?_ ?_ ?_ ?_ ?_ ?_ ⟨_,L2.N6 ?_ ?_ ?_⟩ (L2.Ad ?_ ?_ ?_ ?_) (L2.Ad ?_ ?_ ?_ ?_) (L2.Ad ?_ ?_ ?_ ?_) (L2.Ad ?_ ?_ ?_ ?_) (L2.Ad ?_ ?_ ?_ ?_) (L2.Ad ?_ ?_ ?_ ?_) (L2.Ad ?_ ?_ ?_ ?_) (L2.Ad ?_ ?_ ?_ ?_) (L2.Ad ?_ ?_ ?_ ?_) (L2.Ad ?_ ?_ ?_ ?_) (L2.Ad ?_ ?_ ?_ ?_) (L2.Ad ?_ ?_ ?_ ?_) (L2.Ad ?_ ?_ ?_ ?_) (L2.Ad ?_ ?_ ?_ ?_) (L2.Ad ?_ ?_ ?_ ?_) (L2.Ad ?_ ?_ ?_ ?_) (L2.Ad ?_ ?_ ?_ ?_) (L2.Ad ?_ ?_ ?_ ?_) (L2.Ad ?_ ?_ ?_ ?_) (L2.Ad ?_ ?_ ?_ ?_) (L2.Ad ?_ ?_ ?_ ?_) (L2.Ad ?_ ?_ ?_ ?_) (L2.Ad ?_ ?_ ?_ ?_) (L2.Ad ?_ ?_ ?_ ?_) (L2.Ad ?_ ?_ ?_ ?_) (L2.Ad ?_ ?_ ?_ ?_) (L2.Ad ?_ ?_ ?_ ?_) (L2.Ad ?_ ?_ ?_ ?_) (L2.Ad ?_ ?_ ?_ ?_) (L2.Ad ?_ ?_ ?_ ?_) (L2.Qc ?_ ?_ ?_ ?_ ?_) (L2.Ad ?_ ?_ ?_ ?_) (L2.Ad ?_ ?_ ?_ ?_) (L2.Ad ?_ ?_ ?_ ?_) (L2.Ad ?_ ?_ ?_ ?_) (L2.Ad ?_ ?_ ?_ ?_) (L2.Ad ?_ ?_ ?_ ?_) (L2.Ad ?_ ?_ ?_ ?_) (L2.Ad ?_ ?_ ?_ ?_) (L2.Ad ?_ ?_ ?_ ?_) (L2.Ad ?_ ?_ ?_ ?_) (L2.Ad ?_ ?_ ?_ ?_) (L2.Ad ?_ ?_ ?_ ?_) (L2.Ad ?_ ?_ ?_ ?_) (L2.Ad ?_ ?_ ?_ ?_) (L2.Ad ?_ ?_ ?_ ?_) (L2.Ad ?_ ?_ ?_ ?_) (L2.Ad ?_ ?_ ?_ ?_) (L2.Ad ?_ ?_ ?_ ?_) (L2.Ad ?_ ?_ ?_ ?_) (L2.Ad ?_ ?_ ?_ ?_) (L2.Ad ?_ ?_ ?_ ?_) (L2.Ad ?_ ?_ ?_ ?_) ?_ ?_ ?_ ?_ ?_ ?_ ?_ ?_ ?_ ?_ ?_ ?_ ?_ ?_ ?_ ?_ ?_ ?_ ?_ ?_ ?_ ?_ ?_ ?_ ?_ ?_ ?_ ?_ ?_ ?_ ?_ ?_ ?_ ?_ ?_ ?_ ?_ ?_ ?_ ?_ ?_ ?_ ?_ ?_ ?_ ?_ ?_
  any_goals k_is
  ·kernel_rfl
  ·k_exc
  ·k_exc
  ·k_exc
  ·k_exc
  ·kernel_rfl
  ·show PySem.W.isClsIn _ _=true;k_is
  ·show PySem.W.isClsIn _ _=true;k_is
  ·kernel_rfl
  ·kit_is
  ·kit_is
  ·kit_is
  ·kit_is
  ·kts_exm
