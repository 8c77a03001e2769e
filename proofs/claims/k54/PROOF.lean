import PyProof.Rows.All
import Wide.All
import OpenK.AllK
import Wide.FinOn
import Lean
import PyProof.EqAt
import PyProof.EqKinds
import PyProof.TupleCall
import PySem.Challenge.RW_rowrules_k54_ways_back
set_option Elab.async false
set_option linter.all false
set_option maxRecDepth 100000
abbrev qC:=@PySem.wpAny_bind
abbrev qD:=@PySem.wpAny_pure
abbrev qE:=@if_neg
abbrev qF:=@if_pos
abbrev qG:=@absurd
abbrev qH:=@decide_eq_true
abbrev qI:=@decide_eq_false
abbrev qJ:=PySem.W.Frag
abbrev YG:=@List.length_map
abbrev YH:=@List.getD_eq_getElem?_getD
abbrev YI:=@List.getElem?_eq_getElem
abbrev YJ:=@List.getElem?_eq_some_iff
abbrev YK:=@PySem.Heap.get?_push_of_some
abbrev YL:=@Nat.le_refl
abbrev YM:=@Int.toNat_natCast
abbrev YN:=@List.length_append
abbrev YO:=@List.getElem?_map
abbrev YQ:=@PySem.Heap.lt_size
abbrev YR:=@List.mem_append
abbrev YS:=@Nat.lt_of_lt_of_le
abbrev YT:=@List.mem_singleton
abbrev YU:=@List.mem_append_right
abbrev YV:=@List.map_append
abbrev YW:=@List.mem_of_getElem?
abbrev YX:=@PySem.Heap.get?_push_size
abbrev YY:=@Int.toNat_of_nonneg
abbrev YZ:=@List.mem_cons_of_mem
abbrev Ya:=@Bool.false_ne_true
abbrev Yc:=@List.mem_range
abbrev Yd:=@List.mem_map
abbrev Ye:=@List.mem_cons_self
abbrev Yf:=@List.mem_cons
abbrev Yg:=@List.map_congr_left
abbrev Yh:=@Nat.lt_irrefl
abbrev Yi:=@List.length_drop
abbrev Yj:=@Int.zero_add
abbrev Yk:=@Int.natCast_emod
abbrev Yl:=@List.length_replicate
abbrev Ym:=@Int.pow_succ
abbrev Yn:=@List.size_toArray
abbrev Yo:=@List.length_range
abbrev Yp:=@Nat.ne_of_lt
abbrev Yq:=@Int.pow_zero
abbrev Yr:=@Int.emod_eq_of_lt
abbrev Ys:=@List.length_take
abbrev Yt:=@List.append_nil
abbrev Yu:=@List.append_assoc
abbrev Yv:=@List.not_mem_nil
abbrev Yw:=@List.getElem?_append_right
abbrev Yx:=@List.mem_filter
abbrev Yy:=@Nat.le_trans
abbrev Yz:=@Nat.mod_lt
abbrev Y0:=@List.mem_of_mem_drop
abbrev Y1:=@PyProof.Rows.callWith_type1
abbrev Y2:=@List.mem_iff_getElem?
abbrev Y3:=@Option.map_eq_some_iff
abbrev Y4:=@List.range_succ
abbrev Y5:=@List.length_singleton
abbrev Y6:=@List.take_append_drop
abbrev Y7:=@PySem.boot_len
abbrev Y8:=@List.length_cons
abbrev Y9:=@PySem.mem_of_lookup
abbrev ZA:=@Array.toList_append
abbrev ZB:=@List.mem_of_mem_take
abbrev ZC:=@List.take_length
abbrev ZD:=@List.flatMap_cons
abbrev ZE:=@Int.natCast_mul
abbrev ZF:=@Int.natCast_add
abbrev ZG:=@List.drop_eq_getElem_cons
abbrev ZH:=@List.getElem?_append_left
abbrev ZI:=@List.take_of_length_le
abbrev ZJ:=@List.take_add_one
abbrev ZK:=@Nat.eq_of_beq_eq_true
abbrev ZL:=@Array.length_toList
abbrev ZM:=@List.getElem_mem
abbrev ZN:=@Nat.div_lt_of_lt_mul
abbrev ZO:=@Int.emod_lt_of_pos
abbrev ZP:=@List.filter_append
abbrev ZQ:=@Nat.le_of_lt
abbrev ZR:=@PySem.W.kia_one
abbrev ZS:=@List.length_set
abbrev ZT:=@Nat.zero_le
abbrev ZU:=@Int.emod_nonneg
abbrev ZV:=@List.map_cons
abbrev ZW:=@Int.one_mul
abbrev ZX:=@Int.le_of_lt
abbrev ZY:=@Int.zero_mul
abbrev ZZ:=@List.nodup_cons
abbrev Za:=@Nat.mod_eq_of_lt
abbrev Zc:=@Int.add_zero
abbrev Zd:=@List.map_map
abbrev Ze:=@List.nodup_append
abbrev Zf:=@List.length_filter_le
abbrev Zg:=@PySem.Heap.size_push
abbrev Zh:=@Int.mul_comm
abbrev Zi:=@Bool.and_eq_true
abbrev Zj:=@List.replicate_succ
abbrev Zk:=@Nat.lt_succ_of_lt
abbrev Zl:=@PySem.Heap.get?_update_ne
abbrev Zm:=@Nat.mul_comm
abbrev Zn:=@Nat.sub_self
abbrev Zo:=@Int.mul_le_mul_of_nonneg_left
abbrev Zp:=@Int.le_refl
abbrev Zq:=@Int.natCast_ediv
abbrev Zr:=@Nat.add_sub_cancel_left
abbrev Zs:=@PyProof.Rows.boot_tuple
abbrev Zt:=@List.drop_zero
abbrev Zu:=@Nat.mul_le_mul
abbrev Zv:=@List.length_reverse
abbrev Zw:=@List.flatMap_append
abbrev Zx:=@Int.natCast_pow
abbrev Zy:=@Int.add_mul_emod_self_left
abbrev Zz:=@Nat.lt_succ_self
abbrev Z0:=@Nat.lt_of_le_of_lt
abbrev Z1:=@Nat.add_sub_cancel
abbrev Z3:=@List.mem_append_left
abbrev Z4:=@Option.isSome_iff_exists
abbrev Z5:=@List.getElem?_replicate
abbrev Z6:=@Nat.le_succ
abbrev Z7:=@Nat.add_assoc
abbrev Z8:=@List.cons_append
abbrev Z9:=@List.lookup_cons
abbrev aB:=@List.drop_take
abbrev aC:=@Int.ediv_eq_zero_of_lt
abbrev aD:=@Nat.lt_of_le_of_ne
abbrev aE:=@PySem.F.slot_dict_setdefault
abbrev aG:=@Nat.add_right_comm
abbrev aH:=@Nat.ne_of_gt
abbrev aI:=@Int.mul_one
abbrev aJ:=@List.of_mem_zip
abbrev aK:=@Nat.sub_zero
abbrev aL:=@Nat.min_eq_left
abbrev aN:=@Nat.not_lt_zero
abbrev aO:=@Int.add_mul_emod_self_right
abbrev aP:=@Nat.div_add_mod
abbrev aQ:=@List.flatten_cons
abbrev aR:=@Nat.mul_add_mod_self_right
abbrev aS:=@Nat.mul_le_mul_right
abbrev aU:=@Array.getElem?_eq_getElem
abbrev aV:=@List.findIdx?_eq_none_iff
abbrev aW:=@List.take_succ
abbrev aY:=@Int.mul_le_mul
abbrev aZ:=@List.nodup_nil
abbrev aa:=@List.drop_drop
abbrev ae:=@List.mem_or_eq_of_mem_set
abbrev af:=@List.getElem_inj
abbrev ag:=@List.all_eq_true
abbrev ai:=@List.flatMap_nil
abbrev aj:=@PySem.W.hideAll_get
abbrev ak:=@List.getElem?_range
abbrev am:=@Nat.add_comm
abbrev ao:=@Int.add_comm
abbrev ap:=@List.mem_filterMap
abbrev aq:=@Bool.eq_iff_iff
abbrev au:=@List.nil_append
abbrev av:=@Nat.mul_div_cancel
abbrev aw:=@List.length_nil
abbrev ax:=@List.length_eq_zero_iff
abbrev ay:=@PySem.F.plainAttrs_list
abbrev az:=@List.getElem?_set_self
abbrev a7:=@PySem.W.cellsFrom_some
abbrev a9:=@PySem.Heap.get?_update_other
abbrev bA:=@PySem.W.kitx_list
abbrev bB:=@PySem.W.kitx_dict
abbrev bC:=@Int.mul_nonneg
abbrev bD:=@PySem.Heap.get?_update_self
abbrev bE:=@List.getElem?_eq_none
abbrev bF:=@List.getElem?_reverse
abbrev bG:=@Int.le_trans
abbrev bH:=@Nat.add_zero
abbrev bI:=@PyProof.Rows.boot_int
abbrev bJ:=@Nat.le_of_not_lt
abbrev bK:=@List.flatMap_map
abbrev bL:=@List.mem_flatMap
abbrev bM:=@List.getElem?_set_ne
abbrev bN:=@PySem.W.looks_findIn
abbrev bO:=@Array.toList_reverse
abbrev bP:=@Int.add_assoc
abbrev bQ:=@List.sum_append
abbrev bR:=@Nat.add_mod
abbrev bS:=@Int.natCast_sub
abbrev bT:=@List.map_nil
abbrev bU:=@Int.mul_zero
abbrev bV:=@Nat.zero_add
abbrev bW:=@Nat.le_of_eq
namespace L2
open PySem PySem.Spec PyProof.Rows
abbrev B6:=Sum Int Str
noncomputable def JK:B6->Value->Bool
 |.inl k,v=>Value.isInt k v
 |.inr x,v=>Value.isStrOf x v
noncomputable def XF(w:World):B6->Int
 |.inl k=>hashInt k
 |.inr x=>hashStr w x
theorem BY:∀{k:B6} {v:Value},JK k v=true->(∃i t,k=Sum.inl i/\v=Value.int i t)\/(∃x t,k=Sum.inr x/\v=Value.str x t)
 |.inl i,v,h=>by obtain⟨t,e⟩:=Value.isInt_shape (k:=i) (v:=v) h;exact .inl ⟨i,t,rfl,e⟩
 |.inr x,v,h=>by obtain⟨t,e⟩:=Value.isStrOf_shape (x:=x) (v:=v) h;exact .inr ⟨x,t,rfl,e⟩
theorem OB(i:Int)(t:Tok):JK (.inl i) (.int i t)=true:=by simp[JK,Value.isInt]
theorem OC(x:Str)(t:Tok):JK (.inr x) (.str x t)=true:=by simp[JK,Value.isStrOf]
theorem TU(a b:Int):decide ((Sum.inl a:B6)=Sum.inl b)=(a==b):=by
 by_cases e:a=b
 ·subst e;simp
 ·have h:¬(Sum.inl a:B6)=Sum.inl b:=λq=>e (Sum.inl.inj q)
  rw[qI h];exact (beq_eq_false_iff_ne.mpr e).symm
theorem TV(a b:Str):decide ((Sum.inr a:B6)=Sum.inr b)=decide (a=b):=by
 by_cases e:a=b
 ·subst e;simp
 ·have h:¬(Sum.inr a:B6)=Sum.inr b:=λq=>e (Sum.inr.inj q)
  rw[qI h,qI e]
theorem TW(a:Int)(b:Str):decide ((Sum.inl a:B6)=Sum.inr b)=false:=qI (λq=>nomatch q)
theorem TY(a:Str)(b:Int):decide ((Sum.inr a:B6)=Sum.inl b)=false:=qI (λq=>nomatch q)
noncomputable def Bq(prog:Program)(w:World):PySem.KeyKind prog w B6 where
 is:=JK
 hash:=XF w
 inj:=λv a b ha hb=>by
  rcases BY ha with⟨i,t,rfl,rfl⟩|⟨x,t,rfl,rfl⟩
  ·rcases BY hb with⟨j,u,rfl,e⟩|⟨y,u,rfl,e⟩
   ·injection e with e1 _;rw[e1]
   ·exact nomatch e
  ·rcases BY hb with⟨j,u,rfl,e⟩|⟨y,u,rfl,e⟩
   ·exact nomatch e
   ·injection e with e1 _;rw[e1]
 byValue:=λk v h=>by rcases BY h with⟨i,t,rfl,rfl⟩|⟨x,t,rfl,rfl⟩<;>rfl
 pyHash:=λhv h=>by
  rcases BY hv with⟨i,t,rfl,rfl⟩|⟨x,t,rfl,rfl⟩
  ·exact wpAny_pyHash_int h
  ·exact wpAny_pyHash_str h
 eqBool:=λhu hv h=>by
  rcases BY hu with⟨i,t,rfl,rfl⟩|⟨x,t,rfl,rfl⟩
  ·rcases BY hv with⟨j,u,rfl,rfl⟩|⟨y,u,rfl,rfl⟩
   ·rw[TU]at h;exact wpAny_eqBool_int h
   ·rw[TW]at h;exact SeqAt.EqAt.int_str i t y u _ _ _ _ h
  ·rcases BY hv with⟨j,u,rfl,rfl⟩|⟨y,u,rfl,rfl⟩
   ·rw[TY]at h;exact SeqAt.EqAt.str_int x t j u _ _ _ _ h
   ·rw[TV]at h;exact wpAny_eqBool_str h
 «strs»:=λk x t v h=>by
  rcases BY h with⟨i,u,rfl,e⟩|⟨y,u,rfl,e⟩
  ·exact nomatch e
  ·injection e with e1 _
   subst e1;cases v<;>rfl
theorem Kk(prog:Program)(w:World)(i:Int)(t:Tok):(Bq prog w).is (.inl i) (.int i t)=true:=OB i t
theorem Kl(prog:Program)(w:World)(x:Str)(t:Tok):(Bq prog w).is (.inr x) (.str x t)=true:=OC x t
inductive V where
 |non|bl (b:Bool)|int (i:Int)|str (x:Str)|byt (b:Array UInt8)|flt (b:UInt64)|ref (a:Addr)|ty (n:String)
 deriving DecidableEq
def A8:V->Value->Prop
 |.non,u=>u=Value.none
 |.bl b,u=>u=Value.bool b
 |.int i,u=>∃t,u=Value.int i t
 |.str x,u=>∃t,u=Value.str x t
 |.byt b,u=>∃t,u=Value.bytes b t
 |.flt b,u=>∃t,u=Value.float b t
 |.ref a,u=>u=Value.ref a
 |.ty n,u=>u=Value.type n
abbrev Ax:List V->List Value->Prop:=Paired A8
variable{xs:List V}{us:List Value}
theorem Ax.length(r:Ax xs us):xs.length=us.length:=Paired.length r
theorem Ax.get:∀{xs:List V} {us:List Value} {i:Nat} {x:V},Ax xs us->xs[i]?=some x->∃u,us[i]?=some u/\A8 x u
 |_,_,_,_,.nil,e=>by simp at e
 |_,_,0,_,.cons r _,e=>by simp at e;subst e;exact⟨_,rfl,r⟩
 |_,_,i+1,x,.cons _ t,e=>by obtain⟨u,h1,h2⟩:=Ax.get (i:=i) (x:=x) t (by simpa using e);exact⟨u,by simpa using h1,h2⟩
variable{u:Value}
theorem Ax.set{x:V}(r:A8 x u):∀{xs:List V} {us:List Value} (i:Nat),Ax xs us->Ax (xs.set i x) (us.set i u)
 |_,_,_,.nil=>.nil
 |_,_,0,.cons _ t=>.cons r t
 |_,_,i+1,.cons q t=>.cons q (Ax.set r i t)
theorem Ax.append:∀{xs ys:List V} {us ws:List Value},Ax xs us->Ax ys ws->Ax (xs++ys) (us++ws)
 |_,_,_,_,.nil,s=>s
 |_,_,_,_,.cons r t,s=>.cons r (Ax.append t s)
theorem Ax.take:∀{xs:List V} {us:List Value} (n:Nat),Ax xs us->Ax (xs.take n) (us.take n)
 |_,_,0,_=>.nil
 |_,_,_+1,.nil=>.nil
 |_,_,n+1,.cons r t=>.cons r (Ax.take n t)
theorem Ax.drop:∀{xs:List V} {us:List Value} (n:Nat),Ax xs us->Ax (xs.drop n) (us.drop n)
 |_,_,0,r=>r
 |_,_,_+1,.nil=>.nil
 |_,_,n+1,.cons _ t=>Ax.drop n t
noncomputable def Jt:Option V->Option Value->Prop
 |some v,some u=>A8 v u
 |none,none=>True
 |_,_=>False
def KV{κ:Type}:List (κ×V)->List (κ×Value)->Prop:=Paired λ(p:κ×V) (q:κ×Value)=>p.1=q.1/\A8 p.2 q.2
def kV:B6->V
 |.inl i=>.int i
 |.inr x=>.str x
inductive HO where
 |lst (xs:List V)
 |tup (xs:List V)
 |dK (kvs:List (B6×V))|dT (kvs:List (List B6×V))
 |set (S:Int->Bool) (n:Nat)
 |ins (C dx:Addr) (fs:List (Str×V))
 |own (x:Addr)
 |xd (fs:List (Str×V))
 |met (f x:Addr)
 |rng (lo hi:Int)
 |frz (o:Obj) (u:HO)
 |tbl (ps:Array Value)
 |ext (φ:Heap->Prop)
abbrev Hp:=Addr->Option HO
noncomputable def Ac(H:Hp)(a:Addr)(o:HO):Hp:=λb=>if b=a then some o else H b
variable{H:Hp}{a:Addr}{o:HO}
theorem AE:Ac H a o a=some o:=by unfold Ac;rw[qF rfl]
theorem AN{b:Addr}(h:b≠a):Ac H a o b=H b:=by unfold Ac;rw[qE h]
theorem Ef{u:HO}:Ac (Ac H a o) a u=Ac H a u:=by
 funext b;unfold Ac;split<;>rfl
theorem Eu{b:Addr}{u:HO}(h:H a=some o)(h':H b=some u)(d:o≠u):a≠b:=by intro e;subst e;rw[h]at h';exact d (Option.some.inj h')
theorem BI{b:Addr}(h:H a=some o)(h':H b=none):a≠b:=by intro e;subst e;rw[h]at h';cases h'
section
variable(P:Program)(w:World)
noncomputable def Ay(H:Hp)(h:Heap)(a:Addr):HO->Prop
 |.lst xs=>xs.length<=sizeLine/\∃(its:List Value) (n:Nat),Ax xs its/\h.get? a=some {cls:=.type "list",data:=.seq its.toArray n}
 |.tup xs=>xs.length<=sizeLine/\∃its:List Value,Ax xs its/\IsTup h a its.toArray
 |.dK kvs=>kvs.length<=sizeLine/\(a==sysModules)=false/\∃vs,KV kvs vs/\h.DictOf (Bq P w) a vs
 |.dT kvs=>kvs.length<=sizeLine/\(a==sysModules)=false/\∃xs:List (List B6×Addr×Value),
   Paired (λ(p:List B6×V) (q:List B6×Addr×Value)=>p.1=q.1/\H q.2.1=some (.tup (p.1.map kV))/\A8 p.2 q.2.2) kvs xs /\
   ∃o es ep,h.get? a=some o/\o.ExactDict/\o.data=.dict es ep/\es.toList=xs.map (entryOfKey (tupleKind (Bq P w)))/\(xs.map (·.1)).Nodup
 |.set S n=>h.SetOf (intKind P w) a S n
 |.ins C dx fs=>H dx=some (.own a)/\fs.length<=1000/\dx≠a/\h.get? a=some (PySem.W.instObj C dx) /\
   ∃mA,h.Ns1 dx mA/\(∀f,Jt (fs.lookup f) (mA f))/\PySem.Within mA (fs.map (·.1))
 |.own _=>∃o,h.get? a=some o
 |.xd fs=>∃mA,h.Ns1 a mA/\∀f,Jt (fs.lookup f) (mA f)
 |.rng lo hi=>∃t u v,h.get? a=some {cls:=.type "range",data:=.fields #[.int lo t,.int hi u,.int 1 v]}
 |.frz o u=>h.get? a=some o/\Ay H h a u
 |.tbl ps=>h.get? a=some {cls:=.none,data:=.fields ps}
 |.met f x=>h.get? a=some (PySem.W.methodObj (.ref f) (.ref x))
 |.ext φ=>φ h/\(∃o,h.get? a=some o)/\∀h1 h2:Heap,φ h1->(∀o,h1.get? a=some o->h2.get? a=some o)->φ h2
def D9(H:Hp)(h:Heap):Prop:=∀a o,H a=some o->Ay P w H h a o
end
variable{α β:Type}
section
variable{P:Program}{w:World}{H':Hp}{h h':Heap}
theorem Ay.lt(x:Ay P w H h a o):a<h.objs.size:=by
 cases o with
 |lst xs=>obtain⟨_,_,_,_,e⟩:=x;exact YQ e
 |tup xs=>obtain⟨_,_,_,p⟩:=x;exact p.lt
 |dK kvs=>obtain⟨_,_,_,_,o,_,_,e,_⟩:=x;exact YQ e
 |dT kvs=>obtain⟨_,_,_,_,o,_,_,e,_⟩:=x;exact YQ e
 |set S n=>obtain⟨o,_,_,_,e,_⟩:=x;exact YQ e
 |ins C dx fs=>obtain⟨_,_,_,e,_⟩:=x;exact YQ e
 |own y=>obtain⟨_,e⟩:=x;exact YQ e
 |xd fs=>obtain⟨_,⟨_,_,_,e,_⟩,_⟩:=x;exact YQ e
 |rng lo hi=>obtain⟨_,_,_,e⟩:=x;exact YQ e
 |frz ob u=>obtain⟨e,_⟩:=x;exact YQ e
 |tbl ps=>exact YQ (show h.get? a=some _ from x)
 |met f y=>exact YQ (show h.get? a=some _ from x)
 |ext φ=>obtain⟨_,⟨_,e⟩,_⟩:=x;exact YQ e
theorem Paired.mapP{F G:α->β->Prop}:∀{l₁:List α} {l₂:List β},Paired F l₁ l₂->(∀a b,F a b->G a b)->Paired G l₁ l₂
 |_,_,.nil,_=>.nil
 |_,_,.cons r t,f=>.cons (f _ _ r) (Paired.mapP t f)
theorem Ay.stay(x:Ay P w H h a o)(k:∀b u,(b=a\/H b=some (.own a))->h.get? b=some u->h'.get? b=some u)
  (ho:∀b,H b=some (.own a)->H' b=some (.own a)) (ht:∀b xs,H b=some (.tup xs)->H' b=some (.tup xs)):Ay P w H' h' a o:=by
 induction o with
 |lst xs=>obtain⟨z,its,n,r,e⟩:=x;exact⟨z,its,n,r,k _ _ (.inl rfl) e⟩
 |tup xs=>obtain⟨z,its,r,ob,e,c⟩:=x;exact⟨z,its,r,ob,k _ _ (.inl rfl) e,c⟩
 |dK kvs=>obtain⟨z,y,vs,r,ob,es,ep,e,c⟩:=x;exact⟨z,y,vs,r,ob,es,ep,k _ _ (.inl rfl) e,c⟩
 |dT kvs =>
  obtain⟨z,y,xs,r,ob,es,ep,e,c⟩:=x;exact⟨z,y,xs,Paired.mapP r λp q z=>⟨z.1,ht _ _ z.2.1,z.2.2⟩,ob,es,ep,k _ _ (.inl rfl) e,c⟩
 |set S n=>obtain⟨ob,es,ep,t,e,c⟩:=x;exact⟨ob,es,ep,t,k _ _ (.inl rfl) e,c⟩
 |ins C dx fs =>
  obtain⟨d,z,ne,e,mA,⟨od,es,ep,e2,c⟩,r⟩:=x;exact⟨ho _ d,z,ne,k _ _ (.inl rfl) e,mA,⟨od,es,ep,k _ _ (.inr d) e2,c⟩,r⟩
 |own y=>obtain⟨ob,e⟩:=x;exact⟨ob,k _ _ (.inl rfl) e⟩
 |xd fs=>obtain⟨mA,⟨od,es,ep,e,c⟩,r⟩:=x;exact⟨mA,⟨od,es,ep,k _ _ (.inl rfl) e,c⟩,r⟩
 |rng lo hi=>obtain⟨t,u,v,e⟩:=x;exact⟨t,u,v,k _ _ (.inl rfl) e⟩
 |frz ob u ih=>obtain⟨e,q⟩:=x;exact⟨k _ _ (.inl rfl) e,ih q⟩
 |tbl ps =>
  have e:h.get? a=some {cls:=.none,data:=.fields ps}:=x;show h'.get? a=some {cls:=.none,data:=.fields ps};exact k a _ (.inl rfl) e
 |met f y =>
  have e:h.get? a=some (PySem.W.methodObj (.ref f) (.ref y)):=x;show h'.get? a=some (PySem.W.methodObj (.ref f) (.ref y));exact k a _ (.inl rfl) e
 |ext φ=>obtain⟨p,⟨o,e⟩,st⟩:=x;exact⟨st _ _ p λo q=>k _ _ (.inl rfl) q,⟨o,k _ _ (.inl rfl) e⟩,st⟩
theorem D9.lt(x:D9 P w H h)(e:H a=some o):a<h.objs.size:=(x a o e).lt
theorem D9.fresh(x:D9 P w H h)(e:h.objs.size<=a):H a=none:=by
 cases q:H a with
 |none=>rfl
 |some u=>exact qG (YS (x.lt q) e) (Yh _)
theorem D9.kept(x:D9 P w H h)(k:∀b u,h.get? b=some u->h'.get? b=some u):D9 P w H h':=λa o e =>
 (x a o e).stay (λb u _ q=>k b u q) (λ_ q=>q) λ_ _ q=>q
theorem D9.laid(x:D9 P w H h)(k:∀b u,h.get? b=some u->h'.get? b=some u)(hp:h.objs.size<=a)(new:Ay P w (Ac H a o) h' a o):D9 P w (Ac H a o) h':=λb u e=>by
 have hn:=x.fresh hp
 by_cases hb:b=a
 ·subst hb;rw[AE]at e;cases e;exact new
 ·rw[AN hb]at e;exact (x b u e).stay (λc v _ q=>k c v q) (λc q=>by rw[AN (BI q hn)];exact q) λc xs q=>by rw[AN (BI q hn)];exact q
end
def Rd(H:Hp)(a:Addr)(u:HO):Prop:=H a=some u\/∃o,H a=some (.frz o u)
theorem Rd.ok{P:Program}{w:World}{h:Heap}{u:HO}(r:Rd H a u)(x:D9 P w H h):Ay P w H h a u:=by
 rcases r with r|⟨o,r⟩
 ·exact x a u r
 ·obtain⟨_,q⟩:=x a _ r;exact q
noncomputable def VM:Option HO->Prop
 |some (.lst _)=>True
 |some (.dK _)=>True
 |some (.dT _)=>True
 |some (.set _ _)=>True
 |some (.ins _ _ _)=>True
 |some (.ext _)=>True
 |_=>False
section
variable{P:Program}{w:World}{h h':Heap}{x e:Addr}{o':HO}
theorem D9.write(ok:D9 P w H h)(mu:VM (H x))(he:e=x\/H e=some (.own x))(k:∀b u,b≠e->h.get? b=some u->h'.get? b=some u)(heo:∃u,h'.get? e=some u)
  (new:Ay P w (Ac H x o') h' x o'):D9 P w (Ac H x o') h':=λb u q=>by
 have nown:∀c y,H c=some (.own y)->c≠x:=λc y r z=>by subst z;rw[r]at mu;exact mu
 have ntup:∀c xs,H c=some (.tup xs)->c≠x:=λc xs r z=>by subst z;rw[r]at mu;exact mu
 by_cases hb:b=x
 ·subst hb;rw[AE]at q;cases q;exact new
 ·rw[AN hb]at q
  by_cases hbe:b=e
  ·have q':H b=some (.own x):=by
    rcases he with z|z
    ·exact qG (hbe.trans z) hb
    ·rw[hbe];exact z
   rw[q]at q';cases q';obtain⟨v,hv⟩:=heo;exact⟨v,by rw[hbe];exact hv⟩
  ·refine (ok b u q).stay (λc v hc r=>k c v ?_ r) (λc r=>by rw[AN (nown c b r)];exact r) λc xs r=>by rw[AN (ntup c xs r)];exact r
   rcases hc with rfl|hc
   ·exact hbe
   ·rintro rfl;rcases he with z|z
    ·exact nown c b hc z
    ·rw[hc]at z;cases z;exact hb rfl
end
structure Un(fs ex:List Addr)(H H':Hp)(h h':Heap):Prop where
 keep:∀b o,h.get? b=some o->H b=none->b∉fs->b∉ex->h'.get? b=some o
 slot:∀b o,h.get? b=some o->H b=none->b∈fs->b∉ex->∃sl,h'.get? b=some {o with slots:=sl}
 free:∀b o,h.get? b=some o->H b=none->b∉ex->H' b=none
 there:∀b o,h.get? b=some o->b∉ex->∃o',h'.get? b=some o'
 tups:∀b xs,H b=some (.tup xs)->H' b=some (.tup xs)
 frzs:∀b o u,H b=some (.frz o u)->H' b=some (.frz o u)
 tbls:∀b ps,H b=some (.tbl ps)->∃more,H' b=some (.tbl (ps++more))
section
variable{fs fs' ex ex':List Addr}{H1 H2:Hp}{h h1 h2 h':Heap}{x e:Addr}
theorem Un.any(u:Un fs ex H H1 h h1){b:Addr}{ob:Obj}(q:h.get? b=some ob)(n:H b=none)(hx:b∉ex):∃sl,h1.get? b=some {ob with slots:=sl}:=by
 by_cases hb:b∈fs
 ·exact u.slot b ob q n hb hx
 ·exact⟨ob.slots,u.keep b ob q n hb hx⟩
theorem Un.kept(k:∀b u,h.get? b=some u->h'.get? b=some u):Un fs ex H H h h':=
 ⟨λb ob q _ _ _=>k b ob q,λb ob q _ _ _=>⟨ob.slots,k b ob q⟩,λ_ _ _ n _=>n,λb ob q _=>⟨ob,k b ob q⟩,λ_ _ q=>q,λ_ _ _ q=>q,λ_ ps q=>⟨#[],by rw[q];simp⟩⟩
theorem Un.refl:Un fs ex H H h h:=Un.kept λ_ _ q=>q
theorem Un.laid(k:∀b u,h.get? b=some u->h'.get? b=some u)(hp:h.objs.size<=a)(hn:H a=none):Un fs ex H (Ac H a o) h h' where
 keep:=λb u q _ _ _=>k b u q
 slot:=λb u q _ _ _=>⟨u.slots,k b u q⟩
 free:=λb u q n _=>by rw[AN (Yp (YS (YQ q) hp))];exact n
 there:=λb u q _=>⟨u,k b u q⟩
 tups:=λb xs q=>by rw[AN (BI q hn)];exact q
 frzs:=λb u xs q=>by rw[AN (BI q hn)];exact q
 tbls:=λb ps q=>⟨#[],by rw[AN (BI q hn),q];simp⟩
theorem Un.write(mu:VM (H x))(he:e=x\/H e=some (.own x))(k:∀b u,b≠e->h.get? b=some u->h'.get? b=some u)(heo:∃u,h'.get? e=some u):Un fs ex H (Ac H x o) h h':=by
 have hx:∀b,H b=none->b≠x:=λb n z=>by subst z;rw[n]at mu;exact mu
 have hb:∀b,H b=none->b≠e:=λb n z=>by
  subst z;rcases he with r|r
  ·exact hx b n r
  ·rw[n]at r;cases r
 have hm:∀b u,H b=some u->¬VM (some u)->b≠x:=λb u q nm z=>by subst z;rw[q]at mu;exact nm mu
 refine⟨λb u q n _ _=>k b u (hb b n) q,λb u q n _ _=>⟨u.slots,k b u (hb b n) q⟩,λb u q n _=>by rw[AN (hx b n)];exact n,λb u q _=>?_,
  λb xs q=>by rw[AN (hm b _ q λz=>z)];exact q,λb u xs q=>by rw[AN (hm b _ q λz=>z)];exact q,λb ps q=>⟨#[],by rw[AN (hm b _ q λz=>z),q];simp⟩⟩
 by_cases hbe:b=e
 ·subst hbe;exact heo
 ·exact⟨u,k b u hbe q⟩
end
noncomputable def trk(h:Heap)(H:Hp):List Addr:=(List.range h.objs.size).filter λa=>(H a).isSome
noncomputable def JA(h:Heap)(H:Hp):Heap:=PySem.W.hideAll h (trk h H)
theorem OD(h:Heap)(H:Hp):(JA h H).objs.size=h.objs.size:=PySem.W.hideAll_size _ _
theorem O0{h:Heap}{b:Addr}{o:Obj}(e:h.get? b=some o)(n:H b=none):(JA h H).get? b=some o:=
 aj _ e λhm=>by have q:(H b).isSome=true:=(Yx.mp hm).2;rw[n]at q;simp at q
theorem Q9{h:Heap}{b:Addr}{o:Obj}(e:(JA h H).get? b=some o):h.get? b=some o/\H b=none:=by
 have e':h.get? b=some o:=PySem.W.of_hideAll (trk h H) e;refine⟨e',?_⟩;cases q:H b with
 |none=>rfl
 |some x =>
  have hm:b∈trk h H:=List.mem_filter.mpr ⟨List.mem_range.mpr (Heap.lt_size e'),by simp[q]⟩;have z:(JA h H).get? b=none:=PySem.W.hideAll_none (trk h H) hm;rw[z]at e;cases e
structure W9(K:qJ)(mg:Str->Option Value)(base:Heap):Prop where
 kin:K.In base
 glob:base.Ns mainGlobals mg
 blt:∃mb,base.Ns builtinsNs mb/\∀x:Str,x≠"__name__"->mb x=bootBuiltins x
 nolimit:base.NoLimit
structure Cx where
 prog:Program
 w:World
 K:qJ
 mg:Str->Option Value
 base:Heap
 A:Around
 N:List Str
 s₀:Shared
 H₀:Hp
 env:Env
 outer:List Env
 stack:List Env
 ex:List Addr
 fn:Str->Bool
 calm:Bool
 pn:List (Addr×Obj)
 xe:Value->Shared->Prop
def D4(l:List Env):List Addr:=l.filterMap (·.frame)
abbrev Cx.fs(X:Cx):List Addr:=D4 X.outer
def XG(sc:Scope)(x:Str):Prop:=sc.names.lookup x=some .local\/sc.names.lookup x=some .cell\/sc.names.lookup x=some .free
def SU(sc:Scope)(x:Str):Prop:=sc.names.lookup x=some .local\/sc.names.lookup x=some .cell
def XH(env:Env)(h:Heap)(m:Str->Option Value)(x:Str)(u:Value):Prop:=
 (env.kindOf x=some .local/\m x=some u)\/((env.kindOf x=some .cell\/env.kindOf x=some .free)/\∃c,env.cells.lookup x=some c/\h.IsCell c (some u))
structure Cx.Ok(X:Cx):Prop where
 mod:W9 X.K X.mg X.base
 kind:X.env.scope.kind=.function
 glob:X.env.globals=mainGlobals
 blt:X.env.builtins=builtinsNs
 above:X.s₀.heap.objs.size<=X.env.locals
 inj:∀x y c,X.env.cells.lookup x=some c->X.env.cells.lookup y=some c->x=y
 has:∀x,(X.env.kindOf x=some .cell\/X.env.kindOf x=some .free)->∃c,X.env.cells.lookup x=some c
 cab:∀x c,X.fn x=true->X.env.cells.lookup x=some c->X.s₀.heap.objs.size<=c
 hd:X.calm=true->X.A.handled=none
 frames:X.A.frames=some X.stack
 stk:X.stack=X.outer\/(X.stack=X.env::X.outer/\X.env.frame=some X.env.locals)
 exf:∀b∈X.ex,b≠X.env.locals/\∀x c,X.env.cells.lookup x=some c->c≠b
 bs:∀b o,X.base.get? b=some o->X.s₀.heap.get? b=some o/\X.H₀ b=none
 bsz:X.base.objs.size<=X.s₀.heap.objs.size
 noex:∀b o,X.base.get? b=some o->b∉X.ex
 exfs:∀b∈X.ex,b∉X.fs
 funs:X.s₀.heap.FunFrames X.base X.outer
 frf:∀b∈X.fs,X.H₀ b=none
structure AT(X:Cx)(ad:List (Addr×Obj))(σ:List (Option V))(H:Hp)(s:Shared):Prop where
 ok:X.Ok
 os:s.os=X.s₀.os
 bare:AllBare s.gens
 base:Un X.fs X.ex X.H₀ H X.s₀.heap s.heap
 loc:∃m,s.heap.Ns X.env.locals m/\∀(i:Nat) (x:Str) (v:V),X.N[i]?=some x->σ[i]?=some (some v)->XG X.env.scope x->∃u,A8 v u/\XH X.env s.heap m x u
 cell:∀x c,X.env.cells.lookup x=some c->∃v,s.heap.IsCell c v
 free:H X.env.locals=none
 freeC:∀x c,X.env.cells.lookup x=some c->H c=none
 pin:∀p∈X.pn++ad,s.heap.get? p.1=some p.2/\H p.1=none/\p.1≠X.env.locals/\p.1∉X.fs/\∀v,p.2.data≠.cell v
 hok:D9 X.prog X.w H s.heap
 len:σ.length=X.N.length
variable{t' i j:Nat}{it:Addr}{s':Shared}
section
variable{X:Cx}{ad:List (Addr×Obj)}{σ:List (Option V)}{H':Hp}{s:Shared}{h':Heap}
theorem Cx.Ok.nofr(ok:X.Ok){b:Addr}{o:Obj}(e:X.base.get? b=some o):b∉X.fs:=λhb=>by have:=(ok.funs.mem hb).1;rw[e]at this;cases this
theorem AT.bs(I:AT X ad σ H s):∀b o,X.base.get? b=some o->s.heap.get? b=some o/\H b=none:=λb o e =>
 ⟨I.base.keep b o (I.ok.bs b o e).1 (I.ok.bs b o e).2 (I.ok.nofr e) (I.ok.noex b o e),I.base.free b o (I.ok.bs b o e).1 (I.ok.bs b o e).2 (I.ok.noex b o e)⟩
theorem AT.bk(I:AT X ad σ H s):∀b o,X.base.get? b=some o->s.heap.get? b=some o:=λb o e=>(I.bs b o e).1
theorem AT.mod(I:AT X ad σ H s):W9 X.K X.mg X.base:=I.ok.mod
theorem AT.kIn(I:AT X ad σ H s):X.K.In s.heap:=I.ok.mod.kin.keeps I.bk
theorem AT.lt(I:AT X ad σ H s):X.env.locals<s.heap.objs.size:=let ⟨_,hn,_⟩:=I.loc;hn.lt
theorem AT.sz(I:AT X ad σ H s):X.s₀.heap.objs.size<=s.heap.objs.size:=Yy I.ok.above (ZQ I.lt)
theorem AT.nofs(I:AT X ad σ H s)(h:s.heap.objs.size<=a):a∉X.fs:=λhb=>by obtain⟨_,o,ho,_⟩:=I.ok.funs.mem hb;exact qG (YS (YQ ho) (Yy I.sz h)) (Yh _)
theorem AT.cne(I:AT X ad σ H s):∀x c,X.env.cells.lookup x=some c->c≠X.env.locals:=λx c e z=>by obtain⟨v,o,ho,hd⟩:=I.cell x c e;obtain⟨m,⟨o',es,ep,ho',hd',_⟩,_⟩:=I.loc;rw[z,ho']at ho;cases ho;rw[hd']at hd;cases hd
theorem AT.funs(I:AT X ad σ H s):s.heap.FunFrames X.base X.outer:=by
 have all:∀(l:List Env),(∀b∈D4 l,b∈X.fs)->X.s₀.heap.FunFrames X.base l->s.heap.FunFrames X.base l:=by
  intro l
  induction l with
  |nil=>intro _ _;trivial
  |cons env r ih =>
   intro hs hl;obtain⟨hk,⟨L,o,hf,hn,ho,hd⟩,hr⟩:=hl;have hL:L∈X.fs:=hs L (by unfold D4;rw[List.filterMap_cons,hf];exact List.mem_cons_self);obtain⟨sl,e⟩:=I.base.slot L o ho (I.ok.frf L hL) hL λz=>I.ok.exfs L z hL
   exact⟨hk,⟨L,_,hf,hn,e,hd⟩,ih (λb hb=>hs b (by unfold D4;rw[List.filterMap_cons,hf];exact List.mem_cons_of_mem _ hb)) hr⟩
 exact all X.outer (λ_ hb=>hb) I.ok.funs
theorem AT.stack(I:AT X ad σ H s):s.heap.FunFrames X.base X.stack:=by
 rcases I.ok.stk with e|⟨e,hf⟩
 ·rw[e];exact I.funs
 ·rw[e];obtain⟨m,hn,_⟩:=I.loc;refine .cons (by rw[I.ok.kind];decide) hf hn ?_ I.funs;exact Heap.get?_none_of_le (Yy I.ok.bsz I.ok.above)
theorem AT.stkSub(I:AT X ad σ H s):∀b∈D4 X.stack,b∈X.env.locals::X.fs:=λb hb=>by
 rcases I.ok.stk with e|⟨e,hf⟩
 ·rw[e]at hb;exact YZ _ hb
 ·rw[e]at hb;unfold D4 at hb;rw[List.filterMap_cons,hf]at hb;exact hb
theorem AT.stkFree(I:AT X ad σ H s):∀b∈D4 X.stack,H b=none:=λb hb=>by
 rcases Yf.mp (I.stkSub b hb) with e|hb
 ·rw[e];exact I.free
 ·obtain⟨_,o,ho,_⟩:=I.ok.funs.mem hb;exact I.base.free b o ho (I.ok.frf b hb) λz=>I.ok.exfs b z hb
theorem AT.step{g':Array GenState}{t':Nat}{d':Drawn}{ch:List Addr}(I:AT X ad σ H s)
  (hch:∀b∈ch,(b∈X.ex\/X.s₀.heap.objs.size<=b)/\b≠X.env.locals/\(∀x c,X.env.cells.lookup x=some c->c≠b)/\∀p∈X.pn++ad,p.1≠b)
  (keep:∀b o,b≠X.env.locals->b∉X.fs->b∉ch->s.heap.get? b=some o->H b=none->h'.get? b=some o)
  (slot:∀b o,b≠X.env.locals->b∈X.fs->b∉ch->s.heap.get? b=some o->H b=none->∃sl,h'.get? b=some {o with slots:=sl}) (free:∀b o,b∉ch->s.heap.get? b=some o->H b=none->H' b=none)
  (there:∀b o,b∉ch->s.heap.get? b=some o->∃o',h'.get? b=some o')
  (tups:∀b xs,H b=some (.tup xs)->H' b=some (.tup xs)) (frzs:∀b o u,H b=some (.frz o u)->H' b=some (.frz o u)) (tbls:∀b ps,H b=some (.tbl ps)->∃more,H' b=some (.tbl (ps++more)))
  (ns:∀m,s.heap.Ns X.env.locals m->h'.Ns X.env.locals m) (hok:D9 X.prog X.w H' h') (hg:AllBare g'):
  AT X ad σ H' {s with heap:=h',gens:=g',drawn:=d',toks:=t'}:=by
 have neL:∀b o,X.s₀.heap.get? b=some o->b≠X.env.locals:=λb o e=>Yp (YS (YQ e) I.ok.above)
 have neC:∀b o,X.s₀.heap.get? b=some o->b∉X.ex->b∉ch:=λb o e hx hb=>by
  rcases (hch b hb).1 with z|z
  ·exact hx z
  ·exact qG (YS (YQ e) z) (Yh _)
 have cellK:∀x c,X.env.cells.lookup x=some c->∀v,s.heap.IsCell c v->h'.IsCell c v:=λx c e v ⟨o,ho,hd⟩=>by
  have nch:c∉ch:=λz=>(hch c z).2.2.1 x c e rfl
  by_cases hc:c∈X.fs
  ·obtain⟨sl,q⟩:=slot c o (I.cne x c e) hc nch ho (I.freeC x c e);exact⟨_,q,hd⟩
  ·exact⟨o,keep c o (I.cne x c e) hc nch ho (I.freeC x c e),hd⟩
 refine⟨I.ok,I.os,hg,⟨λb o e n hb hx=>?_,λb o e n hb hx=>?_,λb o e n hx=>?_,λb o e hx=>?_,λb xs e=>tups b xs (I.base.tups b xs e),λb o xs e=>frzs b o xs (I.base.frzs b o xs e),λb ps e=>?_⟩,?_,λx c e=>?_,?_,λx c e=>?_,λp hp=>?_,hok,I.len⟩
 ·exact keep b o (neL b o e) hb (neC b o e hx) (I.base.keep b o e n hb hx) (I.base.free b o e n hx)
 ·obtain⟨sl,e1⟩:=I.base.slot b o e n hb hx;obtain⟨sl',e2⟩:=slot b _ (neL b o e) hb (neC b o e hx) e1 (I.base.free b o e n hx);exact⟨sl',e2⟩
 ·obtain⟨o',e1⟩:=I.base.there b o e hx;exact free b o' (neC b o e hx) e1 (I.base.free b o e n hx)
 ·obtain⟨o',e1⟩:=I.base.there b o e hx;exact there b o' (neC b o e hx) e1
 ·obtain⟨m1,e1⟩:=I.base.tbls b ps e;obtain⟨m2,e2⟩:=tbls b _ e1;exact⟨m1++m2,by rw[e2,Array.append_assoc]⟩
 ·obtain⟨m,hn,hl⟩:=I.loc;refine⟨m,ns m hn,λi x v e1 e2 e3=>?_⟩;obtain⟨u,r,l⟩:=hl i x v e1 e2 e3;refine⟨u,r,?_⟩;rcases l with l|⟨k,c,e,z⟩
  ·exact .inl l
  ·exact .inr ⟨k,c,e,cellK x c e _ z⟩
 ·obtain⟨v,z⟩:=I.cell x c e;exact⟨v,cellK x c e v z⟩
 ·obtain⟨m,⟨o,_,_,ho,_⟩,_⟩:=I.loc;exact free _ o (λz=>(hch _ z).2.1 rfl) ho I.free
 ·obtain⟨v,o,ho,hd⟩:=I.cell x c e;exact free c o (λz=>(hch c z).2.2.1 x c e rfl) ho (I.freeC x c e)
 ·obtain⟨e,n,ne,nf,d⟩:=I.pin p hp;have nch:p.1∉ch:=λz=>(hch p.1 z).2.2.2 p hp rfl
  exact⟨keep p.1 p.2 ne nf nch e n,free p.1 p.2 nch e n,ne,nf,d⟩
theorem AT.un(I:AT X ad σ H s)(u:Un X.fs [] H H' s.heap h')(hok:D9 X.prog X.w H' h'):AT X ad σ H' {s with heap:=h',toks:=t'}:=by
 obtain⟨m,⟨o,es,ep,ho,r⟩,_⟩:=id I.loc;obtain⟨sl,hL⟩:=u.any ho I.free (by simp)
 exact I.step (g':=s.gens) (d':=s.drawn) (ch:=[]) (λ_ z=>nomatch z) (λb o _ hb _ e n=>u.keep b o e n hb (by simp)) (λb o _ hb _ e n=>u.slot b o e n hb (by simp)) (λb o _ e n=>u.free b o e n (by simp)) (λb o _ e=>u.there b o e (by simp)) u.tups u.frzs u.tbls (λm' hm=>by obtain⟨o',es',ep',ho',r'⟩:=hm;rw[ho]at ho';cases ho';exact⟨_,es',ep',hL,r'⟩) hok I.bare
theorem AT.call{g':Array GenState}{d':Drawn}{ch:List Addr}(I:AT X ad σ H s)(u:Un (D4 X.stack) ch H H' s.heap h')(hok:D9 X.prog X.w H' h')(hg:AllBare g')
  (hch:∀b∈ch,(b∈X.ex\/X.s₀.heap.objs.size<=b)/\b≠X.env.locals/\(∀x c,X.env.cells.lookup x=some c->c≠b)/\∀p∈X.pn++ad,p.1≠b):
  AT X ad σ H' {s with heap:=h',gens:=g',drawn:=d',toks:=t'}:=by
 obtain⟨m,⟨o,es,ep,ho,r⟩,_⟩:=id I.loc;obtain⟨sl,hL⟩:=u.any ho I.free λz=>(hch _ z).2.1 rfl
 exact I.step (ch:=ch) hch (λb o hL hb hc e n=>u.keep b o e n (λz=>(Yf.mp (I.stkSub b z)).elim hL hb) hc) (λb o _ _ hc e n=>u.any e n hc) (λb o hc e n=>u.free b o e n hc) (λb o hc e=>u.there b o e hc) u.tups u.frzs u.tbls (λm' hm=>by obtain⟨o',es',ep',ho',r'⟩:=hm;rw[ho]at ho';cases ho';exact⟨_,es',ep',hL,r'⟩) hok hg
theorem AT.turned(I:AT X ad σ H s)(k:∀b o,b≠it->s.heap.get? b=some o->h'.get? b=some o)(hn:H it=none)(hL:it≠X.env.locals)
  (h1:it∈X.ex\/X.s₀.heap.objs.size<=it) (h2:∀x c,X.env.cells.lookup x=some c->c≠it) (h3:∀p∈X.pn++ad,p.1≠it):AT X ad σ H {s with heap:=h',toks:=t'}:=by
 have nit:∀b u,H b=some u->b≠it:=λb u e z=>by rw[z,hn]at e;cases e
 refine I.step (g':=s.gens) (d':=s.drawn) (ch:=[it]) (λb hb=>?_) (λb o _ _ hc e _=>k b o (λz=>hc (by simp[z])) e) (λb o _ _ hc e _=>⟨o.slots,k b o (λz=>hc (by simp[z])) e⟩) (λ_ _ _ _ n=>n)
  (λb o hc e=>⟨o,k b o (λz=>hc (by simp[z])) e⟩) (λ_ _ e=>e) (λ_ _ _ e=>e) (λb ps e=>⟨#[],by rw[e];simp⟩) (λm hm=>?_) (λb u e=>?_) I.bare
 ·have e:b=it:=by simpa using hb
  subst e;exact⟨h1,hL,h2,h3⟩
 ·obtain⟨o,es,ep,ho,r⟩:=hm;exact⟨o,es,ep,k _ o (Ne.symm hL) ho,r⟩
 ·refine (I.hok b u e).stay (λc v hc q=>k c v ?_ q) (λ_ q=>q) λ_ _ q=>q
  rcases hc with z|z
  ·rw[z];exact nit b u e
  ·exact nit c _ z
theorem AT.tok(I:AT X ad σ H s)(t:Nat):AT X ad σ H {s with toks:=t}:=I.un (h':=s.heap) (t':=t) Un.refl I.hok
theorem AT.kept(I:AT X ad σ H s)(k:∀b u,s.heap.get? b=some u->h'.get? b=some u):AT X ad σ H {s with heap:=h',toks:=t'}:=I.un (Un.kept k) (I.hok.kept k)
theorem AT.laid(I:AT X ad σ H s)(k:∀b u,s.heap.get? b=some u->h'.get? b=some u)(hp:s.heap.objs.size<=a)(new:Ay X.prog X.w (Ac H a o) h' a o):
  AT X ad σ (Ac H a o) {s with heap:=h',toks:=t'}:=I.un (Un.laid k hp (I.hok.fresh hp)) (I.hok.laid k hp new)
theorem AT.write{x e:Addr}(I:AT X ad σ H s)(mu:VM (H x))(he:e=x\/H e=some (.own x))(k:∀b u,b≠e->s.heap.get? b=some u->h'.get? b=some u)(heo:∃u,h'.get? e=some u)
  (new:Ay X.prog X.w (Ac H x o) h' x o):AT X ad σ (Ac H x o) {s with heap:=h',toks:=t'}:=I.un (Un.write mu he k heo) (I.hok.write mu he k heo new)
theorem AT.pins_of{pins':List (Addr×Obj)}(I:AT X ad σ H s)(h:∀p∈pins',s.heap.get? p.1=some p.2/\H p.1=none/\p.1≠X.env.locals/\p.1∉X.fs/\∀v,p.2.data≠.cell v):AT X pins' σ H s:=
 ⟨I.ok,I.os,I.bare,I.base,I.loc,I.cell,I.free,I.freeC,λp hp=>(YR.mp hp).elim (λz=>I.pin p (Z3 _ z)) (h p),I.hok,I.len⟩
theorem G8{N:List Str}(hN:N.Nodup){x:Str}(a:N[i]?=some x)(b:N[j]?=some x):i=j:=by obtain⟨h1,e1⟩:=YJ.mp a;obtain⟨h2,e2⟩:=YJ.mp b;exact (af hN).mp (e1.trans e2.symm)
theorem JL{M:Model}{A:Around}{E:Value->Shared->Prop}{x:Str}{v:V}{Q:Unit->Shared->Prop}(I:AT X ad σ H s)(hN:X.N.Nodup)(hi:X.N[i]?=some x)(hx:SU X.env.scope x)(r:A8 v u)
  (h:∀s',AT X ad (σ.set i (some v)) H s'->(∃a,Heap.SameBut a s.heap s'.heap/\(a=X.env.locals\/X.env.cells.lookup x=some a))->Q () s') (hf:X.fn x=true\/X.env.scope.names.lookup x=some .local:=by first|exact .inl rfl|exact .inr rfl|assumption):wpAny M A (storeName X.env x u) Q E s:=by
 obtain⟨m,hn,hl⟩:=id I.loc;have hcls:(X.env.scope.kind==.class||(X.env.scope.kind==.module&&X.env.locals != X.env.globals))=false:=by rw[I.ok.kind];rfl
 have hiσ:i<σ.length:=by rw[I.len];exact (YJ.mp hi).1
 have cne:=I.cne
 have tracked:∀{a:Addr} {h':Heap},(∃o,s.heap.get? a=some o/\H a=none)->Heap.SameBut a s.heap h'->D9 X.prog X.w H h':=λ{a h'} ha hs b ob e=>by
  obtain⟨_,_,hfree⟩:=ha;refine (I.hok b ob e).stay (λc w' hc q=>(hs.2 c ?_).trans q) (λ_ q=>q) λ_ _ q=>q
  rintro rfl;rcases hc with rfl|hc
  ·rw[hfree]at e;cases e
  ·rw[hfree]at hc;cases hc
 rcases hx with hk|hk
 ·refine wpAny_storeName_local hk hn (λh' hn' hs=>?_) hcls;obtain⟨oL,_,_,hoL,_⟩:=id hn;refine h _ ⟨I.ok,I.os,I.bare,⟨λb o e n hb hx=>?_,λb o e n hb hx=>?_,I.base.free,λb o e hx=>?_,I.base.tups,I.base.frzs,I.base.tbls⟩,⟨_,hn',λj y v' e1 e2 e3=>?_⟩,λy c e=>?_,I.free,I.freeC,λp hp=>?_,tracked ⟨oL,hoL,I.free⟩ hs,by simpa using I.len⟩ ⟨_,hs,.inl rfl⟩
  ·exact (hs.2 b (Yp (YS (YQ e) I.ok.above))).trans (I.base.keep b o e n hb hx)
  ·obtain⟨sl,e1⟩:=I.base.slot b o e n hb hx;exact⟨sl,(hs.2 b (Yp (YS (YQ e) I.ok.above))).trans e1⟩
  ·obtain⟨o',e1⟩:=I.base.there b o e hx;exact⟨o',(hs.2 b (Yp (YS (YQ e) I.ok.above))).trans e1⟩
  ·by_cases hj:j=i
   ·subst hj;rw[hi]at e1;cases e1;rw[az hiσ]at e2;cases e2;exact⟨u,r,.inl ⟨hk,by simp⟩⟩
   ·rw[bM (Ne.symm hj)]at e2;obtain⟨u',r',q⟩:=hl j y v' e1 e2 e3;refine⟨u',r',?_⟩;rcases q with⟨k,e⟩|⟨k,c,e,z⟩
    ·refine .inl ⟨k,?_⟩;have:y≠x:=λe=>hj (G8 hN e1 (e▸hi))
     simp[this,e]
    ·exact .inr ⟨k,c,e,z.sameBut hs (cne y c e)⟩
  ·obtain⟨w',z⟩:=I.cell y c e;exact⟨w',z.sameBut hs (cne y c e)⟩
  ·obtain⟨e,n,ne,nf,d⟩:=I.pin p hp;exact⟨(hs.2 p.1 ne).trans e,n,ne,nf,d⟩
 ·have hfn:X.fn x=true:=by
   rcases hf with z|z
   ·exact z
   ·rw[z]at hk;cases hk
  obtain⟨c,hc⟩:=I.ok.has x (.inl hk);obtain⟨w',z⟩:=I.cell x c hc;refine wpAny_storeName_cell I.ok.kind hk hc z (λh' hc' hs=>?_);obtain⟨oc,hoc,hocd⟩:=id z;refine h {s with heap:=h'} ⟨I.ok,I.os,I.bare,⟨λb o e n hb hx=>?_,λb o e n hb hx=>?_,I.base.free,λb o e hx=>?_,I.base.tups,I.base.frzs,I.base.tbls⟩,⟨m,hn.sameBut hs (Ne.symm (cne x c hc)),λj y v' e1 e2 e3=>?_⟩,λy c' e=>?_,I.free,I.freeC,λp hp=>?_,tracked ⟨oc,hoc,I.freeC x c hc⟩ hs,by simpa using I.len⟩ ⟨c,hs,.inr hc⟩
  ·exact (hs.2 b (Yp (YS (YQ e) (I.ok.cab x c hfn hc)))).trans (I.base.keep b o e n hb hx)
  ·obtain⟨sl,e1⟩:=I.base.slot b o e n hb hx;exact⟨sl,(hs.2 b (Yp (YS (YQ e) (I.ok.cab x c hfn hc)))).trans e1⟩
  ·obtain⟨o',e1⟩:=I.base.there b o e hx;exact⟨o',(hs.2 b (Yp (YS (YQ e) (I.ok.cab x c hfn hc)))).trans e1⟩
  ·by_cases hj:j=i
   ·subst hj;rw[hi]at e1;cases e1;rw[az hiσ]at e2;cases e2;exact⟨u,r,.inr ⟨.inl hk,c,hc,hc'⟩⟩
   ·rw[bM (Ne.symm hj)]at e2;obtain⟨u',r',q⟩:=hl j y v' e1 e2 e3;refine⟨u',r',?_⟩;rcases q with q|⟨k,c',e,z'⟩
    ·exact .inl q
    ·refine .inr ⟨k,c',e,z'.sameBut hs ?_⟩;rintro rfl;exact hj (G8 hN e1 (I.ok.inj _ _ _ e hc▸hi))
  ·by_cases hcc:c'=c
   ·subst hcc;exact⟨_,hc'⟩
   ·obtain⟨w2,z2⟩:=I.cell y c' e;exact⟨w2,z2.sameBut hs hcc⟩
  ·obtain⟨e,n,ne,nf,d⟩:=I.pin p hp;refine⟨(hs.2 p.1 ?_).trans e,n,ne,nf,d⟩;intro q;rw[q,hoc]at e;have q':oc=p.2:=Option.some.inj e;exact d w' (by rw[<-q'];exact hocd)
theorem HB{M:Model}{A:Around}{E:Value->Shared->Prop}{x:Str}{v:V}{Q:Unit->Shared->Prop}(I:AT X ad σ H s)(hN:X.N.Nodup)(hi:X.N[i]?=some x)(hx:SU X.env.scope x)(r:A8 v u)
  (h:∀s',AT X ad (σ.set i (some v)) H s'->Q () s') (hf:X.fn x=true\/X.env.scope.names.lookup x=some .local:=by first|exact .inl rfl|exact .inr rfl|assumption):wpAny M A (storeName X.env x u) Q E s:=
 JL I hN hi hx r (λs' I' _=>h s' I') hf
theorem AT.call'{ch:List Addr}(I:AT X ad σ H s)(ho:s'.os=s.os)(u:Un (D4 X.stack) ch H H' s.heap s'.heap)(hok:D9 X.prog X.w H' s'.heap)(hg:AllBare s'.gens)
  (hch:∀b∈ch,(b∈X.ex\/X.s₀.heap.objs.size<=b)/\b≠X.env.locals/\(∀x c,X.env.cells.lookup x=some c->c≠b)/\∀p∈X.pn++ad,p.1≠b):AT X ad σ H' s':=by
 obtain⟨h',g',d',t',o'⟩:=s';have e:o'=s.os:=ho;subst e;exact I.call (g':=g') (t':=t') (d':=d') u hok hg hch
end
abbrev XK:=Value->Option Addr->Hp->Prop
abbrev St:=List (Option V)
abbrev VK:=V->Hp->Prop
abbrev TE:=St->Hp->VK->Prop
abbrev TT:=St->Hp->(Bool->Hp->Prop)->Prop
abbrev TA:=St->Hp->(List V->Hp->Prop)->Prop
structure Gf where
 nx:St->Hp->Prop
 rt:VK
 bk:St->Hp->Prop:=λ_ _=>False
 ct:St->Hp->Prop:=λ_ _=>False
abbrev TS:=Gf->St->Hp->Prop
def EP(X:Cx)(ad:List (Addr×Obj))(σ:St)(Q:VK)(u:Value)(s':Shared):Prop:=∃v H',AT X ad σ H' s'/\A8 v u/\Q v H'
def TP(X:Cx)(ad:List (Addr×Obj))(σ:St)(Q:Bool->Hp->Prop)(b:Bool)(s':Shared):Prop:=∃H',AT X ad σ H' s'/\Q b H'
def AP(X:Cx)(ad:List (Addr×Obj))(σ:St)(Q:List V->Hp->Prop)(us:List Value)(s':Shared):Prop:=∃vs H',AT X ad σ H' s'/\Ax vs us/\Q vs H'
def SP(X:Cx)(ad:List (Addr×Obj))(D:Gf)(f:Flow)(s':Shared):Prop:=
 match f with
 |.next=>∃σ' H',AT X ad σ' H' s'/\D.nx σ' H'
 |.brk=>∃σ' H',AT X ad σ' H' s'/\D.bk σ' H'
 |.cont=>∃σ' H',AT X ad σ' H' s'/\D.ct σ' H'
 |.ret u=>∃v σ' H',AT X ad σ' H' s'/\A8 v u/\D.rt v H'
def PE(X:Cx)(e:Expr)(t:TE):Prop:=
 ∀(ad:List (Addr×Obj)) (s:Shared) (σ:St) (H:Hp) (Q:VK),AT X ad σ H s->t σ H Q->wpAny (model X.prog X.w) X.A (eval e X.env) (EP X ad σ Q) X.xe s
def PT(X:Cx)(e:Expr)(t:TT):Prop:=
 ∀(ad:List (Addr×Obj)) (s:Shared) (σ:St) (H:Hp) (Q:Bool->Hp->Prop),AT X ad σ H s->t σ H Q->wpAny (model X.prog X.w) X.A (isTrue e X.env (eval e X.env)) (TP X ad σ Q) X.xe s
def PW(X:Cx)(e:Expr)(t:TT):Prop:=
 ∀(whole:Sem Value) (ad:List (Addr×Obj)) (s:Shared) (σ:St) (H:Hp) (Q:Bool->Hp->Prop),AT X ad σ H s->t σ H Q->wpAny (model X.prog X.w) X.A (isTrue e X.env whole) (TP X ad σ Q) X.xe s
theorem PW.pt{X:Cx}{e:Expr}{t:TT}(h:PW X e t):PT X e t:=h _
def PA(X:Cx)(es:List Expr)(t:TA):Prop:=
 ∀(pos:Pos) (ad:List (Addr×Obj)) (s:Shared) (σ:St) (H:Hp) (Q:List V->Hp->Prop),AT X ad σ H s->t σ H Q->wpAny (model X.prog X.w) X.A (spliced (backTo pos (starEach es X.env))) (AP X ad σ Q) X.xe s
def PS(X:Cx)(st:Stmt)(t:TS):Prop:=
 ∀(ad:List (Addr×Obj)) (s:Shared) (σ:St) (H:Hp) (D:Gf),AT X ad σ H s->t D σ H->wpAny (model X.prog X.w) X.A (exec st X.env) (SP X ad D) X.xe s
def GS(X:Cx)(st:List Stmt)(t:TS):Prop:=
 ∀(ad:List (Addr×Obj)) (s:Shared) (σ:St) (H:Hp) (D:Gf),AT X ad σ H s->t D σ H->wpAny (model X.prog X.w) X.A (execs st X.env) (SP X ad D) X.xe s
variable{E:Value->Shared->Prop}
theorem BQ{t:Sem α}{Q Q':α->Shared->Prop}{M:Model}{A:Around}{s:Shared}(h:wpAny M A t Q E s)(hQ:∀a s,Q a s->Q' a s):wpAny M A t Q' E s:=wpAny_mono h hQ λ_ _ x=>x
variable{Q:Value->Shared->Prop}{ad:List (Addr×Obj)}{σ:St}{op:CmpOp}
section
variable{X:Cx}
def TZ(i:Nat):TE:=λσ H Q=>∃v,σ[i]?=some (some v)/\Q v H
def tC(v:V):TE:=λ_ H Q=>Q v H
theorem Ta{x:Str}{pos:Pos}(hN:X.N[i]?=some x)(hv:XG X.env.scope x)(hd:(x==("__debug__":Str))=false:=by decide)(hcd:(x==("__classdict__":Str))=false:=by decide):PE X (.Name x pos) (TZ i):=by
 intro ad s σ H Q I h;obtain⟨v,e,h⟩:=h;obtain⟨m,hn,hl⟩:=I.loc;obtain⟨u,r,l⟩:=hl i x v hN e hv;have fin:EP X ad σ Q u s:=⟨v,H,I,r,h⟩;rcases l with⟨hk,hm⟩|⟨hk,c,hc,hcell⟩
 ·exact wpAny_Name (wpAny_loadName_local I.ok.kind hk hn hm fin) hd
 ·rcases hk with hk|hk
  ·exact wpAny_Name (wpAny_loadName_cell I.ok.kind hk hc hcell fin) hd
  ·exact wpAny_Name (wpAny_loadName_free I.ok.kind hk hc hcell fin hcd) hd
theorem AB{i j pos}:PE X (.Constant (.int i) j pos) (tC (.int i)):=λ_ _ _ H _ I h=>wpAny_Constant_int ⟨.int i,H,I.tok _,⟨_,rfl⟩,h⟩
theorem Cj{b j pos}:PE X (.Constant (.bool b) j pos) (tC (.bl b)):=λ_ _ _ H _ I h=>Constant_bool ⟨.bl b,H,I,rfl,h⟩
theorem Ez{j pos}:PE X (.Constant .none j pos) (tC .non):=λ_ _ _ H _ I h=>Constant_none ⟨.non,H,I,rfl,h⟩
theorem Fu{x j pos}:PE X (.Constant (.str x) j pos) (tC (.str x)):=λ_ _ _ H _ I h=>Calls.Constant_str ⟨.str x,H,I.tok _,⟨_,rfl⟩,h⟩
def Gl(X:Cx)(x:Str):Prop:=X.env.kindOf x=some .globalImplicit
theorem Gm{E:Value->Shared->Prop}{s:Shared}{x:Str}{pos:Pos}(I:AT X ad σ H s)(hg:Gl X x)(hm:X.mg x=some u)(h:Q u s)
  (hd:(x==("__debug__":Str))=false:=by decide):wpAny (model X.prog X.w) X.A (eval (.Name x pos) X.env) Q E s:=
 Calls.Name_function_global I.ok.kind hg (Calls.loadGlobal_global (by rw[I.ok.glob];exact I.mod.glob.keeps I.bk) hm h) hd
theorem Cf{E:Value->Shared->Prop}{s:Shared}{x:Str}{pos:Pos}(I:AT X ad σ H s)(hg:Gl X x)(hm:X.mg x=none)(hv:bootBuiltins x=some u)(h:Q u s)
  (hn:x≠"__name__":=by decide) (hd:(x==("__debug__":Str))=false:=by decide):wpAny (model X.prog X.w) X.A (eval (.Name x pos) X.env) Q E s:=by
 obtain⟨mb,h1,h2⟩:=I.mod.blt;exact Calls.Name_function_global I.ok.kind hg (Calls.loadGlobal_builtin (by rw[I.ok.glob];exact I.mod.glob.keeps I.bk) hm (by rw[I.ok.blt];exact h1.keeps I.bk) ((h2 x hn).trans hv) h) hd
theorem NB{x:Str}{v:V}{pos:Pos}(hg:Gl X x)(hm:X.mg x=some u)(r:A8 v u)(hd:(x==("__debug__":Str))=false:=by decide):PE X (.Name x pos) (tC v):=
 λ_ _ _ H _ I h=>Gm I hg hm ⟨v,H,I,r,h⟩ hd
theorem RA{x:Str}{v:V}{pos:Pos}(hg:Gl X x)(hm:X.mg x=none)(hv:bootBuiltins x=some u)(r:A8 v u)(hn:x≠"__name__":=by decide)(hd:(x==("__debug__":Str))=false:=by decide):PE X (.Name x pos) (tC v):=
 λ_ _ _ H _ I h=>Cf I hg hm hv ⟨v,H,I,r,h⟩ hn hd
variable{a b:Expr}{ta tb:TE}{pos:Pos}
def PC(X:Cx)(op:CmpOp)(a b:Expr)(t:TE):Prop:=
 ∀(ad:List (Addr×Obj)) (s:Shared) (σ:St) (H:Hp) (Q:VK),AT X ad σ H s->t σ H Q ->
  wpAny (model X.prog X.w) X.A (eval a X.env) (λv s₁=>wpAny (model X.prog X.w) X.A (eval b X.env) (λu s₂=>wpAny (model X.prog X.w) X.A (compareOp op v u) (EP X ad σ Q) X.xe s₂) X.xe s₁) X.xe s
def tB(t:TE):TT:=λσ H Q=>t σ H λx H1=>∃c,x=.bl c/\Q c H1
theorem Tb{t:TE}(h:PC X op a b t)(h1:behindInMarks op b=false:=by first|exact nobehind _ (by decide) (by decide)|rfl):PE X (.Compare a [op] [b] pos) t:=λad s σ H Q I hw=>wpAny_Compare1 (h ad s σ H Q I hw) h1
theorem Tc{t:TE}(h:PC X op a b t)(h1:behindInMarks op b=false:=by first|exact nobehind _ (by decide) (by decide)|rfl):PT X (.Compare a [op] [b] pos) (tB t):=by intro ad s σ H Q I hw;refine wpAny_isTrue_Compare1 (BQ (h ad s σ H _ I hw) λv s1 h1=>BQ h1 λu s2 h2=>BQ h2 λc s3 z9=>?_) h1;obtain⟨x,H1,I1,r1,q1⟩:=z9;obtain⟨d,rfl,q⟩:=q1;cases r1;exact wpAny_truthy_bool ⟨H1,I1,q⟩
theorem Bb{e:Expr}{t:TE}(h:PE X e t)(he:∀whole,isTrue e X.env whole=(do let v <-whole;standAt e.pos;holding [v] (truthy v)):=by intro _;rfl):PT X e (tB t):=by intro ad s σ H Q I hw;refine isTrue_plain (BQ (h ad s σ H _ I hw) λv s1 z9=>?_) (he _);obtain⟨x,H1,I1,r1,q1⟩:=z9;obtain⟨d,rfl,q⟩:=q1;cases r1;exact wpAny_truthy_bool ⟨H1,I1,q⟩
variable{tA tB':TT}{rest:List Expr}
def VN(t u:TT):TT:=λσ H Q=>t σ H λc H1=>if c=true then u σ H1 Q else Q false H1
def X2(t u:TT):TT:=λσ H Q=>t σ H λc H1=>if c=true then Q true H1 else u σ H1 Q
def VO(t:TT):TT:=λσ H Q=>t σ H λc H1=>Q (!c) H1
theorem Dn(ha:PT X a tA):PW X (.BoolOp .And [a] pos) tA:=by
 intro wh ad s σ H Q I h;refine isTrue_and (BQ (ha ad s σ H Q I h) λc s1 e=>?_);cases c with
 |true=>exact isTrue_and_nil e
 |false=>exact e
theorem CH(ha:PT X a tA):PW X (.BoolOp .Or [a] pos) tA:=by
 intro wh ad s σ H Q I h;refine isTrue_or (BQ (ha ad s σ H Q I h) λc s1 e=>?_);cases c with
 |false=>exact isTrue_or_nil e
 |true=>exact e
theorem E1(ha:PT X a tA)(hb:PW X (.BoolOp .And (b::rest) pos) tB'):PW X (.BoolOp .And (a::b::rest) pos) (VN tA tB'):=by
 intro wh ad s σ H Q I h;refine isTrue_and (BQ (ha ad s σ H _ I h) λc s1 z9=>?_);obtain⟨H1,I1,q1⟩:=z9;cases c with
 |true=>exact hb wh ad s1 σ H1 Q I1 q1
 |false=>exact⟨H1,I1,q1⟩
theorem CB(ha:PT X a tA)(hb:PW X (.BoolOp .Or (b::rest) pos) tB'):PW X (.BoolOp .Or (a::b::rest) pos) (X2 tA tB'):=by
 intro wh ad s σ H Q I h;refine isTrue_or (BQ (ha ad s σ H _ I h) λc s1 z9=>?_);obtain⟨H1,I1,q1⟩:=z9;cases c with
 |true=>exact⟨H1,I1,q1⟩
 |false=>exact hb wh ad s1 σ H1 Q I1 q1
theorem By(ha:PT X a tA):PT X (.UnaryOp .Not a pos) (VO tA):=by intro ad s σ H Q I h;exact isTrue_not (ha ad s σ H (λc H1=>Q (!c) H1) I h)
def SV(ta tb:TE):TE:=λσ H Q=>ta σ H λx H1=>∃c,x=.bl c/\if c=true then tb σ H1 Q else Q (.bl false) H1
def VP(ta tb:TE):TE:=λσ H Q=>ta σ H λx H1=>∃c,x=.bl c/\if c=true then Q (.bl true) H1 else tb σ H1 Q
def SW(ta:TE):TE:=λσ H Q=>ta σ H λx H1=>∃c,x=.bl c/\Q (.bl (!c)) H1
theorem Do{op}{t:TE}(h:PE X a t):PE X (.BoolOp op [a] pos) t:=λad s σ H Q I hw=>BoolOp_one (h ad s σ H Q I hw)
theorem EB(ha:PE X a ta)(hb:PE X (.BoolOp .And (b::rest) pos) tb):PE X (.BoolOp .And (a::b::rest) pos) (SV ta tb):=by
 intro ad s σ H Q I h;refine BoolOp_and (BQ (ha ad s σ H _ I h) λv s1 z9=>?_);obtain⟨x,H1,I1,r1,q1⟩:=z9;obtain⟨c,rfl,q1⟩:=q1;cases r1;refine wpAny_truthy_bool ?_;cases c with
 |true=>exact hb ad s1 σ H1 Q I1 q1
 |false=>exact⟨.bl false,H1,I1,rfl,q1⟩
theorem SY(ha:PE X a ta)(hb:PE X (.BoolOp .Or (b::rest) pos) tb):PE X (.BoolOp .Or (a::b::rest) pos) (VP ta tb):=by
 intro ad s σ H Q I h;refine BoolOp_or (BQ (ha ad s σ H _ I h) λv s1 z9=>?_);obtain⟨x,H1,I1,r1,q1⟩:=z9;obtain⟨c,rfl,q1⟩:=q1;cases r1;refine wpAny_truthy_bool ?_;cases c with
 |false=>exact hb ad s1 σ H1 Q I1 q1
 |true=>exact⟨.bl true,H1,I1,rfl,q1⟩
theorem O1(ha:PE X a ta):PE X (.UnaryOp .Not a pos) (SW ta):=by intro ad s σ H Q I h;refine UnaryOp_ (BQ (ha ad s σ H _ I h) λv s1 z9=>?_);obtain⟨x,H1,I1,r1,q1⟩:=z9;obtain⟨c,rfl,q1⟩:=q1;cases r1;exact not_of (wpAny_truthy_bool ⟨.bl (!c),H1,I1,rfl,q1⟩)
end
def Ai(K:qJ)(H:Hp)(a:Addr)(xs:List V):Prop:=
 Rd H a (.lst xs) \/
  ∃(o:Obj) (its:Array Value) (n:Nat),K.lookup a=some o/\o.cls=.type "list"/\o.dict=none/\o.data=.seq its n/\its.size<=sizeLine/\Ax xs its.toList
def Ad(K:qJ)(H:Hp)(a:Addr)(xs:List V):Prop:=
 Rd H a (.tup xs) \/
  ∃(o:Obj) (its:Array Value) (n:Nat),K.lookup a=some o/\o.cls=.type "tuple"/\o.data=.seq its n/\its.size<=sizeLine/\Ax xs its.toList
noncomputable def RB:Value->Option V
 |.none=>some .non
 |.bool b=>some (.bl b)
 |.int i _=>some (.int i)
 |.str x _=>some (.str x)
 |.bytes b _=>some (.byt b)
 |.float b _=>some (.flt b)
 |.ref a=>some (.ref a)
 |.type n=>some (.ty n)
 |_=>none
theorem A8.abs{x:V}(r:A8 x u):RB u=some x:=by
 cases x with
 |non=>cases r;rfl
 |bl _=>cases r;rfl
 |int _=>obtain⟨t,rfl⟩:=r;rfl
 |str _=>obtain⟨t,rfl⟩:=r;rfl
 |byt _=>obtain⟨t,rfl⟩:=r;rfl
 |flt _=>obtain⟨t,rfl⟩:=r;rfl
 |ref _=>cases r;rfl
 |ty _=>cases r;rfl
theorem A8.inj{x y:V}(r:A8 x u)(q:A8 y u):x=y:=Option.some.inj (r.abs.symm.trans q.abs)
theorem Ax.inj:∀{xs ys:List V} {us:List Value},Ax xs us->Ax ys us->xs=ys
 |_,_,_,.nil,.nil=>rfl
 |_,_,_,.cons r t,.cons r' t'=>by rw[r.inj r',Ax.inj t t']
section
variable{X:Cx}{s:Shared}{ys:List V}
theorem Ai.of{K:qJ}(h:H a=some (.lst xs)):Ai K H a xs:=.inl (.inl h)
theorem Ad.of{K:qJ}(h:H a=some (.tup xs)):Ad K H a xs:=.inl (.inl h)
theorem AT.list(I:AT X ad σ H s)(h:Ai X.K H a xs):∃its:List Value,Ax xs its/\PlainL s.heap a its.toArray/\xs.length<=sizeLine:=by
 rcases h with h|⟨o,its,n,hk,hc,hd,hs,hz,r⟩
 ·obtain⟨z,its,n,r,e⟩:=h.ok I.hok;exact⟨its,r,⟨_,n,e,rfl,rfl,rfl⟩,z⟩
 ·refine⟨its.toList,r,⟨o,n,I.kIn a o hk,hc,hd,by simpa using hs⟩,?_⟩;have e:=r.length;simp only[Array.length_toList]at e;lia
theorem AT.tuple(I:AT X ad σ H s)(h:Ad X.K H a xs):∃its:List Value,Ax xs its/\IsTup s.heap a its.toArray/\xs.length<=sizeLine:=by
 rcases h with h|⟨o,its,n,hk,hc,hs,hz,r⟩
 ·obtain⟨z,its,r,p⟩:=h.ok I.hok;exact⟨its,r,p,z⟩
 ·refine⟨its.toList,r,⟨o,I.kIn a o hk,hc,n,by simpa using hs⟩,?_⟩;have e:=r.length;simp only[Array.length_toList]at e;lia
theorem AT.list_inj(I:AT X ad σ H s)(h:Ai X.K H a xs)(h':Ai X.K H a ys):xs=ys:=by
 obtain⟨its,r,⟨o,n,e,_,_,d⟩,_⟩:=I.list h;obtain⟨its',r',⟨o',n',e',_,_,d'⟩,_⟩:=I.list h';rw[e]at e';cases e';rw[d]at d'
 injection d' with d1 _
 have:its=its':=by simpa using congrArg Array.toList d1
 subst this;exact r.inj r'
theorem AT.tuple_inj(I:AT X ad σ H s)(h:Ad X.K H a xs)(h':Ad X.K H a ys):xs=ys:=by
 obtain⟨its,r,⟨o,e,_,n,d⟩,_⟩:=I.tuple h;obtain⟨its',r',⟨o',e',_,n',d'⟩,_⟩:=I.tuple h';rw[e]at e';cases e';rw[d]at d'
 injection d' with d1 _
 have:its=its':=by simpa using congrArg Array.toList d1
 subst this;exact r.inj r'
end
abbrev Cx.wish(X:Cx)(E:Value->Shared->Prop):Cx:={X with xe:=E}
abbrev Cx.nox(X:Cx):Cx:=X.wish λ_ _=>False
theorem Cx.Ok.wish{X:Cx}(ok:X.Ok)(E:Value->Shared->Prop):(X.wish E).Ok:=
 ⟨ok.mod,ok.kind,ok.glob,ok.blt,ok.above,ok.inj,ok.has,ok.cab,ok.hd,ok.frames,ok.stk,ok.exf,ok.bs,ok.bsz,ok.noex,ok.exfs,ok.funs,ok.frf⟩
theorem Cx.Ok.unwish{X:Cx}(ok:(X.wish E).Ok):X.Ok:=
 ⟨ok.mod,ok.kind,ok.glob,ok.blt,ok.above,ok.inj,ok.has,ok.cab,ok.hd,ok.frames,ok.stk,ok.exf,ok.bs,ok.bsz,ok.noex,ok.exfs,ok.funs,ok.frf⟩
variable{D:Gf}
section
variable{X:Cx}{s:Shared}
theorem AT.wish(I:AT X ad σ H s)(E:Value->Shared->Prop):AT (X.wish E) ad σ H s:=⟨I.ok.wish E,I.os,I.bare,I.base,I.loc,I.cell,I.free,I.freeC,I.pin,I.hok,I.len⟩
theorem AT.unwish(I:AT (X.wish E) ad σ H s):AT X ad σ H s:=⟨I.ok.unwish,I.os,I.bare,I.base,I.loc,I.cell,I.free,I.freeC,I.pin,I.hok,I.len⟩
theorem SP.unwish{f:Flow}(h:SP (X.wish E) ad D f s'):SP X ad D f s':=by
 cases f with
 |next=>obtain⟨σ',H',I,q⟩:=h;exact⟨σ',H',I.unwish,q⟩
 |brk=>obtain⟨σ',H',I,q⟩:=h;exact⟨σ',H',I.unwish,q⟩
 |cont=>obtain⟨σ',H',I,q⟩:=h;exact⟨σ',H',I.unwish,q⟩
 |ret u=>obtain⟨v,σ',H',I,r,q⟩:=h;exact⟨v,σ',H',I.unwish,r,q⟩
theorem GS.nox{st:List Stmt}{t:TS}(h:GS X.nox st t):GS X st t:=λad s σ H D I hw =>
 wpAny_mono (h ad s σ H D (I.wish _) hw) (λ_ _ q=>q.unwish) λ_ _ z=>False.elim z
end
variable{tc:TT}
section
variable{X:Cx}{st:Stmt}{rest:List Stmt}{t u:TS}{e:Expr}{te:TE}{pos:Pos}
def O2:TS:=λD σ H=>D.nx σ H
def OE(t u:TS):TS:=λD σ H=>t {D with nx:=u D} σ H
theorem AV:GS X [] O2:=λ_ _ σ H _ I h=>wpAny_execs_nil ⟨σ,H,I,h⟩
theorem AC(h1:PS X st t)(h2:GS X rest u):GS X (st::rest) (OE t u):=by
 intro ad s σ H D I h;refine wpAny_execs_cons (BQ (h1 ad s σ H {D with nx:=u D} I h) λf s1 q=>?_);cases f with
 |next =>
  obtain⟨σ',H',I',q⟩:=q;exact h2 ad s1 σ' H' D I' q
 |ret v=>exact q
 |brk=>exact q
 |cont=>exact q
theorem AF(h1:PS X st t):GS X [st] t:=by
 intro ad s σ H D I h;refine wpAny_execs_cons (BQ (h1 ad s σ H D I h) λf s1 q=>?_);cases f with
 |next=>exact wpAny_execs_nil q
 |ret v=>exact q
 |brk=>exact q
 |cont=>exact q
theorem AT.quiet{s:Shared}(I:AT X ad σ H s):interactive X.env=false:=by simp[interactive,I.ok.kind]
def Sa(te:TE):TS:=λD σ H=>te σ H λ_ H1=>D.nx σ H1
theorem BM(he:PE X e te)(hs:swapsWith e none pos.line X.env=pure false:=by rfl):PS X (.Expr e pos) (Sa te):=by intro ad s σ H D I h;exact wpAny_Expr_any (BQ (he ad s σ H _ I h) λv s1 ⟨x,H1,I1,r1,q1⟩=>⟨σ,H1,I1,q1⟩) I.quiet hs
def VQ(te:TE):TS:=λD σ H=>te σ H D.rt
theorem AL(he:PE X e te):PS X (.Return (some e) pos) (VQ te):=by intro ad s σ H D I h;exact wpAny_Return_some (BQ (he ad s σ H _ I h) λv s1 ⟨x,H1,I1,r1,q1⟩=>⟨x,σ,H1,I1,r1,q1⟩)
def Td(c:TT)(t u:TS):TS:=λD σ H=>c σ H λb H1=>if b=true then t D σ H1 else u D σ H1
theorem Au{c:Expr}{a b:List Stmt}(hc:PT X c tc)(ha:GS X a t)(hb:GS X b u):PS X (.If c a b pos) (Td tc t u):=by
 intro ad s σ H D I h;refine wpAny_If (BQ (hc ad s σ H _ I h) λd s1 z9=>?_);obtain⟨H1,I1,q1⟩:=z9;cases d with
 |true=>exact ha ad s1 σ H1 D I1 q1
 |false=>exact hb ad s1 σ H1 D I1 q1
end
abbrev TG:=V->St->Hp->(St->Hp->Prop)->Prop
abbrev RC:=List V->St->Hp->(St->Hp->Prop)->Prop
def PG(X:Cx)(target:Expr)(t:TG):Prop:=
 ∀(ad:List (Addr×Obj)) (s:Shared) (σ:St) (H:Hp) (v:V) (u:Value) (Q:St->Hp->Prop),AT X ad σ H s->A8 v u->t v σ H Q ->
  wpAny (model X.prog X.w) X.A (assign target X.env u) (λ_ s'=>∃σ' H',AT X ad σ' H' s'/\Q σ' H') X.xe s
def VR(X:Cx)(ts:List Expr)(t:RC):Prop:=
 ∀(ad:List (Addr×Obj)) (s:Shared) (σ:St) (H:Hp) (vs:List V) (us:List Value) (Q:St->Hp->Prop),AT X ad σ H s->Ax vs us->t vs σ H Q ->
  wpAny (model X.prog X.w) X.A (assignInOrder ((assignEach ts X.env).map (·.2)) us) (λ_ s'=>∃σ' H',AT X ad σ' H' s'/\Q σ' H') X.xe s
abbrev Te:=V->V->V->Hp->(Hp->Prop)->Prop
def VS(X:Cx)(t:Te):Prop:=
 ∀(ad:List (Addr×Obj)) (s:Shared) (σ:St) (H:Hp) (o i v:V) (ov iv u:Value) (Q:Hp->Prop),AT X ad σ H s->A8 o ov->A8 i iv->A8 v u->t o i v H Q ->
  wpAny (model X.prog X.w) X.A (setItem ov iv u) (λ_ s'=>∃H',AT X ad σ H' s'/\Q H') X.xe s
variable{es:List Expr}{to te:TE}{tg:Expr}
section
variable{X:Cx}{pos:Pos}
def FM(i:Nat):TG:=λv σ H Q=>Q (σ.set i (some v)) H
theorem Gn{x:Str}(hN:X.N.Nodup)(hi:X.N[i]?=some x)(hx:SU X.env.scope x)(hf:X.fn x=true\/X.env.scope.names.lookup x=some .local:=by first|exact .inl rfl|exact .inr rfl|assumption):PG X (.Name x pos) (FM i):=by intro ad s σ H v u Q I r h;exact wpAny_assign_Name (HB I hN hi hx r (λs' I'=>⟨_,H,I',h⟩) hf)
def XI:RC:=λvs σ H Q=>vs=[]/\Q σ H
def VT(t:TG)(u:RC):RC:=λvs σ H Q=>∃v r,vs=v::r/\t v σ H λσ' H'=>u r σ' H' Q
theorem DH:VR X [] XI:=by intro ad s σ H vs us Q I r h;obtain⟨e,h⟩:=h;subst e;cases r;exact assignInOrder_nil ⟨σ,H,I,h⟩
theorem BK{e:Expr}{t:TG}{u:RC}(h1:PG X e t)(h2:VR X es u)
  (hs:(assignEach (e::es) X.env).map (·.2)=assign e X.env::(assignEach es X.env).map (·.2):=by rfl):VR X (e::es) (VT t u):=by
 intro ad s σ H vs us Q I r h;obtain⟨v,vr,e1,h⟩:=h;subst e1;cases r with
 |cons r rr =>
  rw[hs];refine assignInOrder_cons (BQ (h1 ad s σ H _ _ _ I r h) λ_ s1 z9=>?_);obtain⟨σ1,H1,I1,q1⟩:=z9;exact h2 ad s1 σ1 H1 _ _ Q I1 rr q1
def XJ(K:qJ)(n:Nat)(t:RC):TG:=λv σ H Q=>∃a xs,v=.ref a/\Ad K H a xs/\xs.length=n/\t xs σ H Q
theorem HD{k:Nat}{t:RC}{n:Nat}(hc:X.calm=true)(h:VR X es t)
  (hn:(assignEach es X.env).length=n:=by rfl) (hst:(assignEach es X.env).findIdx? (·.1)=none:=by rfl):PG X (.Tuple es k pos) (XJ X.K n t):=by
 intro ad s σ H v u Q I r hw;obtain⟨a,xs,e1,hq,hl,hw⟩:=hw;subst e1;cases r;obtain⟨its,rv,ht,hz⟩:=I.tuple hq;refine assign_Tuple_tuple (I.ok.hd hc) ht (by simp[hn,<-hl,rv.length]) hst λh' hx=>?_;have I1:AT X ad σ H {s with heap:=h'}:=I.kept (t':=s.toks) λb o e=>hx b o (Yp (YQ e)) e
 exact h ad _ σ H xs _ Q I1 (by simpa using rv) hw
def XM(to ti:TE)(t:Te):TG:=λv σ H Q=>to σ H λo H1=>ti σ H1 λi H2=>t o i v H2 λH3=>Q σ H3
theorem Tf{o i:Expr}{ti:TE}{t:Te}(ho:PE X o to)(hi:PE X i ti)(hs:VS X t)
  (ha:∀v,assign (.Subscript o i pos) X.env v=(do
   let ov <-holding [v] (eval o X.env)
   let iv <-holding [v,ov] (eval i X.env)
   standAt pos
   holding [v,ov,iv] (setItem ov iv v)
   release [v,ov,iv] []):=by intro _;rfl):PG X (.Subscript o i pos) (XM to ti t):=by
 intro ad s σ H v u Q I r h;rw[ha];refine qC (wpAny_holding (BQ (ho ad s σ H _ I h) λov s1 z9=>?_));obtain⟨x,H1,I1,r1,q1⟩:=z9;refine qC (wpAny_holding (BQ (hi ad s1 σ H1 _ I1 q1) λiv s2 z9=>?_));obtain⟨y,H2,I2,r2,q2⟩:=z9;refine qC (wpAny_standAt (qC (wpAny_holding (BQ (hs ad s2 σ H2 x y v ov iv u _ I2 r1 r2 r q2) λ_ s3 z9=>?_))));obtain⟨H3,I3,q3⟩:=z9;exact wpAny_release ⟨σ,H3,I3,q3⟩
def OF(te:TE)(g:TG):TS:=λD σ H=>te σ H λx H1=>g x σ H1 D.nx
theorem Ju{e:Expr}{g:TG}(he:PE X e te)(hg:PG X tg g)(hs:swapsWithSole [tg] e pos.line X.env=pure false:=by rfl)(hw:swappedStores [tg] e X.env=pure none:=by rfl)
  (h1:(assignEach [tg] X.env).map (·.2)=[assign tg X.env]:=by rfl):PS X (.Assign [tg] e pos) (OF te g):=by
 intro ad s σ H D I h;refine wpAny_Assign_stores (BQ (he ad s σ H _ I h) λv s1 z9=>?_) hs hw;obtain⟨x,H1,I1,r1,q1⟩:=z9;rw[h1];exact BQ (hg ad s1 σ H1 x v _ I1 r1 q1) λ_ s2 q=>q
theorem HI{x:Str}{e:Expr}{pos':Pos}(hN:X.N.Nodup)(hi:X.N[i]?=some x)(hx:SU X.env.scope x)(he:PE X e te)(hs:swapsWith e (some (.Name x pos')) pos.line X.env=pure false:=by rfl)(hf:X.fn x=true\/X.env.scope.names.lookup x=some .local:=by first|exact .inl rfl|exact .inr rfl|assumption):
  PS X (.Assign [.Name x pos'] e pos) (OF te (FM i)):=by
 intro ad s σ H D I h;refine wpAny_Assign_Name (BQ (he ad s σ H _ I h) λv s1 z9=>?_) hs;obtain⟨y,H1,I1,r1,q1⟩:=z9;exact HB I1 hN hi hx r1 (λs2 I2=>⟨_,H1,I2,q1⟩) hf
end
variable{body:List Stmt}
section
variable{X:Cx}{pos:Pos}
def O3(c:TT)(tb:TS):TS:=λD σ H=>∃W:Nat->St->Hp->Prop,(∃m,W m σ H)/\∀m σ H,W m σ H ->
 c σ H λb H1=>if b=true then ∃N:St->Hp->Prop,(∀σ' H',N σ' H'->∃m',m'<m/\W m' σ' H')/\tb {D with nx:=N,ct:=N,bk:=D.nx} σ H1 else D.nx σ H1
theorem Da{c:Expr}{tb:TS}(hp:PassesOwn (model X.prog X.w) X.A X.env X.xe)(hc:PT X c tc)(hb:GS X body tb):PS X (.While c body [] pos) (O3 tc tb):=by
 intro ad s σ H D I h;obtain⟨W,⟨m0,w0⟩,turn⟩:=h;refine wpAny_While (codeAny_whileLoop (λn s'=>∃σ' H',AT X ad σ' H' s'/\W n σ' H') ?_ m0 ⟨σ,H,I,w0⟩);rintro n s1 ⟨σ1,H1,I1,w1⟩;refine wpAny_passesOwn hp (BQ (hc ad s1 σ1 H1 _ I1 (turn n σ1 H1 w1)) λb s2 z9=>?_);obtain⟨H2,I2,q2⟩:=z9;cases b with
 |true =>
  obtain⟨N,hN,q2⟩:=q2;rw[qF rfl];refine wpAny_passesOwn hp (BQ (hb ad s2 σ1 H2 _ I2 q2) λf s3 q3=>?_);cases f with
  |next =>
   obtain⟨σ3,H3,I3,n3⟩:=q3;obtain⟨m',hm,w3⟩:=hN σ3 H3 n3;exact⟨m',hm,σ3,H3,I3,w3⟩
  |cont =>
   obtain⟨σ3,H3,I3,n3⟩:=q3;obtain⟨m',hm,w3⟩:=hN σ3 H3 n3;exact⟨m',hm,σ3,H3,I3,w3⟩
  |brk=>exact q3
  |ret v=>exact q3
 |false =>
  rw[qE Ya];exact wpAny_execs_nil ⟨σ1,H2,I2,q2⟩
end
structure It where
 go:Nat->Hp->Prop
 yld:Nat->Hp->V->Hp->Prop
 stop:Nat->Hp->Prop
def C3(X:Cx)(ad:List (Addr×Obj))(H:Hp)(b:Addr):Prop:=
 H b=none/\b≠X.env.locals/\b∉X.fs/\(b∈X.ex\/X.s₀.heap.objs.size<=b)/\(∀x c,X.env.cells.lookup x=some c->c≠b)/\∀p∈X.pn++ad,p.1≠b
variable{H':Hp}
theorem AT.fpOk{X:Cx}{s:Shared}{b:Addr}(I:AT X ad σ H s)(hb:s.heap.objs.size<=b)(hn:H' b=none):C3 X ad H' b:=by
 refine⟨hn,aH (YS I.lt hb),I.nofs hb,.inr (Yy I.sz hb),λx c e z=>?_,λp hp z=>?_⟩
 ·obtain⟨v,q⟩:=I.cell x c e;exact qG (YS q.lt (by rw[z];exact hb)) (Yh _)
 ·exact qG (YS (YQ (I.pin p hp).1) (by rw[z];exact hb)) (Yh _)
structure JB(P:Program)(w:World)(K:qJ)(tg:Expr)(J:It)(fp:List Addr)(it:Addr)(tn:Nat->Heap->Prop):Prop where
 mem:it∈fp
 obj:∀i h,tn i h->∀b∈fp,∃o,h.get? b=some o/\∀v,o.data≠.cell v
 keep:∀i h h',tn i h->(∀b∈fp,∀o,h.get? b=some o->h'.get? b=some o)->tn i h'
 item:∀(X:Cx),X.prog=P->X.w=w->X.K=K->X.calm=true->∀(i:Nat) (ad:List (Addr×Obj)) (s:Shared) (σ:St) (H:Hp) (E:Value->Shared->Prop),AT X ad σ H s->(∀b∈fp,C3 X ad H b)->tn i s.heap->J.go i H ->
  wpAny (model P w) X.A (pyNext (.ref it)) (λr s1=>∃u,r=some u /\
   wpAny (model P w) X.A (letOwnedTupleGo tg (.ref it) u) (λ_ s2=>∃x H',AT X ad σ H' s2/\A8 x u/\J.yld i H x H'/\tn (i+1) s2.heap/\∀b∈fp,H' b=none) E s1) E s
 done:∀(X:Cx),X.prog=P->X.w=w->X.K=K->X.calm=true->∀(i:Nat) (ad:List (Addr×Obj)) (s:Shared) (σ:St) (H:Hp) (E:Value->Shared->Prop),AT X ad σ H s->(∀b∈fp,C3 X ad H b)->tn i s.heap->J.stop i H ->
  wpAny (model P w) X.A (pyNext (.ref it)) (λr s1=>r=none/\AT X ad σ H s1) E s
 self:∀(A:Around) (i:Nat) (s:Shared) (Q:Value->Shared->Prop) (E:Value->Shared->Prop),tn i s.heap->Q (.ref it) s->wpAny (model P w) A (pyIter (.ref it)) Q E s
abbrev TI:=St->Hp->(It->Hp->Prop)->Prop
def X3(X:Cx)(ad:List (Addr×Obj))(σ:St)(tg:Expr)(R:It->Hp->Prop)(itv:Value)(s2:Shared):Prop:=
 ∃(it:Addr) (fp:List Addr) (tn:Nat->Heap->Prop) (J:It) (H':Hp),itv=.ref it/\AT X ad σ H' s2/\JB X.prog X.w X.K tg J fp it tn/\tn 0 s2.heap/\(∀b∈fp,C3 X ad H' b)/\R J H'
def PI(X:Cx)(tg iter:Expr)(wi:TI):Prop:=
 ∀(ad:List (Addr×Obj)) (s:Shared) (σ:St) (H:Hp) (R:It->Hp->Prop),AT X ad σ H s->wi σ H R ->
  wpAny (model X.prog X.w) X.A (eval iter X.env) (λv s1=>wpAny (model X.prog X.w) X.A (pyIter v) (X3 X ad σ tg R) X.xe s1) X.xe s
theorem Km{M:Model}{A:Around}{s:Shared}{o:Obj}{n:String}{vs:Array Value}{Q:Unit->Shared->Prop}(ho:s.heap.get? it=some o)(hc:o.cls=.type n)(hd:o.data=.fields vs)
  (hn:["enumerate","zip","dict_itemiterator","dict_reverseitemiterator","odict_iterator","itertools.zip_longest","itertools.pairwise"].contains n=false) (hQ:Q () s):wpAny M A (letOwnedTupleGo tg (.ref it) u) Q E s:=by
 unfold letOwnedTupleGo
 cases tg<;>first
  |exact qD hQ
  | (cases u<;>first
    |exact qD hQ
    | (refine qC (wpAny_load ho ?_)
       rw[hc,hd];show wpAny M A (if (["enumerate","zip","dict_itemiterator","dict_reverseitemiterator","odict_iterator","itertools.zip_longest","itertools.pairwise"].contains n&&vs[0]?==some (rawInt _))=true then _ else _) Q E s;rw[qE (by intro h;rw[hn,Bool.false_and]at h;cases h)];exact qD hQ))
noncomputable def VI(K:qJ)(a:Addr):It:=
 ⟨λi H=>∃xs x,Ai K H a xs/\xs[i]?=some x,λi H x H'=>H'=H/\∀xs,Ai K H a xs->xs[i]?=some x,λi H=>∃xs,Ai K H a xs/\xs.length<=i⟩
noncomputable def VU(K:qJ)(a:Addr):It:=
 ⟨λi H=>∃xs x,Ad K H a xs/\xs[i]?=some x,λi H x H'=>H'=H/\∀xs,Ad K H a xs->xs[i]?=some x,λi H=>∃xs,Ad K H a xs/\xs.length<=i⟩
noncomputable def Sb(lo:Int)(n:Nat):It:=⟨λi _=>i<n,λi H x H'=>H'=H/\x=.int (lo+i),λi _=>n<=i⟩
theorem OG{P:Program}{w:World}{K:qJ}(a it:Addr):JB P w K tg (VI K a) [it] it (λi h=>h.IsListIter it a i) where
 mem:=by simp
 obj:=λi h st b hb=>by
  have e:b=it:=by simpa using hb
  subst e;obtain⟨o,e,c,d⟩:=st;exact⟨o,e,λv z=>by rw[d]at z;cases z⟩
 keep:=λi h h' st k=>st.at λo e=>k it (by simp) o e
 item:=by intro X hP hw hK hc i ad s σ H E I hf st hg;subst hP hw hK;obtain⟨xs,x,hq,hx⟩:=hg;obtain⟨its,rv,p,hz⟩:=I.list hq;obtain⟨u,hu,ru⟩:=rv.get hx;obtain⟨f0,f1,f2,f3,f4,f5⟩:=hf it (by simp);refine wpAny_pyNext_list_item st p.isList (x:=u) (by simpa using hu) λh' st' sb=>?_;have I1:AT X ad σ H {s with heap:=h'}:=I.turned (t':=s.toks) (λb o hb e=>(sb.2 b hb).trans e) f0 f1 f3 f4 f5;obtain⟨o,e,c,d⟩:=id st';exact⟨u,rfl,Km (s:={s with heap:=h'}) e c d (by decide) ⟨x,H,I1,ru,⟨rfl,λys hy=>by rw[I.list_inj hy hq];exact hx⟩,st',λb hb=>(hf b hb).1⟩⟩
 done:=by intro X hP hw hK hc i ad s σ H E I hf st hg;subst hP hw hK;obtain⟨xs,hq,hx⟩:=hg;obtain⟨its,rv,p,hz⟩:=I.list hq;obtain⟨f0,f1,f2,f3,f4,f5⟩:=hf it (by simp);have hl:=rv.length;exact wpAny_pyNext_list_end (I.ok.hd hc) st p.isList (by simp;lia) λh' eb=>⟨rfl,I.turned (t':=s.toks) (λb o hb e=>eb b o hb e) f0 f1 f3 f4 f5⟩
 self:=λ_ _ _ _ _ st h=>wpAny_pyIter_listiter st h
theorem L5{P:Program}{w:World}{K:qJ}(a it:Addr):JB P w K tg (VU K a) [it] it (λi h=>h.IsTupleIter it a i) where
 mem:=by simp
 obj:=λi h st b hb=>by
  have e:b=it:=by simpa using hb
  subst e;obtain⟨o,e,c,d⟩:=st;exact⟨o,e,λv z=>by rw[d]at z;cases z⟩
 keep:=λi h h' st k=>st.at λo e=>k it (by simp) o e
 item:=by intro X hP hw hK hc i ad s σ H E I hf st hg;subst hP hw hK;obtain⟨xs,x,hq,hx⟩:=hg;obtain⟨its,rv,p,hz⟩:=I.tuple hq;obtain⟨u,hu,ru⟩:=rv.get hx;obtain⟨f0,f1,f2,f3,f4,f5⟩:=hf it (by simp);refine wpAny_pyNext_tuple_item st (show s.heap.IsTuple a its.toArray from p) (x:=u) (by simpa using hu) λh' st' sb=>?_;have I1:AT X ad σ H {s with heap:=h'}:=I.turned (t':=s.toks) (λb o hb e=>(sb.2 b hb).trans e) f0 f1 f3 f4 f5;obtain⟨o,e,c,d⟩:=id st';exact⟨u,rfl,Km (s:={s with heap:=h'}) e c d (by decide) ⟨x,H,I1,ru,⟨rfl,λys hy=>by rw[I.tuple_inj hy hq];exact hx⟩,st',λb hb=>(hf b hb).1⟩⟩
 done:=by intro X hP hw hK hc i ad s σ H E I hf st hg;subst hP hw hK;obtain⟨xs,hq,hx⟩:=hg;obtain⟨its,rv,p,hz⟩:=I.tuple hq;obtain⟨f0,f1,f2,f3,f4,f5⟩:=hf it (by simp);have hl:=rv.length;exact wpAny_pyNext_tuple_end (I.ok.hd hc) st (show s.heap.IsTuple a its.toArray from p) (by simp;lia) λh' eb=>⟨rfl,I.turned (t':=s.toks) (λb o hb e=>eb b o hb e) f0 f1 f3 f4 f5⟩
 self:=λ_ _ _ _ _ st h=>wpAny_pyIter_tupleiter st h
theorem L6{P:Program}{w:World}{K:qJ}(it:Addr)(lo:Int)(n:Nat):JB P w K tg (Sb lo n) [it] it (λi h=>IsRangeIter h it (lo+(i:Nat)*1) ((n:Int)-(i:Nat)) 1) where
 mem:=by simp
 obj:=λi h st b hb=>by
  have e:b=it:=by simpa using hb
  subst e
  exact⟨_,st,λv z=>by have z':Data.fields _=Data.cell v:=z;cases z'⟩
 keep:=λi h h' st k=>k it (by simp) _ st
 item:=by intro X hP hw hK hc i ad s σ H E I hf st hg;subst hP hw hK;obtain⟨f0,f1,f2,f3,f4,f5⟩:=hf it (by simp);have W:=Walks.range (prog:=X.prog) (w:=X.w) (I.ok.hd hc) it lo 1 n;refine W.item i s _ _ hg st λv h' tk hv st' kk=>?_;obtain⟨t,rfl⟩:=hv;have I1:AT X ad σ H {s with heap:=h',toks:=tk}:=I.turned (λb o hb e=>kk b o (by simpa using hb) e) f0 f1 f3 f4 f5;refine⟨_,rfl,Km (s:={s with heap:=h',toks:=tk}) (n:="range_iterator") st' rfl rfl (by decide) ⟨.int (lo+i),H,I1,⟨t,?_⟩,⟨rfl,rfl⟩,st',λb hb=>(hf b hb).1⟩⟩;rw[aI]
 done:=by intro X hP hw hK hc i ad s σ H E I hf st hg;subst hP hw hK;obtain⟨f0,f1,f2,f3,f4,f5⟩:=hf it (by simp);exact wpAny_pyNext_range_end (I.ok.hd hc) st (by have:n<=i:=hg;lia) λh' eb=>⟨rfl,I.turned (t':=s.toks) (λb o hb e=>eb b o hb e) f0 f1 f3 f4 f5⟩
 self:=λ_ _ _ _ _ st h=>wpAny_pyIter_rangeiter st h
variable{tl:TE}{lo:Int}{ta:TA}{fp:List Addr}
section
variable{X:Cx}
def O4(K:qJ)(tl:TE):TI:=λσ H R=>tl σ H λx H1=>∃a,x=.ref a/\(∃xs,Ai K H1 a xs)/\R (VI K a) H1
def XN(K:qJ)(tl:TE):TI:=λσ H R=>tl σ H λx H1=>∃a,x=.ref a/\(∃xs,Ad K H1 a xs)/\R (VU K a) H1
theorem NC{l:Expr}(hl:PE X l tl):PI X tg l (O4 X.K tl):=by
 intro ad s σ H R I h;refine BQ (hl ad s σ H _ I h) λv s1 z9=>?_;obtain⟨x,H1,I1,r1,q1⟩:=z9;obtain⟨a,e,⟨xs,hq⟩,q⟩:=q1;subst e;cases r1;obtain⟨its,rv,p,hz⟩:=I1.list hq;refine wpAny_pyIter_list p.isList ?_;refine⟨s1.heap.objs.size,[s1.heap.objs.size],_,_,H1,rfl,I1.kept (t':=s1.toks) λb o e=>YK _ e,OG a _,⟨_,YX _ rfl,rfl,rfl⟩,λb hb=>?_,q⟩;have e:b=s1.heap.objs.size:=by simpa using hb
 subst e;exact I1.fpOk (YL _) (I1.hok.fresh (YL _))
theorem Tg{l:Expr}(hl:PE X l tl):PI X tg l (XN X.K tl):=by
 intro ad s σ H R I h;refine BQ (hl ad s σ H _ I h) λv s1 z9=>?_;obtain⟨x,H1,I1,r1,q1⟩:=z9;obtain⟨a,e,⟨xs,hq⟩,q⟩:=q1;subst e;cases r1;obtain⟨its,rv,p,hz⟩:=I1.tuple hq;refine wpAny_pyIter_tuple (show s1.heap.IsTuple a its.toArray from p) ?_;refine⟨s1.heap.objs.size,[s1.heap.objs.size],_,_,H1,rfl,I1.kept (t':=s1.toks) λb o e=>YK _ e,L5 a _,⟨_,YX _ rfl,rfl,rfl⟩,λb hb=>?_,q⟩;have e:b=s1.heap.objs.size:=by simpa using hb
 subst e;exact I1.fpOk (YL _) (I1.hok.fresh (YL _))
theorem Kn{s:Shared}{R:It->Hp->Prop}{hi:Int}{t u v:Tok}{tk:Nat}(I:AT X ad σ H s)(h1:-(2^62)<=lo)(h2:lo<2^62)(h3:-(2^62)<=hi)(h4:hi<2^62)
  (q:R (Sb lo (hi-lo).toNat) H):wpAny (model X.prog X.w) X.A (pyIter (.ref s.heap.objs.size)) (X3 X ad σ tg R) E {s with heap:=s.heap.push {cls:=.type "range",data:=.fields #[.int lo t,.int hi u,.int 1 v]},toks:=tk}:=by
 refine wpAny_pyIter_range (IsRange.new ..) (small_one h1 h2 h3 h4) ?_;have I1:AT X ad σ H {s with heap:=s.heap.push {cls:=.type "range",data:=.fields #[.int lo t,.int hi u,.int 1 v]},toks:=tk}:=I.kept λb o e=>YK _ e
 refine⟨(s.heap.push {cls:=.type "range",data:=.fields #[.int lo t,.int hi u,.int 1 v]}).objs.size,[(s.heap.push {cls:=.type "range",data:=.fields #[.int lo t,.int hi u,.int 1 v]}).objs.size],_,_,H,rfl,
  I1.kept (t':=tk) λb o e=>YK _ e,L6 _ lo (hi-lo).toNat,?_,λb hb=>?_,q⟩
 ·have e1:lo+((0:Nat):Int)*1=lo:=by simp
  have e2:(((hi-lo).toNat:Nat):Int)-((0:Nat):Int)=Builtin.Range.rangeSize lo hi 1:=by rw[rangeSize_one];split<;>lia
  show IsRangeIter _ _ (lo+((0:Nat):Int)*1) ((((hi-lo).toNat:Nat):Int)-((0:Nat):Int)) 1;rw[e1,e2];exact YX _ rfl
 ·have e:b=(s.heap.push {cls:=.type "range",data:=.fields #[.int lo t,.int hi u,.int 1 v]}).objs.size:=by simpa using hb
  subst e;exact I1.fpOk (YL _) (I1.hok.fresh (YL _))
def VV(ta:TA):TI:=λσ H R=>ta σ H λvs H1=>∃j:Int,vs=[.int j]/\-(2^62)<=j/\j<2^62/\R (Sb 0 j.toNat) H1
def VW(ta:TA):TI:=λσ H R=>ta σ H λvs H1=>∃i j:Int,vs=[.int i,.int j]/\(-(2^62)<=i/\i<2^62/\-(2^62)<=j/\j<2^62)/\R (Sb i (j-i).toNat) H1
theorem A4{a:Expr}{p pos:Pos}(hg:Gl X "range")(hm:X.mg "range"=none)(ha:PA X [a] ta)(hs:starEach [a] X.env=[(false,eval a X.env)]:=by rfl):PI X tg (.Call (.Name "range" p) [a] [] pos) (VV ta):=by
 intro ad s σ H R I h;refine Call_ (Cf I hg hm boot_range (Y1 (BQ (ha pos ad s σ H _ I h) λus s1 z9=>?_) hs rfl));obtain⟨vs,H1,I1,r1,q1⟩:=z9;obtain⟨j,e,q1,q2,q⟩:=q1;subst e;cases r1 with
 |cons r rr =>
  cases rr;obtain⟨t,rfl⟩:=r;exact call_range_1 (Kn I1 (by lia) (by lia) q1 q2 (by simpa using q))
theorem OH{a b:Expr}{p pos:Pos}(hg:Gl X "range")(hm:X.mg "range"=none)(ha:PA X [a,b] ta)(hs:starEach [a,b] X.env=[(false,eval a X.env),(false,eval b X.env)]:=by rfl)(hs2:starEach [b] X.env=[(false,eval b X.env)]:=by rfl):
  PI X tg (.Call (.Name "range" p) [a,b] [] pos) (VW ta):=by
 intro ad s σ H R I h;refine Call_ (Cf I hg hm boot_range (Y1 (BQ (ha pos ad s σ H _ I h) λus s1 ⟨vs,H1,I1,r1,q1⟩=>?_) (by rw[hs,hs2]) (by rw[hs2];rfl)));obtain⟨i,j,e,⟨q1,q2,q3,q4⟩,q⟩:=q1;subst e;cases r1 with
 |cons r rr =>
  cases rr with
  |cons r' rr =>
   cases rr;obtain⟨t,rfl⟩:=r;obtain⟨t',rfl⟩:=r';exact call_range_2 (Kn I1 q1 q2 q3 q4 q)
def XO(wi:TI)(g:TG)(tb:TS):TS:=λD σ H=>wi σ H λJ H1=>∃W:Nat->Nat->St->Hp->Prop,(∃m,W 0 m σ H1)/\∀i m σ H,W i m σ H ->
 (J.stop i H/\D.nx σ H)\/(J.go i H/\∃N:St->Hp->Prop,(∀σ' H',N σ' H'->∃m',m'<m/\W (i+1) m' σ' H')/\∀x H',J.yld i H x H'->g x σ H' λσ2 H2=>tb {D with nx:=N,ct:=N,bk:=D.nx} σ2 H2)
noncomputable def Fv(fp:List Addr)(h:Heap):List (Addr×Obj):=fp.filterMap λb=>(h.get? b).map λo=>(b,o)
theorem CL{h:Heap}{b:Addr}{o:Obj}(hb:b∈fp)(e:h.get? b=some o):(b,o)∈Fv fp h:=ap.mpr ⟨b,hb,by rw[e];rfl⟩
theorem OI{h:Heap}{p:Addr×Obj}(hp:p∈Fv fp h):p.1∈fp/\h.get? p.1=some p.2:=by
 obtain⟨b,hb,e⟩:=ap.mp hp;cases q:h.get? b with
 |none=>rw[q]at e;cases e
 |some o =>
  rw[q]at e;have e':(b,o)=p:=Option.some.inj e;subst e';exact⟨hb,q⟩
theorem AT.pinned{s:Shared}(I:AT X ad σ H s)(hf:∀b∈fp,C3 X ad H b)(ho:∀b∈fp,∃o,s.heap.get? b=some o/\∀v,o.data≠.cell v):AT X (ad++Fv fp s.heap) σ H s:=
 I.pins_of λp hp=>(YR.mp hp).elim (λz=>I.pin p (YU _ z)) λz=>by obtain⟨hb,e⟩:=OI z;obtain⟨f0,f1,f2,_⟩:=hf p.1 hb;obtain⟨o,e',d⟩:=ho p.1 hb;rw[e]at e';cases e';exact⟨e,f0,f1,f2,d⟩
theorem AT.unpinned{pl:List (Addr×Obj)}{s:Shared}(I:AT X (ad++pl) σ H s):AT X ad σ H s:=I.pins_of λp hp=>I.pin p (YU _ (Z3 _ hp))
theorem BD{iter:Expr}{wi:TI}{g:TG}{tb:TS}{pos:Pos}(hp:PassesOwn (model X.prog X.w) X.A X.env X.xe)(hc:X.calm=true)(hi:PI X tg iter wi)(hg:PG X tg g)(hb:GS X body tb)
  (hs:∀x,foldedSetIterable iter X.env x=pure x:=by intro _;rfl):PS X (.For tg iter body [] pos) (XO wi g tb):=by
 intro ad s σ H D I h;refine wpAny_For (BQ (hi ad s σ H _ I h) λv s1 h1=>BQ h1 λitv s2 h2=>?_) hs;obtain⟨it,fp,tn,J,H2,e,I2,T,st2,f2,W,⟨m0,w0⟩,turn⟩:=h2;subst e;have stat:∀{H':Hp},(∀b∈fp,H' b=none)->∀b∈fp,C3 X ad H' b:=λhn b hb=>⟨hn b hb,(f2 b hb).2⟩
 refine codeAny_forLoop_any (λn s'=>∃i σ' H',AT X ad σ' H' s'/\tn i s'.heap/\(∀b∈fp,H' b=none)/\W i n σ' H') ?_ m0 ⟨0,σ,H2,I2,st2,λb hb=>(f2 b hb).1,w0⟩;rintro n s3 ⟨i,σ3,H3,I3,st3,fr3,w3⟩;rcases turn i n σ3 H3 w3 with⟨stop,qn⟩|⟨go,N,hN,step⟩
 ·refine wpAny_passesOwn hp (BQ (T.done X rfl rfl rfl hc i ad s3 σ3 H3 X.xe I3 (stat fr3) st3 stop) λr s4 z9=>?_);obtain⟨hr,I4⟩:=z9;subst hr;exact wpAny_execs_nil ⟨σ3,H3,I4,qn⟩
 ·refine wpAny_passesOwn hp (BQ (T.item X rfl rfl rfl hc i ad s3 σ3 H3 X.xe I3 (stat fr3) st3 go) λr s4 z9=>?_);obtain⟨u,hr,h4⟩:=z9;subst hr;refine wpAny_passesOwn hp (BQ h4 λ_ s5 z9=>?_);obtain⟨x,H5,I5,r5,y5,st5,fr5⟩:=z9;have I5':=I5.pinned (stat fr5) (T.obj _ _ st5);refine wpAny_passesOwn hp (BQ (hg _ s5 σ3 H5 x u _ I5' r5 (step x H5 y5)) λ_ s6 z9=>?_);obtain⟨σ6,H6,I6,q6⟩:=z9;refine wpAny_passesOwn hp (BQ (hb _ s6 σ6 H6 _ I6 q6) λf s7 q7=>?_);have again:∀{σ7:St} {H7:Hp},AT X (ad++Fv fp s5.heap) σ7 H7 s7->N σ7 H7->∃m,m<n/\∃i σ' H',AT X ad σ' H' s7/\tn i s7.heap/\(∀b∈fp,H' b=none)/\W i m σ' H':=λ{σ7 H7} I7 n7=>by obtain⟨m',hm,w7⟩:=hN σ7 H7 n7;refine⟨m',hm,i+1,σ7,H7,I7.unpinned,T.keep _ _ _ st5 λb hb o e=>(I7.pin (b,o) (YU _ (YU _ (CL hb e)))).1,λb hb=>?_,w7⟩;obtain⟨o,e,d⟩:=T.obj _ _ st5 b hb;exact (I7.pin (b,o) (YU _ (YU _ (CL hb e)))).2.1
  cases f with
  |next=>obtain⟨σ7,H7,I7,n7⟩:=q7;exact again I7 n7
  |cont=>obtain⟨σ7,H7,I7,n7⟩:=q7;exact again I7 n7
  |brk=>obtain⟨σ7,H7,I7,q7⟩:=q7;exact⟨σ7,H7,I7.unpinned,q7⟩
  |ret v=>obtain⟨x7,σ7,H7,I7,r7,q7⟩:=q7;exact⟨x7,σ7,H7,I7.unpinned,r7,q7⟩
end
theorem CY{K:qJ}{g:TG}{tb:TS}(Pv:Nat->St->Hp->Prop)(h0:Pv 0 σ H)(hl:∀i σ H,i<=xs.length->Pv i σ H->Ai K H a xs)
  (hs:∀i x σ H,xs[i]?=some x->Pv i σ H->g x σ H λσ2 H2=>tb {D with nx:=Pv (i+1),ct:=Pv (i+1),bk:=D.nx} σ2 H2) (hd:∀σ H,Pv xs.length σ H->D.nx σ H):
  ∃W:Nat->Nat->St->Hp->Prop,(∃m,W 0 m σ H)/\∀i m σ H,W i m σ H ->
   ((VI K a).stop i H/\D.nx σ H)\/((VI K a).go i H/\∃N:St->Hp->Prop,(∀σ' H',N σ' H'->∃m',m'<m/\W (i+1) m' σ' H')/\∀x H',(VI K a).yld i H x H'->g x σ H' λσ2 H2=>tb {D with nx:=N,ct:=N,bk:=D.nx} σ2 H2):=by
 refine⟨λi m σ H=>m=xs.length-i/\i<=xs.length/\Pv i σ H,⟨xs.length,by simp,Nat.zero_le _,h0⟩,?_⟩;rintro i m σ H ⟨rfl,hi,p⟩;have q:=hl i σ H hi p
 by_cases hlt:i<xs.length
 ·refine .inr ⟨⟨xs,xs[i],q,by simp[hlt]⟩,Pv (i+1),λσ' H' p'=>⟨xs.length-(i+1),by lia,rfl,hlt,p'⟩,λx H' y=>?_⟩;obtain⟨e,y⟩:=y;subst e;exact hs i x σ _ (y xs q) p
 ·have e:i=xs.length:=by lia
  subst e;exact .inl ⟨⟨xs,q,YL _⟩,hd σ H p⟩
theorem RD{K:qJ}{g:TG}{tb:TS}(Pv:Nat->St->Hp->Prop)(h0:Pv 0 σ H)(hl:∀i σ H,i<=xs.length->Pv i σ H->Ad K H a xs)
  (hs:∀i x σ H,xs[i]?=some x->Pv i σ H->g x σ H λσ2 H2=>tb {D with nx:=Pv (i+1),ct:=Pv (i+1),bk:=D.nx} σ2 H2) (hd:∀σ H,Pv xs.length σ H->D.nx σ H):
  ∃W:Nat->Nat->St->Hp->Prop,(∃m,W 0 m σ H)/\∀i m σ H,W i m σ H ->
   ((VU K a).stop i H/\D.nx σ H)\/((VU K a).go i H/\∃N:St->Hp->Prop,(∀σ' H',N σ' H'->∃m',m'<m/\W (i+1) m' σ' H')/\∀x H',(VU K a).yld i H x H'->g x σ H' λσ2 H2=>tb {D with nx:=N,ct:=N,bk:=D.nx} σ2 H2):=by
 refine⟨λi m σ H=>m=xs.length-i/\i<=xs.length/\Pv i σ H,⟨xs.length,by simp,Nat.zero_le _,h0⟩,?_⟩;rintro i m σ H ⟨rfl,hi,p⟩;have q:=hl i σ H hi p
 by_cases hlt:i<xs.length
 ·refine .inr ⟨⟨xs,xs[i],q,by simp[hlt]⟩,Pv (i+1),λσ' H' p'=>⟨xs.length-(i+1),by lia,rfl,hlt,p'⟩,λx H' y=>?_⟩;obtain⟨e,y⟩:=y;subst e;exact hs i x σ _ (y xs q) p
 ·have e:i=xs.length:=by lia
  subst e;exact .inl ⟨⟨xs,q,YL _⟩,hd σ H p⟩
theorem BX{n:Nat}{g:TG}{tb:TS}(Pv:Nat->St->Hp->Prop)(h0:Pv 0 σ H)
  (hs:∀i σ H,i<n->Pv i σ H->g (.int (lo+i)) σ H λσ2 H2=>tb {D with nx:=Pv (i+1),ct:=Pv (i+1),bk:=D.nx} σ2 H2) (hd:∀σ H,Pv n σ H->D.nx σ H):
  ∃W:Nat->Nat->St->Hp->Prop,(∃m,W 0 m σ H)/\∀i m σ H,W i m σ H ->
   ((Sb lo n).stop i H/\D.nx σ H)\/((Sb lo n).go i H/\∃N:St->Hp->Prop,(∀σ' H',N σ' H'->∃m',m'<m/\W (i+1) m' σ' H')/\∀x H',(Sb lo n).yld i H x H'->g x σ H' λσ2 H2=>tb {D with nx:=N,ct:=N,bk:=D.nx} σ2 H2):=by
 refine⟨λi m σ H=>m=n-i/\i<=n/\Pv i σ H,⟨n,by simp,Nat.zero_le _,h0⟩,?_⟩;rintro i m σ H ⟨rfl,hi,p⟩
 by_cases hlt:i<n
 ·refine .inr ⟨hlt,Pv (i+1),λσ' H' p'=>⟨n-(i+1),by lia,rfl,hlt,p'⟩,λx H' y=>?_⟩;obtain⟨e,y⟩:=y;subst e y;exact hs i σ _ hlt p
 ·have e:i=n:=by lia
  subst e;exact .inl ⟨YL _,hd σ H p⟩
theorem EC{c:TT}{tb:TS}(Pv:St->Hp->Prop)(μ:St->Hp->Nat)(h0:Pv σ H)
  (hs:∀σ H,Pv σ H->c σ H λb H1=>if b=true then tb {D with nx:=λσ' H'=>Pv σ' H'/\μ σ' H'<μ σ H,ct:=λσ' H'=>Pv σ' H'/\μ σ' H'<μ σ H,bk:=D.nx} σ H1 else D.nx σ H1)
  (mono:∀σ H Q Q',(∀b H1,Q b H1->Q' b H1)->c σ H Q->c σ H Q'):O3 c tb D σ H:=by
 refine⟨λm σ H=>m=μ σ H/\Pv σ H,⟨_,rfl,h0⟩,?_⟩;rintro m σ H ⟨rfl,p⟩;refine mono σ H _ _ (λb H1 q=>?_) (hs σ H p);cases b with
 |true=>exact⟨_,λσ' H' ⟨p',l⟩=>⟨_,l,rfl,p'⟩,q⟩
 |false=>exact q
abbrev R2:=V->V->Hp->VK->Prop
def Fw(X:Cx)(f:Value->Value->Sem Value)(r:R2):Prop:=
 ∀(ad:List (Addr×Obj)) (s:Shared) (σ:St) (H:Hp) (x y:V) (v u:Value) (Q:VK),AT X ad σ H s->A8 x v->A8 y u->r x y H Q ->
  wpAny (model X.prog X.w) X.A (f v u) (EP X ad σ Q) X.xe s
def XQ(X:Cx)(f:Value->Sem Value)(r:V->Hp->VK->Prop):Prop:=
 ∀(ad:List (Addr×Obj)) (s:Shared) (σ:St) (H:Hp) (x:V) (v:Value) (Q:VK),AT X ad σ H s->A8 x v->r x H Q ->
  wpAny (model X.prog X.w) X.A (f v) (EP X ad σ Q) X.xe s
def CK(X:Cx)(f:Value)(r:List V->Hp->VK->Prop):Prop:=
 ∀(ad:List (Addr×Obj)) (s:Shared) (σ:St) (H:Hp) (xs:List V) (us:List Value) (Q:VK),AT X ad σ H s->Ax xs us->r xs H Q ->
  wpAny (model X.prog X.w) X.A (call f us) (EP X ad σ Q) X.xe s
def VJ(r:R2)(ta tb:TE):TE:=λσ H Q=>ta σ H λx H1=>tb σ H1 λy H2=>r x y H2 Q
def X4(r:V->Hp->VK->Prop)(ta:TE):TE:=λσ H Q=>ta σ H λx H1=>r x H1 Q
def rI(C:Int->Int->Prop)(g:Int->Int->V):R2:=λx y H Q=>∃i j,x=.int i/\y=.int j/\C i j/\Q (g i j) H
def RE(g:Int->Int->V):R2:=λx y H Q=>∃i j,x=.int i/\y=.int j/\Q (g i j) H
def rU(g:Int->V):V->Hp->VK->Prop:=λx H Q=>∃i,x=.int i/\Q (g i) H
section
variable{X:Cx}{a b c:Expr}{ta tb tc:TE}{pos:Pos}
theorem Th(ha:PE X a ta)(hb:PE X b tb){s:Shared}{R:V->V->Hp->Prop}(I:AT X ad σ H s)
  (h:ta σ H λx H1=>tb σ H1 λy H2=>R x y H2) {Q:Value->Shared->Prop} {f:Value->Value->Sem Value}
  (hf:∀v u s2 x y H2,AT X ad σ H2 s2->A8 x v->A8 y u->R x y H2->wpAny (model X.prog X.w) X.A (f v u) Q X.xe s2):
  wpAny (model X.prog X.w) X.A (eval a X.env) (λv s₁=>wpAny (model X.prog X.w) X.A (eval b X.env) (λu s₂=>wpAny (model X.prog X.w) X.A (f v u) Q X.xe s₂) X.xe s₁) X.xe s:=by
 refine BQ (ha ad s σ H _ I h) λv s1 z9=>?_;obtain⟨x,H1,I1,r1,q1⟩:=z9;refine BQ (hb ad s1 σ H1 _ I1 q1) λu s2 z9=>?_;obtain⟨y,H2,I2,r2,q2⟩:=z9;exact hf v u s2 x y H2 I2 r1 r2 q2
theorem AG{op:Operator}{r:R2}(ho:Fw X (binaryOp op) r)(ha:PE X a ta)(hb:PE X b tb):PE X (.BinOp a op b pos) (VJ r ta tb):=by intro ad s σ H Q I h;exact wpAny_BinOp (Th ha hb I h λv u s2 x y H2 I2 rx ry q=>ho ad s2 σ H2 x y v u Q I2 rx ry q)
theorem JM{op:UnaryOp}{r:V->Hp->VK->Prop}(ho:XQ X (unaryOp op) r)(ha:PE X a ta):PE X (.UnaryOp op a pos) (X4 r ta):=by intro ad s σ H Q I h;exact UnaryOp_ (BQ (ha ad s σ H _ I h) λv s1 ⟨x,H1,I1,r1,q1⟩=>ho ad s1 σ H1 x v Q I1 r1 q1)
theorem XA{f:Value->Value->Sem Value}{C:Int->Int->Prop}{g:Int->Int->Int}
  (rule:∀(i j:Int) (t u:Tok) (s:Shared) (Q:Value->Shared->Prop) (E:Value->Shared->Prop),C i j->Q (.int (g i j) s.toks) {s with toks:=s.toks+1}->wpAny (model X.prog X.w) X.A (f (.int i t) (.int j u)) Q E s):
  Fw X f (rI C λi j=>.int (g i j)):=by
 intro ad s σ H x y v u Q I rx ry h;obtain⟨i,j,rfl,rfl,hc,q⟩:=h;obtain⟨t,rfl⟩:=rx;obtain⟨t',rfl⟩:=ry;exact rule i j t t' s _ _ hc ⟨.int (g i j),H,I.tok _,⟨_,rfl⟩,q⟩
theorem VX{f:Value->Value->Sem Value}{g:Int->Int->Int}
  (rule:∀(i j:Int) (t u:Tok) (s:Shared) (Q:Value->Shared->Prop) (E:Value->Shared->Prop),Q (.int (g i j) s.toks) {s with toks:=s.toks+1}->wpAny (model X.prog X.w) X.A (f (.int i t) (.int j u)) Q E s):
  Fw X f (RE λi j=>.int (g i j)):=by
 intro ad s σ H x y v u Q I rx ry h;obtain⟨i,j,rfl,rfl,q⟩:=h;obtain⟨t,rfl⟩:=rx;obtain⟨t',rfl⟩:=ry;exact rule i j t t' s _ _ ⟨.int (g i j),H,I.tok _,⟨_,rfl⟩,q⟩
theorem RF{f:Value->Value->Sem Value}{g:Int->Int->Bool}
  (rule:∀(i j:Int) (t u:Tok) (s:Shared) (Q:Value->Shared->Prop) (E:Value->Shared->Prop),Q (.bool (g i j)) s->wpAny (model X.prog X.w) X.A (f (.int i t) (.int j u)) Q E s):
  Fw X f (RE λi j=>.bl (g i j)):=by
 intro ad s σ H x y v u Q I rx ry h;obtain⟨i,j,rfl,rfl,q⟩:=h;obtain⟨t,rfl⟩:=rx;obtain⟨t',rfl⟩:=ry;exact rule i j t t' s _ _ ⟨.bl (g i j),H,I,rfl,q⟩
def VY(i j:Int):Prop:=0<j/\j<1073741824
def VZ(i j:Int):Prop:=0<=j/\j<=1000000/\i.natAbs<2^64
def RG(i j:Int):Prop:=(-(2^64)<i/\i<2^64)\/(-(2^64)<j/\j<2^64)
theorem RG.ok{i j:Int}(h:RG i j):IntMulOk i j:=by
 rcases h with⟨h1,h2⟩|⟨h1,h2⟩
 ·exact .of_left (intBits_le_64 h1 h2)
 ·exact .of_right (intBits_le_64 h1 h2)
theorem AY:Fw X (binaryOp .Add) (RE λi j=>.int (i+j)):=VX λ_ _ _ _ _ _ _ q=>add_int q
theorem An:Fw X (binaryOp .Sub) (RE λi j=>.int (i-j)):=VX λ_ _ _ _ _ _ _ q=>sub_int q
theorem A9:Fw X (binaryOp .Mult) (rI RG λi j=>.int (i*j)):=XA λ_ _ _ _ _ _ _ hc q=>mul_int q hc.ok
theorem BF:Fw X (binaryOp .FloorDiv) (rI VY λi j=>.int (i/j)):=XA λi j _ _ _ _ _ hc q=>by have h1:(0:Int)<j:=hc.1;have h2:j<1073741824:=hc.2;exact floordiv_int (by lia) (by rw[Int.fdiv_eq_ediv_of_nonneg i (by lia)];exact q) (.inl (PyProof.noPylong_small (by lia)))
theorem Aa:Fw X (binaryOp .Mod) (rI (λ_ j=>0<j) λi j=>.int (i%j)):=XA λi j _ _ _ _ _ hc q=>by have h1:(0:Int)<j:=hc;exact mod_int' (by lia) (by rw[Int.fmod_eq_emod_of_nonneg i (by lia)];exact q)
theorem O5:Fw X (binaryOp .Pow) (rI VZ λi j=>.int (i^j.toNat)):=XA λ_ _ _ _ _ _ _ hc q=>pow_int_small hc.1 hc.2.1 hc.2.2 q
theorem YD{f:Value->Sem Value}{g:Int->Int}
  (rule:∀(i:Int) (t:Tok) (s:Shared) (Q:Value->Shared->Prop) (E:Value->Shared->Prop),Q (.int (g i) s.toks) {s with toks:=s.toks+1}->wpAny (model X.prog X.w) X.A (f (.int i t)) Q E s):
  XQ X f (rU λi=>.int (g i)):=by
 intro ad s σ H x v Q I rx h;obtain⟨i,rfl,q⟩:=h;obtain⟨t,rfl⟩:=rx;exact rule i t s _ _ ⟨.int (g i),H,I.tok _,⟨_,rfl⟩,q⟩
theorem Fx:XQ X (unaryOp .USub) (rU λi=>.int (-i)):=YD λ_ _ _ _ _ q=>neg_int q
end
noncomputable def Ti:V->V->Bool
 |.non,.non=>true|.non,.int _=>true|.int _,.non=>true|.non,.bl _=>true|.bl _,.non=>true|.non,.str _=>true|.str _,.non=>true
 |.int _,.int _=>true|.bl _,.bl _=>true|.str _,.str _=>true|.byt _,.byt _=>true
 |.int _,.str _=>true|.str _,.int _=>true|.bl _,.str _=>true|.str _,.bl _=>true
 |_,_=>false
def X5:R2:=λx y H Q=>Ti x y=true/\Q (.bl (decide (x=y))) H
def X6:R2:=λx y H Q=>Ti x y=true/\Q (.bl (!decide (x=y))) H
theorem ND{i j:Int}:decide (V.int i=V.int j)=(i==j):=by rw[aq];simp
theorem O6{i j:Bool}:decide (V.bl i=V.bl j)=(i==j):=by rw[aq];simp
theorem NE{i j:Str}:decide (V.str i=V.str j)=(i==j):=by rw[aq];simp
theorem NF{i j:Array UInt8}:decide (V.byt i=V.byt j)=(i.toList==j.toList):=by rw[aq];cases i;cases j;simp
section
variable{X:Cx}{a b c:Expr}{ta tb tc:TE}{pos:Pos}
theorem A3{s:Shared}{Q:VK}{k k':Bool}(I:AT X ad σ H s)(q:Q (.bl k) H)(e:k=k'):EP X ad σ Q (.bool k') s:=by subst e;exact⟨.bl k,H,I,rfl,q⟩
theorem BG:Fw X (compareOp .Eq) X5:=by
 intro ad s σ H x y v u Q I rx ry h;obtain⟨hs,q⟩:=h;cases x with
 |non =>
  cases rx;cases y with
  |non=>cases ry;exact PySem.EqNone.eq_none_none (A3 I q (by simp))
  |bl j=>cases ry;exact PySem.EqNone.eq_none_bool (A3 I q (by simp))
  |int j=>obtain⟨t',rfl⟩:=ry;exact PySem.EqNone.eq_none_int (A3 I q (by simp))
  |str j=>obtain⟨t',rfl⟩:=ry;exact PySem.EqNone.eq_none_str (A3 I q (by simp))
  |_=>exact qG (show false=true from hs) Ya
 |bl i =>
  cases rx;cases y with
  |non=>cases ry;exact PySem.EqNone.eq_bool_none (A3 I q (by simp))
  |bl j=>cases ry;exact eq_bool (A3 I q O6)
  |str j=>obtain⟨t',rfl⟩:=ry;exact PySem.EqMixed.eq_bool_str (A3 I q (by simp))
  |_=>exact qG (show false=true from hs) Ya
 |int i =>
  obtain⟨t,rfl⟩:=rx;cases y with
  |non=>cases ry;exact PySem.EqNone.eq_int_none (A3 I q (by simp))
  |int j=>obtain⟨t',rfl⟩:=ry;exact eq_int (A3 I q ND)
  |str j=>obtain⟨t',rfl⟩:=ry;exact PySem.EqMixed.eq_int_str (A3 I q (by simp))
  |_=>exact qG (show false=true from hs) Ya
 |str i =>
  obtain⟨t,rfl⟩:=rx;cases y with
  |non=>cases ry;exact PySem.EqNone.eq_str_none (A3 I q (by simp))
  |bl j=>cases ry;exact PySem.EqMixed.eq_str_bool (A3 I q (by simp))
  |int j=>obtain⟨t',rfl⟩:=ry;exact PySem.EqMixed.eq_str_int (A3 I q (by simp))
  |str j=>obtain⟨t',rfl⟩:=ry;exact eq_str (A3 I q NE)
  |_=>exact qG (show false=true from hs) Ya
 |byt i =>
  obtain⟨t,rfl⟩:=rx;cases y with
  |byt j=>obtain⟨t',rfl⟩:=ry;exact PySem.W.eq_bytes (A3 I q NF)
  |_=>exact qG (show false=true from hs) Ya
 |_=>cases y<;>exact qG (show false=true from hs) Ya
theorem ED:Fw X (compareOp .NotEq) X6:=by
 intro ad s σ H x y v u Q I rx ry h;obtain⟨hs,q⟩:=h;cases x with
 |non =>
  cases rx;cases y with
  |non=>cases ry;exact PySem.EqNone.ne_none_none (A3 I q (by simp))
  |bl j=>cases ry;exact PySem.EqNone.ne_none_bool (A3 I q (by simp))
  |int j=>obtain⟨t',rfl⟩:=ry;exact PySem.EqNone.ne_none_int (A3 I q (by simp))
  |str j=>obtain⟨t',rfl⟩:=ry;exact PySem.EqNone.ne_none_str (A3 I q (by simp))
  |_=>exact qG (show false=true from hs) Ya
 |bl i =>
  cases rx;cases y with
  |non=>cases ry;exact PySem.EqNone.ne_bool_none (A3 I q (by simp))
  |bl j=>cases ry;exact ne_bool (A3 I q (congrArg not O6))
  |str j=>obtain⟨t',rfl⟩:=ry;exact PySem.EqMixed.ne_bool_str (A3 I q (by simp))
  |_=>exact qG (show false=true from hs) Ya
 |int i =>
  obtain⟨t,rfl⟩:=rx;cases y with
  |non=>cases ry;exact PySem.EqNone.ne_int_none (A3 I q (by simp))
  |int j=>obtain⟨t',rfl⟩:=ry;exact ne_int (A3 I q (congrArg not ND))
  |str j=>obtain⟨t',rfl⟩:=ry;exact PySem.EqMixed.ne_int_str (A3 I q (by simp))
  |_=>exact qG (show false=true from hs) Ya
 |str i =>
  obtain⟨t,rfl⟩:=rx;cases y with
  |non=>cases ry;exact PySem.EqNone.ne_str_none (A3 I q (by simp))
  |bl j=>cases ry;exact PySem.EqMixed.ne_str_bool (A3 I q (by simp))
  |int j=>obtain⟨t',rfl⟩:=ry;exact PySem.EqMixed.ne_str_int (A3 I q (by simp))
  |str j=>obtain⟨t',rfl⟩:=ry;exact ne_str (A3 I q (congrArg not NE))
  |_=>exact qG (show false=true from hs) Ya
 |byt i =>
  obtain⟨t,rfl⟩:=rx;cases y with
  |byt j=>obtain⟨t',rfl⟩:=ry;exact PySem.W.ne_bytes (A3 I q (congrArg not NF))
  |_=>exact qG (show false=true from hs) Ya
 |_=>cases y<;>exact qG (show false=true from hs) Ya
theorem Ck:Fw X (compareOp .Lt) (RE λi j=>.bl (decide (i<j))):=RF λ_ _ _ _ _ _ _ q=>lt_int q
theorem Sc:Fw X (compareOp .LtE) (RE λi j=>.bl (decide (i<=j))):=RF λ_ _ _ _ _ _ _ q=>le_int q
theorem EE:Fw X (compareOp .Gt) (RE λi j=>.bl (decide (j<i))):=RF λ_ _ _ _ _ _ _ q=>gt_int q
theorem Ko:Fw X (compareOp .GtE) (RE λi j=>.bl (decide (j<=i))):=RF λ_ _ _ _ _ _ _ q=>ge_int q
theorem O7:Fw X (compareOp .Is) (λx y H Q=>y=.non/\Q (.bl (decide (x=.non))) H):=by
 intro ad s σ H x y v u Q I rx ry h;obtain⟨rfl,q⟩:=h;cases ry;refine is_none_gen (A3 I q ?_)
 cases x<;>first
  | (cases rx;rfl)
  | (obtain⟨t,rfl⟩:=rx;rfl)
theorem NG:Fw X (compareOp .IsNot) (λx y H Q=>y=.non/\Q (.bl (!decide (x=.non))) H):=by
 intro ad s σ H x y v u Q I rx ry h;obtain⟨rfl,q⟩:=h;cases ry;refine isnot_none_gen (A3 I q ?_)
 cases x<;>first
  | (cases rx;rfl)
  | (obtain⟨t,rfl⟩:=rx;rfl)
theorem AR(b:Expr)(h:op≠.In:=by decide)(h2:op≠.NotIn:=by decide):behindInMarks op b=false:=by
 have e1:(op==CmpOp.In)=false:=by cases op<;>first|rfl|exact qG rfl h
 have e2:(op==CmpOp.NotIn)=false:=by cases op<;>first|rfl|exact qG rfl h2
 cases b<;>simp[behindInMarks,e1,e2]
theorem Bs{r:R2}(ho:Fw X (compareOp op) r)(ha:PE X a ta)(hb:PE X b tb)(hm:behindInMarks op b=false):PE X (.Compare a [op] [b] pos) (VJ r ta tb):=by intro ad s σ H Q I h;exact wpAny_Compare1 (Th ha hb I h λv u s2 x y H2 I2 rx ry q=>ho ad s2 σ H2 x y v u Q I2 rx ry q) hm
def Sd(t:TE):TT:=λσ H Q=>t σ H λx H'=>∃k,x=.bl k/\Q k H'
theorem AM{r:R2}(ho:Fw X (compareOp op) r)(ha:PE X a ta)(hb:PE X b tb)(hm:behindInMarks op b=false):PT X (.Compare a [op] [b] pos) (Sd (VJ r ta tb)):=by
 intro ad s σ H Q I h
 refine wpAny_isTrue_Compare1 (BQ (ha ad s σ H _ I h) λv s1 ⟨x,H1,I1,r1,q1⟩=>BQ (hb ad s1 σ H1 _ I1 q1) λu s2 ⟨y,H2,I2,r2,q2⟩ =>
  BQ (ho ad s2 σ H2 x y v u _ I2 r1 r2 q2) λc s3 ⟨z,H3,I3,r3,k,e,q3⟩=>?_) hm
 subst e;cases r3;exact wpAny_truthy_bool ⟨H3,I3,q3⟩
theorem Jv:(sizeLine:Nat)<2^63:=by rw[sizeLine_eq];decide
theorem Ev{x:V}(r:Ax [x] us):∃u,us=[u]/\A8 x u:=by
 cases r with
 |cons r1 r2=>cases r2;exact⟨_,rfl,r1⟩
theorem O8{x y:V}(r:Ax [x,y] us):∃u w',us=[u,w']/\A8 x u/\A8 y w':=by
 cases r with
 |cons r1 r2 =>
  cases r2 with
  |cons r3 r4=>cases r4;exact⟨_,_,rfl,r1,r3⟩
end
structure Tj(h:Heap)(x dx C:Addr)(mA:Str->Option Value):Prop where
 obj:h.get? x=some (PySem.W.instObj C dx)
 ns:h.Ns1 dx mA
 ne:dx≠x
theorem OJ{h:Heap}{dx:Addr}{mA:Str->Option Value}(n:h.Ns1 dx mA):∃od,h.get? dx=some od/\∀name,PySem.W.lookIn name od=some (mA name):=by
 obtain⟨o,es,ep,ho,hd,hk,_,hm⟩:=n;refine⟨o,ho,λname=>?_⟩;have e:=hm name;unfold nsFind findBy at e;rw[<-Array.find?_toList]at e;unfold PySem.W.lookIn;rw[hd];dsimp only;split
 ·rename_i y q
  rw[q]at e;exact congrArg some e
 ·rename_i q
  rw[q]at e
  have a:es.toList.any (·.refKey)=false:=by rw[List.any_eq_false];intro y hy;obtain⟨z,t,hkey⟩:=hk y (Array.mem_toList_iff.mp hy);simp[DictEntry.refKey,hkey]
  have a':¬es.toList.any (·.refKey)=true:=by rw[a];exact Ya
  rw[qE a'];exact congrArg some e
variable{C:Addr}
theorem Tj.look{h:Heap}{x dx:Addr}{mA:Str->Option Value}(I:Tj h x dx C mA):∃od,PySem.W.InstAt h x (PySem.W.instObj C dx) C (some od)/\∀name,PySem.W.lookIn name od=some (mA name):=
 let ⟨od,ho,hl⟩:=OJ I.ns
 ⟨od,⟨I.obj,rfl,rfl,ho⟩,hl⟩
theorem Jt.some_of{v:V}{o:Option Value}(r:Jt (some v) o):∃u,o=some u/\A8 v u:=by
 cases o with
 |none=>exact (show False from r).elim
 |some u=>exact⟨u,rfl,r⟩
section
variable{P:Program}{w:World}{h h':Heap}{dx:Addr}{fs fs':List (Str×V)}
theorem NH(hok:D9 P w H h)(e:H a=some (.ins C dx fs)):∃mA,Tj h a dx C mA/\(∀f,Jt (fs.lookup f) (mA f))/\PySem.Within mA (fs.map (·.1))/\fs.length<=1000/\H dx=some (.own a):=by obtain⟨d,z,ne,ob,mA,n,r,q⟩:=(show Ay P w H h a (.ins C dx fs) from hok a _ e);exact⟨mA,⟨ob,n,ne⟩,r,q,z,d⟩
end
structure XR(K:qJ)(C:Addr):Prop where
 pg:PySem.W.plainGet K C Str.empty=true
 hd:PySem.W.hasDictIn K C=true
 po:PySem.W.plainOver K C=true
 sa:PySem.W.findIn K (.ref C) "__setattr__"=some (some (.builtin "object.__setattr__"))
theorem XR.get{K:qJ}(c:XR K C)(f:Str):PySem.W.plainGet K C f=true:=c.pg
section
variable{X:Cx}{s:Shared}{A:Around}{c:Value}{b:Bool}
inductive Fy(K:qJ)(H:Hp):V->Value->Prop where
 |non:Fy K H .non (.type "NoneType")
 |bl (x:Bool):Fy K H (.bl x) (.type "bool")
 |int (i:Int):Fy K H (.int i) (.type "int")
 |str (x:Str):Fy K H (.str x) (.type "str")
 |flt (x:UInt64):Fy K H (.flt x) (.type "float")
 |lst {a:Addr} {xs:List V} (e:H a=some (.lst xs)):Fy K H (.ref a) (.type "list")
 |frz {a:Addr} {o:Obj} {xs:List V} (e:H a=some (.frz o (.lst xs))):Fy K H (.ref a) (.type "list")
 |tup {a:Addr} {xs:List V} (e:H a=some (.tup xs)):Fy K H (.ref a) (.type "tuple")
 |dK {a:Addr} {kvs:List (B6×V)} (e:H a=some (.dK kvs)):Fy K H (.ref a) (.type "dict")
 |dT {a:Addr} {kvs:List (List B6×V)} (e:H a=some (.dT kvs)):Fy K H (.ref a) (.type "dict")
 |ins {a C dx:Addr} {fs:List (Str×V)} (e:H a=some (.ins C dx fs)) (cl:XR K C) (ha:PySem.W.findIn K (.ref C) "__class__"=some (some (.builtin "object.__class__")))
   (hn:PySem.W.specialIn K (.builtin "object.__class__") "__get__"=some (some (.builtin "getset_descriptor.__get__"))) (htk:PySem.W.takesIn K (.builtin "object.__class__")=some true)
   (hm:PySem.W.mroIn K C (.type "object")=some true):Fy K H (.ref a) (.ref C)
theorem OK{x:V}{t:Value}(I:AT X ad σ H s)(rx:A8 x u)(ty:Fy X.K H x t)(e:PySem.W.kitOne X.K t c=some b)(h:∀tk,Q (.bool b) {s with toks:=tk}):
  wpAny (model X.prog X.w) A (call (.builtin "isinstance") [u,c]) Q E s:=by
 cases ty with
 |non=>cases (show u=Value.none from rx);exact ZR PySem.W.kitx_none I.kIn True.intro e (λz=>nomatch z) h
 |bl y=>cases (show u=Value.bool y from rx);exact ZR PySem.W.kitx_bool I.kIn True.intro e (λz=>nomatch z) h
 |int i=>obtain⟨t,q⟩:=(show ∃t,u=Value.int i t from rx);cases q;exact ZR PySem.W.kitx_int I.kIn True.intro e (λz=>nomatch z) h
 |str y=>obtain⟨t,q⟩:=(show ∃t,u=Value.str y t from rx);cases q;exact ZR PySem.W.kitx_str I.kIn True.intro e (λz=>nomatch z) h
 |flt y=>obtain⟨t,q⟩:=(show ∃t,u=Value.float y t from rx);cases q;exact ZR PySem.W.kitx_float I.kIn True.intro e (λz=>nomatch z) h
 | @lst a xs ea =>
  cases (show u=Value.ref a from rx);obtain⟨_,_,n,_,h1⟩:=(show Ay X.prog X.w H s.heap a (.lst xs) from I.hok a _ ea);exact ZR bA I.kIn ⟨_,h1,rfl⟩ e (λz=>nomatch z) h
 | @frz a ob xs ea =>
  cases (show u=Value.ref a from rx);obtain⟨_,_,_,n,_,h1⟩:=(show Ay X.prog X.w H s.heap a (.frz ob (.lst xs)) from I.hok a _ ea);exact ZR bA I.kIn ⟨_,h1,rfl⟩ e (λz=>nomatch z) h
 | @tup a xs ea =>
  cases (show u=Value.ref a from rx);obtain⟨_,_,_,p⟩:=(show Ay X.prog X.w H s.heap a (.tup xs) from I.hok a _ ea);obtain⟨o,h1,h2,_⟩:=p;exact ZR PySem.W.kitx_tuple I.kIn ⟨o,h1,h2⟩ e (λz=>nomatch z) h
 | @dK a kvs ea =>
  cases (show u=Value.ref a from rx);obtain⟨_,_,vs,_,p⟩:=(show Ay X.prog X.w H s.heap a (.dK kvs) from I.hok a _ ea);obtain⟨o,es,ep,h1,h2,_⟩:=p;exact ZR bB I.kIn ⟨o,h1,h2.1⟩ e (λz=>nomatch z) h
 | @dT a kvs ea =>
  cases (show u=Value.ref a from rx);obtain⟨_,_,xs,_,o,es,ep,h1,h2,_⟩:=(show Ay X.prog X.w H s.heap a (.dT kvs) from I.hok a _ ea);exact ZR bB I.kIn ⟨o,h1,h2.1⟩ e (λz=>nomatch z) h
 | @ins a C dx fs ea cl ha hn htk hm =>
  cases (show u=Value.ref a from rx);obtain⟨mA,O,_⟩:=NH I.hok ea;obtain⟨od,J,_⟩:=O.look;exact ZR (PySem.W.kitx_own (cl.get _) cl.hd ha hn htk hm) I.kIn J e (λz=>nomatch z) h
end
structure Br(k:Nat)(A:Around):Prop where
 hd:A.handled=none
 dp:A.depth+3*k+5<recursionLimit
 un:A.units+16*k+200<cLine
theorem Br.mono{k:Nat}{A:Around}(r:Br k A)(h:j<=k):Br j A:=⟨r.hd,by have:=r.dp;lia,by have:=r.un;lia⟩
theorem Br.deeper{k:Nat}{A:Around}(r:Br (k+1) A)(env:Env):Br k (A.deeper env):=
 ⟨r.hd,by have:=r.dp;show A.depth+1+3*k+5<_;lia,by have:=r.un;show A.units+3+16*k+200<_;lia⟩
theorem Br.in1{k:Nat}{A:Around}(r:Br (k+1) A):Br k A.in1:=
 ⟨r.hd,by have:=r.dp;show A.depth+3*k+5<_;lia,by have:=r.un;show A.units+1+16*k+200<_;lia⟩
theorem Br.depth{k:Nat}{A:Around}(r:Br k A):A.depth<recursionLimit:=by have:=r.dp;lia
theorem Br.units{k:Nat}{A:Around}(r:Br k A):A.units+64<cLine:=by have:=r.un;lia
def Jw:TA:=λ_ H Q=>Q [] H
def FN(ta:TE)(tr:TA):TA:=λσ H Q=>ta σ H λx H1=>tr σ H1 λxs H2=>Q (x::xs) H2
section
variable{X:Cx}{e:Expr}{t:TA}{pos:Pos}
theorem AD:PA X [] Jw:=λ_ _ _ _ H Q I h=>Calls.spliced_nil ⟨[],H,I,.nil,h⟩
theorem AA(ha:PE X e te)(hr:PA X es t)(hs:starEach (e::es) X.env=(false,eval e X.env)::starEach es X.env:=by rfl):PA X (e::es) (FN te t):=by intro pos ad s σ H Q I h;rw[hs];show wpAny _ _ (spliced ((false,eval e X.env)::backTo pos (starEach es X.env))) _ _ s;refine Calls.spliced_cons (BQ (ha ad s σ H _ I h) λu s1 z9=>?_);obtain⟨x,H1,I1,r1,q1⟩:=z9;exact BQ (hr pos ad s1 σ H1 _ I1 q1) λus s2 ⟨xs,H2,I2,r2,q2⟩=>⟨x::xs,H2,I2,.cons r1 r2,q2⟩
def Tk(t:TA):TE:=λσ H Q=>t σ H λxs H1=>xs.length<=sizeLine/\∀p,H1 p=none->Q (.ref p) (Ac H1 p (.tup xs))
def Tl(t:TA):TE:=λσ H Q=>t σ H λxs H1=>xs.length<=sizeLine/\∀p,H1 p=none->Q (.ref p) (Ac H1 p (.lst xs))
theorem Cg{x1}(h:PA X es t):PE X (.Tuple es x1 pos) (Tk t):=by intro ad s σ H Q I hq;refine wpAny_Tuple_spliced (BQ (h pos ad s σ H _ I hq) λus s1 ⟨xs,H1,I1,r,z,q⟩=>⟨by rw[<-r.length];exact z,?_⟩);have hf:H1 s1.heap.objs.size=none:=I1.hok.fresh (YL _);refine⟨.ref s1.heap.objs.size,Ac H1 s1.heap.objs.size (.tup xs),I1.laid (t':=s1.toks) (λb u e=>YK _ e) (YL _) ?_,rfl,q _ hf⟩;exact⟨z,us,r,⟨_,YX _ rfl,rfl,_,rfl⟩⟩
theorem BB(h:PA X es t):PE X (.List es pos) (Tl t):=by intro ad s σ H Q I hq;refine wpAny_List_spliced (BQ (h pos ad s σ H _ I hq) λus s1 ⟨xs,H1,I1,r,z,q⟩=>⟨by rw[<-r.length];exact z,?_⟩);have hf:H1 s1.heap.objs.size=none:=I1.hok.fresh (YL _);refine⟨.ref s1.heap.objs.size,Ac H1 s1.heap.objs.size (.lst xs),I1.laid (t':=s1.toks) (λb u e=>YK _ e) (YL _) ?_,rfl,q _ hf⟩;exact⟨z,us,0,r,YX _ rfl⟩
end
abbrev Sp:=List V->Hp->VK->XK->Prop
abbrev Qv:=List Env->Hp->Shared->XK->Value->Shared->Prop
structure O9(P:Program)(w:World)(K:qJ)(mg:Str->Option Value)(base:Heap)(A:Around)(outer:List Env)(s:Shared)(H:Hp):Prop where
 frames:A.frames=some outer
 mod:W9 K mg base
 bs:∀b o,base.get? b=some o->s.heap.get? b=some o/\H b=none
 bsz:base.objs.size<=s.heap.objs.size
 funs:s.heap.FunFrames base outer
 frf:∀b∈D4 outer,H b=none
 hok:D9 P w H s.heap
 bare:AllBare s.gens
def CE(outer:List Env)(P:Program)(w:World)(H:Hp)(s:Shared)(Q:VK)(u:Value)(s':Shared):Prop:=
 ∃v H',s'.os=s.os/\AllBare s'.gens/\Un (D4 outer) [] H H' s.heap s'.heap/\D9 P w H' s'.heap/\A8 v u/\Q v H'
def CR(CX:Qv)(outer:List Env)(P:Program)(w:World)(H:Hp)(s:Shared)(Q:VK)(E:XK)(r:Result)(s':Shared):Prop:=
 match r with
 |.ok (.ret u)=>CE outer P w H s Q u s'
 |.ok _=>False
 |.error e=>CX outer H s E e s'
structure Fz(P:Program)(w:World)(K:qJ)(mg:Str->Option Value)(base:Heap)(CX:Qv)(k:Nat)(f:Addr)(fd:FuncData)(ps:List Str)(sp:Sp):Prop where
 len:∀vs H Q E,sp vs H Q E->vs.length=ps.length
 run:∀(A:Around) (outer:List Env) (s:Shared) (H:Hp) (args:Args) (us:List Value) (vs:List V) (Q:VK) (E:XK),Br k A->O9 P w K mg base A outer s H->BindsTo s fd args (ps.zip us)->Ax vs us->sp vs H Q E ->
  codeAny (model P w) A (.call (.ref f) args) (CR CX outer P w H s Q E) s
section
variable{X:Cx}{s:Shared}
theorem AT.env0(I:AT X ad σ H s):O9 X.prog X.w X.K X.mg X.base X.A X.stack s H:=
 ⟨I.ok.frames,I.ok.mod,I.bs,Yy I.ok.bsz I.sz,I.stack,I.stkFree,I.hok,I.bare⟩
theorem AT.after{Q:VK}(I:AT X ad σ H s)(h:CE X.stack X.prog X.w H s Q u s'):EP X ad σ Q u s':=by obtain⟨v,H',os,bare,un,hok,r,q⟩:=h;obtain⟨hh,g,d,t,os'⟩:=s';obtain rfl:os'=s.os:=os;exact⟨v,H',I.call (h':=hh) (g':=g) (d':=d) (t':=t) (ch:=[]) un hok bare (λb z=>qG z (by simp)),r,q⟩
end
def GU(K:qJ)(fd:FuncData)(ps:List Str)(ds:List Value):Prop:=
 ∀(s:Shared) (us:List Value),K.In s.heap->(us++ds).length=ps.length->BindsTo s fd ⟨us,[]⟩ (ps.zip (us++ds))
variable{fd:FuncData}{ps:List Str}
theorem GU.all{K:qJ}(h:∀us:List Value,us.length=ps.length->bindArgs fd ⟨us,[]⟩=pure (ps.zip us)):GU K fd ps []:=λs us _ hl=>by rw[Yt]at hl⊢;exact .of_eq (h us hl)
def PK(X:Cx)(kws:List Keyword)(t:TA):Prop:=
 ∀(pos:Pos) (ad:List (Addr×Obj)) (s:Shared) (σ:St) (H:Hp) (Q:List V->Hp->Prop),AT X ad σ H s->t σ H Q->wpAny (model X.prog X.w) X.A (evalAll ((backToKw pos (keywordEach kws X.env)).map (·.2))) (AP X ad σ Q) X.xe s
section
variable{X:Cx}{CX:Qv}{k:Nat}{f:Addr}{ks:List Str}{sp:Sp}{E:XK}{x m:Str}{p pos apos kpos:Pos}{e o:Expr}{kws:List Keyword}{ta:TE}{t tk:TA}{nm:Option Str}
theorem Tn:PK X [] Jw:=λ_ _ _ _ H Q I h=>wpAny_evalAll_nil ⟨[],H,I,.nil,h⟩
theorem RH(ha:PE X e te)(hr:PK X kws t):PK X (⟨nm,e,kpos⟩::kws) (FN te t):=by intro pos ad s σ H Q I h;show wpAny _ _ (evalAll ((do let v <-eval e X.env;standAt pos;pure v)::(backToKw pos (keywordEach kws X.env)).map (·.2))) _ _ s;refine wpAny_evalAll_cons (qC (BQ (ha ad s σ H _ I h) λu s1 ⟨x,H1,I1,r1,q1⟩=>qC (wpAny_standAt (qD ?_))));exact BQ (hr pos ad s1 σ H1 _ I1 q1) λus s2 ⟨xs,H2,I2,r2,q2⟩=>⟨x::xs,H2,I2,.cons r1 r2,q2⟩
variable{g:List Value->List Value->List Value}{gV:List V->List V->List V}
end
structure AK(N P:List Str)(sc:Scope):Prop where
 kind:sc.kind=.function
 co:sc.isCoroutine=false
 gen:sc.isGenerator=false
 nd:N.Nodup
 pre:N.take P.length=P
 par:∀x∈P,sc.names.lookup x=some .local\/sc.names.lookup x=some .cell
 nofree:∀y∈sc.names,y.2≠.free
variable{kindOf:Str->Option NameKind}
theorem JN{x:Str}:∀{binds:List (Str×Value)} {m:Str->Option Value},(∀v,(x,v)∉binds)->bindL kindOf binds m x=m x
 |[],_,_=>rfl
 | (n,v)::r,m,h=>by
  unfold bindL;rw[JN λw hw=>h w (YZ _ hw)];split
  ·have:x≠n:=by rintro rfl;exact h v Ye
   simp[this]
  ·rfl
theorem JO{x:Str}:∀{binds:List (Str×Value)} {m:Str->Option Value},(∀v,(x,v)∉binds)->bindC kindOf binds m x=m x
 |[],_,_=>rfl
 | (n,v)::r,m,h=>by
  unfold bindC;rw[JO λw hw=>h w (YZ _ hw)];split
  ·rfl
  ·have:x≠n:=by rintro rfl;exact h v Ye
   simp[this]
theorem F0{x:Str}{v:Value}:∀{P:List Str} {vs:List Value} {i:Nat} {m:Str->Option Value},P.Nodup->P[i]?=some x->vs[i]?=some v->kindOf x=some .local ->
  bindL kindOf (P.zip vs) m x=some v
 |[],_,_,_,_,h,_,_=>by simp at h
 |_::_,[],_,_,_,_,h,_=>by simp at h
 |p::P,w::vs,0,m,nd,h1,h2,hk=>by simp at h1 h2;subst h1;subst h2;show bindL kindOf ((p,w)::P.zip vs) m p=_;unfold bindL;rw[JN λv hv=>(ZZ.mp nd).1 (aJ hv).1,qF hk];simp
 |p::P,w::vs,i+1,m,nd,h1,h2,hk=>by show bindL kindOf ((p,w)::P.zip vs) m x=_;unfold bindL;exact F0 (i:=i) (List.nodup_cons.mp nd).2 (by simpa using h1) (by simpa using h2) hk
theorem F1{x:Str}{v:Value}:∀{P:List Str} {vs:List Value} {i:Nat} {m:Str->Option Value},P.Nodup->P[i]?=some x->vs[i]?=some v->kindOf x≠some .local ->
  bindC kindOf (P.zip vs) m x=some v
 |[],_,_,_,_,h,_,_=>by simp at h
 |_::_,[],_,_,_,_,h,_=>by simp at h
 |p::P,w::vs,0,m,nd,h1,h2,hk=>by simp at h1 h2;subst h1;subst h2;show bindC kindOf ((p,w)::P.zip vs) m p=_;unfold bindC;rw[JO λv hv=>(ZZ.mp nd).1 (aJ hv).1,qE hk];simp
 |p::P,w::vs,i+1,m,nd,h1,h2,hk=>by show bindC kindOf ((p,w)::P.zip vs) m x=_;unfold bindC;exact F1 (i:=i) (List.nodup_cons.mp nd).2 (by simpa using h1) (by simpa using h2) hk
noncomputable def Cm(N:List Str)(vs:List V):St:=vs.map some++List.replicate (N.length-vs.length) none
noncomputable def D5(CX:Qv)(P:Program)(w:World)(K:qJ)(mg:Str->Option Value)(base:Heap)(N:List Str)(qual:Str)(scope:Scope)(f:Addr)(cd:Value)(A:Around)(outer:List Env)(s:Shared)(H:Hp)(E:XK):Cx where
 prog:=P
 w:=w
 K:=K
 mg:=mg
 base:=base
 A:=A.deeper (envOfC qual scope s.heap.objs.size f cd)
 N:=N
 s₀:=s
 H₀:=H
 env:=envOfC qual scope s.heap.objs.size f cd
 outer:=outer
 stack:=envOfC qual scope s.heap.objs.size f cd::outer
 ex:=[]
 calm:=true
 fn:=λ_=>true
 pn:=[]
 xe:=λe s'=>wpAny (model P w) (A.deeper (envOfC qual scope s.heap.objs.size f cd)) (leaving (envOfC qual scope s.heap.objs.size f cd) e) (λ_ s''=>CX outer H s E e s'') (λe' s''=>CX outer H s E e' s'') s'
theorem FO{sc:Scope}{n:Nat}{x:Str}(h:sc.names.lookup x=some .cell):∃c,(cellsFrom n sc.names []).lookup x=some c:=by have q:=a7 sc.names n [] (.inl h);exact Z4.mp q
variable{CX:Qv}{qual:Str}{scope:Scope}
theorem OL{P:Program}{w:World}{K:qJ}{mg:Str->Option Value}{base:Heap}{N:List Str}{f:Addr}{cd:Value}{A:Around}{outer:List Env}{s s1:Shared}{E:XK}{vs:List V}
  (S:AK N ps scope) (hd:A.handled=none) (e0:O9 P w K mg base A outer s H) (hl:vs.length=ps.length) (r:Ax vs us)
  (x:InCallC s s.heap.objs.size (bindL (envOfC qual scope s.heap.objs.size f cd).kindOf (ps.zip us) λ_=>none) (cellsFrom (s.heap.objs.size+1) scope.names []) (bindC (envOfC qual scope s.heap.objs.size f cd).kindOf (ps.zip us) λ_=>none) s1):
  AT (D5 CX P w K mg base N qual scope f cd A outer s H E) [] (Cm N vs) H s1:=by
 have hpl:ps.length<=N.length:=by have:=congrArg List.length S.pre;rw[Ys]at this;lia
 obtain⟨h1,tk,rfl,hk⟩:=x.done;have noA:∀b:Addr,b∉(D5 CX P w K mg base N qual scope f cd A outer s H E).ex:=λb z=>qG (show b∈([]:List Addr) from z) (by simp)
 refine⟨⟨e0.mod,S.kind,rfl,rfl,YL _,λy z c h1 h2=>?_,λy hy=>?_,λy c _ h=>?_,λ_=>hd,Around.frames_deeper e0.frames,.inr ⟨rfl,rfl⟩,λb z=>qG z (noA b),e0.bs,e0.bsz,λb _ _=>noA b,λb z=>qG z (noA b),e0.funs,e0.frf⟩,
  rfl,e0.bare,Un.kept hk,⟨_,x.toInCall.ns,λi y v h1 h2 h3=>?_⟩,λy c h=>⟨_,x.cell y c h⟩,e0.hok.fresh (Nat.le_refl _),λy c h=>?_,λp hp=>qG (show p∈([]:List (Addr×Obj)) from hp) (by simp),e0.hok.kept hk,?_⟩
 ·exact name_of_addr x.apart (Y9 h1) (Y9 h2)
 ·have hy:scope.names.lookup y=some .cell\/scope.names.lookup y=some .free:=hy;rcases hy with hy|hy
  ·exact FO hy
  ·exact qG rfl (S.nofree _ (Y9 hy))
 ·exact ZQ (x.above y c (Y9 h))
 ·have hi:i<vs.length:=by
   unfold Cm at h2
   by_cases hi:i<vs.length
   ·exact hi
   ·rw[List.getElem?_append_right (by simpa using hi)]at h2;rw[Z5]at h2
    split at h2<;>cases h2
  have ha:vs[i]?=some v:=by
   unfold Cm at h2;rw[List.getElem?_append_left (by simpa using hi),List.getElem?_map]at h2;cases e:vs[i]? with
   |none=>rw[e]at h2;cases h2
   |some a=>rw[e]at h2;cases h2;rfl
  obtain⟨u,hu,rv⟩:=r.get ha
  have hp:ps[i]?=some y:=by rw[<-S.pre,List.getElem?_take_of_lt (by lia)];exact h1
  have ndP:ps.Nodup:=by rw[<-S.pre];exact S.nd.sublist (List.take_sublist _ _)
  refine⟨u,rv,?_⟩;rcases S.par y (YW hp) with k|k
  ·exact .inl ⟨k,F0 ndP hp hu k⟩
  ·obtain⟨c,e⟩:=FO (n:=s.heap.objs.size+1) k;refine .inr ⟨.inl k,c,e,?_⟩;have q:=x.cell y c e;rw[F1 ndP hp hu (by show scope.names.lookup y≠_;rw[k];decide)]at q;exact q
 ·exact e0.hok.fresh (ZQ (x.above y c (Y9 h)))
 ·unfold Cm;show _=N.length;rw[YN,YG,Yl];lia
variable{name:Str}{params:Arguments}{doc bh oc:Value}{an od:Option Addr}
theorem Se{P:Program}{w:World}{K:qJ}{mg:Str->Option Value}{base:Heap}{k:Nat}{f:Addr}{dV kV pm ct:Value}
  {osl:Array (Option Value)} {N ps:List Str} {sp:Sp} (lk:K.lookup f=some ⟨oc,od,.func (PySem.W.fnOf name qual params body scope dV kV doc pm an bh ct),osl⟩) (hcd:PySem.W.codeIn K bh qual=true) (S:AK N ps scope)
  (len:∀vs H Q E,sp vs H Q E->vs.length=ps.length)
  (hbody:∀(A:Around) (outer:List Env) (s:Shared) (H:Hp) (vs:List V) (Q:VK) (E:XK),Br k (A.deeper (envOfC qual scope s.heap.objs.size f bh))->sp vs H Q E ->
   ∃t,GS (D5 CX P w K mg base N qual scope f bh A outer s H E) body t/\t {nx:=λ_ H'=>Q .non H',rt:=Q} (Cm N vs) H):
  Fz P w K mg base CX (k+1) f (PySem.W.fnOf name qual params body scope dV kV doc pm an bh ct) ps sp:=by
 refine⟨len,λA outer s H args us vs Q E hr e0 hb r hsp=>?_⟩;have hl:=len _ _ _ _ hsp;have KX:K.In s.heap:=e0.mod.kin.keeps λb o e=>(e0.bs b o e).1
 have lim:s.heap.NoLimit:=e0.mod.nolimit.keeps λb o e=>(e0.bs b o e).1
 have hkind:∀y∈ps.zip us,scope.names.lookup y.1=some .local\/(scope.names.lookup y.1=some .cell/\((cellsFrom (s.heap.objs.size+1) scope.names []).lookup y.1).isSome=true):=λ⟨n,v⟩ hy=>by
  rcases S.par n (aJ hy).1 with q|q
  ·exact .inl q
  ·exact .inr ⟨q,a7 _ _ _ (.inl q)⟩
 refine codeAny_call_function hr.depth (KX _ _ lk) rfl S.co S.gen rfl (PySem.W.codeRec_of KX hcd) (hb _ _ _ _ ?_);refine wpAny_newFunctionEnv_cells S.kind hkind λenv he s1 x=>?_;subst he;refine⟨lim.keeps x.toInCall.keep,codeAny_func ?_⟩;obtain⟨t,ht,hq⟩:=hbody A outer s H vs Q E (hr.deeper _) hsp;have I:AT (D5 CX P w K mg base N qual scope f bh A outer s H E) [] (Cm N vs) H s1:=OL S hr.hd e0 hl r x;refine wpAny_mono (ht [] s1 (Cm N vs) H _ I hq) (λfl s' hs=>?_) λe s' hs=>hs
 have fin:∀{σ':St} {H':Hp} {v:V} {u:Value},AT (D5 CX P w K mg base N qual scope f bh A outer s H E) [] σ' H' s'->A8 v u->Q v H'->CE outer P w H s Q u s':=
  λ{σ' H' v u} J rv q=>⟨v,H',J.os,J.bare,J.base,J.hok,rv,q⟩
 cases fl with
 |ret u =>
  obtain⟨v,σ',H',J,rv,q⟩:=hs;exact fin J rv q
 |next =>
  obtain⟨σ',H',J,q⟩:=hs;exact fin (v:=V.non) (u:=Value.none) J rfl q
 |brk =>
  obtain⟨_,_,_,q⟩:=hs;exact False.elim q
 |cont =>
  obtain⟨_,_,_,q⟩:=hs;exact False.elim q
section
variable{X:Cx}{x:Str}{p pos:Pos}{e:Expr}{t:TA}{id T:String}{r:List V->Hp->VK->Prop}
def Va(r:List V->Hp->VK->Prop)(t:TA):TE:=λσ H Q=>t σ H λvs H1=>r vs H1 Q
theorem Aw(hc:CK X (.builtin id) r)(hg:Gl X x)(hm:X.mg x=none)(hv:bootBuiltins x=some (.builtin id))(ha:PA X (e::es) t)(hn:x≠"__name__":=by decide)(hdb:(x==("__debug__":Str))=false:=by decide)
  (he:starEach (e::es) X.env=(false,eval e X.env)::starEach es X.env:=by rfl) (hpl:(backTo pos (starEach es X.env)).any (·.1)=false:=by rfl):PE X (.Call (.Name x p) (e::es) [] pos) (Va r t):=by
 intro ad s σ H Q I h;refine wpAny_Call_Name_kw (Cf I hg hm hv ?_ hn hdb);exact PyProof.Rows.callWith_builtin1 (BQ (ha pos ad s σ H _ I h) λus s1 ⟨vs,H1,I1,r1,q1⟩=>hc ad s1 σ H1 vs us Q I1 r1 q1) he hpl
theorem Bt(hc:CK X (.type T) r)(hg:Gl X x)(hm:X.mg x=none)(hv:bootBuiltins x=some (.type T))(ha:PA X (e::es) t)(hn:x≠"__name__":=by decide)(hdb:(x==("__debug__":Str))=false:=by decide)
  (he:starEach (e::es) X.env=(false,eval e X.env)::starEach es X.env:=by rfl) (hpl:(backTo pos (starEach es X.env)).any (·.1)=false:=by rfl):PE X (.Call (.Name x p) (e::es) [] pos) (Va r t):=by
 intro ad s σ H Q I h;refine wpAny_Call_Name_kw (Cf I hg hm hv ?_ hn hdb);exact Y1 (BQ (ha pos ad s σ H _ I h) λus s1 ⟨vs,H1,I1,r1,q1⟩=>hc ad s1 σ H1 vs us Q I1 r1 q1) he hpl
end
end L2
namespace HT
open PySem PyProof.Rows
noncomputable def Db:List Int->List Int->Bool
 |[],[]=>false
 |[],_::_=>true
 |_::_,[]=>false
 |x::xs,y::ys=>if x=y then Db xs ys else decide (x<y)
theorem L7(x y:Int)(xs ys:List Int):Db (x::xs) (y::ys)=if x=y then Db xs ys else decide (x<y):=rfl
theorem JC:Db [] []=false:=rfl
theorem HJ(y:Int)(ys:List Int):Db [] (y::ys)=true:=rfl
theorem HK(x:Int)(xs:List Int):Db (x::xs) []=false:=rfl
section
variable{prog:Program}{w:World}{A:Around}{E:Value->Shared->Prop}{s:Shared}
theorem RI{t b:Addr}{vs ws:List Value}{Q:Value->Shared->Prop}(ht:IsTup s.heap t vs.toArray)(hb:IsTup s.heap b ws.toArray)(hv:vs≠[])
  (h1:ws=[]->Q (.ref t) s) (h2:ws≠[]->Q (.ref s.heap.objs.size) {s with heap:=s.heap.push {cls:=.type "tuple",data:=.seq (vs++ws).toArray}})
  (hsz:vs.length+ws.length<=sizeLine):wpAny (model prog w) A (binaryOp .Add (.ref t) (.ref b)) Q E s:=by
 obtain⟨⟨cls,dd,data,sl⟩,ho,hc,n,hd⟩:=id ht;obtain⟨⟨cls2,dd2,data2,sl2⟩,ho2,hc2,n2,hd2⟩:=id hb;simp only at hc hd hc2 hd2;subst hc hd hc2 hd2;have e:vs.toArray++ws.toArray=(vs++ws).toArray:=by simp
 by_cases hw:ws=[]
 ·exact concat_meets ⟨_,ho,rfl⟩ ⟨_,ho2,rfl⟩ noFill_tuple_add seq_tuple_add PySem.F.slot_tuple_add PySem.F.entry_tuple_add (PySem.F.args_tuple_add_2 _ _)
   (tuple_addW1 t b vs.toArray ws.toArray n n2 dd dd2 sl sl2 (by simpa using hv) (by simp[hw])) ⟨ho,ho2,h1 hw⟩
 ·refine concat_meets ⟨_,ho,rfl⟩ ⟨_,ho2,rfl⟩ noFill_tuple_add seq_tuple_add PySem.F.slot_tuple_add PySem.F.entry_tuple_add (PySem.F.args_tuple_add_2 _ _)
   (tuple_addW2 t b vs.toArray ws.toArray n n2 dd dd2 sl sl2 (by simpa using hv) (by simpa using hw) (by rw[List.size_toArray,List.size_toArray];exact hsz)) ⟨ho,ho2,?_⟩
  rw[e];exact h2 hw
noncomputable def Jx(n d:Nat):Option Int->Nat
 |none=>d
 |some v=>if v<0 then (v+(n:Int)).toNat else min v.toNat n
end
end HT
namespace L2
open PySem PySem.Spec PyProof.Rows
variable{H:Hp}{es:List Expr}{j t':Nat}{name:Str}{ad:List (Addr×Obj)}{te to:TE}{us:List Value}{xs:List V}{α:Type}{σ:St}
abbrev TO:=St->Hp->(Option Int->Hp->Prop)->Prop
def PO(X:Cx)(e:Option Expr)(t:TO):Prop:=
 ∀(ad:List (Addr×Obj)) (s:Shared) (σ:St) (H:Hp) (Q:Option Int->Hp->Prop),AT X ad σ H s->t σ H Q ->
  wpAny (model X.prog X.w) X.A (evalPart e X.env) (λu s'=>∃o H',AT X ad σ H' s'/\IsPart u o/\Q o H') X.xe s
def NI:TO:=λ_ H Q=>Q none H
def Sf(t:TE):TO:=λσ H Q=>t σ H λx H1=>∃i,x=.int i/\Q (some i) H1
theorem HL{ns:List Int}:∀{us:List Value},Ax (ns.map V.int) us->IntsAre us ns:=by
 induction ns with
 |nil=>intro us r;rw[bT]at r;cases r;exact .nil
 |cons n ns ih =>
  intro us r;rw[ZV]at r;cases r with
  |cons r1 r2 =>
   obtain⟨t,e⟩:=r1;subst e;exact .cons n t (ih r2)
section
variable{X:Cx}{e:Expr}{lo hi:Option Expr}{tl th:TO}{pos p2:Pos}
theorem Jy:PO X none NI:=by intro ad s σ H Q I h;rw[evalPart_none];exact qD ⟨none,H,I,.none,h⟩
theorem FP(h:PE X e te):PO X (some e) (Sf te):=by intro ad s σ H Q I hw;rw[evalPart_some];refine BQ (h ad s σ H _ I hw) λu s1 z9=>?_;obtain⟨x,H1,I1,r1,q1⟩:=z9;obtain⟨i,rfl,q⟩:=q1;obtain⟨t,rfl⟩:=r1;exact⟨some i,H1,I1,.int i t,q⟩
def X7(X:Cx)(r:V->Option Int->Option Int->Hp->VK->Prop):Prop:=
 ∀(ad:List (Addr×Obj)) (s:Shared) (σ:St) (H:Hp) (x:V) (v vl vu:Value) (lo hi:Option Int) (sl:Addr) (Q:VK),AT X ad σ H s->A8 x v->s.heap.IsSliceOf sl vl vu .none->IsPart vl lo->IsPart vu hi->r x lo hi H Q ->
  ∃T id,typeLookup (.type T) "__getitem__"=pure (some (.builtin id))/\s.TypeIs v T/\wpAny (model X.prog X.w) X.A (getItem v (.ref sl)) (EP X ad σ Q) X.xe s
def X8(r:V->Option Int->Option Int->Hp->VK->Prop)(te:TE)(tl th:TO):TE:=λσ H Q=>te σ H λx H1=>tl σ H1 λl H2=>th σ H2 λu H3=>r x l u H3 Q
theorem FQ{r:V->Option Int->Option Int->Hp->VK->Prop}(hr:X7 X r)(he:PE X e te)(hl:PO X lo tl)(hu:PO X hi th):PE X (.Subscript e (.Slice lo hi none p2) pos) (X8 r te tl th):=by
 intro ad s σ H Q I h;refine Subscript_ (BQ (he ad s σ H _ I h) λv s1 z9=>?_);obtain⟨x,H1,I1,r1,q1⟩:=z9;refine wpAny_Slice (BQ (hl ad s1 σ H1 _ I1 q1) λvl s2 ⟨l,H2,I2,pl,q2⟩=>BQ (hu ad s2 σ H2 _ I2 q2) λvu s3 z9=>?_);obtain⟨u,H3,I3,pu,q3⟩:=z9;rw[evalPart_none];refine qD ?_;have I4:AT X ad σ H3 {s3 with heap:=s3.heap.push {cls:=.type "slice",data:=.fields #[vl,vu,.none]}}:=I3.kept (t':=s3.toks) λb ob q=>YK _ q
 obtain⟨T,id,hT,ht,hg⟩:=hr ad {s3 with heap:=s3.heap.push {cls:=.type "slice",data:=.fields #[vl,vu,.none]}} σ H3 x v vl vu l u s3.heap.objs.size Q I4 r1 (Heap.IsSliceOf.new ..) pl pu q3;show wpAny (model X.prog X.w) X.A (subscriptTail e (.Slice lo hi none p2) v (.ref s3.heap.objs.size)) (EP X ad σ Q) X.xe {s3 with heap:=s3.heap.push {cls:=.type "slice",data:=.fields #[vl,vu,.none]}};exact tail_any (ops:=[.ref s3.heap.objs.size,v]) ht hT hg (by with_unfolding_all rfl)
noncomputable def HM(xs:List V)(lo hi:Option Int):List V:=(xs.drop (HT.Jx xs.length 0 lo)).take (HT.Jx xs.length xs.length hi-HT.Jx xs.length 0 lo)
theorem Kp(xs:List V)(lo hi:Option Int):(HM xs lo hi).length<=xs.length:=by unfold HM;rw[Ys,Yi];lia
def Sh(K:qJ):R2:=λx y H Q=>∃a b xs ys,x=.ref a/\y=.ref b/\Ad K H a xs/\Ad K H b ys/\xs≠[]/\xs.length+ys.length<=sizeLine /\
 (ys=[]->Q (.ref a) H)/\(ys≠[]->∀p,H p=none->Q (.ref p) (Ac H p (.tup (xs++ys))))
theorem Ax.nil_iff(r:Ax xs us):us=[]↔xs=[]:=by
 cases r with
 |nil=>simp
 |cons _ _=>simp
theorem RJ:Fw X (binaryOp .Add) (Sh X.K):=by intro ad s σ H x y v u Q I rx ry h;obtain⟨a,b,xs,ys,rfl,rfl,ha,hb,hx,hz,q1,q2⟩:=h;cases rx;cases ry;obtain⟨its,r1,p1,_⟩:=I.tuple ha;obtain⟨its2,r2,p2,_⟩:=I.tuple hb;refine HT.RI p1 p2 (λz=>hx (r1.nil_iff.mp z)) (λz=>⟨.ref a,H,I,rfl,q1 (r2.nil_iff.mp z)⟩) (λz=>?_) (by rw[<-r1.length,<-r2.length];exact hz);refine⟨.ref s.heap.objs.size,_,I.laid (t':=s.toks) (o:=.tup (xs++ys)) (λb ob q=>YK _ q) (YL _) ?_,rfl,q2 (λw=>z (r2.nil_iff.mpr w)) _ (I.hok.fresh (YL _))⟩;exact⟨by rw[YN];exact hz,_,r1.append r2,IsTup.new _ _⟩
end
noncomputable def NJ(n:Nat)(i:Int):Option Nat:=if 0<=i then (if i<n then some i.toNat else none) else if -(n:Int)<=i then some (i+n).toNat else none
noncomputable def Kj{α:Type}(xs:List α)(i:Int):Option α:=(NJ xs.length i).bind λj=>xs[j]?
theorem NK{n:Nat}{i:Int}(h:NJ n i=some j):seqIndex? i n=some j/\j<n/\-(n:Int)<=i/\i<n:=by
 unfold NJ at h
 by_cases h0:0<=i
 ·rw[qF h0]at h
  by_cases h1:i<n
  ·rw[qF h1]at h;have e:i.toNat=j:=Option.some.inj h;exact⟨by rw[seqIndex_of h0 h1,e],by lia,by lia,h1⟩
  ·rw[qE h1]at h;cases h
 ·rw[qE h0]at h
  by_cases h1:-(n:Int)<=i
  ·rw[qF h1]at h;have e:(i+n).toNat=j:=Option.some.inj h;exact⟨by rw[seqIndex_neg (by lia) h1,e],by lia,h1,by lia⟩
  ·rw[qE h1]at h;cases h
theorem NL{xs:List α}{i:Int}{v:α}(h:Kj xs i=some v):∃j,seqIndex? i xs.length=some j/\xs[j]?=some v/\j<xs.length/\-(xs.length:Int)<=i/\i<xs.length:=by
 unfold Kj at h;cases e:NJ xs.length i with
 |none=>rw[e]at h;cases h
 |some j =>
  rw[e]at h;obtain⟨h1,h2,h3,h4⟩:=NK e;exact⟨j,h1,h,h2,h3,h4⟩
theorem Cp{xs:List α}{v:α}(h:xs[j]?=some v):Kj xs (j:Int)=some v:=by
 have hj:j<xs.length:=(YJ.mp h).1
 have e:NJ xs.length (j:Int)=some j:=by unfold NJ;rw[qF (by lia),qF (by lia)];simp
 unfold Kj;rw[e];exact h
def NM(b:Expr):Prop:=∀o i,subscripted b false o i=operate [o,i] (getItem o i)
def Si(X:Cx)(r:R2):Prop:=
 ∀(value slice:Expr) (ad:List (Addr×Obj)) (s:Shared) (σ:St) (H:Hp) (x y:V) (v u:Value) (Q:VK),AT X ad σ H s->A8 x v->A8 y u->r x y H Q ->
  subscripted slice false v u=operate [v,u] (getItem v u)->wpAny (model X.prog X.w) X.A (subscriptTail value slice v u) (EP X ad σ Q) X.xe s
def XB(X:Cx)(id:String)(r:V->List V->Hp->VK->Prop):Prop:=
 ∀(ad:List (Addr×Obj)) (s:Shared) (σ:St) (H:Hp) (x:V) (xs:List V) (v:Value) (us:List Value) (Q:VK),AT X ad σ H s->A8 x v->Ax xs us->r x xs H Q ->
  wpAny (model X.prog X.w) X.A (call (.builtin id) (v::us)) (EP X ad σ Q) X.xe s
variable{ys:List V}{its:List Value}{T:String}
section
variable{X:Cx}{a b:Expr}{ta tb:TE}{pos:Pos}
theorem AJ{r:R2}(hr:Si X r)(ha:PE X a ta)(hb:PE X b tb)(hs:NM b):PE X (.Subscript a b pos) (VJ r ta tb):=by intro ad s σ H Q I h;exact Subscript_ (Th ha hb I h λv u s2 x y H2 I2 rx ry q=>hr a b ad s2 σ H2 x y v u Q I2 rx ry q (hs _ _))
def RK(K:qJ):R2:=λx y H Q=>∃p xs i v,x=.ref p/\y=.int i/\Ai K H p xs/\Kj xs i=some v/\Q v H
def RL(K:qJ):R2:=λx y H Q=>∃p xs i v,x=.ref p/\y=.int i/\Ad K H p xs/\Kj xs i=some v/\Q v H
theorem NO:Si X (RK X.K):=by
 intro value slice ad s σ H x y v u Q I rx ry h hs;obtain⟨p,xs,i,z,rfl,rfl,hq,he,q⟩:=h;cases rx;obtain⟨t,rfl⟩:=ry;obtain⟨its,r,pl,hz⟩:=I.list hq;obtain⟨j,h1,h2,h3,h4,h5⟩:=NL he;obtain⟨w,ew,rw'⟩:=r.get h2;have hl:=r.length;have hn:=Jv;have fin:EP X ad σ Q w s:=⟨z,H,I,rw',q⟩
 by_cases h0:0<=i
 ·have hj:i.toNat=j:=by
   rw[seqIndex_of h0 h5]at h1;exact Option.some.inj h1
  exact item_listR pl.isList h0 (by lia) (by rw[hj];simpa using ew) fin hs
 ·have hj:(i+(its.toArray.size:Int)).toNat=j:=by
   rw[seqIndex_neg (by lia) h4]at h1;rw[Yn,<-hl];exact Option.some.inj h1
  exact subscriptTail_builtinR (x:=w) pl.isList.typeIs slot_list_getitem.lookup
   (wpAny_getItem_list_neg (Q:=λr s'=>r=w/\EP X ad σ Q r s') pl.isList (by lia) (by rw[List.size_toArray]<;>lia) (by lia) (by rw[hj];simpa using ew) ⟨rfl,fin⟩) hs
theorem PB:Si X (RL X.K):=by
 intro value slice ad s σ H x y v u Q I rx ry h hs;obtain⟨p,xs,i,z,rfl,rfl,hq,he,q⟩:=h;cases rx;obtain⟨t,rfl⟩:=ry;obtain⟨its,r,pl,hz⟩:=I.tuple hq;obtain⟨j,h1,h2,h3,h4,h5⟩:=NL he;obtain⟨w,ew,rw'⟩:=r.get h2;have hl:=r.length;have hn:=Jv;have fin:EP X ad σ Q w s:=⟨z,H,I,rw',q⟩
 exact subscriptTail_builtinR (x:=w) pl.typeIs slot_tuple_getitem.lookup
  (getItem_tuple (j:=j) (Q:=λr s'=>r=w/\EP X ad σ Q r s') pl (by lia) (by lia) (by rw[List.size_toArray,<-hl];exact h1) (by simpa using ew) ⟨rfl,fin⟩) hs
theorem L8(its:List Value)(n j:Nat)(u:Value):Obj.mapSeq (·.setIfInBounds j u) {cls:=.type "list",data:=.seq its.toArray n}={cls:=.type "list",data:=.seq (its.set j u).toArray n}:=by simp[Obj.mapSeq]
theorem AT.lst{s:Shared}{p:Addr}(I:AT X ad σ H s)(h:H p=some (.lst xs)):
  ∃(its:List Value) (n:Nat),Ax xs its/\s.heap.get? p=some {cls:=.type "list",data:=.seq its.toArray n}/\xs.length<=sizeLine:=by
 obtain⟨z,its,n,r,e⟩:=I.hok p _ h;exact⟨its,n,r,e,z⟩
theorem AT.lstUpd{s:Shared}{p:Addr}{its':List Value}{n n':Nat}{f:Obj->Obj}(I:AT X ad σ H s)(h:H p=some (.lst xs))
  (ho:s.heap.get? p=some {cls:=.type "list",data:=.seq its.toArray n}) (hf:f {cls:=.type "list",data:=.seq its.toArray n}={cls:=.type "list",data:=.seq its'.toArray n'}) (r:Ax ys its') (hz:ys.length<=sizeLine) (t:Nat):
  AT X ad σ (Ac H p (.lst ys)) {s with heap:=s.heap.update p f,toks:=t}:=by
 have e:(s.heap.update p f).get? p=some {cls:=.type "list",data:=.seq its'.toArray n'}:=by rw[bD f ho (by rw[hf]<;>rfl),hf]
 refine I.write (x:=p) (e:=p) (by rw[h];trivial) (.inl rfl) (λb u hb q=>(a9 _ _ (Ne.symm hb)).trans q) ⟨_,e⟩ ?_;exact⟨hz,its',n',r,e⟩
def Vb:V->V->V->Hp->(Hp->Prop)->Prop:=λo i v H Q=>∃p xs k j,o=.ref p/\i=.int k/\H p=some (.lst xs)/\NJ xs.length k=some j/\Q (Ac H p (.lst (xs.set j v)))
theorem PD:VS X Vb:=by
 intro ad s σ H o i v ov iv u Q I ro ri rv h;obtain⟨p,xs,k,j,rfl,rfl,hp,hj,q⟩:=h;cases ro;obtain⟨t,rfl⟩:=ri;obtain⟨its,n,r,ho,hz⟩:=I.lst hp;obtain⟨h1,h2,h3,h4⟩:=NK hj;have hl:=r.length;have hn:=Jv
 have I':AT X ad σ (Ac H p (.lst (xs.set j v))) {s with heap:=s.heap.update p (Obj.mapSeq (·.setIfInBounds j u))}:=
  I.lstUpd hp ho (L8 its n j u) (r.set rv j) (by rw[ZS];exact hz) s.toks
 by_cases h0:0<=k
 ·have hk:k.toNat=j:=by
   rw[seqIndex_of h0 h4]at h1;exact Option.some.inj h1
  exact PySem.W.ki_setAt ho h0 (by lia) (by rw[Yn,<-hl];exact h4) (by rw[hk];exact⟨_,I',q⟩)
 ·have hk:(k+(its.toArray.size:Int)).toNat=j:=by
   rw[seqIndex_neg (by lia) h3]at h1;rw[Yn,<-hl];exact Option.some.inj h1
  exact PySem.W.ki_setBack ho (by lia) (by rw[Yn,<-hl];exact h3) (by lia) (by rw[hk];exact⟨_,I',q⟩)
theorem Jz(lo hi:Option Int)(n:Nat):(sliceBounds lo hi none n).1=((HT.Jx n 0 lo:Nat):Int)/\(sliceBounds lo hi none n).2.1=((HT.Jx n n hi:Nat):Int)/\(sliceBounds lo hi none n).2.2=1:=by
 refine⟨?_,?_,rfl⟩
 ·cases lo with
  |none=>simp[sliceBounds,HT.Jx]
  |some i =>
   simp only[sliceBounds,HT.Jx,Option.getD_none,show (1:Int)>0 by decide,if_true]
   by_cases h:i<0
   ·simp only[h,if_true]<;>lia
   ·simp only[h,if_false]<;>lia
 ·cases hi with
  |none=>simp[sliceBounds,HT.Jx]
  |some i =>
   simp only[sliceBounds,HT.Jx,Option.getD_none,show (1:Int)>0 by decide,if_true]
   by_cases h:i<0
   ·simp only[h,if_true]<;>lia
   ·simp only[h,if_false]<;>lia
theorem JD(its:List Value)(lo hi:Option Int):slicePick its.toArray lo hi none=((its.drop (HT.Jx its.length 0 lo)).take (HT.Jx its.length its.length hi-HT.Jx its.length 0 lo)).toArray:=by obtain⟨h1,h2,h3⟩:=Jz lo hi its.toArray.size;unfold slicePick;rw[h1,h2,h3];simp only[sliceRange_one,pick_run,List.size_toArray]<;>rfl
def Vc(K:qJ):V->Option Int->Option Int->Hp->VK->Prop:=λx lo hi H Q=>∃a xs,x=.ref a/\Ai K H a xs/\∀p,H p=none->Q (.ref p) (Ac H p (.lst (HM xs lo hi)))
theorem Go:X7 X (Vc X.K):=by intro ad s σ H x v vl vu lo hi sl Q I rx hs pl pu h;obtain⟨a,xs,rfl,hx,q⟩:=h;cases rx;obtain⟨its,r,ht,hz⟩:=I.list hx;have hlen:=r.length;refine⟨"list",_,slot_list_getitem.lookup,ht.isList.typeIs,?_⟩;refine wpAny_getItem_list_slice ht.isList hs pl pu .none (by simp) ?_ (by rw[List.size_toArray]<;>lia);rw[JD,<-hlen];refine⟨.ref s.heap.objs.size,_,I.laid (t':=s.toks) (o:=.lst (HM xs lo hi)) (λb ob q=>YK _ q) (YL _) ?_,rfl,q _ (I.hok.fresh (YL _))⟩;exact⟨Yy (Kp xs lo hi) hz,_,0,(r.drop (HT.Jx xs.length 0 lo)).take (HT.Jx xs.length xs.length hi-HT.Jx xs.length 0 lo),YX _ rfl⟩
theorem FR:CK X (.builtin "len") (λxs H Q=>∃p ys,xs=[.ref p]/\(Ai X.K H p ys\/Ad X.K H p ys)/\Q (.int ys.length) H):=by
 intro ad s σ H xs us Q I r h;obtain⟨p,ys,rfl,hq,q⟩:=h;obtain⟨u,rfl,rx⟩:=Ev r;cases rx;have hn:=Jv;rcases hq with hq|hq
 ·obtain⟨its,r',pl,hz⟩:=I.list hq;have hlen:=r'.length;exact Calls.call_len_list pl.isList (by simp only[List.size_toArray]<;>lia) ⟨.int ys.length,H,I.tok _,⟨s.toks+1,by rw[List.size_toArray,hlen]⟩,q⟩
 ·obtain⟨its,r',pl,hz⟩:=I.tuple hq;have hlen:=r'.length;exact len_tuple pl (by simp only[List.size_toArray]<;>lia) ⟨.int ys.length,H,I.tok _,⟨s.toks+1,by rw[List.size_toArray,hlen]⟩,q⟩
theorem J1:CK X (.type "list") (λxs H Q=>∃p ys,xs=[.ref p]/\(Ai X.K H p ys\/Ad X.K H p ys)/\∀l,H l=none->Q (.ref l) (Ac H l (.lst ys))):=by
 intro ad s σ H xs us Q I r h;obtain⟨p,ys,rfl,hq,q⟩:=h;obtain⟨u,rfl,rx⟩:=Ev r;cases rx
 have fin:∀(its:List Value),Ax ys its->ys.length<=sizeLine->∀(h':Heap) (c':Nat),(∀b o',s.heap.get? b=some o'->h'.get? b=some o') ->
   h'.get? s.heap.objs.size=some {cls:=.type "list",dict:=none,data:=.seq its.toArray c',slots:=#[]}->EP X ad σ Q (.ref s.heap.objs.size) {s with heap:=h'}:=λits r' hz h' c' kp e =>
  ⟨.ref s.heap.objs.size,_,I.laid (t':=s.toks) kp (YL _) (show Ay X.prog X.w _ h' _ (.lst ys) from⟨hz,its,c',r',e⟩),rfl,q _ (I.hok.fresh (YL _))⟩
 rcases hq with hq|hq
 ·obtain⟨its,r',pl,hz⟩:=I.list hq;have hlen:=r'.length;obtain⟨o,ho,hc,n,hd⟩:=pl.isList;exact call_list_seq p (.inl rfl) ho hc hd (λh' c' kp e=>fin its r' hz h' c' kp e) (by simp only[List.size_toArray]<;>lia)
 ·obtain⟨its,r',pl,hz⟩:=I.tuple hq;have hlen:=r'.length;obtain⟨o,ho,hc,n,hd⟩:=pl;exact call_list_seq p (.inr rfl) ho hc hd (λh' c' kp e=>fin its r' hz h' c' kp e) (by simp only[List.size_toArray]<;>lia)
theorem B1:CK X (.type "tuple") (λxs H Q=>∃p ys,xs=[.ref p]/\((Ai X.K H p ys/\∀l,H l=none->Q (.ref l) (Ac H l (.tup ys)))\/(Ad X.K H p ys/\Q (.ref p) H))):=by
 intro ad s σ H xs us Q I r h;obtain⟨p,ys,rfl,h⟩:=h;obtain⟨u,rfl,rx⟩:=Ev r;cases rx;rcases h with⟨hq,q⟩|⟨hq,q⟩
 ·obtain⟨its,r',pl,hz⟩:=I.list hq;have hlen:=r'.length;refine call_tuple_list pl.isList (λh' kp=>?_) (by simp only[List.size_toArray]<;>lia);have I1:AT X ad σ H {s with heap:=h'}:=I.kept (t':=s.toks) kp
  have I2:AT X ad σ (Ac H h'.objs.size (.tup ys)) {s with heap:=h'.push {cls:=.type "tuple",data:=.seq its.toArray}}:=
   I1.laid (t':=s.toks) (λb o e=>YK _ e) (YL _) (show Ay X.prog X.w _ _ _ (.tup ys) from⟨hz,its,r',IsTup.new _ _⟩)
  exact⟨.ref h'.objs.size,_,I2,rfl,q _ (I1.hok.fresh (YL _))⟩
 ·obtain⟨its,r',pl,hz⟩:=I.tuple hq;exact call_tuple_same pl ⟨.ref p,H,I,rfl,q⟩
def XS(K:qJ)(T:String)(x:V)(H:Hp):Prop:=match x with
 |.str _=>T="str"
 |.int _=>T="int"
 |.ref p=>(T="list"/\∃xs,Ai K H p xs)\/(T="tuple"/\∃o,K.lookup p=some o/\o.cls=.type "tuple"/\o.dict=none) \/
   (T="dict"/\((∃kvs,H p=some (.dK kvs))\/∃kvs,H p=some (.dT kvs)))\/(T="set"/\∃S n,H p=some (.set S n))
 |_=>False
theorem To{s:Shared}{x:V}{v:Value}(I:AT X ad σ H s)(r:A8 x v)(ty:XS X.K T x H):
  s.TypeIs v T/\∀a,v=.ref a->∃ob,s.heap.get? a=some ob/\ob.dict=none:=by
 cases x with
 |str z =>
  obtain⟨t,rfl⟩:=r;cases (show T="str" from ty);exact⟨typeIs_str s z t,λ_ e=>nomatch e⟩
 |int i =>
  obtain⟨t,rfl⟩:=r;cases (show T="int" from ty);exact⟨typeIs_int s i t,λ_ e=>nomatch e⟩
 |ref p =>
  cases r;rcases ty with⟨rfl,xs,hq⟩|⟨rfl,o,hk,hc,hd⟩|⟨rfl,hk⟩|⟨rfl,S,n,hk⟩
  ·obtain⟨its,_,pl,_⟩:=I.list hq;refine⟨pl.isList.typeIs,λa e=>?_⟩;cases e;obtain⟨o,n,e,c,hd,_⟩:=pl;exact⟨o,e,hd⟩
  ·refine⟨⟨o,I.kIn p o hk,hc⟩,λa e=>?_⟩;cases e;exact⟨o,I.kIn _ o hk,hd⟩
  ·have z:∃o,s.heap.get? p=some o/\o.ExactDict:=by
    rcases hk with⟨kvs,hk⟩|⟨kvs,hk⟩
    ·obtain⟨_,_,_,_,o,_,_,e,ex,_⟩:=I.hok p _ hk;exact⟨o,e,ex⟩
    ·obtain⟨_,_,_,_,o,_,_,e,ex,_⟩:=I.hok p _ hk;exact⟨o,e,ex⟩
   obtain⟨o,e,ex⟩:=z;refine⟨⟨o,e,ex.1⟩,λa e2=>?_⟩;cases e2;exact⟨o,e,ex.2.1⟩
  ·obtain⟨o,_,_,_,e,ex,_⟩:=I.hok p _ hk;refine⟨⟨o,e,ex.1⟩,λa e2=>?_⟩;cases e2;exact⟨o,e,ex.2.1⟩
 |_=>exact False.elim ty
def XT(K:qJ)(T:String)(r:V->List V->Hp->VK->Prop)(to:TE)(t:TA):TE:=λσ H Q=>to σ H λx H1=>XS K T x H1/\t σ H1 λxs H2=>r x xs H2 Q
variable{o e:Expr}{t:TA}{apos cpos:Pos}{id:String}{r:V->List V->Hp->VK->Prop}
theorem PH(pa:PlainAttrs T)(slot:Slot T name id)(hty:typeOf (.builtin id)=pure (.type "method_descriptor"))(hm:XB X id r)(ho:PE X o to)(ha:PA X (e::es) t)
  (hbase:attributeBase o name X.env (eval o X.env)=eval o X.env:=by rfl)
  (hfew:((backTo cpos (starEach (e::es) X.env)).all (λx=>!x.1)&&(backToKw cpos (keywordEach [] X.env)).all (λx=>x.1.isSome)
   && decide ((e::es).length+([]:List Keyword).length+(if ([]:List Keyword).isEmpty then 0 else 1)<30))=true:=by rfl)
  (hline:(apos.endLine==cpos.line)=true:=by rfl) (hs:starEach (e::es) X.env=(false,eval e X.env)::starEach es X.env:=by rfl) (hplain:(backTo cpos (starEach es X.env)).any (·.1)=false:=by rfl):
  PE X (.Call (.Attribute o name apos) (e::es) [] cpos) (XT X.K T r to t):=by
 intro ad s σ H Q I h;refine wpAny_Call_method_late hbase hfew hline rfl (BQ (ho ad s σ H _ I h) λv s1 z9=>?_);obtain⟨x,H1,I1,r1,ty,q1⟩:=z9;obtain⟨h1,h2⟩:=To I1 r1 ty;refine⟨T,id,pa,slot,hty,h1,h2,?_⟩;have hA:=ha cpos ad s1 σ H1 _ I1 q1;rw[hs]at hA⊢;refine Calls.callWith_builtin (by show (false||(backTo cpos (starEach es X.env)).any (·.1))=false;rw[hplain]<;>rfl) (Calls.evalArgs_plain ?_);exact BQ hA λus s2 ⟨vs,H2,I2,r2,q2⟩=>hm ad s2 σ H2 x vs v us Q I2 r1 r2 q2
end
def X9(X:Cx)(id:String)(r:V->List V->Hp->VK->Prop):Prop:=
 ∀(ad:List (Addr×Obj)) (s:Shared) (σ:St) (H:Hp) (x:V) (xs:List V) (v:Value) (us:List Value) (Q:VK),AT X ad σ H s->A8 x v->Ax xs us->r x xs H Q ->
  wpAny (model X.prog X.w) X.A (call (.builtin id) (v::us)) (EP X ad σ Q) X.xe s
theorem Ax.one:∀{x:V} {us:List Value},Ax [x] us->∃u,us=[u]/\A8 x u
 |_,_,.cons r .nil=>⟨_,rfl,r⟩
theorem Ax.reverse(h:Ax xs us):Ax xs.reverse us.reverse:=by
 induction h with
 |nil=>exact .nil
 |cons r t ih=>rw[List.reverse_cons,List.reverse_cons];exact Ax.append ih (.cons r .nil)
theorem Ax.rep(h:Ax xs us):∀k:Nat,Ax (List.replicate k xs).flatten (List.replicate k us).flatten
 |0=>.nil
 |k+1=>by rw[Zj,Zj,aQ,aQ];exact Ax.append h (Ax.rep h k)
theorem JP(its:List Value):∀(k:Nat) (bg:List Value),
  List.foldl (λx1 x2=>x1++x2) bg.toArray (List.replicate k its.toArray)=(bg++(List.replicate k its).flatten).toArray
 |0,bg=>by simp
 |k+1,bg=>by
  have e:bg.toArray++its.toArray=(bg++its).toArray:=by simp
  have e2:(bg++its)++(List.replicate k its).flatten=bg++(List.replicate (k+1) its).flatten:=by rw[Zj,aQ,Yu]
  rw[<-e2,<-JP its k (bg++its),<-e,Zj,List.foldl_cons]
section
variable{X:Cx}{s:Shared}{l b:Addr}{zs:List V}
theorem AT.lset{its':List Value}{n:Nat}{f:Array Value->Array Value}{t':Nat}(I:AT X ad σ H s)(hH:H l=some (.lst xs))
  (e:s.heap.get? l=some {cls:=.type "list",data:=.seq its.toArray n}) (hf:f its.toArray=its'.toArray) (hv:Ax ys its') (hz:ys.length<=sizeLine):
  AT X ad σ (Ac H l (.lst ys)) {s with heap:=s.heap.update l (Obj.mapSeq f),toks:=t'}:=by
 have q:=PySem.IsL.update e f;rw[hf]at q;refine I.write (x:=l) (e:=l) (by rw[hH];exact trivial) (.inl rfl) (λb' u hb hu=>(a9 s.heap (Obj.mapSeq f) (Ne.symm hb)).trans hu) ⟨_,q⟩ ?_;exact⟨hz,its',_,hv,q⟩
theorem AT.lnew(I:AT X ad σ H s)(hv:Ax ys its)(hz:ys.length<=sizeLine):
  AT X ad σ (Ac H s.heap.objs.size (.lst ys)) {s with heap:=s.heap.push {cls:=.type "list",data:=.seq its.toArray},toks:=t'}:=
 I.laid (λ_ _ q=>YK _ q) (YL _) ⟨hz,its,0,hv,YX _ rfl⟩
theorem AT.fresh(I:AT X ad σ H s):H s.heap.objs.size=none:=I.hok.fresh (YL _)
theorem AT.lstM(I:AT X ad σ H s)(hH:H l=some (.lst xs)):xs.length<=sizeLine/\∃(its:List Value) (n:Nat),Ax xs its/\xs.length=its.length/\s.heap.get? l=some {cls:=.type "list",data:=.seq its.toArray n}:=by obtain⟨z,its,n,r,e⟩:=I.hok l _ hH;exact⟨z,its,n,r,r.length,e⟩
theorem Kq{n:Nat}(h:n<=sizeLine):Builtin.List.listTooLong n=false:=by unfold Builtin.List.listTooLong;exact qI (by lia)
end
section
variable{X:Cx}
def J3:V->List V->Hp->VK->Prop:=λx vs H Q=>∃l xs y,x=.ref l/\vs=[y]/\H l=some (.lst xs)/\xs.length<sizeLine/\Q .non (Ac H l (.lst (xs++[y])))
theorem F2:X9 X "list.append" J3:=by intro ad s σ H x vs v us Q I rx rv h;obtain⟨l,xs,y,rfl,rfl,hH,hz,q⟩:=h;cases rx;obtain⟨u,rfl,ru⟩:=rv.one;obtain⟨z,its,n,r,hl,e⟩:=I.lstM hH;refine call_meets F.slot_list_append ⟨_,e,rfl⟩ F.entry_list_append (F.args_list_append_2 _ _) (PySem.list_append l its.toArray n u (by rw[Yn];lia)) ⟨e,?_⟩;refine⟨.non,_,I.lset (its':=its++[u]) hH e (by simp) (r.append (.cons ru .nil)) ?_,rfl,q⟩;rw[YN,Y5];lia
def RM:V->List V->Hp->VK->Prop:=λx vs H Q=>∃l b xs zs,x=.ref l/\vs=[.ref b]/\H l=some (.lst xs)/\H b=some (.lst zs)/\xs.length+zs.length<=sizeLine/\Q .non (Ac H l (.lst (xs++zs)))
theorem JQ:X9 X "list.extend" RM:=by
 intro ad s σ H x vs v us Q I rx rv h;obtain⟨l,b,xs,zs,rfl,rfl,hH,hB,hz,q⟩:=h;cases rx;obtain⟨u,rfl,ru⟩:=rv.one;cases ru;obtain⟨z,its,n,r,hl,e⟩:=I.lstM hH;obtain⟨z2,its2,n2,r2,hl2,e2⟩:=I.lstM hB;have hsz:its.toArray.size+its2.toArray.size<=sizeLine:=by rw[Yn,Yn];lia
 have hlong:¬(!its.toArray.isEmpty&&Builtin.List.listTooLong (its.toArray.size+its2.toArray.size))=true:=by rw[Kq hsz,Bool.and_false];exact Ya
 refine call_meets F.slot_list_extend ⟨_,e,rfl⟩ F.entry_list_extend (F.args_list_extend_2 _ _)
  (AutoSeq1.list_extend_list_list_0 l its.toArray n b its2.toArray n2 hlong (by rw[Yn];lia) (by lia)) ⟨e,e2,?_⟩
 refine⟨.non,_,I.lset (its':=its++its2) hH e (by simp) (r.append r2) ?_,rfl,q⟩;rw[YN];lia
def Vd:R2:=λx y H Q=>∃l b xs zs,x=.ref l/\y=.ref b/\H l=some (.lst xs)/\H b=some (.lst zs)/\xs.length+zs.length<=sizeLine/\∀p,H p=none->Q (.ref p) (Ac H p (.lst (xs++zs)))
theorem PJ:Fw X (binaryOp .Add) Vd:=by
 intro ad s σ H x y v u Q I rx ry h;obtain⟨l,b,xs,zs,rfl,rfl,hH,hB,hz,q⟩:=h;cases rx;cases ry;obtain⟨z,its,n,r,hl,e⟩:=I.lstM hH;obtain⟨z2,its2,n2,r2,hl2,e2⟩:=I.lstM hB;refine PySem.P.add_list e e2 ?_ (by rw[Yn,Yn];lia);have ea:its.toArray++its2.toArray=(its++its2).toArray:=by simp
 rw[ea];exact⟨.ref _,_,I.lnew (t':=s.toks) (r.append r2) (by rw[YN];lia),rfl,q _ I.fresh⟩
def Ve:R2:=λx y H Q=>∃l k xs,x=.ref l/\y=.int k/\H l=some (.lst xs)/\-(2^63)<=k/\k<2^63/\xs.length*k.toNat<=sizeLine /\
 ∀p,H p=none->Q (.ref p) (Ac H p (.lst (List.replicate k.toNat xs).flatten))
theorem RN(xs:List α)(k:Nat):(List.replicate k xs).flatten.length=k*xs.length:=by
 induction k with
 |zero=>simp
 |succ k ih=>rw[Zj,aQ,YN,ih,Nat.succ_mul,am]
theorem Tp:Fw X (binaryOp .Mult) Ve:=by
 intro ad s σ H x y v u Q I rx ry h;obtain⟨l,k,xs,rfl,rfl,hH,h1,h2,hz,q⟩:=h;cases rx;obtain⟨t,rfl⟩:=ry;obtain⟨z,its,n,r,hl,e⟩:=I.lstM hH;have hlen:its.toArray.size*k.toNat<=sizeLine:=by rw[Yn,<-hl];exact hz
 have hcap:¬its.toArray.size*k.toNat>(2^63-1)/8:=by
  have:(sizeLine:Nat)<=(2^63-1)/8:=by decide
  lia
 have hfit:¬(!Builtin.List.listFitsIndex k)=true:=by rw[fitsIndex_both h1 h2];exact Ya
 have hlong:¬Builtin.List.listTooLong (its.toArray.size*k.toNat)=true:=by rw[Kq hlen];exact Ya
 have hnew:List.foldl (λx1 x2=>x1++x2) #[] (List.replicate (if its.toArray.isEmpty=true then 0 else k.toNat) its.toArray)=(List.replicate k.toNat its).flatten.toArray:=by
  have f0:∀m:Nat,List.foldl (λx1 x2=>x1++x2) #[] (List.replicate m its.toArray)=(List.replicate m its).flatten.toArray:=λm=>by have:=JP its m [];rw[au]at this;exact this
  rw[f0];cases its with
  |nil=>simp
  |cons a r'=>rw[qE (by simp)]
 refine wpAny_binaryOp_repeat_ref (T:="list") (U:="int") (by decide) ⟨_,e,rfl⟩ (λs'=>typeIs_int s' k t) noFill_list_mul F.fills_int_mul F.slot_int_rmul repeat_list F.slot_int_index.lookup
  (call_meets F.slot_int_rmul (typeIs_int s k t) F.entry_int_rmul (F.args_int_rmul_2 _ _) (int___rmul___int_list k t l its.toArray n)
   ⟨e,rfl,⟨_,e,rfl⟩,call_meets F.slot_list_mul ⟨_,e,rfl⟩ F.entry_list_mul (F.args_list_mul_2 _ _) (AutoListH.list___mul___list_int_3 l its.toArray n k t hfit hcap hlong) ⟨e,?_⟩⟩)
 rw[hnew];exact⟨.ref _,_,I.lnew (t':=s.toks) (r.rep k.toNat) (by rw[RN,Zm];exact hz),rfl,q _ I.fresh⟩
end
end L2
namespace Att
open PySem PySem.W PySem.Calls PyProof.Rows
theorem ints_of_wellAll{P:Params}{h:Heap}:∀(ns:List Int) (vs:List Value),WellAll P h vs (ns.map WData.int)->IntsAre vs ns:=by
 intro ns
 induction ns with
 |nil =>
  intro vs w;rw[bT]at w;cases w;exact .nil
 |cons n ns ih =>
  intro vs w;rw[ZV]at w;cases w with
  |cons a b =>
   cases a;exact .cons _ _ (ih _ b)
theorem script_of{l:OpenLaw}{n:Nat}(hn:l.most=some n){P:Params}{h:Heap}{args:List WData}{vals:List Value}
  (hpre:l.row.toRowW.claim.pre args=true) (hwl:WellAll P h vals args):
  ∃a vs ns,vals=[Value.ref a]/\args=[WData.list (ns.map WData.int)]/\h.get? a=some {cls:=.type "list",data:=.seq vs.toArray}/\IntsAre vs ns/\ns.length<=n:=by
 have hsh:WShape.hasAll [] args [.list .int]=true:=(pre_splitW hpre).1;have hc:l.pre.holds [] {args:=args}=true:=(pre_splitW hpre).2;obtain⟨d,r,rfl,h1,h2⟩:=hasAllW_cons hsh;obtain rfl:=hasAllW_nil h2;obtain⟨xs,rfl,h3⟩:=hasW_list h1;obtain⟨ns,rfl⟩:=items_int h3
 have hlen:ns.length<=n:=by
  unfold OpenLaw.pre at hc
  have h4:(WTm.not (.lt (.lit (.int (n:Int))) (.len (.arg 0)))).holds [] {args:=[.list (ns.map .int)]}=true:=by have h4:=(holds_andW hc).1;rw[hn]at h4;exact h4
  have h5:=condW_of h4 (w_not (w_lt w_lit (w_len_list (w_arg rfl))));rw[YG]at h5;refine bJ λq=>?_;have q':(n:Int)<((ns.length:Nat):Int):=by lia
  first
   | (rw[qH q']at h5;exact qG h5 (by decide))
   | (simp at h5;lia)
 cases hwl with
 |cons w1 w2 =>
  cases w2;cases w1 with
  |list ho hall=>exact⟨_,_,ns,rfl,rfl,ho,ints_of_wellAll ns _ hall,hlen⟩
theorem post_true(l:OpenLaw)(args:List WData):l.row.toRowW.claim.post args (.bool true) args=true:=
 postW_of (r:=l.row.toRowW) (X:=(true==true))
  (show WShape.has [] (.bool true) .bool=true by first|rfl|decide|simp[WShape.has,WShape.arms,WShape.armsAll])
  (show (WTm.eq .res (.lit (.bool true))).value [] {args:=args,res:=some (.bool true),after:=args}=some (.bool (true==true)) from w_eq_bool (w_res rfl) w_lit) rfl
theorem attach_call{l:OpenLaw}{n:Nat}{q:Program}{loose:List Str}{XP:(Str->Option Value)->Heap->Prop}{YP:World->Heap->Prop}{d:DefRec}
  (hn:l.most=some n) (hdf:d.params.defaults=[])
  (call:∀(w:World) (s₀ s₁:Shared) (mg mb:Str->Option Value) (fa:Addr) (o:Obj) (pm cd doc:Value) (a:Addr) (vs:List Value) (ns:List Int),
   Ground q loose [] XP w s₀ mg mb s₁.heap->YP w s₁.heap ->
   s₁.heap.get? fa=some o->o.data=.func (docDef d.name d.params d.body d.scope pm cd doc)->s₁.heap.CodeRec cd d.name->mg d.name=some (.ref fa) ->
   s₁.heap.get? a=some {cls:=.type "list",data:=.seq vs.toArray}->IntsAre vs ns->ns.length<=n->s₁.gens=#[] ->
   codeAny (model l.prog w) callerA (.call (.ref fa) ⟨[.ref a],[]⟩) (λr s'=>r=.ok (.ret (.bool true))/\OldK s₁.heap s'.heap/\s'.os=s₁.os/\AllBare s'.gens) s₁):
  WalkO q loose XP YP l.row.toRowW d [] (λf vs=>PySem.call f vs):=by
 intro w s₀ s₁ mg mb G Y fa o pm cd doc dV kV ho hd hcd hD hmg hg args vals as hpre hlay hrd hwl hlo;obtain rfl:dV=.none:=Dflts.none hD hdf;obtain rfl:kV=.none:=Dflts.noKw hD;obtain⟨a,vs,ns,rfl,rfl,hobj,hints,hlen⟩:=script_of hn hpre hwl;refine enter_call (codeAny_mono (call w s₀ s₁ mg mb fa o pm cd doc a vs ns G Y ho (fd_plain hd) hcd hmg hobj hints hlen hg) λr s' hq=>?_);obtain⟨rfl,h2,h3,h4⟩:=hq;exact⟨.inl ⟨.bool true,.bool true,[],rfl,λ_=>rfl,.bool true,post_true l _,λ_=>⟨List.Pairwise.nil,λ_ hm=>(nomatch hm)⟩⟩,h2,h3,h4⟩
section
variable{prog:Program}{w:World}{A:Around}{E:Value->Shared->Prop}{s:Shared}{K:Frag}
end
end Att
namespace L2
open PySem PySem.Spec PyProof.Rows
variable{H H':Hp}{a:Addr}{an od:Option Addr}{bh doc oc:Value}{fd:FuncData}{ps:List Str}{qual:Str}{xs:List V}
theorem JR:∀{vs:List Value} {ns:List Int},IntsAre vs ns->Ax (ns.map V.int) vs
 |_,_,.nil=>.nil
 |_,_,.cons n t h=>.cons ⟨t,rfl⟩ (JR h)
def DI(s:Stmt):Arguments:=match s with
 |.FunctionDef _ a _ _ _ _ _ _ _ _=>a
 |_=>{posonlyargs:=[],args:=[],vararg:=none,kwonlyargs:=[],kw_defaults:=[],kwarg:=none,defaults:=[]}
def Ba(s:Stmt):List Stmt:=match s with
 |.FunctionDef _ _ b _ _ _ _ _ _ _=>b
 |_=>[]
def AH(s:Stmt):Scope:=match s with
 |.FunctionDef _ _ _ _ _ _ sc _ _ _=>sc
 |_=>{kind:=.function,names:=[],isGenerator:=false,isCoroutine:=false}
abbrev E0:XK:=λ_ _ _=>False
structure Bn(K:qJ)(x qual:Str)(st:Stmt)(f:Addr)(fd:FuncData):Prop where
 ex:∃(oc:Value) (od:Option Addr) (kV doc pm:Value) (an:Option Addr) (bh ct:Value) (osl:Array (Option Value)),
  fd=PySem.W.fnOf x qual (DI st) (Ba st) (AH st) .none kV doc pm an bh ct/\K.lookup f=some ⟨oc,od,.func fd,osl⟩/\PySem.W.codeIn K bh qual=true
 kp:PySem.W.keepIn K (.ref f)=true
variable{st:Stmt}{osl:Array (Option Value)}
section
variable{P:Program}{w:World}{K:qJ}{mg:Str->Option Value}{base:Heap}
theorem Bn.binds{x:Str}{f:Addr}(F:Bn K x qual st f fd)
  (h:∀(kV doc pm:Value) (an:Option Addr) (bh ct:Value) (us:List Value),us.length=ps.length->bindArgs (PySem.W.fnOf x qual (DI st) (Ba st) (AH st) .none kV doc pm an bh ct) ⟨us,[]⟩=pure (ps.zip us)):GU K fd ps []:=by
 obtain⟨oc,od,kV,doc,pm,an,bh,ct,osl,rfl,lk,hcd⟩:=F.ex;exact .all (h kV doc pm an bh ct)
theorem Tq{x:Str}{f:Addr}{kV pm ct:Value}(l:K.lookup f=some ⟨oc,od,.func (PySem.W.fnOf x qual (DI st) (Ba st) (AH st) .none kV doc pm an bh ct),osl⟩)
  (c:PySem.W.codeIn K bh qual=true) (k:PySem.W.keepIn K (.ref f)=true):Bn K x qual st f (PySem.W.fnOf x qual (DI st) (Ba st) (AH st) .none kV doc pm an bh ct):=⟨⟨oc,od,kV,doc,pm,an,bh,ct,osl,rfl,l,c⟩,k⟩
end
theorem Dc{A:Around}{k:Nat}(hr:Br k A):A.units+1<cLine:=Z0 (Nat.add_le_add_left (by decide:1<=64) _) hr.units
theorem Ae{n:Nat}(h:n<=1000):n<sizeLine:=Z0 h (by decide)
section
variable{X:Cx}
theorem pv(i:Nat){x:Str}{pos:Pos}(hN:X.N[i]?=some x:=by rfl)(hv:XG X.env.scope x:=by first|exact Or.inl rfl|exact Or.inr (Or.inl rfl)|exact Or.inr (Or.inr rfl))(hd:(x==("__debug__":Str))=false:=by decide)
  (hcd:(x==("__classdict__":Str))=false:=by decide):PE X (.Name x pos) (TZ i):=Ta hN hv hd hcd
end
theorem Tr{A B:Prop}(h:B):if false=true then A else B:=by rw[qE Ya];exact h
theorem XU{A B:Prop}(h:A):if true=true then A else B:=by rw[qF rfl];exact h
theorem XV{c A B:Prop}[Decidable c](h1:c->A)(h2:¬c->B):if c then A else B:=by
 by_cases h:c
 ·rw[qF h];exact h1 h
 ·rw[qE h];exact h2 h
def AI(H H':Hp):Prop:=∀b o,H b=some o->H' b=some o
theorem AI.refl(H:Hp):AI H H:=λ_ _ h=>h
variable{H1 H2:Hp}
theorem AI.trans(a:AI H H1)(b:AI H1 H2):AI H H2:=λc o h=>b c o (a c o h)
theorem AI.free(e:AI H H'){l:Addr}(h:H' l=Option.none):H l=Option.none:=by
 cases q:H l with
 |none=>rfl
 |some o =>
  rw[e l o q]at h;cases h
theorem AI.seq{K:qJ}(e:AI H H')(h:Ai K H a xs):Ai K H' a xs:=by
 rcases h with (h|⟨o,h⟩)|h
 ·exact .inl (.inl (e _ _ h))
 ·exact .inl (.inr ⟨o,e _ _ h⟩)
 ·exact .inr h
end L2
set_option maxHeartbeats 4000000
set_option compiler.extract_closed false
set_option genSizeOfSpec false
namespace L2
open PySem PySem.Spec PyProof.Rows
variable{C a:Addr}{CX:Qv}{D:Gf}{E:Value->Shared->Prop}{H H':Hp}{an od:Option Addr}{bh doc oc u:Value}{es:List Expr}{fd:FuncData}{i t':Nat}{name qual:Str}{o:HO}{osl:Array (Option Value)}{ad:List (Addr×Obj)}{ps:List Str}{s':Shared}{scope:Scope}{st:Stmt}{ta:TA}{tg:Expr}{xs:List V}{α β:Type}{σ:St}
noncomputable def EF(o:Obj):Option Value:=match o.data with
 |.fields vs=>vs[2]?
 |_=>none
def DK(h h':Heap):Prop:=h.objs.size<=h'.objs.size/\∀(b:Nat) (o o':Obj),h.objs[b]?=some o->h'.objs[b]?=some o'->o'.dict=o.dict/\EF o'=EF o
theorem DK.refl(h:Heap):DK h h:=⟨YL _,λb o o' e e'=>by rw[e]at e';cases e';exact⟨rfl,rfl⟩⟩
variable{h1:Heap}
theorem DK.trans{h2 h3:Heap}(x:DK h1 h2)(y:DK h2 h3):DK h1 h3:=⟨Yy x.1 y.1,λb o o' e e'=>by obtain⟨hb,_⟩:=Array.getElem?_eq_some_iff.mp e;have q:h2.objs[b]?=some (h2.objs[b]'(YS hb x.1)):=aU (YS hb x.1);exact⟨(y.2 b _ o' q e').1.trans (x.2 b o _ e q).1,(y.2 b _ o' q e').2.trans (x.2 b o _ e q).2⟩⟩
theorem PL{h:Heap}{o:Obj}(e:h.get? a=some o):h.objs[a]?=some o:=by
 unfold Heap.get? at e
 split at e
 ·cases e
 ·exact e
variable{h':Heap}
theorem DK.get{h:Heap}{o o':Obj}(x:DK h h')(e:h.get? a=some o)(e':h'.get? a=some o'):o'.dict=o.dict/\EF o'=EF o:=x.2 a o o' (PL e) (PL e')
theorem DK.push(h:Heap)(o:Obj):DK h (h.push o):=by
 refine⟨?_,λb u u' e e'=>?_⟩
 ·rw[Zg];exact Z6 _
 ·have hb:=(Array.getElem?_eq_some_iff.mp e).1;have q:(h.push o).objs[b]?=h.objs[b]?:=by show (h.objs.push o)[b]?=_;rw[Array.getElem?_push_lt hb,aU hb]
  rw[q,e]at e';cases e';exact⟨rfl,rfl⟩
theorem DK.update(h:Heap)(a:Addr){f:Obj->Obj}(k:∀o,(f o).dict=o.dict/\EF (f o)=EF o):DK h (h.update a f):=by
 have q:(h.update a f).objs=h.objs.modify a f:=rfl;refine⟨by rw[q,Array.size_modify];exact YL _,λb u u' e e'=>?_⟩;rw[q,Array.getElem?_modify]at e'
 split at e'
 ·rw[e]at e';cases e';exact k u
 ·rw[e]at e';cases e';exact⟨rfl,rfl⟩
noncomputable def KT{α:Type}:Sem α->Prop
 |.rule _ k=>∀u,KT (k u)
 |.at _ k=>∀u,KT (k u)
 |.load _ _ k=>∀u,KT (k u)
 |.update _ _ f k=>(∀o,(f o).dict=o.dict/\EF (f o)=EF o)/\∀u,KT (k u)
 |.loadIfAlive _ k=>∀u,KT (k u)
 |.point _ k=>∀u,KT (k u)
 |.alloc _ k=>∀u,KT (k u)
 |.fresh k=>∀u,KT (k u)
 |.ask k=>∀u,KT (k u)
 |.handled _ k=>∀u,KT (k u)
 |.stack k=>∀u,KT (k u)
 |.thread k=>∀u,KT (k u)
 |.pure _=>True
 |.raise _=>True
 |.unsupported _=>True
 |.finish _=>True
 |_=>False
theorem KT.keep{M:Model}{Γ:PySem.Ctx}:∀(t:Sem α),KT t->∀(Q:α->Pos->Shared->Prop) (E:Value->Pos->Shared->Prop) (p:Pos) (s:Shared),Sem.wp M Γ t Q E p s ->
  Sem.wp M Γ t (λa p' s'=>Q a p' s'/\DK s.heap s'.heap) (λe p' s'=>E e p' s'/\DK s.heap s'.heap) p s:=by
 intro t
 induction t with
 |pure x=>exact λ_ Q E p s h=>⟨h,DK.refl _⟩
 |raise v=>exact λ_ Q E p s h=>⟨h,DK.refl _⟩
 |unsupported|finish=>exact λ_ Q E p s h=>h
 |yield|fork|await|register|choose|os|call|genState|newGen|resume=>exact λk=>k.elim
 |rule _ k ih|«at» _ k ih|point _ k ih|loadIfAlive _ k ih|fresh k ih|ask k ih|handled _ k ih|stack k ih|thread k ih=>exact λz Q E p s h=>ih _ (z _) Q E _ _ h
 |alloc o k ih=>exact λz Q E p s h=>Sem.wp_mono _ _ _ (λa p' s' q=>⟨q.1,(DK.push _ _).trans q.2⟩) (λa p' s' q=>⟨q.1,(DK.push _ _).trans q.2⟩) _ _ (ih _ (z _) Q E _ _ h)
 |load a _ k ih=>exact λz Q E p s ⟨o,ho,h⟩=>⟨o,ho,ih _ (z _) Q E _ _ h⟩
 |update a _ f k ih=>exact λz Q E p s ⟨ha,h⟩=>⟨ha,Sem.wp_mono _ _ _ (λa p' s' q=>⟨q.1,(DK.update _ _ z.1).trans q.2⟩) (λa p' s' q=>⟨q.1,(DK.update _ _ z.1).trans q.2⟩) _ _ (ih _ (z.2 _) Q E _ _ h)⟩
theorem KT.run{M:Model}{A:Around}{t:Sem α}{Q:α->Shared->Prop}{s:Shared}(k:KT t)(h:wpAny M A t Q E s):
  wpAny M A t (λa s'=>Q a s'/\DK s.heap s'.heap) (λe s'=>E e s'/\DK s.heap s'.heap) s:=λΓ p hΓ=>KT.keep t k _ _ p s (h Γ p hΓ)
theorem KT.bind{m:Sem α}{f:α->Sem β}(a:KT m)(b:∀x,KT (f x)):KT (m >>= f):=by
 show KT (m.bind f)
 induction m with
 |pure x=>exact b x
 |raise v=>exact a
 |unsupported|finish=>exact a
 |yield|fork|await|register|choose|os|call|genState|newGen|resume=>exact a.elim
 |rule _ k ih|«at» _ k ih|point _ k ih|loadIfAlive _ k ih|fresh k ih|ask k ih|handled _ k ih|stack k ih|thread k ih|alloc _ k ih|load _ _ k ih=>exact λu=>ih u (a u)
 |update _ _ f' k ih=>exact⟨a.1,λu=>ih u (a.2 u)⟩
theorem KT.pure(x:α):KT (Pure.pure x:Sem α):=trivial
theorem KT.ite{c:Prop}[Decidable c]{a b:Sem α}(x:KT a)(y:KT b):KT (if c then a else b):=by split<;>assumption
theorem Ew(x:String):KT (PySem.unsupported x:Sem α):=trivial
theorem J4(a:Addr):KT (PySem.load a):=λ_=>trivial
theorem Kr(v:Value):KT (fieldsOf v):=by
 unfold fieldsOf;split
 ·refine KT.bind (J4 _) λo=>?_;split
  ·exact KT.pure _
  ·exact Ew _
 ·exact Ew _
theorem FS(v:Value)(i:Nat):KT (field v i):=by
 unfold field;refine KT.bind (Kr v) λo=>?_;split
 ·exact KT.pure _
 ·exact Ew _
theorem EG(v x:Value)(i:Nat)(hi:i≠2):KT (setField v i x):=by
 unfold setField;split
 ·unfold updateField;refine KT.bind (J4 _) λo=>?_;split
  ·refine KT.ite ⟨λo=>?_,λ_=>trivial⟩ (Ew _);obtain⟨c,d,dt,sl⟩:=o;cases dt with
   |fields vs=>exact⟨rfl,Array.getElem?_setIfInBounds_ne hi⟩
   |_=>exact⟨rfl,rfl⟩
  ·exact Ew _
 ·exact Ew _
theorem Dp(e:Value)(f:Option Addr):KT (setFlight e f):=by unfold setFlight;refine KT.bind (FS _ _) λtb=>?_;exact KT.ite (EG _ _ _ (by decide)) (KT.pure _)
theorem HN:KT PySem.stack:=λ_=>trivial
theorem Ks:∀l:List Env,KT (readyFrames l)
 |[]=>trivial
 |env::outer=>by
  unfold readyFrames;split
  ·refine KT.bind (J4 _) λo=>KT.ite (KT.pure _) ?_
   refine KT.bind ?_ λi=>KT.bind ?_ λback=>KT.bind ⟨λo=>⟨rfl,rfl⟩,λ_=>trivial⟩ λ_=>Ks outer
   ·unfold behindIsImport;exact KT.ite (KT.pure _) (KT.ite (KT.pure _) (KT.bind (FS _ _) λ_=>KT.pure _))
   ·unfold keptBack;split
    ·refine KT.ite (KT.pure _) (KT.bind ?_ λ_=>KT.pure _);unfold underTheClaimsCaller;exact KT.bind HN λ_=>KT.pure _
    ·exact KT.pure _
  ·exact Ew _
theorem L9(env:Env):KT (PySem.frameOf env):=by
 unfold PySem.frameOf frameEnvs;refine KT.bind (KT.bind HN λ_=>KT.pure _) λl=>KT.bind ?_ λr=>?_
 ·unfold frameObject;split
  ·exact KT.pure _
  ·exact KT.bind (Ks _) λ_=>KT.pure _
 ·split
  ·exact KT.pure _
  ·exact Ew _
theorem J7(ty:String)(vs:List Value):KT (newFields ty vs):=by
 unfold newFields newObj;dsimp only;split
 ·exact Ew _
 ·exact λ_=>trivial
theorem PM(f:Addr)(b:Bool):KT (entryPlaceOf f b):=by
 unfold entryPlaceOf;refine KT.bind HN λ_=>?_
 split<;>exact KT.pure _
theorem NP(e:Value)(env:Env):KT (noteFrame e env):=by
 have last:∀h:Value,∀f:Addr,KT (do setField e 1 (<-EntryCells.newEntry h (<-PySem.frameOf env) .none (rawInt f) .none (<-entryPlaceOf f (h != .none)))):=λh f =>
  KT.bind (L9 env) λ_=>KT.bind (PM _ _) λ_=>KT.bind (J7 _ _) λ_=>EG _ _ _ (by decide)
 unfold noteFrame;split
 ·refine KT.bind (FS _ _) λh=>?_;split
  ·refine KT.bind (FS _ _) λx=>KT.ite (KT.pure _) (KT.bind (EG _ _ _ (by decide)) λ_=>last h _)
  ·exact last h _
 ·exact Ew _
theorem HP(e:Value)(env:Env):KT (leaving env e):=by unfold leaving;exact KT.bind (NP _ _) λ_=>Dp _ _
structure RO(nc:Bool)(P:Program)(w:World)(outer:List Env)(H:Hp)(s:Shared)(a:Addr)(cls a0:Value)(D:Option Addr)(B:Heap)(H':Hp)(s':Shared):Prop where
 os:s'.os=s.os
 bare:AllBare s'.gens
 un:Un (D4 outer) [] H H' s.heap s'.heap
 hok:D9 P w H' s'.heap
 fly:Heap.FlyingW B outer a cls a0 s'.heap
 old:∀b o,s.heap.get? b=some o->b∉D4 outer->∀o',s'.heap.get? b=some o'->B.get? b=some o'
 trk:∀b u,H' b=some u->∀o',s'.heap.get? b=some o'->B.get? b=some o'
 dct:∃oe,s'.heap.get? a=some oe/\oe.dict=D
 ctx:nc=true->∃oe,s'.heap.get? a=some oe/\EF oe=some .none
def Oy(nc:Bool)(P:Program)(w:World):Qv:=λouter H s E e s'=>∃a cls a0 D B H',e=.ref a/\RO nc P w outer H s a cls a0 D B H' s'/\E cls D H'
abbrev JS(P:Program)(w:World):Qv:=Oy false P w
theorem Ay.somewhere{P:Program}{w:World}{h:Heap}(x:Ay P w H h a o):∃ob,h.get? a=some ob:=by
 cases o with
 |lst xs=>obtain⟨_,_,_,_,e⟩:=x;exact⟨_,e⟩
 |tup xs=>obtain⟨_,_,_,ob,e,_⟩:=x;exact⟨ob,e⟩
 |dK kvs=>obtain⟨_,_,_,_,ob,_,_,e,_⟩:=x;exact⟨ob,e⟩
 |dT kvs=>obtain⟨_,_,_,_,ob,_,_,e,_⟩:=x;exact⟨ob,e⟩
 |set S n=>obtain⟨ob,_,_,_,e,_⟩:=x;exact⟨ob,e⟩
 |ins C dx fs=>obtain⟨_,_,_,e,_⟩:=x;exact⟨_,e⟩
 |own y=>exact x
 |xd fs=>obtain⟨_,⟨ob,_,_,e,_⟩,_⟩:=x;exact⟨ob,e⟩
 |rng lo hi=>obtain⟨_,_,_,e⟩:=x;exact⟨_,e⟩
 |frz ob u=>obtain⟨e,_⟩:=x;exact⟨ob,e⟩
 |tbl ps=>exact⟨_,(show h.get? a=some _ from x)⟩
 |met f y=>exact⟨_,(show h.get? a=some _ from x)⟩
 |ext φ=>obtain⟨_,e,_⟩:=x;exact e
variable{nc:Bool}{cls a0:Value}
section
variable{X:Cx}{s:Shared}
theorem AT.slotted(I:AT X ad σ H s)(k:∀b o,s.heap.get? b=some o->b∉D4 X.stack->h'.get? b=some o)
  (f:∀b o,s.heap.get? b=some o->b∈D4 X.stack->∃sl,h'.get? b=some {o with slots:=sl}):AT X ad σ H {s with heap:=h',toks:=t'}:=by
 have u:Un (D4 X.stack) [] H H s.heap h':=⟨λb o e _ hb _=>k b o e hb,λb o e _ hb _=>f b o e hb,λ_ _ _ n _=>n,λb o e _=>by
  by_cases hb:b∈D4 X.stack
  ·obtain⟨sl,q⟩:=f b o e hb;exact⟨_,q⟩
  ·exact⟨o,k b o e hb⟩,λ_ _ q=>q,λ_ _ _ q=>q,λb ps q=>⟨#[],by rw[q];simp⟩⟩
 have hok:D9 X.prog X.w H h':=λb u q=>(I.hok b u q).stay (λc v hc r=>k c v r λhm=>by
  have z:=I.stkFree c hm;rcases hc with e|e
  ·rw[e,q]at z;cases z
  ·rw[e]at z;cases z) (λ_ q=>q) λ_ _ q=>q
 exact I.call (g':=s.gens) (d':=s.drawn) (ch:=[]) u hok I.bare (λb z=>qG z (by simp))
theorem AT.frameData(I:AT X ad σ H s){b:Addr}{o:Obj}(e:s.heap.get? b=some o)(hb:b∈D4 X.stack):∀vs,o.data≠.fields vs:=by obtain⟨_,o',e',nf⟩:=I.stack.mem hb;rw[e]at e';cases e';exact nf
theorem RO.fresh{D:Option Addr}{B:Heap}(F:RO nc X.prog X.w X.stack H s a cls a0 D B H' s'):H' a=none/\s.heap.get? a=none:=by
 have hB:=F.fly.2.1;obtain⟨oe,vs,he,_,hd,_⟩:=F.fly.first;refine⟨?_,?_⟩
 ·cases q:H' a with
  |none=>rfl
  |some u =>
   have z:=F.trk a u q oe he;rw[hB]at z;cases z
 ·cases q:s.heap.get? a with
  |none=>rfl
  |some o =>
   by_cases hm:a∈D4 X.stack
   ·obtain⟨_,o',e',nf⟩:=F.fly.2.2.1.mem hm;rw[he]at e';cases e';exact qG hd (nf vs)
   ·have z:=F.old a o q hm oe he;rw[hB]at z;cases z
theorem RO.unAt{D:Option Addr}{B:Heap}(I:AT X ad σ H s)(F:RO nc X.prog X.w X.stack H s a cls a0 D B H' s')(hB:B.StaysIn h')(sm:s'.heap.UpToSlots h'):
  Un (D4 X.stack) [] H H' s.heap h'/\D9 X.prog X.w H' h':=by
 have up:∀b o,s.heap.get? b=some o->b∈D4 X.stack->∃sl,h'.get? b=some {o with slots:=sl}:=λb o e hb=>by obtain⟨sl,e1⟩:=F.un.slot b o e (I.stkFree b hb) hb (by simp);obtain⟨sl',e2⟩:=sm b _ e1 (show ∀vs,o.data≠.fields vs from I.frameData e hb);exact⟨sl',e2⟩
 refine⟨⟨λb o e n hb hx=>hB b o (F.old b o e hb o (F.un.keep b o e n hb hx)),λb o e _ hb _=>up b o e hb,F.un.free,λb o e hx=>?_,F.un.tups,F.un.frzs,F.un.tbls⟩,λb u q=>?_⟩
 ·by_cases hb:b∈D4 X.stack
  ·obtain⟨sl,q⟩:=up b o e hb;exact⟨_,q⟩
  ·obtain⟨o',e1⟩:=F.un.there b o e hx;exact⟨o',hB b o' (F.old b o e hb o' e1)⟩
 ·refine (F.hok b u q).stay (λc v hc r=>?_) (λ_ q=>q) λ_ _ q=>q
  rcases hc with e|e
  ·subst e;exact hB c v (F.trk c u q v r)
  ·exact hB c v (F.trk c _ e v r)
theorem RO.land{D:Option Addr}{B:Heap}(I:AT X ad σ H s)(F:RO nc X.prog X.w X.stack H s a cls a0 D B H' s')(hB:B.StaysIn h')(sm:s'.heap.UpToSlots h'):AT X ad σ H' {s' with heap:=h',toks:=t'}:=by obtain⟨u,hok⟩:=F.unAt I hB sm;exact I.call' (s':={s' with heap:=h',toks:=t'}) (ch:=[]) F.os u hok F.bare (λb z=>qG z (by simp))
def GV(a:Addr)(cls:Value)(D:Option Addr)(n:Bool)(h:Heap):Prop:=∃o vs,h.get? a=some o/\o.cls=cls/\o.data=.fields vs/\o.dict=D/\(n=true->∃t:Addr,vs=#[.ref t,.none,.none,.none,.bool false,.none])
noncomputable def RP(a:Addr)(cls:Value)(D:Option Addr)(n:Bool):HO:=.ext (GV a cls D n)
theorem RO.land'{D:Option Addr}{B:Heap}{l:List Env}(I:AT X ad σ H s)(F:RO nc X.prog X.w X.stack H s a cls a0 D B H' s')(fl:Heap.FlyingW B l a cls a0 h')(sm:s'.heap.UpToSlots h')(dk:DK s'.heap h'):
  AT X ad σ (Ac H' a (RP a cls D false)) {s' with heap:=h',toks:=t'}:=by
 obtain⟨u,hok⟩:=F.unAt I fl.1 sm;obtain⟨n1,n2⟩:=F.fresh;obtain⟨oe,vs,he,hc,hd,_⟩:=fl.first;have ne:∀b o,s.heap.get? b=some o->b≠a:=λb o e z=>by rw[z,n2]at e;cases e
 have ne2:∀b o,H' b=some o->b≠a:=λb o e z=>by rw[z,n1]at e;cases e
 refine I.call' (s':={s' with heap:=h',toks:=t'}) (ch:=[]) F.os ⟨u.keep,u.slot,λb o e n hx=>?_,u.there,λb xs q=>?_,λb o v q=>?_,λb ps q=>?_⟩ (λb v q=>?_) F.bare (λb z=>qG z (by simp))
 ·rw[AN (ne b o e)];exact u.free b o e n hx
 ·have q':=u.tups b xs q;rw[AN (ne2 b _ q')];exact q'
 ·have q':=u.frzs b o v q;rw[AN (ne2 b _ q')];exact q'
 ·obtain⟨more,q'⟩:=u.tbls b ps q;exact⟨more,by rw[AN (ne2 b _ q')];exact q'⟩
 ·by_cases hb:b=a
  ·subst hb;rw[AE]at q;cases q;obtain⟨ow,hw,hwd⟩:=F.dct;exact⟨⟨oe,vs,he,hc,hd,(dk.get hw he).1.trans hwd,λz=>by cases z⟩,⟨oe,he⟩,λh1 h2 ⟨o,ws,e,r⟩ k=>⟨o,ws,k o e,r⟩⟩
  ·rw[AN hb]at q;exact (hok b v q).stay (λc v' _ r=>r) (λc z=>by rw[AN (ne2 c _ z)];exact z) λc xs z=>by rw[AN (ne2 c _ z)];exact z
end
def PN(X:Cx)(C:Value)(E:XK):Prop:=
 ∀(ad:List (Addr×Obj)) (σ:St) (H:Hp) (s:Shared) (h':Heap) (e:Addr) (args:List Value),AT X ad σ H s->Heap.MadeExcOf s.heap h' e C args->E C none H->X.xe (.ref e) {s with heap:=h'}
def FT(CX:Qv)(X:Cx)(E:St->XK):Prop:=∀(ad:List (Addr×Obj)) (σ:St) (H:Hp) (s:Shared) (e:Value) (s':Shared),AT X ad σ H s->CX X.stack H s (E σ) e s'->X.xe e s'
section
variable{P:Program}{w:World}{K:qJ}{mg:Str->Option Value}{base:Heap}{N:List Str}{f:Addr}{cd:Value}{A:Around}{outer:List Env}{s:Shared}{E:XK}
theorem CC{C:Value}:PN (D5 (Oy nc P w) P w K mg base N qual scope f cd A outer s H E) C E:=by
 intro ad σ H1 s1 h1 e args I hx hE;generalize hX:D5 (Oy nc P w) P w K mg base N qual scope f cd A outer s H E=X at I⊢;have hst:X.stack=X.env::X.outer:=by rw[<-hX];rfl
 have hfr:X.env.frame=some X.env.locals:=by rw[<-hX];rfl
 have hxe:X.xe=λe s'=>wpAny (model P w) X.A (leaving X.env e) (λ_ s''=>Oy nc P w X.outer X.H₀ X.s₀ E e s'') (λe' s''=>Oy nc P w X.outer X.H₀ X.s₀ E e' s'') s':=by rw[<-hX];rfl
 have hex:X.ex=[]:=by rw[<-hX];rfl
 have hp:X.prog=P:=by rw[<-hX];rfl
 have hw:X.w=w:=by rw[<-hX];rfl
 subst hp hw;rw[hxe];have fr:=I.stack;have hin:∀env∈X.stack,∀b,env.frame=some b->b∈D4 X.stack:=λenv he b hb=>ap.mpr ⟨env,he,hb⟩
 have fr':s1.heap.FunFrames (PySem.W.hideAll s1.heap (D4 X.stack)) (X.env::X.outer):=by rw[<-hst];exact PySem.W.funFrames_hide fr hin
 refine wpAny_mono (KT.run (HP _ _) (wpAny_leaves_madeW (Q:=λ_ s2=>∃h2 t,s2={s1 with heap:=h2}/\Heap.FlyingW (PySem.W.hideAll s1.heap (D4 X.stack)) X.outer e C (.ref t) h2/\h1.UpToSlots h2) (E:=λ_ _=>False) (base:=PySem.W.hideAll s1.heap (D4 X.stack)) (h:=s1.heap) (L:=X.env.locals) (by rw[<-hst];exact I.ok.frames) hfr (λb o q=>PySem.W.of_hideAll _ q) fr' hx λh2 t x1 x2 x3 x4=>⟨h2,t,rfl,x1,x4⟩)) (λ_ s2 q=>?_) λ_ _ q=>q.1.elim
 obtain⟨⟨h2,t,rfl,x1,x4⟩,dk⟩:=q;have kept:∀b o,s1.heap.get? b=some o->b∉D4 X.stack->h2.get? b=some o:=λb o q hb=>x1.1 b o (aj _ q hb)
 have J:AT X ad σ H1 {s1 with heap:=h2,toks:=s1.toks}:=I.slotted kept λb o q hb=>x4 b o (hx.keeps b o q) (I.frameData q hb)
 have un:Un (D4 X.outer) [] X.H₀ H1 X.s₀.heap h2:=by have z:=J.base;rw[hex]at z;exact z
 have hdc:∃oe,h2.get? e=some oe/\oe.dict=none:=by obtain⟨ob,hob,_⟩:=x1.there;obtain⟨t',he,_,_⟩:=hx.there;exact⟨ob,hob,(dk.get he hob).1.trans rfl⟩
 have hcx:∃oe,h2.get? e=some oe/\EF oe=some .none:=by obtain⟨ob,hob,_⟩:=x1.there;obtain⟨t',he,_,_⟩:=hx.there;exact⟨ob,hob,(dk.get he hob).2.trans rfl⟩
 refine⟨e,C,.ref t,none,_,H1,rfl,⟨J.os,J.bare,un,J.hok,x1,λb o q hb o' q'=>?_,λb u q o' q'=>?_,hdc,λ_=>hcx⟩,hE⟩
 ·obtain⟨o1,q1⟩:=I.base.there b o q (by rw[hex];simp)
  have hn:b∉D4 X.stack:=λz=>by
   rcases Yf.mp (I.stkSub b z) with y|y
   ·exact qG (YS (YQ q) I.ok.above) (by rw[y];exact Yh _)
   ·exact hb y
  have q2:=kept b o1 q1 hn;rw[q']at q2;cases q2;exact aj _ q1 hn
 ·have hn:b∉D4 X.stack:=λz=>by
   have y:=I.stkFree b z;rw[q]at y;cases y
  obtain⟨o1,r⟩:=(I.hok b u q).somewhere;have q2:=kept b o1 r hn;rw[q']at q2;cases q2;exact aj _ r hn
theorem DJ:FT (Oy nc P w) (D5 (Oy nc P w) P w K mg base N qual scope f cd A outer s H E) (λ_=>E):=by
 intro ad σ H1 s1 e s2 I h;generalize hX:D5 (Oy nc P w) P w K mg base N qual scope f cd A outer s H E=X at I h⊢;have hst:X.stack=X.env::X.outer:=by rw[<-hX];rfl
 have hfr:X.env.frame=some X.env.locals:=by rw[<-hX];rfl
 have hxe:X.xe=λe s'=>wpAny (model P w) X.A (leaving X.env e) (λ_ s''=>Oy nc P w X.outer X.H₀ X.s₀ E e s'') (λe' s''=>Oy nc P w X.outer X.H₀ X.s₀ E e' s'') s':=by rw[<-hX];rfl
 have hex:X.ex=[]:=by rw[<-hX];rfl
 have hp:X.prog=P:=by rw[<-hX];rfl
 have hw:X.w=w:=by rw[<-hX];rfl
 subst hp hw;rw[hxe];obtain⟨a,cls,a0,D,B,H',rfl,F,hE⟩:=h;have fl:Heap.FlyingW B (X.env::X.outer) a cls a0 s2.heap:=by rw[<-hst];exact F.fly
 refine wpAny_mono (KT.run (HP _ _) (wpAny_leaves_onW (Q:=λ_ s3=>∃h3,s3={s2 with heap:=h3}/\Heap.FlyingW B X.outer a cls a0 h3/\s2.heap.UpToSlots h3) (E:=λ_ _=>False) (by rw[<-hst];exact I.ok.frames) hfr fl λh3 x1 x2=>⟨h3,rfl,x1,x2⟩)) (λ_ s3 q=>?_) λ_ _ q=>q.1.elim
 obtain⟨⟨h3,rfl,x1,x2⟩,dk⟩:=q;have J:AT X ad σ H' {s2 with heap:=h3,toks:=s2.toks}:=F.land I x1.1 x2;have un:Un (D4 X.outer) [] X.H₀ H' X.s₀.heap h3:=by have z:=J.base;rw[hex]at z;exact z
 have hdc:∃oe,h3.get? a=some oe/\oe.dict=D:=by obtain⟨ob,hob,_⟩:=x1.there;obtain⟨ow,hw,hwd⟩:=F.dct;exact⟨ob,hob,(dk.get hw hob).1.trans hwd⟩
 have hcx:nc=true->∃oe,h3.get? a=some oe/\EF oe=some .none:=λhnc=>by obtain⟨ob,hob,_⟩:=x1.there;obtain⟨ow,hw,hwd⟩:=F.ctx hnc;exact⟨ob,hob,(dk.get hw hob).2.trans hwd⟩
 refine⟨a,cls,a0,D,B,H',rfl,⟨J.os,J.bare,un,J.hok,x1,λb o q hb o' q'=>?_,λb u q o' q'=>?_,hdc,hcx⟩,hE⟩
 ·obtain⟨o1,q1⟩:=I.base.there b o q (by rw[hex];simp)
  have hn:b∉D4 X.stack:=λz=>by
   rcases Yf.mp (I.stkSub b z) with y|y
   ·exact qG (YS (YQ q) I.ok.above) (by rw[y];exact Yh _)
   ·exact hb y
  obtain⟨o2,q2⟩:=F.un.there b o1 q1 (by simp);have q3:=F.old b o1 q1 hn o2 q2;have q4:=x1.1 b o2 q3;rw[q']at q4;cases q4;exact q3
 ·obtain⟨o2,q2⟩:=(F.hok b u q).somewhere;have q3:=F.trk b u q o2 q2;have q4:=x1.1 b o2 q3;rw[q']at q4;cases q4;exact q3
end
abbrev ME:List Value:=[.type "ValueError",.type "Exception",.type "BaseException",.type "object"]
theorem RQ{K:qJ}{h:Heap}{newId:String}{bmB:List Value}(kin:K.In h)(q:PySem.W.excIn K C bmB newId=true):
  ∃tl N nm qn bs dy sn sub ab col dd k0 k1 k2 k3 k5 mN,h.get? C=some (excClassObj nm qn C N bs tl dy sn sub ab col dd k0 k1 k2 k3 k5 newId)/\h.Ns N mN/\mN "__init__"=none/\OwnTail h bmB tl:=by
 unfold PySem.W.excIn at q
 split at q
 next dd cd sl ho =>
  split at q
  next C2 tl k0 k1 k2 k3 n k5 hm hs =>
   simp only[Bool.and_eq_true,beq_iff_eq,Bool.not_eq_true']at q;obtain⟨⟨⟨⟨⟨e1,e2⟩,e3⟩,e4⟩,e5⟩,e6⟩:=q;subst e1 e2;obtain⟨nm,bs,mro,N,qn,dy,sn,sub,ab,col,del⟩:=cd;dsimp only at hm e3 e5 e6;subst hm e3
   have e7:sl=#[k0,k1,k2,k3,some (.builtin n),k5]:=by obtain⟨l⟩:=sl;simp only at hs;rw[hs]
   subst e7;exact⟨tl,N,nm,qn,bs,dy,sn,sub,ab,col,dd,k0,k1,k2,k3,k5,_,kin _ _ ho,.of_isNs (PySem.W.isNs_of_in kin e5),PySem.W.nsMap_none_of_in kin e5 e6,PySem.W.tail_of_in kin e4⟩
  next=>cases q
 next=>cases q
def PP(C:Addr)(E:XK)(t:TA):TS:=λ_ σ H=>t σ H λvs H1=>vs.length<=sizeLine/\E (.ref C) none H1
section
variable{X:Cx}{x:Str}{E:XK}{e:Expr}{t:TA}{np cpos pos:Pos}
theorem Dd(hc:X.calm=true)(hC:PySem.W.excIn X.K C ME "ValueError.__new__"=true)(hg:Gl X x)(hm:X.mg x=some (.ref C))(hx:PN X (.ref C) E)(ha:PA X (e::es) t)
  (hdb:(x==("__debug__":Str))=false:=by decide) (he:starEach (e::es) X.env=(false,eval e X.env)::starEach es X.env:=by rfl) (hpl:(backTo cpos (starEach es X.env)).any (·.1)=false:=by rfl):
  PS X (.Raise (some (.Call (.Name x np) (e::es) [] cpos)) none pos) (PP C E t):=by
 intro ad s σ H D I h;obtain⟨tl,N,nm,qn,bs,dy,sn,sub,ab,col,dd,k0,k1,k2,k3,k5,mN,hO,hN,hni,T⟩:=RQ I.mod.kin hC;have FB:=PySem.F.excBase_ValueError;have arg:=ha cpos ad s σ H _ I h;refine wpAny_Raise_call_subT (C:=C) (nm:=nm) (q:=qn) (N:=N) (bs:=bs) (bm:=tl) (hdct:=dy) (sn:=sn) (sub:=sub) (ab:=ab) (col:=col) (dd:=dd) (k0:=k0) (k1:=k1) (k2:=k2) (k3:=k3) (k5:=k5) FB (mN:=mN) (T.hasType FB.hasBase) (I.ok.hd hc) ?_ hni (Gm I hg hm ⟨rfl,?_⟩ hdb)
 ·rw[he];show (false||(backTo cpos (starEach es X.env)).any (·.1))=false;rw[hpl];rfl
 ·rw[he]at arg⊢;refine Calls.evalArgs_plain (BQ arg λus s2 z9=>?_);obtain⟨vs,H2,I2,r,z,q⟩:=z9;exact⟨rfl,by rw[<-r.length];exact z,I2.bk _ _ hO,hN.keeps I2.bk,T.keeps I2.bk,λh2 a hq=>hx ad σ H2 s2 h2 a us I2 hq q⟩
end
def J8(sp:Sp)(dvs:List V)(E:St->XK)(t:TA):TE:=λσ H Q=>t σ H λvs H1=>sp (vs++dvs) H1 Q (E σ)
section
variable{X:Cx}{k:Nat}{f:Addr}{sp:Sp}{dvs:List V}{ds:List Value}{E:St->XK}{x:Str}{p pos:Pos}{e:Expr}{t:TA}
theorem PQ(F:Fz X.prog X.w X.K X.mg X.base CX k f fd ps sp)(hr:Br k X.A)(hg:Gl X x)(hm:X.mg x=some (.ref f))(hk:PySem.W.keepIn X.K (.ref f)=true)(hb:GU X.K fd ps ds)(hd:Ax dvs ds)(hx:FT CX X E)
  (ha:PA X (e::es) t) (hdb:(x==("__debug__":Str))=false:=by decide) (he:starEach (e::es) X.env=(false,eval e X.env)::starEach es X.env:=by rfl) (hpl:(backTo pos (starEach es X.env)).any (·.1)=false:=by rfl):
  PE X (.Call (.Name x p) (e::es) [] pos) (J8 sp dvs E t):=by
 intro ad s σ H Q I h;refine wpAny_Call_Name_kw (Gm I hg hm ?_ hdb);refine PySem.W.callWith_K (h₀:=X.base) I.ok.mod.kin hk (BQ (ha pos ad s σ H _ I h) λus s1 ⟨vs,H1,I1,r,q⟩=>⟨I1.kIn,?_⟩) he hpl;have r2:Ax (vs++dvs) (us++ds):=r.append hd;have hl:(us++ds).length=ps.length:=by rw[<-r2.length];exact F.len _ _ _ _ q
 refine wpAny_call (codeAny_mono (F.run X.A X.stack s1 H1 ⟨us,[]⟩ (us++ds) (vs++dvs) Q (E σ) hr I1.env0 (hb s1 us I1.kIn hl) r2 q) λrs s2 hq=>?_);rcases rs with er|fl
 ·exact hx ad σ H1 s1 er s2 I1 hq
 ·cases fl with
  |ret u=>exact I1.after hq
  |next=>exact False.elim hq
  |brk=>exact False.elim hq
  |cont=>exact False.elim hq
end
variable{sp:Sp}
section
variable{P:Program}{w:World}{K:qJ}{mg:Str->Option Value}{base:Heap}
theorem Bn.okX{x:Str}{f:Addr}{N:List Str}{k:Nat}(F:Bn K x qual st f fd)(S:AK N ps (AH st))(len:∀vs H Q E,sp vs H Q E->vs.length=ps.length)
  (hbody:∀(bh:Value) (A:Around) (outer:List Env) (s:Shared) (H:Hp) (vs:List V) (Q:VK) (E:XK),Br k (A.deeper (envOfC qual (AH st) s.heap.objs.size f bh))->sp vs H Q E ->
   ∃t,GS (D5 (Oy nc P w) P w K mg base N qual (AH st) f bh A outer s H E) (Ba st) t/\t {nx:=λ_ H'=>Q .non H',rt:=Q} (Cm N vs) H):Fz P w K mg base (Oy nc P w) (k+1) f fd ps sp:=by
 obtain⟨oc,od,kV,doc,pm,an,bh,ct,osl,rfl,lk,hcd⟩:=F.ex;exact Se lk hcd S len λA outer s H vs Q E hr hsp=>hbody bh A outer s H vs Q E hr hsp
end
theorem PS.nox{X:Cx}{t:TS}(h:PS X.nox st t):PS X st t:=λad s σ H D I hw =>
 wpAny_mono (h ad s σ H D (I.wish _) hw) (λ_ _ q=>q.unwish) λ_ _ q=>q.elim
abbrev Cx.but(X:Cx)(p:List (Addr×Obj))(E:Value->Shared->Prop):Cx:={X with pn:=p,xe:=E}
theorem Cx.Ok.but{X:Cx}(ok:X.Ok)(p:List (Addr×Obj))(E:Value->Shared->Prop):(X.but p E).Ok:=
 ⟨ok.mod,ok.kind,ok.glob,ok.blt,ok.above,ok.inj,ok.has,ok.cab,ok.hd,ok.frames,ok.stk,ok.exf,ok.bs,ok.bsz,ok.noex,ok.exfs,ok.funs,ok.frf⟩
theorem Cx.Ok.unbut{X:Cx}{p:List (Addr×Obj)}(ok:(X.but p E).Ok):X.Ok:=
 ⟨ok.mod,ok.kind,ok.glob,ok.blt,ok.above,ok.inj,ok.has,ok.cab,ok.hd,ok.frames,ok.stk,ok.exf,ok.bs,ok.bsz,ok.noex,ok.exfs,ok.funs,ok.frf⟩
noncomputable def Cx.tr(X:Cx)(p:List (Addr×Obj))(W:St->XK):Cx:=X.but p λe s'=>∃ad σ H s,AT (X.but p λ_ _=>False) ad σ H s/\JS X.prog X.w X.stack H s (W σ) e s'
noncomputable def Cx.hdl(X:Cx)(v:Value):Cx:={X with A:=X.A.mark (some v),calm:=false,xe:=λ_ _=>False}
variable{pos:Pos}
section
variable{X:Cx}{pins' p:List (Addr×Obj)}{s:Shared}{E':Value->Shared->Prop}
theorem AT.but(I:AT X ad σ H s)(E:Value->Shared->Prop):AT (X.but (X.pn++ad) E) [] σ H s:=
 ⟨I.ok.but _ _,I.os,I.bare,I.base,I.loc,I.cell,I.free,I.freeC,λq hq=>I.pin q (by simpa using hq),I.hok,I.len⟩
theorem AT.unbut(I:AT (X.but (X.pn++ad) E) pins' σ H s):AT X ad σ H s:=
 ⟨I.ok.unbut,I.os,I.bare,I.base,I.loc,I.cell,I.free,I.freeC,λq hq=>I.pin q (Z3 _ hq),I.hok,I.len⟩
theorem AT.rebut(I:AT (X.but p E) ad σ H s):AT (X.but p E') ad σ H s:=
 ⟨I.ok.unbut.but _ _,I.os,I.bare,I.base,I.loc,I.cell,I.free,I.freeC,I.pin,I.hok,I.len⟩
theorem AT.hdl(I:AT X ad σ H s)(v:Value):AT (X.hdl v) ad σ H s:=
 ⟨⟨I.ok.mod,I.ok.kind,I.ok.glob,I.ok.blt,I.ok.above,I.ok.inj,I.ok.has,I.ok.cab,λz=>qG z (by show ¬(false=true);decide),I.ok.frames,I.ok.stk,I.ok.exf,I.ok.bs,I.ok.bsz,I.ok.noex,I.ok.exfs,I.ok.funs,I.ok.frf⟩,
  I.os,I.bare,I.base,I.loc,I.cell,I.free,I.freeC,I.pin,I.hok,I.len⟩
theorem AT.unhdl{v:Value}(hd:X.calm=true->X.A.handled=none)(I:AT (X.hdl v) ad σ H s):AT X ad σ H s:=
 ⟨⟨I.ok.mod,I.ok.kind,I.ok.glob,I.ok.blt,I.ok.above,I.ok.inj,I.ok.has,I.ok.cab,hd,I.ok.frames,I.ok.stk,I.ok.exf,I.ok.bs,I.ok.bsz,I.ok.noex,I.ok.exfs,I.ok.funs,I.ok.frf⟩,
  I.os,I.bare,I.base,I.loc,I.cell,I.free,I.freeC,I.pin,I.hok,I.len⟩
theorem MF{W:St->XK}:FT (JS X.prog X.w) (X.tr p W) W:=λad σ H s e s' I h=>⟨ad,σ,H,s,AT.rebut (X:=X) I,h⟩
theorem SP.unbut{f:Flow}(h:SP (X.but (X.pn++ad) E) pins' D f s'):SP X ad D f s':=by
 cases f with
 |next=>obtain⟨a,b,I,q⟩:=h;exact⟨a,b,I.unbut,q⟩
 |brk=>obtain⟨a,b,I,q⟩:=h;exact⟨a,b,I.unbut,q⟩
 |cont=>obtain⟨a,b,I,q⟩:=h;exact⟨a,b,I.unbut,q⟩
 |ret u=>obtain⟨v,a,b,I,q⟩:=h;exact⟨v,a,b,I.unbut,q⟩
theorem Gp{M:Model}{A:Around}{n:Str}{Q:Unit->Shared->Prop}(I:AT X ad σ H s)(hN:X.N.Nodup)(hi:X.N[i]?=some n)(hl:X.env.scope.names.lookup n=some .local)
  (h:∀s',AT X ad (σ.set i none) H s'->Q () s'):wpAny M A (do bindName X.env n .none;unbindBehindTheSuite X.env n pos) Q E s:=by
 obtain⟨m,hn,lk⟩:=id I.loc;have hcls:(X.env.scope.kind==.class||(X.env.scope.kind==.module&&X.env.locals != X.env.globals))=false:=by rw[I.ok.kind];rfl
 refine wpAny_nameGoes_keeps (show X.env.kindOf n=some .local from hl) hn hcls λh' v hn' sb=>h _ ?_
 have away:∀b o,X.s₀.heap.get? b=some o->b≠X.env.locals:=λb o e=>Yp (YS (YQ e) I.ok.above)
 have hiσ:i<σ.length:=by rw[I.len];exact (YJ.mp hi).1
 refine⟨I.ok,I.os,I.bare,⟨λb o e nn hb hx=>(sb.2 b (away b o e)).trans (I.base.keep b o e nn hb hx),λb o e nn hb hx=>?_,I.base.free,λb o e hx=>?_,I.base.tups,I.base.frzs,I.base.tbls⟩,
  ⟨_,hn',λj y w e1 e2 e3=>?_⟩,λy c e=>?_,I.free,I.freeC,λq hq=>?_,λb u q=>?_,by simpa using I.len⟩
 ·obtain⟨sl,e1⟩:=I.base.slot b o e nn hb hx;exact⟨sl,(sb.2 b (away b o e)).trans e1⟩
 ·obtain⟨o',e1⟩:=I.base.there b o e hx;exact⟨o',(sb.2 b (away b o e)).trans e1⟩
 ·by_cases hj:j=i
  ·subst hj;rw[az hiσ]at e2;cases e2
  ·rw[bM (Ne.symm hj)]at e2;obtain⟨u,r,z⟩:=lk j y w e1 e2 e3;refine⟨u,r,?_⟩;rcases z with⟨k,z⟩|⟨k,c,z,y'⟩
   ·have ny:y≠n:=λq=>hj (G8 hN e1 (q▸hi))
    exact .inl ⟨k,by simp[ny,z]⟩
   ·exact .inr ⟨k,c,z,y'.sameBut sb (I.cne y c z)⟩
 ·obtain⟨w,z⟩:=I.cell y c e;exact⟨w,z.sameBut sb (I.cne y c e)⟩
 ·obtain⟨e,nn,ne,nf,d⟩:=I.pin q hq;exact⟨(sb.2 q.1 ne).trans e,nn,ne,nf,d⟩
 ·refine (I.hok b u q).stay (λc w hc r=>(sb.2 c λz=>?_).trans r) (λ_ q=>q) λ_ _ q=>q
  have fz:=I.free;rcases hc with e|e
  ·rw[<-z,e,q]at fz;cases fz
  ·rw[<-z,e]at fz;cases fz
end
def Vf(K:qJ)(R:Value)(i:Nat)(W:St->XK)(tb th:TS):TS:=λD σ H=>tb D σ H/\∀σ' cls D' H',W σ' cls D' H'->PySem.W.exmOne K cls R=some true/\∀a,H' a=none ->
 th {nx:=λσ2 H2=>D.nx (σ2.set i none) H2,rt:=D.rt,bk:=λσ2 H2=>D.bk (σ2.set i none) H2,ct:=λσ2 H2=>D.ct (σ2.set i none) H2} (σ'.set i (some (.ref a))) (Ac H' a (RP a cls D' false))
section
variable{X:Cx}{x n:Str}{R:Addr}{W:St->XK}{b:List Stmt}{c0:Stmt}{suite:List Stmt}{tb th:TS}{np hpos:Pos}
theorem Ts(hN:X.N.Nodup)(hi:X.N[i]?=some n)(hl:X.env.scope.names.lookup n=some .local)(hg:Gl X x)(hm:X.mg x=some (.ref R))(hst:X.stack=X.env::X.outer)(hfr:X.env.frame=some X.env.locals)
  (hb:∀p,GS (X.tr p W) b tb) (hs:∀v,GS (X.hdl v) (c0::suite) th) (hd:(x==("__debug__":Str))=false:=by decide):
  PS X (.Try b [.ExceptHandler (some (.Name x np)) (some n) (c0::suite) hpos] [] [] pos) (Vf X.K (.ref R) i W tb th):=by
 intro ad s σ H D I h;obtain⟨h1,h2⟩:=h;refine wpAny_Try_except (wpAny_mono (hb (X.pn++ad) [] s σ H D (I.but _) h1) (λf s1 q=>?_) λe s1 q=>?_)
 ·have q':SP X ad D f s1:=SP.unbut (pins':=[]) q;cases f with
  |next=>exact wpAny_execs_nil q'
  |ret u=>exact q'
  |brk=>exact q'
  |cont=>exact q'
 ·obtain⟨pins0,σ0,H0,s0,I0,a,cls,a0,D',B,H',rfl,F,hW⟩:=q;have J0:AT X ad σ0 H0 s0:=I0.unbut;obtain⟨hx,hth⟩:=h2 σ0 cls D' H' hW;have fl:Heap.FlyingW B (X.env::X.outer) a cls a0 s1.heap:=by rw[<-hst];exact F.fly
  refine wpAny_mono (KT.run (NP _ _) (wpAny_looks_onW (Q:=λ_ s4=>∃h4,s4={s1 with heap:=h4}/\Heap.HeldW B (X.env::X.outer) a cls a0 X.env.locals h4/\s1.heap.UpToSlots h4) (E:=λ_ _=>False) (by rw[<-hst];exact J0.ok.frames) hfr fl λh4 held4 sm4=>⟨h4,rfl,held4,sm4⟩)) (λ_ s4 q=>?_) λ_ _ q=>q.1.elim
  obtain⟨⟨h4,rfl,held4,sm4⟩,dk4⟩:=q;refine wpAny_mono (KT.run (Dp _ _) (wpAny_landsW (Q:=λ_ s5=>∃h5,s5={s1 with heap:=h5}/\Heap.FlyingW B (X.env::X.outer) a cls a0 h5/\h4.UpToSlots h5) (E:=λ_ _=>False) (s:={s1 with heap:=h4}) held4 λh5 fl5 sm5=>⟨h5,rfl,fl5,sm5⟩)) (λ_ s5 q=>?_) λ_ _ q=>q.1.elim
  obtain⟨⟨h5,rfl,fl5,sm5⟩,dk5⟩:=q;have J5:AT X ad σ0 H' {s1 with heap:=h5,toks:=s1.toks}:=F.land J0 fl5.1 (sm4.trans sm5);have K5:=J5.hdl (.ref a);refine wpAny_handleBy_cons (codeAny_handlers_test (Gm K5 hg hm ?_ hd)) (by intro q;cases q);obtain⟨ob,hob,hobc⟩:=fl5.there
  have LT:PySem.W.Looks (model X.prog X.w) h5 (typeOf (.ref a)) cls:=by subst hobc;exact (PySem.W.Looks.ld hob).andThen .now
  refine (PySem.W.exm_one J5.kIn LT hx).here ?_;show codeAny _ _ _ _ _;refine codeAny_handlers_suite_as ?_;refine wpAny_mono (KT.run (Dp _ _) (lands_againW (Q:=λ_ s6=>∃h6,s6={s1 with heap:=h6}/\Heap.FlyingW B (X.env::X.outer) a cls a0 h6/\h5.UpToSlots h6) (E:=λ_ _=>False) (s:={s1 with heap:=h5}) fl5 λh6 fl6 sm6=>⟨h6,rfl,fl6,sm6⟩)) (λ_ s6 q=>?_) λ_ _ q=>q.1.elim
  obtain⟨⟨h6,rfl,fl6,sm6⟩,dk6⟩:=q;have J6:AT X ad σ0 (Ac H' a (RP a cls D' false)) {s1 with heap:=h6,toks:=s1.toks}:=F.land' J0 fl6 ((sm4.trans sm5).trans sm6) ((dk4.trans dk5).trans dk6);refine HB J6 hN hi (.inl hl) (v:=.ref a) rfl (λs7 I7=>?_) (.inr hl);have run:=hs (.ref a) ad s7 _ _ _ (I7.hdl (.ref a)) (hth a F.fresh.1);refine wpAny_mono run (λf s8 q8=>?_) λ_ _ z=>z.elim
  cases f with
  |next =>
   obtain⟨σ8,H8,I8,q8⟩:=q8;exact Gp (I8.unhdl J0.ok.hd) hN hi hl λs9 I9=>⟨_,_,I9,q8⟩
  |brk =>
   obtain⟨σ8,H8,I8,q8⟩:=q8;exact Gp (I8.unhdl J0.ok.hd) hN hi hl λs9 I9=>⟨_,_,I9,q8⟩
  |cont =>
   obtain⟨σ8,H8,I8,q8⟩:=q8;exact Gp (I8.unhdl J0.ok.hd) hN hi hl λs9 I9=>⟨_,_,I9,q8⟩
  |ret u =>
   obtain⟨v8,σ8,H8,I8,r8,q8⟩:=q8;exact Gp (I8.unhdl J0.ok.hd) hN hi hl λs9 I9=>⟨v8,_,_,I9,r8,q8⟩
end
structure Kt(K:qJ)(D:Addr):Prop where
 ci:(PySem.W.clsIn K D).isSome=true
 ga:PySem.W.findIn K (.ref D) "__getattribute__"=some (some (.builtin "BaseException.__getattribute__"))
 gn:PySem.W.findIn K (.ref D) "__getattr__"=some none
 ca:PySem.W.findIn K (.ref D) "__class__"=some (some (.builtin "object.__class__"))
 sg:PySem.W.specialIn K (.builtin "object.__class__") "__get__"=some (some (.builtin "getset_descriptor.__get__"))
 tk:PySem.W.takesIn K (.builtin "object.__class__")=some true
 mo:PySem.W.mroIn K D (.type "object")=some true
 mb:PySem.W.mroIn K D (.type "BaseException")=some true
section
variable{K:qJ}{D:Addr}{dy:Option Addr}{n:Bool}
theorem Kt.isCls(c:Kt K D){M:Model}{h:Heap}(kin:K.In h):PySem.W.Looks M h (isType (.ref D)) true:=by
 have z:=c.ci;unfold PySem.W.clsIn at z
 split at z
 next ho =>
  intro A Q E s k q;unfold isType loadHead;exact qC (wpAny_loadPart (k _ _ (kin _ _ ho)) (qD q))
 next=>cases z
theorem GV.ty{M:Model}{h:Heap}(x:GV a cls dy n h):PySem.W.Looks M h (typeOf (.ref a)) cls:=by obtain⟨o,vs,e,c,_⟩:=x;subst c;exact (PySem.W.Looks.ld e).andThen .now
theorem MG{M:Model}{h:Heap}{x:Value}{g:Value}(kin:K.In h)(h1:PySem.W.findIn K (.ref D) name=some (some u))(h2:PySem.W.specialIn K u "__get__"=some (some g))(h3:PySem.W.takesIn K u=some true):
  PySem.W.Looks M h (Builtin.ObjectAttr.find x (.ref D) name) (.bind g u):=by
 have a1:=bN (M:=M) kin h1;have a2:PySem.W.Looks M h (Builtin.ObjectAttr.getOf (some u)) (some g):=PySem.W.looks_specialIn kin h2;have a3:PySem.W.Looks M h (Builtin.ObjectAttr.dataDescriptor? (some u) (some g)) (some (g,u)):=(PySem.W.looks_takesIn (M:=M) kin h3).andThen .now;exact a1.andThen (a2.andThen (a3.andThen (PySem.W.Looks.tag .now)))
theorem RS{prog:Program}{w:World}{A:Around}{R:Result->Shared->Prop}{s:Shared}{tp:Value}(c:Kt K D)(kin:K.In s.heap)(x:GV a (.ref D) dy n s.heap)(q:R (.ok (.ret (.ref D))) s):
  codeAny (model prog w) A (.call (.builtin "getset_descriptor.__get__") ⟨[.builtin "object.__class__",.ref a,tp],[]⟩) R s:=by
 obtain⟨hp,g,d,t,os⟩:=s;have a1:=x.ty (M:=model prog w);have a2:=PySem.W.looks_mroIn (M:=model prog w) kin c.mo;refine codeAny_call_builtin PySem.W.KF.slot_gs.plain PySem.W.KF.entry_gs (PySem.W.KF.slot_gs.check _ _ _ _ _ _ _ _ PySem.W.KF.type_class (PySem.W.KF.args_gs _ _ _) ?_)
 (unfold Builtin.«getset_descriptor.__get__» Builtin.Getset_descriptor.descrGet;rw[PySem.W.dga_obj];refine qC (qD ?_))
 (unfold Builtin.Getset_descriptor.descrGetter Builtin.Getset_descriptor.descrCheckInstance Builtin.Getset_descriptor.descrNameAndClass isInstance;simp only[PySem.W.KF.owner_class])
 repeat lk
 refine⟨Code.quiet_builtin _ (by decide +kernel),codeAny_builtin PySem.W.KF.entry_class ?_⟩
 (unfold Builtin.«object.__class__» shownTypeOf;repeat lk)
 exact q
theorem OM{prog:Program}{w:World}{A:Around}{Q:Option Value->Shared->Prop}{s:Shared}(c:Kt K D)(kin:K.In s.heap)(x:GV a (.ref D) dy n s.heap)
  (q:Q (some (.ref D)) {s with toks:=s.toks+1}):wpAny (model prog w) A (getAttr? (.ref a) "__class__") Q E s:=by
 obtain⟨hp,g,d,t,os⟩:=s;have LT:=x.ty (M:=model prog w);have L1:=bN (M:=model prog w) kin c.ga;have L2:=bN (M:=model prog w) kin c.gn;have L3:=MG (M:=model prog w) (x:=.ref a) kin c.ca c.sg c.tk;have L4:PySem.W.Looks (model prog w) hp (isInstance (.ref a) (.type "BaseException")) true:=LT.andThen (PySem.W.looks_mroIn kin c.mb);have FA:=PySem.F.excAttr_ValueError;unfold getAttr? getAttrBy? getAttrBy;refine qC (wpAny_mkText (qC (wpAny_attempt (wpAny_holding (qC (LT.at (qC (L1.at ?_))))))));show wpAny _ _ (getAttrByItsOwn _ _ _ _ _ _) _ _ _;unfold getAttrByItsOwn;refine qC (show wpAny _ _ (typeLookup (.ref D) "__getattr__") _ _ _ from L2.at ?_);refine qC (wpAny_attempt (wpAny_holding ?_));show wpAny _ _ (boundAndCalled _ _ _) _ _ _;unfold boundAndCalled;refine qC (wpAny_of_eq (FA.ga.bind _) ?_);refine wpAny_call (codeAny_call_builtin FA.ga.plain PySem.F.entry_bexc_ga ?_);have hk:builtinKind "BaseException.__getattribute__"=some .slot:=by decide +kernel
 have hsp:splitId "BaseException.__getattribute__"=some ("BaseException","__getattribute__"):=by decide +kernel
 have ha:=PySem.F.args_bexc_ga (.ref a) (.str "__class__" t);show wpAny _ _ (checkBuiltinCall "BaseException.__getattribute__" ⟨[.ref a,.str "__class__" t],[]⟩) _ _ _;simp only[checkBuiltinCall,hk,hsp];refine qC (L4.at ?_)
 repeat (any_goals (first|assumption|wp_step))
 obtain⟨o,vs,eo,co,vo⟩:=id x;refine wpAny_loadPart eo ?_;refine qD ?_;rw[co];refine qC (L3.at ?_);show wpAny _ _ (call (.builtin "getset_descriptor.__get__") [.builtin "object.__class__",.ref a,.ref D] >>= λv=>ret v) _ _ _;refine qC (wpAny_call (RS c kin ⟨o,vs,eo,co,vo⟩ ?_));refine qD ?_;show wpAny _ _ (handedOut (.ref D)) _ _ _;exact qD (qD q)
theorem Ku(c:Kt K D):PySem.W.KitX K (.ref a) (.ref D) (GV a (.ref D) dy n) where
 ty:=λ_ _ _ x=>x.ty
 it:=λ_ _ kin _=>c.isCls kin
 ne:=λh tp dd its n sl kin htp=>by
  refine Bool.eq_false_iff.mpr λq=>?_;have e:D=tp:=Value.ref.inj (beq_iff_eq.mp q);subst e;have z:=c.ci;unfold PySem.W.clsIn at z
  split at z
  next ho =>
   have y:=(kin _ _ ho).symm.trans htp;cases y
  next=>cases z
 ca:=λkin x q=>OM c kin x q
end
inductive Vg(K:qJ)(H:Hp):V->Value->Prop where
 |of {x:V} {t:Value} (h:Fy K H x t):Vg K H x t
 |exc {a D:Addr} {dy:Option Addr} {n:Bool} (e:H a=some (RP a (.ref D) dy n)) (c:Kt K D):Vg K H (.ref a) (.ref D)
section
variable{X:Cx}
noncomputable def RT:V->Option Value
 |.ty n=>some (.type n)
 |.ref a=>some (.ref a)
 |_=>none
noncomputable def Tt(K:qJ):List V->Hp->VK->Prop
 |[x,c],H,Q=>∃t u b,Vg K H x t/\RT c=some u/\PySem.W.kitOne K t u=some b/\Q (.bl b) H
 |_,_,_=>False
theorem PR:CK X (.builtin "isinstance") (Tt X.K):=by
 intro ad s σ H xs us Q I rv h
 match xs,h with
 |[x,c],h =>
 obtain⟨t,u,b,ty,rc,k,q⟩:=h;obtain⟨v1,v2,rfl,r1,r2⟩:=O8 rv
 have e:v2=u:=by
  cases c with
  |ty n=>cases rc;exact r2
  |ref a=>cases rc;exact r2
  |_=>cases rc
 subst e;cases ty with
 |of ty=>exact OK I r1 ty k λtk=>⟨.bl b,H,I.tok tk,rfl,q⟩
 | @exc a D dy n e ck =>
  cases (show v1=Value.ref a from r1);obtain⟨x,_,_⟩:=(show Ay X.prog X.w H s.heap a (.ext (GV a (.ref D) _ _)) from I.hok a _ e);exact ZR (Ku ck) I.kIn x k (λz=>nomatch z) λtk=>⟨.bl b,H,I.tok tk,rfl,q⟩
end
variable{items:Array Value}
section
variable{prog:Program}{w:World}{A:Around}{s:Shared}
theorem ON:typeLookup (.type "list_reverseiterator") "__len__"=pure none:=by rw[typeLookup_type,builtinLookup_eq_fast];kernel_rfl
theorem PU:typeLookup (.type "list_reverseiterator") "__length_hint__"=pure (some (.builtin "list_reverseiterator.__length_hint__")):=by rw[typeLookup_type,builtinLookup_eq_fast];kernel_rfl
theorem PV{I:Addr}{Q:Bool->Shared->Prop}(hT:s.TypeIs (.ref I) "list_reverseiterator")(q:Q false s):wpAny (model prog w) A (Builtin.List.listLengthHint (.ref I)) Q E s:=by
 unfold Builtin.List.listLengthHint;refine qC (wpAny_specialOf hT ON ?_);show wpAny _ A (specialOf (Value.ref I) (Str.ofString "__length_hint__") >>= _) _ _ _;refine qC (wpAny_specialOf hT PU ?_);generalize hz:("list_reverseiterator.__length_hint__":String)=zz
 wp_delta
 rw[show splitId zz=some ("list_reverseiterator","__length_hint__") from by subst hz;decide +kernel];subst hz;refine qC (wpAny_isInstance (b:=true) hT (by rw[isSubtype_type];kernel_rfl) ?_);exact qD q
theorem Kv{I l:Addr}{Q:Value->Shared->Prop}(hh:A.handled=none)(hIl:l≠I)(hit:s.heap.IsRevIter I l ((items.size:Int)-1))(hl:s.heap.IsList l items)(hz:items.size<=sizeLine)
  (hQ:∀h' tk c' bg,(∀b o,b≠I->s.heap.get? b=some o->h'.get? b=some o)->h'.get? s.heap.objs.size=some {cls:=.type "list",dict:=none,data:=.seq bg c',slots:=#[]} ->
   bg.toList=items.toList.reverse->Q (.ref s.heap.objs.size) {s with heap:=h',toks:=tk}):wpAny (model prog w) A (call (.type "list") [.ref I]) Q E s:=by
 have W:=(Walks.listRev (prog:=prog) (w:=w) (A:=A.in1.in1) hh I l hIl items).toS;have hIlt:I<s.heap.objs.size:=by obtain⟨o,e,_⟩:=hit;exact YQ e
 have hllt:l<s.heap.objs.size:=by obtain⟨o,e,_⟩:=hl;exact YQ e
 refine callType_codes (Q₁:=λobj s₁=>obj=.ref s.heap.objs.size/\s₁={s with heap:=s.heap.push {cls:=.type "list",data:=.seq #[]}}) PySem.F.called_list (PySem.F.typeCall_list_1 _) PySem.F.entry_list_init
  (code_list_new _ ⟨rfl,rfl⟩) λobj s₁ h₁=>?_
 obtain⟨rfl,rfl⟩:=h₁;have hS:(s.heap.push {cls:=.type "list",data:=.seq #[]}).get? s.heap.objs.size=some {cls:=.type "list",data:=.seq #[]}:=YX _ rfl;refine⟨⟨_,hS,rfl⟩,PySem.F.args_list_init_2 _ _,?_⟩;show wpAny _ _ (do let old <-Builtin.List.listItems (.ref s.heap.objs.size);Builtin.List.listUpdate (.ref s.heap.objs.size) (λ_=>#[]);letGo old.toList.reverse;Builtin.List.listExtendWith (.ref s.heap.objs.size) (.ref I) .none) _ _ _;refine qC ?_;unfold Builtin.List.listItems;refine qC (wpAny_seqItems hS rfl (qD ?_));show wpAny _ _ (updateSeq s.heap.objs.size (λ_=>#[]) >>= λ_=>letGo (#[]:Array Value).toList.reverse >>= λ_=>Builtin.List.listExtendWith (.ref s.heap.objs.size) (.ref I) .none) _ _ _;refine qC (wpAny_updateSeq hS rfl ?_);have hS2:=bD (Obj.mapSeq (λ_=>(#[]:Array Value))) hS rfl
 have kp:∀b o,s.heap.get? b=some o->((s.heap.push {cls:=.type "list",data:=.seq #[]}).update s.heap.objs.size (Obj.mapSeq (λ_=>(#[]:Array Value)))).get? b=some o:=
  λb o e=>(a9 _ _ (aH (YQ e))).trans (YK _ e)
 refine qC (wpAny_letGo ?_);have hit2:=hit.at λo e=>kp I o e
 have hl2:=hl.at λo e=>kp l o e
 unfold Builtin.List.listExtendWith;refine qC (wpAny_typeOf (T:="list_reverseiterator") hit2.typeIs ?_);have h1:Builtin.List.listSameRef (.ref s.heap.objs.size) (.ref I)=false:=by simp[Builtin.List.listSameRef,Nat.ne_of_gt hIlt]
 rw[qE (by rw[h1];decide)];refine qC (wpAny_pyIter_revIter hit2 ?_);refine qC (wpAny_holding (PV hit2.typeIs ?_));rw[qE (by decide)]
 have nf:s.heap.objs.size∉[I,l]:=by simp only[List.mem_cons,List.not_mem_nil,or_false,not_or];exact⟨aH hIlt,aH hllt⟩
 refine qD ⟨plainId_quiet PySem.F.plain_extend_loop _,codeAny_extend_loopS W hz _ nf _ items.size 0 _ _ _ rfl (Nat.zero_le _) ⟨Nat.zero_le _,by simpa using hit2,hl2⟩ hS2 (ItemsOf.nil _) λs' bg c' hm hS' hacc=>?_⟩;refine⟨rfl,?_⟩;rw[Moved.eq_with hm];refine hQ s'.heap s'.toks c' bg (λb o hb e=>hm.heap b o (λz=>?_) (kp b o e)) hS' ?_
 ·rcases Yf.mp z with z|z
  ·exact qG (YQ e) (by rw[z];exact Yh _)
  ·exact hb (YT.mp z)
 ·apply List.ext_getElem?;intro i
  by_cases hi:i<items.size
  ·have hi2:i<bg.size:=by rw[hacc.1];exact hi
   have p:=hacc.2 i bg[i] (aU hi2);rw[List.getElem?_reverse (by simpa using hi),Array.getElem?_toList,Array.getElem?_eq_getElem hi2,Array.getElem?_toList,Array.length_toList];exact p.symm
  ·rw[bE (by rw[ZL,hacc.1];lia),bE (by rw[Zv,ZL];lia)]
end
noncomputable def Vh(K:qJ)(a:Addr)(n:Nat):It:=
 ⟨λi H=>i<n/\∃xs,Ai K H a xs/\xs.length=n,λi H x H'=>H'=H/\∀xs,Ai K H a xs->xs.reverse[i]?=some x,λi _=>i=n⟩
theorem PX{P:Program}{w:World}{K:qJ}(a it:Addr)(n:Nat):JB P w K tg (Vh K a n) [it] it (λi h=>i<=n/\h.IsRevIter it a ((n:Int)-1-(i:Int))) where
 mem:=by simp
 obj:=λi h st b hb=>by
  have e:b=it:=by simpa using hb
  subst e;obtain⟨_,o,e,c,d⟩:=st;exact⟨o,e,λv z=>by rw[d]at z;cases z⟩
 keep:=λi h h' st k=>⟨st.1,st.2.at λo e=>k it (by simp) o e⟩
 item:=by
  intro X hP hw hK hc i ad s σ H E I hf st hg;subst hP hw hK;obtain⟨hi,xs,hq,hn⟩:=hg;obtain⟨its,rv,p,hz⟩:=I.list hq;have hlen:=rv.length;obtain⟨f0,f1,f2,f3,f4,f5⟩:=hf it (by simp);have e:(n:Int)-1-(i:Int)=((n-1-i:Nat):Int):=by lia
  have hit:=st.2;rw[e]at hit;have hx:xs[n-1-i]?=some (xs[n-1-i]'(by lia)):=YI (by lia);obtain⟨u,hu,ru⟩:=rv.get hx;refine wpAny_pyNext_rev_item hit p.isList (x:=u) (by simpa using hu) λh' st' sb=>?_;have I1:AT X ad σ H {s with heap:=h'}:=I.turned (t':=s.toks) (λb o hb e=>(sb.2 b hb).trans e) f0 f1 f3 f4 f5;obtain⟨o,e,c,d⟩:=id st'
  have st2:i+1<=n/\h'.IsRevIter it a ((n:Int)-1-((i+1:Nat):Int)):=⟨hi,by
   have e2:((n-1-i:Nat):Int)-1=(n:Int)-1-((i+1:Nat):Int):=by lia
   rw[<-e2];exact st'⟩
  refine⟨u,rfl,Km (s:={s with heap:=h'}) e c d (by decide) ⟨_,H,I1,ru,⟨rfl,λys hy=>?_⟩,st2,λb hb=>(hf b hb).1⟩⟩;rw[I.list_inj hy hq,bF (by lia),<-hx]
  congr 1
  lia
 done:=by
  intro X hP hw hK hc i ad s σ H E I hf st hg;subst hP hw hK;obtain⟨f0,f1,f2,f3,f4,f5⟩:=hf it (by simp);have hg':i=n:=hg;subst hg';have hit:=st.2;have e:(i:Int)-1-(i:Int)=-1:=by lia
  rw[e]at hit;exact wpAny_pyNext_rev_end (I.ok.hd hc) hit λh' eb=>⟨rfl,I.turned (t':=s.toks) (λb o hb e=>eb b o hb e) f0 f1 f3 f4 f5⟩
 self:=λ_ _ _ _ _ st h=>wpAny_pyIter_revIter st.2 h
section
variable{X:Cx}
def XW(K:qJ)(ta:TA):TI:=λσ H R=>ta σ H λvs H1=>∃a xs,vs=[.ref a]/\Ai K H1 a xs/\R (Vh K a xs.length) H1
theorem Tu{l:Expr}{p pos:Pos}(hg:Gl X "reversed")(hm:X.mg "reversed"=none)(ha:PA X [l] ta)(hs:starEach [l] X.env=[(false,eval l X.env)]:=by rfl):PI X tg (.Call (.Name "reversed" p) [l] [] pos) (XW X.K ta):=by
 intro ad s σ H R I h;refine Call_ (Cf I hg hm boot_reversed (Y1 (BQ (ha pos ad s σ H _ I h) λus s1 z9=>?_) hs rfl));obtain⟨vs,H1,I1,r1,q1⟩:=z9;obtain⟨a,xs,e,hq,q⟩:=q1;subst e;cases r1 with
 |cons r rr =>
  cases rr;cases r;obtain⟨its,rv,pl,hz⟩:=I1.list hq;have hlen:=rv.length;refine call_reversed_list pl.isList ?_;have I2:AT X ad σ H1 {s1 with heap:=s1.heap.push (revObj a ((its.toArray.size:Int)-1)),toks:=s1.toks}:=I1.kept λb o e=>YK _ e
  have st:(s1.heap.push (revObj a ((its.toArray.size:Int)-1))).IsRevIter s1.heap.objs.size a ((xs.length:Int)-1-((0:Nat):Int)):=by
   have e:((xs.length:Int)-1-((0:Nat):Int))=(its.toArray.size:Int)-1:=by rw[Yn,hlen];lia
   rw[e];exact⟨_,YX _ rfl,rfl,rfl⟩
  refine wpAny_pyIter_revIter st ?_;refine⟨s1.heap.objs.size,[s1.heap.objs.size],_,_,H1,rfl,I2,PX a _ xs.length,⟨ZT _,st⟩,λb hb=>?_,q⟩;have e:b=s1.heap.objs.size:=by simpa using hb
  subst e;exact I1.fpOk (YL _) (I1.hok.fresh (YL _))
theorem RU{K:qJ}{g:TG}{tb:TS}(Pv:Nat->St->Hp->Prop)(h0:Pv 0 σ H)(hl:∀i σ H,i<=xs.length->Pv i σ H->Ai K H a xs)
  (hs:∀i x σ H,xs.reverse[i]?=some x->Pv i σ H->g x σ H λσ2 H2=>tb {D with nx:=Pv (i+1),ct:=Pv (i+1),bk:=D.nx} σ2 H2) (hd:∀σ H,Pv xs.length σ H->D.nx σ H):
  ∃W:Nat->Nat->St->Hp->Prop,(∃m,W 0 m σ H)/\∀i m σ H,W i m σ H ->
   ((Vh K a xs.length).stop i H/\D.nx σ H)\/((Vh K a xs.length).go i H/\∃N:St->Hp->Prop,(∀σ' H',N σ' H'->∃m',m'<m/\W (i+1) m' σ' H')/\∀x H',(Vh K a xs.length).yld i H x H'->g x σ H' λσ2 H2=>tb {D with nx:=N,ct:=N,bk:=D.nx} σ2 H2):=by
 refine⟨λi m σ H=>m=xs.length-i/\i<=xs.length/\Pv i σ H,⟨xs.length,by simp,Nat.zero_le _,h0⟩,?_⟩;rintro i m σ H ⟨rfl,hi,p⟩;have q:=hl i σ H hi p
 by_cases hlt:i<xs.length
 ·refine .inr ⟨⟨hlt,xs,q,rfl⟩,Pv (i+1),λσ' H' p'=>⟨xs.length-(i+1),by lia,rfl,hlt,p'⟩,λx H' y=>?_⟩;obtain⟨e,y⟩:=y;subst e;exact hs i x σ _ (y xs q) p
 ·have e:i=xs.length:=by lia
  subst e;exact .inl ⟨rfl,hd σ H p⟩
def Sj(K:qJ)(ta:TA):TE:=λσ H Q=>ta σ H λvs H1=>∃a xs,vs=[.ref a]/\Ai K H1 a xs/\∀p,H1 p=none->Q (.ref p) (Ac H1 p (.lst xs.reverse))
theorem NQ{l:Expr}{p1 p2 pos1 pos2:Pos}(hc:X.calm=true)(hg:Gl X "reversed")(hm:X.mg "reversed"=none)(hg2:Gl X "list")(hm2:X.mg "list"=none)(ha:PA X [l] ta)(hs:starEach [l] X.env=[(false,eval l X.env)]:=by rfl)
  (hs2:starEach [.Call (.Name "reversed" p1) [l] [] pos1] X.env=[(false,eval (.Call (.Name "reversed" p1) [l] [] pos1) X.env)]:=by rfl):
  PE X (.Call (.Name "list" p2) [.Call (.Name "reversed" p1) [l] [] pos1] [] pos2) (Sj X.K ta):=by
 intro ad s σ H Q I h;refine Call_ (Cf I hg2 hm2 PyProof.Rows.boot_list (Y1 (T:="list") ?_ hs2 rfl));rw[hs2];show wpAny _ _ (spliced ((false,eval (.Call (.Name "reversed" p1) [l] [] pos1) X.env)::[])) _ _ s;refine Calls.spliced_cons (Call_ (Cf I hg hm boot_reversed (Y1 (BQ (ha pos1 ad s σ H _ I h) λus s1 z9=>?_) hs rfl)));obtain⟨vs,H1,I1,r1,q1⟩:=z9;obtain⟨a,xs,e,hq,q⟩:=q1;subst e;cases r1 with
 |cons r rr =>
  cases rr;cases r;obtain⟨its,rv,pl,hz⟩:=I1.list hq;have hlen:=rv.length;refine call_reversed_list pl.isList ?_;refine Calls.spliced_nil ?_;have ne:a≠s1.heap.objs.size:=by obtain⟨o,e,_⟩:=pl.isList;exact Yp (YQ e)
  have hL:(s1.heap.push (revObj a ((its.toArray.size:Int)-1))).IsList a its.toArray:=pl.isList.at λo e=>YK _ e
  refine Kv (s:={s1 with heap:=s1.heap.push (revObj a ((its.toArray.size:Int)-1))}) (I.ok.hd hc) ne ⟨_,YX _ rfl,rfl,rfl⟩ hL (by rw[Yn,<-hlen];exact hz) λh' tk c' bg kp hD hacc=>?_;have kp2:∀b o,s1.heap.get? b=some o->h'.get? b=some o:=λb o e=>kp b o (Yp (YQ e)) (YK _ e)
  have hf:H1 (s1.heap.push (revObj a ((its.toArray.size:Int)-1))).objs.size=none:=I1.hok.fresh (by rw[Zg];lia);have rv2:Ax xs.reverse bg.toList:=by rw[hacc];simpa using rv.reverse
  refine⟨.ref _,_,I1.laid (t':=tk) kp2 (by rw[Zg];lia) ?_,rfl,q _ hf⟩;exact⟨by rw[List.length_reverse];exact hz,bg.toList,c',rv2,by simpa using hD⟩
def Vi(K:qJ):R2:=λx y H Q=>∃(a b:Addr) (ns ms:List Int),x=.ref a/\y=.ref b/\Ai K H a (ns.map V.int)/\Ai K H b (ms.map V.int)/\Q (.bl (decide (ns=ms))) H
theorem Tv(hu:X.A.units+64<cLine):Fw X (compareOp .Eq) (Vi X.K):=by intro ad s σ H x y v u Q I rx ry h;obtain⟨a,b,ns,ms,rfl,rfl,ha,hb,q⟩:=h;cases rx;cases ry;obtain⟨va,ra,pa,_⟩:=I.list ha;obtain⟨vb,rb,pb,_⟩:=I.list hb;exact PySem.W.eq_intsK pa.isList (HL ra) pb.isList (HL rb) hu ⟨.bl _,H,I,rfl,q⟩
end
theorem Tw{P:Program}{w:World}{K:qJ}{mg:Str->Option Value}{base:Heap}{N:List Str}{f:Addr}{cd:Value}{A:Around}{outer:List Env}{s:Shared}{E:XK}:(D5 CX P w K mg base N qual scope f cd A outer s H E).K=K:=rfl
theorem XX{X:Cx}{p:List (Addr×Obj)}{W:St->XK}:(X.tr p W).K=X.K:=rfl
theorem Vj{X:Cx}{v:Value}:(X.hdl v).K=X.K:=rfl
theorem Vk{P:Program}{w:World}{X:Cx}:FT (JS P w) X (λ_=>E0):=λ_ _ _ _ _ _ _ ⟨_,_,_,_,_,_,_,_,h⟩=>h.elim
theorem AI.new{p:Addr}(h:H p=none)(o:HO):AI H (Ac H p o):=λb u q=>by rw[AN (BI q h)];exact q
theorem PY{p q:Addr}(h:Ac H p o q=none):q≠p/\H q=none:=by
 have ne:q≠p:=λz=>by rw[z,AE]at h;cases h
 rw[AN ne]at h;exact⟨ne,h⟩
theorem Sk{n:Nat}(h:n<=1000):n<=sizeLine:=ZQ (Ae h)
section
variable{X:Cx}{x:Str}{p:Pos}{a c:Expr}{ta tc:TE}
theorem FU{n:String}(hg:Gl X x)(hm:X.mg x=none)(hv:bootBuiltins x=some (.type n))(hn:x≠"__name__":=by decide)(hd:(x==("__debug__":Str))=false:=by decide):PE X (.Name x pos) (tC (.ty n)):=
 RA (v:=.ty n) hg hm hv rfl hn hd
theorem EH(hg:Gl X x)(hm:X.mg x=some (.ref C))(hd:(x==("__debug__":Str))=false:=by decide):PE X (.Name x pos) (tC (.ref C)):=NB (v:=.ref C) hg hm rfl hd
theorem PZ{i:Int}{t:Tok}(hg:Gl X x)(hm:X.mg x=some (.int i t))(hd:(x==("__debug__":Str))=false:=by decide):PE X (.Name x pos) (tC (.int i)):=NB (v:=.int i) hg hm ⟨t,rfl⟩ hd
theorem DV(hg:Gl X "isinstance")(hm:X.mg "isinstance"=none)(ha:PE X a ta)(hc:PE X c tc)(h1:starEach [a,c] X.env=(false,eval a X.env)::starEach [c] X.env:=by rfl)(h2:starEach [c] X.env=(false,eval c X.env)::starEach [] X.env:=by rfl)
  (h3:(backTo pos (starEach [c] X.env)).any (·.1)=false:=by rfl):PE X (.Call (.Name "isinstance" p) [a,c] [] pos) (Va (Tt X.K) (FN ta (FN tc Jw))):=
 Aw PR hg hm PyProof.Rows.boot_isinstance (AA ha (AA hc AD h2) h1) (by decide) (by decide) h1 h3
end
theorem XY{t u:TS}(Z:St->Hp->Prop)(h1:∀N:St->Hp->Prop,(∀σ' H',Z σ' H'->N σ' H')->t {D with nx:=N} σ H)(h2:∀σ' H',Z σ' H'->u D σ' H'):OE t u D σ H:=h1 (u D) h2
theorem Pa(k:Nat)(v:V):(List.replicate k [v]).flatten=List.replicate k v:=by
 induction k with
 |zero=>rfl
 |succ k ih=>rw[Zj,aQ,ih,Zj];rfl
def AW(K:qJ)(x:Str)(st:Stmt)(f:Addr):Prop:=(∃fd,Bn K x x st f fd)/\PySem.W.nsIn K mainGlobals x=some (some (.ref f))
theorem AX{K:qJ}{x:Str}{f:Addr}{kV pm ct:Value}(a:PySem.W.nsIn K mainGlobals x=some (some (.ref f)))
  (l:K.lookup f=some ⟨oc,od,.func (PySem.W.fnOf x x (DI st) (Ba st) (AH st) .none kV doc pm an bh ct),osl⟩) (c:PySem.W.codeIn K bh x=true) (k:PySem.W.keepIn K (.ref f)=true):AW K x st f:=
 ⟨⟨_,Tq l c k⟩,a⟩
section
variable{X:Cx}{s:Shared}
theorem AT.turnedNew{ch:List Addr}{p:Addr}(I:AT X ad σ H s)(hf:∀b∈ch,C3 X ad H b)(k:∀b u,b∉ch->s.heap.get? b=some u->h'.get? b=some u)(hp:s.heap.objs.size<=p)
  (new:Ay X.prog X.w (Ac H p o) h' p o):AT X ad σ (Ac H p o) {s with heap:=h',toks:=t'}:=by
 have hpn:H p=none:=I.hok.fresh hp;have nit:∀b u,H b=some u->b∉ch:=λb u e z=>by rw[(hf b z).1]at e;cases e
 have np:∀b u,s.heap.get? b=some u->b≠p:=λb u e=>Yp (YS (YQ e) hp)
 refine I.step (g':=s.gens) (d':=s.drawn) (ch:=ch) (λb hb=>⟨(hf b hb).2.2.2.1,(hf b hb).2.1,(hf b hb).2.2.2.2.1,(hf b hb).2.2.2.2.2⟩) (λb u _ _ hc e _=>k b u hc e) (λb u _ _ hc e _=>⟨u.slots,k b u hc e⟩)
  (λb u _ e n=>by rw[AN (np b u e)];exact n) (λb u hc e=>⟨u,k b u hc e⟩) (λb xs e=>by rw[AN (BI e hpn)];exact e) (λb u v e=>by rw[AN (BI e hpn)];exact e)
  (λb ps e=>⟨#[],by rw[AN (BI e hpn),e];simp⟩) (λm hm=>?_) (λb u e=>?_) I.bare
 ·obtain⟨o,es,ep,ho,r⟩:=hm;exact⟨o,es,ep,k _ o (λz=>(hf _ z).2.1 rfl) ho,r⟩
 ·by_cases z:b=p
  ·subst z;rw[AE]at e;cases e;exact new
  ·rw[AN z]at e;refine (I.hok b u e).stay (λc v hc q=>k c v ?_ q) (λc q=>by rw[AN (BI q hpn)];exact q) λc xs q=>by rw[AN (BI q hpn)];exact q
   rcases hc with y|y
   ·rw[y];exact nit b u e
   ·exact nit c _ y
end
noncomputable def Vl(K:qJ)(a:Addr):It:=
 ⟨λi H=>∃xs x,Ai K H a xs/\xs[i]?=some x,λi H v H'=>∃p x,v=.ref p/\H p=none/\H'=Ac H p (.tup [.int i,x])/\∀xs,Ai K H a xs->xs[i]?=some x,λi H=>∃xs,Ai K H a xs/\xs.length<=i⟩
theorem OO{P:Program}{w:World}{K:qJ}{elts:List Expr}{ctx}{tpos:Pos}(a e it:Addr)(hne:e≠it):
  JB P w K (.Tuple elts ctx tpos) (Vl K a) [e,it] e (λi h=>(∃old,IsEnum h e it ((i:Nat):Int) old)/\h.IsListIter it a i) where
 mem:=by simp
 obj:=λi h st b hb=>by
  obtain⟨⟨old,q⟩,o,e1,c,d⟩:=st;rcases Yf.mp hb with z|z
  ·rw[z];exact⟨_,q,λv y=>by cases y⟩
  ·rw[YT.mp z];exact⟨o,e1,λv y=>by rw[d]at y;cases y⟩
 keep:=λi h h' st k=>by obtain⟨⟨old,q⟩,li⟩:=st;exact⟨⟨old,k e (by simp) _ q⟩,li.at λo z=>k it (by simp) o z⟩
 item:=by
  intro X hP hw hK hc i ad s σ H E I hf st hg;subst hP hw hK;obtain⟨xs,x,hq,hx⟩:=hg;obtain⟨its,rv,p,hz⟩:=I.list hq;obtain⟨u,hu,ru⟩:=rv.get hx;obtain⟨⟨old,he⟩,li⟩:=st;refine wpAny_pyNext_enum_item he li p.isList (x:=u) (by simpa using hu) hne λh1 out li1 ht hsz k1=>?_;refine⟨_,rfl,wpAny_letOwnedTupleGo_enum out λh2 he2 sb=>?_⟩
  have k2:∀b o,b∉[e,it]->s.heap.get? b=some o->h2.get? b=some o:=λb o hb z=>by
   have hb1:b≠e:=λy=>hb (by simp[y])
   have hb2:b≠it:=λy=>hb (by simp[y])
   exact (sb.2 b hb1).trans (k1 b o hb1 hb2 z)
  have hpe:s.heap.objs.size≠e:=aH (YQ he);have ht2:h2.get? s.heap.objs.size=some {cls:=.type "tuple",data:=.seq #[.int ((i:Nat):Int) s.toks,u]}:=(sb.2 _ hpe).trans ht;have hn:H s.heap.objs.size=none:=I.hok.fresh (YL _);refine⟨.ref s.heap.objs.size,Ac H s.heap.objs.size (.tup [.int ((i:Nat):Int),x]),I.turnedNew (h':=h2) (t':=s.toks+1) hf k2 (YL _) ?_,rfl,⟨_,x,rfl,hn,rfl,λys hy=>by rw[I.list_inj hy hq];exact hx⟩,⟨⟨u,?_⟩,?_⟩,λb hb=>?_⟩
  ·exact⟨by show 2<=sizeLine;decide,[.int ((i:Nat):Int) s.toks,u],.cons ⟨_,rfl⟩ (.cons ru .nil),⟨_,ht2,rfl,_,rfl⟩⟩
  ·have ec:(((i+1:Nat)):Int)=((i:Nat):Int)+1:=by push_cast;rfl
   rw[ec];exact he2
  ·exact li1.at λo z=>(sb.2 it (Ne.symm hne)).trans z
  ·have b0:=(hf b hb).1;rw[AN λz=>?_]
   ·exact b0
   ·obtain⟨o,z1,_⟩:=id li;rcases Yf.mp hb with y|y
    ·exact hpe (z.symm.trans y)
    ·exact qG (YQ z1) (by rw[<-YT.mp y,z];exact Yh _)
 done:=by intro X hP hw hK hc i ad s σ H E I hf st hg;subst hP hw hK;obtain⟨xs,hq,hx⟩:=hg;obtain⟨its,rv,p,hz⟩:=I.list hq;obtain⟨⟨old,he⟩,li⟩:=st;obtain⟨f0,f1,f2,f3,f4,f5⟩:=hf it (by simp);have hl:=rv.length;exact wpAny_pyNext_enum_end (I.ok.hd hc) he li p.isList (by simp;lia) λh' eb=>⟨rfl,I.turned (t':=s.toks) (λb o hb e=>eb b o hb e) f0 f1 f3 f4 f5⟩
 self:=λ_ _ _ _ _ st h=>by obtain⟨⟨old,he⟩,_⟩:=st;exact wpAny_pyIter_enum he h
section
variable{X:Cx}{elts:List Expr}{ctx}{tpos:Pos}
def Vm(K:qJ)(ta:TA):TI:=λσ H R=>ta σ H λvs H1=>∃a xs,vs=[.ref a]/\Ai K H1 a xs/\R (Vl K a) H1
theorem NR{l:Expr}{p pos:Pos}(hg:Gl X "enumerate")(hm:X.mg "enumerate"=none)(ha:PA X [l] ta)(hs:starEach [l] X.env=[(false,eval l X.env)]:=by rfl):PI X (.Tuple elts ctx tpos) (.Call (.Name "enumerate" p) [l] [] pos) (Vm X.K ta):=by
 intro ad s σ H R I h;refine Call_ (Cf I hg hm boot_enumerate (Y1 (BQ (ha pos ad s σ H _ I h) λus s1 z9=>?_) hs rfl));obtain⟨vs,H1,I1,r1,q1⟩:=z9;obtain⟨a,xs,e,hq,q⟩:=q1;subst e;cases r1 with
 |cons r rr =>
  cases rr;cases r;obtain⟨its,rv,pl,hz⟩:=I1.list hq;refine call_enumerate_list pl.isList λh1 he li hsz k1=>?_;refine wpAny_pyIter_enum he ?_;have n1:H1 (s1.heap.objs.size+1)=none:=I1.hok.fresh (Z6 _);have n0:H1 s1.heap.objs.size=none:=I1.hok.fresh (YL _);refine⟨s1.heap.objs.size+1,[s1.heap.objs.size+1,s1.heap.objs.size],_,_,H1,rfl,I1.kept (t':=s1.toks) k1,OO a _ _ (Nat.succ_ne_self _),⟨⟨_,he⟩,li⟩,λb hb=>?_,q⟩;rcases Yf.mp hb with z|z
  ·rw[z];exact I1.fpOk (Z6 _) n1
  ·rw[YT.mp z];exact I1.fpOk (YL _) n0
theorem Kw{K:qJ}{g:TG}{tb:TS}(Pv:Nat->St->Hp->Prop)(h0:Pv 0 σ H)(hl:∀i σ H,i<=xs.length->Pv i σ H->Ai K H a xs)
  (hs:∀i x p σ H,xs[i]?=some x->Pv i σ H->H p=none->g (.ref p) σ (Ac H p (.tup [.int ((i:Nat):Int),x])) λσ2 H2=>tb {D with nx:=Pv (i+1),ct:=Pv (i+1),bk:=D.nx} σ2 H2) (hd:∀σ H,Pv xs.length σ H->D.nx σ H):
  ∃W:Nat->Nat->St->Hp->Prop,(∃m,W 0 m σ H)/\∀i m σ H,W i m σ H ->
   ((Vl K a).stop i H/\D.nx σ H)\/((Vl K a).go i H/\∃N:St->Hp->Prop,(∀σ' H',N σ' H'->∃m',m'<m/\W (i+1) m' σ' H')/\∀x H',(Vl K a).yld i H x H'->g x σ H' λσ2 H2=>tb {D with nx:=N,ct:=N,bk:=D.nx} σ2 H2):=by
 refine⟨λi m σ H=>m=xs.length-i/\i<=xs.length/\Pv i σ H,⟨xs.length,by simp,Nat.zero_le _,h0⟩,?_⟩;rintro i m σ H ⟨rfl,hi,p⟩;have q:=hl i σ H hi p
 by_cases hlt:i<xs.length
 ·refine .inr ⟨⟨xs,xs[i],q,by simp[hlt]⟩,Pv (i+1),λσ' H' p'=>⟨xs.length-(i+1),by lia,rfl,hlt,p'⟩,λv H' y=>?_⟩;obtain⟨p2,x,e1,e2,e3,y⟩:=y;subst e1 e3;exact hs i x p2 σ H (y xs q) p e2
 ·have e:i=xs.length:=by lia
  subst e;exact .inl ⟨⟨xs,q,YL _⟩,hd σ H p⟩
end
theorem NS:∀{xs:List V} {us:List Value},xs.length=us.length->(∀(i:Nat) (x:V) (u:Value),xs[i]?=some x->us[i]?=some u->A8 x u)->Ax xs us
 |[],[],_,_=>.nil
 |x::xs,u::us,hl,h=>.cons (h 0 x u rfl rfl) (NS (by simpa using hl) λi y v e1 e2=>h (i+1) y v (by simpa using e1) (by simpa using e2))
 |[],_::_,hl,_=>by simp at hl
 |_::_,[],hl,_=>by simp at hl
noncomputable def Es(n:Nat):List Int:=(List.range n).map λi:Nat=>(i:Int)
theorem HR{n:Nat}(h:i<n):(Es n)[i]?=some (i:Int):=by unfold Es;rw[List.getElem?_map,List.getElem?_range h];rfl
theorem CI(n:Nat):(Es n).length=n:=by unfold Es;rw[List.length_map,List.length_range]
section
variable{X:Cx}{a:Expr}{cs:List Expr}{ta:TE}{tc:TA}{p tpos:Pos}{ctx}
noncomputable def Pb(K:qJ):List V->Hp->VK->Prop
 |[x,c],H,Q=>∃t tp vs us b,Vg K H x t/\c=.ref tp/\H tp=some (.tup vs)/\vs.map RT=us.map some/\PySem.W.kitAny K t us=some b/\Q (.bl b) H
 |_,_,_=>False
theorem Kx:∀{vs:List V} {its us:List Value},Ax vs its->vs.map RT=us.map some->its=us
 |_,_,[],.nil,_=>rfl
 |_,_,_::_,.nil,e=>by simp at e
 |_,_,[],.cons _ _,e=>by simp at e
 |x::xs,_,u::us,.cons r rr,e=>by
  simp only[List.map_cons,List.cons.injEq]at e;obtain⟨e1,e2⟩:=e;rw[Kx rr e2]
  congr 1
  cases x with
  |ty n=>cases e1;exact r
  |ref a=>cases e1;exact r
  |_=>cases e1
theorem Tx{s:Shared}{x:V}{v t:Value}(I:AT X ad σ H s)(rx:A8 x v)(ty:Vg X.K H x t):(∃φ,PySem.W.KitX X.K v t φ/\φ s.heap)/\v≠.builtin "__main__.__loader__#opaque":=by
 cases ty with
 |of ty =>
  cases ty with
  |non=>cases (show v=Value.none from rx);exact⟨⟨_,PySem.W.kitx_none,True.intro⟩,λz=>nomatch z⟩
  |bl y=>cases (show v=Value.bool y from rx);exact⟨⟨_,PySem.W.kitx_bool,True.intro⟩,λz=>nomatch z⟩
  |int i=>obtain⟨t,q⟩:=(show ∃t,v=Value.int i t from rx);cases q;exact⟨⟨_,PySem.W.kitx_int,True.intro⟩,λz=>nomatch z⟩
  |str y=>obtain⟨t,q⟩:=(show ∃t,v=Value.str y t from rx);cases q;exact⟨⟨_,PySem.W.kitx_str,True.intro⟩,λz=>nomatch z⟩
  |flt y=>obtain⟨t,q⟩:=(show ∃t,v=Value.float y t from rx);cases q;exact⟨⟨_,PySem.W.kitx_float,True.intro⟩,λz=>nomatch z⟩
  | @lst a xs ea =>
   cases (show v=Value.ref a from rx);obtain⟨_,_,n,_,h1⟩:=(show Ay X.prog X.w H s.heap a (.lst xs) from I.hok a _ ea);exact⟨⟨_,bA,⟨_,h1,rfl⟩⟩,λz=>nomatch z⟩
  | @frz a ob xs ea =>
   cases (show v=Value.ref a from rx);obtain⟨_,_,_,n,_,h1⟩:=(show Ay X.prog X.w H s.heap a (.frz ob (.lst xs)) from I.hok a _ ea);exact⟨⟨_,bA,⟨_,h1,rfl⟩⟩,λz=>nomatch z⟩
  | @tup a xs ea =>
   cases (show v=Value.ref a from rx);obtain⟨_,_,_,p⟩:=(show Ay X.prog X.w H s.heap a (.tup xs) from I.hok a _ ea);obtain⟨o,h1,h2,_⟩:=p;exact⟨⟨_,PySem.W.kitx_tuple,⟨o,h1,h2⟩⟩,λz=>nomatch z⟩
  | @dK a kvs ea =>
   cases (show v=Value.ref a from rx);obtain⟨_,_,vs,_,p⟩:=(show Ay X.prog X.w H s.heap a (.dK kvs) from I.hok a _ ea);obtain⟨o,es,ep,h1,h2,_⟩:=p;exact⟨⟨_,bB,⟨o,h1,h2.1⟩⟩,λz=>nomatch z⟩
  | @dT a kvs ea =>
   cases (show v=Value.ref a from rx);obtain⟨_,_,xs,_,o,es,ep,h1,h2,_⟩:=(show Ay X.prog X.w H s.heap a (.dT kvs) from I.hok a _ ea);exact⟨⟨_,bB,⟨o,h1,h2.1⟩⟩,λz=>nomatch z⟩
  | @ins a C dx fs ea cl ha hn htk hm =>
   cases (show v=Value.ref a from rx);obtain⟨mA,O,_⟩:=NH I.hok ea;obtain⟨od,J,_⟩:=O.look;exact⟨⟨_,PySem.W.kitx_own (cl.get _) cl.hd ha hn htk hm,J⟩,λz=>nomatch z⟩
 | @exc a D dy n e ck =>
  cases (show v=Value.ref a from rx);obtain⟨x,_,_⟩:=(show Ay X.prog X.w H s.heap a (.ext (GV a (.ref D) _ _)) from I.hok a _ e);exact⟨⟨_,Ku ck,x⟩,λz=>nomatch z⟩
theorem OP:CK X (.builtin "isinstance") (Pb X.K):=by
 intro ad s σ H xs us Q I rv h
 match xs,h with
 |[x,c],h =>
 obtain⟨t,tp,vs,ucs,b,ty,rfl,ht,hcs,k,q⟩:=h;obtain⟨v1,v2,rfl,r1,r2⟩:=O8 rv;cases (show v2=Value.ref tp from r2);obtain⟨_,its,rits,o,ho,hcl,n,hd⟩:=(show Ay X.prog X.w H s.heap tp (.tup vs) from I.hok tp _ ht);obtain⟨c1,c2,c3,c4⟩:=o;dsimp only at hcl hd;subst hcl hd;have e:=Kx rits hcs;subst e;obtain⟨⟨φ,Z,hφ⟩,hx⟩:=Tx I r1 ty;exact PySem.W.kia_tup Z I.kIn hφ ho k hx λtk=>⟨.bl b,H,I.tok tk,rfl,q⟩
theorem RV(hg:Gl X "isinstance")(hm:X.mg "isinstance"=none)(ha:PE X a ta)(hc:PA X cs tc)(h1:starEach [a,.Tuple cs ctx tpos] X.env=(false,eval a X.env)::starEach [.Tuple cs ctx tpos] X.env:=by rfl)
  (h2:starEach [.Tuple cs ctx tpos] X.env=(false,eval (.Tuple cs ctx tpos) X.env)::starEach [] X.env:=by rfl)
  (h3:(backTo pos (starEach [.Tuple cs ctx tpos] X.env)).any (·.1)=false:=by rfl):PE X (.Call (.Name "isinstance" p) [a,.Tuple cs ctx tpos] [] pos) (Va (Pb X.K) (FN ta (FN (Tk tc) Jw))):=
 Aw OP hg hm PyProof.Rows.boot_isinstance (AA ha (AA (Cg hc) AD h2) h1) (by decide) (by decide) h1 h3
end
section
variable{K:qJ}
theorem Sl:PySem.W.kitOne K (.type "int") (.type "int")=some true:=by kernel_rfl
theorem Sm:PySem.W.kitOne K (.type "int") (.type "bool")=some false:=by kernel_rfl
theorem Sn:PySem.W.kitOne K (.type "bool") (.type "int")=some true:=by kernel_rfl
theorem So:PySem.W.kitOne K (.type "bool") (.type "bool")=some true:=by kernel_rfl
theorem Sq:PySem.W.kitOne K (.type "NoneType") (.type "int")=some false:=by kernel_rfl
theorem Sr:PySem.W.kitOne K (.type "str") (.type "int")=some false:=by kernel_rfl
theorem Ss:PySem.W.kitOne K (.type "list") (.type "int")=some false:=by kernel_rfl
theorem Vn:PySem.W.kitOne K (.type "list") (.type "list")=some true:=by kernel_rfl
theorem Su:PySem.W.kitOne K (.type "tuple") (.type "tuple")=some true:=by kernel_rfl
theorem Sv:PySem.W.kitOne K (.type "tuple") (.type "int")=some false:=by kernel_rfl
end
structure Al(P:Program)(w:World)(K:qJ)(mg:Str->Option Value)(base:Heap)(k:Nat)(f:Addr)(ps:List Str)(sp:Sp):Prop where
 ex:∃fd,Fz P w K mg base (JS P w) k f fd ps sp/\GU K fd ps []
 kp:PySem.W.keepIn K (.ref f)=true
section
variable{P:Program}{w:World}{K:qJ}{mg:Str->Option Value}{base:Heap}{x:Str}{f:Addr}{N:List Str}{k:Nat}
theorem Bn.ok0(F:Bn K x qual st f fd)(S:AK N ps (AH st))(len:∀vs H Q E,sp vs H Q E->vs.length=ps.length)
  (hbody:∀(bh:Value) (A:Around) (outer:List Env) (s:Shared) (H:Hp) (vs:List V) (Q:VK) (E:XK),Br k (A.deeper (envOfC qual (AH st) s.heap.objs.size f bh))->sp vs H Q E ->
   ∃t,GS (D5 (JS P w) P w K mg base N qual (AH st) f bh A outer s H E).nox (Ba st) t/\t {nx:=λ_ H'=>Q .non H',rt:=Q} (Cm N vs) H):Fz P w K mg base (JS P w) (k+1) f fd ps sp:=
 F.okX S len λbh A outer s H vs Q E hr hsp=>by obtain⟨t,h,q⟩:=hbody bh A outer s H vs Q E hr hsp;exact⟨t,h.nox,q⟩
abbrev EI(x qual:Str)(st:Stmt)(ps:List Str):Prop:=∀(kV doc pm:Value) (an:Option Addr) (bh ct:Value) (us:List Value),us.length=ps.length->bindArgs (PySem.W.fnOf x qual (DI st) (Ba st) (AH st) .none kV doc pm an bh ct) ⟨us,[]⟩=pure (ps.zip us)
theorem RX(D:∃fd,Bn K x qual st f fd)(S:AK N ps (AH st))(bd:EI x qual st ps)(len:∀vs H Q E,sp vs H Q E->vs.length=ps.length)
  (hbody:∀(bh:Value) (A:Around) (outer:List Env) (s:Shared) (H:Hp) (vs:List V) (Q:VK) (E:XK),Br k (A.deeper (envOfC qual (AH st) s.heap.objs.size f bh))->sp vs H Q E ->
   ∃t,GS (D5 (JS P w) P w K mg base N qual (AH st) f bh A outer s H E).nox (Ba st) t/\t {nx:=λ_ H'=>Q .non H',rt:=Q} (Cm N vs) H):Al P w K mg base (k+1) f ps sp:=by
 obtain⟨fd,F⟩:=D;exact⟨⟨fd,F.ok0 S len hbody,F.binds bd⟩,F.kp⟩
theorem RY(D:∃fd,Bn K x qual st f fd)(S:AK N ps (AH st))(bd:EI x qual st ps)(len:∀vs H Q E,sp vs H Q E->vs.length=ps.length)
  (hbody:∀(bh:Value) (A:Around) (outer:List Env) (s:Shared) (H:Hp) (vs:List V) (Q:VK) (E:XK),Br k (A.deeper (envOfC qual (AH st) s.heap.objs.size f bh))->sp vs H Q E ->
   ∃t,GS (D5 (JS P w) P w K mg base N qual (AH st) f bh A outer s H E) (Ba st) t/\t {nx:=λ_ H'=>Q .non H',rt:=Q} (Cm N vs) H):Al P w K mg base (k+1) f ps sp:=by
 obtain⟨fd,F⟩:=D;exact⟨⟨fd,F.okX S len hbody,F.binds bd⟩,F.kp⟩
end
section
variable{X:Cx}{k:Nat}{f:Addr}{E:St->XK}{EX:XK}{x:Str}{np p cpos:Pos}{e:Expr}{t:TA}
theorem De(G:Al X.prog X.w X.K X.mg X.base k f ps sp)(hr:Br k X.A)(hg:Gl X x)(hm:X.mg x=some (.ref f))(hx:FT (JS X.prog X.w) X E)
  (ha:PA X (e::es) t) (hdb:(x==("__debug__":Str))=false:=by decide) (he:starEach (e::es) X.env=(false,eval e X.env)::starEach es X.env:=by rfl) (hpl:(backTo pos (starEach es X.env)).any (·.1)=false:=by rfl):
  PE X (.Call (.Name x p) (e::es) [] pos) (J8 sp [] E t):=by
 obtain⟨⟨fd,F,b⟩,kp⟩:=G;exact PQ F hr hg hm kp b .nil hx ha hdb he hpl
theorem Df{i:Int}(hg:Gl X x)(hm:∃t,X.mg x=some (.int i t))(hd:(x==("__debug__":Str))=false:=by decide):PE X (.Name x pos) (tC (.int i)):=by obtain⟨t,hm⟩:=hm;exact PZ hg hm hd
end
inductive MH(K:qJ)(vs:List V)(H:Hp)(Q:VK)(z3_:XK):Prop
 |m (a:Addr) (ns:List Int) (k:Nat):vs=[.ref a,.int k]->Ai K H a (ns.map V.int)->ns.length<=63->Q (.int (ns.getD k 0)) H->MH K vs H Q z3_
noncomputable def Kd(H:Hp):V->Prop
 |.int _=>True
 |.bl _=>True
 |.non=>True
 |.str _=>True
 |.ref a=>∃xs,H a=some (.lst xs)\/H a=some (.tup xs)
 |_=>False
theorem Kd.same(e:AI H H'):∀{x:V},Kd H x->Kd H' x
 |.int _,_=>True.intro
 |.bl _,_=>True.intro
 |.non,_=>True.intro
 |.str _,_=>True.intro
 |.ref a,h=>by obtain⟨xs,h⟩:=h;exact⟨xs,h.elim (λq=>.inl (e _ _ q)) λq=>.inr (e _ _ q)⟩
noncomputable def YA:V->Bool
 |.int _=>true
 |_=>false
inductive Eg(vs:List V)(H:Hp)(Q:VK)(z3_:XK):Prop
 |m (x:V):vs=[x]->Kd H x->Q (.bl (YA x)) H->Eg vs H Q z3_
noncomputable def Qw(g:Int):V->Bool
 |.int i=>decide (0<=i)&&decide (i<g)
 |_=>false
inductive J9(vs:List V)(H:Hp)(Q:VK)(z3_:XK):Prop
 |m (x:V) (g:Int):vs=[x,.int g]->Kd H x->Q (.bl (Qw g x)) H->J9 vs H Q z3_
noncomputable def CD(g:Int)(xs:List V):Option Nat:=xs.findIdx? λx=>!Qw g x
noncomputable def MI(g n:Int)(ns:List Int):Int:=ns.foldl (λm x=>m*g+x) n
noncomputable def Av(g:Int)(ns:List Int):Int:=MI g 0 ns
theorem E2{g:Int}(h:CD g xs=none):∃ns:List Int,xs=ns.map V.int/\∀n∈ns,0<=n/\n<g:=by
 unfold CD at h;rw[aV]at h
 induction xs with
 |nil=>exact⟨[],rfl,λn z=>qG z (by simp)⟩
 |cons x xs ih =>
  obtain⟨ns,e,b⟩:=ih λy hy=>h y (YZ _ hy)
  have hx:=h x Ye;cases x with
  |int i =>
   simp only[Qw,Bool.not_eq_false',Bool.and_eq_true,decide_eq_true_eq]at hx;exact⟨i::ns,by rw[e];rfl,λn z=>(Yf.mp z).elim (λq=>q▸hx) (b n)⟩
  |_=>simp[Qw]at hx
theorem HS{g:Int}{ns:List Int}(h:∀n∈ns,0<=n/\n<g):CD g (ns.map V.int)=none:=by unfold CD;rw[aV];intro x hx;obtain⟨n,hn,e⟩:=Yd.mp hx;subst e;have q:=h n hn;simp[Qw,q.1,q.2]
theorem KA{ns:List Int}:∀x∈ns.map V.int,Kd H x:=λx hx=>by obtain⟨n,_,e⟩:=Yd.mp hx;subst e;exact True.intro
end L2
namespace L2
open PySem
variable{D:Gf}{H':Hp}{i:Nat}{xs:List V}{σ:St}
theorem E3{t:TS}(Z:Hp->Prop)(hz:Z H')(h:∀H2,Z H2->t D σ H2):t D σ H':=h H' hz
theorem FV{ns ms:List Int}(h:ns.map V.int=ms.map V.int):ns=ms:=(List.map_inj_right (f:=V.int) λ_ _ e=>V.int.inj e).mp h
theorem MJ{g:Int}{x:V}(hb:CD g (xs.take i)=none)(hx:xs[i]?=some x)(hs:Qw g x=true):CD g (xs.take (i+1))=none:=by
 unfold CD at *;rw[aV]at hb⊢;intro y hy;rw[aW,hx]at hy;rcases YR.mp hy with z|z
 ·exact hb y z
 ·have e:y=x:=by simpa using z
  rw[e,hs];rfl
theorem MK{g:Int}{x:V}(hb:CD g (xs.take i)=none)(hx:xs[i]?=some x)(hs:Qw g x=false):CD g xs=some i:=by
 obtain⟨hi,ex⟩:=YJ.mp hx
 have e:xs=xs.take i++x::xs.drop (i+1):=by rw[<-ex,<-ZG hi,Y6]
 unfold CD at *;rw[e,List.findIdx?_append,hb];simp[List.findIdx?_cons,hs,List.length_take];lia
theorem C4{ns:List Int}{x:V}(h:(ns.map V.int)[i]?=some x):∃n,ns[i]?=some n/\x=.int n:=by rw[YO]at h;obtain⟨n,e1,e2⟩:=Y3.mp h;exact⟨n,e1,e2.symm⟩
theorem FW{g n:Int}{ns:List Int}(h:ns[i]?=some n):Av g (ns.take (i+1))=Av g (ns.take i)*g+n:=by unfold Av MI;rw[aW,h,List.foldl_append];rfl
noncomputable def low(g:Int):List Int->Int
 |[]=>0
 |x::r=>x+g*low g r
theorem Ky(g x:Int):∀l:List Int,low g (l++[x])=low g l+x*g^l.length
 |[]=>by simp[low]
 |y::l=>by
  rw[Z8,low,low,Ky g x l,Y8,Ym,Int.mul_add,bP]
  congr 2
  rw[Zh g,Int.mul_assoc]
theorem C5(g x:Int)(l:List Int):Av g (l++[x])=Av g l*g+x:=by unfold Av MI;rw[List.foldl_append];rfl
theorem KB(g:Int):∀l:List Int,Av g l.reverse=low g l
 |[]=>rfl
 |x::l=>by rw[List.reverse_cons,C5,KB g l,low,Zh,ao]
theorem NT(g:Int)(ns:List Int):Av g ns=low g ns.reverse:=by rw[<-KB,List.reverse_reverse]
end L2
namespace L2
open PySem PySem.Spec PyProof.Rows
variable{C a it:Addr}{D:Gf}{E Q:Value->Shared->Prop}{H H' H2:Hp}{T:String}{es:List Expr}{fp:List Addr}{h' h1:Heap}{i:Nat}{items:Array Value}{lo:Int}{ad:List (Addr×Obj)}{pos:Pos}{s':Shared}{scope:Scope}{ta:TA}{te:TE}{xs:List V}{σ:St}
mutual
inductive F3(K:qJ)(H:Hp):V->PyData->Prop
 |non:F3 K H .non .none
 |bl (b:Bool):F3 K H (.bl b) (.bool b)
 |int (i:Int):F3 K H (.int i) (.int i)
 |str (x:Str):F3 K H (.str x) (.str x)
 |lst {a:Addr} {xs:List V} {ds:List PyData}:Ai K H a xs->C6 K H xs ds->F3 K H (.ref a) (.list ds)
 |tup {a:Addr} {xs:List V} {ds:List PyData}:Ad K H a xs->C6 K H xs ds->F3 K H (.ref a) (.tuple ds)
inductive C6(K:qJ)(H:Hp):List V->List PyData->Prop
 |nil:C6 K H [] []
 |cons {x:V} {xs:List V} {d:PyData} {ds:List PyData}:F3 K H x d->C6 K H xs ds->C6 K H (x::xs) (d::ds)
end
section
variable{X:Cx}{s:Shared}
mutual
theorem F3.reads(I:AT X ad σ H s):∀{x:V} {d:PyData} {u:Value},F3 X.K H x d->A8 x u->∃as,Reads s.heap u d as
 |_,_,_,.non,r=>by cases r;exact⟨_,.none⟩
 |_,_,_,.bl b,r=>by cases r;exact⟨_,.bool b⟩
 |_,_,_,.int i,r=>by obtain⟨t,e⟩:=r;subst e;exact⟨_,.int i t⟩
 |_,_,_,.str x,r=>by obtain⟨t,e⟩:=r;subst e;exact⟨_,.str x t⟩
 |_,_,_,.lst hq ha,r=>by cases r;obtain⟨its,rv,⟨o,n,e,c,_,d⟩,_⟩:=I.list hq;obtain⟨as,q⟩:=C6.reads I ha rv;exact⟨_,.list e c d (by simpa using q)⟩
 |_,_,_,.tup hq ha,r=>by cases r;obtain⟨its,rv,⟨o,e,c,n,d⟩,_⟩:=I.tuple hq;obtain⟨as,q⟩:=C6.reads I ha rv;exact⟨_,.tuple e c d (by simpa using q)⟩
theorem C6.reads(I:AT X ad σ H s):∀{xs:List V} {ds:List PyData} {us:List Value},C6 X.K H xs ds->Ax xs us->∃as,ReadsAll s.heap us ds as
 |_,_,_,.nil,.nil=>⟨_,.nil⟩
 |_,_,_,.cons h t,.cons r rr=>by obtain⟨as,q⟩:=F3.reads I h r;obtain⟨bs,q2⟩:=C6.reads I t rr;exact⟨_,.cons q q2⟩
end
end
theorem Kz{K:qJ}:∀ns:List Int,C6 K H (ns.map V.int) (ns.map PyData.int)
 |[]=>.nil
 |n::ns=>.cons (.int n) (Kz ns)
theorem K0:∀ns:List Int,PyData.canLayAll0 (ns.map PyData.int)=true
 |[]=>by simp only[List.map_nil,PyData.canLayAll0]
 |n::ns=>by simp only[List.map_cons,PyData.canLayAll0,PyData.canLay0,K0 ns,Bool.and_self]
theorem YE{K:qJ}{t:Value}(h:PySem.W.kitOne K t (.type T)=some true)(r:List Value):PySem.W.kitAny K t (.type T::r)=some true:=by unfold PySem.W.kitAny;rw[h]
theorem K1{X:Cx}{K:qJ}(h:X.K=K):Si X (RK K):=h▸NO
theorem KC{X:Cx}{K:qJ}(h:X.K=K):Si X (RL K):=h▸PB
noncomputable def D0(X:Cx)(s2:Shared)(H2:Hp)(env:Env)(fp:List Addr)(N:List Str):Cx:={X with N:=N,s₀:=s2,H₀:=H2,env:=env,outer:=X.stack,ex:=fp,fn:=λ_=>false,pn:=[],xe:=λ_ _=>False}
theorem Vo{X:Cx}{s2:Shared}{env:Env}{N:List Str}:(D0 X s2 H2 env fp N).K=X.K:=rfl
noncomputable def Gg(env:Env):List (Str×Addr)->Prop
 |[]=>True
 | (y,c)::r=>env.cells.lookup y=some c/\Gg env r
theorem Gg.at'{env:Env}:∀{cl:List (Str×Addr)},Gg env cl->∀{y:Str} {c:Addr},cl.lookup y=some c->env.cells.lookup y=some c
 |[],_,_,_,h=>by cases h
 | (z,d)::r,⟨h1,h2⟩,y,c,h=>by
  rw[Z9]at h;cases e:y==z with
  |true =>
   rw[e]at h;cases h;rw[eq_of_beq e];exact h1
  |false =>
   rw[e]at h;exact h2.at' h
noncomputable def XC:Option NameKind->Bool
 |some .cell=>true
 |some .free=>true
 |_=>false
theorem Pd{k:Option NameKind}(h:XC k=true):k=some .cell\/k=some .free:=by
 unfold XC at h
 split at h
 ·exact .inl rfl
 ·exact .inr rfl
 ·cases h
noncomputable def HU(X:Cx)(scope:Scope)(cl:List (Str×Addr)):List (Nat×Str)->Prop
 |[]=>True
 | (j,y)::r=>(X.N[j]?=some y/\XC (X.env.scope.names.lookup y)=true/\(relabel scope X.env).names.lookup y=X.env.scope.names.lookup y/\(cl.lookup y).isSome=true)/\HU X scope cl r
variable{cl:List (Str×Addr)}
theorem HU.at'{X:Cx}:∀{fv:List (Nat×Str)},HU X scope cl fv->∀q∈fv,X.N[q.1]?=some q.2/\XC (X.env.scope.names.lookup q.2)=true/\(relabel scope X.env).names.lookup q.2=X.env.scope.names.lookup q.2/\(cl.lookup q.2).isSome=true
 |[],_,q,h=>by cases h
 | (j,y)::r,⟨h1,h2⟩,q,h=>(Yf.mp h).elim (λe=>by rw[e];exact h1) λz=>h2.at' q z
noncomputable def Cv(σ:St)(fv:List (Nat×Str)):List (Option V):=fv.map λq=>(σ[q.1]?).join
def PF(X:Cx)(ifs:List Expr)(t:TT):Prop:=∀(ad:List (Addr×Obj)) (s:Shared) (σ:St) (H:Hp) (Q:Bool->Hp->Prop),AT X ad σ H s->t σ H Q ->
 wpAny (model X.prog X.w) X.A (forIn ifs true λc r=>if r=true then do let ok <-isTrue c X.env (eval c X.env);pure (ForInStep.yield ok) else pure (ForInStep.yield r)) (TP X ad σ Q) X.xe s
def RZ:TT:=λ_ H Q=>Q true H
theorem E4{X:Cx}:PF X [] RZ:=λad s σ H Q I h=>qD ⟨H,I,h⟩
theorem F4{X:Cx}{c:Expr}{t:TT}(h:PT X c t):PF X [c] t:=λad s σ H Q I q=>by simp only[List.forIn_cons,List.forIn_nil,if_true];exact qC (qC (BQ (h ad s σ H Q I q) λb s1 z=>qD (qD z)))
def EJ(J:It)(tt:TT)(te:TE)(σf:List (Option V))(D:Addr)(Q:VK)(H:Hp):Prop:=∃W:Nat->Nat->List V->Hp->Prop,(∃n,W n 0 [] (Ac H D (.lst [])))/\∀n i bg H2,W n i bg H2 ->
 (J.stop i H2/\Q (.ref D) H2)\/(J.go i H2/\∃N:List V->Hp->Prop,(∀l H',N l H'->∃n',n'<n/\W n' (i+1) l H')/\∀v H3,J.yld i H2 v H3->tt (some v::σf) H3 λb H4 =>
  if b=true then te (some v::σf) H4 λy H5=>H5 D=some (.lst bg)/\bg.length<sizeLine/\N (bg++[y]) (Ac H5 D (.lst (bg++[y]))) else N bg H4)
def Pe(wi:TI)(fv:List (Nat×Str))(tt:TT)(te:TE):TE:=λσ H Q=>wi σ H λJ H1=>∀D,H1 D=none->EJ J tt te (Cv σ fv) D Q H1
section
variable{X:Cx}{x:Str}{px pos:Pos}{elt iter:Expr}{ifs:List Expr}{scope:Scope}{cl:List (Str×Addr)}{fv:List (Nat×Str)}{wi:TI}{tt:TT}{te:TE}
 {ad:List (Addr×Obj)} {σ:St} {H2:Hp} {s2:Shared} {fp:List Addr} {it:Addr} {tn:Nat->Heap->Prop} {J:It}
theorem Pg{N:List Str}(I2:AT X ad σ H2 s2)(f2:∀b∈fp,C3 X ad H2 b)(o2:∀b∈fp,∃o,s2.heap.get? b=some o/\∀v,o.data≠.cell v)(hC:s2.heap.objs.size<=C)(hk:scope.kind=.function)(hcl:Gg X.env cl)
  (hhas:((relabel scope X.env).names.all λz=>!(z.2==.cell||z.2==.free)||(cl.lookup z.1).isSome)=true):(D0 X s2 H2 (compEnvC scope cl C X.env) fp N).Ok where
 mod:=I2.ok.mod
 kind:=hk
 glob:=I2.ok.glob
 blt:=I2.ok.blt
 above:=hC
 inj:=λx y c h1 h2=>I2.ok.inj x y c (hcl.at' h1) (hcl.at' h2)
 has:=λy h=>by
  have key:∀k:NameKind,(relabel scope X.env).names.lookup y=some k->(k==.cell||k==.free)=true->∃c,cl.lookup y=some c:=λk hl hk=>by
   have mem:(y,k)∈(relabel scope X.env).names:=by
    generalize (relabel scope X.env).names=l at hl
    induction l with
    |nil=>cases hl
    |cons q r ih =>
     rw[Z9]at hl;cases e:y==q.1 with
     |true =>
      rw[e]at hl;cases hl;rw[eq_of_beq e];exact Ye
     |false =>
      rw[e]at hl;exact YZ _ (ih hl)
   have z:=ag.mp hhas _ mem;simp only[hk,Bool.not_true,Bool.false_or]at z;exact Z4.mp z
  rcases h with h|h
  ·exact key _ h rfl
  ·exact key _ h rfl
 cab:=λ_ _ h=>nomatch h
 hd:=I2.ok.hd
 frames:=I2.ok.frames
 stk:=.inl rfl
 exf:=λb hb=>by obtain⟨o,e,_⟩:=o2 b hb;exact⟨Yp (YS (YQ e) hC),λy c h=>(f2 b hb).2.2.2.2.1 y c (hcl.at' h)⟩
 bs:=λb o e=>I2.bs b o e
 bsz:=Yy I2.ok.bsz I2.sz
 noex:=λb o e hb=>by
  obtain⟨_,_,_,h,_⟩:=f2 b hb;rcases h with h|h
  ·exact I2.ok.noex b o e h
  ·exact qG (YS (YQ e) (Yy I2.ok.bsz h)) (Yh _)
 exfs:=λb hb z=>(Yf.mp (I2.stkSub b z)).elim (f2 b hb).2.1 (f2 b hb).2.2.1
 funs:=I2.stack
 frf:=I2.stkFree
theorem HV{env:Env}{N:List Str}{σ':St}{pl:List (Addr×Obj)}(I2:AT X ad σ H2 s2)(f2:∀b∈fp,C3 X ad H2 b)(Ib:AT (D0 X s2 H2 env fp N) pl σ' H' s'):AT X ad σ H' s':=
 I2.call' (ch:=fp) Ib.os Ib.base Ib.hok Ib.bare λb hb=>⟨(f2 b hb).2.2.2.1,(f2 b hb).2.1,(f2 b hb).2.2.2.2.1,(f2 b hb).2.2.2.2.2⟩
theorem Tz{D:Addr}{t1:Nat}(I2:AT X ad σ H2 s2)(f2:∀b∈fp,C3 X ad H2 b)(o2:∀b∈fp,∃o,s2.heap.get? b=some o/\∀v,o.data≠.cell v)(hD:s2.heap.objs.size<=D)(hC:s2.heap.objs.size<=C)(hDC:D≠C)
  (old:∀b o,s2.heap.get? b=some o->h1.get? b=some o) (hl:h1.PlainList D #[]) (hn:h1.Ns C (λ_=>none)) (hk:scope.kind=.function) (hcl:Gg X.env cl)
  (hhas:((relabel scope X.env).names.all λz=>!(z.2==.cell||z.2==.free)||(cl.lookup z.1).isSome)=true) (hfv:HU X scope cl fv):
  AT (D0 X s2 H2 (compEnvC scope cl C X.env) fp (x::fv.map (·.2))) [] (none::Cv σ fv) (Ac H2 D (.lst [])) {s2 with heap:=h1,toks:=t1} where
 ok:=Pg I2 f2 o2 hC hk hcl hhas
 os:=rfl
 bare:=I2.bare
 base:=Un.laid old hD (I2.hok.fresh hD)
 loc:=by
  refine⟨_,hn,λi y v h1' h2' _=>?_⟩;cases i with
  |zero=>cases h2'
  |succ i =>
   have h1':(fv.map (·.2))[i]?=some y:=h1';have h2':(Cv σ fv)[i]?=some (some v):=h2'
   obtain⟨q,hq,e1⟩:∃q,fv[i]?=some q/\q.2=y:=by rw[YO]at h1';exact Y3.mp h1'
   subst e1;obtain⟨g1,g2,g3,g4⟩:=hfv.at' q (YW hq);unfold Cv at h2';rw[YO,hq]at h2';have e2:(σ[q.1]?).join=some v:=Option.some.inj h2'
   have e3:σ[q.1]?=some (some v):=by
    cases z:σ[q.1]? with
    |none=>rw[z]at e2;cases e2
    |some w=>rw[z]at e2;exact congrArg some e2
   obtain⟨m,_,lk⟩:=I2.loc;have g2:=Pd g2;obtain⟨u,ru,lu⟩:=lk q.1 q.2 v g1 e3 (.inr g2);refine⟨u,ru,.inr ⟨g2.imp (λz=>g3.trans z) (λz=>g3.trans z),?_⟩⟩;obtain⟨c,hc⟩:=Z4.mp g4;refine⟨c,hc,?_⟩;rcases lu with⟨kk,_⟩|⟨_,c',e',⟨o,eo,d⟩⟩
   ·rcases g2 with z|z<;>(rw[show X.env.kindOf q.2=_ from z]at kk;cases kk)
   ·have e4:=hcl.at' hc;rw[e']at e4;cases e4;exact⟨o,old c o eo,d⟩
 cell:=λy c h=>by obtain⟨v,o,eo,d⟩:=I2.cell y c (hcl.at' h);exact⟨v,o,old c o eo,d⟩
 free:=by show Ac H2 D _ C=none;rw[AN (Ne.symm hDC)];exact I2.hok.fresh hC
 freeC:=λy c h=>by obtain⟨v,o,eo,d⟩:=I2.cell y c (hcl.at' h);rw[AN (Yp (YS (YQ eo) hD))];exact I2.freeC y c (hcl.at' h)
 pin:=λp hp=>nomatch hp
 hok:=I2.hok.laid old hD (by obtain⟨n,e⟩:=hl;exact⟨Nat.zero_le _,[],n,.nil,by simpa using e⟩)
 len:=by simp[Cv,D0]
theorem NU{RR:Value->Addr->Result->Shared->Prop}{Q:VK}(hc:X.calm=true)(I2:AT X ad σ H2 s2)(T:JB X.prog X.w X.K (.Name x px) J fp it tn)(st2:tn 0 s2.heap)(f2:∀b∈fp,C3 X ad H2 b)
  (hcell:∀y∈scope.names,y.2≠.cell) (hk:scope.kind=.function) (hx:scope.names.lookup x=some .local) (hcl:Gg X.env cl) (hhas:((relabel scope X.env).names.all λz=>!(z.2==.cell||z.2==.free)||(cl.lookup z.1).isSome)=true) (hfv:HU X scope cl fv) (hnd:(x::fv.map (·.2)).Nodup)
  (hf:∀s H C fp,PF (D0 X s H (compEnvC scope cl C X.env) fp (x::fv.map (·.2))) ifs tt) (he:∀s H C fp,PE (D0 X s H (compEnvC scope cl C X.env) fp (x::fv.map (·.2))) elt te)
  (hw:∀D,H2 D=none->EJ J tt te (Cv σ fv) D Q H2)
  (hRR:∀D C σ' H' s',s2.heap.objs.size<=C->AT (D0 X s2 H2 (compEnvC scope cl C X.env) fp (x::fv.map (·.2))) [] σ' H' s'->Q (.ref D) H'->RR (.ref D) C (.ok .next) s'):
  wpAny (model X.prog X.w) X.A (newList []) (λbg s3=>wpAny (model X.prog X.w) X.A (newFunctionEnv scope X.env.globals cl [] X.env.qual none .none (some X.env)) (λcenv s4 =>
   codeAny (model X.prog X.w) X.A (.compStart (.ListComp elt [⟨.Name x px,iter,ifs,0⟩] scope pos) 0 (.ref it) bg {cenv with scope:=relabel scope X.env}) (RR bg cenv.locals) s4) E s3) E s2:=by
 refine wpAny_newObj_type (wpAny_newFunctionEnv hcell (by intro y hy;simp at hy) (λh1 hns hsb=>?_) hk);dsimp only at hns hsb⊢;generalize hH:s2.heap.push {cls:=.type "list",dict:=none,data:=.seq ([]:List Value).toArray}=HH at hns hsb⊢;have eC:HH.objs.size=s2.heap.objs.size+1:=by rw[<-hH,Zg]
 have hDC:s2.heap.objs.size≠HH.objs.size:=by rw[eC];exact Yp (Zz _)
 have hC:s2.heap.objs.size<=HH.objs.size:=by rw[eC];exact Z6 _
 have old:∀b o,s2.heap.get? b=some o->h1.get? b=some o:=λb o e=>hsb.extBut b o (by rw[eC];exact Yp (Zk (YQ e))) (YK _ (hH▸YK _ e))
 have hacc:h1.PlainList s2.heap.objs.size #[]:=⟨_,hsb.extBut _ _ hDC (YK _ (hH▸YX _ rfl))⟩;have o2:=T.obj _ _ st2;obtain⟨W,⟨n0,w0⟩,turn⟩:=hw s2.heap.objs.size (I2.hok.fresh (YL _));generalize eD:s2.heap.objs.size=D at *;generalize eCC:HH.objs.size=C at *;have Ib:=Tz (x:=x) (t1:=s2.toks+([]:List (Str×Value)).length) I2 f2 o2 (by rw[eD];exact YL _) (by rw[eD];exact hC) hDC old hacc hns hk hcl hhas hfv;have st1:tn 0 h1:=T.keep _ _ _ st2 λb _ o e=>old b o e
 have nD:∀b∈fp,b≠D:=λb hb=>by obtain⟨o,e,_⟩:=o2 b hb;rw[<-eD];exact Yp (YQ e)
 have fr1:∀b∈fp,Ac H2 D (.lst []) b=none:=λb hb=>by rw[AN (nD b hb)];exact (f2 b hb).1
 have hxl:(relabel scope X.env).names.lookup x=some .local:=lookup_relabel_local hx
 have stat:∀{H':Hp},(∀b∈fp,H' b=none)->∀b∈fp,C3 (D0 X s2 H2 (compEnvC scope cl C X.env) fp (x::fv.map (·.2))) [] H' b:=λhn b hb=>by obtain⟨o,e,_⟩:=o2 b hb;exact⟨hn b hb,λz=>qG (YQ e) (by rw[z,eD];exact Nat.not_lt.mpr hC),λz=>(Yf.mp (I2.stkSub b z)).elim (f2 b hb).2.1 (f2 b hb).2.2.1,.inl hb,λy c h=>(f2 b hb).2.2.2.2.1 y c (hcl.at' h),λq hq=>nomatch hq⟩
 have loop:codeAny (model X.prog X.w) X.A (.compLoop (.ListComp elt [⟨.Name x px,iter,ifs,0⟩] scope pos) 0 (.ref it) (.ref D) (compEnvC scope cl C X.env)) (RR (.ref D) C) {s2 with heap:=h1,toks:=s2.toks+([]:List (Str×Value)).length}:=by
  refine codeAny_compLoop_tests (λn s'=>∃i bg σb H',AT (D0 X s2 H2 (compEnvC scope cl C X.env) fp (x::fv.map (·.2))) [] σb H' s'/\σb.tail=Cv σ fv/\tn i s'.heap/\(∀b∈fp,H' b=none)/\W n i bg H') ?_ n0 ⟨0,[],_,_,Ib,rfl,st1,fr1,w0⟩;rintro n s3 ⟨i,bg,σ3,H3,I3,t3,st3,fr3,w3⟩;rcases turn n i bg H3 w3 with⟨stop,qn⟩|⟨go,NN,hNN,step⟩
  ·refine BQ (T.done (D0 X s2 H2 (compEnvC scope cl C X.env) fp (x::fv.map (·.2))) rfl rfl rfl hc i [] s3 σ3 H3 _ I3 (stat fr3) st3 stop) λr s4 q4=>?_;obtain⟨hr,I4⟩:=q4;subst hr;exact hRR D C σ3 H3 s4 hC I4 qn
  ·refine BQ (T.item (D0 X s2 H2 (compEnvC scope cl C X.env) fp (x::fv.map (·.2))) rfl rfl rfl hc i [] s3 σ3 H3 _ I3 (stat fr3) st3 go) λr s4 q4=>?_;obtain⟨u,hr,h4⟩:=q4;subst hr;refine (show wpAny _ _ (letOwnedTupleGo (.Name x px) (.ref it) u >>= λ_=>assign (.Name x px) (compEnvC scope cl C X.env) u) _ _ _ from qC (BQ h4 λ_ s5 q5=>?_));obtain⟨v,H5,I5,r5,y5,st5,fr5⟩:=q5;have I5':=I5.pinned (stat fr5) (T.obj _ _ st5);have again:∀{σ7:St} {H7:Hp} {s7:Shared},AT (D0 X s2 H2 (compEnvC scope cl C X.env) fp (x::fv.map (·.2))) ([]++Fv fp s5.heap) σ7 H7 s7->tn (i+1) s7.heap/\∀b∈fp,H7 b=none:=λ{σ7 H7 s7} I7=>by refine⟨T.keep _ _ _ st5 λb hb o e=>(I7.pin (b,o) (YU _ (YU _ (CL hb e)))).1,λb hb=>?_⟩;obtain⟨o,e,d⟩:=T.obj _ _ st5 b hb;exact (I7.pin (b,o) (YU _ (YU _ (CL hb e)))).2.1
   have sσ:σ3.set 0 (some v)=some v::Cv σ fv:=by
    cases σ3 with
    |nil =>
     have z:=I3.len;simp[D0]at z
    |cons a b =>
     have z:b=Cv σ fv:=t3;rw[z];rfl
   have g:=Gn (X:=D0 X s2 H2 (compEnvC scope cl C X.env) fp (x::fv.map (λq:Nat×Str=>q.2))) (pos:=px) (i:=0) (x:=x) hnd rfl (.inl hxl) (.inr hxl);refine wpAny_noRaise (BQ (g _ s5 σ3 H5 v u (λσ' H'=>σ'=some v::Cv σ fv/\H'=H5) I5' r5 ⟨sσ,rfl⟩) λ_ s6 q6=>?_);obtain⟨σ6,H6,I6,rfl,rfl⟩:=q6;refine wpAny_noRaise (BQ (hf _ _ _ _ _ s6 _ _ _ I6 (step v _ y5)) λb s7 q7=>?_);obtain⟨H7,I7,q7⟩:=q7;cases b with
   |false =>
    rw[qE (by decide)]at q7⊢;obtain⟨n',hn',w7⟩:=hNN _ _ q7;exact⟨n',hn',i+1,bg,_,H7,I7.unpinned,rfl,(again I7).1,(again I7).2,w7⟩
   |true =>
    rw[qF rfl]at q7⊢;refine wpAny_noRaise (BQ (he _ _ _ _ _ s7 _ _ _ I7 q7) λyv s8 q8=>?_);obtain⟨y,H8,I8,r8,e8,l8,q8⟩:=q8;obtain⟨n',hn',w8⟩:=hNN _ _ q8;refine wpAny_noRaise (BQ (F2 (X:=D0 X s2 H2 (compEnvC scope cl C X.env) fp (x::fv.map (·.2))) _ s8 _ H8 (.ref D) [y] (.ref D) [yv] (λ_ H'=>H'=Ac H8 D (.lst (bg++[y]))) I8 rfl (.cons r8 .nil) ⟨D,bg,y,rfl,rfl,e8,l8,rfl⟩) λ_ s9 q9=>?_);obtain⟨_,H9,I9,_,rfl⟩:=q9;exact⟨n',hn',i+1,bg++[y],_,_,I9.unpinned,rfl,(again I9).1,(again I9).2,w8⟩
 exact codeAny_compStart_list loop (T.self X.A 0 _ _ _ st1 loop)
theorem AT.letGo(I2:AT X ad σ H2 s2){σ':St}(J:AT X ad σ' H' s')(hC:s2.heap.objs.size<=C)(hn:H' C=none)(sb:Heap.SameBut C s'.heap h'):AT X ad σ' H' {s' with heap:=h',toks:=s'.toks}:=
 J.turned (it:=C) (λb o hb e=>(sb.2 b hb).trans e) hn (aH (YS I2.lt hC)) (.inr (Yy I2.sz hC)) (λy c e z=>by obtain⟨v,o,eo,d⟩:=I2.cell y c e;exact qG (YS (YQ eo) (by rw[z];exact hC)) (Yh _)) λp hp z=>qG (YS (YQ (I2.pin p hp).1) (by rw[z];exact hC)) (Yh _)
theorem Ra(hc:X.calm=true)(hi:PI X (.Name x px) iter wi)(hclos:closureFor scope X.env=pure cl)(hcell:∀y∈scope.names,y.2≠.cell)(hk:scope.kind=.function)(hnames:∀z∈scope.names,z.2=.local->scope.names.lookup z.1=some .local)
  (hx:scope.names.lookup x=some .local) (hcl:Gg X.env cl) (hhas:((relabel scope X.env).names.all λz=>!(z.2==.cell||z.2==.free)||(cl.lookup z.1).isSome)=true) (hfv:HU X scope cl fv) (hnd:(x::fv.map (·.2)).Nodup)
  (hf:∀s H C fp,PF (D0 X s H (compEnvC scope cl C X.env) fp (x::fv.map (·.2))) ifs tt) (he:∀s H C fp,PE (D0 X s H (compEnvC scope cl C X.env) fp (x::fv.map (·.2))) elt te)
  (hs:∀x,foldedSetIterable iter X.env x=pure x:=by intro _;rfl):PE X (.ListComp elt [⟨.Name x px,iter,ifs,0⟩] scope pos) (Pe wi fv tt te):=by
 intro ad s σ H Q I h;rw[eval_ListComp];refine wpAny_comprehension_free (use:=none) rfl hs hclos hk hnames (BQ (hi ad s σ H _ I h) λv s1 h1=>BQ h1 λitv s2 h2=>?_);obtain⟨it,fp,tn,J,H2,e,I2,T,st2,f2,hw⟩:=h2;subst e;refine NU (RR:=λbg C=>compPost (model X.prog X.w) X.A X.xe none (EP X ad σ Q) bg C) hc I2 T st2 f2 hcell hk hx hcl hhas hfv hnd hf he hw λD C σ' H' s' hC Ib q=>?_;obtain⟨m,hn,_⟩:=Ib.loc;exact⟨m,hn,λh' sb=>⟨.ref D,H',AT.letGo I2 (HV I2 f2 Ib) hC Ib.free sb,rfl,q⟩⟩
theorem FX{y:Str}{iy:Nat}{py spos:Pos}(hc:X.calm=true)(hN:X.N.Nodup)(hy:X.N[iy]?=some y)(hyl:SU X.env.scope y)(hi:PI X (.Name x px) iter wi)(hsw:swapsWith (.ListComp elt [⟨.Name x px,iter,ifs,0⟩] scope pos) (some (.Name y py)) spos.line X.env=pure true)
  (hclos:closureFor scope X.env=pure cl) (hcell:∀y∈scope.names,y.2≠.cell) (hk:scope.kind=.function) (hnames:∀z∈scope.names,z.2=.local->scope.names.lookup z.1=some .local)
  (hx:scope.names.lookup x=some .local) (hcl:Gg X.env cl) (hhas:((relabel scope X.env).names.all λz=>!(z.2==.cell||z.2==.free)||(cl.lookup z.1).isSome)=true) (hfv:HU X scope cl fv) (hnd:(x::fv.map (·.2)).Nodup)
  (hf:∀s H C fp,PF (D0 X s H (compEnvC scope cl C X.env) fp (x::fv.map (·.2))) ifs tt) (he:∀s H C fp,PE (D0 X s H (compEnvC scope cl C X.env) fp (x::fv.map (·.2))) elt te)
  (hyf:X.fn y=true\/X.env.scope.names.lookup y=some .local:=by first|exact .inl rfl|exact .inr rfl) (hs:∀x,foldedSetIterable iter X.env x=pure x:=by intro _;rfl):
  PS X (.Assign [.Name y py] (.ListComp elt [⟨.Name x px,iter,ifs,0⟩] scope pos) spos) (OF (Pe wi fv tt te) (FM iy)):=by
 intro ad s σ H D h' h;have I:=h';rw[exec_Assign_Name_used _ _ _ _ hsw];refine qC (wpAny_standAt (qC ?_));show wpAny _ X.A (do let _ <-comprehension (.ListComp elt [⟨.Name x px,iter,ifs,0⟩] scope pos) scope X.env _ (newList []) false (eval iter X.env) (some (assign (.Name y py) X.env))) _ _ s;refine qC (wpAny_mono (wpAny_comprehension_free (use:=some (assign (.Name y py) X.env)) (Q:=λ_ s'=>SP X ad D .next s') rfl hs hclos hk hnames (BQ (hi ad s σ H _ I h) λv s1 h1=>BQ h1 λitv s2 h2=>?_)) (λ_ s' hq=>qD (qD hq)) λ_ _ e=>e);obtain⟨it,fp,tn,J,H2,e,I2,T,st2,f2,hw⟩:=h2;subst e;refine NU (Q:=λv H1=>FM iy v σ H1 D.nx) (RR:=λbg C=>compPost (model X.prog X.w) X.A X.xe (some (assign (.Name y py) X.env)) (λ_ s'=>SP X ad D .next s') bg C) hc I2 T st2 f2 hcell hk hx hcl hhas hfv hnd hf he hw λD' C σ' H' s' hC Ib q=>?_;obtain⟨m,hn,_⟩:=Ib.loc;show wpAny _ X.A (assign (.Name y py) X.env (.ref D')) _ _ _;refine wpAny_assign_Name (JL (HV I2 f2 Ib) hN hy hyl (v:=.ref D') rfl (λs3 I3 hsb=>?_) hyf);obtain⟨a,sb3,ha⟩:=hsb
 have nC:C≠a:=λz=>by
  rcases ha with e|e
  ·exact qG (YS I2.lt hC) (by rw[z,e];exact Yh _)
  ·obtain⟨v,o,eo,d⟩:=I2.cell y a e;exact qG (YS (YQ eo) (by rw[<-z];exact hC)) (Yh _)
 exact⟨m,hn.sameBut sb3 nC,λh'' sb=>⟨_,H',AT.letGo I2 I3 hC Ib.free sb,q⟩⟩
end
variable{tt:TT}{σf:List (Option V)}
theorem CM{n:Nat}{D:Addr}{Q:VK}(Pv:Nat->List V->Hp->Prop)(h0:Pv 0 [] (Ac H D (.lst [])))
  (hs:∀i bg H2,i<n->Pv i bg H2->tt (some (.int (lo+i))::σf) H2 λb H4=>if b=true then te (some (.int (lo+i))::σf) H4 λy H5=>H5 D=some (.lst bg)/\bg.length<sizeLine/\Pv (i+1) (bg++[y]) (Ac H5 D (.lst (bg++[y]))) else Pv (i+1) bg H4)
  (hd:∀bg H2,Pv n bg H2->Q (.ref D) H2):EJ (Sb lo n) tt te σf D Q H:=by
 refine⟨λk i bg H=>k=n-i/\i<=n/\Pv i bg H,⟨n,by simp,Nat.zero_le _,h0⟩,?_⟩;rintro k i bg H2 ⟨rfl,hi,p⟩
 by_cases hlt:i<n
 ·refine .inr ⟨hlt,Pv (i+1),λl H' p'=>⟨n-(i+1),by lia,rfl,hlt,p'⟩,λx H' y=>?_⟩;obtain⟨e,y⟩:=y;subst e y;exact hs i bg _ hlt p
 ·have e:i=n:=by lia
  subst e;exact .inl ⟨YL _,hd bg H2 p⟩
theorem F5{K:qJ}{D:Addr}{Q:VK}(Pv:Nat->List V->Hp->Prop)(h0:Pv 0 [] (Ac H D (.lst [])))(hl:∀i bg H,i<=xs.length->Pv i bg H->Ai K H a xs)
  (hs:∀i x bg H2,xs[i]?=some x->Pv i bg H2->tt (some x::σf) H2 λb H4=>if b=true then te (some x::σf) H4 λy H5=>H5 D=some (.lst bg)/\bg.length<sizeLine/\Pv (i+1) (bg++[y]) (Ac H5 D (.lst (bg++[y]))) else Pv (i+1) bg H4)
  (hd:∀bg H2,Pv xs.length bg H2->Q (.ref D) H2):EJ (VI K a) tt te σf D Q H:=by
 refine⟨λk i bg H=>k=xs.length-i/\i<=xs.length/\Pv i bg H,⟨xs.length,by simp,Nat.zero_le _,h0⟩,?_⟩;rintro k i bg H2 ⟨rfl,hi,p⟩;have q:=hl i bg H2 hi p
 by_cases hlt:i<xs.length
 ·refine .inr ⟨⟨xs,xs[i],q,by simp[hlt]⟩,Pv (i+1),λl H' p'=>⟨xs.length-(i+1),by lia,rfl,hlt,p'⟩,λx H' y=>?_⟩;obtain⟨e,y⟩:=y;subst e;exact hs i x bg _ (y xs q) p
 ·have e:i=xs.length:=by lia
  subst e;exact .inl ⟨⟨xs,q,YL _⟩,hd bg H2 p⟩
section
variable{X:Cx}
theorem E5:CK X (.type "int") (λxs H Q=>∃i:Int,(xs=[.int i]\/∃b,xs=[.bl b]/\i=if b=true then 1 else 0)/\Q (.int i) H):=by
 intro ad s σ H xs us Q I r h;obtain⟨i,h,q⟩:=h;rcases h with rfl|⟨b,rfl,e⟩
 ·obtain⟨u,rfl,⟨t,rfl⟩⟩:=Ev r;exact call_int_int ⟨.int i,H,I,⟨t,rfl⟩,q⟩
 ·obtain⟨u,rfl,rx⟩:=Ev r;cases rx;subst e;exact call_int_bool ⟨.int _,H,I.tok _,⟨_,rfl⟩,q⟩
theorem GW:∀(ns:List Int) (k:Nat),k<=ns.length->preSum (λi=>ns.getD i 0) k=(ns.take k).sum
 |ns,0,_=>by simp[preSum]
 |ns,k+1,h=>by
  have e:ns.take (k+1)=ns.take k++[ns[k]]:=by rw[aW,YI (by lia)];rfl
  rw[preSum,GW ns k (by lia),e,bQ,YH,YI (by lia)];simp
theorem GX(hc:X.calm=true):CK X (.builtin "sum") (λxs H Q=>∃(p:Addr) (ns:List Int),xs=[.ref p]/\Ai X.K H p (ns.map V.int)/\Q (.int ns.sum) H):=by
 intro ad s σ H xs us Q I r h;obtain⟨p,ns,rfl,hq,q⟩:=h;obtain⟨u,rfl,rx⟩:=Ev r;cases rx;obtain⟨its,rits,pl,hz⟩:=I.list hq;have hlen:=rits.length;rw[YG]at hlen;have alt:p<s.heap.objs.size:=by obtain⟨o,e,_⟩:=pl.isList;exact YQ e
 refine call_sum_walkG (wpAny_pyIter_list pl.isList ?_);have up:∀b o,s.heap.get? b=some o->(s.heap.push {cls:=.type "list_iterator",data:=.fields #[.ref p,.int 0 0]}).get? b=some o:=λb o e=>YK _ e
 refine⟨s.heap.objs.size,[s.heap.objs.size,p],[s.heap.objs.size],its.toArray.size,_,_,λi=>ns.getD i 0,rfl,Walks.list (A:=X.A.in1) (I.ok.hd hc) _ p (Yp alt) its.toArray,⟨⟨_,YX _ rfl,rfl,rfl⟩,pl.isList.at λo e=>up p o e⟩,λb hb=>?_,λi v hv=>?_,λh' tk t' kk=>?_⟩
 ·show b<(s.heap.push _).objs.size;rw[Zg];rcases Yf.mp hb with z|z
  ·rw[z];exact Zz _
  ·rw[YT.mp z];exact Zk alt
 ·have hv':its[i]?=some v:=by simpa using hv
  have hi:=(YJ.mp hv').1;obtain⟨u2,hu2,ru2⟩:=rits.get (x:=.int (ns.getD i 0)) (i:=i) (by rw[YO,YI (by lia),YH,YI (by lia)];rfl);rw[hv']at hu2;cases hu2;exact ru2
 ·refine⟨.int ns.sum,H,I.kept (t':=tk) λb o e=>kk b o (λz=>?_) (up b o e),⟨t',?_⟩,q⟩
  ·rw[YT.mp z]at e;exact qG (YQ e) (Yh _)
  ·rw[GW ns _ (by simp[<-hlen]),List.size_toArray,<-hlen,List.take_length]
end
section
variable{X:Cx}
def XZ(K:qJ)(n:Nat)(t:RC):TG:=λv σ H Q=>∃a xs,v=.ref a/\Ai K H a xs/\xs.length=n/\t xs σ H Q
theorem ML{k:Nat}{t:RC}{n:Nat}(hc:X.calm=true)(h:VR X es t)
  (hn:(assignEach es X.env).length=n:=by rfl) (hst:(assignEach es X.env).findIdx? (·.1)=none:=by rfl):PG X (.Tuple es k pos) (XZ X.K n t):=by
 intro ad s σ H v u Q I r hw;obtain⟨a,xs,e1,hq,hl,hw⟩:=hw;subst e1;cases r;obtain⟨its,rv,p,hz⟩:=I.list hq;have hn2:(assignEach es X.env).length=its.toArray.size:=by simp[hn,<-hl,rv.length]
 rw[assign_Tuple];refine qC (wpAny_standAt ?_);unfold unpack;rw[hn2,hst];refine qC (wpAny_holding (PySem.W.kun_itemsOf (I.ok.hd hc) p.isList λh' hx=>?_));have I1:AT X ad σ H {s with heap:=h'}:=I.kept (t':=s.toks) λb o e=>hx b o (Yp (YQ e)) e
 exact h ad _ σ H xs _ Q I1 (by simpa using rv) hw
end
section
variable{prog:Program}{w:World}{A:Around}{s:Shared}
theorem Gh{t:Addr}{items}{x:Value}(hit:s.heap.IsTupleIter it t i)(ht:s.heap.IsTuple t items)(hx:items[i]?=some x)
  (hQ:∀h',h'.IsTupleIter it t (i+1)->Heap.SameBut it s.heap h'->Q x {s with heap:=h'}):wpAny (model prog w) A (Builtin.SmallTypes.nextOf (.ref it)) Q E s:=by
 obtain⟨o,ho,hc,hd⟩:=id hit;obtain⟨ol,hol,_,nl,hdl⟩:=ht;unfold Builtin.SmallTypes.nextOf;refine qC (wpAny_callSpecial?_slot (name:=Str.ofString "__next__") hit.typeIs F.slot_tuple_iterator_next (wpAny_call_entry F.slot_tuple_iterator_next hit.typeIs F.entry_tuple_iterator_next ?_ (F.args_tuple_iterator_next_1 _)))
 (show wpAny _ _ (field (.ref it) 0 >>= _) _ _ s);refine qC (wpAny_field ho hd (x:=.ref t) rfl ?_)
 (show wpAny _ _ (if (Value.ref t==Value.none)=true then _ else _) _ _ s);rw[qE (show ¬((Value.ref t==Value.none)=true) from Ya)]
 (show wpAny _ _ (field (.ref it) 1 >>= _) _ _ s);refine qC (wpAny_field ho hd (x:=.int i 0) rfl ?_)
 (show wpAny _ _ (seqItems? (.ref t) >>= _) _ _ s);refine qC (wpAny_seqItems hol hdl ?_)
 simp only[Int.toNat_natCast,hx];refine qC (wpAny_setField ho hd (by simp) (qD ⟨x,rfl,qD (hQ _ ⟨_,Heap.get?_update_self _ ho (Obj.isFreed_of_fields (Obj.data_mapFields hd _)),(Obj.cls_mapFields ..).trans hc,by rw[Obj.data_mapFields hd];simp[rawInt]⟩ (Heap.SameBut.update ..))⟩))
theorem EK{t:Addr}{items}(hh:A.handled=none)(hit:s.heap.IsTupleIter it t i)(ht:s.heap.IsTuple t items)(hx:items[i]?=none)
  (hE:∀h' e,Heap.ExtBut it s.heap h'->(∃o,h'.get? e=some o/\o.cls=.type "StopIteration")->E (.ref e) {s with heap:=h'}):wpAny (model prog w) A (Builtin.SmallTypes.nextOf (.ref it)) Q E s:=by
 obtain⟨o,ho,hc,hd⟩:=id hit;obtain⟨ol,hol,_,nl,hdl⟩:=ht;unfold Builtin.SmallTypes.nextOf;refine qC (wpAny_callSpecial?_slot (name:=Str.ofString "__next__") hit.typeIs F.slot_tuple_iterator_next (wpAny_call_entry F.slot_tuple_iterator_next hit.typeIs F.entry_tuple_iterator_next ?_ (F.args_tuple_iterator_next_1 _)))
 (show wpAny _ _ (field (.ref it) 0 >>= _) _ _ s);refine qC (wpAny_field ho hd (x:=.ref t) rfl ?_)
 (show wpAny _ _ (if (Value.ref t==Value.none)=true then _ else _) _ _ s);rw[qE (show ¬((Value.ref t==Value.none)=true) from Ya)]
 (show wpAny _ _ (field (.ref it) 1 >>= _) _ _ s);refine qC (wpAny_field ho hd (x:=.int i 0) rfl ?_)
 (show wpAny _ _ (seqItems? (.ref t) >>= _) _ _ s);refine qC (wpAny_seqItems hol hdl ?_)
 simp only[Int.toNat_natCast,hx];refine qC (wpAny_rule (qC (wpAny_setField ho hd (by simp) ?_)));show wpAny _ _ (newExc (.type "StopIteration") [] >>= _) _ _ _;refine qC ?_;simp only[newExc,newTuple];refine qC (wpAny_newObj_type ?_ (by size_fits));refine qC (m:=firstArgMember _ _) (wpAny_of_eq (a:=Value.none) (by first|rfl|(simp only[firstArgMember];rfl)) ?_);refine wpAny_newObj_type ?_ (by size_fits);simp only[raiseNew];refine qC (wpAny_handled ?_);(first|rw[show A.in1.handled=none from hh]|rw[hh]);refine qC (qD (wpAny_throw ?_));exact (hE _ _ (((Heap.SameBut.update ..).extBut.push _).push _) ⟨_,YX _ rfl,rfl⟩)
theorem OQ(hh:A.handled=none)(it t:Addr)(hne:t≠it)(items:Array Value):Draws prog w A it [it,t] items.size (λi v=>items[i]?=some v) (λi h=>h.IsTupleIter it t i/\h.IsTuple t items) where
 live:=λ_ _ ⟨⟨o,ho,_⟩,_⟩=>⟨o,ho⟩
 frame:=λ_ _ _ ⟨st,o,ho,r⟩ hk=>⟨st.at λo e=>hk it (by simp) o e,o,hk t (by simp) o ho,r⟩
 item:=λi s Q E hi st hQ=>Gh st.1 st.2 (x:=items[i]) (by simp[hi]) λh' hit' hs'=>hQ _ h' s.toks (by simp[hi]) ⟨hit',st.2.extBut hs'.extBut hne⟩ hs'
 done:=λs Q E st hE=>EK hh st.1 st.2 (by simp) hE
open AutoSeq1 (wpAny_loadPart') in
theorem K2(l:Addr)(items:Array Value)(n:Nat)(dct:Option Addr)(sl:Array (Option Value)):
  Meets (Builtin.«enumerate.__new__» ⟨[.type "enumerate",.ref l],[]⟩) (λ_ R s=>s.heap.get? l=some {cls:=.type "tuple",dict:=dct,data:=.seq items n,slots:=sl} /\
   R (.ok (.ret (.ref (s.heap.push {cls:=.type "tuple_iterator",data:=.fields #[.ref l,.int 0 0]}).objs.size)))
    {s with heap:=(s.heap.push {cls:=.type "tuple_iterator",data:=.fields #[.ref l,.int 0 0]}).push {cls:=.type "enumerate",data:=.fields #[.none,.bool false,.ref s.heap.objs.size,rawInt 0,.none,.none]}}):=
 .of_wp λprog w A R s h=>by
  obtain⟨hp,g,d,tk,os⟩:=s;obtain⟨hl,h⟩:=h;have hsub:=sub_enumerate;have hL:Heap.IsTuple (Shared.heap ⟨hp,g,d,tk,os⟩) l items:=⟨_,hl,rfl,n,rfl⟩
  wp_walk using wpAny_loadPart' hl
  refine wpAny_stack_any λst=>qD ?_
  split
  ·rename_i c _ _ _ _ _
   cases (c==Value.type "enumerate")<;>(wp_walk using wpAny_loadPart' hl,wpAny_pyIter_tuple hL)<;>exact⟨_,rfl,h⟩
  ·(wp_walk using wpAny_loadPart' hl,wpAny_pyIter_tuple hL);exact⟨_,rfl,h⟩
theorem MM{l:Addr}(hL:s.heap.IsTuple l items)
  (h:∀h',IsEnum h' (s.heap.objs.size+1) s.heap.objs.size 0 .none->h'.IsTupleIter s.heap.objs.size l 0->h'.objs.size=s.heap.objs.size+2->(∀b o,s.heap.get? b=some o->h'.get? b=some o)->Q (.ref (s.heap.objs.size+1)) {s with heap:=h'}):
  wpAny (model prog w) A (call (.type "enumerate") [.ref l]) Q E s:=by
 obtain⟨⟨c,dct,dt,sl⟩,hl,hc,n,hd⟩:=hL;replace hc:c=.type "tuple":=hc;replace hd:dt=.seq items n:=hd;subst hc hd;refine callType_new F.called_enumerate (by decide) (F.typeCall_enumerate_1 _) (F.newCall_enumerate_1 _) (λobj=>F.args_object_init_2 obj _) F.entry_enumerate_new (K2 l items n dct sl) ⟨hl,?_⟩;have hz:(s.heap.push {cls:=.type "tuple_iterator",data:=.fields #[.ref l,.int 0 0]}).objs.size=s.heap.objs.size+1:=Zg ..;show _/\_;rw[hz]
 have he:IsEnum ((s.heap.push {cls:=.type "tuple_iterator",data:=.fields #[.ref l,.int 0 0]}).push {cls:=.type "enumerate",data:=.fields #[.none,.bool false,.ref s.heap.objs.size,rawInt 0,.none,.none]}) (s.heap.objs.size+1) s.heap.objs.size 0 .none:=by have:=YX (s.heap.push {cls:=.type "tuple_iterator",data:=.fields #[.ref l,.int 0 0]}) (o:={cls:=.type "enumerate",data:=.fields #[.none,.bool false,.ref s.heap.objs.size,rawInt 0,.none,.none]}) rfl;rw[hz]at this;exact this
 exact⟨⟨_,he,rfl⟩,h _ he ⟨_,YK _ (YX _ rfl),rfl,rfl⟩ (by rw[Zg,hz]) λb o x=>YK _ (YK _ x)⟩
theorem F6{e t:Addr}{old:Value}{Q:Option Value->Shared->Prop}(hh:A.handled=none)(he:IsEnum s.heap e it i old)(hit:s.heap.IsTupleIter it t i)(ht:s.heap.IsTuple t items)(hx:items[i]?=none)
  (hQ:∀h',Heap.ExtBut it s.heap h'->Q none {s with heap:=h'}):wpAny (model prog w) A (pyNext (.ref e)) Q E s:=by
 have hT:s.TypeIs (.ref e) "enumerate":=⟨_,he,rfl⟩;unfold pyNext;refine qC (wpAny_attempt (wpAny_callSpecial?_slot (name:=Str.ofString "__next__") hT F.slot_enumerate_next (wpAny_call_entry F.slot_enumerate_next hT F.entry_enumerate_next ?_ (F.args_enumerate_next_1 _))))
 (show wpAny _ _ (field (.ref e) 2 >>= _) _ _ _);refine qC (wpAny_field he rfl (x:=.ref it) rfl ?_)
 refine qC (EK hh hit ht hx λh' x he' hx'=>?_);obtain⟨o,ho,hc⟩:=hx';exact qC (wpAny_isInstance (T:="StopIteration") (b:=true) ⟨o,ho,hc⟩ isSubtype_stop (qD (hQ _ he')))
end
noncomputable def OR(K:qJ)(a:Addr):It:=
 ⟨λi H=>∃xs x,Ad K H a xs/\xs[i]?=some x,λi H v H'=>∃p x,v=.ref p/\H p=none/\H'=Ac H p (.tup [.int i,x])/\∀xs,Ad K H a xs->xs[i]?=some x,λi H=>∃xs,Ad K H a xs/\xs.length<=i⟩
theorem MN{P:Program}{w:World}{K:qJ}{elts:List Expr}{ctx}{tpos:Pos}(a e it:Addr)(hne:e≠it)(hna:a≠it)(hea:e≠a):
  JB P w K (.Tuple elts ctx tpos) (OR K a) [e,it] e (λi h=>(∃old,IsEnum h e it ((i:Nat):Int) old)/\h.IsTupleIter it a i) where
 mem:=by simp
 obj:=λi h st b hb=>by
  obtain⟨⟨old,q⟩,o,e1,c,d⟩:=st;rcases Yf.mp hb with z|z
  ·rw[z];exact⟨_,q,λv y=>by cases y⟩
  ·rw[YT.mp z];exact⟨o,e1,λv y=>by rw[d]at y;cases y⟩
 keep:=λi h h' st k=>by obtain⟨⟨old,q⟩,li⟩:=st;exact⟨⟨old,k e (by simp) _ q⟩,li.at λo z=>k it (by simp) o z⟩
 item:=by
  intro X hP hw hK hc i ad s σ H E I hf st hg;subst hP hw hK;obtain⟨xs,x,hq,hx⟩:=hg;obtain⟨its,rv,p,hz⟩:=I.tuple hq;obtain⟨u,hu,ru⟩:=rv.get hx;obtain⟨⟨old,he⟩,li⟩:=st
  have hil:i<its.toArray.size:=by have:=(YJ.mp hu).1;simpa using this
  refine wpAny_pyNext_enum_itemD (OQ (A:=X.A.in1) (show X.A.in1.handled=none from I.ok.hd hc) it a hna its.toArray) he ⟨li,show s.heap.IsTuple a its.toArray from p⟩ hil hne (by simp[hne,hea]) λy h1 tk hy out li1 ht hsz k1=>?_
  have ey:y=u:=by
   have e1:its.toArray[i]?=some u:=by simpa using hu
   rw[e1]at hy;exact (Option.some.inj hy).symm
  subst ey;refine⟨_,rfl,wpAny_letOwnedTupleGo_enum out λh2 he2 sb=>?_⟩;have k2:∀b o,b∉[e,it]->s.heap.get? b=some o->h2.get? b=some o:=λb o hb z=>(sb.2 b λy=>hb (by simp[y])).trans (k1 b o (λy=>hb (by simp[y])) (λy=>hb (by simp[y])) z)
  have hpe:s.heap.objs.size≠e:=aH (YQ he);have ht2:h2.get? s.heap.objs.size=some {cls:=.type "tuple",data:=.seq #[.int ((i:Nat):Int) tk,y]}:=(sb.2 _ hpe).trans ht;have hn:H s.heap.objs.size=none:=I.hok.fresh (YL _);refine⟨.ref s.heap.objs.size,Ac H s.heap.objs.size (.tup [.int ((i:Nat):Int),x]),I.turnedNew (h':=h2) (t':=tk+1) hf k2 (YL _) ⟨by show 2<=sizeLine;decide,[.int ((i:Nat):Int) tk,y],.cons ⟨_,rfl⟩ (.cons ru .nil),⟨_,ht2,rfl,_,rfl⟩⟩,rfl,⟨_,x,rfl,hn,rfl,λys hy=>by rw[I.tuple_inj hy hq];exact hx⟩,⟨⟨y,?_⟩,?_⟩,λb hb=>?_⟩
  ·have ec:(((i+1:Nat)):Int)=((i:Nat):Int)+1:=by push_cast;rfl
   rw[ec];exact he2
  ·exact li1.1.at λo z=>(sb.2 it (Ne.symm hne)).trans z
  ·have b0:=(hf b hb).1;rw[AN λz=>?_]
   ·exact b0
   ·obtain⟨o,z1,_⟩:=id li;rcases Yf.mp hb with y|y
    ·exact hpe (z.symm.trans y)
    ·exact qG (YQ z1) (by rw[<-YT.mp y,z];exact Yh _)
 done:=by intro X hP hw hK hc i ad s σ H E I hf st hg;subst hP hw hK;obtain⟨xs,hq,hx⟩:=hg;obtain⟨its,rv,p,hz⟩:=I.tuple hq;obtain⟨⟨old,he⟩,li⟩:=st;obtain⟨f0,f1,f2,f3,f4,f5⟩:=hf it (by simp);have hl:=rv.length;exact F6 (I.ok.hd hc) he li p (by simp;lia) λh' eb=>⟨rfl,I.turned (t':=s.toks) (λb o hb e=>eb b o hb e) f0 f1 f3 f4 f5⟩
 self:=λ_ _ _ _ _ st h=>by obtain⟨⟨old,he⟩,_⟩:=st;exact wpAny_pyIter_enum he h
section
variable{X:Cx}{elts:List Expr}{ctx}{tpos:Pos}
def T0(K:qJ)(ta:TA):TI:=λσ H R=>ta σ H λvs H1=>∃a xs,vs=[.ref a]/\Ad K H1 a xs/\R (OR K a) H1
theorem Ha{l:Expr}{p pos:Pos}(hg:Gl X "enumerate")(hm:X.mg "enumerate"=none)(ha:PA X [l] ta)(hs:starEach [l] X.env=[(false,eval l X.env)]:=by rfl):PI X (.Tuple elts ctx tpos) (.Call (.Name "enumerate" p) [l] [] pos) (T0 X.K ta):=by
 intro ad s σ H R I h;refine Call_ (Cf I hg hm boot_enumerate (Y1 (BQ (ha pos ad s σ H _ I h) λus s1 z9=>?_) hs rfl));obtain⟨vs,H1,I1,r1,q1⟩:=z9;obtain⟨a,xs,e,hq,q⟩:=q1;subst e;cases r1 with
 |cons r rr =>
  cases rr;cases r;obtain⟨its,rv,pl,hz⟩:=I1.tuple hq;have hal:a<s1.heap.objs.size:=by obtain⟨o,ho,_⟩:=id pl;exact YQ ho
  refine MM pl λh1 he li hsz k1=>?_;refine wpAny_pyIter_enum he ?_;have n1:H1 (s1.heap.objs.size+1)=none:=I1.hok.fresh (Z6 _);have n0:H1 s1.heap.objs.size=none:=I1.hok.fresh (YL _);refine⟨s1.heap.objs.size+1,[s1.heap.objs.size+1,s1.heap.objs.size],_,_,H1,rfl,I1.kept (t':=s1.toks) k1,MN a _ _ (Nat.succ_ne_self _) (Yp hal) (aH (Zk hal)),⟨⟨_,he⟩,li⟩,λb hb=>?_,q⟩;rcases Yf.mp hb with z|z
  ·rw[z];exact I1.fpOk (Z6 _) n1
  ·rw[YT.mp z];exact I1.fpOk (YL _) n0
theorem JT{K:qJ}{g:TG}{tb:TS}(Pv:Nat->St->Hp->Prop)(h0:Pv 0 σ H)(hl:∀i σ H,i<=xs.length->Pv i σ H->Ad K H a xs)
  (hs:∀i x p σ H,xs[i]?=some x->Pv i σ H->H p=none->g (.ref p) σ (Ac H p (.tup [.int ((i:Nat):Int),x])) λσ2 H2=>tb {D with nx:=Pv (i+1),ct:=Pv (i+1),bk:=D.nx} σ2 H2) (hd:∀σ H,Pv xs.length σ H->D.nx σ H):
  ∃W:Nat->Nat->St->Hp->Prop,(∃m,W 0 m σ H)/\∀i m σ H,W i m σ H ->
   ((OR K a).stop i H/\D.nx σ H)\/((OR K a).go i H/\∃N:St->Hp->Prop,(∀σ' H',N σ' H'->∃m',m'<m/\W (i+1) m' σ' H')/\∀x H',(OR K a).yld i H x H'->g x σ H' λσ2 H2=>tb {D with nx:=N,ct:=N,bk:=D.nx} σ2 H2):=by
 refine⟨λi m σ H=>m=xs.length-i/\i<=xs.length/\Pv i σ H,⟨xs.length,by simp,Nat.zero_le _,h0⟩,?_⟩;rintro i m σ H ⟨rfl,hi,p⟩;have q:=hl i σ H hi p
 by_cases hlt:i<xs.length
 ·refine .inr ⟨⟨xs,xs[i],q,by simp[hlt]⟩,Pv (i+1),λσ' H' p'=>⟨xs.length-(i+1),by lia,rfl,hlt,p'⟩,λv H' y=>?_⟩;obtain⟨p2,x,e1,e2,e3,y⟩:=y;subst e1 e3;exact hs i x p2 σ H (y xs q) p e2
 ·have e:i=xs.length:=by lia
  subst e;exact .inl ⟨⟨xs,q,YL _⟩,hd σ H p⟩
end
section
variable{X:Cx}
def Vp(K:qJ):R2:=λx y H Q=>∃d e,F3 K H x d/\F3 K H y e/\d.canLay0=true/\e.canLay0=true/\d.depth<=60/\Q (.bl (!PyData.eqv d e)) H
theorem T1(hu:X.A.units+64<cLine):Fw X (compareOp .NotEq) (Vp X.K):=by intro ad s σ H x y v u Q I rx ry h;obtain⟨d,e,hd,he,c1,c2,dd,q⟩:=h;obtain⟨as,r1⟩:=hd.reads I rx;obtain⟨bs,r2⟩:=he.reads I ry;have z:=SeqAt.rcNeAt_reads (A:=X.A) r1 r2 c1 c2 (by have:=Nat.min_le_left d.depth e.depth;lia);exact z X.prog X.w X.xe _ ⟨.bl _,H,I,rfl,q⟩
theorem NV(ns:List Int):(PyData.tuple (ns.map PyData.int)).canLay0=true:=by simp only[PyData.canLay0,K0]
end
end L2
namespace RW
noncomputable def dr(g n:Int):Nat->Int
 |0=>n
 |i+1=>dr g n i/g
noncomputable def C7(g n:Int):Nat->List Int
 |0=>[]
 |i+1=>C7 g n i++[dr g n i%g]
theorem DL(g n:Int):∀i,(C7 g n i).length=i
 |0=>rfl
 |i+1=>by rw[C7,YN,DL g n i];rfl
theorem Ab{g:Int}(hg:2<=g):∀m:Nat,0<g^m
 |0=>by rw[Yq];decide
 |m+1=>by rw[Ym];exact Int.mul_pos (Ab hg m) (by lia)
theorem Ph{g:Int}(hg:2<=g)(n:Int):∀i:Nat,dr g n i=n/g^i
 |0=>by rw[dr,Yq,Int.ediv_one]
 |i+1=>by rw[dr,Ph hg n i,Ym,Int.ediv_ediv_of_nonneg (ZX (Ab hg i))]
theorem NW{g n:Int}(hg:2<=g)(hn:0<=n){m:Nat}(h:n<g^m):dr g n m=0:=by rw[Ph hg];exact aC hn h
theorem T2{g n:Int}(hg:2<=g){m:Nat}(h:g^m<=n):0<dr g n m:=by
 rw[Ph hg];have h1:1*g^m<=n:=by rw[ZW];exact h
 have h2:=(Int.le_ediv_iff_mul_le (Ab hg m)).mpr h1;lia
end RW
namespace L2
open PySem
variable{H H' H1:Hp}{a:Addr}{i j:Nat}{lo:Int}{o:HO}{xs:List V}{α:Type}
theorem Bc{g:Int}(hg:2<=g){m n:Nat}(h:m<=n):g^m<=g^n:=by obtain⟨k,rfl⟩:=Nat.exists_eq_add_of_le h;rw[Int.pow_add];have h1:=RW.Ab hg m;have h2:=RW.Ab hg k;have h3:=Zo (show 1<=g^k by lia) (ZX h1);lia
theorem MO{g:Int}(hg:2<=g){m n:Nat}(h:m<n):g^m<g^n:=by have h1:=Bc hg (show m+1<=n from h);rw[Ym]at h1;have h2:=RW.Ab hg m;have h3:=Zo hg (ZX h2);lia
theorem Dq{g:Int}(hg:2<=g){m n:Nat}(h:g^m=g^n):m=n:=by
 rcases Nat.lt_trichotomy m n with z|z|z
 ·have:=MO hg z;lia
 ·exact z
 ·have:=MO hg z;lia
theorem JU{g:Int}(hg:2<=g):∀{rs:List Int},(∀n∈rs,0<=n/\n<g)->0<=low g rs/\low g rs<g^rs.length
 |[],_=>⟨Zp _,by show (0:Int)<g^0;rw[Yq];decide⟩
 |x::r,h=>by
  obtain⟨h1,h2⟩:=JU hg (rs:=r) λn hn=>h n (YZ _ hn)
  obtain⟨h3,h4⟩:=h x Ye;have h5:=bC (show 0<=g by lia) h1;have h6:=Zo (show low g r+1<=g^r.length by lia) (show 0<=g by lia);rw[Int.mul_add,aI]at h6;refine⟨by show 0<=x+g*low g r;lia,?_⟩;show x+g*low g r<g^(r.length+1);rw[Ym,Zh (g^r.length)];lia
theorem BN{g:Int}(hg:2<=g){ns:List Int}(h:∀n∈ns,0<=n/\n<g):0<=Av g ns/\Av g ns<g^ns.length:=by rw[NT,<-Zv];exact JU hg λn hn=>h n (List.mem_reverse.mp hn)
theorem NX{l b:Addr}{zs:List V}{Q:VK}(h1:H l=some (.lst xs))(h2:H b=some (.lst zs))(hz:xs.length+zs.length<=1000)(q:∀p H',AI H H'->H p=none->H' p=some (.lst (xs++zs))->Q (.ref p) H'):Vd (.ref l) (.ref b) H Q:=
 ⟨l,b,xs,zs,rfl,rfl,h1,h2,Sk hz,λp hp=>q p _ (AI.new hp _) hp AE⟩
theorem KD{K:qJ}{lo hi:Option Int}{Q:VK}(h:Ai K H a xs)(q:∀p H',AI H H'->H p=none->H' p=some (.lst (HM xs lo hi))->Q (.ref p) H'):Vc K (.ref a) lo hi H Q:=
 ⟨a,xs,rfl,h,λp hp=>q p _ (AI.new hp _) hp AE⟩
theorem Rb{l:Addr}{x:V}{k:Int}{Q:VK}(h:H l=some (.lst [x]))(k0:0<=k)(k1:k<=1000)(q:∀p H',AI H H'->H p=none->H' p=some (.lst (List.replicate k.toNat x))->Q (.ref p) H'):Ve (.ref l) (.int k) H Q:=
 ⟨l,k,[x],rfl,rfl,h,by lia,by lia,by rw[Y5,Nat.one_mul];exact Sk (by lia),λp hp=>q p _ (AI.new hp _) hp (by rw[AE,Pa])⟩
theorem NY{k:Nat}:HM xs none (some ((k:Nat):Int))=xs.take k:=by
 have e:HT.Jx xs.length xs.length (some ((k:Nat):Int))=min k xs.length:=by show (if ((k:Nat):Int)<0 then (((k:Nat):Int)+(xs.length:Int)).toNat else min ((k:Nat):Int).toNat xs.length)=_;rw[qE (by lia),YM]
 unfold HM;rw[e];show (xs.drop 0).take (min k xs.length-0)=_;rw[Zt,aK]
 by_cases z:k<=xs.length
 ·rw[aL z]
 ·rw[Nat.min_eq_right (by lia),ZC,ZI (by lia)]
theorem OS{k:Nat}:HM xs (some ((k:Nat):Int)) none=xs.drop k:=by
 have e:HT.Jx xs.length 0 (some ((k:Nat):Int))=min k xs.length:=by show (if ((k:Nat):Int)<0 then (((k:Nat):Int)+(xs.length:Int)).toNat else min ((k:Nat):Int).toNat xs.length)=_;rw[qE (by lia),YM]
 unfold HM;rw[e];show (xs.drop (min k xs.length)).take (xs.length-min k xs.length)=_;rw[ZI (by rw[Yi];exact YL _)]
 by_cases z:k<=xs.length
 ·rw[aL z]
 ·rw[Nat.min_eq_right (by lia),List.drop_length,List.drop_of_length_le (by lia)]
theorem Pi(hij:i<=j)(hj:j<=xs.length):HM xs (some ((i:Nat):Int)) (some ((j:Nat):Int))=(xs.drop i).take (j-i):=by
 have e1:HT.Jx xs.length 0 (some ((i:Nat):Int))=i:=by show (if ((i:Nat):Int)<0 then (((i:Nat):Int)+(xs.length:Int)).toNat else min ((i:Nat):Int).toNat xs.length)=_;rw[qE (by lia),YM];lia
 have e2:HT.Jx xs.length xs.length (some ((j:Nat):Int))=j:=by show (if ((j:Nat):Int)<0 then (((j:Nat):Int)+(xs.length:Int)).toNat else min ((j:Nat):Int).toNat xs.length)=_;rw[qE (by lia),YM];lia
 unfold HM;rw[e1,e2]
theorem CZ{ns:List Int}{k:Nat}(h:k<ns.length):Kj (ns.map V.int) ((k:Nat):Int)=some (.int (ns.getD k 0)):=by refine Cp ?_;rw[YO,YI h,YH,YI h];rfl
def A5(H:Hp)(r:Addr)(g lo:Int)(b9:List Int):Prop:=∃tb,H r=some (.tup [.int g,.int lo,.ref tb])/\H tb=some (.tup (b9.map V.int))
variable{b9:List Int}
theorem A5.same{r:Addr}{g:Int}(e:AI H H')(h:A5 H r g lo b9):A5 H' r g lo b9:=by obtain⟨tb,h1,h2⟩:=h;exact⟨tb,e _ _ h1,e _ _ h2⟩
inductive DM(vs:List V)(H:Hp)(Q:VK)(z3_:XK):Prop
 |m (g n:Int):vs=[.int g,.int n]->2<=g->g<=9->(∀m:Nat,n=g^m->Q (.int ((m:Nat):Int)) H)->((∀m:Nat,n≠g^m)->Q (.int 0) H)->DM vs H Q z3_
inductive Ca(vs:List V)(H:Hp)(Q:VK)(z3_:XK):Prop
 |m (r:Addr) (g lo:Int) (b9:List Int) (m:Nat):vs=[.ref r]->2<=g->g<=9->A5 H r g lo b9->(b9.length:Int)=g^m->Q (.int ((m:Nat):Int)) H->Ca vs H Q z3_
noncomputable def EL(g:Int)(m:Nat)(xs:List V):Option Nat:=match CD g (xs.take m) with
 |some i=>some i
 |none=>if xs.length=m then none else some (min xs.length m)
theorem K3{g:Int}{m:Nat}(h:EL g m xs=none):xs.length=m/\CD g xs=none:=by
 unfold EL at h;cases e:CD g (xs.take m) with
 |some i=>rw[e]at h;cases h
 |none =>
  rw[e]at h
  by_cases z:xs.length=m
  ·refine⟨z,?_⟩;rw[<-z,ZC]at e;exact e
  ·rw[qE z]at h;cases h
theorem K4{g:Int}{ns:List Int}(h:∀n∈ns,0<=n/\n<g):EL g ns.length (ns.map V.int)=none:=by unfold EL;have e:(ns.map V.int).take ns.length=ns.map V.int:=ZI (by rw[YG];exact YL _);rw[e,HS h,YG];exact qF rfl
theorem NZ{n:Nat}(h:i<n):NJ n ((i:Nat):Int)=some i:=by unfold NJ;rw[qF (by lia),qF (by lia),YM]
theorem Hb:∀ns:List Int,PyData.depthAll (ns.map PyData.int)=0
 |[]=>by simp only[List.map_nil,PyData.depthAll]
 |n::ns=>by simp only[List.map_cons,PyData.depthAll,PyData.depth,Hb ns,Nat.max_self]
def K6(H H':Hp)(r:Addr)(ns:List Int):Prop:=AI H H'/\H r=none/\H' r=some (.lst (ns.map V.int))
inductive Hc(vs:List V)(H:Hp)(Q:VK)(z3_:XK):Prop
 |m (g m:Int):vs=[.int g,.int m]->2<=g->g<=9->1<=m->(g^m.toNat<=256->Q (.int (g^m.toNat)) H)->(256<g^m.toNat->∀r:Int,256<r->Q (.int r) H)->Hc vs H Q z3_
inductive Cq(vs:List V)(H:Hp)(Q:VK)(z3_:XK):Prop
 |m (g m:Int):vs=[.int g,.int m]->2<=g->g<=9->0<=m->m<=256->Q (.int (g^m.toNat)) H->Cq vs H Q z3_
theorem Na(g n:Int):∀i:Nat,RW.dr g n (i+1)=RW.dr g (n/g) i
 |0=>rfl
 |i+1=>by rw[RW.dr,Na g n i];rfl
theorem JV(g n:Int):∀i:Nat,RW.C7 g n (i+1)=n%g::RW.C7 g (n/g) i
 |0=>rfl
 |i+1=>by rw[RW.C7,JV g n i,Na];rfl
theorem K7{g:Int}(hg:2<=g):∀{l:List Int},(∀n∈l,0<=n/\n<g)->RW.C7 g (low g l) l.length=l
 |[],_=>rfl
 |x::r,h=>by obtain⟨h0,h1⟩:=h x Ye;rw[Y8,JV,low,Zy,Yr h0 h1,Int.add_mul_ediv_left _ _ (show g≠0 by lia),aC h0 h1,Yj,K7 hg λn hn=>h n (YZ _ hn)]
theorem Nb{g:Int}(hg:2<=g)(n:Int):∀i:Nat,∀x∈RW.C7 g n i,0<=x/\x<g
 |0,x,h=>qG h (by simp[RW.C7])
 |i+1,x,h=>by
  rw[RW.C7]at h;rcases YR.mp h with z|z
  ·exact Nb hg n i x z
  ·rw[YT.mp z];exact⟨ZU _ (by lia),ZO _ (by lia)⟩
theorem GY(g n:Int):∀i:Nat,low g (RW.C7 g n i)+g^i*RW.dr g n i=n
 |0=>by rw[RW.C7,low,RW.dr,Yq];lia
 |i+1=>by have h:=GY g n i;have e:=Int.emod_add_mul_ediv (RW.dr g n i) g;rw[RW.C7,Ky,RW.DL,RW.dr,Ym,Int.mul_assoc,Zh (RW.dr g n i%g),bP,<-Int.mul_add,e];exact h
theorem Pj{g n:Int}(hg:2<=g)(hn:0<=n)(h:n<g^i):low g (RW.C7 g n i)=n:=by have e:=GY g n i;rw[RW.NW hg hn h,bU,Zc]at e;exact e
theorem AI.into{p:Addr}(e:AI H H1)(hp:H p=none):AI H (Ac H1 p o):=λb u q=>by rw[AN (BI q hp)];exact e b u q
theorem KE(g:Int):∀(n:Int) (l:List Int),MI g n l=n*g^l.length+Av g l
 |n,[]=>by show n=n*g^0+0;rw[Yq];lia
 |n,x::r=>by show MI g (n*g+x) r=n*g^(r.length+1)+MI g (0*g+x) r;rw[KE g (n*g+x) r,KE g (0*g+x) r,ZY,Yj,Int.add_mul,Ym,Int.mul_assoc,Zh g,bP]
theorem Bj(g:Int)(a b:List Int):Av g (a++b)=Av g a*g^b.length+Av g b:=by show (a++b).foldl (λm x=>m*g+x) 0=_;rw[List.foldl_append];exact KE g (MI g 0 a) b
theorem Gq{ns:List Int}{k m:Nat}(h:k+m<=ns.length):((ns.drop k).take m).length=m:=by rw[Ys,Yi];lia
theorem B7{g:Int}(hg:2<=g)(hb:∀n∈b9,0<=n/\n<g)(k:Nat):0<=b9.getD k 0/\b9.getD k 0<g:=by
 rw[YH];cases e:b9[k]? with
 |none=>exact⟨Zp _,by show (0:Int)<g;lia⟩
 |some v=>exact hb v (YW e)
noncomputable def K8(g:Int)(b9:List Int)(m:Nat)(ns:List Int)(k:Nat):Int:=b9.getD (Av g ((ns.drop k).take m)).toNat 0
noncomputable def Ap(g:Int)(b9:List Int)(m:Nat)(ns:List Int):List Int:=(List.range (ns.length+1-m)).map (K8 g b9 m ns)
theorem BH(g:Int)(b9:List Int)(m:Nat)(ns:List Int):(Ap g b9 m ns).length=ns.length+1-m:=by unfold Ap;rw[List.length_map,List.length_range]
theorem FY{g:Int}(hg:2<=g)(hb:∀n∈b9,0<=n/\n<g)(m:Nat)(ns:List Int):∀n∈Ap g b9 m ns,0<=n/\n<g:=λn hn=>by unfold Ap at hn;obtain⟨k,_,rfl⟩:=Yd.mp hn;exact B7 hg hb _
theorem BS(f:Nat->α)(i:Nat):(List.range (i+1)).map f=(List.range i).map f++[f i]:=by rw[Y4,YV];rfl
theorem MQ{g:Int}(hg:2<=g){ns:List Int}(hb:∀n∈ns,0<=n/\n<g){m:Nat}(hl:(b9.length:Int)=g^m){k:Nat}(h:k+m<=ns.length):0<=Av g ((ns.drop k).take m)/\(Av g ((ns.drop k).take m)).toNat<b9.length:=by
 have b:=BN hg (ns:=(ns.drop k).take m) λn hn=>hb n (Y0 (ZB hn))
 rw[Gq h]at b;exact⟨b.1,by lia⟩
variable{z:Int}
theorem BJ{ns:List Int}(h0:0<=z)(h:z.toNat<ns.length):Kj (ns.map V.int) z=some (.int (ns.getD z.toNat 0)):=by have e:=CZ (ns:=ns) h;rw[show ((z.toNat:Nat):Int)=z by lia]at e;exact e
noncomputable def Af(g n:Int)(m:Nat):List Int:=(RW.C7 g n m).reverse
theorem A1(g n:Int)(m:Nat):(Af g n m).length=m:=by unfold Af;rw[List.length_reverse,RW.DL]
theorem Bd{g:Int}(hg:2<=g)(n:Int)(m:Nat):∀x∈Af g n m,0<=x/\x<g:=λx hx=>Nb hg n m x (List.mem_reverse.mp hx)
theorem Dg{g n:Int}(hg:2<=g)(h0:0<=n){m:Nat}(h:n<g^m):Av g (Af g n m)=n:=by unfold Af;rw[KB,Pj hg h0 h]
theorem Dh{g:Int}(hg:2<=g){ws:List Int}(hb:∀x∈ws,0<=x/\x<g):Af g (Av g ws) ws.length=ws:=by
 unfold Af;have e:=K7 hg (l:=ws.reverse) λn hn=>hb n (List.mem_reverse.mp hn)
 rw[Zv]at e;rw[NT,e,List.reverse_reverse]
theorem Aj{f:Nat->Int}{n k:Nat}(h:k<n):((List.range n).map f).getD k 0=f k:=by rw[YH,YO,ak h];rfl
theorem Aq{a b:List Int}(hl:a.length=b.length)(h:∀k,k<a.length->a.getD k 0=b.getD k 0):a=b:=by apply List.ext_getElem hl;intro i h1 h2;have:=h i h1;rw[YH,YH,YI h1,YI h2]at this;exact this
inductive Eh(vs:List V)(H:Hp)(Q:VK)(z3_:XK):Prop
 |m (n g m:Int):vs=[.int n,.int g,.int m]->2<=g->g<=9->0<=m->m<=100->(∀p H',K6 H H' p (Af g n m.toNat)->Q (.ref p) H')->Eh vs H Q z3_
noncomputable def BL(g:Int)(b9:List Int)(w:Int):Bool:=(List.range b9.length).any λk:Nat=>!decide (b9.getD k 0=b9.getD ((k:Int)-(k:Int)/w%g*w).toNat 0)
noncomputable def Be(g lo:Int)(b9:List Int)(m:Nat):List Int:=((List.range m).filter λj=>BL g b9 (g^(m-1-j))).map λj:Nat=>lo+(j:Int)
inductive Hd(vs:List V)(H:Hp)(Q:VK)(z3_:XK):Prop
 |m (r:Addr) (g lo:Int) (b9:List Int) (w:Int):vs=[.ref r,.int w]->2<=g->g<=9->A5 H r g lo b9->0<w->w<=1000->b9.length<=256->(∀H',AI H H'->Q (.bl (BL g b9 w)) H')->Hd vs H Q z3_
inductive Dr(vs:List V)(H:Hp)(Q:VK)(z3_:XK):Prop
 |m (r:Addr) (g lo:Int) (b9:List Int) (m:Nat):vs=[.ref r]->2<=g->g<=9->A5 H r g lo b9->(b9.length:Int)=g^m->1<=m->m<=8->g^m<=256->(∀p H',K6 H H' p (Be g lo b9 m)->Q (.ref p) H')->Dr vs H Q z3_
theorem Pk{k w g:Int}(hk:0<=k)(hw:0<w)(hg:2<=g):0<=k-k/w%g*w/\k-k/w%g*w<=k:=by
 have h1:=ZU (k/w) (show g≠0 by lia);have h2:=Int.ediv_nonneg hk (ZX hw)
 have h3:k/w%g<=k/w:=by
  by_cases z:k/w<g
  ·rw[Yr h2 z];lia
  ·have:=ZO (k/w) (show 0<g by lia);lia
 have h4:=Int.mul_le_mul_of_nonneg_right h3 (ZX hw);have h5:=bC h1 (ZX hw);have h6:=Int.ediv_mul_le k (show w≠0 by lia);exact⟨by lia,by lia⟩
end L2
namespace L2
variable{i j:Nat}{lo z:Int}{b9:List Int}
theorem KH(g x:Int):Av g [x]=x:=by show 0*g+x=x;rw[ZY,Yj]
theorem F7(g:Int)(a:List Int)(x:Int)(b:List Int):Av g (a++x::b)=(Av g a*g+x)*g^b.length+Av g b:=by rw[show a++x::b=(a++[x])++b by rw[Yu];rfl,Bj,C5]
theorem OT{g:Int}(hg:2<=g){a b:List Int}{x:Int}(hb:∀n∈b,0<=n/\n<g)(hx:0<=x/\x<g):Av g (a++x::b)/g^b.length%g=x:=by have b1:=BN hg hb;have gp:=RW.Ab hg b.length;rw[F7,ao,Zh,Int.add_mul_ediv_left _ _ (by lia),aC b1.1 b1.2,Yj,ao,Zh,Zy,Yr hx.1 hx.2]
theorem K9{w:List Int}(h:j<w.length):w=w.take j++w.getD j 0::w.drop (j+1):=by rw[YH,YI h];show w=w.take j++w[j]::w.drop (j+1);rw[<-ZG h,Y6]
theorem OU{w:List Int}(h:j<w.length)(v:Int):w.set j v=w.take j++v::w.drop (j+1):=List.set_eq_take_append_cons_drop▸qF h
theorem Ds{g:Int}(hg:2<=g){w:List Int}(hb:∀n∈w,0<=n/\n<g)(h:j<w.length):Av g w/g^(w.length-1-j)%g=w.getD j 0:=by
 have hl:(w.drop (j+1)).length=w.length-1-j:=by rw[Yi];lia
 have e:=OT hg (a:=w.take j) (b:=w.drop (j+1)) (x:=w.getD j 0) (λn hn=>hb n (Y0 hn)) (B7 hg hb j);rw[<-K9 h,hl]at e;exact e
theorem He{g:Int}(hg:2<=g){w:List Int}(hb:∀n∈w,0<=n/\n<g)(h:j<w.length):Av g w-Av g w/g^(w.length-1-j)%g*g^(w.length-1-j)=Av g (w.set j 0):=by
 rw[Ds hg hb h,OU h];have hl:(w.drop (j+1)).length=w.length-1-j:=by rw[Yi];lia
 have e:=F7 g (w.take j) (w.getD j 0) (w.drop (j+1));rw[<-K9 h]at e;rw[e,F7,hl,Int.add_mul,Zc];lia
theorem MR{g:Int}{w:Int}(h:BL g b9 w=false){k:Nat}(hk:k<b9.length):b9.getD k 0=b9.getD ((k:Int)-(k:Int)/w%g*w).toNat 0:=by unfold BL at h;rw[List.any_eq_false]at h;have:=h k (Yc.mpr hk);simpa using this
theorem MS{g:Int}(hg:2<=g){m:Nat}(hl:(b9.length:Int)=g^m){w:List Int}(hb:∀n∈w,0<=n/\n<g)(hw:w.length=m)(hj:j<m)(hc:BL g b9 (g^(m-1-j))=false):b9.getD (Av g w).toNat 0=b9.getD (Av g (w.set j 0)).toNat 0:=by have b:=BN hg hb;rw[hw]at b;have e:=MR hc (k:=(Av g w).toNat) (by lia);have n0:=He hg hb (j:=j) (by lia);rw[hw]at n0;rw[show (((Av g w).toNat:Nat):Int)=Av g w by lia,n0]at e;exact e
noncomputable def zk(keep:Nat->Bool)(w:List Int)(k:Nat):List Int:=(List.range w.length).map λj=>if j<k/\keep j=false then 0 else w.getD j 0
theorem CO(keep:Nat->Bool)(w:List Int)(k:Nat):(zk keep w k).length=w.length:=by unfold zk;rw[List.length_map,List.length_range]
theorem E6(keep:Nat->Bool)(w:List Int)(k:Nat)(h:j<w.length):(zk keep w k).getD j 0=if j<k/\keep j=false then 0 else w.getD j 0:=by unfold zk;exact Aj h
theorem Rc(keep:Nat->Bool)(w:List Int):zk keep w 0=w:=by refine Aq (CO keep w 0) λj hj=>?_;rw[CO]at hj;rw[E6 keep w 0 hj,qE (by lia)]
theorem Vq{g:Int}(hg:2<=g){keep:Nat->Bool}{w:List Int}(hb:∀n∈w,0<=n/\n<g)(k:Nat):∀n∈zk keep w k,0<=n/\n<g:=λn hn=>by
 unfold zk at hn;obtain⟨j,_,e⟩:=Yd.mp hn;subst e;split
 ·exact⟨Zp _,by lia⟩
 ·exact B7 hg hb _
theorem Hf{w:List Int}{v:Int}(h:i<w.length):(w.set i v).getD j 0=if i=j then v else w.getD j 0:=by
 rw[YH,List.getElem?_set]
 by_cases e:i=j
 ·rw[qF e,qF e];subst e;rw[qF h];rfl
 ·rw[qE e,qE e,YH]
theorem Re(keep:Nat->Bool)(w:List Int){k:Nat}(hk:k<w.length):zk keep w (k+1)=if keep k=false then (zk keep w k).set k 0 else zk keep w k:=by
 by_cases e:keep k=false
 ·rw[qF e];refine Aq (by rw[ZS,CO,CO]) λj hj=>?_;rw[CO]at hj;rw[E6 keep w _ hj,Hf (by rw[CO];exact hk),E6 keep w _ hj]
  by_cases z:k=j
  ·subst z;rw[qF ⟨by lia,e⟩,qF rfl]
  ·rw[qE z]
   by_cases y:j<k/\keep j=false
   ·rw[qF y,qF ⟨by lia,y.2⟩]
   ·rw[qE y,qE (λx=>y ⟨by lia,x.2⟩)]
 ·rw[qE e];refine Aq (by rw[CO,CO]) λj hj=>?_;rw[CO]at hj;rw[E6 keep w _ hj,E6 keep w _ hj]
  by_cases y:j<k/\keep j=false
  ·rw[qF y,qF ⟨by lia,y.2⟩]
  ·rw[qE y,qE (λx=>y ⟨aD (by lia) (λz=>e (z▸x.2)),x.2⟩)]
theorem Gr{g:Int}(hg:2<=g){m:Nat}(hl:(b9.length:Int)=g^m){keep:Nat->Bool}(hc:∀j,j<m->keep j=false->BL g b9 (g^(m-1-j))=false){w:List Int}(hb:∀n∈w,0<=n/\n<g)(hw:w.length=m):∀k,k<=m->b9.getD (Av g (zk keep w k)).toNat 0=b9.getD (Av g w).toNat 0
 |0,_=>by rw[Rc]
 |k+1,h=>by
  rw[Re keep w (by lia)]
  by_cases e:keep k=false
  ·rw[qF e,<-MS hg hl (Vq hg hb k) (by rw[CO,hw]) (by lia) (hc k (by lia) e)];exact Gr hg hl hc hb hw k (by lia)
  ·rw[qE e];exact Gr hg hl hc hb hw k (by lia)
theorem MT{g:Int}(hg:2<=g){m:Nat}(hl:(b9.length:Int)=g^m){v w:List Int}(hv:∀n∈v,0<=n/\n<g)(hw:∀n∈w,0<=n/\n<g)(lv:v.length=m)(lw:w.length=m)
  (h:∀j,j<m->BL g b9 (g^(m-1-j))=true->v.getD j 0=w.getD j 0):b9.getD (Av g v).toNat 0=b9.getD (Av g w).toNat 0:=by
 have key:∀j,j<m->(λj=>BL g b9 (g^(m-1-j))) j=false->BL g b9 (g^(m-1-j))=false:=λj _ e=>e
 rw[<-Gr hg hl key hv lv m (YL _),<-Gr hg hl key hw lw m (YL _)]
 congr 3
 refine Aq (by rw[CO,CO,lv,lw]) λj hj=>?_;rw[CO,lv]at hj;rw[E6 _ _ _ (by lia),E6 _ _ _ (by lia)]
 by_cases e:j<m/\BL g b9 (g^(m-1-j))=false
 ·rw[qF e,qF e]
 ·rw[qE e,qE e];refine h j hj ?_;cases z:BL g b9 (g^(m-1-j)) with
  |true=>rfl
  |false=>exact qG ⟨hj,z⟩ e
noncomputable def sn(v:List Int)(z:Int):Int:=if z<0\/(v.length:Int)<=z then 0 else v.getD z.toNat 0
theorem Sw{g:Int}(hg:2<=g){v:List Int}(hb:∀n∈v,0<=n/\n<g)(z:Int):0<=sn v z/\sn v z<g:=by
 unfold sn;split
 ·exact⟨Zp _,by lia⟩
 ·exact B7 hg hb _
theorem DX{v:List Int}(h:j<v.length):sn v ((j:Nat):Int)=v.getD j 0:=by unfold sn;rw[qE (by lia),YM]
noncomputable def Gs(v:List Int)(d:Int)(m:Nat):List Int:=(List.range m).map λj:Nat=>sn v (d+(j:Int))
theorem Cr(v:List Int)(d:Int)(m:Nat):(Gs v d m).length=m:=by unfold Gs;rw[List.length_map,List.length_range]
theorem MU{g:Int}(hg:2<=g){v:List Int}(hb:∀n∈v,0<=n/\n<g)(d:Int)(m:Nat):∀n∈Gs v d m,0<=n/\n<g:=λn hn=>by unfold Gs at hn;obtain⟨j,_,e⟩:=Yd.mp hn;subst e;exact Sw hg hb _
theorem Gu(v:List Int)(d:Int){m:Nat}(h:j<m):(Gs v d m).getD j 0=sn v (d+(j:Int)):=by unfold Gs;exact Aj h
theorem LA(v:List Int):Gs v 0 v.length=v:=by refine Aq (Cr _ _ _) λj hj=>?_;rw[Cr]at hj;rw[Gu v 0 hj,Yj,DX hj]
noncomputable def EM(g lo:Int)(b9:List Int)(m:Nat)(low:Int)(M:Nat):List Int:=(List.range (g^M).toNat).map λn:Nat=>b9.getD (Av g (Gs (Af g (n:Int) M) (lo-low) m)).toNat 0
theorem BO{g:Int}(hg:2<=g)(lo:Int)(b9:List Int)(m:Nat)(low:Int)(M:Nat):((EM g lo b9 m low M).length:Int)=g^M:=by unfold EM;rw[YG,Yo,YY (ZX (RW.Ab hg M))]
theorem Hg{g:Int}(hg:2<=g)(lo:Int)(hb:∀n∈b9,0<=n/\n<g)(m:Nat)(low:Int)(M:Nat):∀n∈EM g lo b9 m low M,0<=n/\n<g:=λn hn=>by unfold EM at hn;obtain⟨j,_,e⟩:=Yd.mp hn;subst e;exact B7 hg hb _
theorem LB{g:Int}(hg:2<=g)(lo:Int)(b9:List Int)(m:Nat)(low:Int){v:List Int}(hb:∀n∈v,0<=n/\n<g):(EM g lo b9 m low v.length).getD (Av g v).toNat 0=b9.getD (Av g (Gs v (lo-low) m)).toNat 0:=by have b:=BN hg hb;unfold EM;rw[Aj (by lia),show (((Av g v).toNat:Nat):Int)=Av g v by lia,Dh hg hb]
theorem Nc{g:Int}(hg:2<=g){m k:Nat}(h:(k:Int)<g^m):∃w:List Int,w.length=m/\(∀n∈w,0<=n/\n<g)/\Av g w=(k:Int):=⟨Af g (k:Int) m,A1 _ _ _,Bd hg _ _,Dg hg (by lia) h⟩
theorem Pl{g:Int}(hg:2<=g){a b:List Int}{m:Nat}(la:(a.length:Int)=g^m)(lb:(b.length:Int)=g^m)(h:∀w:List Int,w.length=m->(∀n∈w,0<=n/\n<g)->a.getD (Av g w).toNat 0=b.getD (Av g w).toNat 0):a=b:=by refine Aq (by lia) λk hk=>?_;obtain⟨w,h1,h2,h3⟩:=Nc hg (m:=m) (k:=k) (by lia);have:=h w h1 h2;rw[h3,YM]at this;exact this
theorem Pm{g:Int}(hg:2<=g)(lo:Int){m:Nat}(hl:(b9.length:Int)=g^m):EM g lo b9 m lo m=b9:=by refine Pl hg (BO hg _ _ _ _ _) hl λw hw hb=>?_;subst hw;rw[LB hg lo b9 _ lo hb,Int.sub_self,LA]
theorem MV{g:Int}{m:Nat}:z∈Be g lo b9 m↔∃j:Nat,j<m/\BL g b9 (g^(m-1-j))=true/\z=lo+(j:Int):=by
 unfold Be;constructor
 ·intro h;obtain⟨j,hj,e⟩:=Yd.mp h;obtain⟨h1,h2⟩:=Yx.mp hj;exact⟨j,Yc.mp h1,h2,e.symm⟩
 ·rintro⟨j,hj,hc,rfl⟩;exact Yd.mpr ⟨j,Yx.mpr ⟨Yc.mpr hj,hc⟩,rfl⟩
theorem Di{g:Int}{w:Int}:BL g b9 w=true↔∃k:Nat,k<b9.length/\b9.getD k 0≠b9.getD ((k:Int)-(k:Int)/w%g*w).toNat 0:=by
 unfold BL;rw[List.any_eq_true];constructor
 ·rintro⟨k,hk,h⟩;exact⟨k,List.mem_range.mp hk,by simpa using h⟩
 ·rintro⟨k,hk,h⟩;exact⟨k,List.mem_range.mpr hk,by simpa using h⟩
theorem Hh{g:Int}(hg:2<=g){m:Nat}(hl:(b9.length:Int)=g^m)(hj:j<m):BL g b9 (g^(m-1-j))=true↔∃w:List Int,w.length=m/\(∀n∈w,0<=n/\n<g)/\b9.getD (Av g w).toNat 0≠b9.getD (Av g (w.set j 0)).toNat 0:=by
 rw[Di];constructor
 ·rintro⟨k,hk,h⟩;obtain⟨w,h1,h2,h3⟩:=Nc hg (m:=m) (k:=k) (by lia);refine⟨w,h1,h2,?_⟩;have n0:=He hg h2 (j:=j) (by lia);rw[h1,h3]at n0;rw[<-n0,h3,YM];exact h
 ·rintro⟨w,h1,h2,h⟩;have b:=BN hg h2;rw[h1]at b;refine⟨(Av g w).toNat,by lia,?_⟩;have n0:=He hg h2 (j:=j) (by lia);rw[h1]at n0;rw[show (((Av g w).toNat:Nat):Int)=Av g w by lia,n0];exact h
structure EN(g lo:Int)(b9:List Int)(m:Nat)(low:Int)(M:Nat):Prop where
 one:1<=M
 all:∀j,j<m->BL g b9 (g^(m-1-j))=true->low<=lo+(j:Int)/\lo+(j:Int)<low+(M:Int)
 ends:((∀j,j<m->BL g b9 (g^(m-1-j))=false)/\low=0/\M=1)\/∃j0 j1:Nat,j0<=j1/\j1<m/\low=lo+(j0:Int)/\M=j1-j0+1/\BL g b9 (g^(m-1-j0))=true/\BL g b9 (g^(m-1-j1))=true
theorem JE(p:Nat->Bool)(n:Nat):((List.range n).filter p).Pairwise (·<·):=List.Pairwise.filter p List.pairwise_lt_range
theorem MW:∀{l:List Nat},l.Pairwise (·<·)->∀x∈l,l.getD 0 0<=x
 |[],_,x,h=>qG h (by simp)
 |a::r,hp,x,h=>by
  rcases Yf.mp h with z|z
  ·rw[z];exact YL _
  ·exact ZQ ((List.pairwise_cons.mp hp).1 x z)
theorem F8:∀{l:List Nat},l.Pairwise (·<·)->∀x∈l,x<=l.getD (l.length-1) 0
 |[],_,x,h=>qG h (by simp)
 |[a],_,x,h=>by rw[YT.mp h];exact YL _
 |a::b::r,hp,x,h=>by
  have ih:=F8 (l:=b::r) (List.pairwise_cons.mp hp).2;have e:(a::b::r).getD ((a::b::r).length-1) 0=(b::r).getD ((b::r).length-1) 0:=rfl;rw[e];rcases Yf.mp h with z|z
  ·rw[z];exact Yy (ZQ ((List.pairwise_cons.mp hp).1 b Ye)) (ih b Ye)
  ·exact ih x z
theorem Hi:∀{l:List Nat} {k:Nat},k<l.length->l.getD k 0∈l:=λ{l k} h=>by rw[YH,YI h];exact ZM h
theorem GZ{f:Nat->Int}{l:List Nat}{k:Nat}(h:k<l.length):(l.map f).getD k 0=f (l.getD k 0):=by rw[YH,YO,YI h,YH,YI h];rfl
theorem LC{g:Int}{m:Nat}(h:Be g lo b9 m=[]):EN g lo b9 m 0 1:=by
 have f:∀j,j<m->BL g b9 (g^(m-1-j))=false:=λj hj=>by
  cases z:BL g b9 (g^(m-1-j)) with
  |false=>rfl
  |true=>exact qG (MV.mpr ⟨j,hj,z,rfl⟩) (by rw[h];simp)
 exact⟨YL _,λj hj hc=>qG hc (by rw[f j hj];decide),.inl ⟨f,rfl,rfl⟩⟩
theorem JW{g:Int}{m:Nat}(h:Be g lo b9 m≠[]):∃M:Nat,(M:Int)=(Be g lo b9 m).getD ((Be g lo b9 m).length-1) 0-(Be g lo b9 m).getD 0 0+1/\M<=m/\EN g lo b9 m ((Be g lo b9 m).getD 0 0) M:=by
 unfold Be at h⊢;generalize hl:((List.range m).filter λj=>BL g b9 (g^(m-1-j)))=l at h⊢
 have hne:0<l.length:=by
  cases l with
  |nil=>exact qG rfl h
  |cons a r=>simp
 have hm:∀j,j∈l↔j<m/\BL g b9 (g^(m-1-j))=true:=λj=>by rw[<-hl,Yx,Yc]
 have hp:l.Pairwise (·<·):=by rw[<-hl];exact JE _ _
 rw[YG,GZ (show l.length-1<l.length by lia),GZ hne];have m0:=(hm _).mp (Hi hne);have m1:=(hm _).mp (Hi (show l.length-1<l.length by lia));have le:=F8 hp _ (Hi hne);refine⟨l.getD (l.length-1) 0-l.getD 0 0+1,by lia,by lia,⟨by lia,λj hj hc=>?_,.inr ⟨l.getD 0 0,l.getD (l.length-1) 0,le,m1.1,rfl,rfl,m0.2,m1.2⟩⟩⟩;have a1:=MW hp j ((hm j).mpr ⟨hj,hc⟩);have a2:=F8 hp j ((hm j).mpr ⟨hj,hc⟩);lia
theorem Hj{w:List Int}{M:Nat}(h:j+M<=w.length):Gs w (j:Int) M=(w.drop j).take M:=by refine Aq (by rw[Cr,Ys,Yi];lia) λk hk=>?_;rw[Cr]at hk;rw[Gu _ _ hk,show (j:Int)+(k:Int)=((j+k:Nat):Int) by lia,DX (by lia),YH,YH,List.getElem?_take,qF hk,List.getElem?_drop]
end L2
namespace L2
variable{j:Nat}{b9:List Int}
noncomputable def Ag(n:Nat)(f:Nat->Int):Int:=((List.range n).map f).sum
theorem Bf(f:Nat->Int):Ag 0 f=0:=rfl
theorem Ao(n:Nat)(f:Nat->Int):Ag (n+1) f=Ag n f+f n:=by unfold Ag;rw[Y4,YV,bQ];show _+([f n]:List Int).sum=_;rw[List.sum_cons,List.sum_nil,Zc]
theorem Ar{n:Nat}{f g:Nat->Int}(h:∀k,k<n->f k=g k):Ag n f=Ag n g:=by unfold Ag;rw[Yg λk hk=>h k (Yc.mp hk)]
theorem Hk(n:Nat)(f g:Nat->Int):Ag n (λk=>f k+g k)=Ag n f+Ag n g:=by
 induction n with
 |zero=>rfl
 |succ n ih=>rw[Ao,Ao,Ao,ih];lia
theorem FZ(n:Nat)(f:Nat->Int)(c:Int):Ag n (λk=>f k*c)=Ag n f*c:=by
 induction n with
 |zero=>rw[Bf,Bf,ZY]
 |succ n ih=>rw[Ao,Ao,ih,Int.add_mul]
theorem BE(n:Nat)(c:Int):Ag n (λ_=>c)=(n:Int)*c:=by
 induction n with
 |zero=>rw[Bf];simp
 |succ n ih=>rw[Ao,ih,Int.natCast_add,Int.add_mul];simp
theorem DN{n:Nat}{f:Nat->Int}(h:∀k,k<n->0<=f k):0<=Ag n f:=by
 induction n with
 |zero=>exact Zp _
 |succ n ih =>
  rw[Ao];have h1:=ih λk hk=>h k (Zk hk)
  have h2:=h n (Zz n);lia
theorem KI{n:Nat}{f:Nat->Int}(h:∀k,k<n->0<=f k)(hj:j<n):f j<=Ag n f:=by
 induction n with
 |zero=>exact qG hj (aN _)
 |succ n ih =>
  rw[Ao]
  by_cases e:j=n
  ·subst e;have h1:=DN (n:=j) (f:=f) λk hk=>h k (Zk hk)
   lia
  ·have h1:=ih (λk hk=>h k (Zk hk)) (by lia);have h2:=h n (Zz n);lia
theorem Cw(a b:Nat)(f:Nat->Nat->Int):Ag a (λi=>Ag b (λj=>f i j))=Ag b (λj=>Ag a (λi=>f i j)):=by
 induction a with
 |zero =>
  rw[Bf];have:Ag b (λ_=>(0:Int))=0:=by rw[BE,bU]
  exact this.symm
 |succ a ih =>
  rw[Ao,ih,<-Hk];exact Ar λj _=>(Ao a _).symm
theorem MX(a b:Nat)(f:Nat->Int):Ag (a+b) f=Ag a f+Ag b (λk=>f (a+k)):=by
 induction b with
 |zero=>rw[Bf,Zc];rfl
 |succ b ih=>rw[<-Z7,Ao,Ao,ih,bP]
theorem JX(a b:Nat)(f:Nat->Int):Ag (a*b) f=Ag a (λi=>Ag b (λj=>f (i*b+j))):=by
 induction a with
 |zero=>rw[Nat.zero_mul];rfl
 |succ a ih=>rw[Nat.succ_mul,MX,Ao,ih]
noncomputable def DD(p:Bool)(x:Int):Int:=if p then x else 0
theorem Hl{p:Bool}{x:Int}(h:0<=x):0<=DD p x:=by unfold DD;split<;>lia
theorem Hm(n j:Nat)(hj:j<n)(x:Int):Ag n (λk=>DD (decide (k=j)) x)=x:=by
 induction n with
 |zero=>exact qG hj (aN _)
 |succ n ih =>
  rw[Ao]
  by_cases e:j=n
  ·subst e;have z:Ag j (λk=>DD (decide (k=j)) x)=0:=by rw[Ar (g:=λ_=>0) λk hk=>by unfold DD;rw[qI (by lia)];rfl,BE,Int.mul_zero]
   rw[z];unfold DD;rw[qH rfl];simp
  ·rw[ih (by lia)];unfold DD;rw[qI (by lia)];simp
noncomputable def DE(G:Nat)(b9:List Int):List Int->Nat->Int
 |[],_=>1
 |s::r,h=>Ag G λj=>DD (decide (b9.getD (h*G+j) 0=s)) (DE G b9 r ((h*G+j)%(b9.length/G)))
theorem C8(G:Nat)(b9:List Int):∀(r:List Int) (h:Nat),0<=DE G b9 r h
 |[],_=>by show (0:Int)<=1;decide
 |s::r,h=>DN λj _=>Hl (C8 G b9 r _)
noncomputable def B2(G:Nat)(b9:List Int)(r:List Int):Int:=Ag (b9.length/G) (DE G b9 r)
theorem Ho(G:Nat)(b9 r:List Int):0<=B2 G b9 r:=DN λh _=>C8 G b9 r h
variable{G:Nat}
theorem JY{v:Int}(h0:0<=v)(h1:v<(G:Int))(x:Int):Ag G (λs=>DD (decide (v=(s:Int))) x)=x:=by
 refine Eq.trans (Ar λs _=>?_) (Hm G v.toNat (by lia) x);unfold DD
 by_cases e:s=v.toNat
 ·rw[qH (show v=(s:Int) by lia),qH e]
 ·rw[qI (show ¬v=(s:Int) by lia),qI e]
theorem Hq(hG:2<=G)(hb:∀n∈b9,0<=n/\n<(G:Int)):∀(r:List Int) (h:Nat),Ag G (λs=>DE G b9 (r++[(s:Int)]) h)=DE G b9 r h*(G:Int)
 |[],h=>by
  show Ag G (λs=>Ag G λj=>DD (decide (b9.getD (h*G+j) 0=(s:Int))) 1)=1*(G:Int);rw[Cw]
  have:Ag G (λj=>Ag G (λs=>DD (decide (b9.getD (h*G+j) 0=(s:Int))) 1))=Ag G (λ_=>1):=Ar λj _=>by have b:0<=b9.getD (h*G+j) 0/\b9.getD (h*G+j) 0<(G:Int):=B7 (by lia) hb _;exact JY b.1 b.2 1
  rw[this,BE,ZW,aI]
 |a::r,h=>by
  show Ag G (λs=>Ag G λj=>DD (decide (b9.getD (h*G+j) 0=a)) (DE G b9 (r++[(s:Int)]) ((h*G+j)%(b9.length/G))))=(Ag G λj=>DD (decide (b9.getD (h*G+j) 0=a)) (DE G b9 r ((h*G+j)%(b9.length/G))))*(G:Int);rw[Cw,<-FZ];refine Ar λj _=>?_;unfold DD;cases decide (b9.getD (h*G+j) 0=a) with
  |true=>exact Hq hG hb r _
  |false =>
   show Ag G (λ_=>(0:Int))=0*(G:Int);rw[BE,bU,ZY]
theorem Hr(hG:2<=G)(hb:∀n∈b9,0<=n/\n<(G:Int))(r:List Int):Ag G (λs=>B2 G b9 (r++[(s:Int)]))=B2 G b9 r*(G:Int):=by unfold B2;rw[Cw,<-FZ];exact Ar λh _=>Hq hG hb r h
theorem Fa{g:Int}{m:Nat}{ns:List Int}(h:ns.length<m):Ap g b9 m ns=[]:=by unfold Ap;rw[show ns.length+1-m=0 by lia];rfl
theorem JZ{g:Int}{m:Nat}{y:Int}{ns:List Int}(h:m<=ns.length+1):Ap g b9 m (y::ns)=K8 g b9 m (y::ns) 0::Ap g b9 m ns:=by unfold Ap;rw[Y8,show ns.length+1+1-m=(ns.length+1-m)+1 by lia,List.range_succ_eq_map,ZV,Zd];rfl
theorem Az{g:Int}(hg:2<=g){m:Nat}(hl:(b9.length:Int)=g^m)(hm:1<=m):((b9.length/g.toNat:Nat):Int)=g^(m-1)/\b9.length=b9.length/g.toNat*g.toNat:=by
 obtain⟨k,rfl⟩:∃k,m=k+1:=⟨m-1,by lia⟩
 have e:b9.length=(g^k).toNat*g.toNat:=by have p:=RW.Ab hg k;rw[Ym]at hl;apply Int.ofNat.inj;show (b9.length:Int)=(((g^k).toNat*g.toNat:Nat):Int);rw[hl,ZE,YY (ZX p),YY (by lia)]
 have q:b9.length/g.toNat=(g^k).toNat:=by rw[e];exact av _ (by lia)
 rw[q,Z1];exact⟨YY (ZX (RW.Ab hg k)),e⟩
theorem LD{g:Int}(hg:2<=g){m:Nat}(hl:(b9.length:Int)=g^m)(hm:1<=m):∀(rest w:List Int),w.length=m-1->(∀n∈w++rest,0<=n/\n<g)->1<=DE g.toNat b9 (Ap g b9 m (w++rest)) (Av g w).toNat
 |[],w,hw,_=>by rw[Yt,Fa (by lia)];exact Zp _
 |x::r,w,hw,hb=>by
  have hx:=hb x (YR.mpr (.inr Ye))
  obtain⟨y,w',e⟩:∃y w',w++[x]=y::w':=by
   cases w with
   |nil=>exact⟨x,[],rfl⟩
   |cons a t=>exact⟨a,t++[x],rfl⟩
  have e2:w++x::r=y::(w'++r):=by rw[<-Z8,<-e,Yu];rfl
  have hw':w'.length=m-1:=by have:=congrArg List.length e;rw[YN,Y8]at this;simp only[List.length_cons,List.length_nil]at this;lia
  have hbw:∀n∈w,0<=n/\n<g:=λn hn=>hb n (YR.mpr (.inl hn))
  have hbw':∀n∈w',0<=n/\n<g:=λn hn=>hb n (by rw[e2];exact YZ _ (YR.mpr (.inl hn)))
  have ih:=LD hg hl hm r w' hw' λn hn=>hb n (by rw[e2];exact YZ _ hn)
  have hd:=Az hg hl hm;have b1:=BN hg hbw;have b2:=BN hg hbw';rw[hw']at b2;rw[e2,JZ (by rw[YN];lia)]
  have hwin:K8 g b9 m (y::(w'++r)) 0=b9.getD ((Av g w).toNat*g.toNat+x.toNat) 0:=by
   unfold K8
   have t1:(List.drop 0 (y::(w'++r))).take m=w++[x]:=by rw[List.drop_zero,<-List.cons_append,<-e,List.take_append_of_le_length (by simp only[List.length_append,List.length_cons,List.length_nil];lia),List.take_of_length_le (by simp only[List.length_append,List.length_cons,List.length_nil];lia)]
   rw[t1,Bj]
   congr 1
   show (Av g w*g^1+Av g [x]).toNat=_;have nx:Av g [x]=x:=by show 0*g+x=x;rw[ZY,Yj]
   rw[nx,Ym,Yq,ZW,Int.toNat_add (bC b1.1 (by lia)) hx.1,Int.toNat_mul b1.1 (by lia)]
  have hmod:((Av g w).toNat*g.toNat+x.toNat)%(b9.length/g.toNat)=(Av g w').toNat:=by
   have z:Av g w*g+x=Av g w'+y*g^(m-1):=by
    have q:=congrArg (Av g) e;rw[Bj,show y::w'=[y]++w' from rfl,Bj,hw']at q;have nx:Av g [x]=x:=by show 0*g+x=x;rw[ZY,Yj]
    have ny:Av g [y]=y:=by show 0*g+y=y;rw[ZY,Yj]
    rw[nx,ny]at q;have g1:g^([x]:List Int).length=g:=by show g^1=g;rw[Ym,Yq,ZW]
    rw[g1]at q;lia
   apply Int.ofNat.inj;show (((Av g w).toNat*g.toNat+x.toNat)%(b9.length/g.toNat):Nat)=(((Av g w').toNat:Nat):Int);rw[Yk,ZF,ZE,hd.1,YY b1.1,YY (by lia),YY hx.1,YY b2.1,z,Zh y,Zy,Yr b2.1 b2.2]
  have key:=KI (n:=g.toNat) (f:=λj=>DD (decide (b9.getD ((Av g w).toNat*g.toNat+j) 0=K8 g b9 m (y::(w'++r)) 0)) (DE g.toNat b9 (Ap g b9 m (w'++r)) (((Av g w).toNat*g.toNat+j)%(b9.length/g.toNat)))) (λj _=>Hl (C8 _ _ _ _)) (j:=x.toNat) (by lia);refine bG ?_ key;show 1<=DD _ _;rw[hmod,hwin,qH rfl];exact ih
theorem Rf{g:Int}(hg:2<=g){m:Nat}(hl:(b9.length:Int)=g^m)(hm:1<=m){ns:List Int}(hb:∀n∈ns,0<=n/\n<g):1<=B2 g.toNat b9 (Ap g b9 m ns):=by
 have hd:=Az hg hl hm;have hp:=RW.Ab hg (m-1)
 by_cases h:ns.length<m
 ·rw[Fa h];show 1<=Ag (b9.length/g.toNat) (λ_=>1);rw[BE,aI,hd.1];lia
 ·have hw:(ns.take (m-1)).length=m-1:=by rw[Ys];lia
  have p:=LD hg hl hm (ns.drop (m-1)) (ns.take (m-1)) hw (by rw[Y6];exact hb);rw[Y6]at p;have b:=BN hg (ns:=ns.take (m-1)) λn hn=>hb n (ZB hn)
  rw[hw,<-hd.1]at b;exact bG p (KI (f:=DE g.toNat b9 (Ap g b9 m ns)) (λh _=>C8 _ _ _ _) (by lia))
end L2
namespace L2
open PySem
variable{G:Nat}{H H':Hp}{lo:Int}{b9:List Int}
noncomputable def CF(G:Nat)(b9:List Int)(h:Nat)(s:Int):List Nat:=((List.range G).filter λj=>decide (b9.getD (h*G+j) 0=s)).map λj=>h*G+j
theorem MY(n:Nat)(p:Nat->Bool)(f:Nat->Int):(((List.range n).filter p).map f).sum=Ag n λj=>DD (p j) (f j):=by
 induction n with
 |zero=>rfl
 |succ n ih =>
  rw[Ao,Y4,ZP,YV,bQ,ih]
  congr 1
  unfold DD;cases h:p n<;>simp[List.filter,h]
theorem Pn(G:Nat)(b9:List Int)(h:Nat)(s:Int)(f:Nat->Int):((CF G b9 h s).map f).sum=Ag G λj=>DD (decide (b9.getD (h*G+j) 0=s)) (f (h*G+j)):=by unfold CF;rw[Zd];exact MY G _ _
theorem Hs(G:Nat)(b9:List Int)(h:Nat)(s:Int)(r:List Int):((CF G b9 h s).map λn=>DE G b9 r (n%(b9.length/G))).sum=DE G b9 (s::r) h:=Pn G b9 h s _
noncomputable def EO(G:Nat)(b9 r:List Int):List Int:=(List.range (b9.length/G)).map (DE G b9 r)
theorem Ht(G:Nat)(b9 r:List Int):(EO G b9 r).length=b9.length/G:=by unfold EO;rw[List.length_map,List.length_range]
theorem LF(G:Nat)(b9 r:List Int):(EO G b9 r).sum=B2 G b9 r:=rfl
theorem Hu{r:List Int}{h:Nat}(hh:h<b9.length/G):(EO G b9 r).getD h 0=DE G b9 r h:=by unfold EO;exact Aj hh
noncomputable def Hv(ns:List Nat):List Int:=ns.map λn:Nat=>(n:Int)
structure Ah(H:Hp)(r:Addr)(g lo:Int)(b9:List Int)(m:Nat):Prop where
 v:A5 H r g lo b9
 g2:2<=g
 g9:g<=9
 m1:1<=m
 m8:m<=8
 len:(b9.length:Int)=g^m
 sz:g^m<=256
 tb:∀n∈b9,0<=n/\n<g
theorem Ah.same{r:Addr}{g:Int}{m:Nat}(e:AI H H')(h:Ah H r g lo b9 m):Ah H' r g lo b9 m:=⟨h.v.same e,h.g2,h.g9,h.m1,h.m8,h.len,h.sz,h.tb⟩
inductive DO(vs:List V)(H:Hp)(Q:VK)(z3_:XK):Prop
 |m (r:Addr) (g lo:Int) (b9:List Int) (m:Nat):vs=[.ref r]->Ah H r g lo b9 m->Q (.int ((b9.length/g.toNat:Nat):Int)) H->DO vs H Q z3_
inductive KJ(vs:List V)(H:Hp)(Q:VK)(z3_:XK):Prop
 |m (r:Addr) (g lo:Int) (b9:List Int) (m h:Nat) (s:Int):vs=[.ref r,.int ((h:Nat):Int),.int s]->Ah H r g lo b9 m->h<b9.length/g.toNat->(∀p H',K6 H H' p (Hv (CF g.toNat b9 h s))->Q (.ref p) H')->KJ vs H Q z3_
inductive Fb(vs:List V)(H:Hp)(Q:VK)(z3_:XK):Prop
 |m (r f w:Addr) (g lo:Int) (b9:List Int) (m:Nat) (fs:List Nat) (ws:List Int):vs=[.ref r,.ref f,.ref w]->Ah H r g lo b9 m->H f=some (.lst ((Hv fs).map V.int))->fs.length<=300->H w=some (.lst (ws.map V.int))->ws.length=b9.length/g.toNat->(∀p H',K6 H H' p (fs.map λn=>ws.getD (n%(b9.length/g.toNat)) 0)->Q (.ref p) H')->Fb vs H Q z3_
def Sx(H:Hp)(p:Addr)(G:Nat)(b9 row:List Int):Prop:=∃ps:List Addr,H p=some (.lst (ps.map V.ref))/\ps.length=row.length+1/\∀(k:Nat) (q:Addr),ps[k]?=some q->H q=some (.lst ((EO G b9 (row.drop k)).map V.int))
inductive MZ(K:qJ)(vs:List V)(H:Hp)(Q:VK)(z3_:XK):Prop
 |m (r a:Addr) (g lo:Int) (b9:List Int) (m:Nat) (ns:List Int):vs=[.ref r,.ref a]->Ah H r g lo b9 m->Ai K H a (ns.map V.int)->ns.length<=900->(∀p H',AI H H'->H p=none->Sx H' p g.toNat b9 ns->Q (.ref p) H')->MZ K vs H Q z3_
inductive F9(vs:List V)(H:Hp)(Q:VK)(z3_:XK):Prop
 |m (r:Addr) (g lo:Int) (b9:List Int) (m:Nat):vs=[.ref r,.int g]->Ah H r g lo b9 m->Q (.int ((m:Nat):Int)) H->F9 vs H Q z3_
theorem Ma{X:Cx}{K:qJ}(h:X.K=K):CK X (.builtin "len") (λxs H Q=>∃p ys,xs=[V.ref p]/\(Ai K H p ys\/Ad K H p ys)/\Q (.int ((ys.length:Nat):Int)) H):=h▸FR
theorem Mb{X:Cx}{K:qJ}(h:X.K=K)(hc:X.calm=true):CK X (.builtin "sum") (λxs H Q=>∃(p:Addr) (ns:List Int),xs=[.ref p]/\Ai K H p (ns.map V.int)/\Q (.int ns.sum) H):=h▸GX hc
theorem OV(ns:List Int):(PyData.tuple (ns.map PyData.int)).depth<=60:=by
 simp only[PyData.depth,Hb]
 decide
inductive Hw(K:qJ)(vs:List V)(H:Hp)(Q:VK)(z3_:XK):Prop
 |m (a:Addr) (v:List Int) (z:Int):vs=[.ref a,.int z]->Ai K H a (v.map V.int)->Q (.int (sn v z)) H->Hw K vs H Q z3_
theorem Dt{g:Int}(hg:2<=g){M:Nat}(h:g^M<=256):M<=8:=by
 apply bJ;intro z;have h1:=Bc hg (show 9<=M by lia)
 have h2:(512:Int)<=g^9:=by
  have h2:2*2<=g*g:=aY hg hg (by decide) (by lia);have h4:4*4<=(g*g)*(g*g):=aY (by lia) (by lia) (by decide) (by lia);have h8:16*16<=((g*g)*(g*g))*((g*g)*(g*g)):=aY (by lia) (by lia) (by decide) (by lia);have h9:256*2<=(((g*g)*(g*g))*((g*g)*(g*g)))*g:=aY (by lia) hg (by decide) (by lia);have e:g^9=(((g*g)*(g*g))*((g*g)*(g*g)))*g:=by simp only[Int.pow_succ,Int.pow_zero,Int.one_mul,Int.mul_assoc]
  rw[e];lia
 lia
theorem Ah.bw{r r':Addr}{g:Int}{m:Nat}(h:Ah H r g lo b9 m){low:Int}{M:Nat}(hM:1<=M)(hz:g^M<=256)(hv:A5 H' r' g low (EM g lo b9 m low M)):Ah H' r' g low (EM g lo b9 m low M) M:=
 ⟨hv,h.g2,h.g9,hM,Dt h.g2 hz,BO h.g2 _ _ _ _ _,hz,Hg h.g2 _ h.tb _ _ _⟩
inductive Gv(vs:List V)(H:Hp)(Q:VK)(z3_:XK):Prop
 |m (r:Addr) (g lo:Int) (b9:List Int) (m:Nat) (low:Int) (M:Nat):vs=[.ref r,.int low,.int ((M:Nat):Int)]->Ah H r g lo b9 m->1<=M->g^M<=256->(∀r' H',AI H H'->Ah H' r' g low (EM g lo b9 m low M) M->Q (.ref r') H')->Gv vs H Q z3_
inductive Hz(vs:List V)(H:Hp)(Q:VK)(z3_:XK):Prop
 |m (r:Addr) (g lo:Int) (b9:List Int) (m:Nat):vs=[.ref r]->Ah H r g lo b9 m->(∀(low:Int) (M:Nat),EN g lo b9 m low M->∀r' H',AI H H'->Ah H' r' g low (EM g lo b9 m low M) M->Q (.ref r') H')->Hz vs H Q z3_
def Rg(g lo:Int)(b9:List Int)(m:Nat)(low high:Int):Prop:=high<low\/∃z∈Be g lo b9 m,z<low\/high<z
inductive GA(CW CT:Addr)(vs:List V)(H:Hp)(Q:VK)(E:XK):Prop
 |m (r:Addr) (g lo:Int) (b9:List Int) (m:Nat) (low high:Int):vs=[.ref r,.int low,.int high]->Ah H r g lo b9 m->(Rg g lo b9 m low high->∀H',AI H H'->E (.ref CW) none H')->(¬Rg g lo b9 m low high->256<g^(high-low+1).toNat->∀H',AI H H'->E (.ref CT) none H')->(¬Rg g lo b9 m low high->g^(high-low+1).toNat<=256->∀r' H',AI H H'->Ah H' r' g low (EM g lo b9 m low (high-low+1).toNat) (high-low+1).toNat->Q (.ref r') H')->GA CW CT vs H Q E
theorem Ja{ns:List Int}(h:0<ns.length):Kj (ns.map V.int) (-1)=some (.int (ns.getD (ns.length-1) 0)):=by
 have e:=CZ (ns:=ns) (k:=ns.length-1) (by lia)
 have z:NJ (ns.map V.int).length (-1)=some (ns.length-1):=by
  unfold NJ;rw[YG];rw[qE (by decide),qF (by lia)]
  congr 1
  lia
 have y:NJ (ns.map V.int).length (((ns.length-1:Nat)):Int)=some (ns.length-1):=by rw[YG];exact NZ (by lia)
 unfold Kj at e⊢;rw[z];rw[y]at e;exact e
end L2
namespace L2
open PySem PySem.Spec PyProof.Rows
variable{es:List Expr}{i:Nat}{pos:Pos}{st:Stmt}{tc:TT}{te:TE}
section
variable{X:Cx}{t:TA}
theorem AU{i:Int}{j}(hr:PA X es t):PA X (.Constant (.int i) j pos::es) (FN (tC (.int i)) t):=AA AB hr (by rfl)
end
@[irreducible] def Qx (X:Cx) (st:Stmt) (t:TS):Prop:=PS X st t
@[irreducible] def Fc (X:Cx) (ss:List Stmt) (t:TS):Prop:=GS X ss t
section
variable{X:Cx}{rest ss:List Stmt}{t u:TS}
theorem Qx.of(h:PS X st t):Qx X st t:=by unfold Qx;exact h
theorem Qx.out(h:Qx X st t):PS X st t:=by unfold Qx at h;exact h
theorem Fc.of(h:GS X ss t):Fc X ss t:=by unfold Fc;exact h
theorem Fc.out(h:Fc X ss t):GS X ss t:=by unfold Fc at h;exact h
theorem Bg(h1:Qx X st t)(h2:Fc X rest u):Fc X (st::rest) (OE t u):=.of (AC h1.out h2.out)
theorem Ei(h1:Qx X st t):Fc X [st] t:=.of (AF h1.out)
end
@[irreducible] def Po (X:Cx) (e:Expr) (te:TE):Prop:=PE X e te
@[irreducible] def Qy (X:Cx) (es:List Expr) (t:TA):Prop:=PA X es t
section
variable{X:Cx}{e a b:Expr}{ta tb:TE}{t:TA}
theorem Po.of(h:PE X e te):Po X e te:=by unfold Po;exact h
theorem Po.out(h:Po X e te):PE X e te:=by unfold Po at h;exact h
theorem Qy.of(h:PA X es t):Qy X es t:=by unfold Qy;exact h
theorem Qy.out(h:Qy X es t):PA X es t:=by unfold Qy at h;exact h
theorem Fd:Qy X [] Jw:=.of AD
theorem AO{i:Int}{j}{p:Pos}(hr:Qy X es t):Qy X (.Constant (.int i) j p::es) (FN (tC (.int i)) t):=.of (AU hr.out)
theorem Fe(h:Qy X es t):Po X (.List es pos) (Tl t):=.of (BB h.out)
theorem IA{r:R2}(hr:Si X r)(ha:Po X a ta)(hb:Po X b tb)(hs:NM b):Po X (.Subscript a b pos) (VJ r ta tb):=.of (AJ hr ha.out hb.out hs)
theorem CV{x:Str}{pos':Pos}(hN:X.N.Nodup)(hi:X.N[i]?=some x)(hx:SU X.env.scope x)(he:Po X e te)(hs:swapsWith e (some (.Name x pos')) pos.line X.env=pure false)(hf:X.fn x=true\/X.env.scope.names.lookup x=some .local):
  Qx X (.Assign [.Name x pos'] e pos) (OF te (FM i)):=.of (HI hN hi hx he.out hs hf)
theorem KL{c:Expr}{a b:List Stmt}{t u:TS}(hc:PT X c tc)(ha:Fc X a t)(hb:Fc X b u):Qx X (.If c a b pos) (Td tc t u):=.of (Au hc ha.out hb.out)
theorem Gw:Fc X [] O2:=.of AV
end
end L2
namespace L2
open PySem
variable{D:Gf}{H:Hp}{j:Nat}{lo z:Int}{b9:List Int}{σ:St}
noncomputable def BU(x:Int->Int)(lo:Int)(m:Nat):List Int:=(List.range m).map λj:Nat=>x (lo+(j:Int))
theorem A6(x:Int->Int)(lo:Int)(m:Nat):(BU x lo m).length=m:=by unfold BU;rw[List.length_map,List.length_range]
theorem B3(x:Int->Int)(lo:Int){m:Nat}(h:j<m):(BU x lo m).getD j 0=x (lo+(j:Int)):=by unfold BU;exact Aj h
def GB(g:Int)(x:Int->Int):Prop:=∀z,0<=x z/\x z<g
theorem Du{g:Int}{x:Int->Int}(hx:GB g x)(lo:Int)(m:Nat):∀n∈BU x lo m,0<=n/\n<g:=λn hn=>by unfold BU at hn;obtain⟨j,_,rfl⟩:=Yd.mp hn;exact hx _
noncomputable def Cy(g lo:Int)(b9:List Int)(m:Nat)(x:Int->Int):Int:=b9.getD (Av g (BU x lo m)).toNat 0
noncomputable def Bo(w:List Int)(lo:Int):Int->Int:=λz=>sn w (z-lo)
theorem Bu{g:Int}(hg:2<=g){w:List Int}(hb:∀n∈w,0<=n/\n<g)(lo:Int):GB g (Bo w lo):=λz=>Sw hg hb _
theorem Nd(w:List Int)(low lo:Int)(m:Nat):BU (Bo w low) lo m=Gs w (lo-low) m:=by unfold BU Gs Bo;exact Yg λj _=>by rw[show lo+(j:Int)-low=lo-low+(j:Int) by lia]
theorem Cb(w:List Int)(lo:Int):BU (Bo w lo) lo w.length=w:=by rw[Nd,Int.sub_self,LA]
theorem Pp(x:Int->Int){low:Int}{m M:Nat}(h1:low<=lo)(h2:lo+(m:Int)<=low+(M:Int)):Gs (BU x low M) (lo-low) m=BU x lo m:=by
 refine Aq (by rw[Cr,A6]) λj hj=>?_;rw[Cr]at hj;rw[Gu _ _ hj,B3 _ _ hj,show lo-low+(j:Int)=((((lo-low).toNat+j:Nat):Nat):Int) by lia,DX (by rw[A6];lia),B3 _ _ (by lia)]
 congr 1
 lia
theorem Ej{g:Int}(hg:2<=g){low:Int}{m M:Nat}(hl:(b9.length:Int)=g^m)(hc:∀j,j<m->BL g b9 (g^(m-1-j))=true->low<=lo+(j:Int)/\lo+(j:Int)<low+(M:Int)){x:Int->Int}(hx:GB g x):Cy g low (EM g lo b9 m low M) M x=Cy g lo b9 m x:=by
 unfold Cy;have z:=LB hg lo b9 m low (v:=BU x low M) (Du hx low M);rw[A6]at z;rw[z];refine MT hg hl (MU hg (Du hx low M) _ _) (Du hx lo m) (Cr ..) (A6 ..) λj hj hcj=>?_;obtain⟨a,b⟩:=hc j hj hcj;rw[Gu _ _ hj,B3 _ _ hj,show lo-low+(j:Int)=(((lo+(j:Int)-low).toNat:Nat):Int) by lia,DX (by rw[A6];lia),B3 _ _ (by lia)]
 congr 1
 lia
def Pq(g:Int)(f:(Int->Int)->Int)(z:Int):Prop:=∃x,GB g x/\f x≠f λy=>if y=z then 0 else x y
theorem Xa{g:Int}(hg:2<=g){x:Int->Int}(hx:GB g x)(z:Int):GB g λy=>if y=z then 0 else x y:=λy=>by
 show 0<=(if y=z then 0 else x y)/\(if y=z then 0 else x y)<g;split
 ·lia
 ·exact hx y
theorem LG(x:Int->Int)(lo:Int){m:Nat}(hj:j<m):BU (λy=>if y=lo+(j:Int) then 0 else x y) lo m=(BU x lo m).set j 0:=by
 refine Aq (by rw[ZS,A6,A6]) λk hk=>?_;rw[A6]at hk;rw[B3 _ _ hk,Hf (by rw[A6];exact hj),B3 _ _ hk]
 by_cases e:j=k
 ·subst e;rw[qF rfl,qF rfl]
 ·rw[qE e,qE (by lia)]
theorem Ek{g:Int}(hg:2<=g){m:Nat}(hl:(b9.length:Int)=g^m)(hj:j<m):BL g b9 (g^(m-1-j))=true↔Pq g (Cy g lo b9 m) (lo+(j:Int)):=by
 rw[Hh hg hl hj];constructor
 ·rintro⟨w,wl,wb,ne⟩;subst wl;refine⟨Bo w lo,Bu hg wb lo,?_⟩;unfold Cy;rw[LG _ _ hj,Cb];exact ne
 ·rintro⟨x,hx,ne⟩;unfold Cy at ne;rw[LG _ _ hj]at ne;exact⟨_,A6 ..,Du hx lo m,ne⟩
theorem Pr{g:Int}{m:Nat}(h:Pq g (Cy g lo b9 m) z):∃j:Nat,j<m/\z=lo+(j:Int):=by
 obtain⟨x,hx,ne⟩:=h
 by_cases e:lo<=z/\z<lo+(m:Int)
 ·exact⟨(z-lo).toNat,by lia,by lia⟩
 ·exfalso;apply ne;unfold Cy
  congr 3
  unfold BU;refine Yg λj hj=>?_;have:=Yc.mp hj;show x (lo+(j:Int))=if lo+(j:Int)=z then 0 else x (lo+(j:Int));rw[qE (by lia)]
structure Mc(g:Int)(f:(Int->Int)->Int)(low:Int)(M:Nat):Prop where
 one:1<=M
 all:∀z,Pq g f z->low<=z/\z<low+(M:Int)
 ends:((∀z,¬Pq g f z)/\low=0/\M=1)\/(Pq g f low/\Pq g f (low+(M:Int)-1))
theorem EN.toF{g:Int}(hg:2<=g){m:Nat}(hl:(b9.length:Int)=g^m){low:Int}{M:Nat}(h:EN g lo b9 m low M):Mc g (Cy g lo b9 m) low M:=by
 refine⟨h.one,λz hz=>?_,?_⟩
 ·obtain⟨j,hj,rfl⟩:=Pr hz;exact h.all j hj ((Ek hg hl hj).mpr hz)
 ·rcases h.ends with⟨f,a,b⟩|⟨j0,j1,le,lt,a,b,c0,c1⟩
  ·refine .inl ⟨λz hz=>?_,a,b⟩;obtain⟨j,hj,rfl⟩:=Pr hz;rw[<-Ek hg hl hj,f j hj]at hz;cases hz
  ·have d0:=(Ek (lo:=lo) hg hl (show j0<m by lia)).mp c0;have d1:=(Ek (lo:=lo) hg hl lt).mp c1;refine .inr ⟨a▸d0,?_⟩;rw[show low+(M:Int)-1=lo+(j1:Int) by lia];exact d1
variable{low':Int}{M':Nat}
theorem Mc.uniq{g:Int}{f:(Int->Int)->Int}{low:Int}{M:Nat}(h:Mc g f low M)(h':Mc g f low' M'):low=low'/\M=M':=by
 have o:=h.one;have o':=h'.one;rcases h.ends with⟨n,a,b⟩|⟨d0,d1⟩
 ·rcases h'.ends with⟨_,a',b'⟩|⟨d0',_⟩
  ·lia
  ·exact qG d0' (n _)
 ·rcases h'.ends with⟨n',_,_⟩|⟨d0',d1'⟩
  ·exact qG d0 (n' _)
  ·have:=h.all _ d0';have:=h.all _ d1';have:=h'.all _ d0;have:=h'.all _ d1;lia
theorem El{g:Int}(hg:2<=g){f f':(Int->Int)->Int}(h:∀x,GB g x->f x=f' x)(d:Pq g f z):Pq g f' z:=by obtain⟨x,hx,ne⟩:=d;refine⟨x,hx,?_⟩;rw[<-h x hx,<-h _ (Xa hg hx z)];exact ne
theorem Mc.congr{g:Int}(hg:2<=g){f f':(Int->Int)->Int}(h:∀x,GB g x->f x=f' x){low:Int}{M:Nat}(n:Mc g f low M):Mc g f' low M:=by
 have h2:∀x,GB g x->f' x=f x:=λx hx=>(h x hx).symm
 refine⟨n.one,λz d=>n.all z (El hg h2 d),?_⟩;rcases n.ends with⟨a,b,c⟩|⟨a,b⟩
 ·exact .inl ⟨λz d=>a z (El hg h2 d),b,c⟩
 ·exact .inr ⟨El hg h a,El hg h b⟩
def Bp(g lo:Int)(b9:List Int)(m:Nat)(lo':Int)(tab':List Int)(m':Nat):Prop:=∀x,GB g x->Cy g lo b9 m x=Cy g lo' tab' m' x
theorem T3{g:Int}(hg:2<=g){a b:List Int}{m:Nat}(la:(a.length:Int)=g^m)(lb:(b.length:Int)=g^m)(h:∀x,GB g x->Cy g lo a m x=Cy g lo b m x):a=b:=by refine Pl hg la lb λw wl wb=>?_;subst wl;have z:=h (Bo w lo) (Bu hg wb lo);unfold Cy at z;rw[Cb]at z;exact z
variable{lo':Int}{tab':List Int}{m':Nat}
theorem Cs{g:Int}(hg:2<=g){m:Nat}(hl:(b9.length:Int)=g^m)(hl':(tab'.length:Int)=g^m'){low:Int}{M:Nat}(n:EN g lo b9 m low M)(n':EN g lo' tab' m' low' M'):
  Bp g lo b9 m lo' tab' m'↔low=low'/\EM g lo b9 m low M=EM g lo' tab' m' low' M':=by
 constructor
 ·intro h;obtain⟨e1,e2⟩:=((n.toF hg hl).congr hg h).uniq (n'.toF hg hl');subst e1 e2;refine⟨rfl,T3 hg (lo:=low) (BO hg ..) (BO hg ..) λx hx=>?_⟩;rw[Ej hg hl n.all hx,Ej hg hl' n'.all hx];exact h x hx
 ·rintro⟨rfl,e⟩ x hx;have hM:M=M':=by have a:=BO hg lo b9 m low M;have b:=BO hg lo' tab' m' low M';rw[e,b]at a;exact Dq hg a.symm
  subst hM;rw[<-Ej hg hl n.all hx,<-Ej hg hl' n'.all hx,e]
theorem IB{g:Int}(hg:2<=g){low:Int}{m M:Nat}(hl:(b9.length:Int)=g^m)(h1:low<=lo)(h2:lo+(m:Int)<=low+(M:Int)){x:Int->Int}(hx:GB g x):Cy g low (EM g lo b9 m low M) M x=Cy g lo b9 m x:=
 Ej hg hl (λj hj _=>by lia) hx
theorem Bp.symm{g:Int}{m:Nat}(h:Bp g lo b9 m lo' tab' m'):Bp g lo' tab' m' lo b9 m:=λx hx=>(h x hx).symm
theorem As{t u:TS}(h:∀N:St->Hp->Prop,(∀σ' H',u D σ' H'->N σ' H')->t {D with nx:=N} σ H):OE t u D σ H:=h (u D) λ_ _ z=>z
inductive Md(K:qJ)(vs:List V)(H:Hp)(Q:VK)(z3_:XK):Prop
 |m (r a:Addr) (g lo:Int) (b9:List Int) (m:Nat) (low:Int) (ws:List Int):vs=[.ref r,.int ((m:Nat):Int),.int low,.ref a]->Ah H r g lo b9 m->Ai K H a (ws.map V.int)->(∀n∈ws,0<=n/\n<g)->low<=lo->lo+(m:Int)<=low+(ws.length:Int)->Q (.int (b9.getD (Av g (Gs ws (lo-low) m)).toNat 0)) H->Md K vs H Q z3_
end L2
namespace L2
open PySem PySem.Spec PyProof.Rows
variable{E Q:Value->Shared->Prop}{H:Hp}{T:String}{a:Addr}{h':Heap}{ad:List (Addr×Obj)}{pos:Pos}{t':Nat}{u:Value}{σ:St}
section
variable{X:Cx}
theorem OW(bs:List Bool):(List.range bs.length).all (λi=>bs.getD i false)=bs.all id:=by
 rw[aq,ag,ag];constructor
 ·intro h b hb;obtain⟨i,hi,e⟩:=List.getElem_of_mem hb;have z:=h i (Yc.mpr hi);rw[YH,YI hi,e]at z;exact z
 ·intro h i hi;have hi':=Yc.mp hi;rw[YH,YI hi'];exact h _ (ZM hi')
theorem LH(hc:X.calm=true):CK X (.builtin "all") (λxs H Q=>∃(p:Addr) (bs:List Bool),xs=[.ref p]/\Ai X.K H p (bs.map V.bl)/\Q (.bl (bs.all id)) H):=by
 intro ad s σ H xs us Q I r h;obtain⟨p,bs,rfl,hq,q⟩:=h;obtain⟨u,rfl,rx⟩:=Ev r;cases rx;obtain⟨its,rits,pl,hz⟩:=I.list hq;have hlen:=rits.length;rw[YG]at hlen;have alt:p<s.heap.objs.size:=by obtain⟨o,e,_⟩:=pl.isList;exact YQ e
 refine call_all_walk (wpAny_pyIter_list pl.isList ?_);have up:∀b o,s.heap.get? b=some o->(s.heap.push {cls:=.type "list_iterator",data:=.fields #[.ref p,.int 0 0]}).get? b=some o:=λb o e=>YK _ e
 refine⟨s.heap.objs.size,[s.heap.objs.size,p],[s.heap.objs.size],its.toArray.size,_,_,λi=>bs.getD i false,rfl,Walks.list (A:=X.A.in1) (I.ok.hd hc) _ p (Yp alt) its.toArray,⟨⟨_,YX _ rfl,rfl,rfl⟩,pl.isList.at λo e=>up p o e⟩,λi v Q' E' s' hv hq'=>?_,λh' tk kk=>?_⟩
 ·have hv':its[i]?=some v:=by simpa using hv
  have hi:=(YJ.mp hv').1;obtain⟨u2,hu2,ru2⟩:=rits.get (x:=.bl (bs.getD i false)) (i:=i) (by rw[YO,YI (by lia),YH,YI (by lia)];rfl);rw[hv']at hu2;cases hu2;cases ru2;exact wpAny_truthy_bool hq'
 ·refine⟨.bl (bs.all id),H,I.kept (t':=tk) λb o e=>kk b o (λz=>?_) (up b o e),?_,q⟩
  ·rw[YT.mp z]at e;exact qG (YQ e) (Yh _)
  ·rw[Yn,<-hlen,OW];rfl
end
section
variable{κ:Type}[DecidableEq κ]
noncomputable def B9(kvs:List (κ×V))(k:κ):Option V:=(kvs.find? λkv=>decide (kv.1=k)).map (·.2)
noncomputable def Ff(kvs:List (κ×V))(k:κ)(v:V):List (κ×V):=
 if (kvs.any λkv=>decide (kv.1=k))=true then kvs.map (λkv=>if kv.1=k then (kv.1,v) else kv) else kvs++[(k,v)]
theorem Fg{p:κ×V}{r:List (κ×V)}{k:κ}(e:p.1=k):B9 (p::r) k=some p.2:=by simp[B9,List.find?_cons,e]
theorem EQ{p:κ×V}{r:List (κ×V)}{k:κ}(e:¬p.1=k):B9 (p::r) k=B9 r k:=by simp[B9,List.find?_cons,e]
theorem IC(k:κ):∀kvs:List (κ×V),(kvs.any λkv=>decide (kv.1=k))=(B9 kvs k).isSome
 |[]=>rfl
 |p::r=>by
  rw[List.any_cons]
  by_cases e:p.1=k
  ·simp only[Fg e,qH e,Bool.true_or,Option.isSome_some]
  ·rw[EQ e,qI e,Bool.false_or];exact IC k r
theorem LI(kvs:List (κ×V))(k:κ)(v:V):(Ff kvs k v).length<=kvs.length+1:=by
 unfold Ff;split
 ·rw[YG];lia
 ·rw[YN,Y8,aw];lia
theorem Ps{kvs:List (κ×V)}{k:κ}(v:V)(h:B9 kvs k=none):Ff kvs k v=kvs++[(k,v)]:=by unfold Ff;rw[IC,h];exact qE (by decide)
theorem Jt.isSome_eq{o:Option V}{u:Option Value}(r:Jt o u):o.isSome=u.isSome:=by
 cases o with
 |none=>cases u with
  |none=>rfl
  |some _=>exact (show False from r).elim
 |some _=>cases u with
  |none=>exact (show False from r).elim
  |some _=>rfl
end
theorem Vr{P:Program}{w:World}{k:B6}(r:A8 (kV k) u):(Bq P w).is k u=true:=by
 cases k with
 |inl i=>obtain⟨t,e⟩:=(show ∃t,u=Value.int i t from r);subst e;exact Kk P w i t
 |inr x=>obtain⟨t,e⟩:=(show ∃t,u=Value.str x t from r);subst e;exact Kl P w x t
theorem Jb{P:Program}{w:World}:∀{ks:List B6} {us:List Value},Ax (ks.map kV) us->ItemsAre (Bq P w) ks us
 |[],_,r=>by rw[bT]at r;cases r;exact .nil
 |k::ks,_,r=>by
  rw[ZV]at r;cases r with
  |cons h t=>exact .cons (Vr h) (Jb t)
section
variable{X:Cx}{s:Shared}{y v:V}{r:Value}{o:Option V}{A:Around}
theorem AT.big(I:AT X ad σ H s):sysModules<s.heap.objs.size:=by have h:mainGlobals<s.heap.objs.size:=(I.mod.glob.keeps I.bk).lt;exact Nat.lt_trans (by decide) h
theorem Rh{ob:HO}(I:AT X ad σ H s)(mu:VM (H a))(hs:Heap.SameBut a s.heap h')(he:∃q,h'.get? a=some q)(new:Ay X.prog X.w (Ac H a ob) h' a ob):
  AT X ad σ (Ac H a ob) {s with heap:=h',toks:=t'}:=
 I.write (x:=a) (e:=a) mu (.inl rfl) (λb q hb z=>(hs.2 b hb).trans z) he new
end
def T4(i:Expr):Prop:=∀ov iv,subscripted i false ov iv=operate [ov,iv] (getItem ov iv)
theorem Ri{prog:Program}{w:World}{A:Around}{s:Shared}{env:Env}{value slice:Expr}{id:String}
  (hl:typeLookup (.type T) "__getitem__"=pure (some (.builtin id))) (hs:T4 slice)
  (h:wpAny (model prog w) A (eval value env) (λo s₁=>wpAny (model prog w) A (eval slice env) (λi s₂=>s₂.TypeIs o T/\wpAny (model prog w) A (getItem o i) Q E s₂) E s₁) E s):
  wpAny (model prog w) A (eval (.Subscript value slice pos) env) Q E s:=by
 refine Subscript_ (wpAny_mono h (λo s₁ h₁=>wpAny_mono h₁ (λi s₂ h₂=>?_) λ_ _ x=>x) λ_ _ x=>x);obtain⟨hT,h₂⟩:=h₂;unfold subscriptTail;refine qC ?_;rw[getitemInPython_of_ne hT.not_modules];refine qC (wpAny_specialOf hT hl ?_)
 have fin:wpAny (model prog w) A (subscripted slice false o i) (λr s₃=>wpAny (model prog w) A (letTemporaryGo value o r >>= λ_=>pure r) Q E s₃) E s₂:=by rw[hs o i];exact wpAny_operating (wpAny_mono h₂ (λr s₃ h₃=>qC (wpAny_letTemporaryGo (qD h₃))) λ_ _ x=>x)
 first
  |exact qD (qC fin)
  |exact qC (qD (qC fin))
  |exact qC fin
end L2
namespace PySem
section
variable{prog:Program}{w:World}{K:Type}[DecidableEq K]{knd:HeapKind prog w K}{A:Around}{E:Value->Shared->Prop}{s:Shared}
theorem setDef_heap{dd b:Addr}{ents:List (K×Addr×Value)}{key:K}{dv:Value}{Q:Value->Shared->Prop}(room:knd.room A)(isk:knd.is s.heap key b)(dof:s.heap.DictOfH knd dd ents)(few:ents.length<=sizeLine)
  (old:∀p,atKey ents key=some p->Q p.2 {s with toks:=s.toks+knd.draws key})
  (new:atKey ents key=none->∀hp,hp.DictOfH knd dd (storedH ents key b dv)->Heap.SameBut dd s.heap hp->Q dv {s with heap:=hp,toks:=s.toks+knd.draws key}):
  wpAny (model prog w) A (dictSetDefault dd (.ref b) dv) Q E s:=by
 obtain⟨ob,rows,ep,got,cls,dat,rowsE,each,once⟩:=dof;unfold dictSetDefault
 try with_reducible refine wpAny_holding ?_
 refine qC (knd.pyHash room isk (qC (wpAny_dictFind_heap (s:={s with toks:=s.toks+knd.draws key}) room isk got dat rowsE each once (λnowhere=>?_) (λj p there=>?_))))
 ·have none':=atKey_none_of_get nowhere;have newE:=storedH_new (a:=b) (v:=dv) none';have rz:=size_of_entries rowsE;refine qC (wpAny_rule (qC (wpAny_updateDictKeys (hz:=by lia) (s:={s with toks:=s.toks+knd.draws key}) got dat (qD ?_))));refine new none' _ ⟨_,_,ep+1,bD _ got (Obj.isFreed_of_dict (Obj.data_mapDictKeys dat _)),cls.mapDictKeys _,Obj.data_mapDictKeys dat _,?_,?_,?_⟩ (Heap.SameBut.update ..)
  ·rw[newE];simp[rowsE,entryOfKey]
  ·rw[newE];intro x hx;rcases YR.mp hx with z|z
   ·exact knd.keeps (each x z) got dat (Heap.SameBut.update ..)
   ·rw[YT.mp z];exact knd.keeps isk got dat (Heap.SameBut.update ..)
  ·rw[newE,YV,Ze];refine⟨once,by simp,λx hx y hy e=>?_⟩;have:y=key:=by simpa using hy
   exact not_mem_keys_of_get nowhere (by rw[<-this,<-e];exact hx)
 ·refine qC (wpAny_dictEntries (s:={s with toks:=s.toks+knd.draws key}) got dat ?_);rw[entry_at rowsE j,there];exact qC (wpAny_rule (qD (old p (atKey_of_get once there))))
end
section
variable{prog:Program}{w:World}{K:Type}[DecidableEq K](knd:HeapKind prog w K)(dd b:Addr)
theorem meetsH_setDef(hm:(dd==sysModules)=false)(dv:Value):
  MeetsIn prog w (Builtin.«dict.setdefault» ⟨[.ref dd,.ref b,dv],[]⟩) (λA R s=>knd.room A.in1/\∃key ents,knd.is s.heap key b/\s.heap.DictOfH knd dd ents/\ents.length<=sizeLine /\
   (∀p,atKey ents key=some p->R (.ok (.ret p.2)) {s with toks:=s.toks+knd.draws key}) /\
   (atKey ents key=none->∀hp,hp.DictOfH knd dd (storedH ents key b dv)->Heap.SameBut dd s.heap hp->R (.ok (.ret dv)) {s with heap:=hp,toks:=s.toks+knd.draws key})):=
 .of_wp λA R s ⟨room,key,ents,isk,dof,few,old,new⟩=>by unfold Builtin.«dict.setdefault»;refine qC ?_;unfold Builtin.Dict.keyAndDefault;refine qC (wpAny_notOrdered_dict dof.typeIs ?_);show wpAny _ _ (pure (dd,Value.ref b,some dv)) _ _ s;refine qD ?_;show wpAny _ _ (if (dd==sysModules)=true then _ else (dictSetDefault dd (.ref b) dv >>= _)) _ _ s;rw[qE (by rw[hm];decide)];exact qC (setDef_heap room isk dof few (λp z=>qD ⟨_,rfl,old p z⟩) λz hp d2 sb=>qD ⟨_,rfl,new z hp d2 sb⟩)
end
end PySem
namespace L2
open PySem PySem.Spec PyProof.Rows
variable{cl:List (Str×Addr)}{es:List Expr}{fd:FuncData}{i:Nat}{pos:Pos}{ps:List Str}{qual:Str}{scope:Scope}{sp:Sp}{st:Stmt}{te:TE}{tt:TT}
section
variable{p:List Value->Prop}
theorem b0(h:p []):∀us:List Value,us.length=0->p us:=λus e=>by cases us with
 |nil=>exact h
 |cons a r=>cases e
theorem b1(h:∀a,p [a]):∀us:List Value,us.length=1->p us:=λus e=>by cases us with
 |nil=>cases e
 |cons a r=>exact b0 (p:=λl=>p (a::l)) (h a) r (Nat.succ.inj e)
theorem b2(h:∀a b,p [a,b]):∀us:List Value,us.length=2->p us:=λus e=>by cases us with
 |nil=>cases e
 |cons a r=>exact b1 (p:=λl=>p (a::l)) (h a) r (Nat.succ.inj e)
theorem b3(h:∀a b c,p [a,b,c]):∀us:List Value,us.length=3->p us:=λus e=>by cases us with
 |nil=>cases e
 |cons a r=>exact b2 (p:=λl=>p (a::l)) (h a) r (Nat.succ.inj e)
theorem b4(h:∀a b c d,p [a,b,c,d]):∀us:List Value,us.length=4->p us:=λus e=>by cases us with
 |nil=>cases e
 |cons a r=>exact b3 (p:=λl=>p (a::l)) (h a) r (Nat.succ.inj e)
end
noncomputable def YB(N P:List Str)(sc:Scope):Bool:=decide (sc.kind=.function)&&!sc.isCoroutine&&!sc.isGenerator&&decide N.Nodup&&decide (N.take P.length=P) &&
 P.all (λx=>decide (sc.names.lookup x=some .local\/sc.names.lookup x=some .cell))&&sc.names.all λy=>decide (y.2≠.free)
theorem CA{N P:List Str}{sc:Scope}(h:YB N P sc=true):AK N P sc:=by unfold YB at h;simp only[Bool.and_eq_true,decide_eq_true_eq,Bool.not_eq_true',List.all_eq_true]at h;obtain⟨⟨⟨⟨⟨⟨a,b⟩,c⟩,d⟩,e⟩,f⟩,g⟩:=h;exact⟨a,b,c,d,e,f,g⟩
section
variable{P:Program}{w:World}{K:qJ}{mg:Str->Option Value}{base:Heap}{x:Str}{f:Addr}{N:List Str}{k:Nat}
theorem Bn.okY(F:Bn K x qual st f fd)(S:AK N ps (AH st)) (h:∀vs H Q E,sp vs H Q E->vs.length=ps.length /\
  ∀(bh:Value) (A:Around) (outer:List Env) (s:Shared),Br k (A.deeper (envOfC qual (AH st) s.heap.objs.size f bh)) ->
   ∃t,GS (D5 (JS P w) P w K mg base N qual (AH st) f bh A outer s H E).nox (Ba st) t/\t {nx:=λ_ H'=>Q .non H',rt:=Q} (Cm N vs) H):Fz P w K mg base (JS P w) (k+1) f fd ps sp:=
 F.ok0 S (λvs H Q E q=>(h vs H Q E q).1) λbh A outer s H vs Q E hr q=>(h vs H Q E q).2 bh A outer s hr
theorem Ak(D:∃fd,Bn K x qual st f fd)(S:AK N ps (AH st))(bd:EI x qual st ps) (h:∀vs H Q E,sp vs H Q E->vs.length=ps.length /\
  ∀(bh:Value) (A:Around) (outer:List Env) (s:Shared),Br k (A.deeper (envOfC qual (AH st) s.heap.objs.size f bh)) ->
   ∃t,GS (D5 (JS P w) P w K mg base N qual (AH st) f bh A outer s H E).nox (Ba st) t/\t {nx:=λ_ H'=>Q .non H',rt:=Q} (Cm N vs) H):Al P w K mg base (k+1) f ps sp:=
 RX D S bd (λvs H Q E q=>(h vs H Q E q).1) λbh A outer s H vs Q E hr q=>(h vs H Q E q).2 bh A outer s hr
theorem Nf(D:∃fd,Bn K x qual st f fd)(S:AK N ps (AH st))(bd:EI x qual st ps) (h:∀vs H Q E,sp vs H Q E->vs.length=ps.length /\
  ∀(bh:Value) (A:Around) (outer:List Env) (s:Shared),Br k (A.deeper (envOfC qual (AH st) s.heap.objs.size f bh)) ->
   ∃t,GS (D5 (JS P w) P w K mg base N qual (AH st) f bh A outer s H E) (Ba st) t/\t {nx:=λ_ H'=>Q .non H',rt:=Q} (Cm N vs) H):Al P w K mg base (k+1) f ps sp:=
 RY D S bd (λvs H Q E q=>(h vs H Q E q).1) λbh A outer s H vs Q E hr q=>(h vs H Q E q).2 bh A outer s hr
end
section
variable{X:Cx}{x:Str}{e elt iter:Expr}{t:TA}{pos' p px:Pos}{N:List Str}{sc:Scope}{k k':Nat}{f:Addr}{fv:List (Nat×Str)}{ifs:List Expr}{wi:TI}
theorem AQ(hr:Br k' X.A)(G:Al X.prog X.w X.K X.mg X.base k f ps sp)(hm:X.mg x=some (.ref f))(ha:PA X (e::es) t)(hk:k<=k':=by decide)(hg:Gl X x:=by rfl)
  (hdb:(x==("__debug__":Str))=false:=by decide) (he:starEach (e::es) X.env=(false,eval e X.env)::starEach es X.env:=by rfl) (hpl:(backTo pos (starEach es X.env)).any (·.1)=false:=by rfl):
  PE X (.Call (.Name x p) (e::es) [] pos) (J8 sp [] (λ_=>E0) t):=De G (hr.mono hk) hg hm Vk ha hdb he hpl
theorem AS(i:Nat)(S:AK X.N ps sc)(he:PE X e te)(hi:X.N[i]?=some x:=by rfl)(hx:SU X.env.scope x:=by first|exact Or.inl rfl|exact Or.inr rfl)(hs:swapsWith e (some (.Name x pos')) pos.line X.env=pure false:=by rfl)
  (hf:X.fn x=true\/X.env.scope.names.lookup x=some .local:=by first|exact .inl rfl|exact .inr rfl|assumption):PS X (.Assign [.Name x pos'] e pos) (OF te (FM i)):=HI S.nd hi hx he hs hf
theorem BC(i:Nat)(S:AK X.N ps sc)(hi:X.N[i]?=some x:=by rfl)(hx:SU X.env.scope x:=by first|exact Or.inl rfl|exact Or.inr rfl)
  (hf:X.fn x=true\/X.env.scope.names.lookup x=some .local:=by first|exact .inl rfl|exact .inr rfl|assumption):PG X (.Name x pos) (FM i):=Gn S.nd hi hx hf
theorem ID(fv:List (Nat×Str))(cl:List (Str×Addr))(hi:PI X (.Name x px) iter wi)(hf:∀s H C fp,PF (D0 X s H (compEnvC scope cl C X.env) fp (x::fv.map (·.2))) ifs tt)(he:∀s H C fp,PE (D0 X s H (compEnvC scope cl C X.env) fp (x::fv.map (·.2))) elt te)
  (hclos:closureFor scope X.env=pure cl:=by with_unfolding_all rfl) (hcell:∀y∈scope.names,y.2≠.cell:=by decide +kernel) (hk:scope.kind=.function:=by rfl) (hnames:∀z∈scope.names,z.2=.local->scope.names.lookup z.1=some .local:=by decide +kernel)
  (hx:scope.names.lookup x=some .local:=by rfl) (hcl:Gg X.env cl:=by repeat' first|exact trivial|with_unfolding_all rfl|constructor) (hhas:((relabel scope X.env).names.all λz=>!(z.2==.cell||z.2==.free)||(cl.lookup z.1).isSome)=true:=by with_unfolding_all rfl)
  (hfv:HU X scope cl fv:=by repeat' first|exact trivial|with_unfolding_all rfl|constructor) (hnd:(x::fv.map (·.2)).Nodup:=by decide) (hc:X.calm=true:=by rfl) (hs:∀x,foldedSetIterable iter X.env x=pure x:=by intro _;rfl):
  PE X (.ListComp elt [⟨.Name x px,iter,ifs,0⟩] scope pos) (Pe wi fv tt te):=Ra hc hi hclos hcell hk hnames hx hcl hhas hfv hnd hf he hs
end
end L2
namespace PySem
open Sem (wp)
section
variable{prog:Program}{w:World}{A:Around}{E:Value->Shared->Prop}{s:Shared}
theorem collect_rng{Q:List Value->Shared->Prop}{r:Addr}{a b c:Int}{t u v:Tok}{n:Nat}(hh:A.handled=none)(hr:IsRange s.heap r a b c t u v)(sm:Builtin.Range.small a b c=true)(hn:Builtin.Range.rangeSize a b c=n)(hz:n<=2^24)
  (q:∀(h':Heap) (tk:Nat) (bg:Array Value),(∀b o,s.heap.get? b=some o->h'.get? b=some o)->ItemsOf (λi v=>∃t,v=.int (a+i*c) t) bg n->Q bg.toList {s with heap:=h',toks:=tk}):wpAny (model prog w) A (collect (.ref r)) Q E s:=by
 unfold collect;apply qC;apply wpAny_runValue;refine codeAny_builtin F.entry_proto_collect ?_;rw[A.under_plainId F.plain_proto_collect];show wpAny _ A.in1 (newList [] >>= λz=>again (.builtin "list.__iadd__" ⟨[z,.ref r],[]⟩)) _ _ s;apply qC;refine wpAny_newObj_type ?_;apply qD;refine⟨plainId_quiet F.plain_list_iadd _,?_⟩;refine codeAny_builtin F.entry_list_iadd ?_;rw[A.under_plainId F.plain_list_iadd];generalize hS:s.heap.objs.size=S;generalize hG:s.heap.push {cls:=.type "list",data:=.seq ([]:List Value).toArray}=G;have gS:G.get? S=some {cls:=.type "list",data:=.seq #[] 0}:=by rw[<-hG,<-hS];exact YX _ rfl
 have gk:∀b o,s.heap.get? b=some o->G.get? b=some o:=λb o e=>by rw[<-hG];exact YK _ e
 show wpAny _ A.in1 (Builtin.List.listExtendWith (.ref S) (.ref r) (.ref S)) _ _ _;refine wpAny_mono (wpAny_extend_range (A:=A) (s:={s with heap:=G}) (R:=λx s'=>x=.ok (.ret (.ref S))/\∃(h':Heap) (tk:Nat) (bg:Array Value) (c':Nat),s'={s with heap:=h',toks:=tk}/\(∀b o,s.heap.get? b=some o->h'.get? b=some o)/\h'.get? S=some {cls:=.type "list",dict:=none,data:=.seq bg c',slots:=#[]}/\ItemsOf (λi v=>∃t,v=.int (a+i*c) t) bg n) hh (gk _ _ hr) sm hn hz S (.ref S) 0 gS λh' tk bg c' hk hS' hacc=>⟨rfl,h',tk,bg,c',rfl,λb o e=>hk b o (λz=>?_) (gk b o e),hS',hacc⟩) (λfin s' h=>?_) (λe s' h=>?_)
 ·have:=YQ e;rw[z,hS]at this;exact Yh _ this
 ·have last:∀(x:Result) (s':Shared),(x=.ok (.ret (.ref S))/\∃(h':Heap) (tk:Nat) (bg:Array Value) (c':Nat),s'={s with heap:=h',toks:=tk}/\(∀b o,s.heap.get? b=some o->h'.get? b=some o)/\h'.get? S=some {cls:=.type "list",dict:=none,data:=.seq bg c',slots:=#[]}/\ItemsOf (λi v=>∃t,v=.int (a+i*c) t) bg n)->wpAny (model prog w) A (match Value.ref S with
    |Value.ref a=>do
     match (<-load a).data with
      |Data.seq xs _=>pure xs.toList
      |_=>unsupported "internal:collect"
    |_=>unsupported "internal:collect") Q E s':=by
   rintro x s' ⟨rfl,h',tk,bg,c',rfl,hk,hS',hacc⟩;show wpAny _ A (load S >>= _) _ _ _;apply qC;refine wpAny_load hS' ?_;exact qD (q h' tk bg hk hacc)
  cases fin with
  |done f =>
   have e:=h.1;cases e;exact last _ _ h
  |again c'=>exact⟨h.1,codeAny_mono h.2 λx s2 hx=>by have e:=hx.1;subst e;exact last _ _ hx⟩
 ·exact nomatch h.1
end
end PySem
namespace L2
open PySem PySem.Spec PyProof.Rows RW
end L2
namespace L2
open PySem PySem.Spec PyProof.Rows
end L2
namespace L2
open PySem PySem.Spec PyProof.Rows RW
variable{G M' m':Nat}{lo lo' low':Int}{b9 tab':List Int}
theorem Cz{l:List Int}{n k:Nat}(h:k<n):(l.take n).getD k 0=l.getD k 0:=by rw[YH,List.getElem?_take,qF h,YH]
theorem LJ{g:Int}{m:Nat}(hm:1<=m)(c0:BL g b9 (g^(m-1))=true)(c1:BL g b9 1=true):EN g lo b9 m lo m:=
 ⟨hm,λj hj _=>by lia,.inr ⟨0,m-1,by lia,by lia,by lia,by lia,by rw[aK];exact c0,by rw[Zn,Yq];exact c1⟩⟩
theorem Pu{g:Int}(hg:2<=g){m:Nat}(hl:(b9.length:Int)=g^m)(hl':(tab'.length:Int)=g^m')(al:Bp g lo' tab' m' lo b9 m)(n':EN g lo' tab' m' lo' m'){low:Int}{M:Nat}(n:EN g lo b9 m low M):low=lo'/\M=m'/\EM g lo b9 m low M=tab':=by obtain⟨e1,e2⟩:=(Cs hg hl' hl n' n).mp al;rw[Pm hg lo' hl']at e2;refine⟨e1.symm,?_,e2.symm⟩;have a:=BO hg lo b9 m low M;rw[<-e2,hl']at a;exact (Dq hg a).symm
def A7(g lo:Int)(b9:List Int)(m:Nat)(lf:Int)(tf:List Int)(mf:Nat):Prop:=∃(low:Int) (M:Nat),EN g lo b9 m low M/\lf=low/\((M=1/\mf=2/\tf=EM g low (EM g lo b9 m low 1) 1 low 2)\/(2<=M/\mf=M/\tf=EM g lo b9 m low M))
theorem Pw{g:Int}(hg:2<=g){m:Nat}(hl:(b9.length:Int)=g^m){low:Int}{M:Nat}(n:EN g lo b9 m low M)(n':EN g lo b9 m low' M'):low=low'/\M=M':=by
 obtain⟨e1,e2⟩:=(Cs hg hl hl n n').mp λ_ _=>rfl
 refine⟨e1,?_⟩;have a:=BO hg lo b9 m low M;rw[e2,BO hg]at a;exact (Dq hg a).symm
theorem IE(g lo:Int)(b9:List Int)(m:Nat):∃low M,EN g lo b9 m low M:=by
 by_cases hc:Be g lo b9 m=[]
 ·exact⟨0,1,LC hc⟩
 ·obtain⟨M,_,_,hW⟩:=JW hc;exact⟨_,M,hW⟩
theorem E7{g:Int}(hg:2<=g){m:Nat}(hl:(b9.length:Int)=g^m)(hl':(tab'.length:Int)=g^m')(al:Bp g lo' tab' m' lo b9 m)(h2:2<=m')(c0:BL g tab' (g^(m'-1))=true)(c1:BL g tab' 1=true):A7 g lo b9 m lo' tab' m':=by obtain⟨low,M,n⟩:=IE g lo b9 m;obtain⟨rfl,rfl,e⟩:=Pu hg hl hl' al (LJ (by lia) c0 c1) n;exact⟨_,_,n,rfl,.inr ⟨h2,rfl,e.symm⟩⟩
theorem OX{g:Int}(hg:2<=g){m:Nat}(hl:(b9.length:Int)=g^m)(hl':(tab'.length:Int)=g^1)(al:Bp g lo' tab' 1 lo b9 m)(c1:BL g tab' 1=true):A7 g lo b9 m lo' (EM g lo' tab' 1 lo' 2) 2:=by obtain⟨low,M,n⟩:=IE g lo b9 m;obtain⟨rfl,rfl,e⟩:=Pu hg hl hl' al (LJ (YL _) (by rw[Zn,Yq];exact c1) c1) n;exact⟨_,_,n,rfl,.inl ⟨rfl,rfl,by rw[e]⟩⟩
theorem Me{g:Int}(hg:2<=g)(hG:(G:Int)=g)(x:Int)(T:List Int):EM g x T 1 x 2=(List.range (G*G)).map λk=>T.getD (k/G) 0:=by
 have g22:g^2=((G*G:Nat):Int):=by rw[show (2:Nat)=0+1+1 from rfl,Ym,Ym,Yq,ZW,<-hG,ZE]
 have hL:=BO hg x T 1 x 2;refine Aq (by rw[YG,Yo];lia) λk hk=>?_;have hk2:k<G*G:=by lia
 rw[Aj hk2];unfold EM;rw[Aj (by lia)]
 congr 1
 have e:Gs (Af g (k:Int) 2) (x-x) 1=[((k/G:Nat):Int)]:=by obtain⟨a,b,hw,ha,hb⟩:∃a b:Int,Af g (k:Int) 2=[a,b]/\a=(k:Int)/g%g/\b=(k:Int)%g:=⟨_,_,rfl,rfl,rfl⟩;rw[hw];show[sn [a,b] (x-x+((0:Nat):Int))]=_;rw[show x-x+((0:Nat):Int)=0 by lia];show[a]=_;rw[ha,<-hG,<-Zq,<-Yk,Za (ZN hk2)]
 rw[e,KH,YM]
variable{lf:Int}{tf:List Int}{mf:Nat}
theorem A7.two{g:Int}{m:Nat}(h:A7 g lo b9 m lf tf mf):2<=mf:=by
 obtain⟨low,M,_,_,z|z⟩:=h
 ·lia
 ·lia
inductive Gx(CT:Addr)(vs:List V)(H:Hp)(Q:VK)(E:XK):Prop
 |m (r:Addr) (g lo:Int) (b9:List Int) (m:Nat) (lf:Int) (tf:List Int) (mf:Nat):vs=[.ref r]->Ah H r g lo b9 m->A7 g lo b9 m lf tf mf->(g^(mf-1)<=9->∀r' H',AI H H'->Ah H' r' g lf tf mf->Q (.ref r') H')->(9<g^(mf-1)->∀H',AI H H'->E (.ref CT) none H')->Gx CT vs H Q E
theorem A7.le{g:Int}(hg:2<=g){m:Nat}(fw:A7 g lo b9 m lf tf mf)(hl:(b9.length:Int)=g^m)(hl':(tab'.length:Int)=g^m')(al:Bp g lo b9 m lo' tab' m'):mf<=max 2 m':=by
 obtain⟨low,M,n,rfl,z⟩:=fw;obtain⟨low',M',n'⟩:=IE g lo' tab' m';obtain⟨e1,e2⟩:=(Cs hg hl hl' n n').mp al;have a:=BO hg lo b9 m lf M;rw[e2,BO hg]at a;have eM:=Dq hg a
 have:M'<=max 1 m':=by rcases n'.ends with⟨_,_,y⟩|⟨j0,j1,_,_,_,_,_,_⟩<;>lia
 rcases z with z|z<;>lia
theorem Px{g:Int}(hg:2<=g)(lo:Int){m:Nat}:∃lf tf mf,A7 g lo b9 m lf tf mf:=by
 obtain⟨low,M,n⟩:=IE g lo b9 m;have:=n.one
 by_cases z:M=1
 ·subst z;exact⟨_,_,_,low,1,n,rfl,.inl ⟨rfl,rfl,rfl⟩⟩
 ·exact⟨_,_,_,low,M,n,rfl,.inr ⟨by lia,rfl,rfl⟩⟩
end L2
namespace L2
end L2
namespace L2
open PySem PySem.Spec PyProof.Rows RW
variable{G M' m' mf:Nat}{lf lo lo' low':Int}{b9 tab' tf:List Int}{α β:Type}
theorem LK{g:Int}(hg:2<=g){m:Nat}(hl:(b9.length:Int)=g^m)(hl':(tab'.length:Int)=g^m')(al:Bp g lo b9 m lo' tab' m'){low:Int}{M:Nat}(n:EN g lo b9 m low M)(n':EN g lo' tab' m' low' M'):low=low'/\M=M'/\EM g lo b9 m low M=EM g lo' tab' m' low' M':=by obtain⟨e1,e2⟩:=(Cs hg hl hl' n n').mp al;have a:=BO hg lo b9 m low M;rw[e2,BO hg]at a;exact⟨e1,(Dq hg a).symm,e2⟩
theorem LL{g:Int}(hg:2<=g){m:Nat}(hl:(b9.length:Int)=g^m){low:Int}{M:Nat}(n:EN g lo b9 m low M):Bp g low (EM g lo b9 m low M) M lo b9 m:=λx hx=>Ej hg hl n.all hx
theorem Dv{l:List α}{F G:α->List β}(h:∀a∈l,F a=G a):l.flatMap F=l.flatMap G:=by
 induction l with
 |nil=>rfl
 |cons a r ih=>rw[ZD,ZD,h a Ye,ih λb hb=>h b (YZ _ hb)]
theorem Mf{g:Int}(hg:2<=g){a b:Nat}{i j:Int}(i0:0<=i)(i1:i<g^a)(j0:0<=j)(j1:j<g^b):Af g (i*g^b+j) (a+b)=Af g i a++Af g j b:=by
 have hb:∀x∈Af g i a++Af g j b,0<=x/\x<g:=λx hx=>(YR.mp hx).elim (Bd hg _ _ x) (Bd hg _ _ x)
 have e:=Dh hg hb;rw[Bj,A1,Dg hg i0 i1,Dg hg j0 j1,YN,A1,A1]at e;exact e
theorem Mg(A B:Nat):List.range (A*B)=(List.range A).flatMap λi=>(List.range B).map λj=>i*B+j:=by
 induction A with
 |zero=>rw[Nat.zero_mul];rfl
 |succ A ih =>
  rw[Nat.succ_mul,Y4,Zw,<-ih,List.range_add];simp
noncomputable def Cn(g:Int)(m:Nat):List (List Int):=(List.range (g^m).toNat).map λn:Nat=>Af g (n:Int) m
theorem Mh(g:Int):Cn g 0=[[]]:=by unfold Cn;rw[Yq];rfl
theorem Rj{g:Int}(hg:2<=g)(a b:Nat):(g^(a+b)).toNat=(g^a).toNat*(g^b).toNat:=by have pa:=RW.Ab hg a;have pb:=RW.Ab hg b;rw[Int.pow_add,Int.toNat_mul (ZX pa) (ZX pb)]
theorem Jc{g:Int}(hg:2<=g)(a b:Nat):Cn g (a+b)=(Cn g a).flatMap λu=>(Cn g b).map (u++·):=by have pa:=RW.Ab hg a;have pb:=RW.Ab hg b;unfold Cn;rw[Rj hg,Mg,List.map_flatMap,bK];refine Dv λi hi=>?_;rw[Zd,Zd];refine Yg λj hj=>?_;have hi':=Yc.mp hi;have hj':=Yc.mp hj;show Af g ((i*(g^b).toNat+j:Nat):Int) (a+b)=Af g (i:Int) a++Af g (j:Int) b;rw[<-Mf hg (by lia) (by lia) (by lia) (by lia),ZF,ZE,YY (ZX pb)]
theorem Py{g:Int}(hg:2<=g){n:Nat}(h:(n:Int)<g):Af g (n:Int) 1=[(n:Int)]:=by show[(n:Int)%g]=_;rw[Yr (by lia) h]
theorem Mi{g:Int}(hg:2<=g)(n:Nat):Cn g (n+1)=(List.range g.toNat).flatMap λj:Nat=>(Cn g n).map ((j:Int)::·):=by rw[am,Jc hg];unfold Cn;rw[show g^1=g by rw[Ym,Yq,ZW],bK];refine Dv λj hj=>?_;have hj':=Yc.mp hj;rw[Py hg (by lia)];rfl
noncomputable def JF(G:Nat)(b9:List Int):List Int->Nat->List (List Int)
 |[],_=>[[]]
 |s::r,h=>(CF G b9 h s).flatMap λf=>(JF G b9 r (f%(b9.length/G))).map (((f%G:Nat):Int)::·)
theorem Fh(l:List Nat):((l.sum:Nat):Int)=(l.map λn:Nat=>(n:Int)).sum:=by
 induction l with
 |nil=>rfl
 |cons a r ih=>rw[List.sum_cons,ZV,List.sum_cons,ZF,ih]
theorem Em(G:Nat)(b9:List Int):∀(r:List Int) (h:Nat),((JF G b9 r h).length:Int)=DE G b9 r h
 |[],_=>rfl
 |s::r,h=>by
  rw[JF,List.length_flatMap,Fh,Zd,<-Hs]
  congr 1
  refine Yg λf _=>?_;show (((JF G b9 r (f%(b9.length/G))).map _).length:Int)=_;rw[YG,Em G b9 r]
theorem OY{g:Int}(hg:2<=g){m:Nat}(hl:(b9.length:Int)=g^m)(hm:1<=m){w:List Int}(hw:w.length=m-1){x:Int}(hb:∀n∈w++[x],0<=n/\n<g):∃w':List Int,w'.length=m-1/\(∀n∈w',0<=n/\n<g)/\((Av g w).toNat*g.toNat+x.toNat)%(b9.length/g.toNat)=(Av g w').toNat/\∀r,Ap g b9 m (w++x::r)=b9.getD ((Av g w).toNat*g.toNat+x.toNat) 0::Ap g b9 m (w'++r):=by
 have hx:=hb x (by simp)
 obtain⟨y,w',e⟩:∃y w',w++[x]=y::w':=by
  cases w with
  |nil=>exact⟨x,[],rfl⟩
  |cons a t=>exact⟨a,t++[x],rfl⟩
 have e2:∀r,w++x::r=y::(w'++r):=λr=>by rw[<-Z8,<-e,Yu];rfl
 have hw':w'.length=m-1:=by have:=congrArg List.length e;rw[YN,Y8]at this;simp only[List.length_cons,List.length_nil]at this;lia
 have hbw:∀n∈w,0<=n/\n<g:=λn hn=>hb n (YR.mpr (.inl hn))
 have hbw':∀n∈w',0<=n/\n<g:=λn hn=>hb n (by rw[e];exact YZ _ hn)
 have hd:=Az hg hl hm;have b1:=BN hg hbw;have b2:=BN hg hbw';rw[hw']at b2;have nx:Av g [x]=x:=by show 0*g+x=x;rw[ZY,Yj]
 refine⟨w',hw',hbw',?_,λr=>?_⟩
 ·have z:Av g w*g+x=Av g w'+y*g^(m-1):=by
   have q:=congrArg (Av g) e;rw[Bj,show y::w'=[y]++w' from rfl,Bj,hw']at q;have ny:Av g [y]=y:=by show 0*g+y=y;rw[ZY,Yj]
   rw[nx,ny]at q;have g1:g^([x]:List Int).length=g:=by show g^1=g;rw[Ym,Yq,ZW]
   rw[g1]at q;lia
  apply Int.ofNat.inj;show (((Av g w).toNat*g.toNat+x.toNat)%(b9.length/g.toNat):Nat)=(((Av g w').toNat:Nat):Int);rw[Yk,ZF,ZE,hd.1,YY b1.1,YY (by lia),YY hx.1,YY b2.1,z,Zh y,Zy,Yr b2.1 b2.2]
 ·rw[e2 r,JZ (by rw[YN];lia)]
  congr 1
  unfold K8
  have t1:(List.drop 0 (y::(w'++r))).take m=w++[x]:=by rw[List.drop_zero,<-List.cons_append,<-e,List.take_append_of_le_length (by simp only[List.length_append,List.length_cons,List.length_nil];lia),List.take_of_length_le (by simp only[List.length_append,List.length_cons,List.length_nil];lia)]
  rw[t1,Bj]
  congr 1
  show (Av g w*g^1+Av g [x]).toNat=_;rw[nx,Ym,Yq,ZW,Int.toNat_add (bC b1.1 (by lia)) hx.1,Int.toNat_mul b1.1 (by lia)]
theorem LM(p:α->Bool)(F:α->List β)(l:List α):(l.filter p).flatMap F=l.flatMap λa=>if p a then F a else[]:=by
 induction l with
 |nil=>rfl
 |cons a r ih =>
  rw[List.filter_cons,ZD];split
  ·rw[ZD,ih]
  ·rw[ih];rfl
theorem Ga(p:β->Bool)(F:α->List β)(l:List α):(l.flatMap F).filter p=l.flatMap λa=>(F a).filter p:=by
 induction l with
 |nil=>rfl
 |cons a r ih=>rw[ZD,ZP,ih,ZD]
theorem LN{g:Int}(hg:2<=g){m:Nat}(hl:(b9.length:Int)=g^m)(hm:1<=m):∀(row w:List Int),w.length=m-1->(∀n∈w,0<=n/\n<g)->(Cn g row.length).filter (λc=>decide (Ap g b9 m (w++c)=row))=JF g.toNat b9 row (Av g w).toNat
 |[],w,hw,_=>by show (Cn g 0).filter _=[[]];rw[Mh];have:Ap g b9 m w=[]:=Fa (by lia);simp[this]
 |s::r,w,hw,hb=>by
  show (Cn g (r.length+1)).filter _=_;rw[Mi hg,Ga,JF];unfold CF;rw[bK,LM];refine Dv λj hj=>?_;have hj':=Yc.mp hj;obtain⟨w',hw',hbw',hmod,hled⟩:=OY hg hl hm hw (x:=(j:Int)) (λn hn=>(YR.mp hn).elim (hb n) λz=>by rw[YT.mp z];lia);rw[YM]at hmod hled;have ih:=LN hg hl hm r w' hw' hbw';rw[List.filter_map];have jm:((Av g w).toNat*g.toNat+j)%g.toNat=j:=by rw[aR,Za hj']
  by_cases e:b9.getD ((Av g w).toNat*g.toNat+j) 0=s
  ·rw[qF (qH e),hmod,jm,<-ih]
   congr 1
   refine List.filter_congr λc _=>?_;show decide (Ap g b9 m (w++(j:Int)::c)=s::r)=_;rw[hled,e];simp
  ·rw[qE (by rw[qI e];decide)];have:(Cn g r.length).filter ((λc=>decide (Ap g b9 m (w++c)=s::r))∘λx=>(j:Int)::x)=[]:=by rw[List.filter_eq_nil_iff];intro c _;show ¬decide (Ap g b9 m (w++(j:Int)::c)=s::r)=true;rw[decide_eq_true_iff,hled];exact λz=>e (List.cons.inj z).1
   rw[this];rfl
noncomputable def DF(g:Int)(b9:List Int)(m:Nat)(row:List Int):List (List Int):=(List.range (b9.length/g.toNat)).flatMap λh=>(JF g.toNat b9 row h).map (Af g (h:Int) (m-1)++·)
theorem GC{g:Int}(hg:2<=g){m:Nat}(hl:(b9.length:Int)=g^m)(hm:1<=m)(row:List Int):(Cn g (row.length+m-1)).filter (λw=>decide (Ap g b9 m w=row))=DF g b9 m row:=by have hd:=Az hg hl hm;have hp:=RW.Ab hg (m-1);rw[show row.length+m-1=(m-1)+row.length by lia,Jc hg,Ga];unfold DF;show ((List.range (g^(m-1)).toNat).map λn:Nat=>Af g (n:Int) (m-1)).flatMap _=_;rw[bK,show (g^(m-1)).toNat=b9.length/g.toNat by lia];refine Dv λh hh=>?_;have hh':=Yc.mp hh;rw[List.filter_map];have e:=LN hg hl hm row (Af g (h:Int) (m-1)) (A1 _ _ _) (Bd hg _ _);rw[Dg hg (by lia) (by lia),YM]at e;rw[<-e];rfl
theorem Gy{g:Int}(b9:List Int)(m:Nat)(row:List Int):((DF g b9 m row).length:Int)=B2 g.toNat b9 row:=by
 unfold DF;rw[List.length_flatMap,Fh,Zd];show _=Ag _ _;unfold Ag
 congr 1
 refine Yg λh _=>?_;show (((JF g.toNat b9 row h).map _).length:Int)=_;rw[YG,Em]
theorem IF(F:α->List β):∀(l:List α) (k rest:Nat) (a:α),l[k]?=some a->rest<(F a).length->(l.flatMap F)[((l.take k).map λx=>(F x).length).sum+rest]?=(F a)[rest]?
 |[],k,rest,a,h,_=>by simp at h
 |b::l,0,rest,a,h,hr=>by
  have:b=a:=by simpa using h
  subst this;rw[List.take_zero,bT,List.sum_nil,bV,ZD,ZH hr]
 |b::l,k+1,rest,a,h,hr=>by rw[List.take_succ_cons,ZV,List.sum_cons,ZD,Z7,Yw (by lia),Zr];exact IF F l k rest a (by simpa using h) hr
theorem JG{ps:List Int}{k:Nat}(h:k<ps.length):(ps.take (k+1)).sum=(ps.take k).sum+ps.getD k 0:=by rw[aW,YI h,bQ,YH,YI h];simp
inductive IG(vs:List V)(H:Hp)(Q:VK)(z3_:XK):Prop
 |m (p:Addr) (ps:List Int) (n:Int):vs=[.ref p,.int n]->H p=some (.lst (ps.map V.int))->0<=n->n<ps.sum->(∀(k rest:Nat) (b:Addr) (H':Hp),AI H H'->k<ps.length->(rest:Int)<ps.getD k 0->n=(ps.take k).sum+(rest:Int)->H' b=some (.tup [.int ((k:Nat):Int),.int ((rest:Nat):Int)])->Q (.ref b) H')->IG vs H Q z3_
inductive IH(K:qJ)(vs:List V)(H:Hp)(Q:VK)(z3_:XK):Prop
 |m (r a p:Addr) (g lo:Int) (b9:List Int) (m:Nat) (row:List Int) (n:Nat):vs=[.ref r,.ref a,.ref p,.int ((n:Nat):Int)]->Ah H r g lo b9 m->Ai K H a (row.map V.int)->row.length<=100->Sx H p g.toNat b9 row->(n:Int)<B2 g.toNat b9 row->(∀q H' w,(DF g b9 m row)[n]?=some w->K6 H H' q w->Q (.ref q) H')->IH K vs H Q z3_
variable{c row:List Int}
theorem T5{g:Int}{m:Nat}{h rest n:Nat}(hh:h<b9.length/g.toNat)(hr:(rest:Int)<DE g.toNat b9 row h)(hn:(n:Int)=((EO g.toNat b9 row).take h).sum+(rest:Int))(hc:(JF g.toNat b9 row h)[rest]?=some c):(DF g b9 m row)[n]?=some (Af g (h:Int) (m-1)++c):=by
 have hl:=Em g.toNat b9 row h;have z:=IF (λh:Nat=>(JF g.toNat b9 row h).map (Af g (h:Int) (m-1)++·)) (List.range (b9.length/g.toNat)) h rest h (by rw[ak hh]) (by rw[YG];lia)
 have en:n=(((List.range (b9.length/g.toNat)).take h).map λx:Nat=>((JF g.toNat b9 row x).map (Af g (x:Int) (m-1)++·)).length).sum+rest:=by
  apply Int.ofNat.inj;show (n:Int)=((_:Nat):Int);rw[hn,ZF,Fh,Zd]
  congr 1
  unfold EO;rw[<-List.map_take]
  congr 1
  refine Yg λx _=>?_;show _=(((JF g.toNat b9 row x).map _).length:Int);rw[YG,Em]
 rw[<-en]at z;unfold DF;rw[z,YO,hc];rfl
theorem Vs{s:Int}{r:List Int}{h k rest n f:Nat}(hf:(CF G b9 h s)[k]?=some f)(hr:(rest:Int)<DE G b9 r (f%(b9.length/G)))(hn:(n:Int)=(((CF G b9 h s).map λf=>DE G b9 r (f%(b9.length/G))).take k).sum+(rest:Int))(hc:(JF G b9 r (f%(b9.length/G)))[rest]?=some c):(JF G b9 (s::r) h)[n]?=some (((f%G:Nat):Int)::c):=by
 have hl:=Em G b9 r (f%(b9.length/G));have z:=IF (λf:Nat=>(JF G b9 r (f%(b9.length/G))).map (((f%G:Nat):Int)::·)) (CF G b9 h s) k rest f hf (by rw[YG];lia)
 have en:n=(((CF G b9 h s).take k).map λx:Nat=>((JF G b9 r (x%(b9.length/G))).map (((x%G:Nat):Int)::·)).length).sum+rest:=by
  apply Int.ofNat.inj;show (n:Int)=((_:Nat):Int);rw[hn,ZF,Fh,Zd]
  congr 1
  rw[<-List.map_take]
  congr 1
  refine Yg λx _=>?_;show _=(((JF G b9 r (x%(b9.length/G))).map _).length:Int);rw[YG,Em]
 rw[<-en]at z;rw[JF,z,YO,hc];rfl
theorem II(g x:Int)(r:List Int):Av g (x::r)=x*g^r.length+Av g r:=by
 have e:=Bj g [x] r;have nx:Av g [x]=x:=by show 0*g+x=x;rw[ZY,Yj]
 rw[nx]at e;exact e
noncomputable def Qz(G:Nat)(b9:List Int)(h:Nat):List Int->Nat->Nat->Int
 |[],u,v=>if u=v then 1 else 0
 |s::r,u,v=>Ag G λj=>DD (decide (b9.getD (u*G+j) 0=s)) (Qz G b9 h r ((u*G+j)%h) v)
theorem OZ{g:Int}(hg:2<=g){m:Nat}(hl:(b9.length:Int)=g^m)(hm:1<=m){w:List Int}(hw:w.length=m-1){x:Int}(hb:∀n∈w++[x],0<=n/\n<g):((Av g w).toNat*g.toNat+x.toNat)%(b9.length/g.toNat)=(Av g ((w++[x]).drop 1)).toNat:=by
 have hd:=Az hg hl hm;have hx:=hb x (by simp);have wb:∀n∈w,0<=n/\n<g:=λn hn=>hb n (YR.mpr (.inl hn))
 have nw:=BN hg wb
 obtain⟨y,u,e⟩:∃y u,w++[x]=y::u:=by
  cases w with
  |nil=>exact⟨x,[],rfl⟩
  |cons y v=>exact⟨y,v++[x],rfl⟩
 have ul:u.length=m-1:=by have:=congrArg List.length e;rw[YN,Y8]at this;simp only[List.length_cons,List.length_nil]at this;lia
 have ub:∀n∈u,0<=n/\n<g:=λn hn=>hb n (by rw[e];exact YZ _ hn)
 have nu:=BN hg ub;have yb:=hb y (by rw[e];exact Ye ..);rw[ul]at nu;have gn:((g.toNat:Nat):Int)=g:=by lia
 have e1:Av g (w++[x])=Av g w*g+x:=C5 ..;have e2:Av g (w++[x])=y*g^(m-1)+Av g u:=by rw[e,II,ul]
 rw[e,List.drop_succ_cons,Zt];have z:(((Av g w).toNat*g.toNat+x.toNat:Nat):Int)=Av g w*g+x:=by rw[ZF,ZE,gn,YY nw.1,YY hx.1]
 have q:((((Av g w).toNat*g.toNat+x.toNat)%(b9.length/g.toNat):Nat):Int)=Av g u:=by rw[Yk,z,hd.1,<-e1,e2,ao,aO,Yr nu.1 nu.2]
 lia
theorem Oa{g:Int}(hg:2<=g){n:Nat}:c∈Cn g n↔c.length=n/\∀x∈c,0<=x/\x<g:=by
 unfold Cn;constructor
 ·intro h;obtain⟨k,_,rfl⟩:=Yd.mp h;exact⟨A1 ..,Bd hg _ _⟩
 ·rintro⟨rfl,hb⟩;have nb:=BN hg hb;refine Yd.mpr ⟨(Av g c).toNat,Yc.mpr (by lia),?_⟩;rw[show (((Av g c).toNat:Nat):Int)=Av g c by lia];exact Dh hg hb
theorem Rk(p:Bool)(n:Nat)(f:Nat->Int):DD p (Ag n f)=Ag n λk=>DD p (f k):=by
 cases p with
 |true=>rfl
 |false =>
  show (0:Int)=Ag n λ_=>0
  rw[BE,bU]
theorem A7.alike{g:Int}(hg:2<=g){m:Nat}(hl:(b9.length:Int)=g^m)(fw:A7 g lo b9 m lf tf mf):Bp g lf tf mf lo b9 m/\(tf.length:Int)=g^mf:=by
 obtain⟨low,M,n,rfl,⟨rfl,rfl,rfl⟩|⟨h2,rfl,rfl⟩⟩:=fw
 ·refine⟨λx hx=>?_,BO hg ..⟩;rw[IB hg (BO hg ..) (Zp _) (by lia) hx];exact LL hg hl n x hx
 ·exact⟨LL hg hl n,BO hg ..⟩
end L2
namespace L2
open PySem PySem.Spec PyProof.Rows
def GD(K:qJ)(J:It)(tt:TT)(te:TE)(σf:List (Option V))(D:Addr)(Q:VK)(H:Hp):Prop:=∃W:Nat->Nat->List V->Hp->Prop,(∃n,W n 0 [] (Ac H D (.lst [])))/\∀n i bg H2,W n i bg H2 ->
 (J.stop i H2/\Q (.ref D) H2)\/(J.go i H2/\∃N:List V->Hp->Prop,(∀l H',N l H'->∃n',n'<n/\W n' (i+1) l H')/\∀v H3,J.yld i H2 v H3->∃(a:Addr) (v1 v2:V),v=.ref a/\Ad K H3 a [v1,v2]/\tt (some v1::some v2::σf) H3 λb H4 =>
  if b=true then te (some v1::some v2::σf) H4 λy H5=>H5 D=some (.lst bg)/\bg.length<sizeLine/\N (bg++[y]) (Ac H5 D (.lst (bg++[y]))) else N bg H4)
def T6(K:qJ)(wi:TI)(fv:List (Nat×Str))(tt:TT)(te:TE):TE:=λσ H Q=>wi σ H λJ H1=>∀D,H1 D=none->GD K J tt te (Cv σ fv) D Q H1
end L2
namespace PySem
section
variable{prog:Program}{w:World}{A:Around}{s:Shared}{R:Result->Shared->Prop}
theorem compLoop_own{elt tg iter:Expr}{ifs:List Expr}{scope:Scope}{pos:Pos}{it bg:Value}{env:Env}(I:Nat->Shared->Prop)
  (turn:∀n s,I n s->wpAny (model prog w) A (pyNext it) (λr s1=>match r with
   |none=>R (.ok .next) s1
   |some v=>wpAny (model prog w) A (letOwnedTupleGo tg it v) (λ_ s1b=>wpAny (model prog w) A (assign tg env v) (λ_ s2 =>
     wpAny (model prog w) A (forIn ifs true λc r=>if r=true then do let ok <-isTrue c env (eval c env);pure (ForInStep.yield ok) else pure (ForInStep.yield r)) (λok s3 =>
      if ok=true then wpAny (model prog w) A (eval elt env) (λx s4 =>
       wpAny (model prog w) A (call (.builtin "list.append") [bg,x]) (λ_ s5=>∃m,m<n/\I m s5) (notedBy (model prog w) A env λe s'=>R (.error e) s') s4) (notedBy (model prog w) A env λe s'=>R (.error e) s') s3
      else ∃m,m<n/\I m s3) (notedBy (model prog w) A env λe s'=>R (.error e) s') s2) (notedBy (model prog w) A env λe s'=>R (.error e) s') s1b) (notedBy (model prog w) A env λe s'=>R (.error e) s') s1) (notedBy (model prog w) A env λe s'=>R (.error e) s') s)
  (n:Nat) (h:I n s):codeAny (model prog w) A (.compLoop (.ListComp elt [⟨tg,iter,ifs,0⟩] scope pos) 0 it bg env) R s:=by
 refine codeAny_loop rfl I (λn s hI=>?_) n h;show wpAny _ A ((compTurn (.ListComp elt [⟨tg,iter,ifs,0⟩] scope pos) 0 it bg env).onRaise (λx=>do noteFrame x env;theTreesLotGoes x)) _ _ s;refine wpAny_noted ?_;rw[compTurn_list];refine qC (wpAny_standAt (qC (wpAny_mono (turn n s hI) (λr s1 h1=>?_) λ_ _ h'=>h')));cases r with
 |none=>exact qD h1
 |some v =>
  refine qC (wpAny_mono h1 (λ_ s1b h1b=>?_) λ_ _ h'=>h');refine qC (wpAny_mono h1b (λ_ s2 h2=>qC (wpAny_mono h2 (λok s3 h3=>?_) λ_ _ h'=>h')) λ_ _ h'=>h');cases ok with
  |false=>exact qD ⟨rfl,h3⟩
  |true =>
   exact qC (qC (wpAny_mono h3 (λx s4 h4=>qC (wpAny_mono h4 (λ_ s5 h5=>qD (qD ⟨rfl,h5⟩)) λ_ _ h'=>h')) λ_ _ h'=>h'))
end
end PySem
namespace L2
open PySem PySem.Spec PyProof.Rows
variable{C:Addr}{E:Value->Shared->Prop}{h1:Heap}
section
variable{X:Cx}{x x2:Str}{px px2 pt pos:Pos}{kt:Nat}{elt iter:Expr}{ifs:List Expr}{scope:Scope}{cl:List (Str×Addr)}{fv:List (Nat×Str)}{wi:TI}{tt:TT}{te:TE}
 {ad:List (Addr×Obj)} {σ:St} {H2:Hp} {s2:Shared} {fp:List Addr} {it:Addr} {tn:Nat->Heap->Prop} {J:It}
theorem Rm{D:Addr}{t1:Nat}(I2:AT X ad σ H2 s2)(f2:∀b∈fp,C3 X ad H2 b)(o2:∀b∈fp,∃o,s2.heap.get? b=some o/\∀v,o.data≠.cell v)(hD:s2.heap.objs.size<=D)(hC:s2.heap.objs.size<=C)(hDC:D≠C)
  (old:∀b o,s2.heap.get? b=some o->h1.get? b=some o) (hl:h1.PlainList D #[]) (hn:h1.Ns C (λ_=>none)) (hk:scope.kind=.function) (hcl:Gg X.env cl)
  (hhas:((relabel scope X.env).names.all λz=>!(z.2==.cell||z.2==.free)||(cl.lookup z.1).isSome)=true) (hfv:HU X scope cl fv):
  AT (D0 X s2 H2 (compEnvC scope cl C X.env) fp (x::x2::fv.map (·.2))) [] (none::none::Cv σ fv) (Ac H2 D (.lst [])) {s2 with heap:=h1,toks:=t1} where
 ok:=Pg I2 f2 o2 hC hk hcl hhas
 os:=rfl
 bare:=I2.bare
 base:=Un.laid old hD (I2.hok.fresh hD)
 loc:=by
  refine⟨_,hn,λi y v h1' h2' _=>?_⟩;cases i with
  |zero=>cases h2'
  |succ i =>
   cases i with
   |zero=>cases h2'
   |succ i =>
   have h1':(fv.map (·.2))[i]?=some y:=h1';have h2':(Cv σ fv)[i]?=some (some v):=h2'
   obtain⟨q,hq,e1⟩:∃q,fv[i]?=some q/\q.2=y:=by rw[YO]at h1';exact Y3.mp h1'
   subst e1;obtain⟨g1,g2,g3,g4⟩:=hfv.at' q (YW hq);unfold Cv at h2';rw[YO,hq]at h2';have e2:(σ[q.1]?).join=some v:=Option.some.inj h2'
   have e3:σ[q.1]?=some (some v):=by
    cases z:σ[q.1]? with
    |none=>rw[z]at e2;cases e2
    |some w=>rw[z]at e2;exact congrArg some e2
   obtain⟨m,_,lk⟩:=I2.loc;have g2:=Pd g2;obtain⟨u,ru,lu⟩:=lk q.1 q.2 v g1 e3 (.inr g2);refine⟨u,ru,.inr ⟨g2.imp (λz=>g3.trans z) (λz=>g3.trans z),?_⟩⟩;obtain⟨c,hc⟩:=Z4.mp g4;refine⟨c,hc,?_⟩;rcases lu with⟨kk,_⟩|⟨_,c',e',⟨o,eo,d⟩⟩
   ·rcases g2 with z|z<;>(rw[show X.env.kindOf q.2=_ from z]at kk;cases kk)
   ·have e4:=hcl.at' hc;rw[e']at e4;cases e4;exact⟨o,old c o eo,d⟩
 cell:=λy c h=>by obtain⟨v,o,eo,d⟩:=I2.cell y c (hcl.at' h);exact⟨v,o,old c o eo,d⟩
 free:=by show Ac H2 D _ C=none;rw[AN (Ne.symm hDC)];exact I2.hok.fresh hC
 freeC:=λy c h=>by obtain⟨v,o,eo,d⟩:=I2.cell y c (hcl.at' h);rw[AN (Yp (YS (YQ eo) hD))];exact I2.freeC y c (hcl.at' h)
 pin:=λp hp=>nomatch hp
 hok:=I2.hok.laid old hD (by obtain⟨n,e⟩:=hl;exact⟨Nat.zero_le _,[],n,.nil,by simpa using e⟩)
 len:=by simp[Cv,D0]
theorem Pz{RR:Value->Addr->Result->Shared->Prop}{Q:VK}(hc:X.calm=true)(I2:AT X ad σ H2 s2)(T:JB X.prog X.w X.K (.Tuple [.Name x px,.Name x2 px2] kt pt) J fp it tn)(st2:tn 0 s2.heap)(f2:∀b∈fp,C3 X ad H2 b)
  (hcell:∀y∈scope.names,y.2≠.cell) (hk:scope.kind=.function) (hx:scope.names.lookup x=some .local) (hx2:scope.names.lookup x2=some .local) (hcl:Gg X.env cl) (hhas:((relabel scope X.env).names.all λz=>!(z.2==.cell||z.2==.free)||(cl.lookup z.1).isSome)=true) (hfv:HU X scope cl fv) (hnd:(x::x2::fv.map (·.2)).Nodup)
  (hf:∀s H C fp,PF (D0 X s H (compEnvC scope cl C X.env) fp (x::x2::fv.map (·.2))) ifs tt) (he:∀s H C fp,PE (D0 X s H (compEnvC scope cl C X.env) fp (x::x2::fv.map (·.2))) elt te)
  (hw:∀D,H2 D=none->GD X.K J tt te (Cv σ fv) D Q H2)
  (hRR:∀D C σ' H' s',s2.heap.objs.size<=C->AT (D0 X s2 H2 (compEnvC scope cl C X.env) fp (x::x2::fv.map (·.2))) [] σ' H' s'->Q (.ref D) H'->RR (.ref D) C (.ok .next) s'):
  wpAny (model X.prog X.w) X.A (newList []) (λbg s3=>wpAny (model X.prog X.w) X.A (newFunctionEnv scope X.env.globals cl [] X.env.qual none .none (some X.env)) (λcenv s4 =>
   codeAny (model X.prog X.w) X.A (.compStart (.ListComp elt [⟨.Tuple [.Name x px,.Name x2 px2] kt pt,iter,ifs,0⟩] scope pos) 0 (.ref it) bg {cenv with scope:=relabel scope X.env}) (RR bg cenv.locals) s4) E s3) E s2:=by
 refine wpAny_newObj_type (wpAny_newFunctionEnv hcell (by intro y hy;simp at hy) (λh1 hns hsb=>?_) hk);dsimp only at hns hsb⊢;generalize hH:s2.heap.push {cls:=.type "list",dict:=none,data:=.seq ([]:List Value).toArray}=HH at hns hsb⊢;have eC:HH.objs.size=s2.heap.objs.size+1:=by rw[<-hH,Zg]
 have hDC:s2.heap.objs.size≠HH.objs.size:=by rw[eC];exact Yp (Zz _)
 have hC:s2.heap.objs.size<=HH.objs.size:=by rw[eC];exact Z6 _
 have old:∀b o,s2.heap.get? b=some o->h1.get? b=some o:=λb o e=>hsb.extBut b o (by rw[eC];exact Yp (Zk (YQ e))) (YK _ (hH▸YK _ e))
 have hacc:h1.PlainList s2.heap.objs.size #[]:=⟨_,hsb.extBut _ _ hDC (YK _ (hH▸YX _ rfl))⟩;have o2:=T.obj _ _ st2;obtain⟨W,⟨n0,w0⟩,turn⟩:=hw s2.heap.objs.size (I2.hok.fresh (YL _));generalize eD:s2.heap.objs.size=D at *;generalize eCC:HH.objs.size=C at *;have Ib:=Rm (x:=x) (x2:=x2) (t1:=s2.toks+([]:List (Str×Value)).length) I2 f2 o2 (by rw[eD];exact YL _) (by rw[eD];exact hC) hDC old hacc hns hk hcl hhas hfv;have st1:tn 0 h1:=T.keep _ _ _ st2 λb _ o e=>old b o e
 have nD:∀b∈fp,b≠D:=λb hb=>by obtain⟨o,e,_⟩:=o2 b hb;rw[<-eD];exact Yp (YQ e)
 have fr1:∀b∈fp,Ac H2 D (.lst []) b=none:=λb hb=>by rw[AN (nD b hb)];exact (f2 b hb).1
 have hxl:(relabel scope X.env).names.lookup x=some .local:=lookup_relabel_local hx;have hxl2:(relabel scope X.env).names.lookup x2=some .local:=lookup_relabel_local hx2
 have stat:∀{H':Hp},(∀b∈fp,H' b=none)->∀b∈fp,C3 (D0 X s2 H2 (compEnvC scope cl C X.env) fp (x::x2::fv.map (·.2))) [] H' b:=λhn b hb=>by obtain⟨o,e,_⟩:=o2 b hb;exact⟨hn b hb,λz=>qG (YQ e) (by rw[z,eD];exact Nat.not_lt.mpr hC),λz=>(Yf.mp (I2.stkSub b z)).elim (f2 b hb).2.1 (f2 b hb).2.2.1,.inl hb,λy c h=>(f2 b hb).2.2.2.2.1 y c (hcl.at' h),λq hq=>nomatch hq⟩
 have loop:codeAny (model X.prog X.w) X.A (.compLoop (.ListComp elt [⟨.Tuple [.Name x px,.Name x2 px2] kt pt,iter,ifs,0⟩] scope pos) 0 (.ref it) (.ref D) (compEnvC scope cl C X.env)) (RR (.ref D) C) {s2 with heap:=h1,toks:=s2.toks+([]:List (Str×Value)).length}:=by
  refine compLoop_own (λn s'=>∃i bg σb H',AT (D0 X s2 H2 (compEnvC scope cl C X.env) fp (x::x2::fv.map (·.2))) [] σb H' s'/\σb.tail.tail=Cv σ fv/\tn i s'.heap/\(∀b∈fp,H' b=none)/\W n i bg H') ?_ n0 ⟨0,[],_,_,Ib,rfl,st1,fr1,w0⟩;rintro n s3 ⟨i,bg,σ3,H3,I3,t3,st3,fr3,w3⟩;rcases turn n i bg H3 w3 with⟨stop,qn⟩|⟨go,NN,hNN,step⟩
  ·refine BQ (T.done (D0 X s2 H2 (compEnvC scope cl C X.env) fp (x::x2::fv.map (·.2))) rfl rfl rfl hc i [] s3 σ3 H3 _ I3 (stat fr3) st3 stop) λr s4 q4=>?_;obtain⟨hr,I4⟩:=q4;subst hr;exact hRR D C σ3 H3 s4 hC I4 qn
  ·refine BQ (T.item (D0 X s2 H2 (compEnvC scope cl C X.env) fp (x::x2::fv.map (·.2))) rfl rfl rfl hc i [] s3 σ3 H3 _ I3 (stat fr3) st3 go) λr s4 q4=>?_;obtain⟨u,hr,h4⟩:=q4;subst hr;refine BQ h4 λ_ s5 q5=>?_;obtain⟨v,H5,I5,r5,y5,st5,fr5⟩:=q5;have I5':=I5.pinned (stat fr5) (T.obj _ _ st5);have again:∀{σ7:St} {H7:Hp} {s7:Shared},AT (D0 X s2 H2 (compEnvC scope cl C X.env) fp (x::x2::fv.map (·.2))) ([]++Fv fp s5.heap) σ7 H7 s7->tn (i+1) s7.heap/\∀b∈fp,H7 b=none:=λ{σ7 H7 s7} I7=>by refine⟨T.keep _ _ _ st5 λb hb o e=>(I7.pin (b,o) (YU _ (YU _ (CL hb e)))).1,λb hb=>?_⟩;obtain⟨o,e,d⟩:=T.obj _ _ st5 b hb;exact (I7.pin (b,o) (YU _ (YU _ (CL hb e)))).2.1
   obtain⟨a5,v1,v2,rfl,hq5,step5⟩:=step v _ y5
   have sσ:(σ3.set 0 (some v1)).set 1 (some v2)=some v1::some v2::Cv σ fv:=by
    match σ3,t3,I3.len with
    |a::b::r,t3,_ =>
     have z:r=Cv σ fv:=t3;rw[z];rfl
   have hnd2:=ZZ.mp hnd;have g1:=Gn (X:=D0 X s2 H2 (compEnvC scope cl C X.env) fp (x::x2::fv.map (λq:Nat×Str=>q.2))) (pos:=px) (i:=0) (x:=x) hnd rfl (.inl hxl) (.inr hxl);have g2:=Gn (X:=D0 X s2 H2 (compEnvC scope cl C X.env) fp (x::x2::fv.map (λq:Nat×Str=>q.2))) (pos:=px2) (i:=1) (x:=x2) hnd rfl (.inl hxl2) (.inr hxl2);have g:=HD (X:=D0 X s2 H2 (compEnvC scope cl C X.env) fp (x::x2::fv.map (λq:Nat×Str=>q.2))) (pos:=pt) (k:=kt) hc (BK g1 (BK g2 DH));refine wpAny_noRaise (BQ (g _ s5 σ3 H5 (.ref a5) u (λσ' H'=>σ'=some v1::some v2::Cv σ fv/\H'=H5) I5' r5 ⟨a5,[v1,v2],rfl,hq5,rfl,v1,[v2],rfl,v2,[],rfl,rfl,sσ,rfl⟩) λ_ s6 q6=>?_);obtain⟨σ6,H6,I6,rfl,rfl⟩:=q6;refine wpAny_noRaise (BQ (hf _ _ _ _ _ s6 _ _ _ I6 step5) λb s7 q7=>?_);obtain⟨H7,I7,q7⟩:=q7;cases b with
   |false =>
    rw[qE (by decide)]at q7⊢;obtain⟨n',hn',w7⟩:=hNN _ _ q7;exact⟨n',hn',i+1,bg,_,H7,I7.unpinned,rfl,(again I7).1,(again I7).2,w7⟩
   |true =>
    rw[qF rfl]at q7⊢;refine wpAny_noRaise (BQ (he _ _ _ _ _ s7 _ _ _ I7 q7) λyv s8 q8=>?_);obtain⟨y,H8,I8,r8,e8,l8,q8⟩:=q8;obtain⟨n',hn',w8⟩:=hNN _ _ q8;refine wpAny_noRaise (BQ (F2 (X:=D0 X s2 H2 (compEnvC scope cl C X.env) fp (x::x2::fv.map (·.2))) _ s8 _ H8 (.ref D) [y] (.ref D) [yv] (λ_ H'=>H'=Ac H8 D (.lst (bg++[y]))) I8 rfl (.cons r8 .nil) ⟨D,bg,y,rfl,rfl,e8,l8,rfl⟩) λ_ s9 q9=>?_);obtain⟨_,H9,I9,_,rfl⟩:=q9;exact⟨n',hn',i+1,bg++[y],_,_,I9.unpinned,rfl,(again I9).1,(again I9).2,w8⟩
 exact codeAny_compStart_list loop (T.self X.A 0 _ _ _ st1 loop)
theorem P0(hc:X.calm=true)(hi:PI X (.Tuple [.Name x px,.Name x2 px2] kt pt) iter wi)(hclos:closureFor scope X.env=pure cl)(hcell:∀y∈scope.names,y.2≠.cell)(hk:scope.kind=.function)(hnames:∀z∈scope.names,z.2=.local->scope.names.lookup z.1=some .local)
  (hx:scope.names.lookup x=some .local) (hx2:scope.names.lookup x2=some .local) (hcl:Gg X.env cl) (hhas:((relabel scope X.env).names.all λz=>!(z.2==.cell||z.2==.free)||(cl.lookup z.1).isSome)=true) (hfv:HU X scope cl fv) (hnd:(x::x2::fv.map (·.2)).Nodup)
  (hf:∀s H C fp,PF (D0 X s H (compEnvC scope cl C X.env) fp (x::x2::fv.map (·.2))) ifs tt) (he:∀s H C fp,PE (D0 X s H (compEnvC scope cl C X.env) fp (x::x2::fv.map (·.2))) elt te)
  (hs:∀x,foldedSetIterable iter X.env x=pure x:=by intro _;rfl):PE X (.ListComp elt [⟨.Tuple [.Name x px,.Name x2 px2] kt pt,iter,ifs,0⟩] scope pos) (T6 X.K wi fv tt te):=by
 intro ad s σ H Q I h;rw[eval_ListComp];refine wpAny_comprehension_free (use:=none) rfl hs hclos hk hnames (BQ (hi ad s σ H _ I h) λv s1 h1=>BQ h1 λitv s2 h2=>?_);obtain⟨it,fp,tn,J,H2,e,I2,T,st2,f2,hw⟩:=h2;subst e;refine Pz (RR:=λbg C=>compPost (model X.prog X.w) X.A X.xe none (EP X ad σ Q) bg C) hc I2 T st2 f2 hcell hk hx hx2 hcl hhas hfv hnd hf he hw λD C σ' H' s' hC Ib q=>?_;obtain⟨m,hn,_⟩:=Ib.loc;exact⟨m,hn,λh' sb=>⟨.ref D,H',AT.letGo I2 (HV I2 f2 Ib) hC Ib.free sb,rfl,q⟩⟩
end
end L2
namespace PySem
section
variable{prog:Program}{w:World}{A:Around}{E:Value->Shared->Prop}{s:Shared}{it d:Addr}{i ep:Nat}{od:Obj}{es:Array DictEntry}
theorem keys_item{Q:Option Value->Shared->Prop}(hit:s.heap.IsKeyIter it d i es.size ep)(hod:s.heap.get? d=some od)(hdd:od.data=.dict es ep)(hlt:i<es.size)
  (hQ:∀h',h'.IsKeyIter it d (i+1) es.size ep->Heap.SameBut it s.heap h'->Q (some es[i].key) {s with heap:=h'}):wpAny (model prog w) A (pyNext (.ref it)) Q E s:=by
 obtain⟨o,ho,hc,hd⟩:=id hit;have T:=hit.typeIs;unfold pyNext;refine qC (wpAny_attempt (wpAny_callSpecial?_slot (name:=Str.ofString "__next__") T F.slot_dict_keyiterator_next (wpAny_call_entry F.slot_dict_keyiterator_next T F.entry_dict_keyiterator_next ?_ (F.args_dict_keyiterator_next_1 _))));refine qC (qD (qC (qC ?_)));refine qC (wpAny_typeNameOfWhole_keyiter T (qD (qC (wpAny_fieldsOf ho hd ?_))));simp only[show Builtin.Dict_items.ownsTuple "dict_keyiterator"=false by decide,Bool.false_eq_true,if_false];show wpAny _ _ (if (Value.ref d==.none)=true then _ else _) _ _ s;rw[qE (show ¬((Value.ref d==.none)=true) from Ya)];refine qC (qD (qC (wpAny_dictEntries hod hdd ?_)));rw[qE (by simp)];refine qC (qD (qC (wpAny_dictEpoch hod hdd ?_)));rw[qE (by simp)];refine qD ?_;simp only[show ¬((i:Int)<0) by lia,if_false,Int.toNat_natCast,Array.getElem?_eq_getElem hlt];refine qC (qC (wpAny_typeNameOfWhole_keyiter T (qD (qC (wpAny_isOneOf_keyiter T ?_)))));show wpAny _ _ (setField (.ref it) 1 (rawInt ((i:Int)+1)) >>= _) _ _ s;have hit':(s.heap.update it (Obj.mapFields (·.setIfInBounds 1 (rawInt ((i:Int)+1))))).IsKeyIter it d (i+1) es.size ep:=⟨_,Heap.get?_update_self _ ho (Obj.isFreed_of_fields (Obj.data_mapFields hd _)),(Obj.cls_mapFields ..).trans hc,by rw[Obj.data_mapFields hd];simp[rawInt]⟩;refine qC (wpAny_setField ho hd (by simp) (qC (wpAny_holding (qC (wpAny_isOneOf_keyiter (s:={s with heap:=s.heap.update it (Obj.mapFields (·.setIfInBounds 1 (rawInt ((i:Int)+1))))}) hit'.typeIs ?_)))));show wpAny _ _ (pure es[i].key) _ _ _;exact qD (qD ⟨_,rfl,qD (hQ _ hit' (Heap.SameBut.update ..))⟩)
theorem keys_end{Q:Option Value->Shared->Prop}(hh:A.handled=none)(hit:s.heap.IsKeyIter it d i es.size ep)(hod:s.heap.get? d=some od)(hdd:od.data=.dict es ep)(hge:es.size<=i)
  (hQ:∀h',Heap.ExtBut it s.heap h'->Q none {s with heap:=h'}):wpAny (model prog w) A (pyNext (.ref it)) Q E s:=by
 obtain⟨o,ho,hc,hd⟩:=id hit;have T:=hit.typeIs;unfold pyNext;refine qC (wpAny_attempt (wpAny_callSpecial?_slot (name:=Str.ofString "__next__") T F.slot_dict_keyiterator_next (wpAny_call_entry F.slot_dict_keyiterator_next T F.entry_dict_keyiterator_next ?_ (F.args_dict_keyiterator_next_1 _))));refine qC (qD (qC (qC ?_)));refine qC (wpAny_typeNameOfWhole_keyiter T (qD (qC (wpAny_fieldsOf ho hd ?_))));simp only[show Builtin.Dict_items.ownsTuple "dict_keyiterator"=false by decide,Bool.false_eq_true,if_false];show wpAny _ _ (if (Value.ref d==.none)=true then _ else _) _ _ s;rw[qE (show ¬((Value.ref d==.none)=true) from Ya)];refine qC (qD (qC (wpAny_dictEntries hod hdd ?_)));rw[qE (by simp)];refine qC (qD (qC (wpAny_dictEpoch hod hdd ?_)));rw[qE (by simp)];refine qD ?_;simp only[show ¬((i:Int)<0) by lia,if_false,Int.toNat_natCast,Array.getElem?_eq_none hge];refine qC (qC (wpAny_typeNameOfWhole_keyiter T (qD ?_)));show wpAny _ _ (setField (.ref it) 0 .none >>= _) _ _ s;refine qC (wpAny_setField ho hd (by simp) ?_);show wpAny _ _ (newExc (.type "StopIteration") [] >>= _) _ _ _;refine qC ?_;simp only[newExc,newTuple];refine qC (wpAny_newObj_type (qC (m:=firstArgMember _ _) (wpAny_of_eq (a:=Value.none) (by first|rfl|(simp only[firstArgMember];rfl)) (wpAny_newObj_type ?_ (by size_fits)))) (by size_fits));simp only[raiseNew];refine qC (wpAny_handled ?_);rw[show A.in1.handled=none from hh];refine qC (qD (wpAny_throw ?_));exact qC (wpAny_isInstance (T:="StopIteration") (b:=true) ⟨_,YX _ rfl,rfl⟩ isSubtype_stop (qD (hQ _ (((Heap.SameBut.update ..).extBut.push _).push _))))
theorem keys_iter{Q:Value->Shared->Prop}(hm:(d==sysModules)=false)(hT:s.TypeIs (.ref d) "dict")(hod:s.heap.get? d=some od)(hdd:od.data=.dict es ep)
  (hQ:Q (.ref s.heap.objs.size) {s with heap:=s.heap.push {cls:=.type "dict_keyiterator",data:=.fields #[.ref d,.int 0 0,.int es.size 0,.int ep 0]}}):wpAny (model prog w) A (pyIter (.ref d)) Q E s:=by
 refine wpAny_pyIter_slot hT F.slot_dict_iter (wpAny_call_entry F.slot_dict_iter hT F.entry_dict_iter ?_ (F.args_dict_iter_1 _));unfold Builtin.«dict.__iter__»;refine qC ?_;unfold Builtin.Dict.dictSlotNone;refine qC (wpAny_notOrdered_dict hT ?_);show wpAny _ _ (pure (Value.ref d)) _ _ s;refine qD ?_;show wpAny _ _ (Builtin.Dict.showsAll d >>= _) _ _ s;unfold Builtin.Dict.showsAll;rw[qE (by rw[hm];exact Ya)];refine qC (qD (qC (wpAny_dictEntries hod hdd (qC (wpAny_dictEpoch hod hdd ?_)))));exact qC (wpAny_newObj_type (qD ⟨_,rfl,"dict_keyiterator",_,⟨_,Heap.get?_push_size _ rfl,rfl⟩,F.slot_dict_keyiterator_next.lookup,by simpa [rawInt] using hQ⟩))
end
end PySem
namespace L2
open PySem PySem.Spec PyProof.Rows
variable{E Q:Value->Shared->Prop}{H H':Hp}{a:Addr}{h' h1:Heap}{ad:List (Addr×Obj)}{t':Nat}{tg:Expr}{u:Value}{xs:List V}{α β:Type}{σ:St}
theorem Bk{F:α->β->Prop}:∀{l₁:List α} {l₂:List β} {i:Nat} {x:α},Paired F l₁ l₂->l₁[i]?=some x->∃y,l₂[i]?=some y/\F x y
 |_,_,_,_,.nil,e=>by simp at e
 |_,_,0,_,.cons r _,e=>by simp at e;subst e;exact⟨_,rfl,r⟩
 |_,_,i+1,x,.cons _ t,e=>by obtain⟨u,h1,h2⟩:=Bk (i:=i) (x:=x) t (by simpa using e);exact⟨u,by simpa using h1,h2⟩
section
variable{X:Cx}
theorem AT.freeze{s:Shared}{d:Addr}{u:HO}(I:AT X ad σ H s)(e:H d=some u)(nt:∀ys,u≠.tup ys)(nf:∀o v,u≠.frz o v)(nb:∀ps,u≠.tbl ps)(no:∀x,u≠.own x){o:Obj}(ho:s.heap.get? d=some o):AT X ad σ (Ac H d (.frz o u)) s:=
 have up:∀{b:Addr} {v:HO},H b=some v->v≠u->Ac H d (.frz o u) b=some v:=λ{b v} z n=>by rw[AN λy=>n (by rw[y,e]at z;exact (Option.some.inj z).symm)];exact z
 have un:∀{b:Addr},H b=none->Ac H d (.frz o u) b=none:=λ{b} z=>by rw[AN λy=>by rw[y,e]at z;cases z];exact z
 {I with
  base:=⟨I.base.keep,I.base.slot,λb ob q n hx=>un (I.base.free b ob q n hx),I.base.there,λb xs q=>up (I.base.tups b xs q) λz=>nt _ z.symm,λb ob v q=>up (I.base.frzs b ob v q) λz=>nf _ _ z.symm,λb ps q=>by obtain⟨m,z⟩:=I.base.tbls b ps q;exact⟨m,up z λy=>nb _ y.symm⟩⟩
  free:=un I.free
  freeC:=λx c q=>un (I.freeC x c q)
  pin:=λp hp=>⟨(I.pin p hp).1,un (I.pin p hp).2.1,(I.pin p hp).2.2⟩
  hok:=λb v q=>by
   have st:∀{b:Addr} {v:HO},H b=some v->Ay X.prog X.w (Ac H d (.frz o u)) s.heap b v:=λ{b v} q=>(I.hok b v q).stay (λ_ _ _ z=>z) (λc z=>up z λy=>no _ y.symm) λc xs z=>up z λy=>nt _ y.symm
   by_cases hb:b=d
   ·subst hb;rw[AE]at q;cases q;exact⟨ho,st e⟩
   ·rw[AN hb]at q;exact st q}
theorem T7{d:Addr}{u:HO}(e:H d=some u):Ac H d u=H:=funext λb=>by
 by_cases z:b=d
 ·subst z;rw[AE,e]
 ·rw[AN z]
end
abbrev Ng:=List B6×Addr×V
noncomputable def IJ(p:Ng):List B6×V:=(p.1,p.2.2)
def E8(p:Ng)(q:List B6×Addr×Value):Prop:=p.1=q.1/\p.2.1=q.2.1/\A8 p.2.2 q.2.2
def Rn(P:Program)(w:World)(d:Addr)(bs:List Ng)(h:Heap):Prop:=bs.length<=sizeLine/\(d==sysModules)=false/\∃xs:List (List B6×Addr×Value),Paired E8 bs xs /\
 ∃o es ep,h.get? d=some o/\o.ExactDict/\o.data=.dict es ep/\es.toList=xs.map (entryOfKey (tupleKind (Bq P w)))/\(xs.map (·.1)).Nodup
noncomputable def Q0(P:Program)(w:World)(d:Addr)(bs:List Ng):HO:=.ext (Rn P w d bs)
def P1(K:qJ)(H:Hp)(bs:List Ng):Prop:=∀p∈bs,Ad K H p.2.1 (p.1.map kV)
def DW(P:Program)(w:World)(K:qJ)(H:Hp)(d:Addr)(kvs:List (List B6×V)):Prop:=∃bs,H d=some (Q0 P w d bs)/\bs.map IJ=kvs/\P1 K H bs
def DR(P:Program)(w:World)(K:qJ)(H:Hp)(d:Addr)(u:HO)(kvs:List (List B6×V)):Prop:=∃bs,H d=some u/\(u=Q0 P w d bs\/∃o,u=.frz o (Q0 P w d bs))/\bs.map IJ=kvs/\P1 K H bs
section
variable{P:Program}{w:World}{K:qJ}{h:Heap}{d:Addr}{u:HO}{kvs:List (List B6×V)}
theorem Ad.same'(e:AI H H')(q:Ad K H a xs):Ad K H' a xs:=q.imp (λz=>z.imp (e _ _) λ⟨o,z⟩=>⟨o,e _ _ z⟩) id
theorem DR.same(e:AI H H')(r:DR P w K H d u kvs):DR P w K H' d u kvs:=by obtain⟨bs,h1,h2,h3,h4⟩:=r;exact⟨bs,e _ _ h1,h2,h3,λp hp=>(h4 p hp).same' e⟩
theorem DW.same(e:AI H H')(r:DW P w K H d kvs):DW P w K H' d kvs:=by obtain⟨bs,h1,h3,h4⟩:=r;exact⟨bs,e _ _ h1,h3,λp hp=>(h4 p hp).same' e⟩
theorem DW.r(r:DW P w K H d kvs):∃u,DR P w K H d u kvs:=by obtain⟨bs,h1,h3,h4⟩:=r;exact⟨_,bs,h1,.inl rfl,h3,h4⟩
theorem E8.val{bs:List Ng}{xs:List (List B6×Addr×Value)}(r:Paired E8 bs xs)(k:List B6):Jt (B9 (bs.map IJ) k) ((atKey xs k).map (·.2)):=by
 induction r with
 |nil=>exact True.intro
 | @cons p q ps qs hh t ih =>
  obtain⟨h1,_,h2⟩:=hh
  by_cases e:p.1=k
  ·have e':q.1=k:=h1.symm.trans e;have b:atKey (q::qs) k=some q.2:=by simp[atKey,List.find?_cons,e']
   rw[ZV,Fg (show (IJ p).1=k from e),b];exact h2
  ·have e':¬q.1=k:=λz=>e (h1.trans z)
   have b:atKey (q::qs) k=atKey qs k:=by simp[atKey,List.find?_cons,e']
   rw[ZV,EQ (show ¬(IJ p).1=k from e),b];exact ih
end
section
variable{X:Cx}{s:Shared}{d b:Addr}{u:HO}{kvs:List (List B6×V)}{k:List B6}
theorem Dw(I:AT X ad σ H s)(q:Ad X.K H b (k.map kV)):(tupleKind (Bq X.prog X.w)).is s.heap k b:=by obtain⟨its,rv,p,hz⟩:=I.tuple q;obtain⟨o,h1,h2,n,h3⟩:=p;exact⟨o,its.toArray,n,h1,h2,h3,by simpa using Jb rv⟩
theorem DR.at(I:AT X ad σ H s)(r:DR X.prog X.w X.K H d u kvs):∃bs xs,bs.map IJ=kvs/\P1 X.K H bs/\Paired E8 bs xs/\bs.length<=sizeLine/\(d==sysModules)=false/\s.heap.DictOfH (tupleKind (Bq X.prog X.w)) d xs:=by
 obtain⟨bs,h1,h2,h3,h4⟩:=r
 have ok:Rn X.prog X.w d bs s.heap:=by
  rcases h2 with e|⟨o,e⟩
  ·subst e;exact (show Ay X.prog X.w H s.heap d (.ext _) from I.hok d _ h1).1
  ·subst e;exact (show Ay X.prog X.w H s.heap d (.ext _) from (show Ay X.prog X.w H s.heap d (.frz o _) from I.hok d _ h1).2).1
 obtain⟨z,hd,xs,rel,o,es,ep,e1,e2,e3,e4,e5⟩:=ok;refine⟨bs,xs,h3,h4,rel,z,hd,o,es,ep,e1,e2,e3,e4,λx hx=>?_,e5⟩;obtain⟨i,hi⟩:=Y2.mp hx;have hl:=Paired.length rel;have hi':=(YJ.mp hi).1;obtain⟨y,hy,r1,r2,_⟩:=Bk rel (i:=i) (x:=bs[i]) (by simp[show i<bs.length by lia]);rw[hi]at hy;cases hy;rw[<-r1,<-r2];exact Dw I (h4 _ (ZM _))
variable{A:Around}{v:V}
theorem Ob(hu:A.units+1<cLine)(I:AT X ad σ H s)(r:DR X.prog X.w X.K H d u kvs)(q:Ad X.K H b (k.map kV))(l:B9 kvs k=some v)(h:∀w' s',AT X ad σ H s'->A8 v w'->Q w' s'):
  wpAny (model X.prog X.w) A (getItem (.ref d) (.ref b)) Q E s:=by
 obtain⟨bs,xs,h3,h4,rel,z,hd,dd⟩:=r.at I;obtain⟨w',hw,rw'⟩:=Jt.some_of (v:=v) (o:=(atKey xs k).map (·.2)) (by rw[<-l,<-h3];exact E8.val rel k);obtain⟨p,hp,hp2⟩:=Y3.mp hw;refine wpAny_getItem_heap (tupleKind_room_in1 hu) (Dw I q) dd hp ?_;rw[hp2];exact h w' _ (I.tok _) rw'
theorem Xb(hu:A.units+1<cLine)(I:AT X ad σ H s)(r:DR X.prog X.w X.K H d u kvs)(q:Ad X.K H b (k.map kV))(h:∀s',AT X ad σ H s'->Q (.bool (B9 kvs k).isSome) s'):
  wpAny (model X.prog X.w) A (compareOp .In (.ref b) (.ref d)) Q E s:=by
 obtain⟨bs,xs,h3,h4,rel,z,hd,dd⟩:=r.at I;refine wpAny_in_heap (tupleKind_room_in1 hu) (Dw I q) hd dd ?_;have q:=(E8.val rel k).isSome_eq;rw[Option.isSome_map,h3]at q;rw[<-q];exact h _ (I.tok _)
theorem Ro(hu:A.units+1<cLine)(I:AT X ad σ H s)(r:DR X.prog X.w X.K H d u kvs)(q:Ad X.K H b (k.map kV))(h:∀s',AT X ad σ H s'->Q (.bool (!(B9 kvs k).isSome)) s'):
  wpAny (model X.prog X.w) A (compareOp .NotIn (.ref b) (.ref d)) Q E s:=by
 obtain⟨bs,xs,h3,h4,rel,z,hd,dd⟩:=r.at I;refine wpAny_notIn_heap (tupleKind_room_in1 hu) (Dw I q) hd dd ?_;have q:=(E8.val rel k).isSome_eq;rw[Option.isSome_map,h3]at q;rw[<-q];exact h _ (I.tok _)
end
noncomputable def LO(bs:List Ng)(k:List B6)(b:Addr)(v:V):List Ng:=if (bs.any λp=>decide (p.1=k))=true then bs.map (λp=>if p.1=k then (p.1,p.2.1,v) else p) else bs++[(k,b,v)]
theorem Nh(bs:List Ng)(k:List B6)(b:Addr)(v:V):(LO bs k b v).map IJ=Ff (bs.map IJ) k v:=by
 unfold LO Ff;have e:((bs.map IJ).any λkv=>decide (kv.1=k))=bs.any λp=>decide (p.1=k):=by rw[List.any_map];rfl
 rw[e]
 by_cases z:(bs.any λp=>decide (p.1=k))=true
 ·rw[qF z,qF z,Zd,Zd];refine Yg λp _=>?_;show IJ (if p.1=k then (p.1,p.2.1,v) else p)=if (IJ p).1=k then ((IJ p).1,v) else IJ p
  by_cases y:p.1=k
  ·rw[qF y,qF (show (IJ p).1=k from y)];rfl
  ·rw[qE y,qE (show ¬(IJ p).1=k from y)]
 ·rw[qE z,qE z,YV];rfl
theorem E8.put{bs:List Ng}{xs:List (List B6×Addr×Value)}(r:Paired E8 bs xs)(k:List B6)(b:Addr){y:V}(ry:A8 y u):Paired E8 (LO bs k b y) (storedH xs k b u):=by
 have e:(bs.any λp=>decide (p.1=k))=(atKey xs k).isSome:=by have q:=(E8.val r k).isSome_eq;rw[Option.isSome_map]at q;rw[<-q,<-IC,List.any_map];rfl
 unfold LO storedH;rw[e]
 by_cases q:(atKey xs k).isSome=true
 ·rw[qF q,qF q];clear e q
  induction r with
  |nil=>exact .nil
  | @cons p q ps qs hh t ih =>
   rw[ZV,ZV];refine .cons ?_ ih;obtain⟨h1,h2,h3⟩:=hh;unfold putAt
   by_cases e:p.1=k
   ·rw[qF e,qF (h1.symm.trans e)];exact⟨h1,h2,ry⟩
   ·rw[qE e,qE (λz=>e (h1.trans z))];exact⟨h1,h2,h3⟩
 ·rw[qE q,qE q];exact Paired.snoc r ⟨rfl,rfl,ry⟩
theorem P2{bs:List Ng}{k:List B6}{b:Addr}{v:V}{p:Ng}(h:p∈LO bs k b v):(∃q∈bs,p.1=q.1/\p.2.1=q.2.1)\/(p.1=k/\p.2.1=b):=by
 unfold LO at h
 split at h
 ·obtain⟨q,hq,e⟩:=Yd.mp h;refine .inl ⟨q,hq,?_⟩
  by_cases z:q.1=k
  ·rw[qF z]at e;subst e;exact⟨rfl,rfl⟩
  ·rw[qE z]at e;subst e;exact⟨rfl,rfl⟩
 ·rcases YR.mp h with z|z
  ·exact .inl ⟨p,z,rfl,rfl⟩
  ·rw[YT.mp z];exact .inr ⟨rfl,rfl⟩
theorem Rn.stay{P:Program}{w:World}{d:Addr}{bs:List Ng}{h2:Heap}(x:Rn P w d bs h1)(k:∀o,h1.get? d=some o->h2.get? d=some o):Rn P w d bs h2:=by obtain⟨z,hd,xs,rel,o,es,ep,e1,e2⟩:=x;exact⟨z,hd,xs,rel,o,es,ep,k _ e1,e2⟩
theorem Ad.upd'{K:qJ}{d:Addr}{φ:Heap->Prop}{u:HO}(hd:H d=some (.ext φ))(q:Ad K H a xs):Ad K (Ac H d u) a xs:=by
 rcases q with (z|⟨o,z⟩)|z
 ·exact .inl (.inl (by rw[AN (Eu z hd λy=>nomatch y)];exact z))
 ·exact .inl (.inr ⟨o,by rw[AN (Eu z hd λy=>nomatch y)];exact z⟩)
 ·exact .inr z
section
variable{X:Cx}{s:Shared}{d b:Addr}{kvs:List (List B6×V)}{k:List B6}{A:Around}{v:V}{r:Value}
theorem DW.put(I:AT X ad σ H s){bs:List Ng}{xs:List (List B6×Addr×Value)}(h1:H d=some (Q0 X.prog X.w d bs))(h4:P1 X.K H bs)(rel:Paired E8 bs xs)(hd:(d==sysModules)=false)(q:Ad X.K H b (k.map kV))(hz:(bs.map IJ).length<sizeLine)(rv:A8 v r)
  (dd':h'.DictOfH (tupleKind (Bq X.prog X.w)) d (storedH xs k b r)) (sb:Heap.SameBut d s.heap h'):∃u',DW X.prog X.w X.K (Ac H d u') d (Ff (bs.map IJ) k v)/\AT X ad σ (Ac H d u') {s with heap:=h',toks:=t'}:=by
 have hl:(LO bs k b v).length<=sizeLine:=by have a:=LI (bs.map IJ) k v;rw[<-Nh bs k b v,YG]at a;lia
 obtain⟨o,es,ep,g1,g2,g3,g4,_,g5⟩:=dd';refine⟨Q0 X.prog X.w d (LO bs k b v),⟨_,AE,Nh ..,λp hp=>?_⟩,Rh I (by rw[h1];exact True.intro) sb ⟨o,g1⟩ ⟨⟨hl,hd,_,E8.put rel k b rv,o,es,ep,g1,g2,g3,g4,g5⟩,⟨o,g1⟩,λh1 h2 x k=>Rn.stay x k⟩⟩;rcases P2 hp with⟨p',hp',e1,e2⟩|⟨e1,e2⟩
 ·rw[e1,e2];exact (h4 p' hp').upd' h1
 ·rw[e1,e2];exact q.upd' h1
theorem DW.at(I:AT X ad σ H s)(w:DW X.prog X.w X.K H d kvs):∃bs xs,H d=some (Q0 X.prog X.w d bs)/\bs.map IJ=kvs/\P1 X.K H bs/\Paired E8 bs xs/\xs.length<=sizeLine/\(d==sysModules)=false/\s.heap.DictOfH (tupleKind (Bq X.prog X.w)) d xs:=by obtain⟨bs,h1,h3,h4⟩:=w;obtain⟨z,hd,xs,rel,o,es,ep,e1,e2,e3,e4,e5⟩:=(show Ay X.prog X.w H s.heap d (.ext _) from I.hok d _ h1).1;refine⟨bs,xs,h1,h3,h4,rel,by rw[<-Paired.length rel];exact z,hd,o,es,ep,e1,e2,e3,e4,λx hx=>?_,e5⟩;obtain⟨i,hi⟩:=Y2.mp hx;have hl:=Paired.length rel;have hi':=(YJ.mp hi).1;obtain⟨y,hy,r1,r2,_⟩:=Bk rel (i:=i) (x:=bs[i]) (by simp[show i<bs.length by lia]);rw[hi]at hy;cases hy;rw[<-r1,<-r2];exact Dw I (h4 _ (ZM _))
theorem Oc{Q:Unit->Shared->Prop}(hu:A.units+1<cLine)(I:AT X ad σ H s)(w:DW X.prog X.w X.K H d kvs)(q:Ad X.K H b (k.map kV))(hz:kvs.length<sizeLine)(rv:A8 v r)(h:∀u' s',DW X.prog X.w X.K (Ac H d u') d (Ff kvs k v)->AT X ad σ (Ac H d u') s'->Q () s'):
  wpAny (model X.prog X.w) A (setItem (.ref d) (.ref b) r) Q E s:=by
 obtain⟨bs,xs,h1,h3,h4,rel,hl,hd,dd⟩:=w.at I;subst h3;refine wpAny_setItem_heap (hsz:=hl) (tupleKind_room_in1 hu) (Dw I q) dd λh' dd' sb=>?_;obtain⟨u',w',I'⟩:=DW.put (t':=s.toks+(tupleKind (Bq X.prog X.w)).draws k) I h1 h4 rel hd q hz rv dd' sb;exact h u' _ w' I'
end
end L2
namespace PySem
section
variable{prog:Program}{w:World}{A:Around}{E:Value->Shared->Prop}{s:Shared}{d:Addr}{o:Obj}{es:Array DictEntry}{ep:Nat}
theorem meets_lenR(hd:(d==sysModules)=false):MeetsIn prog w (Builtin.«dict.__len__» ⟨[.ref d],[]⟩) (λ_ R s=>∃o es ep,s.heap.get? d=some o/\o.data=.dict es ep/\R (.ok (.ret (.int es.size s.toks))) {s with toks:=s.toks+1}):=
 .of_wp λA R s ⟨o,es,ep,ho,hdat,h⟩=>by show wpAny _ _ (dictSize d >>= _) _ _ s;unfold dictSize;refine qC (qC (wpAny_dictEntries ho hdat (qD ?_)));show wpAny _ _ (Builtin.Dict.pendingCount d >>= _) _ _ s;refine qC (wpAny_pendingCount_other hd (wpAny_ret_mkInt ?_));rw[bH];exact h
theorem len_dictR{Q:Value->Shared->Prop}(hd:(d==sysModules)=false)(hT:s.TypeIs (.ref d) "dict")(ho:s.heap.get? d=some o)(hdat:o.data=.dict es ep)(hfit:(es.size:Int)<2^63)
  (h:Q (.int es.size (s.toks+1)) {s with toks:=s.toks+1+1}):wpAny (model prog w) A (call (.builtin "len") [.ref d]) Q E s:=by
 refine Calls.call_function_entry kind_len plain_len entry_len (args_len1 _) ?_;unfold Builtin.«len»
 refine qC (m:=oneArg "len" _) (qD (qC (m:=callSpecial? (.ref d) (Str.ofString "__len__")) (wpAny_callSpecial?_slot (name:=Str.ofString "__len__") hT F.slot_dict_len
  (call_meetsIn F.slot_dict_len hT F.entry_dict_len (F.args_dict_len_1 _) (meets_lenR hd) ⟨o,es,ep,ho,hdat,?_⟩))))
 show wpAny _ _ _ _ _ {s with toks:=s.toks+1};refine qC (wpAny_holding (qD (qC (wpAny_letGo ?_))));show wpAny _ _ (if ((es.size:Nat):Int)<0 then _ else _) _ _ _;rw[qE (by lia)];show wpAny _ _ (if ((es.size:Nat):Int)≥2^63 then _ else _) _ _ _;rw[qE (by lia)];exact qC (wpAny_mkInt (qD ⟨_,rfl,h⟩))
end
end PySem
namespace L2
open PySem PySem.Spec PyProof.Rows
variable{D:Gf}{H:Hp}{a it:Addr}{es:List Expr}{name:Str}{pos:Pos}{te tl to:TE}{tg:Expr}{tt:TT}{σ:St}{σf:List (Option V)}
section
variable(P:Program)(w:World)(K:qJ)
def Sy(td ty:TE):TE:=λσ H Q=>td σ H λx H1=>ty σ H1 λy H2=>∃(d b:Addr) (u:HO) (kvs:List (List B6×V)) (k:List B6) (v:V),x=.ref d/\y=.ref b/\DR P w K H2 d u kvs/\Ad K H2 b (k.map kV)/\B9 kvs k=some v/\Q v H2
def Vt(ty td:TE):TE:=λσ H Q=>ty σ H λy H1=>td σ H1 λx H2=>∃(d b:Addr) (u:HO) (kvs:List (List B6×V)) (k:List B6),x=.ref d/\y=.ref b/\DR P w K H2 d u kvs/\Ad K H2 b (k.map kV)/\Q (.bl (B9 kvs k).isSome) H2
def Ni(ty td:TE):TE:=λσ H Q=>ty σ H λy H1=>td σ H1 λx H2=>∃(d b:Addr) (u:HO) (kvs:List (List B6×V)) (k:List B6),x=.ref d/\y=.ref b/\DR P w K H2 d u kvs/\Ad K H2 b (k.map kV)/\Q (.bl (!(B9 kvs k).isSome)) H2
def Sz(td ty tv:TE):TS:=λD σ H=>tv σ H λv H1=>td σ H1 λx H2=>ty σ H2 λy H3=>∃(d b:Addr) (kvs:List (List B6×V)) (k:List B6),x=.ref d/\y=.ref b/\DW P w K H3 d kvs/\Ad K H3 b (k.map kV)/\kvs.length<sizeLine/\∀u',DW P w K (Ac H3 d u') d (Ff kvs k v)->D.nx σ (Ac H3 d u')
def S0:TE:=λ_ H Q=>∀p u',H p=none->DW P w K (Ac H p u') p []->Q (.ref p) (Ac H p u')
noncomputable def VL(d:Addr)(u:HO)(kvs:List (List B6×V)):It:=
 ⟨λi H=>DR P w K H d u kvs/\i<kvs.length,λi H x H'=>H'=H/\∃(b:Addr) (k:List B6) (v:V),x=.ref b/\kvs[i]?=some (k,v)/\Ad K H b (k.map kV),λi H=>DR P w K H d u kvs/\kvs.length<=i⟩
def P3(tl:TE):TI:=λσ H R=>tl σ H λx H1=>∃(d:Addr) (u:HO) (kvs:List (List B6×V)),x=.ref d/\DR P w K H1 d u kvs/\∀u',DR P w K (Ac H1 d u') d u' kvs->R (VL P w K d u' kvs) (Ac H1 d u')
end
variable{kvs:List (List B6×V)}
section
variable{X:Cx}{o i value:Expr}{pos':Pos}{td ty tv:TE}
theorem Rp(hu:X.A.units+1<cLine)(ho:PE X o td)(hi:PE X i ty)(hs:T4 i):PE X (.Subscript o i pos) (Sy X.prog X.w X.K td ty):=by intro ad s σ H Q I h;refine Ri PySem.F.slot_dict_getitem.lookup hs (BQ (ho ad s σ H _ I h) λu s1 ⟨x,H1,I1,rx,q1⟩=>BQ (hi ad s1 σ H1 _ I1 q1) λiv s2 z9=>?_);obtain⟨y,H2,I2,ry,d,b,uu,kvs,k,v,ex,ey,r,q,l,q2⟩:=z9;subst ex ey;cases rx;cases ry;obtain⟨bs,xs,_,_,_,_,_,dd⟩:=r.at I2;exact⟨dd.typeIs,Ob hu I2 r q l λw' s3 I3 rw'=>⟨v,H2,I3,rw',q2⟩⟩
theorem T8(hu:X.A.units+1<cLine)(hi:PE X i ty)(ho:PE X o td):PC X .In i o (Vt X.prog X.w X.K ty td):=by
 intro ad s σ H Q I h;refine BQ (hi ad s σ H _ I h) λiv s1 ⟨y,H1,I1,ry,q1⟩=>BQ (ho ad s1 σ H1 _ I1 q1) λu s2 z9=>?_
 obtain⟨x,H2,I2,rx,d,b,uu,kvs,k,ex,ey,r,q,q2⟩:=z9;subst ex ey;cases rx;cases ry;exact Xb hu I2 r q λs3 I3=>⟨.bl (B9 kvs k).isSome,H2,I3,rfl,q2⟩
theorem Od(hu:X.A.units+1<cLine)(hi:PE X i ty)(ho:PE X o td):PC X .NotIn i o (Ni X.prog X.w X.K ty td):=by
 intro ad s σ H Q I h;refine BQ (hi ad s σ H _ I h) λiv s1 ⟨y,H1,I1,ry,q1⟩=>BQ (ho ad s1 σ H1 _ I1 q1) λu s2 z9=>?_
 obtain⟨x,H2,I2,rx,d,b,uu,kvs,k,ex,ey,r,q,q2⟩:=z9;subst ex ey;cases rx;cases ry;exact Ro hu I2 r q λs3 I3=>⟨.bl (!(B9 kvs k).isSome),H2,I3,rfl,q2⟩
theorem Rq(hu:X.A.units+1<cLine)(ho:PE X o td)(hi:PE X i ty)(hv:PE X value tv)(hs:swapsWith value (some (.Subscript o i pos')) pos.line X.env=pure false):
  PS X (.Assign [.Subscript o i pos'] value pos) (Sz X.prog X.w X.K td ty tv):=by
 intro ad s σ H D I h;refine wpAny_Assign_Subscript (BQ (hv ad s σ H _ I h) λr s1 ⟨v,H1,I1,rv,q1⟩=>BQ (ho ad s1 σ H1 _ I1 q1) λu s2 ⟨x,H2,I2,rx,q2⟩=>BQ (hi ad s2 σ H2 _ I2 q2) λiv s3 z9=>?_) hs;obtain⟨y,H3,I3,ry,d,b,kvs,k,ex,ey,g,q,l,q3⟩:=z9;subst ex ey;cases rx;cases ry;exact Oc hu I3 g q l rv λu' s4 w4 I4=>⟨σ,_,I4,q3 u' w4⟩
theorem Rr:PE X (.Dict [] [] pos) (S0 X.prog X.w X.K):=λad s σ H Q I h =>
 wpAny_Dict_empty ⟨.ref s.heap.objs.size,_,I.laid (a:=s.heap.objs.size) (o:=Q0 X.prog X.w s.heap.objs.size []) (t':=s.toks) (λ_ _ q=>YK _ q) (YL _)
  ⟨⟨ZT _,beq_eq_false_iff_ne.mpr (Ne.symm (Yp I.big)),[],.nil,_,#[],0,YX _ rfl,⟨rfl,rfl,rfl⟩,rfl,rfl,aZ⟩,⟨_,YX _ rfl⟩,λh1 h2 x k=>Rn.stay x k⟩,rfl,
  h _ _ (I.hok.fresh (YL _)) ⟨[],AE,rfl,λp hp=>nomatch hp⟩⟩
theorem Oe:CK X (.builtin "len") (λxs H Q=>∃(d:Addr) (u:HO) (kvs:List (List B6×V)),xs=[V.ref d]/\DR X.prog X.w X.K H d u kvs/\Q (.int kvs.length) H):=by
 intro ad s σ H xs us Q I r h;obtain⟨d,u,kvs,rfl,ha,q⟩:=h;obtain⟨uu,rfl,ru⟩:=Ev r;cases ru;obtain⟨bs,ys,h3,_,rel,z,hd,dd⟩:=ha.at I;have hT:s.TypeIs (.ref d) "dict":=dd.typeIs;obtain⟨ob,es,ep,g1,g2,g3,g4,_⟩:=dd
 have hz:es.size=kvs.length:=by have a:=congrArg List.length g4;have b:=Paired.length rel;rw[<-h3];simp at a;simp;lia
 have l1:bs.length=kvs.length:=by rw[<-h3,YG]
 refine len_dictR hd hT g1 g3 (by rw[sizeLine_eq]at z;lia) ⟨.int kvs.length,H,I.tok _,⟨_,by rw[hz]⟩,q⟩
theorem Mj(hu:X.A.units+1<cLine):XB X "dict.setdefault" (λx xs H Q=>∃(d b:Addr) (kvs:List (List B6×V)) (k:List B6) (y:V),x=.ref d/\xs=[.ref b,y]/\DW X.prog X.w X.K H d kvs/\Ad X.K H b (k.map kV)/\kvs.length<sizeLine /\
  (∀z,B9 kvs k=some z->Q z H)/\(B9 kvs k=none->∀u',DW X.prog X.w X.K (Ac H d u') d (Ff kvs k y)->Q y (Ac H d u'))):=by
 intro ad s σ H x xs v us Q I rx rs h;obtain⟨d,b,kvs,k,y,rfl,rfl,e,eb,hz,h1,h2⟩:=h;obtain⟨u1,u2,rfl,r1,r2⟩:=O8 rs;cases rx;cases r1;obtain⟨bs,es,g1,g3,g4,rel,hl,hd,dd⟩:=e.at I;subst g3;have rk:=E8.val rel k;refine call_meetsIn aE dd.typeIs PySem.F.entry_dict_setdefault (PySem.F.args_dict_setdefault_3 _ _ _) (meetsH_setDef (tupleKind (Bq X.prog X.w)) d b hd u2) ⟨tupleKind_room_in1 hu,k,es,Dw I eb,dd,hl,λp hp=>?_,λhn hp dd' sb=>?_⟩
 ·rw[hp]at rk;cases hv:B9 (bs.map IJ) k with
  |none=>rw[hv]at rk;exact (show False from rk).elim
  |some t =>
   rw[hv]at rk;exact⟨t,H,I.tok _,rk,h1 t hv⟩
 ·have hv:B9 (bs.map IJ) k=none:=by
   cases hv:B9 (bs.map IJ) k with
   |none=>rfl
   |some t=>rw[hv,hn]at rk;exact (show False from rk).elim
  obtain⟨u',w',I'⟩:=DW.put (t':=s.toks+(tupleKind (Bq X.prog X.w)).draws k) I g1 g4 rel hd eb hz r2 dd' sb;exact⟨y,_,I',r2,h2 hv u' w'⟩
theorem Mk{P:Program}{w:World}{K:qJ}{d:Addr}{ob:Obj}{φ:Heap->Prop}{es:Array DictEntry}{ep:Nat}(ho:ob.data=.dict es ep)(hl:es.size=kvs.length):JB P w K tg (VL P w K d (.frz ob (.ext φ)) kvs) [it] it (λi h=>h.IsKeyIter it d i es.size ep) where
 mem:=by simp
 obj:=λi h st b hb=>by
  have e:b=it:=by simpa using hb
  subst e;obtain⟨o,e,c,d⟩:=st;exact⟨o,e,λv z=>by rw[d]at z;cases z⟩
 keep:=λi h h' st k=>st.at λo e=>k it (by simp) o e
 item:=by
  rintro X hP hw hK hc i ad s σ H E I hf st ⟨hg,hi⟩;subst hP hw hK;obtain⟨f0,f1,f2,f3,f4,f5⟩:=hf it (by simp);obtain⟨bs,h1,h2,h3,h4⟩:=hg;obtain⟨g0,g1,_⟩:=(show Ay X.prog X.w H s.heap d (.frz ob (.ext φ)) from I.hok d _ h1)
  have dx:Rn X.prog X.w d bs s.heap:=by
   rcases h2 with e|⟨o',e⟩
   ·cases e
   ·cases e;exact g1
  obtain⟨_,_,xs,rel,o2,es2,ep2,e2,_,d2,rows,_⟩:=dx;rw[g0]at e2;cases e2;rw[ho]at d2;cases d2;have hie:i<es.size:=by lia
  have hib:i<bs.length:=by rw[<-h3,YG]at hi;exact hi
  obtain⟨q,hq,r1,r2,r3⟩:=Bk rel (i:=i) (x:=bs[i]) (by simp[hib])
  have he:es[i].key=.ref bs[i].2.1:=by
   have z:es.toList[i]?=some es[i]:=by simp[hie]
   rw[rows,YO,hq]at z;rw[r2];exact (congrArg DictEntry.key (Option.some.inj z)).symm
  refine keys_item st g0 ho hie λh' st' sb=>?_;have I1:AT X ad σ H {s with heap:=h'}:=I.turned (t':=s.toks) (λb o hb e=>(sb.2 b hb).trans e) f0 f1 f3 f4 f5;obtain⟨oo,e,c,dd⟩:=id st';exact⟨_,rfl,Km (s:={s with heap:=h'}) e c dd (by decide) ⟨.ref bs[i].2.1,H,I1,by rw[he];rfl,⟨rfl,bs[i].2.1,bs[i].1,bs[i].2.2,rfl,by rw[<-h3,List.getElem?_map];simp[hib,IJ],h4 _ (List.getElem_mem _)⟩,st',λb hb=>(hf b hb).1⟩⟩
 done:=by rintro X hP hw hK hc i ad s σ H E I hf st ⟨hg,hi⟩;subst hP hw hK;obtain⟨f0,f1,f2,f3,f4,f5⟩:=hf it (by simp);obtain⟨bs,h1,_⟩:=hg;obtain⟨g0,g1⟩:=(show Ay X.prog X.w H s.heap d (.frz ob (.ext φ)) from I.hok d _ h1);exact keys_end (I.ok.hd hc) st g0 ho (by lia) λh' eb=>⟨rfl,I.turned (t':=s.toks) (λb o hb e=>eb b o hb e) f0 f1 f3 f4 f5⟩
 self:=λ_ _ _ _ _ st h=>wpAny_pyIter_keyiter st h
theorem P4{l:Expr}(hl:PE X l tl):PI X tg l (P3 X.prog X.w X.K tl):=by
 intro ad s σ H R I h;refine BQ (hl ad s σ H _ I h) λv s1 z9=>?_;obtain⟨x,H1,I1,r1,q1⟩:=z9;obtain⟨d,u,kvs,e,hq,q⟩:=q1;subst e;cases r1;obtain⟨bs,h1,h2,h3,h4⟩:=hq
 have dx:Rn X.prog X.w d bs s1.heap:=by
  rcases h2 with e|⟨o,e⟩
  ·subst e;exact (show Ay X.prog X.w H1 s1.heap d (.ext _) from I1.hok d _ h1).1
  ·subst e;exact (show Ay X.prog X.w H1 s1.heap d (.ext _) from (show Ay X.prog X.w H1 s1.heap d (.frz o _) from I1.hok d _ h1).2).1
 obtain⟨z,hm,xs,rel,o,es,ep,ho,hx,hd,rows,nd⟩:=dx
 have I2:AT X ad σ (Ac H1 d (.frz o (Q0 X.prog X.w d bs))) s1:=by
  rcases h2 with e|⟨o',e⟩
  ·subst e;exact I1.freeze h1 (λ_ z=>nomatch z) (λ_ _ z=>nomatch z) (λ_ z=>nomatch z) (λ_ z=>nomatch z) ho
  ·subst e;obtain⟨g0,_⟩:=(show Ay X.prog X.w H1 s1.heap d (.frz o' _) from I1.hok d _ h1);rw[ho]at g0;cases g0;rw[T7 h1];exact I1
 have hsz:es.size=kvs.length:=by have a:=congrArg List.length rows;have b:=Paired.length rel;rw[<-h3];simp at a;simp;lia
 have dr:DR X.prog X.w X.K (Ac H1 d (.frz o (Q0 X.prog X.w d bs))) d (.frz o (Q0 X.prog X.w d bs)) kvs:=⟨bs,AE,.inr ⟨o,rfl⟩,h3,λp hp=>by
  have k:=h4 p hp;rcases h2 with e|⟨o',e⟩
  ·subst e;exact k.upd' h1
  ·subst e;rcases k with (z|⟨o2,z⟩)|z
   ·exact .inl (.inl (by rw[AN (Eu z h1 λy=>nomatch y)];exact z))
   ·exact .inl (.inr ⟨o2,by rw[AN (Eu z h1 λy=>by cases y)];exact z⟩)
   ·exact .inr z⟩
 refine keys_iter hm ⟨o,ho,hx.1⟩ ho hd ⟨s1.heap.objs.size,[s1.heap.objs.size],_,_,_,rfl,I2.kept (t':=s1.toks) λb o e=>YK _ e,Mk hd hsz,⟨_,YX _ rfl,rfl,rfl⟩,λb hb=>?_,q _ dr⟩;have e:b=s1.heap.objs.size:=by simpa using hb
 subst e;exact I2.fpOk (YL _) (I2.hok.fresh (YL _))
theorem Of{P:Program}{w:World}{K:qJ}{d:Addr}{u:HO}{g:TG}{tb:TS}(Pv:Nat->St->Hp->Prop)(h0:Pv 0 σ H)(hl:∀i σ H,i<=kvs.length->Pv i σ H->DR P w K H d u kvs)
  (hs:∀i b k v σ H,kvs[i]?=some (k,v)->Ad K H b (k.map kV)->Pv i σ H->g (.ref b) σ H λσ2 H2=>tb {D with nx:=Pv (i+1),ct:=Pv (i+1),bk:=D.nx} σ2 H2) (hd:∀σ H,Pv kvs.length σ H->D.nx σ H):
  ∃W:Nat->Nat->St->Hp->Prop,(∃m,W 0 m σ H)/\∀i m σ H,W i m σ H ->
   ((VL P w K d u kvs).stop i H/\D.nx σ H)\/((VL P w K d u kvs).go i H/\∃N:St->Hp->Prop,(∀σ' H',N σ' H'->∃m',m'<m/\W (i+1) m' σ' H')/\∀x H',(VL P w K d u kvs).yld i H x H'->g x σ H' λσ2 H2=>tb {D with nx:=N,ct:=N,bk:=D.nx} σ2 H2):=by
 refine⟨λi m σ H=>m=kvs.length-i/\i<=kvs.length/\Pv i σ H,⟨kvs.length,by simp,Nat.zero_le _,h0⟩,?_⟩;rintro i m σ H ⟨rfl,hi,p⟩;have q:=hl i σ H hi p
 by_cases hlt:i<kvs.length
 ·refine .inr ⟨⟨q,hlt⟩,Pv (i+1),λσ' H' p'=>⟨kvs.length-(i+1),by lia,rfl,hlt,p'⟩,λx H' y=>?_⟩;obtain⟨e,b,k,v,ex,hk,hb⟩:=y;subst e ex;exact hs i b k v σ _ hk hb p
 ·have e:i=kvs.length:=by lia
  subst e;exact .inl ⟨⟨q,YL _⟩,hd σ H p⟩
theorem E9{P:Program}{w:World}{K:qJ}{d:Addr}{u:HO}{D:Addr}{Q:VK}(Pv:Nat->List V->Hp->Prop)(h0:Pv 0 [] (Ac H D (.lst [])))(hl:∀i bg H,i<=kvs.length->Pv i bg H->DR P w K H d u kvs)
  (hs:∀i b k v bg H2,kvs[i]?=some (k,v)->Ad K H2 b (k.map kV)->Pv i bg H2->tt (some (.ref b)::σf) H2 λt H4=>if t=true then te (some (.ref b)::σf) H4 λy H5=>H5 D=some (.lst bg)/\bg.length<sizeLine/\Pv (i+1) (bg++[y]) (Ac H5 D (.lst (bg++[y]))) else Pv (i+1) bg H4)
  (hd:∀bg H2,Pv kvs.length bg H2->Q (.ref D) H2):EJ (VL P w K d u kvs) tt te σf D Q H:=by
 refine⟨λk i bg H=>k=kvs.length-i/\i<=kvs.length/\Pv i bg H,⟨kvs.length,by simp,Nat.zero_le _,h0⟩,?_⟩;rintro k i bg H2 ⟨rfl,hi,p⟩;have q:=hl i bg H2 hi p
 by_cases hlt:i<kvs.length
 ·refine .inr ⟨⟨q,hlt⟩,Pv (i+1),λl H' p'=>⟨kvs.length-(i+1),by lia,rfl,hlt,p'⟩,λx H' y=>?_⟩;obtain⟨e,b,k,v,ex,hk,hb⟩:=y;subst e ex;exact hs i b k v bg _ hk hb p
 ·have e:i=kvs.length:=by lia
  subst e;exact .inl ⟨⟨q,YL _⟩,hd bg H2 p⟩
section
variable{P:Program}{w:World}{K:qJ}
theorem C9(hP:X.prog=P)(hw:X.w=w)(hK:X.K=K)(hu:X.A.units+1<cLine)(ho:PE X o td)(hi:PE X i ty)(hs:T4 i):PE X (.Subscript o i pos) (Sy P w K td ty):=by subst hP hw hK;exact Rp hu ho hi hs
theorem Rs(hP:X.prog=P)(hw:X.w=w)(hK:X.K=K)(hu:X.A.units+1<cLine)(hi:PE X i ty)(ho:PE X o td):PC X .In i o (Vt P w K ty td):=by subst hP hw hK;exact T8 hu hi ho
theorem Ml(hP:X.prog=P)(hw:X.w=w)(hK:X.K=K)(hu:X.A.units+1<cLine)(hi:PE X i ty)(ho:PE X o td):PC X .NotIn i o (Ni P w K ty td):=by subst hP hw hK;exact Od hu hi ho
theorem LQ(hP:X.prog=P)(hw:X.w=w)(hK:X.K=K)(hu:X.A.units+1<cLine)(ho:PE X o td)(hi:PE X i ty)(hv:PE X value tv)(hs:swapsWith value (some (.Subscript o i pos')) pos.line X.env=pure false):PS X (.Assign [.Subscript o i pos'] value pos) (Sz P w K td ty tv):=by subst hP hw hK;exact Rq hu ho hi hv hs
theorem IK(hP:X.prog=P)(hw:X.w=w)(hK:X.K=K):PE X (.Dict [] [] pos) (S0 P w K):=by subst hP hw hK;exact Rr
theorem Mm(hP:X.prog=P)(hw:X.w=w)(hK:X.K=K):CK X (.builtin "len") (λxs H Q=>∃(d:Addr) (u:HO) (kvs:List (List B6×V)),xs=[V.ref d]/\DR P w K H d u kvs/\Q (.int kvs.length) H):=by subst hP hw hK;exact Oe
theorem Gb(hP:X.prog=P)(hw:X.w=w)(hK:X.K=K)(hu:X.A.units+1<cLine):XB X "dict.setdefault" (λx xs H Q=>∃(d b:Addr) (kvs:List (List B6×V)) (k:List B6) (y:V),x=.ref d/\xs=[.ref b,y]/\DW P w K H d kvs/\Ad K H b (k.map kV)/\kvs.length<sizeLine /\
  (∀z,B9 kvs k=some z->Q z H)/\(B9 kvs k=none->∀u',DW P w K (Ac H d u') d (Ff kvs k y)->Q y (Ac H d u'))):=by subst hP hw hK;exact Mj hu
theorem En(hP:X.prog=P)(hw:X.w=w)(hK:X.K=K){l:Expr}(hl:PE X l tl):PI X tg l (P3 P w K tl):=by subst hP hw hK;exact P4 hl
noncomputable def Nj(K:qJ)(a:Addr)(ns:List Int):Bool:=match K.lookup a with
 |some o=>o.cls==.type "tuple"&&(match o.data with|.seq its _=>decide (its.size<=1000)&&decide (its.toList.map RB=ns.map λn=>some (V.int n))|_=>false)
 |none=>false
end
end
theorem LR:∀{ns:List Int} {us:List Value},us.map RB=ns.map (λn=>some (V.int n))->Ax (ns.map V.int) us
 |[],[],_=>.nil
 |[],_::_,h=>by cases h
 |_::_,[],h=>by cases h
 |n::ns,u::us,h=>by
  rw[ZV,ZV]at h
  injection h with h1 h2
  refine .cons ?_ (LR h2);cases u<;>simp[RB]at h1;subst h1;exact⟨_,rfl⟩
theorem Fi{K:qJ}{ns:List Int}(h:Nj K a ns=true)(H:Hp):Ad K H a (ns.map V.int):=by
 unfold Nj at h
 split at h
 ·rename_i o e
  rw[Zi]at h;obtain⟨h1,h2⟩:=h
  split at h2
  ·rename_i its n ed
   rw[Zi]at h2;have s:=of_decide_eq_true h2.1;exact .inr ⟨o,its,n,e,eq_of_beq h1,ed,by rw[sizeLine_eq];lia,LR (of_decide_eq_true h2.2)⟩
  ·cases h2
 ·cases h
def Xc(P:Program)(w:World)(K:qJ)(r:V->List V->Hp->VK->Prop)(to:TE)(t:TA):TE:=λσ H Q=>to σ H λx H1=>(∃(d:Addr) (u:HO) (kvs:List (List B6×V)),x=.ref d/\DR P w K H1 d u kvs)/\t σ H1 λxs H2=>r x xs H2 Q
theorem P5{X:Cx}{P:Program}{w:World}{K:qJ}{o e:Expr}{t:TA}{apos cpos:Pos}{id:String}{r:V->List V->Hp->VK->Prop}(hP:X.prog=P)(hw:X.w=w)(hK:X.K=K)(slot:Slot "dict" name id)(hty:typeOf (.builtin id)=pure (.type "method_descriptor"))(hm:XB X id r)(ho:PE X o to)(ha:PA X (e::es) t)(hbase:attributeBase o name X.env (eval o X.env)=eval o X.env:=by rfl)(hfew:((backTo cpos (starEach (e::es) X.env)).all (λx=>!x.1)&&(backToKw cpos (keywordEach [] X.env)).all (λx=>x.1.isSome)&&decide ((e::es).length+([]:List Keyword).length+(if ([]:List Keyword).isEmpty then 0 else 1)<30))=true:=by rfl)(hline:(apos.endLine==cpos.line)=true:=by rfl)
  (hs:starEach (e::es) X.env=(false,eval e X.env)::starEach es X.env:=by rfl) (hplain:(backTo cpos (starEach es X.env)).any (·.1)=false:=by rfl):PE X (.Call (.Attribute o name apos) (e::es) [] cpos) (Xc P w K r to t):=by
 subst hP hw hK;intro ad s σ H Q I h;refine wpAny_Call_method_late hbase hfew hline rfl (BQ (ho ad s σ H _ I h) λv s1 z9=>?_);obtain⟨x,H1,I1,r1,⟨d,u,kvs,ex,dr⟩,q1⟩:=z9;subst ex;cases r1;obtain⟨bs,xs,_,_,_,_,_,dd⟩:=dr.at I1;have h1:s1.TypeIs (.ref d) "dict":=dd.typeIs
 refine⟨"dict",id,PySem.F.plainAttrs_dict,slot,hty,h1,λb q=>by cases q;obtain⟨ob,_,_,g1,g2,_⟩:=dd;exact⟨ob,g1,g2.2.1⟩,?_⟩
 have hA:=ha cpos ad s1 σ H1 _ I1 q1;rw[hs]at hA⊢;refine Calls.callWith_builtin (by show (false||(backTo cpos (starEach es X.env)).any (·.1))=false;rw[hplain]<;>rfl) (Calls.evalArgs_plain (BQ hA λus s2 ⟨vs,H2,I2,r2,q2⟩=>hm ad s2 σ H2 (.ref d) vs (.ref d) us Q I2 rfl r2 q2))
end L2
namespace PySem
open Sem (wp)
end PySem
namespace L2
open PySem PySem.Spec PyProof.Rows
end L2
namespace L2
open PySem PySem.Spec PyProof.Rows RW
variable{G i j:Nat}{H H':Hp}{a:Addr}{c b9:List Int}{kvs:List (List B6×V)}{te tl:TE}{tg:Expr}{tt:TT}{xs ys:List V}{α β:Type}{σf:List (Option V)}
noncomputable def C0(p:Nat×Nat):Nat×Nat:=if p.1=p.2 then (0,0) else p
theorem B4(u:Nat):C0 (u,u)=(0,0):=qF rfl
def Gi(G h:Nat)(b9:List Int)(p q:Nat×Nat):Prop:=∃a b,a<h*G/\b<h*G/\a≠b/\b9.getD a 0=b9.getD b 0/\p=C0 (a/G,b/G)/\q=C0 (a%h,b%h)
def FC(G h:Nat)(b9:List Int)(rk:Nat×Nat->Nat):Prop:=∀p q,Gi G h b9 p q->rk p<rk q
theorem Fj{n:Nat}{f:Nat->Int}(h:1<=Ag n f):∃j,j<n/\1<=f j:=by
 induction n with
 |zero=>rw[Bf]at h;lia
 |succ n ih =>
  rw[Ao]at h
  by_cases z:1<=f n
  ·exact⟨n,by lia,z⟩
  ·obtain⟨j,hj,hf⟩:=ih (by lia);exact⟨j,by lia,hf⟩
theorem P6{n:Nat}{f:Nat->Int}(h1:∀j,j<n->f j<=1)(h2:∀i j,i<n->j<n->i≠j->1<=f i->f j<=0):Ag n f<=1:=by
 induction n with
 |zero=>rw[Bf];lia
 |succ n ih =>
  rw[Ao];have a:=ih (λj hj=>h1 j (by lia)) λi j hi hj=>h2 i j (by lia) (by lia)
  have b:=h1 n (by lia)
  by_cases z:1<=f n
  ·have c:Ag n f<=0:=by
    by_cases y:1<=Ag n f
    ·obtain⟨j,hj,hf⟩:=Fj y;have:=h2 n j (by lia) (by lia) (by lia) z;lia
    ·lia
   lia
  ·lia
theorem GF{n:Nat}{f g:Nat->Int}(h:∀k,k<n->f k<=g k):Ag n f<=Ag n g:=by
 induction n with
 |zero=>rw[Bf,Bf];lia
 |succ n ih =>
  rw[Ao,Ao];have:=ih λk hk=>h k (by lia)
  have:=h n (by lia);lia
theorem Gz{p:Bool}{x:Int}(h:1<=DD p x):p=true/\1<=x:=by
 unfold DD at h
 split at h
 ·rename_i z;exact⟨z,h⟩
 ·lia
section
variable{h:Nat}
theorem Nk{s:Int}{r:List Int}{u v:Nat}(hw:1<=Qz G b9 h (s::r) u v):∃j,j<G/\b9.getD (u*G+j) 0=s/\1<=Qz G b9 h r ((u*G+j)%h) v:=by obtain⟨j,hj,hf⟩:=Fj (show 1<=Ag G _ from hw);obtain⟨h1,h2⟩:=Gz hf;exact⟨j,hj,of_decide_eq_true h1,h2⟩
theorem G1{u:Nat}(hu:u<h)(hj:j<G):u*G+j<h*G:=by have:=aS G (show u+1<=h from hu);rw[Nat.add_mul,Nat.one_mul]at this;lia
theorem Cc{u:Nat}(hj:j<G):(u*G+j)/G=u:=by rw[am,Nat.add_mul_div_right _ _ (by lia),Nat.div_eq_of_lt hj,bV]
theorem S4{rk:Nat×Nat->Nat}(hr:FC G h b9 rk)(h0:0<h){v:Nat}:∀(r:List Int) {u u':Nat},u<h->u'<h->1<=Qz G b9 h r u v->1<=Qz G b9 h r u' v->rk (C0 (u,u'))<=rk (0,0)
 |[],u,u',_,_,h1,h2=>by
  have e:∀{u:Nat},1<=Qz G b9 h [] u v->u=v:=λ{u} z=>by
   have z:(1:Int)<=if u=v then 1 else 0:=z
   by_cases y:u=v
   ·exact y
   ·rw[qE y]at z;lia
  rw[e h1,e h2,B4];exact YL _
 |s::r,u,u',hu,hu',h1,h2=>by
  obtain⟨j,hj,hs,hw⟩:=Nk h1;obtain⟨j',hj',hs',hw'⟩:=Nk h2
  by_cases e:u*G+j=u'*G+j'
  ·have:u=u':=by rw[<-Cc (u:=u) hj,e,Cc hj']
   rw[this,B4];exact YL _
  ·have a:=hr _ _ ⟨u*G+j,u'*G+j',G1 hu hj,G1 hu' hj',e,hs.trans hs'.symm,rfl,rfl⟩;rw[Cc hj,Cc hj']at a;have b:=S4 hr h0 r (Yz (u*G+j) h0) (Yz (u'*G+j') h0) hw hw';lia
theorem P7{rk:Nat×Nat->Nat}(hr:FC G h b9 rk)(h0:0<h){v:Nat}:∀(r:List Int) {u:Nat},u<h->Qz G b9 h r u v<=1
 |[],u,_=>by
  show (if u=v then (1:Int) else 0)<=1
  split<;>lia
 |s::r,u,hu=>by
  refine P6 (λj hj=>?_) λi j hi hj ne hp=>?_
  ·have a:=P7 hr h0 (v:=v) r (Yz (u*G+j) h0);unfold DD
   split<;>lia
  ·obtain⟨p1,p2⟩:=Gz hp
   by_cases z:1<=DD (decide (b9.getD (u*G+j) 0=s)) (Qz G b9 h r ((u*G+j)%h) v)
   ·obtain⟨q1,q2⟩:=Gz z;have a:=hr _ _ ⟨u*G+i,u*G+j,G1 hu hi,G1 hu hj,by lia,(of_decide_eq_true p1).trans (of_decide_eq_true q1).symm,rfl,rfl⟩;rw[Cc hi,Cc hj,B4]at a;have b:=S4 hr h0 r (Yz (u*G+i) h0) (Yz (u*G+j) h0) p2 q2;lia
   ·lia
end
theorem P8(h0:0<b9.length/G):∀(r:List Int) {u:Nat},u<b9.length/G->DE G b9 r u=Ag (b9.length/G) λv=>Qz G b9 (b9.length/G) r u v
 |[],u,hu=>by
  have z:=Hm (b9.length/G) u hu 1;refine z.symm.trans (Ar λv _=>?_);show DD (decide (v=u)) 1=if u=v then 1 else 0;unfold DD
  by_cases e:v=u
  ·rw[qF (qH e),qF e.symm]
  ·rw[qE (by rw[decide_eq_true_iff];exact e),qE λy=>e y.symm]
 |s::r,u,hu=>by
  show Ag G (λj=>DD (decide (b9.getD (u*G+j) 0=s)) (DE G b9 r ((u*G+j)%(b9.length/G))))=Ag _ λv=>Ag G λj=>DD (decide (b9.getD (u*G+j) 0=s)) (Qz G b9 (b9.length/G) r ((u*G+j)%(b9.length/G)) v)
  rw[Cw];refine Ar λj _=>?_;rw[P8 h0 r (Yz _ h0),Rk]
theorem T9{rk:Nat×Nat->Nat}(hr:FC G (b9.length/G) b9 rk)(h0:0<b9.length/G)(r:List Int):B2 G b9 r<=((b9.length/G:Nat):Int)*((b9.length/G:Nat):Int):=by unfold B2;refine bG (GF (g:=λ_=>((b9.length/G:Nat):Int)) λu hu=>?_) (by rw[BE];exact Zp _);rw[P8 h0 r hu];refine bG (GF (g:=λ_=>(1:Int)) λv _=>P7 hr h0 r hu) ?_;rw[BE,aI];exact Zp _
theorem LS(h0:0<b9.length/G)(c:List Int):∀(r:List Int) {u:Nat},u<b9.length/G->1<=DE G b9 (r++c) u->∃v,v<b9.length/G/\1<=DE G b9 c v
 |[],u,hu,h=>⟨u,hu,h⟩
 |s::r,u,hu,h=>by obtain⟨j,hj,hf⟩:=Fj (show 1<=Ag G _ from h);exact LS h0 c r (Yz _ h0) (Gz hf).2
theorem P9(h0:0<b9.length/G){r:List Int}(h:1<=B2 G b9 (r++c)):1<=B2 G b9 c:=by obtain⟨u,hu,hc⟩:=Fj (show 1<=Ag _ _ from h);obtain⟨v,hv,hw⟩:=LS h0 c r hu hc;exact bG hw (KI (λk _=>C8 G b9 c k) hv)
theorem QC{n:Nat}{f:Nat->Int}{M:Int}(h:∀k,k<n->f k<=M)(e:(n:Int)*M<=Ag n f):∀k,k<n->f k=M:=by
 induction n with
 |zero=>intro k hk;lia
 |succ n ih =>
  rw[Ao]at e
  have a:Ag n f<=(n:Int)*M:=by rw[<-BE];exact GF λk hk=>h k (by lia)
  have b:=h n (by lia);have c:((n+1:Nat):Int)*M=(n:Int)*M+M:=by rw[ZF,Int.add_mul];lia
  intro k hk
  by_cases z:k=n
  ·subst z;lia
  ·exact ih (λk hk=>h k (by omega)) (by omega) k (by omega)
theorem ER(G2:2<=G)(hb:∀n∈b9,0<=n/\n<(G:Int)){rk:Nat×Nat->Nat}(hr:FC G (b9.length/G) b9 rk)(h0:0<b9.length/G)(hc:∀n∈c,0<=n/\n<(G:Int)):1<=B2 G b9 c:=by
 have bd:=T9 hr h0;generalize ((b9.length/G:Nat):Int)*((b9.length/G:Nat):Int)=B at bd
 have top:∀(k:Nat) (r:List Int),B-B2 G b9 r<=(k:Int)->∃r':List Int,B2 G b9 r<=B2 G b9 r'/\∀s:List Int,B2 G b9 s<=B2 G b9 r':=by
  intro k
  induction k with
  |zero =>
   intro r hk;exact⟨r,Zp _,λs=>by have:=bd s;lia⟩
  |succ k ih =>
   intro r hk
   by_cases z:∃s,B2 G b9 r<B2 G b9 s
   ·obtain⟨s,hs⟩:=z;obtain⟨r',h1,h2⟩:=ih s (by lia);exact⟨r',by lia,h2⟩
   ·exact⟨r,Zp _,λs=>by
     by_cases y:B2 G b9 s<=B2 G b9 r
     ·exact y
     ·exact qG ⟨s,by lia⟩ z⟩
 obtain⟨r,h1,h2⟩:=top (B-B2 G b9 []).toNat [] (by lia)
 have one:1<=B2 G b9 []:=by have z:B2 G b9 []=((b9.length/G:Nat):Int)*1:=BE _ _;rw[z];lia
 have ext:∀(k:Nat) (c:List Int),c.length=k->(∀n∈c,0<=n/\n<(G:Int))->B2 G b9 (r++c)=B2 G b9 r:=by
  intro k
  induction k with
  |zero =>
   intro c hl _;rw[ax.mp hl,Yt]
  |succ k ih =>
   intro c hl hcb;have ne:c≠[]:=λz=>by rw[z]at hl;cases hl
   have e:=List.dropLast_concat_getLast ne;have lb:=hcb _ (List.getLast_mem ne);have a:=ih c.dropLast (by rw[List.length_dropLast];lia) λn hn=>hcb n ((List.dropLast_subset c) hn)
   have b:=Hr G2 hb (r++c.dropLast);rw[a]at b;have d:=QC (n:=G) (f:=λs=>B2 G b9 (r++c.dropLast++[(s:Int)])) (M:=B2 G b9 r) (λk _=>h2 _) (by rw[b,Zh];exact Zp _) (c.getLast ne).toNat (by lia);rw[show (((c.getLast ne).toNat:Nat):Int)=c.getLast ne by lia,Yu,e]at d;exact d
 exact P9 h0 (r:=r) (by rw[ext _ c rfl hc];lia)
section
variable{S:Nat×Nat->Nat×Nat->Prop}{rk:Nat×Nat->Nat}{p:Nat->Nat×Nat}{n:Nat}
def Jd(S:Nat×Nat->Nat×Nat->Prop)(p:Nat->Nat×Nat)(n:Nat):Prop:=∀i,i<n->(p i=(0,0)/\p (i+1)=(0,0))\/S (p i) (p (i+1))
theorem Jd.up(hr:∀a b,S a b->rk a<rk b)(t:Jd S p n):∀(k i:Nat),i+k<=n->rk (p i)<=rk (p (i+k))
 |0,i,_=>YL _
 |k+1,i,h=>by
  have a:=Jd.up hr t k i (by lia);rcases t (i+k) (by lia) with⟨x,y⟩|y
  ·rw[show i+(k+1)=i+k+1 by lia,y,<-x];exact a
  ·have:=hr _ _ y;rw[show i+(k+1)=i+k+1 by lia];lia
theorem Jd.gone(hr:∀a b,S a b->rk a<rk b)(t:Jd S p n)(h0:p i=(0,0))(h1:p (i+1)≠(0,0))(hij:i<j)(hj:j<=n):p j≠(0,0):=λe=>by
 rcases t i (by lia) with⟨_,y⟩|y
 ·exact h1 y
 ·have a:=hr _ _ y;have b:=t.up hr (j-(i+1)) (i+1) (by lia);rw[show i+1+(j-(i+1))=j by lia,e]at b;rw[h0]at a;lia
theorem Je(h0:p i=(0,0))(hij:i<=j)(h1:p j≠(0,0)):∃k,i<=k/\k<j/\p k=(0,0)/\p (k+1)≠(0,0):=by
 induction j with
 |zero =>
  have:i=0:=by lia
  subst this;exact qG h0 h1
 |succ j ih =>
  by_cases e:p j=(0,0)
  ·refine⟨j,?_,by lia,e,h1⟩
   by_cases z:i=j+1
   ·rw[z]at h0;exact qG h0 h1
   ·lia
  ·by_cases z:i=j+1
   ·rw[z]at h0;exact qG h0 h1
   ·obtain⟨k,a,b,c,d⟩:=ih (by lia) e;exact⟨k,a,by lia,c,d⟩
theorem Jd.after(hr:∀a b,S a b->rk a<rk b)(t:Jd S p n){left:Nat}(hL:∀(q:Nat->Nat×Nat) (k:Nat),q 0=(0,0)->(∀i,i<k->S (q i) (q (i+1)))->k<=left)(h0:p i=(0,0))(hij:i<=j)(hj:j+left<=n):p j=(0,0):=by
 by_cases e:p j=(0,0)
 ·exact e
 ·exfalso;obtain⟨k,a,b,c,d⟩:=Je h0 hij e
  have z:=hL (λx=>p (k+x)) (n-k) c λx hx=>by
   rcases t (k+x) (by lia) with⟨y,y'⟩|y
   ·exfalso
    by_cases x0:x=0
    ·subst x0;exact d y'
    ·exact t.gone hr c d (show k<k+x by lia) (by lia) y
   ·exact y
  lia
theorem Mn(h1:p j≠(0,0)):∀(d:Nat),p (j+d)=(0,0)->∃k,j<k/\k<=j+d/\p k=(0,0)/\∀x,j<=x->x<k->p x≠(0,0):=λd=>by
 induction d using Nat.strongRecOn with
 |_ d ih =>
  intro h0
  by_cases z:∃x,x<d/\p (j+x)=(0,0)
  ·obtain⟨x,hx,e⟩:=z;obtain⟨k,a,b,c⟩:=ih x hx e;exact⟨k,a,by lia,c⟩
  ·refine⟨j+d,?_,YL _,h0,λx hx hxi e=>z ⟨x-j,by lia,by rw[show j+(x-j)=x by lia];exact e⟩⟩
   by_cases e:d=0
   ·subst e;exact qG h0 h1
   ·lia
theorem Jd.ahead(hr:∀a b,S a b->rk a<rk b)(t:Jd S p n){ba:Nat}(hE:∀(q:Nat->Nat×Nat) (k:Nat),q k=(0,0)->(∀i,i<k->S (q i) (q (i+1)))->k<=ba)(h0:p i=(0,0))(hij:j<=i)(hi:i<=n)(hj:ba<=j):p j=(0,0):=by
 by_cases e:p j=(0,0)
 ·exact e
 ·exfalso;obtain⟨k,jk,ki,k0,kn⟩:=Mn e (i-j) (by rw[show j+(i-j)=i by lia];exact h0)
  have z:=hE p k k0 λx hx=>by
   rcases t x (by lia) with⟨y,y'⟩|y
   ·exfalso
    by_cases xj:x<=j
    ·obtain⟨k',a,b,c,d⟩:=Je y xj e;exact t.gone hr c d (show k'<k by lia) (by lia) k0
    ·exact kn x (by lia) hx y
   ·exact y
  lia
theorem Jd.some(hr:∀a b,S a b->rk a<rk b)(t:Jd S p n)(hn:∀i,rk (p i)<n):∃i,i<=n/\p i=(0,0):=by
 by_cases z:∃i,i<=n/\p i=(0,0)
 ·exact z
 ·exfalso
  have a:∀k,k<=n->k<=rk (p k):=by
   intro k
   induction k with
   |zero=>intro _;lia
   |succ k ih =>
    intro hk;have:=ih (by lia);rcases t k (by lia) with⟨y,_⟩|y
    ·exact qG ⟨k,by lia,y⟩ z
    ·have:=hr _ _ y;lia
  have:=a n (YL _);have:=hn n;lia
end
theorem DA{g:Int}{m:Nat}{ns:List Int}(h:i+m<=ns.length):(Ap g b9 m ns).getD i 0=b9.getD (Av g ((ns.drop i).take m)).toNat 0:=by unfold Ap;rw[Aj (by lia)];rfl
theorem CP(l:List Int)(k i:Nat):(l.drop k).getD i 0=l.getD (k+i) 0:=by rw[YH,YH,List.getElem?_drop]
theorem LU{g:Int}{m:Nat}{ns:List Int}{k:Nat}(hk:k<=ns.length)(m1:1<=m):Ap g b9 m (ns.take k)=(Ap g b9 m ns).take (k+1-m):=by
 have l1:(ns.take k).length=k:=by rw[Ys];lia
 refine Aq (by rw[BH,l1,Ys,BH,aL (Nat.sub_le_sub_right (Nat.succ_le_succ hk) m)]) λi hi=>?_;rw[BH,l1]at hi;rw[Cz hi,DA (by lia),DA (by lia)]
 congr 3
 rw[aB,List.take_take,aL (by lia)]
theorem LV{g:Int}{m:Nat}{ns:List Int}{k:Nat}(hk:k+m<=ns.length+1)(m1:1<=m):Ap g b9 m (ns.drop k)=(Ap g b9 m ns).drop k:=by have l1:(ns.drop k).length=ns.length-k:=Yi ..;refine Aq (by rw[BH,l1,Yi,BH,Nat.sub_right_comm (ns.length+1),Nat.sub_add_comm (show k<=ns.length by lia)]) λi hi=>?_;rw[BH,l1]at hi;rw[CP,DA (by lia),DA (by lia),aa]
theorem KM{g:Int}(hg:2<=g){a b:List Int}(ha:∀n∈a,0<=n/\n<g)(hb:∀n∈b,0<=n/\n<g)(hl:a.length=b.length)(e:Av g a=Av g b):a=b:=
 Aq hl λj hj=>by rw[<-Ds hg ha hj,<-Ds hg hb (by lia),e,hl]
noncomputable def Dj(g:Int)(m:Nat)(y:List Int)(i:Nat):Nat:=(Av g ((y.drop i).take (m-1))).toNat
variable{y:List Int}
section
variable{g:Int}(hg:2<=g){m:Nat}(hl:(b9.length:Int)=g^m)(m2:2<=m)
include hg hl m2
theorem IL(hy:∀n∈y,0<=n/\n<g)(hi:i+m<=y.length):(Av g ((y.drop i).take m)).toNat/g.toNat=Dj g m y i/\(Av g ((y.drop i).take m)).toNat%(b9.length/g.toNat)=Dj g m y (i+1):=by
 have hd:((y.drop i).take m)=(y.drop i).take (m-1)++[y.getD (i+(m-1)) 0]:=by
  have hlt:m-1<(y.drop i).length:=by rw[Yi];lia
  rw[show m=m-1+1 by lia,ZJ,YI hlt,List.getElem_drop,YH,YI (by lia)];rfl
 have wl:((y.drop i).take (m-1)).length=m-1:=Gq (by lia)
 have wb:∀n∈(y.drop i).take (m-1)++[y.getD (i+(m-1)) 0],0<=n/\n<g:=by rw[<-hd];exact λn hn=>hy n (Y0 (ZB hn))
 have xb:=wb _ (YR.mpr (.inr (YT.mpr rfl)));have nb:=BN hg λn hn=>wb n (YR.mpr (.inl hn))
 have e:(Av g ((y.drop i).take m)).toNat=(Av g ((y.drop i).take (m-1))).toNat*g.toNat+(y.getD (i+(m-1)) 0).toNat:=by
  rw[hd,C5];have:((Av g ((y.drop i).take (m-1))).toNat:Int)*(g.toNat:Int)=Av g ((y.drop i).take (m-1))*g:=by rw[YY nb.1,YY (by lia)]
  have:=bC nb.1 (show 0<=g by lia);have z:(((Av g ((y.drop i).take (m-1))).toNat*g.toNat+(y.getD (i+(m-1)) 0).toNat:Nat):Int)=Av g ((y.drop i).take (m-1))*g+y.getD (i+(m-1)) 0:=by rw[ZF,ZE];lia
  lia
 refine⟨?_,?_⟩
 ·rw[e];exact Cc (by lia)
 ·rw[e,OZ hg hl (by lia) wl wb,<-hd,aB,aa];rfl
theorem Nl{z:List Int}(hy:∀n∈y,0<=n/\n<g)(hz:∀n∈z,0<=n/\n<g)(le:y.length=z.length)(hi:i+(m-1)<=y.length)(e:C0 (Dj g m y i,Dj g m z i)=(0,0))(hj:j<m-1):y.getD (i+j) 0=z.getD (i+j) 0:=by
 have a:Dj g m y i=Dj g m z i:=by
  unfold C0 at e
  split at e
  ·assumption
  ·have e1:=congrArg Prod.fst e;have e2:=congrArg Prod.snd e;exact e1.trans e2.symm
 unfold Dj at a;have by':∀n∈(y.drop i).take (m-1),0<=n/\n<g:=λn hn=>hy n (Y0 (ZB hn))
 have bz':∀n∈(z.drop i).take (m-1),0<=n/\n<g:=λn hn=>hz n (Y0 (ZB hn))
 have n1:=BN hg by'
 have n2:=BN hg bz';have b:=KM hg by' bz' (by rw[Gq hi,Gq (by lia)]) (by lia)
 have c:=congrArg (λl:List Int=>l.getD j 0) b;have c:((y.drop i).take (m-1)).getD j 0=((z.drop i).take (m-1)).getD j 0:=c;rw[Cz hj,Cz hj,CP,CP]at c;exact c
theorem Jf{z:List Int}(hy:∀n∈y,0<=n/\n<g)(hz:∀n∈z,0<=n/\n<g)(le:y.length=z.length)(e:Ap g b9 m y=Ap g b9 m z):Jd (Gi g.toNat (b9.length/g.toNat) b9) (λi=>C0 (Dj g m y i,Dj g m z i)) (y.length+1-m):=λi hi=>by
 obtain⟨a1,a2⟩:=IL hg hl m2 hy (show i+m<=y.length by lia);obtain⟨b1,b2⟩:=IL hg hl m2 hz (show i+m<=z.length by lia);have hd:=(Az hg hl (by lia)).2;have ya:=(MQ hg hy hl (show i+m<=y.length by lia)).2;have za:=(MQ hg hz hl (show i+m<=z.length by lia)).2;have te:b9.getD (Av g ((y.drop i).take m)).toNat 0=b9.getD (Av g ((z.drop i).take m)).toNat 0:=by rw[<-DA (by lia),<-DA (by lia),e]
 generalize (Av g ((y.drop i).take m)).toNat=a at *;generalize (Av g ((z.drop i).take m)).toNat=b at *
 by_cases ab:a=b
 ·subst ab;refine .inl ⟨?_,?_⟩
  ·show C0 (Dj g m y i,Dj g m z i)=_;rw[<-a1,<-b1,B4]
  ·show C0 (Dj g m y (i+1),Dj g m z (i+1))=_;rw[<-a2,<-b2,B4]
 ·refine .inr ⟨a,b,by rw[<-hd];exact ya,by rw[<-hd];exact za,ab,te,?_,?_⟩
  ·rw[a1,b1]
  ·rw[a2,b2]
end
variable{S:Nat×Nat->Nat×Nat->Prop}
section
variable{g:Int}(hg:2<=g){m:Nat}(hl:(b9.length:Int)=g^m)(m2:2<=m)(hb:∀n∈b9,0<=n/\n<g)
include hg hl m2
theorem Jd.less{p:Nat->Nat×Nat}{n k:Nat}(t:Jd S p n)(h:k<=n):Jd S p k:=λi hi=>t i (by lia)
theorem Jd.from{p:Nat->Nat×Nat}{n:Nat}(t:Jd S p n){k d:Nat}(h:d+k<=n):Jd S (λi=>p (d+i)) k:=λi hi=>t (d+i) (by lia)
include hb
theorem LW{rk:Nat×Nat->Nat}(hr:FC g.toNat (b9.length/g.toNat) b9 rk)(hc:∀n∈c,0<=n/\n<g):∃w:List Int,w.length=c.length+m-1/\(∀n∈w,0<=n/\n<g)/\Ap g b9 m w=c:=by
 have hG:(g.toNat:Int)=g:=by lia
 have hd:=Az hg hl (show 1<=m by lia);have hp:=RW.Ab hg (m-1);have z:=ER (G:=g.toNat) (by lia) (by rw[hG];exact hb) hr (by lia) (c:=c) (by rw[hG];exact hc);rw[<-Gy (g:=g) b9 m c]at z;obtain⟨w,hw⟩:=List.exists_mem_of_length_pos (show 0<(DF g b9 m c).length by lia);rw[<-GC hg hl (by lia) c]at hw;obtain⟨h1,h2⟩:=Yx.mp hw;obtain⟨n,hn,rfl⟩:=Yd.mp h1;have hn:=Yc.mp hn;exact⟨_,A1 ..,Bd hg _ _,of_decide_eq_true h2⟩
theorem Og{rk:Nat×Nat->Nat}(hr:FC g.toNat (b9.length/g.toNat) b9 rk){R:Nat}(hR:∀p,rk p<R){ba left:Nat}
  (hE:∀(q:Nat->Nat×Nat) (k:Nat),q k=(0,0)->(∀i,i<k->Gi g.toNat (b9.length/g.toNat) b9 (q i) (q (i+1)))->k<=ba)
  (hL:∀(q:Nat->Nat×Nat) (k:Nat),q 0=(0,0)->(∀i,i<k->Gi g.toNat (b9.length/g.toNat) b9 (q i) (q (i+1)))->k<=left)
  {y z:List Int} (hy:∀n∈y,0<=n/\n<g) (hz:∀n∈z,0<=n/\n<g) (ly:y.length=ba+left+1) (lz:z.length=ba+left+1) (e:Ap g b9 m y=Ap g b9 m z):y.getD ba 0=z.getD ba 0:=by
 have rb:∀k,∀n∈List.replicate k (0:Int),0<=n/\n<g:=λk n hn=>by rw[(List.mem_replicate.mp hn).2];lia
 obtain⟨A,hA⟩:∃A:List Int,A=List.replicate (R+m) 0:=⟨_,rfl⟩;obtain⟨B,hB⟩:∃B:List Int,B=List.replicate (R+ba+m) 0:=⟨_,rfl⟩;have lA:A.length=R+m:=by rw[hA,Yl]
 have lB:B.length=R+ba+m:=by rw[hB,Yl]
 have Yb:∀n∈A++y,0<=n/\n<g:=λn hn=>(YR.mp hn).elim (λh=>rb _ n (hA▸h)) (hy n)
 have Zb:∀n∈z++B,0<=n/\n<g:=λn hn=>(YR.mp hn).elim (hz n) (λh=>rb _ n (hB▸h))
 clear hA hB;have lY:(A++y).length=R+m+(ba+left+1):=by rw[YN,lA,ly]
 have lZ:(z++B).length=ba+left+1+(R+ba+m):=by rw[YN,lB,lz]
 obtain⟨X,lX,bX,x1,x2⟩:∃X:List Int,X.length=R+(ba+left+1)+(R+ba+m)+1/\(∀n∈X,0<=n/\n<g)/\X.take (R+(ba+left+1)+1)=Ap g b9 m (A++y)/\X.drop (R+m)=Ap g b9 m (z++B):=by
  have b1:=FY hg hb m (A++y);have b2:=FY hg hb m (z++B);have l1:(Ap g b9 m (A++y)).length=R+(ba+left+1)+1:=by rw[BH,lY,aG R,aG,Z1]
  have l2:(Ap g b9 m (z++B)).length=ba+left+1+(R+ba)+1:=by rw[BH,lZ,<-Z7,aG,Z1]
  by_cases c:m<=ba+left+1+1
  ·have f1:(Ap g b9 m (A++y)).drop (R+m)=Ap g b9 m y:=by
    rw[<-LV (by lia) (by lia),show R+m=A.length from lA.symm,List.drop_left]
   have f2:(Ap g b9 m (z++B)).take (ba+left+1+1-m)=Ap g b9 m z:=by rw[<-LU (by lia) (by lia),show ba+left+1=z.length from lz.symm,List.take_left]
   refine⟨Ap g b9 m (A++y)++(Ap g b9 m (z++B)).drop (ba+left+1+1-m),?_,?_,?_,?_⟩
   ·rw[YN,Yi,l1,l2];obtain⟨d,hd⟩:=Nat.exists_eq_add_of_le c;rw[hd,Zr,show ba+left+1+(R+ba)+1=R+ba+m+d by lia,Z1];lia
   ·exact λn hn=>(YR.mp hn).elim (b1 n) λh=>b2 n (Y0 h)
   ·rw[<-l1,List.take_left]
   ·rw[List.drop_append_of_le_length (by lia),f1,e,<-f2,Y6]
  ·refine⟨Ap g b9 m (A++y)++(List.replicate (m-(ba+left+1+1)) 0++Ap g b9 m (z++B)),?_,?_,?_,?_⟩
   ·rw[YN,YN,Yl,l1,l2];lia
   ·exact λn hn=>(YR.mp hn).elim (b1 n) λh=>(YR.mp h).elim (rb _ n) (b2 n)
   ·rw[<-l1,List.take_left]
   ·rw[List.drop_append,List.drop_eq_nil_of_le (by lia),au,List.drop_append,List.drop_eq_nil_of_le (by rw[Yl];lia),au,Yl,l1,show R+m-(R+(ba+left+1)+1)-(m-(ba+left+1+1))=0 by lia,Zt]
 obtain⟨W,lW,Wb,hW⟩:=LW hg hl m2 hb hr bX;replace lW:W.length=R+(ba+left+1)+(R+ba+m)+m:=by rw[lW,lX];lia
 clear lX bX e;have hrS:∀a b,Gi g.toNat (b9.length/g.toNat) b9 a b->rk a<rk b:=hr
 have s1:y.getD ba 0=W.getD (R+m+ba) 0:=by
  have lw:(W.take (R+m+(ba+left+1))).length=(A++y).length:=by rw[Ys,lY];lia
  have wb:∀n∈W.take (R+m+(ba+left+1)),0<=n/\n<g:=λn hn=>Wb n (ZB hn)
  have le:Ap g b9 m (A++y)=Ap g b9 m (W.take (R+m+(ba+left+1))):=by rw[LU (by lia) (by lia),hW,<-x1,show R+m+(ba+left+1)+1-m=R+(ba+left+1)+1 by rw[aG R,aG,Z1]]
  have t:=Jf hg hl m2 Yb wb lw.symm le;rw[lY]at t;obtain⟨i0,hi,e0⟩:=(Jd.less hg hl m2 t (k:=R) (by lia)).some hrS λi=>hR _
  have ee:=t.after hrS hL e0 (j:=R+ba+2) (by lia) (by lia);have s:=Nl hg hl m2 Yb wb lw.symm (by lia) ee (j:=m-2) (by lia);rw[show R+ba+2+(m-2)=R+m+ba by lia,Cz (by lia)]at s;rw[<-s,YH,YH,Yw (by lia),show R+m+ba-A.length=ba by lia]
 have s2:z.getD ba 0=W.getD (R+m+ba) 0:=by
  have lw:(W.drop (R+m)).length=(z++B).length:=by rw[Yi,lZ];lia
  have wb:∀n∈W.drop (R+m),0<=n/\n<g:=λn hn=>Wb n (Y0 hn)
  have le:Ap g b9 m (z++B)=Ap g b9 m (W.drop (R+m)):=by rw[LV (by lia) (by lia),hW,x2]
  have t:=Jf hg hl m2 Zb wb lw.symm le;rw[lZ]at t;obtain⟨i0,hi,e0⟩:=(Jd.from hg hl m2 t (k:=R) (d:=ba) (by lia)).some hrS λi=>hR _
  have ee:=t.ahead hrS hE e0 (j:=ba) (by lia) (by lia) (YL _);have s:=Nl hg hl m2 Zb wb lw.symm (by lia) ee (j:=0) (by lia);rw[CP,bH]at s;rw[<-s,YH,YH,ZH (by lia)]
 rw[s1,s2]
end
def QD(p:Nat×Nat):List V:=[.int (p.1:Int),.int (p.2:Int)]
abbrev Cd(K:qJ)(H:Hp):List Addr->List (Nat×Nat)->Prop:=Paired λp x=>Ad K H p (QD x)
variable{L:List (Nat×Nat)}
theorem Cd.same{K:qJ}{ps:List Addr}(e:AI H H')(h:Cd K H ps L):Cd K H' ps L:=Paired.mapP h λ_ _ z=>z.same' e
theorem Paired.app{F:α->β->Prop}:∀{a:List α} {b:List β} {c:List α} {d:List β},Paired F a b->Paired F c d->Paired F (a++c) (b++d)
 |_,_,_,_,.nil,h=>h
 |_,_,_,_,.cons r t,h=>.cons r (Paired.app t h)
theorem Ad.updL{K:qJ}{d:Addr}{u:HO}(hd:H d=some (.lst ys))(q:Ad K H a xs):Ad K (Ac H d u) a xs:=by
 rcases q with (z|⟨o,z⟩)|z
 ·exact .inl (.inl (by rw[AN (Eu z hd λy=>nomatch y)];exact z))
 ·exact .inl (.inr ⟨o,by rw[AN (Eu z hd λy=>nomatch y)];exact z⟩)
 ·exact .inr z
theorem Cd.upd{K:qJ}{ps:List Addr}{d:Addr}{u:HO}(hd:H d=some (.lst ys))(h:Cd K H ps L):Cd K (Ac H d u) ps L:=Paired.mapP h λ_ _ z=>z.updL hd
inductive Fk(K:qJ)(vs:List V)(H:Hp)(Q:VK)(z3_:XK):Prop
 |m (a b:Nat):vs=[.int (a:Int),.int (b:Int)]->(∀p H',AI H H'->Ad K H' p (QD (C0 (a,b)))->Q (.ref p) H')->Fk K vs H Q z3_
inductive KN(K:qJ)(vs:List V)(H:Hp)(Q:VK)(z3_:XK):Prop
 |m (r q:Addr) (g lo:Int) (b9:List Int) (m a b:Nat):vs=[.ref r,.ref q]->Ah H r g lo b9 m->Ad K H q (QD (a,b))->(∀p H',AI H H'->Ad K H' p (QD (C0 (a/g.toNat,b/g.toNat)))->Q (.ref p) H')->KN K vs H Q z3_
inductive QE(K:qJ)(vs:List V)(H:Hp)(Q:VK)(z3_:XK):Prop
 |m (r q:Addr) (g lo:Int) (b9:List Int) (m a b:Nat):vs=[.ref r,.ref q]->Ah H r g lo b9 m->Ad K H q (QD (a,b))->(∀p H',AI H H'->Ad K H' p (QD (C0 (a%(b9.length/g.toNat),b%(b9.length/g.toNat))))->Q (.ref p) H')->QE K vs H Q z3_
noncomputable def Mo(h n:Nat):List (Nat×Nat):=((List.range h).filter λo=>decide (o≠n)).map λo=>(n,o)
theorem Rt(h n:Nat):(Mo h n).length<=h:=by unfold Mo;rw[YG];exact Yy (Zf ..) (by rw[Yo];exact YL _)
theorem Fl(h:Nat):∀i:Nat,((List.range i).flatMap (Mo h)).length<=i*h
 |0=>ZT _
 |i+1=>by rw[Y4,Zw,YN,Nat.add_mul,ZD,ai,Yt];have:=Fl h i;have:=Rt h i;lia
noncomputable def BR(h:Nat):List (Nat×Nat):=(0,0)::(List.range h).flatMap (Mo h)
noncomputable def QF(b9:List Int)(a:Nat):List (Nat×Nat):=((List.range b9.length).filter λb=>decide (b9.getD b 0=b9.getD a 0)&&decide (b≠a)).map λb=>(a,b)
noncomputable def D6(b9:List Int):List (Nat×Nat):=(List.range b9.length).flatMap (QF b9)
inductive KO(K:qJ)(vs:List V)(H:Hp)(Q:VK)(z3_:XK):Prop
 |m (r:Addr) (g lo:Int) (b9:List Int) (m:Nat):vs=[.ref r]->Ah H r g lo b9 m->g^(m-1)<=9->(∀D H' ps,AI H H'->H D=none->H' D=some (.lst (ps.map V.ref))->Cd K H' ps (BR (b9.length/g.toNat))->Q (.ref D) H')->KO K vs H Q z3_
inductive Mp(K:qJ)(vs:List V)(H:Hp)(Q:VK)(z3_:XK):Prop
 |m (r:Addr) (g lo:Int) (b9:List Int) (m:Nat):vs=[.ref r]->Ah H r g lo b9 m->g^(m-1)<=9->(∀D H' ps,AI H H'->H D=none->H' D=some (.lst (ps.map V.ref))->Cd K H' ps (D6 b9)->Q (.ref D) H')->Mp K vs H Q z3_
theorem LX{K:qJ}{D:Addr}{Q:VK}(Pv:Nat->List V->Hp->Prop)(h0:Pv 0 [] (Ac H D (.lst [])))(hl:∀i bg H,i<=xs.length->Pv i bg H->Ad K H a xs)
  (hs:∀i x p bg H2,xs[i]?=some x->Pv i bg H2->H2 p=none->tt (some (.int ((i:Nat):Int))::some x::σf) (Ac H2 p (.tup [.int ((i:Nat):Int),x])) λb H4=>if b=true then te (some (.int ((i:Nat):Int))::some x::σf) H4 λy H5=>H5 D=some (.lst bg)/\bg.length<sizeLine/\Pv (i+1) (bg++[y]) (Ac H5 D (.lst (bg++[y]))) else Pv (i+1) bg H4)
  (hd:∀bg H2,Pv xs.length bg H2->Q (.ref D) H2):GD K (OR K a) tt te σf D Q H:=by
 refine⟨λk i bg H=>k=xs.length-i/\i<=xs.length/\Pv i bg H,⟨xs.length,by simp,Nat.zero_le _,h0⟩,?_⟩;rintro k i bg H2 ⟨rfl,hi,p⟩;have q:=hl i bg H2 hi p
 by_cases hlt:i<xs.length
 ·refine .inr ⟨⟨xs,xs[i],q,by simp[hlt]⟩,Pv (i+1),λl H' p'=>⟨xs.length-(i+1),by lia,rfl,hlt,p'⟩,λv H' y=>?_⟩;obtain⟨p2,x,e1,e2,e3,y⟩:=y;subst e1 e3;exact⟨p2,_,_,rfl,Ad.of AE,hs i x p2 bg H2 (y xs q) p e2⟩
 ·have e:i=xs.length:=by lia
  subst e;exact .inl ⟨⟨xs,q,YL _⟩,hd bg H2 p⟩
theorem Ru(b9:List Int)(a:Nat):(QF b9 a).length<=b9.length:=by unfold QF;rw[YG];exact Yy (Zf ..) (by rw[Yo];exact YL _)
theorem ES(b9:List Int):∀i:Nat,((List.range i).flatMap (QF b9)).length<=i*b9.length
 |0=>ZT _
 |i+1=>by rw[Y4,Zw,YN,Nat.add_mul,ZD,ai,Yt];have:=ES b9 i;have:=Ru b9 i;lia
theorem QG{p:α->Bool}{j:α}(h:p j=true):[j].filter p=[j]:=by rw[List.filter_cons_of_pos h];rfl
theorem Nm{p:α->Bool}{j:α}(h:p j=false):[j].filter p=[]:=by rw[List.filter_cons_of_neg (by rw[h];decide)];rfl
noncomputable def BW(p:Nat×Nat):List B6:=[Sum.inl (p.1:Int),Sum.inl (p.2:Int)]
variable{p:Nat×Nat}
theorem IM{q:Nat×Nat}(h:BW p=BW q):p=q:=by
 unfold BW at h
 injection h with h1 h2
 injection h2 with h2 _
 have a:=Sum.inl.inj h1;have b:=Sum.inl.inj h2;exact Prod.ext (by lia) (by lia)
noncomputable def Am(A:List (Nat×Nat))(vs:List V):List (List B6×V):=List.zipWith (λa v=>(BW a,v)) A vs
theorem Bv{A:List (Nat×Nat)}{vs:List V}(h:vs.length=A.length):(Am A vs).length=A.length:=by unfold Am;rw[List.length_zipWith,h,Nat.min_self]
theorem Dk:∀{A:List (Nat×Nat)} {vs:List V} {a:Nat×Nat},a∉A->B9 (Am A vs) (BW a)=none
 |[],_,_,_=>rfl
 |_::_,[],_,_=>rfl
 |b::A,v::vs,a,h=>by
  have n1:¬BW b=BW a:=λe=>h (by rw[IM e];exact Ye)
  show B9 ((BW b,v)::Am A vs) (BW a)=none;rw[EQ (show ¬(BW b,v).1=BW a from n1)];exact Dk λe=>h (YZ _ e)
theorem Bw:∀{A:List (Nat×Nat)} {vs:List V} {i:Nat} {a:Nat×Nat} {v:V},A.Nodup->A[i]?=some a->vs[i]?=some v->B9 (Am A vs) (BW a)=some v
 |[],_,_,_,_,_,h,_=>by simp at h
 |_::_,[],_,_,_,_,_,h=>by simp at h
 |b::A,v::vs,0,a,w,nd,h1,h2=>by simp at h1 h2;subst h1 h2;exact Fg rfl
 |b::A,v::vs,i+1,a,w,nd,h1,h2=>by
  simp at h1 h2;have nd':=ZZ.mp nd;have n1:¬BW b=BW a:=λe=>nd'.1 (by rw[IM e];exact YW h1)
  show B9 ((BW b,v)::Am A vs) (BW a)=some w;rw[EQ (show ¬(BW b,v).1=BW a from n1)];exact Bw nd'.2 h1 h2
theorem IN{A:List (Nat×Nat)}{vs:List V}{a:Nat×Nat}{v:V}(hl:vs.length=A.length)(h:a∉A):Ff (Am A vs) (BW a) v=Am (A++[a]) (vs++[v]):=by rw[Ps _ (Dk h)];unfold Am;rw[List.zipWith_append hl.symm];rfl
theorem ET{h:Nat}:p∈BR h↔p=(0,0)\/(p.1<h/\p.2<h/\p.1≠p.2):=by unfold BR;rw[Yf,bL];refine or_congr Iff.rfl ⟨λz9=>?_,λ⟨h1,h2,h3⟩=>⟨p.1,Yc.mpr h1,Yd.mpr ⟨p.2,Yx.mpr ⟨Yc.mpr h2,qH (Ne.symm h3)⟩,rfl⟩⟩⟩;obtain⟨n,hn,hp⟩:=z9;obtain⟨o,ho,rfl⟩:=Yd.mp hp;obtain⟨h1,h2⟩:=Yx.mp ho;exact⟨Yc.mp hn,Yc.mp h1,Ne.symm (of_decide_eq_true h2)⟩
theorem KP{h a b:Nat}(ha:a<h)(hb:b<h):C0 (a,b)∈BR h:=by
 rw[ET];unfold C0;split
 ·exact .inl rfl
 ·rename_i e
  exact .inr ⟨ha,hb,e⟩
theorem IP(h:Nat):∀n:Nat,((List.range n).flatMap (Mo h)).Nodup
 |0=>aZ
 |n+1=>by
  rw[Y4,Zw,ZD,ai,Yt,Ze];refine⟨IP h n,?_,λx hx y hy e=>?_⟩
  ·unfold Mo;exact List.Pairwise.map _ (λa b e z=>e (Prod.mk.inj z).2) (List.nodup_range.filter _)
  ·obtain⟨k,hk,hx⟩:=bL.mp hx;obtain⟨_,_,e1⟩:=Yd.mp hx;obtain⟨_,_,e2⟩:=Yd.mp hy;have:=Yc.mp hk;have a:=congrArg Prod.fst e1;have b:=congrArg Prod.fst e2;rw[e]at a;have a:k=y.1:=a;have b:n=y.1:=b;lia
theorem CQ(h:Nat):(BR h).Nodup:=by unfold BR;refine ZZ.mpr ⟨λe=>?_,IP h h⟩;obtain⟨n,_,hp⟩:=bL.mp e;obtain⟨o,ho,e1⟩:=Yd.mp hp;have h2:=of_decide_eq_true (Yx.mp ho).2;have a:=congrArg Prod.fst e1;have b:=congrArg Prod.snd e1;have a:n=0:=a;have b:o=0:=b;lia
theorem IQ{a b:Nat}:(a,b)∈D6 b9↔a<b9.length/\b<b9.length/\a≠b/\b9.getD a 0=b9.getD b 0:=by
 unfold D6;rw[bL];constructor
 ·rintro⟨n,hn,hp⟩;obtain⟨o,ho,e⟩:=Yd.mp hp;obtain⟨h1,h2⟩:=Yx.mp ho;rw[Zi]at h2;cases e;exact⟨Yc.mp hn,Yc.mp h1,Ne.symm (of_decide_eq_true h2.2),(of_decide_eq_true h2.1).symm⟩
 ·rintro⟨h1,h2,h3,h4⟩;exact⟨a,Yc.mpr h1,Yd.mpr ⟨b,Yx.mpr ⟨Yc.mpr h2,by rw[Zi];exact⟨qH h4.symm,qH (Ne.symm h3)⟩⟩,rfl⟩⟩
structure Dm(K:qJ)(H:Hp)(ls:List Addr)(A:List (Nat×Nat))(F:Nat×Nat->List (Nat×Nat)):Prop where
 n:ls.length=A.length
 nd:ls.Nodup
 e:∀(i:Nat) (a:Nat×Nat) (l:Addr),A[i]?=some a->ls[i]?=some l->∃ps:List Addr,H l=some (.lst (ps.map V.ref))/\Cd K H ps (F a)
variable{ls:List Addr}{F:Nat×Nat->List (Nat×Nat)}
theorem Dm.same{K:qJ}{A:List (Nat×Nat)}(e:AI H H')(g:Dm K H ls A F):Dm K H' ls A F:=
 ⟨g.n,g.nd,λi a l h1 h2=>by obtain⟨ps,h3,h4⟩:=g.e i a l h1 h2;exact⟨ps,e _ _ h3,Cd.same e h4⟩⟩
theorem Dm.snoc{K:qJ}{A:List (Nat×Nat)}(g:Dm K H ls A F){l:Addr}{a:Nat×Nat}(hl:l∉ls)(h:H l=some (.lst []))(hF:F a=[]):Dm K H (ls++[l]) (A++[a]) F:=by
 refine⟨by rw[YN,YN,g.n];rfl,Ze.mpr ⟨g.nd,ZZ.mpr ⟨Yv,aZ⟩,λx hx y hy e=>hl (by rw[<-YT.mp hy,<-e];exact hx)⟩,λi b k h1 h2=>?_⟩
 by_cases z:i<A.length
 ·rw[ZH z]at h1;rw[ZH (by rw[g.n];exact z)]at h2;exact g.e i b k h1 h2
 ·rw[Yw (by lia)]at h1;rw[Yw (by rw[g.n];lia),g.n]at h2;have z0:i-A.length=0:=by have:=(YJ.mp h1).1;simp at this;lia
  rw[z0]at h1 h2;cases h1;cases h2;exact⟨[],h,by rw[hF];exact .nil⟩
noncomputable def Gj(G h:Nat)(W:List (Nat×Nat))(p:Nat×Nat):List (Nat×Nat):=(W.filter λx=>decide (C0 (x.1/G,x.2/G)=p)).map λx=>C0 (x.1%h,x.2%h)
inductive G3(P:Program)(w:World)(K:qJ)(vs:List V)(H:Hp)(Q:VK)(z3_:XK):Prop
 |m (r:Addr) (g lo:Int) (b9:List Int) (m:Nat):vs=[.ref r]->Ah H r g lo b9 m->g^(m-1)<=9->(∀d H' ls,AI H H'->H d=none->(∀l∈ls,H l=none)->DW P w K H' d (Am (BR (b9.length/g.toNat)) (ls.map V.ref))->Dm K H' ls (BR (b9.length/g.toNat)) (Gj g.toNat (b9.length/g.toNat) (D6 b9))->Q (.ref d) H')->G3 P w K vs H Q z3_
section
variable{P:Program}{w:World}{K:qJ}{d:Addr}
theorem DW.lst(z:DW P w K H d kvs){b:Addr}(h:H b=some (.lst xs))(u:HO):Ac H d u b=some (.lst xs):=by obtain⟨bs,h1,_⟩:=z;rw[AN (Eu h h1 λy=>nomatch y)];exact h
theorem DW.prv(z:DW P w K H d kvs){ps:List Addr}(h:Cd K H ps L)(u:HO):Cd K (Ac H d u) ps L:=by obtain⟨bs,h1,_⟩:=z;exact Paired.mapP h λ_ _ y=>y.upd' h1
theorem DW.grl(z:DW P w K H d kvs){A:List (Nat×Nat)}(g:Dm K H ls A F)(u:HO):Dm K (Ac H d u) ls A F:=
 ⟨g.n,g.nd,λi a l h1 h2=>by obtain⟨ps,h3,h4⟩:=g.e i a l h1 h2;exact⟨ps,z.lst h3 u,z.prv h4 u⟩⟩
theorem Dm.out{A:List (Nat×Nat)}(g:Dm K H ls A F){l:Addr}(h:H l=none):l∉ls:=λz=>by
 obtain⟨i,hi⟩:=Y2.mp z;have hlt:=(YJ.mp hi).1;have hA:i<A.length:=by rw[<-g.n];exact hlt
 obtain⟨ps,h3,_⟩:=g.e i A[i] l (YI hA) hi;rw[h]at h3;cases h3
end
theorem Fm{A:List (Nat×Nat)}(nd:A.Nodup){a:Nat×Nat}(h:A[i]?=some a):a∉A.take i:=λz=>by
 obtain⟨j,hj⟩:=Y2.mp z;rw[List.getElem?_take]at hj
 split at hj
 ·rename_i lt
  have a1:=YJ.mp h;have a2:=YJ.mp hj;have:=(af (h₀:=a2.1) (h₁:=a1.1) nd).mp (by rw[a2.2,a1.2]);lia
 ·cases hj
section
variable{P:Program}{w:World}{K:qJ}{d:Addr}
theorem DW.updL(z:DW P w K H d kvs){l:Addr}(hl:H l=some (.lst xs))(u:HO):DW P w K (Ac H l u) d kvs:=by obtain⟨bs,h1,h3,h4⟩:=z;exact⟨bs,by rw[AN (Eu h1 hl λy=>nomatch y)];exact h1,h3,λp hp=>Ad.updL hl (h4 p hp)⟩
theorem Dm.push{A:List (Nat×Nat)}{F':Nat×Nat->List (Nat×Nat)}(g:Dm K H ls A F)(nd:A.Nodup){a:Nat×Nat}{l:Addr}{ps:List Addr}{q:Addr}{x:Nat×Nat}(hj:A[j]?=some a)(hl:ls[j]?=some l)(h:H l=some (.lst (ps.map V.ref)))(hp:Cd K H ps (F a))(hq:Ad K H q (QD x))
  (hF:∀b,F' b=if a=b then F b++[x] else F b):Dm K (Ac H l (.lst ((ps++[q]).map V.ref))) ls A F':=by
 refine⟨g.n,g.nd,λi b k h1 h2=>?_⟩
 by_cases e:i=j
 ·subst e;rw[hj]at h1;rw[hl]at h2;cases h1;cases h2;refine⟨_,AE,?_⟩;rw[hF,qF rfl];exact Paired.app (Cd.upd h hp) (.cons (Ad.updL h hq) .nil)
 ·have nk:k≠l:=λz=>by
   have a1:=YJ.mp h2;have a2:=YJ.mp hl;exact e ((af (h₀:=a1.1) (h₁:=a2.1) g.nd).mp (by rw[a1.2,a2.2,z]))
  have nb:¬a=b:=λz=>by have a1:=YJ.mp h1;have a2:=YJ.mp hj;exact e ((af (h₀:=a1.1) (h₁:=a2.1) nd).mp (by rw[a1.2,a2.2,z]))
  obtain⟨ps',h3,h4⟩:=g.e i b k h1 h2;refine⟨ps',by rw[AN nk];exact h3,?_⟩;rw[hF,qE nb];exact Cd.upd h h4
end
theorem QH{h:Nat}{W:List (Nat×Nat)}{x:Nat×Nat}(hx:W[i]?=some x)(b:Nat×Nat):Gj G h (W.take (i+1)) b=if C0 (x.1/G,x.2/G)=b then Gj G h (W.take i) b++[C0 (x.1%h,x.2%h)] else Gj G h (W.take i) b:=by
 unfold Gj;rw[ZJ,hx,ZP,YV]
 by_cases e:C0 (x.1/G,x.2/G)=b
 ·rw[qF e,show (some x).toList=[x] from rfl,QG (p:=λx:Nat×Nat=>decide (C0 (x.1/G,x.2/G)=b)) (qH e)];rfl
 ·rw[qE e,show (some x).toList=[x] from rfl,Nm (p:=λx:Nat×Nat=>decide (C0 (x.1/G,x.2/G)=b)) (qI e)];exact Yt _
theorem KQ(G h:Nat)(W:List (Nat×Nat))(p:Nat×Nat):(Gj G h W p).length<=W.length:=by unfold Gj;rw[YG];exact Zf ..
structure Nn(A:List (Nat×Nat))(F:Nat×Nat->List (Nat×Nat))(A2:List (Nat×Nat))(B:Nat×Nat->List (Nat×Nat)):Prop where
 nd:A2.Nodup
 all:∀p,p∈A2↔p∈A
 on:∀p q,q∈B p↔q∈A/\p∈F q
 len:∀p,(B p).length<=7000000
inductive KR(P:Program)(w:World)(K:qJ)(vs:List V)(H:Hp)(Q:VK)(z3_:XK):Prop
 |m (d:Addr) (u:HO) (ls:List Addr) (A:List (Nat×Nat)) (F:Nat×Nat->List (Nat×Nat)):vs=[.ref d]->DR P w K H d u (Am A (ls.map V.ref))->Dm K H ls A F->A.Nodup->(∀a∈A,∀p∈F a,p∈A)->A.length<=100->(∀a∈A,(F a).length<=70000)->(∀u' H' d2 ls2 A2 B,AI (Ac H d u') H'->DR P w K H' d u' (Am A (ls.map V.ref))->H d2=none->(∀l∈ls2,H l=none)->DW P w K H' d2 (Am A2 (ls2.map V.ref))->Dm K H' ls2 A2 B->Nn A F A2 B->Q (.ref d2) H')->KR P w K vs H Q z3_
variable{d2:Addr}
section
variable{P:Program}{w:World}{K:qJ}{d:Addr}{u:HO}
theorem DR.updL(z:DR P w K H d u kvs){l:Addr}(hl:H l=some (.lst xs))(v:HO):DR P w K (Ac H l v) d u kvs:=by
 obtain⟨bs,h1,h2,h3,h4⟩:=z
 have ne:d≠l:=by
  refine Eu h1 hl λy=>?_;rcases h2 with e|⟨o,e⟩
  ·rw[e]at y;cases y
  ·rw[e]at y;cases y
 exact⟨bs,by rw[AN ne];exact h1,h2,h3,λp hp=>Ad.updL hl (h4 p hp)⟩
theorem DR.updX(z:DR P w K H d u kvs){kvs2:List (List B6×V)}(x:DW P w K H d2 kvs2)(ne:d≠d2)(v:HO):DR P w K (Ac H d2 v) d u kvs:=by obtain⟨bs,h1,h2,h3,h4⟩:=z;obtain⟨bs2,g1,_⟩:=x;exact⟨bs,by rw[AN ne];exact h1,h2,h3,λp hp=>(h4 p hp).upd' g1⟩
end
def S5(P:Program)(w:World)(K:qJ)(H HX:Hp)(d2:Addr)(A2:List (Nat×Nat))(B:Nat×Nat->List (Nat×Nat)):Prop:=∃ls2:List Addr,(∀l∈ls2,H l=none)/\DW P w K HX d2 (Am A2 (ls2.map V.ref))/\Dm K HX ls2 A2 B
variable{A2:List (Nat×Nat)}
theorem QI{P:Program}{w:World}{K:qJ}{HX:Hp}{B:Nat×Nat->List (Nat×Nat)}{ls2:List Addr}{l:Addr}{k:Nat×Nat}{u:HO}(ln:∀l∈ls2,H l=none)(w0:DW P w K HX d2 (Am A2 (ls2.map V.ref)))(g:Dm K HX ls2 A2 B)(hl:HX l=some (.lst []))(nl:l∉ls2)(h0:H l=none)(hk:k∉A2)(hB:B k=[])
  (w1:DW P w K (Ac HX d2 u) d2 (Ff (Am A2 (ls2.map V.ref)) (BW k) (.ref l))):(∀x∈ls2++[l],H x=none)/\DW P w K (Ac HX d2 u) d2 (Am (A2++[k]) ((ls2++[l]).map V.ref))/\Dm K (Ac HX d2 u) (ls2++[l]) (A2++[k]) B:=by
 rw[IN (by rw[YG];exact g.n) hk]at w1;refine⟨λx hx=>?_,by rw[YV];exact w1,(w0.grl g u).snoc nl (w0.lst hl u) hB⟩;rcases YR.mp hx with z|z
 ·exact ln x z
 ·rw[YT.mp z];exact h0
theorem S5.put{P:Program}{w:World}{K:qJ}{HX:Hp}{B:Nat×Nat->List (Nat×Nat)}{ls2:List Addr}{l:Addr}{k:Nat×Nat}{u:HO}(ln:∀l∈ls2,H l=none)(w0:DW P w K HX d2 (Am A2 (ls2.map V.ref)))(g:Dm K HX ls2 A2 B)(hl:HX l=some (.lst []))(nl:l∉ls2)(h0:H l=none)(hk:k∉A2)(hB:B k=[])
  (w1:DW P w K (Ac HX d2 u) d2 (Ff (Am A2 (ls2.map V.ref)) (BW k) (.ref l))):S5 P w K H (Ac HX d2 u) d2 (A2++[k]) B:=⟨_,QI ln w0 g hl nl h0 hk hB w1⟩
structure Oz(A:List (Nat×Nat))(F:Nat×Nat->List (Nat×Nat))(i:Nat)(D:(Nat×Nat)->(Nat×Nat)->Prop)(n:Nat)(A2:List (Nat×Nat))(B:Nat×Nat->List (Nat×Nat)):Prop where
 nd:A2.Nodup
 sub:∀p∈A2,p∈A
 got:∀p∈A.take i,p∈A2
 no:∀p,p∉A2->B p=[]
 on:∀p q,q∈B p↔(q∈A.take i/\p∈F q)\/D p q
 len:∀p,(B p).length<=n
theorem Oz.key{A:List (Nat×Nat)}{n:Nat}{D:(Nat×Nat)->(Nat×Nat)->Prop}{B:Nat×Nat->List (Nat×Nat)}(t:Oz A F i D n A2 B){k:Nat×Nat}(hk:k∉A2)(hA:k∈A):Oz A F i D n (A2++[k]) B where
 nd:=Ze.mpr ⟨t.nd,ZZ.mpr ⟨Yv,aZ⟩,λx hx y hy e=>hk (by rw[<-YT.mp hy,<-e];exact hx)⟩
 sub:=λp hp=>(YR.mp hp).elim (t.sub p) λz=>by rw[YT.mp z];exact hA
 got:=λp hp=>YR.mpr (.inl (t.got p hp))
 no:=λp hp=>t.no p λz=>hp (YR.mpr (.inl z))
 on:=t.on
 len:=t.len
section
variable{P:Program}{w:World}{K:qJ}{d:Addr}{u:HO}
theorem DR.isX(z:DR P w K H d u kvs):∃φ,H d=some u/\(u=.ext φ\/∃o,u=.frz o (.ext φ)):=by obtain⟨bs,h1,h2,_⟩:=z;exact⟨_,h1,h2⟩
theorem DR.sqt(z:DR P w K H d u kvs)(q:Ad K H a xs)(v:HO):Ad K (Ac H d v) a xs:=by
 obtain⟨φ,h1,h2⟩:=z.isX;have ne:∀{b:Addr} {y:HO},H b=some y->y≠u->b≠d:=λ{b y} hb n e=>n (by rw[e,h1]at hb;exact (Option.some.inj hb).symm)
 rcases q with (y|⟨o,y⟩)|y
 ·exact .inl (.inl (by rw[AN (ne y (by rcases h2 with e|⟨o',e⟩<;>rw[e]<;>exact λt=>nomatch t))];exact y))
 ·exact .inl (.inr ⟨o,by rw[AN (ne y (by rcases h2 with e|⟨o',e⟩<;>rw[e]<;>intro t<;>cases t))];exact y⟩)
 ·exact .inr y
theorem DR.lst(z:DR P w K H d u kvs){b:Addr}(h:H b=some (.lst xs))(v:HO):Ac H d v b=some (.lst xs):=by
 obtain⟨φ,h1,h2⟩:=z.isX
 have ne:b≠d:=λe=>by rw[e,h1]at h;have h:=Option.some.inj h;rcases h2 with t|⟨o,t⟩<;>rw[t]at h<;>cases h
 rw[AN ne];exact h
theorem DR.grl(z:DR P w K H d u kvs){A:List (Nat×Nat)}(g:Dm K H ls A F)(v:HO):Dm K (Ac H d v) ls A F:=
 ⟨g.n,g.nd,λi a l h1 h2=>by obtain⟨ps,h3,h4⟩:=g.e i a l h1 h2;exact⟨ps,z.lst h3 v,Paired.mapP h4 λ_ _ y=>z.sqt y v⟩⟩
theorem Dm.keep{A:List (Nat×Nat)}(g:Dm K H ls A F){l:Addr}(hl:H l=some (.lst xs))(nl:l∉ls)(v:HO):Dm K (Ac H l v) ls A F:=
 ⟨g.n,g.nd,λi a k h1 h2=>by obtain⟨ps,h3,h4⟩:=g.e i a k h1 h2;exact⟨ps,by rw[AN λe=>nl (by rw[<-e];exact YW h2)];exact h3,Cd.upd hl h4⟩⟩
theorem AI.both{H0:Hp}(e:AI H H0)(d:Addr)(v:HO):AI (Ac H d v) (Ac H0 d v):=λb y h=>by
 by_cases z:b=d
 ·subst z;rw[AE]at h⊢;exact h
 ·rw[AN z]at h⊢;exact e b y h
end
theorem KS{A:List (Nat×Nat)}{k:List B6}{v:V}(h:(Am A (ls.map V.ref))[i]?=some (k,v)):∃a l,A[i]?=some a/\ls[i]?=some l/\k=BW a/\v=.ref l:=by
 unfold Am at h;rw[List.getElem?_zipWith,YO]at h;cases ha:A[i]? with
 |none=>rw[ha]at h;simp at h
 |some a =>
  cases hl:ls[i]? with
  |none=>rw[ha,hl]at h;simp at h
  |some l =>
   rw[ha,hl]at h;simp at h;exact⟨a,l,rfl,rfl,h.1.symm,h.2.symm⟩
theorem Oz.push{A:List (Nat×Nat)}{n:Nat}{a p0:Nat×Nat}{B:Nat×Nat->List (Nat×Nat)}(t:Oz A F i (λp q=>q=a/\p∈L.take j) n A2 B)(hp:L[j]?=some p0)(m:p0∈A2):Oz A F i (λp q=>q=a/\p∈L.take (j+1)) (n+1) A2 (λp=>if p0=p then B p++[a] else B p) where
 nd:=t.nd
 sub:=t.sub
 got:=t.got
 no:=λp h=>by rw[qE λe=>h (by rw[<-e];exact m)];exact t.no p h
 on:=λp q=>by
  rw[ZJ,hp,show (some p0).toList=[p0] from rfl,YR,YT]
  by_cases e:p0=p
  ·rw[qF e,YR,YT,t.on];constructor
   ·rintro ((h|⟨h1,h2⟩)|h)
    ·exact .inl h
    ·exact .inr ⟨h1,.inl h2⟩
    ·exact .inr ⟨h,.inr e.symm⟩
   ·rintro (h|⟨h1,_⟩)
    ·exact .inl (.inl h)
    ·exact .inr h1
  ·rw[qE e,t.on];constructor
   ·rintro (h|⟨h1,h2⟩)
    ·exact .inl h
    ·exact .inr ⟨h1,.inl h2⟩
   ·rintro (h|⟨h1,h2|h2⟩)
    ·exact .inl h
    ·exact .inr ⟨h1,h2⟩
    ·exact qG h2.symm e
 len:=λp=>by
  have:=t.len p
  by_cases e:p0=p
  ·rw[qF e,YN,Y5];lia
  ·rw[qE e];lia
structure No(A:List (Nat×Nat))(B:Nat×Nat->List (Nat×Nat))(M:List (Nat×Nat))(f:Nat×Nat->Nat):Prop where
 nd:M.Nodup
 sub:∀p∈M,p∈A
 low:∀p∈M,∀q∈B p,q∈M/\f q<f p
 top:∀p∈M,f p=0\/∃q∈B p,q∈M/\f p=f q+1
 rest:∀p∈A,p∉M->∃q∈B p,q∉M
 few:∀p∈M,f p<=A.length
inductive KU(P:Program)(w:World)(K:qJ)(vs:List V)(H:Hp)(Q:VK)(z3_:XK):Prop
 |m (d:Addr) (u:HO) (ls:List Addr) (A:List (Nat×Nat)) (B:Nat×Nat->List (Nat×Nat)):vs=[.ref d]->DR P w K H d u (Am A (ls.map V.ref))->Dm K H ls A B->A.Nodup->(∀a∈A,∀p∈B a,p∈A)->A.length<=100->(∀a∈A,(B a).length<=7000000)->(∀u' H' d2 M f,AI (Ac H d u') H'->DR P w K H' d u' (Am A (ls.map V.ref))->H d2=none->DW P w K H' d2 (Am M (M.map λp=>V.int (f p:Int)))->No A B M f->Q (.ref d2) H')->KU P w K vs H Q z3_
theorem Mq{X:Cx}{K:qJ}(h:X.K=K)(hc:X.calm=true):CK X (.builtin "all") (λxs H Q=>∃(p:Addr) (bs:List Bool),xs=[.ref p]/\Ai K H p (bs.map V.bl)/\Q (.bl (bs.all id)) H):=h▸LH hc
theorem QJ{X:Cx}{K:qJ}(h:X.K=K):Fw X (binaryOp .Add) (Sh K):=h▸RJ
theorem Rv{X:Cx}{K:qJ}(h:X.K=K)(hu:X.A.units+64<cLine):Fw X (compareOp .NotEq) (Vp K):=h▸T1 hu
theorem QK{X:Cx}{K:qJ}{l:Expr}(h:X.K=K)(hl:PE X l tl):PI X tg l (O4 K tl):=h▸NC hl
structure QL(A:List (Nat×Nat))(B:Nat×Nat->List (Nat×Nat))(M:List (Nat×Nat))(f:Nat×Nat->Nat)(FL:List (Nat×Nat))(n:Nat):Prop where
 nd:M.Nodup
 sub:∀p∈M,p∈A
 ndF:FL.Nodup
 on:∀p,p∈FL↔p∈A/\p∉M/\∀q∈B p,q∈M
 lt:∀p∈M,f p<n
 low:∀p∈M,∀q∈B p,q∈M/\f q<f p
 top:∀p∈M,f p=0\/∃q∈B p,q∈M/\f p=f q+1
 due:∀p∈FL,n=0\/∃q∈B p,q∈M/\n=f q+1
 le:n<=M.length
theorem QM{A:List (Nat×Nat)}{B:Nat×Nat->List (Nat×Nat)}(nd:A.Nodup)(f:Nat×Nat->Nat):QL A B [] f (A.filter λp=>decide (B p=[])) 0 where
 nd:=aZ
 sub:=λp hp=>qG hp Yv
 ndF:=nd.filter _
 on:=λp=>by
  rw[Yx,decide_eq_true_eq];refine and_congr Iff.rfl ⟨λe=>⟨Yv,λq hq=>?_⟩,λ⟨_,e⟩=>?_⟩
  ·rw[e]at hq;exact hq
  ·exact List.eq_nil_iff_forall_not_mem.mpr λq hq=>qG (e q hq) Yv
 lt:=λp hp=>qG hp Yv
 low:=λp hp=>qG hp Yv
 top:=λp hp=>qG hp Yv
 due:=λ_ _=>.inl rfl
 le:=YL _
noncomputable def UA(M:List (Nat×Nat))(f:Nat×Nat->Nat)(n:Nat):Nat×Nat->Nat:=λp=>if p∈M then f p else n
variable{M:List (Nat×Nat)}{f:Nat×Nat->Nat}
theorem Dx{n:Nat}(h:p∈M):UA M f n p=f p:=qF h
theorem Fn{n:Nat}(h:p∉M):UA M f n p=n:=qE h
theorem QL.step{A:List (Nat×Nat)}{B:Nat×Nat->List (Nat×Nat)}{FL:List (Nat×Nat)}{n:Nat}(m:QL A B M f FL n)(ndA:A.Nodup)(h:FL≠[]):
  QL A B (M++FL) (UA M f n) (A.filter λp=>decide (p∉M++FL)&&decide (∀q∈B p,q∈M++FL)) (n+1):=by
 have out:∀p∈FL,p∉M:=λp hp=>((m.on p).mp hp).2.1
 refine⟨Ze.mpr ⟨m.nd,m.ndF,λx hx y hy e=>out y hy (by rw[<-e];exact hx)⟩,λp hp=>?_,ndA.filter _,λp=>?_,λp hp=>?_,λp hp q hq=>?_,λp hp=>?_,λp hp=>?_,?_⟩
 ·rcases YR.mp hp with z|z
  ·exact m.sub p z
  ·exact ((m.on p).mp z).1
 ·rw[Yx,Zi,decide_eq_true_eq,decide_eq_true_eq]
 ·rcases YR.mp hp with z|z
  ·rw[Dx z];have:=m.lt p z;lia
  ·rw[Fn (out p z)];lia
 ·rcases YR.mp hp with z|z
  ·obtain⟨h1,h2⟩:=m.low p z q hq;rw[Dx z,Dx h1];exact⟨YR.mpr (.inl h1),h2⟩
  ·have h1:=((m.on p).mp z).2.2 q hq;rw[Fn (out p z),Dx h1];exact⟨YR.mpr (.inl h1),m.lt q h1⟩
 ·rcases YR.mp hp with z|z
  ·rcases m.top p z with e|⟨q,hq,h1,e⟩
   ·rw[Dx z];exact .inl e
   ·exact .inr ⟨q,hq,YR.mpr (.inl h1),by rw[Dx z,Dx h1];exact e⟩
  ·rw[Fn (out p z)];rcases m.due p z with e|⟨q,hq,h1,e⟩
   ·exact .inl e
   ·exact .inr ⟨q,hq,YR.mpr (.inl h1),by rw[Dx h1];exact e⟩
 ·rw[Yx,Zi,decide_eq_true_eq,decide_eq_true_eq]at hp;obtain⟨pA,pn,pq⟩:=hp;refine .inr ?_
  by_cases all:∀q∈B p,q∈M
  ·exact qG (YR.mpr (.inr ((m.on p).mpr ⟨pA,λz=>pn (YR.mpr (.inl z)),all⟩))) pn
  ·obtain⟨q,hq⟩:=Classical.not_forall.mp all;obtain⟨hq,nq⟩:=Classical.not_imp.mp hq;exact⟨q,hq,pq q hq,by rw[Fn nq]⟩
 ·have:0<FL.length:=List.length_pos_iff.mpr h;have:=m.le;rw[YN];lia
theorem QL.few{A:List (Nat×Nat)}{B:Nat×Nat->List (Nat×Nat)}{FL:List (Nat×Nat)}{n:Nat}(m:QL A B M f FL n):M.length+FL.length<=A.length:=by
 rw[<-YN];refine (Ze.mpr ⟨m.nd,m.ndF,λx hx y hy e=>((m.on y).mp hy).2.1 (by rw[<-e];exact hx)⟩).length_le_of_subset λp hp=>?_;rcases YR.mp hp with z|z
 ·exact m.sub p z
 ·exact ((m.on p).mp z).1
theorem QL.done{A:List (Nat×Nat)}{B:Nat×Nat->List (Nat×Nat)}{n:Nat}(m:QL A B M f [] n):No A B M f where
 nd:=m.nd
 sub:=m.sub
 low:=m.low
 top:=m.top
 rest:=λp hp np=>by
  by_cases all:∀q∈B p,q∈M
  ·exact qG ((m.on p).mpr ⟨hp,np,all⟩) Yv
  ·obtain⟨q,hq⟩:=Classical.not_forall.mp all;obtain⟨hq,nq⟩:=Classical.not_imp.mp hq;exact⟨q,hq,nq⟩
 few:=λp hp=>by have:=m.lt p hp;have:=m.le;have:=m.few;lia
def XD(P:Program)(w:World)(K:qJ)(H:Hp)(d d2:Addr)(ls:List Addr)(A:List (Nat×Nat))(B:Nat×Nat->List (Nat×Nat))(D:Addr)(M:List (Nat×Nat))(f:Nat×Nat->Nat)(FL:List (Nat×Nat))(HX:Hp):Prop:=
 ∃u' ps,AI (Ac H d u') HX/\DR P w K HX d u' (Am A (ls.map V.ref))/\Dm K HX ls A B/\H D=none/\HX D=some (.lst (ps.map V.ref))/\Cd K HX ps FL/\DW P w K HX d2 (Am M (M.map λp=>V.int (f p:Int)))
theorem IR:(B9 (Am M (M.map λp=>V.int (f p:Int))) (BW p)).isSome=decide (p∈M):=by
 by_cases h:p∈M
 ·obtain⟨i,hi⟩:=Y2.mp h;rw[qH h]
  suffices ∀(M:List (Nat×Nat)),p∈M->(B9 (Am M (M.map λp=>V.int (f p:Int))) (BW p)).isSome=true from this M h
  intro M
  induction M with
  |nil=>intro z;exact qG z Yv
  |cons a M ih =>
   intro z;show (B9 ((BW a,V.int (f a:Int))::Am M (M.map λp=>V.int (f p:Int))) (BW p)).isSome=true
   by_cases e:a=p
   ·rw[Fg (show (BW a,V.int (f a:Int)).1=BW p by rw[e])];rfl
   ·rw[EQ (show ¬(BW a,V.int (f a:Int)).1=BW p from λy=>e (IM y))];exact ih ((Yf.mp z).resolve_left λy=>e y.symm)
 ·rw[Dk h,qI h];rfl
theorem Jg{L:List α}{a:α}{p:α->Bool}(h:L[i]?=some a):(L.take (i+1)).filter p=(L.take i).filter p++(if p a=true then[a] else[]):=by
 rw[ZJ,h,show (some a).toList=[a] from rfl,ZP]
 by_cases e:p a=true
 ·rw[qF e,QG e]
 ·rw[qE e,Nm (by cases z:p a;rfl;exact qG z e)]
end L2
namespace L2
open PySem PySem.Spec PyProof.Rows
variable{E Q:Value->Shared->Prop}{a:Addr}{h':Heap}{i j:Nat}{us:List Value}{α β:Type}
section
variable{prog:Program}{w:World}{A:Around}{s:Shared}{k:SortKind}{a₀:Array Keyed}{st:SortSt}
def IS(prog:Program)(w:World)(A:Around)(s:Shared)(k:SortKind)(a₀:Array Keyed):Prop:=
 ∀x∈a₀.toList,∀y∈a₀.toList,∃b:Bool,∀(E:Value->Shared->Prop) (Q:Bool->Shared->Prop),Q b s->wpAny (model prog w) A (keyLt' k x.1 y.1) Q E s
end
theorem Mr(b:Bool)(x y:Value):keyLt' (tuples' b) x y=(do
  let xs <-Builtin.List.listItems x
  let ys <-Builtin.List.listItems y
  for ((p,q),i) in (xs.toList.zip ys.toList).zipIdx do
   if !(<-eqBool p q) then return <-oneLt' (b&&i==0) p q
  return decide (xs.size<ys.size)):=rfl
variable{vs:List Value}
section
variable{prog:Program}{w:World}{A:Around}{s:Shared}
theorem Ms(o:Bool){a b:Int}{t u:Tok}{Q:Bool->Shared->Prop}(h:Q (decide (a<b)) s):wpAny (model prog w) A (oneLt' o (.int a t) (.int b u)) Q E s:=by
 cases o with
 |true=>exact oneLt_int h
 |false =>
  rw[oneLt'_eq];simp only[Bool.false_eq_true,if_false];refine qC ((lt_int ?_:wpAny (model prog w) A (compareOp .Lt (.int a t) (.int b u)) _ E s));exact wpAny_truthy_bool h
theorem Oh(b:Bool){x y:Addr}{ws:List Value}{ns ms:List Int}(hx:IsTup s.heap x vs.toArray)(hy:IsTup s.heap y ws.toArray)(iv:IntsAre vs ns)(iw:IntsAre ws ms){Q:Bool->Shared->Prop}(h:Q (HT.Db ns ms) s):
  wpAny (model prog w) A (keyLt' (tuples' b) (.ref x) (.ref y)) Q E s:=by
 obtain⟨ox,gx,_,nx,dx⟩:=hx;obtain⟨oy,gy,_,ny,dy⟩:=hy;rw[Mr];refine qC (listItems_at gx dx (qC (listItems_at gy dy ?_)));have l1:vs.length=ns.length:=iv.length;have l2:ws.length=ms.length:=iw.length
 refine qC (wpAny_mono (wpAny_forIn_list _ (λrest c s'=>c=(none,())/\s'=s/\∃(k:Nat) (vs' ws':List Value) (ns' ms':List Int),rest=(vs'.zip ws').zipIdx k/\IntsAre vs' ns'/\IntsAre ws' ms'/\ns'.length+ms.length=ms'.length+ns.length/\HT.Db ns' ms'=HT.Db ns ms)
  (λc s'=>s'=s/\(c=(some (HT.Db ns ms),())\/(c=(none,())/\decide (ns.length<ms.length)=HT.Db ns ms))) ?_ ?_ _ _ ⟨rfl,rfl,0,vs,ws,ns,ms,by simp,iv,iw,Nat.add_comm ..,rfl⟩) ?_ λ_ _ e=>e)
 ·rintro⟨⟨p,q⟩,i⟩ rest c s' ⟨rfl,rfl,j,vs',ws',ns',ms',hz,hv,hw,hl,he⟩;cases hv with
  |nil=>simp at hz
  |cons a t hv' =>
   cases hw with
   |nil=>simp at hz
   |cons c u hw' =>
    rw[List.zip_cons_cons,List.zipIdx_cons]at hz
    injection hz with h1 h2
    injection h1 with h1 h3
    injection h1 with h4 h5
    subst h4 h5;rw[HT.L7]at he;refine qC (wpAny_eqBool_int ?_)
    by_cases e:a=c
    ·rw[qF e]at he;rw[show (a==c)=true by simp[e]];refine qD ⟨rfl,rfl,_,_,_,_,_,h2,hv',hw',?_,he⟩;simp only[List.length_cons]at hl;lia
    ·rw[qE e]at he;rw[show (a==c)=false by simp[e]];refine qC (Ms _ (qD ⟨rfl,.inl ?_⟩));rw[he]
 ·rintro c s' ⟨rfl,rfl,j,vs',ws',ns',ms',hz,hv,hw,hl,he⟩;refine⟨rfl,.inr ⟨rfl,?_⟩⟩;rw[<-he];cases hv with
  |nil =>
   cases hw with
   |nil =>
    simp only[List.length_nil]at hl;rw[HT.JC,qI (by lia)]
   |cons c u hw' =>
    simp only[List.length_nil,List.length_cons]at hl;rw[HT.HJ,qH (by lia)]
  |cons a t hv' =>
   cases hw with
   |nil =>
    simp only[List.length_nil,List.length_cons]at hl;rw[HT.HK,qI (by lia)]
   |cons c u hw'=>simp at hz
 ·rintro c s' ⟨rfl,z|⟨z,y⟩⟩
  ·subst z;exact qD h
  ·subst z;refine qD ?_;rw[show decide (vs.toArray.size<ws.toArray.size)=HT.Db ns ms by rw[<-y,Yn,Yn,l1,l2]];exact h
theorem GG(v:Value):firstOfTuple' v=(do
  if (<-typeOf v) != .type "tuple" then return none
  return (<-Builtin.List.listItems v)[0]?):=rfl
def Gc(h:Heap)(v:Value):Prop:=∃(t:Addr) (vs:List Value) (ns:List Int),v=.ref t/\IsTup h t vs.toArray/\IntsAre vs ns/\ns≠[]
theorem Oi{v:Value}(h:Gc s.heap v){Q:Option Value->Shared->Prop}(q:∀n t,Q (some (.int n t)) s):wpAny (model prog w) A (firstOfTuple' v) Q E s:=by
 obtain⟨t,vs,ns,rfl,⟨o,g,c,m,d⟩,i,ne⟩:=h;rw[GG];refine qC (wpAny_typeOf (T:="tuple") ⟨o,g,c⟩ ?_);rw[qE (by simp)];refine qC (listItems_at g d (qD ?_));cases i with
 |nil=>exact qG rfl ne
 |cons n t i=>exact q n t
theorem IT{f:α->Sem β}{R:β->Prop}{Q:List β->Shared->Prop}:∀(l:List α),(∀x∈l,∀Q':β->Shared->Prop,(∀y,R y->Q' y s)->wpAny (model prog w) A (f x) Q' E s)->(∀ys,ys.length=l.length->(∀y∈ys,R y)->Q ys s)->wpAny (model prog w) A (l.mapM f) Q E s
 |[],_,q=>by rw[List.mapM_nil];exact qD (q [] rfl λ_ z=>qG z Yv)
 |x::l,h,q=>by
  rw[List.mapM_cons];refine qC (h x Ye _ λy hy=>qC (IT l (λz hz=>h z (YZ _ hz)) λys hl hys=>qD (q (y::ys) (by rw[Y8,Y8,hl]) λz hz=>?_)));rcases Yf.mp hz with e|e
  ·rw[e];exact hy
  ·exact hys z e
theorem QN{v₁ v₂:Value}(h:∀v∈v₁::v₂::vs,Gc s.heap v){Q:SortKind->Shared->Prop}(q:∀b,Q (tuples' b) s):wpAny (model prog w) A (keyKind' (v₁::v₂::vs).toArray) Q E s:=by
 rw[keyKind'_eq,List.mapM_toArray];refine qC (wpAny_map ?_);refine IT (R:=λy=>∃n t,y=some (.int n t)) (v₁::v₂::vs) (λv hv Q' q'=>Oi (h v hv) λn t=>q' _ ⟨n,t,rfl⟩) λys hl hys=>?_
 have al:(ys.toArray.all λx=>x.isSome)=true:=by rw[List.all_toArray,ag];intro y hy;obtain⟨n,t,e⟩:=hys y hy;rw[e];rfl
 rw[qF al];refine qC (wpAny_rule (qC ?_));rw[oneTypeOnly'_eq,List.filterMap_toArray,List.mapM_toArray];refine qC (wpAny_map (IT (R:=λ_=>True) _ (λv hv Q' q'=>?_) λts _ _=>?_))
 ·obtain⟨y,hy,e⟩:=ap.mp hv;obtain⟨n,t,e2⟩:=hys y hy;rw[e2]at e;have e:v=.int n t:=(Option.some.inj e).symm;rw[e];exact wpAny_typeOf (typeIs_int s n t) (q' _ True.intro)
 ·split
  ·exact qD (qD (q _))
  ·exact qD (qD (q _))
theorem Gc.at{h:Heap}{v:Value}(x:Gc h v)(k:∀t o,h.get? t=some o->o.cls=.type "tuple"->h'.get? t=some o):Gc h' v:=by obtain⟨t,vs,ns,e,⟨o,g,c,d⟩,i,ne⟩:=x;exact⟨t,vs,ns,e,⟨o,k t o g c,c,d⟩,i,ne⟩
end
theorem Jh{ws:List Value}(p:us.Perm ws):∀{xs:List V},Ax xs ws->∃zs,zs.Perm xs/\Ax zs us:=by
 induction p with
 |nil=>intro xs h;exact⟨xs,.refl _,h⟩
 |cons a _ ih =>
  intro xs h;cases h with
  |cons r h =>
   obtain⟨zs,p1,v1⟩:=ih h;exact⟨_::zs,p1.cons _,.cons r v1⟩
 |swap a b l =>
  intro xs h;cases h with
  |cons r h =>
   cases h with
   |cons r2 h=>exact⟨_,.swap ..,.cons r2 (.cons r h)⟩
 |trans _ _ ih1 ih2 =>
  intro xs h;obtain⟨zs,p2,v2⟩:=ih2 h;obtain⟨ys,p1,v1⟩:=ih1 v2;exact⟨ys,p1.trans p2,v1⟩
theorem Ct:∀{ns:List Int} {us:List Value},Ax (ns.map V.int) us->IntsAre us ns
 |[],_,.nil=>.nil
 |n::ns,_,.cons ⟨t,e⟩ h=>by subst e;exact .cons n t (Ct h)
noncomputable def Rw:Bool->Keyed->Array Keyed->Nat->Nat->Nat->StateT SortSt Sem (Option Nat):=sortPriv% PySem.Builtin.gallop
noncomputable def QO:Array Keyed->Array Keyed->StateT SortSt Sem (Array Keyed):=sortPriv% PySem.Builtin.mergeLo
noncomputable def QP:Array Keyed->Array Keyed->StateT SortSt Sem (Array Keyed):=sortPriv% PySem.Builtin.mergeHi
noncomputable def Rx:Nat->StateT SortSt Sem Unit:=sortPriv% PySem.Builtin.setMinGallop
structure SX(k:SortKind)(xs:Array Keyed)(p:Array (Nat×Nat×Nat))(st:SortSt):Prop where
 kd:kindOf st=k
 ar:arrOf st=xs
 pd:pendingOf st=p
 fl:failedOf st=none
structure SZ(k:SortKind)(a₀:Array Keyed)(p:Array (Nat×Nat×Nat))(st:SortSt):Prop where
 kd:kindOf st=k
 pm:(arrOf st).toList.Perm a₀.toList
 pd:pendingOf st=p
 fl:failedOf st=none
section
variable{prog:Program}{w:World}{A:Around}{s:Shared}{k:SortKind}{a₀ xs:Array Keyed}{p:Array (Nat×Nat×Nat)}{st:SortSt}
theorem SZ.x(Z:SZ k a₀ p st):SX k (arrOf st) p st:=⟨Z.kd,rfl,Z.pd,Z.fl⟩
theorem SZ.n(Z:SZ k a₀ p st):(arrOf st).size=a₀.size:=by have z:=Z.pm.length_eq;simpa using z
theorem AZ{c:Prop}[Decidable c]{m n:StateT SortSt Sem α}{Q:α->SortSt->Prop}(h1:c->wpS (model prog w) A E s m Q st)(h2:¬c->wpS (model prog w) A E s n Q st):wpS (model prog w) A E s (if c then m else n) Q st:=by
 split
 ·exact h1 ‹_›
 ·exact h2 ‹_›
theorem CS{m n:Nat}(h:¬(m==n)=true):m≠n:=λe=>h (by simp[e])
theorem Np{c:Prop}[Decidable c]{f:β->StateT SortSt Sem α}{x y:β}{Q:α->SortSt->Prop}(J:∀g,wpS (model prog w) A E s (f g) Q st):wpS (model prog w) A E s (if c then f x else f y) Q st:=by
 split
 ·exact J _
 ·exact J _
theorem G4{γ:Type}{f:β->γ->StateT SortSt Sem α}{m:StateT SortSt Sem α}{Q:α->SortSt->Prop}(R:β->γ->Prop)(J:∀x y,R x y->wpS (model prog w) A E s (f x y) Q st)(h:(∀x y,R x y->wpS (model prog w) A E s (f x y) Q st)->wpS (model prog w) A E s m Q st):wpS (model prog w) A E s m Q st:=h J
theorem QQ{f:β->StateT SortSt Sem α}{m:StateT SortSt Sem α}{Q:α->SortSt->Prop}(R:β->SortSt->Prop)(J:∀x t,R x t->wpS (model prog w) A E s (f x) Q t)(h:(∀x t,R x t->wpS (model prog w) A E s (f x) Q t)->wpS (model prog w) A E s m Q st):wpS (model prog w) A E s m Q st:=h J
theorem Ry{t:SortSt}{Q:PUnit->SortSt->Prop}(h:Q ⟨⟩ t):wpS (model prog w) A E s (set t:StateT SortSt Sem PUnit) Q st:=by unfold wpS;rw[StateT.run_set];exact qD ⟨rfl,h⟩
theorem BV{arr:Array Keyed}(h:i<arr.size){Q:Keyed->SortSt->Prop}(q:Q arr[i] st):wpS (model prog w) A E s (elem' arr i) Q st:=by rw[elem'_eq,getElem?_pos arr i h];exact wpS_pure q
theorem LY(hc:IS prog w A s k a₀)(hk:kindOf st=k){x y:Keyed}(mx:x∈a₀.toList)(my:y∈a₀.toList){Q:Option Bool->SortSt->Prop}(h:∀b,Q (some b) st):wpS (model prog w) A E s (lt' x y) Q st:=by obtain⟨b,hb⟩:=hc x mx y my;rw[lt'_eq];refine wpS_bind (wpS_get ?_);rw[hk];exact wpS_bind (wpS_lift (wpAny_attempt (hb _ _ ⟨rfl,wpS_pure (h b)⟩)))
theorem G5(hc:IS prog w A s k a₀)(Z:SZ k a₀ p st)(hi:i<a₀.size)(hj:j<a₀.size){Q:Option Bool->SortSt->Prop}(h:∀b,Q (some b) st):wpS (model prog w) A E s (ltAt' i j) Q st:=by have n:=Z.n;rw[ltAt'_eq];refine wpS_bind (wpS_get ?_);exact wpS_bind (BV (arr:=arrOf st) (by lia) (wpS_bind (BV (arr:=arrOf st) (by lia) (LY hc Z.kd (Z.pm.mem_iff.mp (by simp)) (Z.pm.mem_iff.mp (by simp)) h))))
theorem KW(Z:SZ k a₀ p st){Q:Unit->SortSt->Prop}(h:∀t,SZ k a₀ p t->Q () t):wpS (model prog w) A E s (reverseSlice' i j) Q st:=by rw[reverseSlice'_eq];exact wpS_modify (h _ ⟨Z.kd,(Array.perm_iff_toList_perm.mp (mirror_perm ..)).trans Z.pm,Z.pd,Z.fl⟩)
theorem Rz(Z:SZ k a₀ p st){Q:Unit->SortSt->Prop}(h:∀t,SZ k a₀ p t->Q () t):wpS (model prog w) A E s (moveDown' i j) Q st:=by rw[moveDown'_eq];exact wpS_modify (h _ ⟨Z.kd,(Array.perm_iff_toList_perm.mp (bubble_perm ..)).trans Z.pm,Z.pd,Z.fl⟩)
theorem Fo(X:SX k xs p st){g:Nat}{Q:Unit->SortSt->Prop}(h:∀t,SX k xs p t->Q () t):wpS (model prog w) A E s (Rx g) Q st:=
 wpS_modify (h _ ⟨X.kd,X.ar,X.pd,X.fl⟩)
theorem C1(hc:IS prog w A s k a₀)(hk:kindOf st=k){left:Bool}{key:Keyed}{arr:Array Keyed}{base n hint:Nat}(mk:key∈a₀.toList)(ma:∀x∈arr.toList,x∈a₀.toList)(hb:base+n<=arr.size)(hh:hint<n)
  {Q:Option Nat->SortSt->Prop} (h:∀r,r<=n->Q (some r) st):wpS (model prog w) A E s (Rw left key arr base n hint) Q st:=by
 obtain⟨B,hB⟩:∃B:Nat->StateT SortSt Sem (Option Bool),B=(λi=>do
   let x <-elem' arr (base+i)
   if left=true then lt' x key else do
    let r <-lt' key x
    pure (Option.map (λx=>!x) r)):=⟨_,rfl⟩
 have bey:∀{i:Nat} {Q:Option Bool->SortSt->Prop},i<n->(∀b,Q (some b) st)->wpS (model prog w) A E s (B i) Q st:=λ{i Q} hi q=>by
  rw[hB];refine wpS_bind (BV (by lia) ?_);have mx:=ma (arr[base+i]'(by lia)) (by simp);cases left
  ·exact wpS_bind (LY hc hk mk mx λb=>wpS_pure (q _))
  ·exact LY hc hk mx mk q
 have half:∀{lo hi:Nat},hi<=n->∀{Q':Option (Option Nat)×Nat×Nat->SortSt->Prop},(∀l r,r<=n->Q' (none,l,r) st)->wpS (model prog w) A E s (forIn [:n] ((none,lo,hi):Option (Option Nat)×Nat×Nat) λ_ c=>if c.2.1≥c.2.2 then pure (ForInStep.done (none,c.2.1,c.2.2)) else do
   let m <-B (c.2.1+(c.2.2-c.2.1)/2)
   match m with
   |some more=>if more=true then pure (ForInStep.yield (none,c.2.1+(c.2.2-c.2.1)/2+1,c.2.2)) else pure (ForInStep.yield (none,c.2.1,c.2.1+(c.2.2-c.2.1)/2))
   |_=>pure (ForInStep.done (some none,c.2.1,c.2.2))) Q' st:=λ{lo hi} h2 {Q'} q=>by
  refine wpS_forRange (I:=λ_ c t=>t=st/\∃lo hi,c=(none,lo,hi)/\hi<=n) ?_ ?_ ⟨rfl,lo,hi,rfl,h2⟩
  ·rintro i c t _ _ ⟨rfl,lo,hi,rfl,a⟩;dsimp only;refine AZ (λz=>wpS_pure (q lo hi a)) λz=>wpS_bind (bey (by lia) λb=>?_)
   dsimp only;exact AZ (λ_=>wpS_pure ⟨rfl,_,_,rfl,a⟩) λ_=>wpS_pure ⟨rfl,_,_,rfl,by lia⟩
  ·rintro c t ⟨rfl,lo,hi,rfl,a⟩;exact q lo hi a
 subst hB;refine wpS_bind (bey hh λb=>?_);dsimp only;refine AZ (λ_=>?_) λ_=>?_
 ·refine wpS_bind (wpS_mono (wpS_forRange (I:=λ_ c t=>t=st/\∃la fo,c=(none,la,fo)) (Q:=λc t=>t=st/\∃la fo,c=(none,la,fo)) ?_ (λ_ _ z=>z) ⟨rfl,0,1,rfl⟩) ?_)
  ·rintro i c t _ hi ⟨rfl,la,fo,rfl⟩;dsimp only;refine AZ (λ_=>wpS_pure ⟨rfl,_,_,rfl⟩) λz=>wpS_bind (bey (by lia) λb=>?_)
   dsimp only;exact AZ (λ_=>wpS_pure ⟨rfl,_,_,rfl⟩) λ_=>wpS_pure ⟨rfl,_,_,rfl⟩
  ·rintro c t ⟨rfl,la,fo,rfl⟩;dsimp only;exact wpS_bind (half (by lia) λl r hr=>wpS_pure (h r hr))
 ·refine wpS_bind (wpS_mono (wpS_forRange (I:=λ_ c t=>t=st/\∃la fo,c=(none,la,fo)) (Q:=λc t=>t=st/\∃la fo,c=(none,la,fo)) ?_ (λ_ _ z=>z) ⟨rfl,0,1,rfl⟩) ?_)
  ·rintro i c t _ hi ⟨rfl,la,fo,rfl⟩;dsimp only;refine AZ (λ_=>wpS_pure ⟨rfl,_,_,rfl⟩) λz=>wpS_bind (bey (by lia) λb=>?_)
   dsimp only;exact AZ (λ_=>wpS_pure ⟨rfl,_,_,rfl⟩) λ_=>wpS_pure ⟨rfl,_,_,rfl⟩
  ·rintro c t ⟨rfl,la,fo,rfl⟩;dsimp only;exact wpS_bind (half (by lia) λl r hr=>wpS_pure (h r hr))
end
def MP(a b:Array Keyed)(out:Array Keyed)(L R:List Keyed):Prop:=(out.toList++(L++R)).Perm (a.toList++b.toList)
section
variable{a b out:Array Keyed}{L R:List Keyed}
theorem MP.l{o:Array Keyed}{x L':List Keyed}(M:MP a b out L R)(ho:o.toList.Perm (out.toList++x))(h:L.Perm (x++L')):MP a b o L' R:=by refine ((ho.append_right _).trans ?_).trans M;rw[Yu,<-Yu x];exact (h.symm.append_right R).append_left _
theorem MP.r{o:Array Keyed}{x R':List Keyed}(M:MP a b out L R)(ho:o.toList.Perm (out.toList++x))(h:R.Perm (x++R')):MP a b o L R':=by refine ((ho.append_right _).trans ?_).trans M;rw[Yu];refine .append_left _ (List.Perm.trans ?_ (h.symm.append_left L));rw[<-Yu,<-Yu];exact List.perm_append_comm.append_right _
theorem MP.all{o:List Keyed}(M:MP a b out L R)(h:o.Perm (out.toList++(L++R))):o.Perm (a.toList++b.toList):=h.trans M
theorem FD(a:Array Keyed)(i j:Nat):(a.extract i j).toList=(a.toList.take j).drop i:=by rw[Array.toList_extract,List.extract_eq_take_drop,aB]
theorem EU(h:i<a.size):(a.toList.drop i).Perm ([a[i]]++a.toList.drop (i+1)):=by rw[List.drop_eq_getElem_cons (by simpa using h)];simp
theorem LZ(a:Array Keyed)(i k:Nat):(a.toList.drop i).Perm ((a.extract i (i+k)).toList++a.toList.drop (i+k)):=by rw[FD,aB,Zr,am i k,<-aa,aa,am k i,<-aa,Y6]
theorem EV(h:i<a.size):(a.toList.take (i+1)).Perm ([a[i]]++a.toList.take i):=by rw[List.take_add_one,List.getElem?_eq_getElem (by simpa using h)];simpa using (List.perm_append_comm (l₁:=a.toList.take i) (l₂:=[a[i]]))
theorem La(h:i<=j):(a.toList.take j).Perm ((a.extract i j).toList++a.toList.take i):=by
 rw[FD];refine List.Perm.trans (.of_eq ?_) List.perm_append_comm
 conv=>lhs;rw[<-Y6 i (a.toList.take j)]
 rw[List.take_take,aL h]
theorem G6(a:Array Keyed)(i:Nat):(a.extract i a.size).toList=a.toList.drop i:=by rw[FD,List.take_of_length_le (by simp)]
theorem Fp(a:Array Keyed)(i:Nat):(a.extract 0 i).toList=a.toList.take i:=by rw[FD,Zt]
theorem EW{x:Keyed}:(out.push x).toList.Perm (out.toList++[x]):=by rw[Array.toList_push]
theorem S6{x:Array Keyed}:(out++x).toList.Perm (out.toList++x.toList):=by rw[ZA]
theorem S7{x:Array Keyed}:(out++x.reverse).toList.Perm (out.toList++x.toList):=by rw[ZA,bO];exact (List.reverse_perm _).append_left _
theorem MP.doneL(M:MP a b out (a.toList.drop i) (b.toList.drop j)):(out++a.extract i a.size++b.extract j b.size).toList.Perm (a.toList++b.toList):=M.all (by rw[ZA,ZA,G6,G6,Yu])
theorem MP.lastL(M:MP a b out (a.toList.drop i) (b.toList.drop j)):(out++b.extract j b.size++a.extract i a.size).toList.Perm (a.toList++b.toList):=M.all (by rw[ZA,ZA,G6,G6,Yu];exact List.perm_append_comm.append_left _)
theorem MP.doneH(M:MP a b out (a.toList.take i) (b.toList.take j)):(a.extract 0 i++b.extract 0 j++out.reverse).toList.Perm (a.toList++b.toList):=M.all (by rw[ZA,ZA,Fp,Fp,bO];exact List.perm_append_comm.trans ((List.reverse_perm _).append_right _))
theorem MP.lastH(M:MP a b out (a.toList.take i) (b.toList.take j)):(b.extract 0 j++a.extract 0 i++out.reverse).toList.Perm (a.toList++b.toList):=M.all (by rw[ZA,ZA,Fp,Fp,bO];exact List.perm_append_comm.trans (((List.reverse_perm _).append_right _).trans (List.perm_append_comm.append_left _)))
end
structure Lb(a b:Array Keyed)(P:Nat)(out:Array Keyed)(ia ib:Nat):Prop where
 mi:MP a b out (a.toList.drop ia) (b.toList.drop ib)
 la:ia+1<a.size
 lb:ib<b.size
 ge:P<=ia+ib
structure S8(a b:Array Keyed)(P:Nat)(out:Array Keyed)(na nb:Nat):Prop where
 mi:MP a b out (a.toList.take na) (b.toList.take nb)
 la:1<=na
 lb:2<=nb
 za:na<=a.size
 zb:nb<=b.size
 ge:P+na+nb<=a.size+b.size
section
variable{prog:Program}{w:World}{A:Around}{s:Shared}{k:SortKind}{a₀ xs a b:Array Keyed}{p:Array (Nat×Nat×Nat)}{st:SortSt}
theorem Mt(hc:IS prog w A s k a₀)(X:SX k xs p st)(ma:∀x∈a.toList,x∈a₀.toList)(mb:∀x∈b.toList,x∈a₀.toList)(ha:0<a.size)(hb:0<b.size)
  {Q:Array Keyed->SortSt->Prop} (h:∀out t,SX k xs p t->out.toList.Perm (a.toList++b.toList)->Q out t):wpS (model prog w) A E s (QO a b) Q st:=by
 have ga:∀{i:Nat} (hi:i<a.size),a[i]∈a₀.toList:=λ{i} hi=>ma _ (by simp)
 have gb:∀{i:Nat} (hi:i<b.size),b[i]∈a₀.toList:=λ{i} hi=>mb _ (by simp)
 refine wpS_bind (wpS_lift (wpAny_rule ⟨rfl,?_⟩));refine wpS_bind (BV hb ?_);have M0:MP a b #[b[0]] (a.toList.drop 0) (b.toList.drop 1):=MP.r (out:=#[]) (x:=[b[0]]) (.refl _) (.refl _) (EU hb);refine AZ (λ_=>wpS_pure (h _ _ X M0.doneL)) λe=>AZ (λ_=>wpS_pure (h _ _ X M0.lastL)) λe2=>?_
 have e:1≠b.size:=CS e;have e2:0+1≠a.size:=CS e2;refine wpS_bind (wpS_get ?_);refine wpS_bind (wpS_forRange (I:=λi c t=>SX k xs p t/\∃out ia ib mg,c=(none,out,ia,ib,mg)/\Lb a b (i+1) out ia ib) ?_ ?_ ⟨X,_,_,_,_,rfl,M0,by lia,by lia,by lia⟩)
 ·clear X;rintro i c t _ hi ⟨X,out,ia,ib,mg,rfl,M⟩;refine wpS_bind (wpS_mono (wpS_forRange (I:=λ_ c t=>SX k xs p t/\∃out ia ib ac bc,c=(none,out,ia,ib,ac,bc)/\Lb a b (i+1) out ia ib) (Q:=λc t=>SX k xs p t/\((∃r o,c=(some r,o)/\r.toList.Perm (a.toList++b.toList))\/∃out ia ib ac bc,c=(none,out,ia,ib,ac,bc)/\Lb a b (i+1) out ia ib)) ?_ ?_ ⟨X,out,ia,ib,0,0,rfl,M⟩) ?_)
  ·clear M X;rintro j c t _ hj ⟨X,out,ia,ib,ac,bc,rfl,M,la,lb,ge⟩;have la':ia<a.size:=Nat.lt_of_succ_lt la;refine wpS_bind (BV lb (wpS_bind (BV la' (wpS_bind (LY hc X.kd (gb lb) (ga la') λ_=>AZ (λ_=>?_) λ_=>?_)))))
   ·have M2:=M.r (EW (x:=b[ib])) (EU lb);have M3:ib+1≠b.size->Lb a b (i+1) (out.push b[ib]) ia (ib+1):=λq=>⟨M2,la,aD lb q,Nat.le_succ_of_le ge⟩
    exact wpS_bind (BV lb (AZ (λ_=>wpS_pure ⟨X,.inl ⟨_,_,rfl,M2.doneL⟩⟩) λz=>AZ (λ_=>wpS_pure ⟨X,.inr ⟨_,_,_,_,_,rfl,M3 (CS z)⟩⟩) λ_=>wpS_pure ⟨X,_,_,_,_,_,rfl,M3 (CS z)⟩))
   ·have M2:=M.l (EW (x:=a[ia])) (EU la');have M3:ia+1+1≠a.size->Lb a b (i+1) (out.push a[ia]) (ia+1) ib:=λq=>⟨M2,aD la q,lb,by lia⟩
    exact wpS_bind (BV la' (AZ (λ_=>wpS_pure ⟨X,.inl ⟨_,_,rfl,M2.lastL⟩⟩) λz=>AZ (λ_=>wpS_pure ⟨X,.inr ⟨_,_,_,_,_,rfl,M3 (CS z)⟩⟩) λ_=>wpS_pure ⟨X,_,_,_,_,_,rfl,M3 (CS z)⟩))
  ·rintro c t ⟨X,z⟩;exact⟨X,.inr z⟩
  clear M X;rintro c t ⟨X,⟨r,o,rfl,R⟩|⟨out,ia,ib,ac,bc,rfl,M⟩⟩
  ·exact wpS_pure (wpS_pure (h _ _ X R))
  refine wpS_bind (wpS_lift (wpAny_rule ⟨rfl,?_⟩));refine wpS_bind (wpS_mono (wpS_forRange (I:=λj c t=>SX k xs p t/\∃out ia ib mg ac bc,c=(none,out,ia,ib,mg,ac,bc)/\Lb a b (i+1+j) out ia ib) (Q:=λc t=>SX k xs p t/\((∃r o,c=(some r,o)/\r.toList.Perm (a.toList++b.toList))\/∃out ia ib mg ac bc,c=(none,out,ia,ib,mg,ac,bc)/\Lb a b (i+1+1) out ia ib)) ?_ ?_ ⟨X,_,_,_,_,_,_,rfl,M⟩) ?_)
  ·clear M X;rintro j c t _ hj ⟨X,out,ia,ib,mg,ac,bc,rfl,M,la,lb,ge⟩;dsimp (config:={zeta:=false,zetaHave:=false}) only
   extract_lets c1 out1 c2 ia1 c3 ib1 c4 mg1 c5 ac1 bc1 ib2 jp mg2
   refine Np (f:=jp ()) λg=>?_;refine wpS_bind (Fo X λt X=>wpS_bind (BV lb (wpS_bind (C1 hc X.kd (gb lb) ma (show ia+(a.size-ia)<=a.size by lia) (show 0<a.size-ia by lia) λr (hr:r<=a.size-ia)=>?_))));dsimp (config:={zeta:=false,zetaHave:=false}) only
   extract_lets ac2 jp2 out2 ia2
   refine G4 (f:=jp2 ()) (λout' ia'=>MP a b out' (a.toList.drop ia') (b.toList.drop ib)/\ia'+1<a.size/\ia<=ia') (λout' ia' ⟨R1,R2,R3⟩=>?_) λJ=>?_
   ·have MB:=R1.r (EW (x:=b[ib])) (EU lb);refine wpS_bind (BV lb (AZ (λz=>wpS_pure ⟨X,.inl ⟨_,_,rfl,MB.doneL⟩⟩) λz=>?_));have lb2:ib+1<b.size:=aD lb (CS z);have la2:ia'<a.size:=Nat.lt_of_succ_lt R2;refine wpS_bind (BV la2 (wpS_bind (C1 hc X.kd (ga la2) mb (show ib+1+(b.size-(ib+1))<=b.size by lia) (show 0<b.size-(ib+1) by lia) λr' (hr':r'<=b.size-(ib+1))=>?_)));dsimp (config:={zeta:=false,zetaHave:=false}) only
    extract_lets bc2 ia4 jp3 out3 ib3
    refine G4 (f:=jp3 ()) (λout' ib'=>MP a b out' (a.toList.drop ia') (b.toList.drop ib')/\ib'<b.size/\ib+1<=ib') (λout' ib' ⟨S1,S2,S3⟩=>?_) λJ=>?_
    ·have MA:=S1.l (EW (x:=a[ia'])) (EU la2);have MD:∀P,P<=i+1+(j+1)->ia'+1+1≠a.size->Lb a b P (out'.push a[ia']) (ia'+1) ib':=λP hP q=>⟨MA,aD R2 q,S2,by lia⟩
     exact wpS_bind (BV la2 (AZ (λz=>wpS_pure ⟨X,.inl ⟨_,_,rfl,MA.lastL⟩⟩) λz=>AZ (λ_=>wpS_pure ⟨X,.inr ⟨_,_,_,_,_,_,rfl,MD _ (by lia) (CS z)⟩⟩) λ_=>wpS_pure ⟨X,_,_,_,_,_,_,rfl,MD _ (YL _) (CS z)⟩))
    ·have MC:=MB.r (S6 (x:=b.extract (ib+1) (ib+1+r'))) (LZ b (ib+1) r');refine AZ (λz1=>AZ (λz=>wpS_pure ⟨X,.inl ⟨_,_,rfl,MC.doneL⟩⟩) λz=>J _ _ ⟨MC,?_,Nat.le_add_right _ _⟩) λz1=>J _ _ ⟨MB,lb2,YL _⟩
     have q:ib+1+r'≠b.size:=CS z;exact (show ib+1+r'<b.size by lia)
   ·have MC:=M.l (S6 (x:=a.extract ia (ia+r))) (LZ a ia r);refine AZ (λz1=>AZ (λz=>wpS_pure ⟨X,.inl ⟨_,_,rfl,MC.lastL⟩⟩) λz=>AZ (λy=>wpS_pure ⟨X,.inl ⟨_,_,rfl,MC.doneL⟩⟩) λy=>J _ _ ⟨MC,?_,Nat.le_add_right _ _⟩) λz1=>J _ _ ⟨M,la,YL _⟩
    have q:ia+r+1≠a.size:=CS z;have q2:ia+r≠a.size:=CS y;exact (show ia+r+1<a.size by lia)
  ·rintro c t ⟨X,out,ia,ib,mg,ac,bc,rfl,M,la,lb,ge⟩;lia
  clear M X;rintro c t ⟨X,⟨r,o,rfl,R⟩|⟨out,ia,ib,mg,ac,bc,rfl,M⟩⟩
  ·exact wpS_pure (wpS_pure (h _ _ X R))
  exact wpS_bind (Fo X λt X=>wpS_pure ⟨X,_,_,_,_,rfl,M⟩)
 ·rintro c t ⟨X,out,ia,ib,mg,rfl,M,la,lb,ge⟩;lia
theorem Mu(hc:IS prog w A s k a₀)(X:SX k xs p st)(ma:∀x∈a.toList,x∈a₀.toList)(mb:∀x∈b.toList,x∈a₀.toList)(ha:0<a.size)(hb:0<b.size)
  {Q:Array Keyed->SortSt->Prop} (h:∀out t,SX k xs p t->out.toList.Perm (a.toList++b.toList)->Q out t):wpS (model prog w) A E s (QP a b) Q st:=by
 have ga:∀{i:Nat} (hi:i<a.size),a[i]∈a₀.toList:=λ{i} hi=>ma _ (by simp)
 have gb:∀{i:Nat} (hi:i<b.size),b[i]∈a₀.toList:=λ{i} hi=>mb _ (by simp)
 refine wpS_bind (wpS_lift (wpAny_rule ⟨rfl,?_⟩));have ha1:a.size-1<a.size:=Nat.sub_lt ha Nat.one_pos;refine wpS_bind (BV ha1 ?_)
 have M0:MP a b #[a[a.size-1]] (a.toList.take (a.size-1)) (b.toList.take b.size):=by
  have z:MP a b #[] (a.toList.take (a.size-1+1)) (b.toList.take b.size):=by rw[show a.size-1+1=a.size by lia];exact .of_eq (by rw[List.take_of_length_le (by simp),List.take_of_length_le (by simp)];rfl)
  exact z.l (.refl _) (EV ha1)
 refine AZ (λ_=>wpS_pure (h _ _ X M0.doneH)) λe=>AZ (λ_=>wpS_pure (h _ _ X M0.lastH)) λe2=>?_
 have e:a.size-1≠0:=CS e;have e2:b.size≠1:=CS e2;refine wpS_bind (wpS_get ?_);refine wpS_bind (wpS_forRange (I:=λi c t=>SX k xs p t/\∃na nb out mg,c=(none,na,nb,out,mg)/\S8 a b (i+1) out na nb) ?_ ?_ ⟨X,_,_,_,_,rfl,M0,by lia,by lia,by lia,YL _,by lia⟩)
 ·clear X;rintro i c t _ hi ⟨X,na,nb,out,mg,rfl,M⟩;refine wpS_bind (wpS_mono (wpS_forRange (I:=λ_ c t=>SX k xs p t/\∃na nb out ac bc,c=(none,na,nb,out,ac,bc)/\S8 a b (i+1) out na nb) (Q:=λc t=>SX k xs p t/\((∃r o,c=(some r,o)/\r.toList.Perm (a.toList++b.toList))\/∃na nb out ac bc,c=(none,na,nb,out,ac,bc)/\S8 a b (i+1) out na nb)) ?_ ?_ ⟨X,na,nb,out,0,0,rfl,M⟩) ?_)
  ·clear M X;rintro j c t _ hj ⟨X,na,nb,out,ac,bc,rfl,M,la,lb,za,zb,ge⟩;obtain⟨m,rfl⟩:∃m,na=m+1:=⟨na-1,by lia⟩;obtain⟨n,rfl⟩:∃n,nb=n+1:=⟨nb-1,by lia⟩;refine wpS_bind (BV zb (wpS_bind (BV za (wpS_bind (LY hc X.kd (gb zb) (ga za) λ_=>AZ (λ_=>?_) λ_=>?_)))))
   ·have M2:=M.l (EW (x:=a[m])) (EV za);have M3:m≠0->S8 a b (i+1) (out.push a[m]) m (n+1):=λq=>⟨M2,Nat.pos_of_ne_zero q,lb,ZQ za,zb,by lia⟩
    exact wpS_bind (BV za (AZ (λ_=>wpS_pure ⟨X,.inl ⟨_,_,rfl,M2.doneH⟩⟩) λz=>AZ (λ_=>wpS_pure ⟨X,.inr ⟨_,_,_,_,_,rfl,M3 (CS z)⟩⟩) λ_=>wpS_pure ⟨X,_,_,_,_,_,rfl,M3 (CS z)⟩))
   ·have M2:=M.r (EW (x:=b[n])) (EV zb);have M3:n≠1->S8 a b (i+1) (out.push b[n]) (m+1) n:=λq=>⟨M2,la,by lia,za,ZQ zb,by lia⟩
    exact wpS_bind (BV zb (AZ (λ_=>wpS_pure ⟨X,.inl ⟨_,_,rfl,M2.lastH⟩⟩) λz=>AZ (λ_=>wpS_pure ⟨X,.inr ⟨_,_,_,_,_,rfl,M3 (CS z)⟩⟩) λ_=>wpS_pure ⟨X,_,_,_,_,_,rfl,M3 (CS z)⟩))
  ·rintro c t ⟨X,z⟩;exact⟨X,.inr z⟩
  clear M X;rintro c t ⟨X,⟨r,o,rfl,R⟩|⟨na,nb,out,ac,bc,rfl,M⟩⟩
  ·exact wpS_pure (wpS_pure (h _ _ X R))
  refine wpS_bind (wpS_lift (wpAny_rule ⟨rfl,?_⟩));refine wpS_bind (wpS_mono (wpS_forRange (I:=λj c t=>SX k xs p t/\∃na nb out mg ac bc,c=(none,na,nb,out,mg,ac,bc)/\S8 a b (i+1+j) out na nb) (Q:=λc t=>SX k xs p t/\((∃r o,c=(some r,o)/\r.toList.Perm (a.toList++b.toList))\/∃na nb out mg ac bc,c=(none,na,nb,out,mg,ac,bc)/\S8 a b (i+1+1) out na nb)) ?_ ?_ ⟨X,_,_,_,_,_,_,rfl,M⟩) ?_)
  ·clear M X;rintro j c t _ hj ⟨X,na,nb,out,mg,ac,bc,rfl,M,la,lb,za,zb,ge⟩;obtain⟨n,rfl⟩:∃n,nb=n+1:=⟨nb-1,by lia⟩;dsimp (config:={zeta:=false,zetaHave:=false}) only
   extract_lets c1 na1 c2 nb1 c3 out1 c4 mg1 c5 ac1 bc1 nb2 jp mg2
   refine Np (f:=jp ()) λg=>?_;refine wpS_bind (Fo X λt X=>wpS_bind (BV zb (wpS_bind (C1 hc X.kd (gb zb) ma (show 0+na<=a.size by lia) (show na-1<na by lia) λr (hr:r<=na)=>?_))));dsimp (config:={zeta:=false,zetaHave:=false}) only
   extract_lets k1 ac2 jp2 out2 na2
   refine G4 (f:=jp2 ()) (λna' out'=>MP a b out' (a.toList.take na') (b.toList.take (n+1))/\1<=na'/\na'<=na) (λna' out' ⟨R1,R2,R3⟩=>?_) λJ=>?_
   ·have MB:=R1.r (EW (x:=b[n])) (EV zb);refine wpS_bind (BV zb (AZ (λz=>wpS_pure ⟨X,.inl ⟨_,_,rfl,MB.lastH⟩⟩) λz=>?_));have lb2:n≠1:=CS z;obtain⟨m,rfl⟩:∃m,na'=m+1:=⟨na'-1,by lia⟩;have lm:m<a.size:=by lia
    refine wpS_bind (BV lm (wpS_bind (C1 hc X.kd (ga lm) mb (show 0+n<=b.size by lia) (show n-1<n by lia) λr' (hr':r'<=n)=>?_)));dsimp (config:={zeta:=false,zetaHave:=false}) only
    extract_lets k2 bc2 na4 jp3 out3 nb3
    refine G4 (f:=jp3 ()) (λnb' out'=>MP a b out' (a.toList.take (m+1)) (b.toList.take nb')/\2<=nb'/\nb'<=n) (λnb' out' ⟨S1,S2,S3⟩=>?_) λJ=>?_
    ·have MA:=S1.l (EW (x:=a[m])) (EV lm);have MD:∀P,P<=i+1+(j+1)->m≠0->S8 a b P (out'.push a[m]) m nb':=λP hP q=>⟨MA,Nat.pos_of_ne_zero q,S2,ZQ lm,by lia,by lia⟩
     exact wpS_bind (BV lm (AZ (λz=>wpS_pure ⟨X,.inl ⟨_,_,rfl,MA.doneH⟩⟩) λz=>AZ (λ_=>wpS_pure ⟨X,.inr ⟨_,_,_,_,_,_,rfl,MD _ (by lia) (CS z)⟩⟩) λ_=>wpS_pure ⟨X,_,_,_,_,_,_,rfl,MD _ (YL _) (CS z)⟩))
    ·have MC:=MB.r (S7 (x:=b.extract r' n)) (La hr');refine AZ (λz1=>AZ (λz=>wpS_pure ⟨X,.inl ⟨_,_,rfl,MC.lastH⟩⟩) λz=>AZ (λy=>wpS_pure ⟨X,.inl ⟨_,_,rfl,MC.doneH⟩⟩) λy=>J _ _ ⟨MC,?_,hr'⟩) λz1=>J _ _ ⟨MB,(show 2<=n by lia),YL _⟩
     have q:r'≠1:=CS z;have q2:r'≠0:=CS y;exact (show 2<=r' by lia)
   ·have MC:=M.l (S7 (x:=a.extract r na)) (La hr);exact AZ (λz1=>AZ (λz=>wpS_pure ⟨X,.inl ⟨_,_,rfl,MC.doneH⟩⟩) λz=>J _ _ ⟨MC,Nat.pos_of_ne_zero (CS z),hr⟩) λz1=>J _ _ ⟨M,la,YL _⟩
  ·rintro c t ⟨X,na,nb,out,mg,ac,bc,rfl,M,la,lb,za,zb,ge⟩;lia
  clear M X;rintro c t ⟨X,⟨r,o,rfl,R⟩|⟨na,nb,out,mg,ac,bc,rfl,M⟩⟩
  ·exact wpS_pure (wpS_pure (h _ _ X R))
  exact wpS_bind (Fo X λt X=>wpS_pure ⟨X,_,_,_,_,rfl,M⟩)
 ·rintro c t ⟨X,na,nb,out,mg,rfl,M,la,lb,za,zb,ge⟩;lia
end
variable{pw:Nat}
section
variable{xs:Array Keyed}
theorem R0(at':Nat)(v l:List Keyed):∀(off:Nat) (xs:Array Keyed) (u m:List Keyed),u.length=at'+off->m.length=l.length->xs.toList=u++(m++v)->((l.zipIdx off).foldl (λa x=>a.setIfInBounds (at'+x.2) x.1) xs).toList=u++(l++v):=by
 induction l with
 |nil =>
  intro off xs u m _ h2 h;have e:m=[]:=ax.mp h2;subst e;exact h
 |cons x l ih =>
  intro off xs u m h1 h2 h;obtain⟨y,m,rfl⟩:=List.exists_cons_of_length_eq_add_one h2;rw[List.zipIdx_cons,List.foldl_cons,ih (off+1) _ (u++[x]) m (by rw[YN,h1];rfl) (Nat.succ.inj h2) ?_]
  ·rw[Yu];rfl
  ·rw[Array.toList_setIfInBounds,h,List.set_append_right _ _ (by rw[h1];exact YL _),h1,Zn,Yu];rfl
theorem R4{l:List Keyed}{at' n:Nat}(h:at'+n<=xs.size)(hp:l.Perm ((xs.toList.drop at').take n)):((l.zipIdx 0).foldl (λa x=>a.setIfInBounds (at'+x.2) x.1) xs).toList.Perm xs.toList:=by
 have e:xs.toList=xs.toList.take at'++((xs.toList.drop at').take n++(xs.toList.drop at').drop n):=by rw[Y6,Y6]
 rw[R0 at' _ l 0 xs _ _ (by rw[Ys,ZL];lia) hp.length_eq.symm e]
 conv=>rhs;rw[e]
 exact (hp.append_right _).append_left _
noncomputable def Rl:Nat->List (Nat×Nat×Nat)->Nat->Prop
 |at',[],lo=>at'=lo
 |at',x::l,lo=>x.1=at'/\1<=x.2.1/\Rl (at'+x.2.1) l lo
theorem Rl.len:∀{l:List (Nat×Nat×Nat)} {at' lo:Nat},Rl at' l lo->at'+l.length<=lo
 |[],_,_,h=>bW h
 |x::l,at',lo,⟨_,h2,h4⟩=>by have z:=Rl.len h4;rw[Y8];lia
theorem Rl.app:∀{l1 l2:List (Nat×Nat×Nat)} {at' lo:Nat},Rl at' (l1++l2) lo↔∃m,Rl at' l1 m/\Rl m l2 lo
 |[],l2,at',lo=>⟨λh=>⟨at',rfl,h⟩,λ⟨m,h1,h2⟩=>by rw[show at'=m from h1];exact h2⟩
 |x::l1,l2,at',lo=>⟨λ⟨h1,h2,h4⟩=>by obtain⟨m,q1,q2⟩:=Rl.app.mp h4;exact⟨m,⟨h1,h2,q1⟩,q2⟩,λ⟨m,⟨h1,h2,h4⟩,q⟩=>⟨h1,h2,Rl.app.mpr ⟨m,h4,q⟩⟩⟩
theorem Lc:∀(l:List (Nat×Nat×Nat)) (x:Nat×Nat×Nat),(l++[x]).modify l.length (λx=>(x.1,x.2.1,pw))=l++[(x.1,x.2.1,pw)]
 |[],_=>rfl
 |y::l,x=>congrArg (y::·) (Lc l x)
theorem Rl.last{p:Array (Nat×Nat×Nat)}{lo:Nat}(h:Rl 0 p.toList lo):Rl 0 (p.modify (p.size-1) λx=>(x.1,x.2.1,pw)).toList lo:=by
 rw[Array.toList_modify,<-ZL];rcases List.eq_nil_or_concat p.toList with e|⟨l,x,e⟩
 ·rw[e]at h⊢;exact h
 ·rw[e,List.concat_eq_append]at h⊢;rw[YN,Y5,Z1,Lc];obtain⟨m,h1,h2⟩:=Rl.app.mp h;exact Rl.app.mpr ⟨m,h1,h2⟩
end
section
variable{prog:Program}{w:World}{A:Around}{s:Shared}{k:SortKind}{a₀:Array Keyed}{p:Array (Nat×Nat×Nat)}{st:SortSt}{lo:Nat}
theorem Mv(hc:IS prog w A s k a₀)(Z:SZ k a₀ p st){sa na nb pw2:Nat}(e1:p[i]?=some (sa,na,pw))(e2:p[i+1]?=some (sa+na,nb,pw2))(hna:1<=na)(hnb:1<=nb)(hz:sa+na+nb<=a₀.size)
  {Q:Bool->SortSt->Prop} (h:∀t,SZ k a₀ ((p.setIfInBounds i (sa,na+nb,pw)).eraseIdxIfInBounds (i+1)) t->Q true t):wpS (model prog w) A E s (mergeAt' i) Q st:=by
 have zn:=Z.n;rcases st with⟨k',xs,p',gm,fl⟩;have ek:=Z.kd;have pm:=Z.pm;have ep:=Z.pd;have ef:=Z.fl;dsimp only[kindOf,arrOf,pendingOf,failedOf]at ek pm ep ef zn;subst ek ep ef;have gx:∀{i:Nat} (hi:i<xs.size),xs[i]∈a₀.toList:=λ{i} hi=>pm.mem_iff.mp (by simp)
 have mx:∀x∈xs.toList,x∈a₀.toList:=λx=>pm.mem_iff.mp
 rw[<-zn]at hz;refine wpS_bind (wpS_get ?_);dsimp (config:={zeta:=false,zetaHave:=false}) only;rw[e1,e2];obtain⟨sb,hsb⟩:∃sb,sb=sa+na:=⟨_,rfl⟩;rw[<-hsb]at hz⊢;have Z2:SZ k' a₀ ((p'.setIfInBounds i (sa,na+nb,pw)).eraseIdxIfInBounds (i+1)) (SortSt.mk' k' xs ((p'.setIfInBounds i (sa,na+nb,pw)).eraseIdxIfInBounds (i+1)) gm none):=⟨rfl,pm,rfl,rfl⟩;have lsb:sb<xs.size:=by lia
 refine wpS_bind (Ry ?_);refine wpS_bind (BV lsb (wpS_bind (C1 hc rfl (gx lsb) mx (by lia) (by lia) λr hr=>?_)));refine AZ (λ_=>wpS_pure (h _ Z2)) λz=>?_;have z:na-r≠0:=CS z;have ll:sb-1<xs.size:=by lia
 have e3:sa+r+(na-r)-1=sb-1:=by lia
 rw[e3];refine wpS_bind (BV ll (wpS_bind (C1 hc rfl (gx ll) mx (by lia) (by lia) λr' hr'=>?_)));refine AZ (λ_=>wpS_pure (h _ Z2)) λz=>?_;have z2:r'≠0:=CS z
 extract_lets x y jp
 have zx1:0<(xs.extract (sa+r) sb).size:=by rw[Array.size_extract];lia
 have zy1:0<(xs.extract sb (sb+r')).size:=by rw[Array.size_extract];lia
 have mx1:∀{i j:Nat},∀q∈(xs.extract i j).toList,q∈a₀.toList:=λq hq=>mx q (by rw[FD]at hq;exact ZB (Y0 hq))
 have J:∀m t,SX k' xs ((p'.setIfInBounds i (sa,na+nb,pw)).eraseIdxIfInBounds (i+1)) t->m.toList.Perm ((xs.extract (sa+r) sb).toList++(xs.extract sb (sb+r')).toList)->wpS (model prog w) A E s (jp m) Q t:=λm t T R=>by
  refine wpS_bind (wpS_modify (wpS_bind (wpS_get (wpS_pure ?_))))
  have sw:((m.toList.zipIdx 0).foldl (λa x=>a.setIfInBounds (sa+r+x.2) x.1) xs).toList.Perm xs.toList:=by refine R4 (n:=sb+r'-(sa+r)) (by lia) (R.trans (.of_eq ?_));rw[FD,FD,aB,aB,<-Y6 (sb-(sa+r)) ((xs.toList.drop (sa+r)).take (sb+r'-(sa+r))),List.take_take,aB,aa,aL (by lia),show sa+r+(sb-(sa+r))=sb by lia,show sb+r'-(sa+r)-(sb-(sa+r))=sb+r'-sb by lia]
  have q:=h (SortSt.mk' (kindOf t) ((m.toList.zipIdx 0).foldl (λa x=>a.setIfInBounds (sa+r+x.2) x.1) (arrOf t)) (pendingOf t) (gallopOf t) (failedOf t)) ⟨T.kd,by show (List.foldl _ (arrOf t) _).toList.Perm _;rw[T.ar];exact sw.trans pm,T.pd,T.fl⟩;show Q (failedOf t).isNone _;rw[T.fl];exact q
 exact AZ (λ_=>wpS_bind (Mt hc Z2.x mx1 mx1 zx1 zy1 J)) λ_=>wpS_bind (Mu hc Z2.x mx1 mx1 zx1 zy1 J)
theorem Ji(hc:IS prog w A s k a₀)(Z:SZ k a₀ p st)(R:Rl 0 p.toList lo)(hz:lo<=a₀.size)(hi:i+1<p.size){Q:Bool->SortSt->Prop}
  (h:∀q t,SZ k a₀ q t->Rl 0 q.toList lo->q.size+1=p.size->Q true t):wpS (model prog w) A E s (mergeAt' i) Q st:=by
 have e0:p.toList=p.toList.take i++(p[i]::p[i+1]::p.toList.drop (i+2)):=by
  conv=>lhs;rw[<-Y6 i p.toList]
  congr 1
  rw[List.drop_eq_getElem_cons (by simp;lia),List.drop_eq_getElem_cons (by simp;lia)];simp
 rw[e0]at R;obtain⟨m,R1,R2,R3,R5,R6,R8⟩:=Rl.app.mp R;have z2:=R8.len;rcases ep:p[i] with⟨sa,na,pw⟩;rcases ep2:p[i+1] with⟨sb,nb,pw2⟩;rw[ep]at R2 R3 R5 R8 z2;rw[ep2]at R5 R6 R8 z2;dsimp only at R2 R3 R5 R6 R8 z2;subst R2;subst R5;refine Mv hc Z (by rw[getElem?_pos p i (by lia),ep]) (by rw[getElem?_pos p (i+1) hi,ep2]) R3 R6 (by lia) λt T=>?_
 have e1:((p.setIfInBounds i (sa,na+nb,pw)).eraseIdxIfInBounds (i+1)).toList=p.toList.take i++((sa,na+nb,pw)::p.toList.drop (i+2)):=by
  rw[Array.toList_eraseIdxIfInBounds,Array.toList_setIfInBounds]
  conv=>lhs;rw[e0]
  have ll:(p.toList.take i).length=i:=by rw[Ys,ZL];lia
  rw[List.set_append_right _ _ (by lia),ll,Zn,List.set_cons_zero,List.eraseIdx_append_of_length_le (by lia),ll,show i+1-i=1 by lia];rfl
 refine h _ t T ?_ ?_
 ·rw[e1];refine Rl.app.mpr ⟨sa,R1,rfl,Yy R3 (Nat.le_add_right ..),?_⟩;show Rl (sa+(na+nb)) _ lo;rw[<-Z7];exact R8
 ·have z:=congrArg List.length e1;have z0:=congrArg List.length e0;simp only[Array.length_toList,List.length_append,List.length_cons]at z z0;lia
theorem Oj(hc:IS prog w A s k a₀)(Z:SZ k a₀ p st){n ok:Nat}(hz:lo+n<=a₀.size){Q:Bool->SortSt->Prop}
  (h:∀t,SZ k a₀ p t->Q true t):wpS (model prog w) A E s (binarySort' lo n ok) Q st:=by
 refine wpS_bind (wpS_mono (wpS_forRange (I:=λ_ c t=>c=(none,())/\SZ k a₀ p t) (Q:=λc t=>c=(none,())/\SZ k a₀ p t) ?_ (λ_ _ z=>z) ⟨rfl,Z⟩) ?_)
 ·rintro x c t q1 q2 ⟨rfl,Z⟩;refine wpS_bind (wpS_mono (wpS_forRange (I:=λ_ c u=>u=t/\∃l r,c=(none,l,r)/\r<=x) (Q:=λc u=>u=t/\∃l r,c=(none,l,r)) ?_ ?_ ⟨rfl,0,x,rfl,YL _⟩) ?_)
  ·rintro i c u _ ix ⟨rfl,l,r,rfl,a2⟩;refine AZ (λz=>wpS_pure ⟨rfl,l,r,rfl⟩) λz=>?_;have z:¬l≥r:=z;exact wpS_bind (G5 hc Z (show lo+x<a₀.size by lia) (show lo+(l+r)/2<a₀.size by lia) λ_=>AZ (λ_=>wpS_pure ⟨rfl,l,(l+r)/2,rfl,by lia⟩) λ_=>wpS_pure ⟨rfl,(l+r)/2+1,r,rfl,a2⟩)
  ·rintro c u ⟨rfl,l,r,rfl,_⟩;exact⟨rfl,l,r,rfl⟩
  ·rintro c u ⟨rfl,l,r,rfl⟩;exact wpS_bind (Rz Z λt Z=>wpS_pure ⟨rfl,Z⟩)
 ·rintro c t ⟨rfl,Z⟩;exact wpS_pure (h t Z)
theorem QR(hc:IS prog w A s k a₀)(Z:SZ k a₀ p st){nrem:Nat}(h1:1<=nrem)(hz:lo+nrem<=a₀.size){Q:Option Nat->SortSt->Prop}
  (h:∀r t,1<=r->r<=nrem->SZ k a₀ p t->Q (some r) t):wpS (model prog w) A E s (countRun' lo nrem) Q st:=by
 have lt:∀{t:SortSt} {n:Nat},SZ k a₀ p t->n<nrem->∀{Q:Option Bool->SortSt->Prop},(∀b,Q (some b) t)->wpS (model prog w) A E s (ltAt' (lo+n) (lo+n-1)) Q t:=λ{t n} Z hn {Q} q=>G5 hc Z (by lia) (by lia) q
 refine wpS_bind (wpS_mono (wpS_forRange (I:=λn c t=>t=st/\c=(none,n)) (Q:=λc t=>t=st/\∃n,c=(none,n)/\1<=n/\n<=nrem) ?_ ?_ ⟨rfl,rfl⟩) ?_)
 ·rintro n c t q1 q2 ⟨rfl,rfl⟩;exact wpS_bind (lt Z q2 λ_=>AZ (λ_=>wpS_pure ⟨rfl,n,rfl,q1,ZQ q2⟩) λ_=>wpS_pure ⟨rfl,rfl⟩)
 ·rintro c t ⟨rfl,rfl⟩;exact⟨rfl,_,rfl,Nat.le_max_left ..,Nat.max_le.mpr ⟨h1,YL _⟩⟩
 rintro c t ⟨rfl,n,rfl,n1,nn⟩;refine AZ (λz=>wpS_pure (h n _ n1 nn Z)) λz=>?_;have z:n≠nrem:=CS z
 extract_lets n2 n3 jp
 have J:∀t,SZ k a₀ p t->wpS (model prog w) A E s (jp ()) Q t:=λt Z=>by
  refine wpS_bind (wpS_lift (wpAny_rule ⟨rfl,?_⟩));refine wpS_bind (wpS_mono (wpS_forRange (I:=λm c t=>∃q,c=(none,m,q)/\SZ k a₀ p t) (Q:=λc t=>∃m q,c=(none,m,q)/\1<=m/\m<=nrem/\SZ k a₀ p t) ?_ ?_ ⟨0,rfl,Z⟩) ?_)
  ·rintro m c t (q1:n+1<=m) q2 ⟨q,rfl,Z⟩;refine wpS_bind (lt Z q2 λ_=>AZ (λ_=>AZ (λg=>wpS_bind (KW Z λt Z=>wpS_pure ⟨0,rfl,Z⟩)) λg=>wpS_pure ⟨0,rfl,Z⟩) λ_=>wpS_bind (G5 hc Z (show lo+m-1<a₀.size by lia) (show lo+m<a₀.size by lia) λ_=>AZ (λ_=>wpS_pure ⟨m,q,rfl,by lia,ZQ q2,Z⟩) λ_=>wpS_pure ⟨q+1,rfl,Z⟩))
  ·rintro c t ⟨q,rfl,Z⟩;exact⟨_,q,rfl,Yy (Nat.le_add_left 1 n) (Nat.le_max_left ..),Nat.max_le.mpr ⟨show n+1<=nrem by lia,YL _⟩,Z⟩
  rintro c t ⟨m,q,rfl,m1,mn,Z⟩
  extract_lets c1 c2 c3 c4 jp2
  have J2:∀t,SZ k a₀ p t->wpS (model prog w) A E s (jp2 ()) Q t:=λt Z=>by
   refine wpS_bind (KW Z λt Z=>?_);refine wpS_bind (wpS_mono (wpS_forRange (I:=λn c u=>u=t/\c=(none,n)) (Q:=λc u=>u=t/\∃n,c=(none,n)/\1<=n/\n<=nrem) ?_ ?_ ⟨rfl,rfl⟩) ?_)
   ·rintro n c t (q1:m<=n) q2 ⟨rfl,rfl⟩;exact wpS_bind (lt Z q2 λ_=>AZ (λ_=>wpS_pure ⟨rfl,n,rfl,Yy m1 q1,ZQ q2⟩) λ_=>wpS_pure ⟨rfl,rfl⟩)
   ·rintro c u ⟨rfl,rfl⟩;exact⟨rfl,_,rfl,Yy m1 (Nat.le_max_left ..),Nat.max_le.mpr ⟨mn,YL _⟩⟩
   ·rintro c u ⟨rfl,n,rfl,q1,q2⟩;exact wpS_pure (h n _ q1 q2 Z)
  exact AZ (λg=>wpS_bind (KW Z J2)) λg=>J2 _ Z
 exact AZ (λg=>wpS_bind (G5 hc Z (show lo<a₀.size by lia) (show lo+n-1<a₀.size by lia) λ_=>AZ (λ_=>wpS_pure (h n _ n1 nn Z)) λ_=>wpS_bind (KW Z J))) λg=>J _ Z
theorem Nq(hc:IS prog w A s k a₀)(Z:SZ k a₀ #[] st){Q:Unit->SortSt->Prop}(h:∀t,(arrOf t).toList.Perm a₀.toList->failedOf t=none->Q () t):wpS (model prog w) A E s sortRuns' Q st:=by
 refine wpS_bind (wpS_get ?_);have ea:(arrOf st).size=a₀.size:=Z.n
 extract_lets n0 mr lo0
 obtain⟨n,hn⟩:∃n,n=n0:=⟨_,rfl⟩;have en:n=a₀.size:=hn.trans ea;clear_value mr;rw[<-hn];clear_value n0;refine wpS_bind (wpS_mono (wpS_forRange (I:=λi c t=>∃lo p,c=(none,lo)/\SZ k a₀ p t/\Rl 0 p.toList lo/\lo<=n/\i<=lo) (Q:=λc t=>∃p,c=(none,n)/\SZ k a₀ p t/\Rl 0 p.toList n) ?_ ?_ ⟨0,#[],rfl,Z,rfl,ZT _,ZT _⟩) ?_)
 ·clear Z;rintro i c t _ hi ⟨lo,p,rfl,Z,R,ln,li⟩;refine AZ (λz=>?_) λz=>?_
  ·have z:lo≥n:=z;obtain rfl:lo=n:=by lia
   exact wpS_pure ⟨p,rfl,Z,R⟩
  have z:¬lo≥n:=z;refine wpS_bind (QR hc Z (show 1<=n-lo by lia) (show lo+(n-lo)<=a₀.size by lia) λr t r1 r2 Z=>?_);dsimp (config:={zeta:=false,zetaHave:=false}) only
  extract_lets f jp fc
  refine QQ (f:=jp ()) (λm t=>1<=m/\lo+m<=n/\SZ k a₀ p t) (λm t ⟨m1,m2,Z⟩=>?_) λJ=>?_
  ·refine wpS_bind (wpS_get ?_)
   extract_lets lo1 jp2
   refine QQ (f:=jp2) (λ_ t=>∃p,SZ k a₀ p t/\Rl 0 p.toList lo) (λ_ t ⟨p,Z,R⟩=>?_) λJ2=>?_
   ·refine wpS_bind (wpS_modify (wpS_pure ⟨lo+m,p.push (lo,m,0),rfl,⟨Z.kd,Z.pm,by show (pendingOf t).push _=_;rw[Z.pd],Z.fl⟩,?_,m2,by lia⟩));rw[Array.toList_push];exact Rl.app.mpr ⟨lo,R,rfl,m1,rfl⟩
   have ep:(sortPriv% PySem.Builtin.SortState.pending) t=p:=Z.pd;rw[ep];rcases eb:p.back? with _|⟨s1,n1,w1⟩
   ·exact J2 () t ⟨p,Z,R⟩
   refine wpS_bind (wpS_mono (wpS_forRange (I:=λ_ c t=>∃p,c=(none,())/\SZ k a₀ p t/\Rl 0 p.toList lo) (Q:=λc t=>∃p,c=(none,())/\SZ k a₀ p t/\Rl 0 p.toList lo) ?_ (λ_ _ z=>z) ⟨p,rfl,Z,R⟩) ?_)
   ·rintro j c t _ _ ⟨p,rfl,Z,R⟩;refine wpS_bind (wpS_get ?_);have ep:(sortPriv% PySem.Builtin.SortState.pending) t=p:=Z.pd;rw[ep]
    extract_lets p2
    by_cases c1:p.size>1
    ·rw[qF c1,getElem?_pos p (p.size-2) (by lia)];rcases p[p.size-2] with⟨a1,a2,a3⟩;exact AZ (λ_=>wpS_pure ⟨p,rfl,Z,R⟩) λ_=>wpS_bind (Ji hc Z R (by lia) (show p.size-2+1<p.size by lia) λq t Z R _=>AZ (λz=>qG z (by decide)) λ_=>wpS_pure ⟨q,rfl,Z,R⟩)
    ·rw[qE c1];exact wpS_pure ⟨p,rfl,Z,R⟩
   ·rintro c t ⟨p,rfl,Z,R⟩;exact wpS_bind (wpS_modify (J2 () _ ⟨p.modify (p.size-1) λx=>(x.1,x.2.1,power' n (2*s1+n1) (2*s1+n1+n1+m) n),⟨Z.kd,Z.pm,congrArg (λz:Array (Nat×Nat×Nat)=>z.modify (z.size-1) λx=>(x.1,x.2.1,power' n (2*s1+n1) (2*s1+n1+n1+m) n)) Z.pd,Z.fl⟩,R.last⟩))
  refine AZ (λg=>?_) λg=>J r t ⟨r1,by lia,Z⟩
  have g:r<mr:=g;exact wpS_bind (wpS_lift (wpAny_rule ⟨rfl,wpS_bind (Oj hc Z (show lo+min (n-lo) mr<=a₀.size by lia) λt Z=>AZ (λz=>qG z (by decide)) λ_=>J _ t ⟨show 1<=min (n-lo) mr by lia,show lo+min (n-lo) mr<=n by lia,Z⟩)⟩))
 ·rintro c t ⟨lo,p,rfl,Z,R,ln,li⟩;obtain rfl:lo=n:=by lia
  exact⟨p,rfl,Z,R⟩
 clear Z;rintro c t ⟨p,rfl,Z,R⟩;have zp:=R.len;refine wpS_bind (wpS_mono (wpS_forRange (I:=λj c t=>∃p,c=(none,())/\SZ k a₀ p t/\Rl 0 p.toList n) (Q:=λc t=>c=(none,())/\Q () t) ?_ ?_ ⟨p,rfl,Z,R⟩) ?_)
 ·rintro j c t _ hj ⟨p,rfl,Z,R⟩;refine wpS_bind (wpS_get ?_);have ep:(sortPriv% PySem.Builtin.SortState.pending) t=p:=Z.pd;rw[ep];refine AZ (λz=>wpS_pure ⟨rfl,h t Z.pm Z.fl⟩) λz=>?_;have z:¬p.size<=1:=z;refine wpS_bind (Ji hc Z R (by lia) ?_ λq t Z R e=>AZ (λz=>qG z (by decide)) λ_=>wpS_pure ⟨q,rfl,Z,R⟩)
  (repeat' split)<;>lia
 ·rintro c t ⟨p,rfl,Z,R⟩;exact⟨rfl,h t Z.pm Z.fl⟩
 ·rintro c t ⟨rfl,q⟩;exact wpS_pure q
end
theorem R7{l:List α}(h:2<=l.length):∃x y r,l=x::y::r:=by
 rcases l with _|⟨x,_|⟨y,l⟩⟩
 ·exact qG h (by rw[aw];decide)
 ·exact qG h (by rw[Y5];decide)
 ·exact⟨_,_,_,rfl⟩
section
variable{prog:Program}{w:World}{A:Around}{s:Shared}
theorem Ld{n:Nat}{P:Fin->Shared->Prop}(ho:s.heap.get? a=some (seqObj "list" vs.toArray n))(hT:∀v∈vs,Gc s.heap v)(h64:vs.length<=100000)
  (h:∀out:Array Value,out.toList.Perm vs->P (.done (.ret .none)) {s with heap:=sortedHeap s.heap a vs out}):wpAny (model prog w) A (Builtin.«list.sort» ⟨[.ref a],[]⟩) P E s:=by
 rw[list_sort_plain];have lt:=YQ ho;obtain⟨e1,ho1⟩:∃e1,(s.heap.update a (Obj.mapSeq λ_=>#[])).get? a=some (seqObj "list" #[] e1):=⟨_,get?_update_seq ho (λ_=>#[])⟩;refine qC (listItems_at ho rfl (qC (listUpdate_at ho rfl (qC (seqEpoch_at ho1 rfl (qC (wpAny_newTuple (qC (wpAny_newList (wpAny_holding ?_))))))))))
 have up:∀t o,t≠a->s.heap.get? t=some o->(((s.heap.update a (Obj.mapSeq λ_=>#[])).push (seqObj "tuple" vs.toArray 0)).push (seqObj "list" #[] 0)).get? t=some o:=λt o ne g =>
  YK _ (YK _ (by rw[Zl _ _ _ _ ne];exact g))
 have hl:(((s.heap.update a (Obj.mapSeq λ_=>#[])).push (seqObj "tuple" vs.toArray 0)).push (seqObj "list" #[] 0)).get? a=some (seqObj "list" #[] e1):=YK _ (YK _ ho1);show wpAny (model prog w) A _ P E {s with heap:=((s.heap.update a (Obj.mapSeq λ_=>#[])).push (seqObj "tuple" vs.toArray 0)).push (seqObj "list" #[] 0)};dsimp only;have sz:vs.toArray.size=vs.length:=by simp
 have line:vs.length<=sizeLine+1:=by rw[sizeLine_eq];lia
 have hT6:∀v∈vs,Gc (((s.heap.update a (Obj.mapSeq λ_=>#[])).push (seqObj "tuple" vs.toArray 0)).push (seqObj "list" #[] 0)) v:=λv hv=>(hT v hv).at λt o g c=>up t o (λz=>by rw[z,ho]at g;cases g;exact qG (Value.type.inj c) (by decide)) g
 by_cases h2:vs.toArray.size<2
 ·rw[qF h2,qF h2];refine qC (qD ?_);rw[StateT.run_pure];refine qC (qD (qC (seqEpoch_at hl rfl (qC (listUpdate_at hl rfl ?_ (hsz2:=by rw[Array.size_map];show (pairsOf vs).size<=_;rw[pairsOf_size];exact line))))));simp only[bne_self_eq_false,Bool.false_eq_true,if_false];exact qD (h _ (by simp[List.map_snd_zip]))
 ·rw[qE h2,qE h2];obtain⟨v₁,v₂,rest,rfl⟩:∃v₁ v₂ rest,vs=v₁::v₂::rest:=by rw[Yn]at h2;exact R7 (bJ h2)
  refine qC (QN hT6 λb=>?_);refine qC (wpAny_mono (Nq (k:=tuples' b) (a₀:=pairsOf (v₁::v₂::rest)) (Q:=λ_ t=>(arrOf t).toList.Perm (pairsOf (v₁::v₂::rest)).toList/\failedOf t=none) ?_ ⟨rfl,.refl _,rfl,rfl⟩ λt h1 h2=>⟨h1,h2⟩) ?_ λ_ _ e=>e)
  ·intro x hx y hy;rw[pairsOf_toList]at hx hy;obtain⟨tx,vx,nx,ex,gx,ix,_⟩:=hT6 _ (mem_zip_self hx).2;obtain⟨ty,vy,ny,ey,gy,iy,_⟩:=hT6 _ (mem_zip_self hy).2;refine⟨HT.Db nx ny,λE Q q=>?_⟩;rw[ex,ey];exact Oh b gx gy ix iy q
  ·rintro⟨⟨⟩,t⟩ s' ⟨rfl,hp,hf⟩;have pl:((arrOf t).map (·.2)).toList.Perm (v₁::v₂::rest):=by have z:=hp.map (·.2);rw[pairsOf_toList,List.map_snd_zip (YL _)]at z;rw[Array.toList_map];exact z
   have ln:((arrOf t).map (·.2)).size<=sizeLine+1:=by have z:=pl.length_eq;rw[ZL]at z;rw[z];exact line
   dsimp only;refine qC (seqEpoch_at hl rfl (qC (listUpdate_at hl rfl ?_ (hsz2:=ln))));rw[hf];simp only[bne_self_eq_false,Bool.false_eq_true,if_false];exact qD (h _ pl)
theorem Ol{l:Addr}(hl:s.heap.IsList l vs.toArray)(hT:∀v∈vs,Gc s.heap v)(h64:vs.length<=100000)
  (h:∀out:Array Value,out.toList.Perm vs->Q (.ref (s.heap.objs.size+1)) {s with heap:=sortedAll s.heap vs out}):wpAny (model prog w) A (call (.builtin "sorted") [.ref l]) Q E s:=by
 refine Calls.call_function_entry kind_sorted plain_sorted entry_sorted (args_sorted1 _) ?_;unfold Builtin.«sorted»;refine qC (m:=checkCount "sorted" 1 1 _) (qD (qC (collect_list hl (qC (wpAny_newList ?_)))));have sz:((s.heap.push (seqObj "list" #[] 0)).update s.heap.objs.size (Obj.mapSeq (·++vs.toArray))).objs.size=s.heap.objs.size+1:=by rw[Heap.size_update,size_push']
 have gL:(((s.heap.push (seqObj "list" #[] 0)).update s.heap.objs.size (Obj.mapSeq (·++vs.toArray))).push (seqObj "list" vs.toArray 0)).get? (s.heap.objs.size+1)=some (seqObj "list" vs.toArray 0):=by rw[<-sz];exact YX _ rfl
 show wpAny _ _ _ _ _ {s with heap:=((s.heap.push (seqObj "list" #[] 0)).update s.heap.objs.size (Obj.mapSeq (·++vs.toArray))).push (seqObj "list" vs.toArray 0)};rw[sz];refine qC (wpAny_holding (wpAny_call_entry slot_list_sort ⟨_,gL,rfl⟩ entry_list_sort (Ld gL (λv hv=>(hT v hv).at λt o g _=>?_) h64 λout p=>⟨_,rfl,qD ⟨_,rfl,h out p⟩⟩) (args_list_sort _)));exact YK _ (by rw[Zl _ _ _ _ (Yp (YQ g))];exact YK _ g)
end
theorem Mw{X:Cx}:CK X (.builtin "sorted") (λxs H Q=>∃(a:Addr) (ys:List V),xs=[.ref a]/\Ai X.K H a ys/\ys.length<=100000/\(∀y∈ys,∃t ns,y=.ref t/\Ad X.K H t (ns.map V.int)/\ns≠[])/\∀D zs,H D=none->zs.Perm ys->Q (.ref D) (Ac H D (.lst zs))):=by
 intro ad s σ H xs us Q I r h;obtain⟨a,ys,rfl,ha,l64,ht,q⟩:=h;obtain⟨u,rfl,ru⟩:=Ev r;cases ru;obtain⟨its,rv,pl,hz⟩:=I.list ha;have ln:=rv.length;refine Ol (vs:=its) pl.isList (λv hv=>?_) (by lia) λout p=>?_
 ·obtain⟨i,hi⟩:=Y2.mp hv;have il:=(YJ.mp hi).1;obtain⟨w',hw,rw'⟩:=rv.get (i:=i) (x:=ys[i]) (by simp[show i<ys.length by lia]);rw[hi]at hw;cases hw;obtain⟨t,ns,e,st,ne⟩:=ht ys[i] (ZM _);rw[e]at rw';obtain⟨tv,rt,pt,_⟩:=I.tuple st;exact⟨t,tv,ns,rw',pt,Ct rt,ne⟩
 ·obtain⟨zs,pz,vz⟩:=Jh p rv;obtain⟨e,he⟩:=sortedAll_at s.heap its out;refine⟨.ref (s.heap.objs.size+1),_,I.laid (a:=s.heap.objs.size+1) (o:=.lst zs) (t':=s.toks) (λb o g=>sortedAll_old g) (Z6 _) ⟨by rw[pz.length_eq];exact hz,out.toList,e,vz,by rw[Array.toArray_toList];exact he⟩,rfl,q _ _ (I.hok.fresh (Z6 _)) pz⟩
theorem Le{X:Cx}{K:qJ}(h:X.K=K):CK X (.builtin "sorted") (λxs H Q=>∃(a:Addr) (ys:List V),xs=[.ref a]/\Ai K H a ys/\ys.length<=100000/\(∀y∈ys,∃t ns,y=.ref t/\Ad K H t (ns.map V.int)/\ns≠[])/\∀D zs,H D=none->zs.Perm ys->Q (.ref D) (Ac H D (.lst zs))):=h▸Mw
end L2
namespace L2
open PySem PySem.Spec PyProof.Rows RW
variable{G i m' mf:Nat}{H:Hp}{M:List (Nat×Nat)}{S:Nat×Nat->Nat×Nat->Prop}{a:Addr}{c row b9 tab' tf y:List Int}{f:Nat×Nat->Nat}{lf lo lo':Int}{p:Nat×Nat}{α:Type}
theorem Om{g:Int}(hg:2<=g){m:Nat}(hl:(b9.length:Int)=g^m)(m1:1<=m):b9.length=b9.length/g.toNat*g.toNat:=by
 have z:b9.length%g.toNat=0:=by
  have e:g^m=g^(m-1)*g:=by rw[<-Ym];congr 1;lia
  have:((b9.length%g.toNat:Nat):Int)=0:=by rw[Yk,hl,e,YY (by lia)];exact Int.mul_emod_left ..
  lia
 have:=aP b9.length g.toNat;rw[z,bH,Zm]at this;exact this.symm
structure On(h:Nat)(S:Nat×Nat->Nat×Nat->Prop)(M:List (Nat×Nat))(f:Nat×Nat->Nat):Prop where
 nd:M.Nodup
 sub:∀p∈M,p∈BR h
 low:∀p∈M,∀q,S q p->q∈M/\f q<f p
 top:∀p∈M,f p=0\/∃q,S q p/\q∈M/\f p=f q+1
 rest:∀p∈BR h,p∉M->∃q,S q p/\q∈BR h/\q∉M
 few:∀p∈M,f p<=100
theorem EY{h:Nat}(h9:h<=9):(BR h).length<=100:=by have a:=Fl h h;have b:=Zu h9 h9;unfold BR;rw[Y8];lia
theorem No.rk{h:Nat}(h9:h<=9){A:List (Nat×Nat)}{B:Nat×Nat->List (Nat×Nat)}(hA:∀p,p∈A↔p∈BR h)(nA:A.Nodup)(hB:∀p∈BR h,∀q,q∈B p↔S q p)(hS:∀p q,S q p->q∈BR h)(m:No A B M f):On h S M f where
 nd:=m.nd
 sub:=λp hp=>(hA p).mp (m.sub p hp)
 low:=λp hp q hq=>m.low p hp q ((hB p ((hA p).mp (m.sub p hp)) q).mpr hq)
 top:=λp hp=>(m.top p hp).imp id λ⟨q,h1,h2,h3⟩=>⟨q,(hB p ((hA p).mp (m.sub p hp)) q).mp h1,h2,h3⟩
 rest:=λp hp np=>by obtain⟨q,h1,h2⟩:=m.rest p ((hA p).mpr hp) np;have z:=(hB p hp q).mp h1;exact⟨q,z,hS p q z,h2⟩
 few:=λp hp=>by
  have a:=m.few p hp;have b:=nA.length_le_of_subset λq hq=>(hA q).mp hq
  have:=EY h9;lia
theorem On.all{h:Nat}(m:On h S M f){rk:Nat×Nat->Nat}(hr:∀p q,S p q->rk p<rk q):∀p∈BR h,p∈M:=by
 suffices ∀(n:Nat) (p:Nat×Nat),p∈BR h->rk p<=n->p∈M from λp hp=>this _ p hp (YL _)
 intro n
 induction n with
 |zero =>
  intro p hp hn
  by_cases z:p∈M
  ·exact z
  ·obtain⟨q,hq,_⟩:=m.rest p hp z;have:=hr q p hq;lia
 |succ n ih =>
  intro p hp hn
  by_cases z:p∈M
  ·exact z
  ·obtain⟨q,hq,qa,nq⟩:=m.rest p hp z;have:=hr q p hq;exact qG (ih q qa (by lia)) nq
theorem G7{h:Nat}(hl:b9.length=h*G){q:Nat×Nat}:q∈Gj G h (D6 b9) p↔Gi G h b9 p q:=by
 unfold Gj Gi;rw[Yd];constructor
 ·rintro⟨⟨a,b⟩,hx,rfl⟩;obtain⟨h1,h2⟩:=Yx.mp hx;obtain⟨ha,hb,ne,e⟩:=IQ.mp h1;exact⟨a,b,by lia,by lia,ne,e,(of_decide_eq_true h2).symm,rfl⟩
 ·rintro⟨a,b,ha,hb,ne,e,h1,h2⟩;exact⟨(a,b),Yx.mpr ⟨IQ.mpr ⟨by lia,by lia,ne,e⟩,qH h1.symm⟩,h2.symm⟩
theorem DP{h:Nat}(h0:0<h){q:Nat×Nat}(s:Gi G h b9 p q):p∈BR h/\q∈BR h:=by
 obtain⟨a,b,ha,hb,ne,e,h1,h2⟩:=s;have c:∀{x:Nat},x<h*G->x/G<h:=λ{x} hx=>ZN (by rw[Zm];exact hx)
 rw[h1,h2];exact⟨KP (c ha) (c hb),KP (Yz _ h0) (Yz _ h0)⟩
variable{q:Nat->Nat×Nat}
theorem On.way{h:Nat}(m:On h S M f){k:Nat}(hk:q k∈M)(hq:∀i,i<k->S (q i) (q (i+1))):k<=f (q k):=by
 induction k with
 |zero=>exact ZT _
 |succ k ih =>
  obtain⟨h1,h2⟩:=m.low _ hk _ (hq k (Zz k));have:=ih h1 λi hi=>hq i (by lia)
  lia
theorem Mx[DecidableEq α]{M A:List α}(nM:M.Nodup)(sub:∀p∈M,p∈A)(le:A.length<=M.length):∀p∈A,p∈M:=λp hp=>by
 by_cases z:p∈M
 ·exact z
 ·have:=(ZZ.mpr ⟨z,nM⟩).length_le_of_subset (l₂:=A) λx hx=>(Yf.mp hx).elim (λe=>by rw[e];exact hp) (sub x)
  rw[Y8]at this;lia
theorem GH(nd:M.Nodup)(hp:p∈M):B9 (Am M (M.map λp=>V.int (f p:Int))) (BW p)=some (.int (f p:Int)):=by obtain⟨i,hi⟩:=Y2.mp hp;exact Bw nd hi (by rw[YO,hi];rfl)
theorem QS{k:List B6}{v:V}(h:(Am M (M.map λp=>V.int (f p:Int)))[i]?=some (k,v)):∃a,M[i]?=some a/\k=BW a/\v=.int (f a:Int):=by
 unfold Am at h;rw[List.getElem?_zipWith,YO]at h;cases ha:M[i]? with
 |none=>rw[ha]at h;simp at h
 |some a =>
  rw[ha]at h;simp at h;exact⟨a,rfl,h.1.symm,h.2.symm⟩
theorem QT{K:qJ}{ns:List Int}(h:Ad K H a (ns.map V.int)):F3 K H (.ref a) (.tuple (ns.map PyData.int)):=.tup h (Kz ns)
inductive IU(P:Program)(w:World)(K:qJ)(vs:List V)(H:Hp)(Q:VK)(z3_:XK):Prop
 |m (r:Addr) (g lo:Int) (b9:List Int) (m:Nat):vs=[.ref r]->Ah H r g lo b9 m->g^(m-1)<=9->(∀d H' M f,AI H H'->H d=none->DW P w K H' d (Am M (M.map λp=>V.int (f p:Int)))->On (b9.length/g.toNat) (Gi g.toNat (b9.length/g.toNat) b9) M f->Q (.ref d) H')->IU P w K vs H Q z3_
theorem GI{g:Int}(hg:2<=g){m:Nat}(hl:(b9.length:Int)=g^m)(hm:1<=m){w:List Int}(h:w∈DF g b9 m row):Ap g b9 m w=row/\(∀x∈w,0<=x/\x<g)/\w.length=row.length+m-1:=by rw[<-GC hg hl hm]at h;obtain⟨n,_,rfl⟩:=Yd.mp (show w∈(List.range (g^(row.length+m-1)).toNat).map λn:Nat=>Af g (n:Int) (row.length+m-1) from (Yx.mp h).1);exact⟨of_decide_eq_true (Yx.mp h).2,Bd hg _ _,A1 ..⟩
noncomputable def UB(g:Int)(b9:List Int)(m ba bf n:Nat):Int:=((DF g b9 m (Af g (n:Int) bf)).getD 0 []).getD ba 0
noncomputable def Jj(g:Int)(b9:List Int)(m ba bf:Nat):List Int:=(List.range (g^bf).toNat).map (UB g b9 m ba bf)
structure Dl(g:Int)(b9:List Int)(m ba left:Nat):Prop where
 ex:∃rk:Nat×Nat->Nat,FC g.toNat (b9.length/g.toNat) b9 rk/\∃R,∀p,rk p<R
 e:∀(q:Nat->Nat×Nat) (k:Nat),q k=(0,0)->(∀i,i<k->Gi g.toNat (b9.length/g.toNat) b9 (q i) (q (i+1)))->k<=ba
 l:∀(q:Nat->Nat×Nat) (k:Nat),q 0=(0,0)->(∀i,i<k->Gi g.toNat (b9.length/g.toNat) b9 (q i) (q (i+1)))->k<=left
section
variable{g:Int}(hg:2<=g){m:Nat}(hl:(b9.length:Int)=g^m)(m2:2<=m)(hb:∀n∈b9,0<=n/\n<g){ba left:Nat}(B:Dl g b9 m ba left)
include hg hl m2 hb B
theorem Dl.sign{z:List Int}(hy:∀n∈y,0<=n/\n<g)(hz:∀n∈z,0<=n/\n<g)(ly:y.length=ba+left+1)(lz:z.length=ba+left+1)(e:Ap g b9 m y=Ap g b9 m z):y.getD ba 0=z.getD ba 0:=by obtain⟨rk,hr,R,hR⟩:=B.ex;exact Og hg hl m2 hb hr hR B.e B.l hy hz ly lz e
theorem Dl.many:m<=ba+left+1:=by
 by_cases c:m<=ba+left+1
 ·exact c
 ·have z:∀x:Int,Ap g b9 m (List.replicate (ba+left+1) x)=[]:=λx=>Fa (by rw[Yl];lia)
  have b:∀x:Int,0<=x/\x<g->∀n∈List.replicate (ba+left+1) x,0<=n/\n<g:=λx hx n hn=>by rw[(List.mem_replicate.mp hn).2];exact hx
  have s:=Dl.sign hg hl m2 hb B (y:=List.replicate (ba+left+1) 0) (z:=List.replicate (ba+left+1) 1) (b 0 ⟨by decide,by lia⟩) (b 1 ⟨by decide,by lia⟩) (Yl ..) (Yl ..) (by rw[z,z]);rw[YH,Z5,qF (by lia),YH,Z5,qF (by lia)]at s;cases s
theorem Dl.first{bf:Nat}(hc:∀n∈c,0<=n/\n<g):∃w,(DF g b9 m c)[0]?=some w:=by
 obtain⟨rk,hr,_⟩:=B.ex;have hG:(g.toNat:Int)=g:=by lia
 have hd:=Az hg hl (show 1<=m by lia);have hp:=RW.Ab hg (m-1);have z:=ER (G:=g.toNat) (by lia) (by rw[hG];exact hb) hr (by lia) (c:=c) (by rw[hG];exact hc);rw[<-Gy (g:=g) b9 m c]at z;exact⟨_,YI (by lia)⟩
theorem Dl.at{bf:Nat}(em:ba+left+2=m+bf){v:List Int}(hv:∀n∈v,0<=n/\n<g)(lv:v.length=m+bf-1):UB g b9 m ba bf (Av g (Ap g b9 m v)).toNat=v.getD ba 0:=by
 have cb:=FY hg hb m v;have cl:=BH g b9 m v;have nb:=BN hg cb;obtain⟨w,hw⟩:=Dl.first (bf:=bf) hg hl m2 hb B cb;obtain⟨w1,w2,w3⟩:=GI hg hl (by lia) (YW hw)
 have e:Af g (((Av g (Ap g b9 m v)).toNat:Nat):Int) bf=Ap g b9 m v:=by have z:=Dh hg cb;rw[cl,lv,Nat.sub_add_cancel (show 1<=m+bf by lia),Zr]at z;rw[show (((Av g (Ap g b9 m v)).toNat:Nat):Int)=Av g (Ap g b9 m v) by lia];exact z
 unfold UB;rw[e,YH (l:=DF g b9 m (Ap g b9 m v)),hw];show w.getD ba 0=v.getD ba 0;exact Dl.sign hg hl m2 hb B w2 hv (by rw[w3,cl,lv,Nat.sub_add_cancel (show 1<=m+bf by lia),Zr];clear w3 cl lv;lia) (by rw[lv];clear w3 cl lv;lia) w1
end
theorem Nr{g:Int}(hg:2<=g)(b9:List Int)(m ba bf:Nat):((Jj g b9 m ba bf).length:Int)=g^bf:=by unfold Jj;rw[YG,Yo,YY (ZX (RW.Ab hg bf))]
theorem UC{g:Int}(hg:2<=g){m:Nat}(hl:(b9.length:Int)=g^m)(hm:1<=m)(ba bf:Nat):∀n∈Jj g b9 m ba bf,0<=n/\n<g:=λn hn=>by
 unfold Jj at hn;obtain⟨k,_,rfl⟩:=Yd.mp hn;unfold UB;cases e:(DF g b9 m (Af g (k:Int) bf))[0]? with
 |none =>
  rw[YH (l:=DF g b9 m (Af g (k:Int) bf)),e];show 0<=(0:Int)/\(0:Int)<g;lia
 |some w =>
  rw[YH (l:=DF g b9 m (Af g (k:Int) bf)),e];exact B7 hg (GI hg hl hm (YW e)).2.1 _
theorem Vu{g:Int}{m:Nat}(h0:0<b9.length/g.toNat){M':List (Nat×Nat)}{f':Nat×Nat->Nat}(r:On (b9.length/g.toNat) (Gi g.toNat (b9.length/g.toNat) b9) M f)(all:∀p∈BR (b9.length/g.toNat),p∈M)(r':On (b9.length/g.toNat) (λa b=>Gi g.toNat (b9.length/g.toNat) b9 b a) M' f'):(∀p∈BR (b9.length/g.toNat),p∈M')/\Dl g b9 m (f (0,0)) (f' (0,0)):=by
 have al:∀p∈BR (b9.length/g.toNat),p∈M':=r'.all (rk:=λp=>101-f p) λp q s=>by obtain⟨a,b⟩:=DP h0 s;have:=(r.low p (all p b) q s).2;have:=r.few p (all p b);lia
 have ev:(0,0)∈BR (b9.length/g.toNat):=ET.mpr (.inl rfl);refine⟨al,⟨⟨λp=>if p∈M then f p else 0,λp q s=>?_,101,λp=>?_⟩,λq k hk hq=>?_,λq k hk hq=>?_⟩⟩
 ·obtain⟨a,b⟩:=DP h0 s;show (if p∈M then f p else 0)<(if q∈M then f q else 0);rw[qF (all p a),qF (all q b)];exact (r.low q (all q b) p s).2
 ·show (if p∈M then f p else 0)<101
  by_cases c:p∈M
  ·rw[qF c];have:=r.few p c;lia
  ·rw[qE c]
   decide
 ·have:=r.way (q:=q) (k:=k) (by rw[hk];exact all _ ev) hq;rw[hk]at this;exact this
 ·have:=r'.way (q:=λi=>q (k-i)) (k:=k) (by rw[Zn,hk];exact al _ ev) λi hi=>by
   have z:=hq (k-(i+1)) (by lia);rw[show k-(i+1)+1=k-i by lia]at z;exact z
  rw[Zn,hk]at this;exact this
theorem A7.congr{g:Int}(hg:2<=g){m:Nat}(hl:(b9.length:Int)=g^m){lo0:Int}{tab0:List Int}{m0:Nat}(hl0:(tab0.length:Int)=g^m0)(al:Bp g lo b9 m lo0 tab0 m0)(fw:A7 g lo0 tab0 m0 lf tf mf):A7 g lo b9 m lf tf mf:=by
 obtain⟨low0,M0,n0,rfl,z⟩:=fw;obtain⟨low,M,n⟩:=IE g lo b9 m;obtain⟨rfl,rfl,e⟩:=LK hg hl hl0 al n n0;refine⟨_,_,n,rfl,?_⟩;rcases z with⟨rfl,rfl,rfl⟩|⟨h2,rfl,rfl⟩
 ·exact .inl ⟨rfl,rfl,by rw[e]⟩
 ·exact .inr ⟨h2,rfl,e.symm⟩
theorem A7.again{g:Int}(hg:2<=g){m:Nat}(hl:(b9.length:Int)=g^m)(fw:A7 g lo b9 m lf tf mf):A7 g lf tf mf lf tf mf:=by obtain⟨al,tfl⟩:=fw.alike hg hl;exact A7.congr hg tfl hl al fw
noncomputable def DB(G:Nat):Nat->(List Int->Int)->Int
 |0,f=>f []
 |l+1,f=>Ag G λs=>DB G l λc=>f ((s:Int)::c)
theorem IV:∀{l:Nat} {f h:List Int->Int},(∀c,(∀n∈c,0<=n/\n<(G:Int))->f c=h c)->DB G l f=DB G l h
 |0,_,_,e=>e [] λn hn=>by cases hn
 |l+1,f,h,e=>Ar λs hs=>IV λc hc=>e _ λn hn=>by
  rcases Yf.mp hn with z|z
  ·rw[z];lia
  ·exact hc n z
theorem FE(G:Nat)(p:Int):∀l:Nat,DB G l (λ_=>p)=((G^l:Nat):Int)*p
 |0=>by show p=((1:Nat):Int)*p;lia
 |l+1=>by show Ag G (λ_=>DB G l λ_=>p)=_;rw[BE,FE G p l,Nat.pow_succ,Zm,ZE,Int.mul_assoc]
theorem Eo(n:Nat):∀{l:Nat} {f:Nat->List Int->Int},DB G l (λc=>Ag n λj=>f j c)=Ag n λj=>DB G l (f j)
 |0,_=>rfl
 |l+1,f=>by
  show Ag G (λs=>DB G l λc=>Ag n λj=>f j ((s:Int)::c))=Ag n λj=>Ag G λs=>DB G l λc=>f j ((s:Int)::c)
  rw[Cw n G];exact Ar λs _=>Eo n (f:=λj c=>f j ((s:Int)::c))
theorem Lf(b:Bool):∀{l:Nat} {f:List Int->Int},DB G l (λc=>DD b (f c))=DD b (DB G l f):=λ{l f}=>by
 cases b
 ·show DB G l (λ_=>(0:Int))=0;rw[FE,bU]
 ·rfl
theorem Lg(G2:2<=G)(hb:∀n∈b9,0<=n/\n<(G:Int))(w:List Int):∀(l u:Nat),DB G l (λc=>DE G b9 (c++w) u)=(Ag (G^l) λe=>DE G b9 w ((u*G^l+e)%(b9.length/G)))\/l=0
 |0,u=>.inr rfl
 |l+1,u=>.inl (by
  have step:DB G (l+1) (λc=>DE G b9 (c++w) u)=Ag G λj=>DB G l λc=>DE G b9 (c++w) ((u*G+j)%(b9.length/G)):=by
   show Ag G (λs=>DB G l λc=>Ag G λj=>DD (decide (b9.getD (u*G+j) 0=(s:Int))) (DE G b9 (c++w) ((u*G+j)%(b9.length/G))))=_
   rw[Ar (g:=λs=>Ag G λj=>DD (decide (b9.getD (u*G+j) 0=(s:Int))) (DB G l λc=>DE G b9 (c++w) ((u*G+j)%(b9.length/G)))) λs _=>by rw[Eo];exact Ar λj _=>Lf _]
   rw[Cw];refine Ar λj _=>?_;have b:0<=b9.getD (u*G+j) 0/\b9.getD (u*G+j) 0<(G:Int):=B7 (by lia) hb _;exact JY b.1 b.2 _
  rw[step];have md:∀a b N:Nat,(a%N*b)%N=(a*b)%N:=λa b N=>by rw[Nat.mul_mod,Nat.mod_mod,<-Nat.mul_mod]
  have e2:∀j,j<G->DB G l (λc=>DE G b9 (c++w) ((u*G+j)%(b9.length/G)))=Ag (G^l) λe=>DE G b9 w ((u*G^(l+1)+(j*G^l+e))%(b9.length/G)):=λj _=>by
   rcases Lg G2 hb w l ((u*G+j)%(b9.length/G)) with z|z
   ·rw[z];refine Ar λe _=>?_
    congr 1
    rw[bR,md,<-bR,Nat.add_mul,Nat.mul_assoc,Nat.pow_succ,Zm G (G^l),Z7]
   ·subst z;show DE G b9 ([]++w) _=Ag 1 λe=>DE G b9 w ((u*G^1+(j*1+e))%_)
    rw[Ao,Bf,Yj,Nat.pow_one,Nat.mul_one,bH];rfl
  rw[Ar e2,Nat.pow_succ,Zm (G^l) G,<-JX G (G^l) (λn=>DE G b9 w ((u*(G*G^l)+n)%(b9.length/G)))])
theorem R9(G2:2<=G)(hb:∀n∈b9,0<=n/\n<(G:Int)){l:Nat}(hN:b9.length/G=G^l)(w:List Int)(u:Nat)(hu:u<b9.length/G):DB G l (λc=>DE G b9 (c++w) u)=B2 G b9 w:=by
 rcases Lg G2 hb w l u with z|z
 ·rw[z];unfold B2;rw[<-hN];refine Ar λe he=>?_;rw[Zm,Nat.mul_add_mod,Za he]
 ·subst z;have e:b9.length/G=1:=hN;unfold B2;rw[e,Ao,Bf,Yj];obtain rfl:u=0:=by lia
  rfl
theorem Nt(G2:2<=G)(hb:∀n∈b9,0<=n/\n<(G:Int)){l:Nat}(hN:b9.length/G=G^l)(w:List Int):∀(r:List Int) (u:Nat),u<b9.length/G->DB G l (λc=>DE G b9 (r++(c++w)) u)=DE G b9 r u*B2 G b9 w
 |[],u,hu=>by rw[show DE G b9 [] u=1 from rfl,ZW];exact R9 G2 hb hN w u hu
 |s::r,u,hu=>by
  show DB G l (λc=>Ag G λj=>DD (decide (b9.getD (u*G+j) 0=s)) (DE G b9 (r++(c++w)) ((u*G+j)%(b9.length/G))))=(Ag G λj=>DD (decide (b9.getD (u*G+j) 0=s)) (DE G b9 r ((u*G+j)%(b9.length/G))))*B2 G b9 w;rw[Eo,<-FZ];refine Ar λj _=>?_;rw[Lf,Nt G2 hb hN w r _ (Yz _ (by lia))];unfold DD;split
  ·rfl
  ·rw[ZY]
theorem SA(G2:2<=G)(hb:∀n∈b9,0<=n/\n<(G:Int)){l:Nat}(hN:b9.length/G=G^l)(r w:List Int):DB G l (λc=>B2 G b9 (r++(c++w)))=B2 G b9 r*B2 G b9 w:=by show DB G l (λc=>Ag (b9.length/G) λu=>DE G b9 (r++(c++w)) u)=_;rw[Eo];show _=Ag (b9.length/G) (DE G b9 r)*_;rw[<-FZ];exact Ar λu hu=>Nt G2 hb hN w r u hu
theorem Oo{n:Nat}{f:Nat->Int}{M:Int}(h:∀k,k<n->M<=f k)(e:Ag n f=M*(n:Int)):∀k,k<n->f k=M:=by
 induction n with
 |zero=>intro k hk;lia
 |succ n ih =>
  rw[Ao]at e
  have a:(n:Int)*M<=Ag n f:=by
   have z:=DN (n:=n) (f:=λk=>f k+(-M)) λk hk=>by have:=h k (by lia);lia
   rw[Hk,BE,Int.mul_neg]at z;lia
  have b:=h n (by lia);have c:M*((n+1:Nat):Int)=(n:Int)*M+M:=by rw[ZF,Int.mul_add,Zh];lia
  have d:M*(n:Int)=(n:Int)*M:=Zh ..;intro k hk
  by_cases z:k=n
  ·subst z;lia
  ·exact ih (λk hk=>h k (by omega)) (by omega) k (by omega)
abbrev Sg(G:Nat)(r:List Int):Prop:=∀n∈r,0<=n/\n<(G:Int)
theorem Sg.snoc{r:List Int}(h:Sg G r){s:Nat}(hs:s<G):Sg G (r++[(s:Int)]):=λn hn=>by
 rcases YR.mp hn with z|z
 ·exact h n z
 ·rw[YT.mp z];lia
theorem IW:∀n:Nat,∀w,Sg G w->B2 G b9 w<=(n:Int)->∃w,Sg G w/\∀r,Sg G r->B2 G b9 w<=B2 G b9 r
 |0,w,hw,h=>⟨w,hw,λr _=>bG h (Ho G b9 r)⟩
 |n+1,w,hw,h=>by
  by_cases z:∃r,Sg G r/\B2 G b9 r<=(n:Int)
  ·obtain⟨r,hr,q⟩:=z;exact IW n r hr q
  ·refine⟨w,hw,λr hr=>?_⟩;rcases Int.lt_or_le (B2 G b9 r) (B2 G b9 w) with y|y
   ·exact qG ⟨r,hr,by lia⟩ z
   ·exact y
theorem QU(G2:2<=G)(hb:∀n∈b9,0<=n/\n<(G:Int)){l:Nat}(hN:b9.length/G=G^l)(on:∀r,Sg G r->1<=B2 G b9 r):∀r,Sg G r->B2 G b9 r=((b9.length/G:Nat):Int):=by
 obtain⟨w,hw,lw⟩:=IW (G:=G) (b9:=b9) (B2 G b9 []).toNat [] (λn hn=>by cases hn) (by have:=Ho G b9 [];lia)
 have ext:∀(r c:List Int),Sg G r->Sg G c->B2 G b9 r=B2 G b9 w->B2 G b9 (r++c)=B2 G b9 w:=by
  intro r c
  induction c generalizing r with
  |nil=>intro _ _ e;rw[Yt];exact e
  |cons s c ih =>
   intro hr hc e;have hs:=hc s Ye;have z:=Oo (λk hk=>by rw[e];exact lw _ (hr.snoc hk)) (Hr G2 hb r) s.toNat (by lia);rw[show ((s.toNat:Nat):Int)=s by lia]at z
   have hr2:Sg G (r++[s]):=λn hn=>by
    rcases YR.mp hn with y|y
    ·exact hr n y
    ·rw[YT.mp y];exact hs
   have y:=ih (r++[s]) hr2 (λn hn=>hc n (YZ _ hn)) (z.trans e);rw[Yu]at y;exact y
 have g1:=SA G2 hb hN w w;rw[IV (h:=λ_=>B2 G b9 w) λc hc=>ext w (c++w) hw (λn hn=>(YR.mp hn).elim (hc n) (hw n)) rfl,FE,<-hN]at g1;have p1:=on w hw;have e1:((b9.length/G:Nat):Int)=B2 G b9 w:=Int.eq_of_mul_eq_mul_right (by lia) g1
 have all:∀(c r:List Int),Sg G r->Sg G c->B2 G b9 r=((b9.length/G:Nat):Int)->B2 G b9 (r++c)=((b9.length/G:Nat):Int):=λc r hr hc e=>by rw[e1]at e⊢;exact ext r c hr hc e
 intro r hr
 have e0:B2 G b9 []=((b9.length/G:Nat):Int):=by show Ag (b9.length/G) (λ_=>(1:Int))=_;rw[BE,aI]
 exact all r [] (λn hn=>by cases hn) hr e0
theorem KY(x:Int->Int){k m n:Nat}(h:k+m<=n):BU x (lo+(k:Int)) m=((BU x lo n).drop k).take m:=by rw[<-Pp x (lo:=lo+(k:Int)) (low:=lo) (M:=n) (by lia) (by lia),show lo+(k:Int)-lo=(k:Int) by lia,Hj (by rw[A6];exact h)]
theorem Jk{g:Int}(hg:2<=g)(lo:Int){m:Nat}(hl:(b9.length:Int)=g^m)(hm:1<=m):1<=B2 g.toNat b9 row↔∃x,GB g x/\∀k:Nat,k<row.length->Cy g (lo+(k:Int)) b9 m x=row.getD k 0:=by
 constructor
 ·intro h;have ne:DF g b9 m row≠[]:=λz=>by rw[<-Gy b9 m row,z]at h;simp at h
  obtain⟨w,hw⟩:=List.exists_mem_of_ne_nil _ ne;rw[<-GC hg hl hm]at hw;obtain⟨h1,h2⟩:=Yx.mp hw;have h2:=of_decide_eq_true h2;obtain⟨wl,wb⟩:=(Oa hg).mp h1;refine⟨Bo w lo,Bu hg wb lo,λk hk=>?_⟩;have hl2:=congrArg List.length h2;rw[BH]at hl2;rw[<-h2];unfold Ap;rw[Aj (by lia)];unfold Cy K8
  congr 3
  rw[KY (Bo w lo) (show k+m<=w.length by lia),Cb]
 ·rintro⟨x,hx,h⟩
  have e:Ap g b9 m (BU x lo (row.length+m-1))=row:=by
   have ll:(Ap g b9 m (BU x lo (row.length+m-1))).length=row.length:=by rw[BH,A6];lia
   refine List.ext_getElem ll λk h1 h2=>?_;have z:=h k h2;rw[YH,YI h2,Option.getD_some]at z;rw[<-z]
   have e2:(Ap g b9 m (BU x lo (row.length+m-1))).getD k 0=Cy g (lo+(k:Int)) b9 m x:=by unfold Ap;rw[Aj (by rw[A6];lia)];unfold Cy K8;rw[KY x (show k+m<=row.length+m-1 by lia)]
   rw[YH,YI h1,Option.getD_some]at e2;exact e2
  rw[<-e];exact Rf hg hl hm (Du hx _ _)
theorem Lh{g:Int}(hg:2<=g){m:Nat}(hl:(b9.length:Int)=g^m)(hm:1<=m)(hl':(tab'.length:Int)=g^m')(hm':1<=m')(al:Bp g lo b9 m lo' tab' m')(h:1<=B2 g.toNat b9 row):1<=B2 g.toNat tab' row:=by
 obtain⟨x,hx,q⟩:=(Jk hg lo hl hm).mp h;refine (Jk hg lo' hl' hm').mpr ⟨x,hx,λk hk=>?_⟩;rw[<-q k hk];have z:=al (λz=>x (z+(k:Int))) λz=>hx _
 have e:∀(lo:Int) (b9:List Int) (m:Nat),Cy g lo b9 m (λz=>x (z+(k:Int)))=Cy g (lo+(k:Int)) b9 m x:=λlo b9 m=>by
  unfold Cy BU
  congr 4
  funext j
  show x (lo+(j:Int)+(k:Int))=x (lo+(k:Int)+(j:Int))
  congr 1
  lia
 rw[e,e]at z;exact z.symm
end L2
namespace L2
open PySem PySem.Spec PyProof.Rows
variable{D:Gf}{E:Value->Shared->Prop}{H H' H1 H2:Hp}{a:Addr}{an od:Option Addr}{bh doc oc:Value}{cl:List (Str×Addr)}{es:List Expr}{fd:FuncData}{name qual:Str}{o:HO}{osl:Array (Option Value)}{params:Arguments}{ad:List (Addr×Obj)}{pos:Pos}{ps:List Str}{scope:Scope}{sp:Sp}{st:Stmt}{ta:TA}{us vs:List Value}{α β:Type}{σ:St}
def IX(mg:Str->Option Value)(h:Heap):Prop:=∃bm ob,mg "__builtins__"=some (.ref bm)/\bm≠builtinsNs/\h.get? bm=some ob/\ob.cls=.type "module"/\ob.dict=some builtinsNs/\ob.data=.plain
def S9(ts:List Addr)(H:Hp):Prop:=(∀b,H b=none\/(∃o xs,H b=some (.frz o (.lst xs)))\/(b∈ts/\H b=some (.tbl #[])))/\∀b∈ts,H b=some (.tbl #[])
def QV(K:qJ)(cts:List (Addr×Addr)):Prop:=∀q∈cts,PySem.W.codeHdIn K q.1 q.2=true/\K.lookup q.2=none
theorem Op{P:Program}{w:World}{K:qJ}{mg mb:Str->Option Value}{CX:Qv}{k:Nat}{fa:Addr}{fd:FuncData}{x:Str}{sp:Sp}{s₁:Shared}{ns:List Int}{cts:List (Addr×Addr)}
  (KX:K.In s₁.heap) (hns:s₁.heap.Ns mainGlobals mg) (hb:s₁.heap.Ns builtinsNs mb) (hbb:∀x:Str,x≠"__name__"->mb x=bootBuiltins x) (hlim:s₁.heap.NoLimit) (hbm:IX mg s₁.heap) (hg:s₁.gens=#[])
  (hT:QV K cts) (hT2:∀q∈cts,s₁.heap.get? q.2=some (PySem.W.tabObj #[]))
  (ha:s₁.heap.get? a=some {cls:=.type "list",data:=.seq vs.toArray}) (hi:IntsAre vs ns) (hl:ns.length<=sizeLine) (hr:Br k callerA)
  (F:∀base:Heap,K.In base->base.Ns mainGlobals mg->IX mg base->Fz P w K mg base CX k fa fd [x] sp) (hbind:∀(s:Shared) (u:Value),BindsTo s fd ⟨[u],[]⟩ [(x,u)])
  (hsp:∀H:Hp,S9 (cts.map (·.2)) H->Ai K H a (ns.map V.int)->sp [.ref a] H (λv _=>v=.bl true) λ_ _ _=>False)
  (hCX:∀H e s',CX [] H s₁ (λ_ _ _=>False) e s'->False):
  codeAny (model P w) callerA (.call (.ref fa) ⟨[.ref a],[]⟩) (λr s'=>r=.ok (.ret (.bool true))/\OldK s₁.heap s'.heap/\s'.os=s₁.os/\AllBare s'.gens) s₁:=by
 have rv:=JR hi;have lenV:=hi.length
 have atT:∀b∈cts.map (·.2),s₁.heap.get? b=some (PySem.W.tabObj #[])/\K.lookup b=none/\isCodeTable s₁.heap b:=λb hb=>by obtain⟨q,hq,rfl⟩:=Yd.mp hb;exact⟨hT2 q hq,(hT q hq).2,((PySem.W.codeHd_of_K KX (hT q hq).1).tab (hT2 q hq)).isCodeTable⟩
 have aT:a∉cts.map (·.2):=λz=>by have e:=(atT a z).1;rw[ha]at e;cases e
 have core:∀H:Hp,S9 (cts.map (·.2)) H->Ai K H a (ns.map V.int)->D9 P w H s₁.heap->(∀b,H b≠none->b=a\/b∈cts.map (·.2))->(H a≠none->K.lookup a=none) ->
   codeAny (model P w) callerA (.call (.ref fa) ⟨[.ref a],[]⟩) (λr s'=>r=.ok (.ret (.bool true))/\OldK s₁.heap s'.heap/\s'.os=s₁.os/\AllBare s'.gens) s₁:=by
  intro H hO hS hok hA hK;have base_of:∀{b:Addr} {o:Obj},s₁.heap.get? b=some o->H b=none->(JA s₁.heap H).get? b=some o:=λe n=>O0 e n
  have noA:∀{b:Addr} {o:Obj},s₁.heap.get? b=some o->(∀xs n,o.data≠.seq xs n)->(∀xs,o.data≠.fields xs)->H b=none:=λ{b o} e d d2=>by
   cases q:H b with
   |none=>rfl
   |some u =>
    rcases hA b (by rw[q];simp) with e'|e'
    ·subst e';rw[ha]at e;cases e;exact (d _ _ rfl).elim
    ·rw[(atT b e').1]at e;cases e;exact (d2 _ rfl).elim
  have nsK:∀{b:Addr} {m:Str->Option Value},s₁.heap.Ns b m->(JA s₁.heap H).Ns b m:=λ{b m} ⟨o,es,ep,e,d,r⟩=>⟨o,es,ep,base_of e (noA e (λ_ _ z=>by rw[d]at z;cases z) (λ_ z=>by rw[d]at z;cases z)),d,r⟩
  have hKb:K.In (JA s₁.heap H):=λb o e=>base_of (KX b o e) (by
   cases q:H b with
   |none=>rfl
   |some u =>
    rcases hA b (by rw[q];simp) with e'|e'
    ·subst e';rw[hK (by rw[q];simp)]at e;cases e
    ·rw[(atT b e').2.1]at e;cases e)
  have hM:W9 K mg (JA s₁.heap H):=⟨hKb,nsK hns,⟨mb,nsK hb,hbb⟩,let ⟨mc,h1,h2⟩:=hlim;⟨mc,nsK h1,h2⟩⟩
  have hB:IX mg (JA s₁.heap H):=by obtain⟨bm,ob,b1,b2,b3,b4,b5,b6⟩:=hbm;exact⟨bm,ob,b1,b2,base_of b3 (noA b3 (λ_ _ z=>by rw[b6]at z;cases z) (λ_ z=>by rw[b6]at z;cases z)),b4,b5,b6⟩
  have e0:O9 P w K mg (JA s₁.heap H) callerA [] s₁ H:=⟨rfl,hM,λb o e=>Q9 e,Nat.le_of_eq (OD _ _),trivial,λb hb=>qG (show b∈([]:List Addr) from hb) (by simp),hok,.of_eq hg⟩;refine codeAny_mono ((F _ hKb (nsK hns) hB).run callerA [] s₁ H ⟨[.ref a],[]⟩ [.ref a] [.ref a] _ _ hr e0 (hbind s₁ (.ref a)) (.cons rfl .nil) (hsp H hO hS)) λr s' h=>?_;cases r with
  |error e=>exact (hCX H e s' h).elim
  |ok fl =>
   cases fl with
   |next=>exact False.elim h
   |brk=>exact False.elim h
   |cont=>exact False.elim h
   |ret u =>
    obtain⟨v,H',os,bare,un,hok',r',q⟩:=h;have q':v=.bl true:=q;subst q';obtain rfl:u=Value.bool true:=r'
    have keep:∀b o,s₁.heap.get? b=some o->b∉cts.map (·.2)->s'.heap.get? b=some o:=λb o e nb=>by
     cases q:H b with
     |none=>exact un.keep b o e q (by intro z;exact qG (show b∈([]:List Addr) from z) (by simp)) (by simp)
     |some u =>
      rcases hO.1 b with z|⟨ob,xs,z⟩|⟨z,_⟩
      ·rw[q]at z;cases z
      ·have z2:=un.frzs b ob _ z;obtain⟨e1,_⟩:=hok b _ z;obtain⟨e2,_⟩:=hok' b _ z2;rw[e]at e1;cases e1;exact e2
      ·exact qG z nb
    have tabs:∀b∈cts.map (·.2),∃more,s'.heap.get? b=some {cls:=.none,data:=.fields ((#[]:Array Value)++more)}:=λb hb=>by obtain⟨more,z⟩:=un.tbls b #[] (hO.2 b hb);exact⟨more,hok' b _ z⟩
    refine⟨rfl,⟨λb o e=>?_,λb o e=>?_⟩,os,bare⟩
    ·by_cases hb:b∈cts.map (·.2)
     ·obtain⟨more,z⟩:=tabs b hb;have e1:=(atT b hb).1;rw[e]at e1;cases e1;exact .inr (.inl ⟨(atT b hb).2.2,rfl,#[],more,rfl,z⟩)
     ·exact .inl (keep b o e hb)
    ·by_cases hb:b∈cts.map (·.2)
     ·obtain⟨more,z⟩:=tabs b hb;exact⟨_,z⟩
     ·exact⟨o,keep b o e hb⟩
 cases hk:K.lookup a with
 |some o =>
  have e:=KX a o hk;rw[ha]at e;cases e;refine core (λb=>if b∈cts.map (·.2) then some (.tbl #[]) else none) ⟨λb=>?_,λb hb=>qF hb⟩ (.inr ⟨_,vs.toArray,_,hk,rfl,rfl,rfl,by rw[List.size_toArray,lenV];exact hl,by simpa using rv⟩) (λb u z=>?_) (λb z=>?_) λz=>qG (qE aT) z
  ·by_cases hb:b∈cts.map (·.2)
   ·exact .inr (.inr ⟨hb,qF hb⟩)
   ·exact .inl (qE hb)
  ·by_cases hb:b∈cts.map (·.2)
   ·have z':=(qF hb).symm.trans z;cases z';exact (atT b hb).1
   ·have z':=(qE hb).symm.trans z;cases z'
  ·by_cases hb:b∈cts.map (·.2)
   ·exact .inr hb
   ·exact qG (qE hb) z
 |none =>
  have at1:∀b,b∉cts.map (·.2)->b=a->(if b∈cts.map (·.2) then some (HO.tbl #[]) else if b=a then some (.frz {cls:=.type "list",data:=.seq vs.toArray} (.lst (ns.map V.int))) else none)=some (.frz {cls:=.type "list",data:=.seq vs.toArray} (.lst (ns.map V.int))):=λb h1 h2=>by rw[qE h1,qF h2]
  have at2:∀b,b∉cts.map (·.2)->b≠a->(if b∈cts.map (·.2) then some (HO.tbl #[]) else if b=a then some (.frz {cls:=.type "list",data:=.seq vs.toArray} (.lst (ns.map V.int))) else none)=none:=λb h1 h2=>by rw[qE h1,qE h2]
  refine core (λb=>if b∈cts.map (·.2) then some (.tbl #[]) else if b=a then some (.frz {cls:=.type "list",data:=.seq vs.toArray} (.lst (ns.map V.int))) else none) ⟨λb=>?_,λb hb=>qF hb⟩ (.inl (.inr ⟨{cls:=.type "list",data:=.seq vs.toArray},at1 a aT rfl⟩)) (λb u z=>?_) (λb z=>?_) λ_=>hk
  ·by_cases hb:b∈cts.map (·.2)
   ·exact .inr (.inr ⟨hb,qF hb⟩)
   ·by_cases hba:b=a
    ·exact .inr (.inl ⟨_,_,at1 b hb hba⟩)
    ·exact .inl (at2 b hb hba)
  ·by_cases hb:b∈cts.map (·.2)
   ·have z':=(qF hb).symm.trans z;cases z';exact (atT b hb).1
   ·by_cases hba:b=a
    ·have z':=(at1 b hb hba).symm.trans z;cases z';subst hba;exact⟨ha,by rw[YG];exact hl,vs,_,rv,ha⟩
    ·have z':=(at2 b hb hba).symm.trans z;cases z'
  ·by_cases hb:b∈cts.map (·.2)
   ·exact .inr hb
   ·by_cases hba:b=a
    ·exact .inl hba
    ·exact qG (at2 b hb hba) z
abbrev Cu:HO:=.ext λ_=>True
theorem IY{P:Program}{w:World}{h:Heap}{o:Obj}(e:h.get? a=some o):Ay P w H h a (.frz o Cu):=⟨e,trivial,⟨o,e⟩,λ_ _ _ _=>trivial⟩
def QW(oc:Obj)(q:Str):Prop:=∃vs t,oc.data=.fields vs/\vs[1]?=some (.str q t)
def Co(pos:Pos)(q:Str)(P:Addr)(H:Hp):Prop:=∃ps:Array Value,H P=some (.tbl ps)/\TriplesOk ps.toList /\
 ∀cv,codeAmong pos ps.toList=some cv->∃c' oc,cv=.ref c'/\H c'=some (.frz oc Cu)/\QW oc q
theorem Co.same{q:Str}{P:Addr}(t:Co pos q P H)(e:AI H H'):Co pos q P H':=by obtain⟨ps,h1,h2,h3⟩:=t;refine⟨ps,e _ _ h1,h2,λcv hc=>?_⟩;obtain⟨c',oc,h4,h5,h6⟩:=h3 cv hc;exact⟨c',oc,h4,e _ _ h5,h6⟩
theorem Co.start{q:Str}{P:Addr}(h:H P=some (.tbl #[])):Co pos q P H:=⟨#[],h,trivial,λ_ z=>by cases z⟩
def DQ(P:Addr)(H H':Hp):Prop:=∀b o,b≠P->H b=some o->H' b=some o
theorem AI.t{P:Addr}(e:AI H H'):DQ P H H':=λb o _ h=>e b o h
theorem DQ.trans{P:Addr}(a:DQ P H H1)(b:DQ P H1 H2):DQ P H H2:=λc o n h=>b c o n (a c o n h)
abbrev SB(q:Str)(params:Arguments)(body:Expr)(scope:Scope)(clos:List (Str×Addr))(pm:Value)(c':Addr)(ctv:Value):Obj:=PySem.W.kla_obj "<lambda>" q params body scope clos pm c' ctv
def TB(q:Str)(params:Arguments)(body:Expr)(scope:Scope)(clos:List (Str×Addr))(f:Addr)(H:Hp):Prop:=
 ∃pm c' ctv oc,H f=some (.frz (SB q params body scope clos pm c' ctv) Cu)/\H c'=some (.frz oc Cu)/\QW oc q
def Xd(P:Addr)(pos:Pos)(q:Str)(params:Arguments)(body:Expr)(scope:Scope)(clos:List (Str×Addr)):TE:=λ_ H Q=>Co pos q P H /\
 ∀f H',DQ P H H'->Co pos q P H'->H f=none->TB q params body scope clos f H'->Q (.ref f) H'
theorem UD{X:Cx}{c P:Addr}{body:Expr}{clos:List (Str×Addr)}(hB:IX X.mg X.base)(hcode:X.env.code=.ref c)(hc:PySem.W.codeHdIn X.K c P=true)
  (hcl:closureFor scope X.env=pure clos) (hdef:defaultsOf params X.env=([],[])):PE X (.Lambda params body scope pos) (Xd P pos (X.env.qual++"<lambda>") params body scope clos):=by
 intro ad s σ H Q I h;obtain⟨⟨ps,hP,ht,hh⟩,hq⟩:=h;refine PySem.W.kla_eval hdef ?_;have hPh:s.heap.get? P=some (PySem.W.tabObj ps):=I.hok P _ hP;have hPl:P<s.heap.objs.size:=YQ hPh;have C:PySem.W.CodeHd s.heap c P:=PySem.W.codeHd_of_K I.kIn hc;have hgs:s.heap.Ns mainGlobals X.mg:=I.ok.mod.glob.keeps I.bk;obtain⟨bm,ob,b1,b2,b3,b4,b5,b6⟩:=hB;have b3':=I.bk _ _ b3
 have hgP:mainGlobals≠P:=λq=>by obtain⟨o,es,ep,e,hd,_⟩:=hgs;rw[q,hPh]at e;cases e;cases hd
 have hbP:bm≠P:=λq=>by rw[q,hPh]at b3';cases b3';cases b4
 have hbG:bm≠mainGlobals:=λq=>by obtain⟨o,es,ep,e,hd,_⟩:=hgs;rw[q,e]at b3';cases b3';rw[hd]at b6;cases b6
 have BA:s.heap.BuiltinsAt X.mg P:=⟨bm,ob,b1,b2,hbG,hbP,b3',b4,b5,b6⟩;have nP:∀b,H b=none->b≠P:=λb e z=>by rw[z,hP]at e;cases e
 have fresh:∀b,s.heap.objs.size<=b->H b=none:=λb hb=>I.hok.fresh hb
 cases hca:codeAmong pos ps.toList with
 |none =>
  refine PySem.W.kla_makeFunction (mg:=X.mg) hcl I.ok.glob hgs hcode C hPh ht hca hgP BA λc' ctv h' tk hx hge hlt hrec htb=>?_;obtain⟨c₂,oc,vs,t,e2,hoc,hd,hv⟩:=hrec;cases e2;have hsz:s.heap.objs.size<=h'.objs.size:=Yy hge (ZQ hlt);obtain⟨f,hf⟩:∃f,f=h'.objs.size:=⟨_,rfl⟩;obtain⟨fo,hfo⟩:∃fo,fo=SB (X.env.qual++"<lambda>") params body scope clos ((X.mg "__name__").getD .none) c' ctv:=⟨_,rfl⟩;obtain⟨H',hH'⟩:∃H',H'=Ac (Ac (Ac H P (.tbl (ps++#[rawInt pos.line,rawInt pos.col,.ref c']))) c' (.frz oc Cu)) f (.frz fo Cu):=⟨_,rfl⟩;have cf:c'≠f:=λz=>by rw[z,hf]at hlt;exact qG hlt (Yh _)
  have Pc:P≠c':=λz=>qG (YS hPl hge) (by rw[<-z];exact Yh _)
  have Pf:P≠f:=λz=>qG (YS hPl hsz) (by rw[<-hf,<-z];exact Yh _)
  have nf:H f=none:=fresh f (by rw[hf];exact hsz);have nc:H c'=none:=fresh c' hge;have oth:∀b,b≠P->b≠c'->b≠f->H' b=H b:=λb h1 h2 h3=>by rw[hH',AN h3,AN h2,AN h1]
  have atP:H' P=some (.tbl (ps++#[rawInt pos.line,rawInt pos.col,.ref c'])):=by rw[hH',AN Pf,AN Pc];exact AE
  have atc:H' c'=some (.frz oc Cu):=by rw[hH',AN cf];exact AE
  have atf:H' f=some (.frz fo Cu):=by rw[hH'];exact AE
  have keep:∀b o,b≠P->s.heap.get? b=some o->(h'.push fo).get? b=some o:=λb o hb e=>YK _ (hx b o hb e)
  have trk:∀b u,H b=some u->b≠c'/\b≠f:=λb u e=>⟨λz=>(by rw[z,nc]at e;cases e),λz=>(by rw[z,nf]at e;cases e)⟩
  have sm:DQ P H H':=λb o hb e=>by rw[oth b hb (trk b o e).1 (trk b o e).2];exact e
  have un:Un (D4 X.stack) [] H H' s.heap (h'.push fo):=by
   refine⟨λb o e n _ _=>keep b o (nP b n) e,λb o e n _ _=>⟨o.slots,keep b o (nP b n) e⟩,λb o e n _=>?_,λb o e _=>?_,λb xs e=>?_,λb o u e=>?_,λb qs e=>?_⟩
   ·have hl:=YQ e;rw[oth b (nP b n) (λz=>qG (YS hl hge) (by rw[z];exact Yh _)) (λz=>qG (YS hl hsz) (by rw[z,hf];exact Yh _))];exact n
   ·by_cases hb:b=P
    ·rw[hb];exact⟨_,YK _ htb⟩
    ·exact⟨o,keep b o hb e⟩
   ·exact sm b _ (λz=>by rw[z,hP]at e;cases e) e
   ·exact sm b _ (λz=>by rw[z,hP]at e;cases e) e
   ·by_cases hb:b=P
    ·subst hb;rw[hP]at e;cases e;exact⟨_,atP⟩
    ·exact⟨#[],by rw[Array.append_empty];exact sm b _ hb e⟩
  have hok:D9 X.prog X.w H' (h'.push fo):=λb u e=>by
   by_cases hbf:b=f
   ·subst hbf;rw[atf]at e;cases e;exact IY (by rw[hf];exact YX _ (by rw[hfo];rfl))
   ·by_cases hbc:b=c'
    ·subst hbc;rw[atc]at e;cases e;exact IY (YK _ hoc)
    ·by_cases hb:b=P
     ·subst hb;rw[atP]at e;cases e;exact YK _ htb
     ·rw[oth b hb hbc hbf]at e;refine (I.hok b u e).stay (λd o hd q=>keep d o ?_ q) (λd q=>?_) λd xs q=>?_
      ·rcases hd with z|z
       ·rw[z];exact hb
       ·intro y;rw[y,hP]at z;cases z
      ·exact sm d _ (λy=>by rw[y,hP]at q;cases q) q
      ·exact sm d _ (λy=>by rw[y,hP]at q;cases q) q
  have I':AT X ad σ H' {s with heap:=h'.push fo,toks:=tk}:=I.call (g':=s.gens) (d':=s.drawn) (ch:=[]) un hok I.bare (λb z=>qG z (by simp));refine⟨.ref f,H',?_,by rw[hf];rfl,hq f H' sm ⟨_,atP,?_,λcv hcv=>?_⟩ nf ⟨(X.mg "__name__").getD .none,c',ctv,oc,by rw[atf,hfo],atc,vs,t,hd,hv⟩⟩
  ·subst hfo;exact I'
  ·rw[ZA];exact TriplesOk_snoc _ _ _ _ ht
  ·rw[ZA]at hcv;have e:=codeAmong_snoc (c:=.ref c') ps.toList ht hca;have hcv':codeAmong pos (ps.toList++[rawInt pos.line,rawInt pos.col,.ref c'])=some cv:=hcv;rw[e]at hcv';cases hcv';exact⟨c',oc,rfl,atc,vs,t,hd,hv⟩
 |some cv =>
  obtain⟨c',oc,rfl,hc',co⟩:=hh cv hca;refine PySem.W.kla_makeFunctionHit (mg:=X.mg) hcl I.ok.glob hgs hcode C hPh ht hca BA λctv h' tk hk hsz=>?_;obtain⟨f,hf⟩:∃f,f=h'.objs.size:=⟨_,rfl⟩;obtain⟨fo,hfo⟩:∃fo,fo=SB (X.env.qual++"<lambda>") params body scope clos ((X.mg "__name__").getD .none) c' ctv:=⟨_,rfl⟩;have nf:H f=none:=fresh f (by rw[hf];exact hsz);have keep:∀b o,s.heap.get? b=some o->(h'.push fo).get? b=some o:=λb o e=>YK _ (hk b o e)
  have sm:AI H (Ac H f (.frz fo Cu)):=AI.new nf _;have hok:D9 X.prog X.w (Ac H f (.frz fo Cu)) (h'.push fo):=I.hok.laid keep (by rw[hf];exact hsz) (IY (by rw[hf];exact YX _ (by rw[hfo];rfl)))
  have un:Un (D4 X.stack) [] H (Ac H f (.frz fo Cu)) s.heap (h'.push fo):=by refine⟨λb o e n _ _=>keep b o e,λb o e n _ _=>⟨o.slots,keep b o e⟩,λb o e n _=>?_,λb o e _=>⟨o,keep b o e⟩,λb xs e=>sm _ _ e,λb o u e=>sm _ _ e,λb qs e=>⟨#[],by rw[Array.append_empty];exact sm _ _ e⟩⟩;rw[AN (λz=>qG (YS (YQ e) hsz) (by rw[z,hf];exact Yh _))];exact n
  have I':AT X ad σ (Ac H f (.frz fo Cu)) {s with heap:=h'.push fo,toks:=tk}:=I.call (g':=s.gens) (d':=s.drawn) (ch:=[]) un hok I.bare (λb z=>qG z (by simp));refine⟨.ref f,Ac H f (.frz fo Cu),?_,by rw[hf];rfl,hq f _ sm.t (Co.same ⟨ps,hP,ht,hh⟩ sm) nf ⟨(X.mg "__name__").getD .none,c',ctv,oc,by rw[AE,hfo],sm _ _ hc',co⟩⟩;subst hfo;exact I'
abbrev BZ(cl:List (Str×Addr)):List Addr:=cl.map (·.2)
noncomputable def Jl(cl:List (Str×Addr))(H:Hp):Hp:=λb=>if b∈BZ cl then none else H b
noncomputable def Vv(cl:List (Str×Addr))(H H':Hp):Hp:=λb=>if b∈BZ cl then H b else H' b
def DY(cl:List (Str×Addr))(vs:List V)(H:Hp):Prop:=Paired (λ(p:Str×Addr) (v:V)=>∃u o,A8 v u/\o.data=.cell (some u)/\H p.2=some (.frz o Cu)) cl vs
theorem Bx{b:Addr}(h:b∉BZ cl):Jl cl H b=H b:=qE h
theorem IZ{b:Addr}(h:b∈BZ cl):Jl cl H b=none:=qF h
theorem DS{b:Addr}(h:b∉BZ cl):Vv cl H H' b=H' b:=qE h
theorem My{b:Addr}(h:b∈BZ cl):Vv cl H H' b=H b:=qF h
theorem Paired.left{F:α->β->Prop}:∀{l₁:List α} {l₂:List β},Paired F l₁ l₂->∀a∈l₁,∃b,F a b
 |_,_,.nil,_,h=>by cases h
 |_,_,.cons r t,a,h=>by
  rcases Yf.mp h with rfl|h
  ·exact⟨_,r⟩
  ·exact Paired.left t a h
theorem Paired.at{F:α->β->Prop}:∀{l₁:List α} {l₂:List β},Paired F l₁ l₂->∀{i:Nat} {b:β},l₂[i]?=some b->∃a,l₁[i]?=some a/\F a b
 |_,_,.nil,_,_,h=>by simp at h
 |_,_,.cons r _,0,_,h=>by simp at h;subst h;exact⟨_,rfl,r⟩
 |_,_,.cons _ t,i+1,_,h=>by obtain⟨a,h1,h2⟩:=Paired.at t (i:=i) (by simpa using h);exact⟨a,by simpa using h1,h2⟩
theorem Paired.lens{F:α->β->Prop}:∀{l₁:List α} {l₂:List β},Paired F l₁ l₂->l₁.length=l₂.length
 |_,_,.nil=>rfl
 |_,_,.cons _ t=>by simp[Paired.lens t]
section
variable{vs:List V}
theorem DY.at(c:DY cl vs H){b:Addr}(h:b∈BZ cl):∃u o,o.data=.cell (some u)/\H b=some (.frz o Cu):=by obtain⟨p,hp,rfl⟩:=Yd.mp h;obtain⟨v,u,o,_,h1,h2⟩:=Paired.left c p hp;exact⟨u,o,h1,h2⟩
theorem DY.out(c:DY cl vs H){b:Addr}{u:HO}(h:H b=some u)(n:∀o,u≠.frz o Cu):b∉BZ cl:=λz=>by obtain⟨_,o,_,e⟩:=c.at z;rw[h]at e;exact n o (Option.some.inj e)
theorem QX(h0:∀b∈BZ cl,H b=none)(e:AI H H'):AI H (Jl cl H'):=λb o q=>by rw[Bx (λz=>by rw[h0 b z]at q;cases q)];exact e b o q
theorem DC{b:Addr}(h:H b=none):Jl cl H b=none:=by
 unfold Jl;split
 ·rfl
 ·exact h
theorem QY(e:AI (Jl cl H) H'):AI H (Vv cl H H'):=λb o q=>by
 by_cases hb:b∈BZ cl
 ·rw[My hb];exact q
 ·rw[DS hb];exact e b o (by rw[Bx hb];exact q)
theorem D9.unC{P:Program}{w:World}{h:Heap}(x:D9 P w H h)(n:∀b∈BZ cl,∀u,H b=some u->∃o,u=.frz o Cu):D9 P w (Jl cl H) h:=λb u e=>by
 have hb:b∉BZ cl:=λz=>by rw[IZ z]at e;cases e
 rw[Bx hb]at e;refine (x b u e).stay (λ_ _ _ q=>q) (λc q=>?_) λc xs q=>?_
 ·rw[Bx (λz=>by obtain⟨o,y⟩:=n c z _ q;cases y)];exact q
 ·rw[Bx (λz=>by obtain⟨o,y⟩:=n c z _ q;cases y)];exact q
end
def At(σ:St)(is:List Nat)(vs:List V):Prop:=Paired (λ(i:Nat) (v:V)=>σ[i]?=some (some v)) is vs
theorem DZ(cl:List (Str×Addr)):∀(names:List (Str×NameKind)) (n:Nat) (bg:List (Str×Addr)),cellsFrom n names (bg++cl)=cellsFrom n names bg++cl
 |[],_,_=>rfl
 | (name,kind)::r,n,bg=>by
  unfold cellsFrom;split
  ·exact DZ cl r (n+1) ((name,n)::bg)
  ·exact DZ cl r n bg
theorem CU{x:Str}:∀{l r:List (Str×α)},(l++r).lookup x=(l.lookup x).or (r.lookup x)
 |[],r=>by simp
 | (k,v)::l,r=>by
  rw[Z8,Z9,Z9];split
  ·rfl
  ·exact CU
theorem Ia{f g:α->PUnit->Sem (ForInStep PUnit)}:∀{l:List α},(∀x∈l,f x ⟨⟩=g x ⟨⟩)->forIn l (⟨⟩:PUnit) f=forIn l (⟨⟩:PUnit) g
 |[],_=>by rw[List.forIn_nil,List.forIn_nil]
 |x::r,h=>by
  rw[List.forIn_cons,List.forIn_cons,h x Ye];refine bind_congr λy=>?_;cases y with
  |done b=>rfl
  |yield b=>exact Ia λz hz=>h z (YZ _ hz)
theorem Mz{e1 e2:Env}{x:Str}{v:Value}(h1:e1.scope=e2.scope)(h2:e1.locals=e2.locals)(h3:e1.globals=e2.globals)(h4:e1.cells.lookup x=e2.cells.lookup x)(hk:e1.scope.kind=.function)(hx:e1.kindOf x=some .local\/e1.kindOf x=some .cell):storeName e1 x v=storeName e2 x v:=by
 have k2:e2.kindOf x=e1.kindOf x:=by unfold Env.kindOf;rw[h1]
 have c2:cellOf e1 x=cellOf e2 x:=by unfold cellOf;rw[h4]
 unfold storeName;rw[k2];have hk2:e2.scope.kind=.function:=by rw[<-h1];exact hk
 rcases hx with hx|hx<;>rw[hx]<;>simp[h1,h2,h3,c2,hk2]
theorem JH{M:Model}{A:Around}{s:Shared}{globals:Addr}{binds:List (Str×Value)}{func:Option Addr}{code:Value}{builtins:Addr}{Q:Env->Shared->Prop}
  (hk:scope.kind=.function)
  (hkind:∀x∈binds,scope.names.lookup x.1=some .local\/(scope.names.lookup x.1=some .cell/\((cellsFrom (s.heap.objs.size+1) scope.names []).lookup x.1).isSome=true))
  (hout:∀x∈binds,∀c,(cellsFrom (s.heap.objs.size+1) scope.names []).lookup x.1=none->cl.lookup x.1≠some c)
  (hQ:∀s',InCallC s s.heap.objs.size (bindL (λx=>scope.names.lookup x) binds λ_=>none) (cellsFrom (s.heap.objs.size+1) scope.names []) (bindC (λx=>scope.names.lookup x) binds λ_=>none) s' ->
   Q (newEnv scope s.heap.objs.size globals (cellsFrom (s.heap.objs.size+1) scope.names []++cl) qual func code none builtins) s'):
  wpAny M A (newFunctionEnv scope globals cl binds qual func code none builtins) Q E s:=by
 simp only[newFunctionEnv,Option.isSome_none,Bool.false_eq_true,if_false];refine qC (wpAny_alloc ?_);refine qC (wpAny_layCells _ (λname kind cells=>by cases hkc:kind==NameKind.cell<;>simp[hkc]) _ _ _ _ ?_);have ok:=cellsFrom_ok scope.names (s.heap.push {cls:=.type "frame",data:=.dict #[]}) (s.heap.objs.size+1) [] ⟨λ_ _ hm=>(nomatch hm),List.Pairwise.nil⟩ (by rw[Zg];exact YL _);rw[Zg]at ok;rw[show ({s with heap:=s.heap.push {cls:=.type "frame",data:=.dict #[]}}:Shared).heap.objs.size=s.heap.objs.size+1 from Zg ..];have ca:=DZ cl scope.names (s.heap.objs.size+1) [];rw[au]at ca;rw[ca]
 have env2:∀x∈binds,(cellsFrom (s.heap.objs.size+1) scope.names []++cl).lookup x.1=(cellsFrom (s.heap.objs.size+1) scope.names []).lookup x.1:=λx hx=>by
  rw[CU];cases e:(cellsFrom (s.heap.objs.size+1) scope.names []).lookup x.1 with
  |some c=>rfl
  |none =>
   cases e2:cl.lookup x.1 with
   |none=>rfl
   |some c=>exact qG e2 (hout x hx c e)
 refine qC ?_
 rw[Ia (g:=λ(x:Str×Value) _=>(do storeName (newEnv scope s.heap.objs.size globals (cellsFrom (s.heap.objs.size+1) scope.names []) qual func code none builtins) x.1 x.2;pure (.yield ⟨⟩):Sem (ForInStep PUnit))) (λx hx=>by
  exact congrArg (λz:Sem Unit=>(do z;pure (ForInStep.yield PUnit.unit):Sem (ForInStep PUnit))) (Mz (e1:=newEnv scope s.heap.objs.size globals (cellsFrom (s.heap.objs.size+1) scope.names []++cl) qual func code none builtins) (e2:=newEnv scope s.heap.objs.size globals (cellsFrom (s.heap.objs.size+1) scope.names []) qual func code none builtins) rfl rfl rfl (env2 x hx) hk (by
   rcases hkind x hx with z|z
   ·exact .inl z
   ·exact .inr z.1)))]
 exact wpAny_bindParams (s₀:=s) (env:=newEnv scope s.heap.objs.size globals (cellsFrom (s.heap.objs.size+1) scope.names []) qual func code none builtins)
  _ (λ_ _ _=>rfl) hk binds (λ_=>none) (λ_=>none) _ _
  ⟨⟨⟨_,_,rfl⟩,(Heap.Ns.new s.heap (.type "frame")).keeps (pushCells_keeps _ _),λb o e=>pushCells_keeps _ _ b o (YK _ e),YL _⟩,
   λn c hc=>(ok.empty n c (mem_of_lookup hc)).1,ok.apart,λn c hm=>(ok.empty n c hm).2⟩
  hkind λs' x=>qD (hQ s' x)
structure Li(ps fns:List Str)(sc:Scope):Prop where
 kind:sc.kind=.function
 co:sc.isCoroutine=false
 gen:sc.isGenerator=false
 nd:(ps++fns).Nodup
 par:∀x∈ps,sc.names.lookup x=some .local\/sc.names.lookup x=some .cell
 fre:∀x∈fns,sc.names.lookup x=some .free
 all:∀y∈sc.names,y.2=.free->y.1∈fns
 own:∀y∈sc.names,y.2=.cell->y.1∉fns
noncomputable def XE(P:Program)(w:World)(K:qJ)(mg:Str->Option Value)(base:Heap)(N:List Str)(qual:Str)(scope:Scope)(f:Addr)(cd:Value)(cl:List (Str×Addr))(A:Around)(outer:List Env)(s:Shared)(H:Hp):Cx where
 prog:=P
 w:=w
 K:=K
 mg:=mg
 base:=base
 A:=A.deeper (PySem.W.envX qual scope s.heap.objs.size f cd (cellsFrom (s.heap.objs.size+1) scope.names []++cl))
 N:=N
 s₀:=s
 H₀:=Jl cl H
 env:=PySem.W.envX qual scope s.heap.objs.size f cd (cellsFrom (s.heap.objs.size+1) scope.names []++cl)
 outer:=outer
 stack:=PySem.W.envX qual scope s.heap.objs.size f cd (cellsFrom (s.heap.objs.size+1) scope.names []++cl)::outer
 ex:=[]
 calm:=true
 fn:=λx=>((cellsFrom (s.heap.objs.size+1) scope.names []).lookup x).isSome
 pn:=[]
 xe:=λ_ _=>False
theorem GJ{x:Str}{c:Addr}:∀{names:List (Str×NameKind)} {n:Nat} {bg:List (Str×Addr)},(cellsFrom n names bg).lookup x=some c->(∃k,(x,k)∈names/\k=.cell)\/bg.lookup x=some c
 |[],_,_,h=>.inr h
 | (name,kind)::r,n,bg,h=>by
  unfold cellsFrom at h
  split at h
  ·rename_i hk
   rcases GJ h with⟨k,h1,h2⟩|h
   ·exact .inl ⟨k,YZ _ h1,h2⟩
   ·rw[Z9]at h
    split at h
    ·rename_i hx
     exact .inl ⟨kind,by rw[beq_iff_eq.mp hx];exact Ye,beq_iff_eq.mp hk⟩
    ·exact .inr h
  ·rcases GJ h with⟨k,h1,h2⟩|h
   ·exact .inl ⟨k,YZ _ h1,h2⟩
   ·exact .inr h
theorem Ch{x:Str}{c:α}:∀{l:List (Str×α)},(l.map (·.1)).Nodup->(x,c)∈l->l.lookup x=some c
 |[],_,h=>by cases h
 | (k,v)::r,nd,h=>by
  rw[Z9];rcases Yf.mp h with e|h
  ·cases e;simp
  ·have:x≠k:=λz=>(ZZ.mp nd).1 (by rw[<-z];exact Yd.mpr ⟨(x,c),h,rfl⟩)
   rw[beq_eq_false_iff_ne.mpr this];exact Ch (ZZ.mp nd).2 h
theorem UE{P:Program}{w:World}{K:qJ}{mg:Str->Option Value}{base:Heap}{k:Nat}{f c':Addr}{q:Str}{body:Expr}{pm ctv:Value}{fns:List Str}
  (S:Li ps fns scope) (hcl:cl.map (·.1)=fns) (hnd:(BZ cl).Nodup) (len:∀vs H Q E,sp vs H Q E->vs.length=ps.length)
  (hbody:∀(A:Around) (outer:List Env) (s:Shared) (H:Hp) (vs:List V) (Q:VK) (E:XK),Br k (A.deeper (PySem.W.envX q scope s.heap.objs.size f (.ref c') (cellsFrom (s.heap.objs.size+1) scope.names []++cl)))->sp vs H Q E ->
   ∃Cv oc,H f=some (.frz (SB q params body scope cl pm c' ctv) Cu)/\H c'=some (.frz oc Cu)/\QW oc q/\DY cl Cv H /\
   ∃t,PE (XE P w K mg base (ps++fns) q scope f (.ref c') cl A outer s H) body t/\t ((vs++Cv).map some) (Jl cl H) (λv H'=>(∀b∈BZ cl,H' b=none)->Q v (Vv cl H H'))):
  Fz P w K mg base (JS P w) (k+1) f (PySem.W.kla_fn "<lambda>" q params body scope cl pm (.ref c') ctv) ps sp:=by
 refine⟨len,λA outer s H args us vs Q E hr e0 hb r hsp=>?_⟩;have hl:=len _ _ _ _ hsp;have KX:K.In s.heap:=e0.mod.kin.keeps λb o e=>(e0.bs b o e).1
 have lim:s.heap.NoLimit:=e0.mod.nolimit.keeps λb o e=>(e0.bs b o e).1
 obtain⟨Cv,oc,hf,hc',⟨cvs,ctk,hcd,hcv⟩,hck,t,ht,hq⟩:=hbody A outer s H vs Q E (hr.deeper _) hsp
 have hkind:∀y∈ps.zip us,scope.names.lookup y.1=some .local\/(scope.names.lookup y.1=some .cell/\((cellsFrom (s.heap.objs.size+1) scope.names []).lookup y.1).isSome=true):=λ⟨n,v⟩ hy=>by
  rcases S.par n (aJ hy).1 with q|q
  ·exact .inl q
  ·exact .inr ⟨q,a7 _ _ _ (.inl q)⟩
 have clin:∀{x:Str} {c:Addr},cl.lookup x=some c->x∈fns/\c∈BZ cl:=λ{x c} e=>by have m:=Y9 e;exact⟨by rw[<-hcl];exact Yd.mpr ⟨_,m,rfl⟩,Yd.mpr ⟨_,m,rfl⟩⟩
 have ndf:fns.Nodup:=(Ze.mp S.nd).2.1;have ndp:ps.Nodup:=(Ze.mp S.nd).1;have apart:∀x∈ps,x∉fns:=λx h1 h2=>(Ze.mp S.nd).2.2 x h1 x h2 rfl
 have old:∀b∈BZ cl,∃u o,o.data=.cell (some u)/\H b=some (.frz o Cu)/\s.heap.get? b=some o:=λb hb=>by obtain⟨u,o,h1,h2⟩:=hck.at hb;exact⟨u,o,h1,h2,(e0.hok b _ h2).1⟩
 refine PySem.W.kla_callFunE hr.depth (e0.hok f _ hf).1 rfl S.co S.gen rfl ⟨c',oc,cvs,ctk,rfl,(e0.hok c' _ hc').1,hcd,hcv⟩ (hb _ _ _ _ ?_);refine JH S.kind hkind (λy hy c _ z=>apart y.1 (aJ (a:=y.1) (b:=y.2) hy).1 (clin z).1) λs1 x=>?_;refine⟨lim.keeps x.toInCall.keep,PySem.W.kla_codeExpr ?_⟩;obtain⟨h1,tk,rfl,hk⟩:=x.done;obtain⟨own,hown⟩:∃own,own=cellsFrom (s.heap.objs.size+1) scope.names []:=⟨_,rfl⟩
 have ownk:∀{y:Str} {c:Addr},own.lookup y=some c->∃k,(y,k)∈scope.names/\k=.cell:=λ{y c} h=>by
  rw[hown]at h;rcases GJ h with z|z
  ·exact z
  ·cases z
 have noA:∀b:Addr,b∉(XE P w K mg base (ps++fns) q scope f (.ref c') cl A outer s H).ex:=λb z=>qG (show b∈([]:List Addr) from z) (by simp)
 have lk:∀{y:Str} {c:Addr},(own++cl).lookup y=some c->(own.lookup y=some c)\/(own.lookup y=none/\cl.lookup y=some c):=λ{y c} h=>by
  rw[CU]at h;cases e:own.lookup y with
  |some d=>rw[e]at h;left;exact h
  |none=>rw[e]at h;right;exact⟨rfl,h⟩
 have above:∀{y:Str} {c:Addr},own.lookup y=some c->s.heap.objs.size<c:=λ{y c} h=>x.above y c (by rw[hown]at h;exact Y9 h)
 have ltc:∀b∈BZ cl,b<s.heap.objs.size:=λb hb=>by obtain⟨_,_,_,_,e⟩:=old b hb;exact YQ e
 have I:AT (XE P w K mg base (ps++fns) q scope f (.ref c') cl A outer s H) [] ((vs++Cv).map some) (Jl cl H) {s with heap:=h1,toks:=tk}:=by
  refine⟨⟨e0.mod,S.kind,rfl,rfl,YL _,λy z c h1 h2=>?_,λy hy=>?_,λy c h h2=>?_,λ_=>hr.hd,Around.frames_deeper e0.frames,.inr ⟨rfl,rfl⟩,λb z=>qG z (noA b),λb o e=>⟨(e0.bs b o e).1,DC (e0.bs b o e).2⟩,e0.bsz,λb _ _=>noA b,λb z=>qG z (noA b),e0.funs,λb hb=>DC (e0.frf b hb)⟩,
   rfl,e0.bare,Un.kept hk,⟨_,x.toInCall.ns,λi y v h1 h2 h3=>?_⟩,λy c h=>?_,DC (e0.hok.fresh (Nat.le_refl _)),λy c h=>?_,λp hp=>qG (show p∈([]:List (Addr×Obj)) from hp) (by simp),?_,?_⟩
  ·have h1:(own++cl).lookup y=some c:=by rw[hown];exact h1
   have h2:(own++cl).lookup z=some c:=by rw[hown];exact h2
   rcases lk h1 with a|⟨_,a⟩<;>rcases lk h2 with b|⟨_,b⟩
   ·rw[hown]at a b;exact name_of_addr x.apart (Y9 a) (Y9 b)
   ·exact qG (Nat.lt_trans (above a) (ltc c (clin b).2)) (Yh _)
   ·exact qG (Nat.lt_trans (above b) (ltc c (clin a).2)) (Yh _)
   ·refine name_of_addr ?_ (Y9 a) (Y9 b);have z:=hnd;unfold BZ List.Nodup at z;rw[List.pairwise_map]at z;exact z
  ·have hy:scope.names.lookup y=some .cell\/scope.names.lookup y=some .free:=hy;show ∃c,(cellsFrom (s.heap.objs.size+1) scope.names []++cl).lookup y=some c;rw[CU];rcases hy with hy|hy
   ·obtain⟨c,e⟩:=FO (n:=s.heap.objs.size+1) hy;rw[e];exact⟨c,rfl⟩
   ·cases e:(cellsFrom (s.heap.objs.size+1) scope.names []).lookup y with
    |some c=>exact⟨c,rfl⟩
    |none =>
     have m:=S.all _ (Y9 hy) rfl;rw[<-hcl]at m;obtain⟨p,hp,rfl⟩:=Yd.mp m;exact⟨p.2,by rw[Option.none_or];exact Ch (by rw[hcl];exact ndf) hp⟩
  ·have h:((cellsFrom (s.heap.objs.size+1) scope.names []).lookup y).isSome=true:=h;have h2:(own++cl).lookup y=some c:=by rw[hown];exact h2
   rcases lk h2 with a|⟨a,_⟩
   ·exact ZQ (above a)
   ·rw[hown]at a;rw[a]at h;cases h
  ·have h1:(ps++fns)[i]?=some y:=h1;rw[YO]at h2;cases e:(vs++Cv)[i]? with
   |none=>rw[e]at h2;cases h2
   |some v' =>
    rw[e]at h2;cases h2
    by_cases hi:i<vs.length
    ·rw[ZH hi]at e;rw[ZH (by lia)]at h1;obtain⟨u,hu,rv⟩:=r.get e;refine⟨u,rv,?_⟩;rcases S.par y (YW h1) with k|k
     ·exact .inl ⟨k,F0 ndp h1 hu k⟩
     ·obtain⟨c,e⟩:=FO (n:=s.heap.objs.size+1) k;refine .inr ⟨.inl k,c,?_,?_⟩
      ·show (cellsFrom (s.heap.objs.size+1) scope.names []++cl).lookup y=some c;rw[CU,e];rfl
      ·have q:=x.cell y c e;rw[F1 ndp h1 hu (by show scope.names.lookup y≠_;rw[k];decide)]at q;exact q
    ·rw[Yw (by lia)]at e;rw[Yw (by lia)]at h1;obtain⟨p,hp,u,o,rv,hd,hH⟩:=Paired.at hck e;have hp1:p.1=y:=by rw[<-hcl,YO,<-hl,hp]at h1;exact Option.some.inj h1
     have hy:=S.fre y (YW h1);refine⟨u,rv,.inr ⟨.inr hy,p.2,?_,o,hk _ _ (e0.hok _ _ hH).1,hd⟩⟩;show (cellsFrom (s.heap.objs.size+1) scope.names []++cl).lookup y=some p.2;rw[CU];cases ee:(cellsFrom (s.heap.objs.size+1) scope.names []).lookup y with
     |none=>rw[Option.none_or];exact Ch (by rw[hcl];exact ndf) (by rw[<-hp1];exact YW hp)
     |some c =>
      obtain⟨kk,m1,m2⟩:=ownk (y:=y) (c:=c) (by rw[hown];exact ee);exact qG (YW h1) (S.own _ m1 m2)
  ·have h:(own++cl).lookup y=some c:=by rw[hown];exact h
   rcases lk h with a|⟨_,a⟩
   ·rw[hown]at a;exact⟨_,x.cell y c a⟩
   ·obtain⟨u,o,hd,_,ho⟩:=old c (clin a).2;exact⟨some u,o,hk _ _ ho,hd⟩
  ·have h:(own++cl).lookup y=some c:=by rw[hown];exact h
   rcases lk h with a|⟨_,a⟩
   ·exact DC (e0.hok.fresh (ZQ (above a)))
   ·exact IZ (clin a).2
  ·refine D9.unC (e0.hok.kept hk) λb hb u e=>?_;obtain⟨_,o,_,h2,_⟩:=old b hb;rw[h2]at e;cases e;exact⟨o,rfl⟩
  ·show ((vs++Cv).map some).length=(ps++fns).length;rw[YG,YN,YN,hl,<-hcl,YG,Paired.lens hck]
 refine wpAny_mono (ht [] _ _ _ _ I hq) (λu s' hs=>?_) λe s' hs=>hs.elim
 obtain⟨v,H',J,rv,qq⟩:=hs
 have frn:∀b∈D4 outer,b∉BZ cl:=λb hb z=>by obtain⟨_,_,_,h2,_⟩:=old b z;rw[e0.frf b hb]at h2;cases h2
 have nC:∀{b:Addr} {u:HO},H b=some u->(∀o,u≠.frz o Cu)->b∉BZ cl:=λh n=>hck.out h n
 have cz:∀b∈BZ cl,H' b=none:=λb hb=>by obtain⟨_,o,_,_,ho⟩:=old b hb;exact J.base.free b o ho (IZ hb) (noA b)
 refine⟨v,Vv cl H H',J.os,J.bare,⟨λb o e n h1 h2=>J.base.keep b o e (DC n) h1 h2,λb o e n h1 h2=>J.base.slot b o e (DC n) h1 h2,λb o e n h2=>?_,J.base.there,λb xs e=>?_,λb o u e=>?_,λb qs e=>?_⟩,λb u e=>?_,rv,qq cz⟩
 ·have hb:b∉BZ cl:=λz=>by
   obtain⟨_,_,_,h2,_⟩:=old b z;rw[n]at h2;cases h2
  rw[DS hb];exact J.base.free b o e (DC n) h2
 ·have hb:=nC e (by intro o z;cases z);rw[DS hb];exact J.base.tups b xs (by show Jl cl H b=_;rw[Bx hb];exact e)
 ·by_cases hb:b∈BZ cl
  ·rw[My hb];exact e
  ·rw[DS hb];exact J.base.frzs b o u (by show Jl cl H b=_;rw[Bx hb];exact e)
 ·have hb:=nC e (by intro o z;cases z);rw[DS hb];exact J.base.tbls b qs (by show Jl cl H b=_;rw[Bx hb];exact e)
 ·by_cases hb:b∈BZ cl
  ·rw[My hb]at e;obtain⟨_,o,_,h2,ho⟩:=old b hb;rw[h2]at e;cases e;refine IY (J.base.keep b o ho (IZ hb) (λz=>frn b z hb) (noA b))
  ·rw[DS hb]at e;refine (J.hok b u e).stay (λ_ _ _ q=>q) (λc q=>?_) λc xs q=>?_
   ·rw[DS (λz=>by rw[cz c z]at q;cases q)];exact q
   ·rw[DS (λz=>by rw[cz c z]at q;cases q)];exact q
structure UF(K:qJ)(x qual:Str)(st:Stmt)(f c Pt:Addr)(fd:FuncData):Prop where
 ex:∃(oc:Value) (od:Option Addr) (kV doc pm:Value) (an:Option Addr) (ct:Value) (osl:Array (Option Value)),
  fd=PySem.W.fnOf x qual (DI st) (Ba st) (AH st) .none kV doc pm an (.ref c) ct/\K.lookup f=some ⟨oc,od,.func fd,osl⟩/\PySem.W.codeIn K (.ref c) qual=true
 kp:PySem.W.keepIn K (.ref f)=true
 hd:PySem.W.codeHdIn K c Pt=true
section
variable{P:Program}{w:World}{K:qJ}{mg:Str->Option Value}{base:Heap}{x:Str}{f c Pt:Addr}{N:List Str}{k:Nat}
theorem Vw(D:∃fd,UF K x qual st f c Pt fd)(S:AK N ps (AH st))(bd:EI x qual st ps) (h:∀vs H Q E,sp vs H Q E->vs.length=ps.length /\
  ∀(A:Around) (outer:List Env) (s:Shared),Br k (A.deeper (envOfC qual (AH st) s.heap.objs.size f (.ref c))) ->
   ∃t,GS (D5 (JS P w) P w K mg base N qual (AH st) f (.ref c) A outer s H E) (Ba st) t/\t {nx:=λ_ H'=>Q .non H',rt:=Q} (Cm N vs) H):Al P w K mg base (k+1) f ps sp:=by
 obtain⟨fd,⟨oc,od,kV,doc,pm,an,ct,osl,rfl,lk,hcd⟩,kp,hd⟩:=D;exact⟨⟨_,Se lk hcd S (λvs H Q E q=>(h vs H Q E q).1) λA outer s H vs Q E hr q=>(h vs H Q E q).2 A outer s hr,.all (bd kV doc pm an (.ref c) ct)⟩,kp⟩
def Nu(K:qJ)(x:Str)(st:Stmt)(f c Pt:Addr):Prop:=(∃fd,UF K x x st f c Pt fd)/\PySem.W.nsIn K mainGlobals x=some (some (.ref f))
theorem SC{kV pm ct:Value}(a:PySem.W.nsIn K mainGlobals x=some (some (.ref f)))
  (l:K.lookup f=some ⟨oc,od,.func (PySem.W.fnOf x x (DI st) (Ba st) (AH st) .none kV doc pm an (.ref c) ct),osl⟩) (e:PySem.W.codeIn K (.ref c) x=true) (k:PySem.W.keepIn K (.ref f)=true) (h:PySem.W.codeHdIn K c Pt=true):Nu K x st f c Pt:=
 ⟨⟨_,⟨⟨oc,od,kV,doc,pm,an,ct,osl,rfl,l,e⟩,k,h⟩⟩,a⟩
end
section
variable{P:Addr}{q:Str}
theorem Co.at(t:Co pos q P H):∃ps,H P=some (.tbl ps):=by obtain⟨ps,h,_⟩:=t;exact⟨ps,h⟩
theorem DQ.get(e:DQ P H H')(t:Co pos q P H){b:Addr}(h:H b=some o)(n:∀ps,o≠.tbl ps):H' b=some o:=by obtain⟨ps,hp⟩:=t.at;exact e b o (λz=>by rw[z,hp]at h;cases h;exact n _ rfl) h
end
theorem Oq{K:qJ}{q:Str}{body:Expr}{pm ct:Value}
  (h:∀us:List Value,us.length=ps.length->bindArgs (PySem.W.kla_fn name q params body scope cl pm bh ct) ⟨us,[]⟩=pure (ps.zip us)):GU K (PySem.W.kla_fn name q params body scope cl pm bh ct) ps []:=.all h
theorem Nv{K:qJ}:∀{ts:List Addr},(∀P∈ts,∃c,PySem.W.codeHdIn K c P=true)->(∀P∈ts,K.lookup P=none)->∃cts:List (Addr×Addr),cts.map (·.2)=ts/\QV K cts
 |[],_,_=>⟨[],rfl,λq hq=>qG hq Yv⟩
 |P::ts,h1,h2=>by
  obtain⟨c,hc⟩:=h1 P Ye;obtain⟨cts,e,h⟩:=Nv (λP hP=>h1 P (YZ _ hP)) λP hP=>h2 P (YZ _ hP)
  refine⟨(c,P)::cts,by rw[ZV,e],λq hq=>?_⟩;rcases Yf.mp hq with z|z
  ·rw[z];exact⟨hc,h2 P Ye⟩
  ·exact h q z
inductive KZ(K:qJ)(ts:List Addr)(vs:List V)(H:Hp)(Q:VK)(z3_:XK):Prop
 |m (a:Addr) (ns:List Int):vs=[.ref a]->Ai K H a (ns.map V.int)->ns.length<=63->(∀P∈ts,H P=some (.tbl #[]))->(∀H',Q (.bl true) H')->KZ K ts vs H Q z3_
theorem Os{l:PySem.W.OpenLaw}{n k:Nat}{q:Program}{loose:List Str}{XP:(Str->Option Value)->Heap->Prop}{YP:World->Heap->Prop}{d:DefRec}{K:Params->qJ}{x:Str}{ts:List Addr}
  (hn:l.most=some 63) (hdf:d.params.defaults=[]) (hr:Br k callerA)
  (hY:∀(w:World) (h:Heap),YP w h->(K w.params).In h/\∀P∈ts,h.get? P=some (PySem.W.tabObj #[])) (hT:∀w:World,∀P∈ts,(K w.params).lookup P=none)
  (F:∀(w:World) (mg:Str->Option Value) (fa:Addr) (h:Heap),(K w.params).In h->h.Ns mainGlobals mg->mg d.name=some (.ref fa) ->
   (∀P∈ts,∃c,PySem.W.codeHdIn (K w.params) c P=true)/\∃fd:FuncData,(∀(s:Shared) (u:Value),BindsTo s fd ⟨[u],[]⟩ [(x,u)]) /\
    ∀base:Heap,(K w.params).In base->base.Ns mainGlobals mg->IX mg base->Fz l.prog w (K w.params) mg base (JS l.prog w) k fa fd [x] (KZ (K w.params) ts)):
  PySem.W.WalkO q loose XP YP l.row.toRowW d [] (λf vs=>PySem.call f vs):=by
 refine Att.attach_call hn hdf λw s₀ s₁ mg mb fa o pm cd doc a vs ns G Y ho hd hcd hmg hobj hints hlen hg=>?_;obtain⟨KX,TX⟩:=hY w _ Y;obtain⟨hc,fd,hb,hF⟩:=F w mg fa _ KX G.T.g hmg;obtain⟨cts,rfl,hT'⟩:=Nv hc (hT w);exact Op KX G.T.g G.T.b G.T.builtins G.T.nolimit G.T.bmain hg hT' (λq hq=>TX _ (Yd.mpr ⟨q,hq,rfl⟩)) hobj hints (Yy hlen (by decide)) hr hF hb (λH hO hS=>⟨a,ns,rfl,hS,hlen,hO.2,λ_=>rfl⟩) λH e s' ⟨_,_,_,_,_,_,_,_,z⟩=>z
theorem UG{l:List α}(h:2<=l.length):∃x y r,l=x::y::r:=by
 rcases l with _|⟨x,_|⟨y,l⟩⟩
 ·exact qG h (by rw[aw];decide)
 ·exact qG h (by rw[Y5];decide)
 ·exact⟨_,_,_,rfl⟩
theorem Dy:∀{vs:List Value} {ns:List Int},IntsAre vs ns->Ax (ns.map V.int) vs
 |_,_,.nil=>.nil
 |_,_,.cons n t h=>.cons ⟨t,rfl⟩ (Dy h)
theorem QZ{prog:Program}{w:World}{A:Around}{s:Shared}{a₀:Array Keyed}(h:∀x∈a₀.toList,∃n t,x.1=.int n t):IS prog w A s oneType' a₀:=λx hx y hy=>by obtain⟨n,t,e⟩:=h x hx;obtain⟨m,u,e2⟩:=h y hy;refine⟨decide (n<m),λE Q q=>?_⟩;rw[keyLt'_oneType,e,e2];exact oneLt_int q
theorem JI(a f:Addr):Builtin.«list.sort» ⟨[.ref a],[(Str.ofString "key",.ref f)]⟩=(do
  let items <-Builtin.List.listItems (.ref a)
  Builtin.List.listUpdate (.ref a) λ_=>#[]
  let before <-seqEpoch a
  let held <-newTuple items.toList
  let keyStore <-newList []
  holding [held,keyStore] do
   rule "list.sort.key"
   for x in items do
    match <-(call (.ref f) [x]).attempt with
    |.ok k=>Builtin.List.listUpdate keyStore (·.push k)
    |.error e =>
     rule "list.sort.key-raised"
     let made <-Builtin.List.listItems keyStore
     Builtin.List.listUpdate keyStore λ_=>#[]
     letGo made.toList.reverse [e]
     Builtin.List.listUpdate (.ref a) λ_=>items;throw e
   let keys <-Builtin.List.listItems keyStore
   let kind <-if items.size<2 then pure general' else keyKind' keys
   let ((),s) <-(if items.size<2 then pure () else sortRuns').run (SortSt.mk' kind (keys.zip items) #[] 7 none)
   let sorted:=(arrOf s).map (·.2)
   Builtin.List.listUpdate keyStore λ_=>#[]
   letGo ((arrOf s).map (·.1)).toList (failedOf s).toList
   let touched:=(<-seqEpoch a) != before
   Builtin.List.listUpdate (.ref a) λ_=>sorted
   if let some e:=failedOf s then rule "list.sort.comparison-raised";throw e
   if touched then rule "list.sort.modified";raiseError "ValueError" "list modified during sort"
   ret .none):=by
 first|rfl|(fail "not by rfl")
theorem Gk(a v:Value):argsOk "sorted" ⟨[a],[(Str.ofString "key",v)]⟩:=by unfold argsOk;kernel_rfl
theorem FF(a v:Value):argsOk "list.sort" ⟨[a],[(Str.ofString "key",v)]⟩:=by unfold argsOk;kernel_rfl
theorem AT.adopt{X:Cx}{s:Shared}(I:AT X ad σ H s)(f:C3 X ad H a)(hx:a∉X.ex)(hn:X.s₀.heap.objs.size<=a)(new:Ay X.prog X.w (Ac H a o) s.heap a o):AT X ad σ (Ac H a o) s:=by
 obtain⟨f0,f1,f2,f3,f4,f5⟩:=f;have ne:∀{b:Addr} {u:HO},H b=some u->b≠a:=λ{b u} e z=>by rw[z,f0]at e;cases e
 have old:∀{b:Addr} {u:Obj},X.s₀.heap.get? b=some u->b≠a:=λ{b u} e z=>qG (YS (YQ e) hn) (by rw[z];exact Yh _)
 refine⟨I.ok,I.os,I.bare,⟨I.base.keep,I.base.slot,λb u e n h=>?_,I.base.there,λb xs e=>?_,λb u v e=>?_,λb ps e=>?_⟩,I.loc,I.cell,?_,λx c e=>?_,λp hp=>?_,λb u e=>?_,I.len⟩
 ·rw[AN (old e)];exact I.base.free b u e n h
 ·have z:=I.base.tups b xs e;rw[AN (ne z)];exact z
 ·have z:=I.base.frzs b u v e;rw[AN (ne z)];exact z
 ·obtain⟨more,z⟩:=I.base.tbls b ps e;exact⟨more,by rw[AN (ne z)];exact z⟩
 ·rw[AN (Ne.symm f1)];exact I.free
 ·rw[AN (f4 x c e)];exact I.freeC x c e
 ·obtain⟨p1,p2,p3⟩:=I.pin p hp;exact⟨p1,by rw[AN (f5 p hp)];exact p2,p3⟩
 ·by_cases z:b=a
  ·subst z;rw[AE]at e;cases e;exact new
  ·rw[AN z]at e;exact (I.hok b u e).stay (λ_ _ _ q=>q) (λc q=>by rw[AN (ne q)];exact q) λc xs q=>by rw[AN (ne q)];exact q
theorem Ot{X:Cx}{k:Nat}{f:Addr}{is:List Nat}{Cv:List V}{s:Shared}{A:Around}{vs:List V}{Q':VK}{R:Value->Shared->Prop}
  (F:Fz X.prog X.w X.K X.mg X.base (JS X.prog X.w) k f fd ps sp) (hb:GU X.K fd ps []) (hr:Br k A) (hA:A.frames=X.A.frames)
  (hcl:Paired (λ(i:Nat) (q:Str×Addr)=>X.N[i]?=some q.1/\X.env.kindOf q.1=some .cell/\X.env.cells.lookup q.1=some q.2/\X.fn q.1=true) is cl) (hAt:At σ is Cv) (I:AT X ad σ H s) (r:Ax vs us)
  (q:∀HC,AI H HC->(∀b∈BZ cl,H b=none)->DY cl Cv HC->(∀b,b∉BZ cl->HC b=H b)->sp vs HC Q' E0)
  (hR:∀v u H2 s2,A8 v u->AT X ad σ (Jl cl H2) s2->Q' v H2->R u s2):wpAny (model X.prog X.w) A (call (.ref f) us) R E s:=by
 have each:∀{is:List Nat} {cl:List (Str×Addr)} {Cv:List V},Paired (λ(i:Nat) (q:Str×Addr)=>X.N[i]?=some q.1/\X.env.kindOf q.1=some .cell/\X.env.cells.lookup q.1=some q.2/\X.fn q.1=true) is cl->At σ is Cv ->
   Paired (λ(p:Str×Addr) (v:V)=>∃u o,A8 v u/\o.data=.cell (some u)/\s.heap.get? p.2=some o/\X.s₀.heap.objs.size<=p.2/\H p.2=none/\X.env.locals≠p.2) cl Cv:=by
  intro is cl Cv h1 h2
  induction h1 generalizing Cv with
  |nil=>cases h2;exact .nil
  |cons a _ ih =>
   cases h2 with
   |cons b h2 =>
    refine .cons ?_ (ih h2);obtain⟨n1,n2,n3,n4⟩:=a;obtain⟨m,hn,hl⟩:=I.loc;obtain⟨u,ru,l⟩:=hl _ _ _ n1 b (.inr (.inl n2));rcases l with⟨hk,_⟩|⟨_,c,hc,o,ho,hd⟩
    ·rw[n2]at hk;cases hk
    ·rw[n3]at hc;cases hc;exact⟨u,o,ru,hd,ho,I.ok.cab _ _ n4 n3,I.freeC _ _ n3,(I.cne _ _ n3).symm⟩
 have cells:=each hcl hAt
 have cin:∀b∈BZ cl,∃u o,o.data=.cell (some u)/\s.heap.get? b=some o/\X.s₀.heap.objs.size<=b/\H b=none/\X.env.locals≠b:=λb hb=>by obtain⟨p,hp,rfl⟩:=Yd.mp hb;obtain⟨v,u,o,_,h1,h2,h3,h4,h5⟩:=Paired.left cells p hp;exact⟨u,o,h1,h2,h3,h4,h5⟩
 obtain⟨HC,hH⟩:∃HC:Hp,HC=λb=>if b∈BZ cl then (s.heap.get? b).map (λo=>HO.frz o Cu) else H b:=⟨_,rfl⟩
 have hin:∀b∈BZ cl,∀o,s.heap.get? b=some o->HC b=some (.frz o Cu):=λb hb o e=>by rw[hH];show (if _ then _ else _)=_;rw[qF hb,e];rfl
 have hout:∀b,b∉BZ cl->HC b=H b:=λb hb=>by rw[hH];exact qE hb
 have sm:AI H HC:=λb o q=>by rw[hout b (λz=>by obtain⟨_,_,_,_,_,n,_⟩:=cin b z;rw[n]at q;cases q)];exact q
 have ck:DY cl Cv HC:=by
  have go:∀{cl':List (Str×Addr)} {fv:List V},Paired (λ(p:Str×Addr) (v:V)=>∃u o,A8 v u/\o.data=.cell (some u)/\s.heap.get? p.2=some o/\X.s₀.heap.objs.size<=p.2/\H p.2=none/\X.env.locals≠p.2) cl' fv->(∀q∈cl',q.2∈BZ cl)->DY cl' fv HC:=by
   intro cl' fv h1 h2
   induction h1 with
   |nil=>exact .nil
   |cons a _ ih =>
    obtain⟨u,o,r1,r2,r3,_⟩:=a;exact .cons ⟨u,o,r1,r2,hin _ (h2 _ Ye) o r3⟩ (ih λq hq=>h2 q (YZ _ hq))
  exact go cells λq hq=>Yd.mpr ⟨q,hq,rfl⟩
 have q1:=q HC sm (λb hb=>by obtain⟨_,_,_,_,_,n,_⟩:=cin b hb;exact n) ck hout;have hl:us.length=ps.length:=by rw[<-r.length];exact F.len _ _ _ _ q1
 have bd:=hb s us I.kIn (by rw[Yt];exact hl);rw[Yt]at bd
 have stk:∀b∈D4 X.stack,b∉BZ cl:=λb hb z=>by
  obtain⟨_,o,_,ho,hs,_,hL⟩:=cin b z;rcases Yf.mp (I.stkSub b hb) with y|y
  ·exact hL y.symm
  ·obtain⟨_,o',ho',_⟩:=I.ok.funs.mem y;exact qG (YS (YQ ho') hs) (Yh _)
 have hok1:D9 X.prog X.w HC s.heap:=λb u e=>by
  by_cases hb:b∈BZ cl
  ·obtain⟨_,o,_,ho,_⟩:=cin b hb;rw[hin b hb o ho]at e;cases e;exact IY ho
  ·rw[hout b hb]at e;exact (I.hok b u e).stay (λ_ _ _ q=>q) (λc q=>sm _ _ q) λc xs q=>sm _ _ q
 have e0:O9 X.prog X.w X.K X.mg X.base A X.stack s HC:=by
  have e:=I.env0;refine⟨hA.trans e.frames,e.mod,λb o q=>⟨(e.bs b o q).1,?_⟩,e.bsz,e.funs,λb hb=>?_,hok1,e.bare⟩
  ·rw[hout b (λz=>by
    obtain⟨_,_,_,_,hs,_⟩:=cin b z;exact qG (YS (YQ q) (Yy I.ok.bsz hs)) (Yh _))]
   exact (e.bs b o q).2
  ·rw[hout b (stk b hb)];exact e.frf b hb
 refine wpAny_call (codeAny_mono (F.run A X.stack s HC ⟨us,[]⟩ us vs _ E0 hr e0 bd r q1) λrs s2 hq=>?_);rcases rs with er|fl
 ·obtain⟨_,_,_,_,_,_,_,_,z⟩:=hq;exact z.elim
 ·cases fl with
  |next=>exact False.elim hq
  |brk=>exact False.elim hq
  |cont=>exact False.elim hq
  |ret u =>
   obtain⟨v,H2,os,bare,un,hok,rv,q2⟩:=hq
   have fz:∀b∈BZ cl,∃o,s.heap.get? b=some o/\H2 b=some (.frz o Cu)/\s2.heap.get? b=some o:=λb hb=>by obtain⟨_,o,_,ho,_⟩:=cin b hb;have z:=un.frzs b o _ (hin b hb o ho);exact⟨o,ho,z,(hok b _ z).1⟩
   have nC:∀{b:Addr} {o:HO},H b=some o->b∉BZ cl:=λ{b o} e z=>by obtain⟨_,_,_,_,_,n,_⟩:=cin b z;rw[n]at e;cases e
   have un':Un (D4 X.stack) [] H (Jl cl H2) s.heap s2.heap:=by
    refine⟨λb o e n h1 h2=>?_,λb o e n h1 h2=>?_,λb o e n h2=>?_,un.there,λb xs e=>?_,λb o u e=>?_,λb qs e=>?_⟩
    ·by_cases hb:b∈BZ cl
     ·obtain⟨o',e1,_,e2⟩:=fz b hb;rw[e]at e1;cases e1;exact e2
     ·exact un.keep b o e (by rw[hout b hb];exact n) h1 h2
    ·exact un.slot b o e (by rw[hout b (stk b h1)];exact n) h1 h2
    ·by_cases hb:b∈BZ cl
     ·exact IZ hb
     ·rw[Bx hb];exact un.free b o e (by rw[hout b hb];exact n) h2
    ·rw[Bx (nC e)];exact un.tups b xs (sm _ _ e)
    ·rw[Bx (nC e)];exact un.frzs b o u (sm _ _ e)
    ·rw[Bx (nC e)];exact un.tbls b qs (sm _ _ e)
   have hok':D9 X.prog X.w (Jl cl H2) s2.heap:=hok.unC λb hb u e=>by obtain⟨o,_,z,_⟩:=fz b hb;rw[z]at e;cases e;exact⟨o,rfl⟩
   exact hR v u H2 s2 rv (I.call' (ch:=[]) os un' hok' bare (λb z=>qG z (by simp))) q2
def Vx(P:Program)(w:World)(K:qJ)(mg:Str->Option Value)(base:Heap)(k:Nat)(f:Addr)(cl:List (Str×Addr))(Cv:List V)(κ:Nat->Int)(n:Nat)(H:Hp):Prop:=∃fd ps sp,Fz P w K mg base (JS P w) k f fd ps sp/\GU K fd ps [] /\
 ∀x:Nat,x<n->∀(HA HC:Hp) (Q:VK),AI H HA->AI HA HC->DY cl Cv HC->(∀b,b∉BZ cl->HC b=HA b)->(∀b∈BZ cl,HA b=none)->(∀HE,AI HC HE->Q (.int (κ x)) HE)->sp [.int (x:Int)] HC Q E0
variable{κ:Nat->Int}
theorem Ou{P:Program}{w:World}{K:qJ}{mg:Str->Option Value}{base:Heap}{k:Nat}{f:Addr}{q:Str}{body:Expr}{n:Nat}{Cv:List V}{x1:Str}{fns:List Str}
  (la:TB q params body scope cl f H) (S:Li [x1] fns scope) (hcl:cl.map (·.1)=fns) (hnd:(BZ cl).Nodup) (hbind:∀(pm bh ct:Value) (us:List Value),us.length=1->bindArgs (PySem.W.kla_fn "<lambda>" q params body scope cl pm bh ct) ⟨us,[]⟩=pure ([x1].zip us))
  (hbody:∀(c':Addr) (A:Around) (outer:List Env) (s:Shared) (HC:Hp) (x:Nat),Br k (A.deeper (PySem.W.envX q scope s.heap.objs.size f (.ref c') (cellsFrom (s.heap.objs.size+1) scope.names []++cl)))->x<n->AI H (Jl cl HC) ->
   ∃t,PE (XE P w K mg base (x1::fns) q scope f (.ref c') cl A outer s HC) body t/\∀Q:VK,(∀H',AI (Jl cl HC) H'->Q (.int (κ x)) H')->t (some (.int (x:Int))::Cv.map some) (Jl cl HC) Q):
  Vx P w K mg base (k+1) f cl Cv κ n H:=by
 obtain⟨pm,c',ctv,oc,l1,l2,l3⟩:=la;refine⟨_,[x1],λvs HC QA _=>∃(x:Nat) (HA:Hp),vs=[.int (x:Int)]/\x<n/\AI H HA/\AI HA HC/\DY cl Cv HC/\(∀b,b∉BZ cl->HC b=HA b)/\(∀b∈BZ cl,HA b=none)/\∀HE,AI HC HE->QA (.int (κ x)) HE,UE (q:=q) (params:=params) (body:=body) (scope:=scope) (cl:=cl) (fns:=fns) (pm:=pm) (ctv:=ctv) (c':=c') S hcl hnd ?_ ?_,Oq (hbind pm (.ref c') ctv),λx hx HA HC QA e1 e2 c o z q=>⟨x,HA,rfl,hx,e1,e2,c,o,z,q⟩⟩
 ·rintro vs HA QA _ ⟨x,_,rfl,_⟩;rfl
 ·rintro A outer s HC vs QA EA hr ⟨x,HA,rfl,hx,e1,e2,ck,ho,hz,qA⟩
  obtain⟨t,ht,hq⟩:=hbody c' A outer s HC x hr hx λb o h=>by
   have y:=e1 _ _ h;have nb:b∉BZ cl:=λz=>by rw[hz b z]at y;cases y
   rw[Bx nb,ho b nb];exact y
  exact⟨Cv,oc,e2 _ _ (e1 _ _ l1),e2 _ _ (e1 _ _ l2),l3,ck,t,ht,hq _ λH' e cz=>qA _ (QY e)⟩
theorem Ic{h:Heap}{xs:Array Value}{n:Nat}(ho:h.get? a=some (seqObj "list" xs n))(g:Array Value->Array Value):∃e,(h.update a (Obj.mapSeq g)).get? a=some (seqObj "list" (g xs) e):=⟨_,get?_update_seq ho g⟩
section
variable{X:Cx}{s:Shared}{A:Around}
theorem UH{f L ks:Addr}{oL:Obj}{n:Nat}{R:PUnit->Shared->Prop}{e:Nat}(I:AT X ((L,oL)::ad) σ H s)(hk:C3 X ((L,oL)::ad) H ks)(hks:s.heap.get? ks=some (seqObj "list" #[] e))(hv:IntsAre vs (Es n))(hn:n<=1000)
  (hcall:∀(pins':List (Addr×Obj)) (H':Hp) (s':Shared) (x:Nat) (t:Tok) (R':Value->Shared->Prop),AT X pins' σ H' s'->AI H H'->x<n->(∀u H2 s2,A8 (.int (κ x)) u->AT X pins' σ H2 s2->AI H H2->R' u s2)->wpAny (model X.prog X.w) A (call (.ref f) [.int (x:Int) t]) R' (λ_ _=>False) s')
  (hR:∀H' s' keys e',AT X ((L,oL)::ad) σ H' s'->AI H H'->C3 X ((L,oL)::ad) H' ks->s'.heap.get? ks=some (seqObj "list" keys e')->IntsAre keys.toList ((List.range n).map κ)->R ⟨⟩ s'):
  wpAny (model X.prog X.w) A (forIn vs PUnit.unit λx _=>do
    match <-(call (.ref f) [x]).attempt with
    |.ok k=>Builtin.List.listUpdate (.ref ks) (·.push k)
    |.error e =>
     rule "list.sort.key-raised"
     let made <-Builtin.List.listItems (.ref ks)
     Builtin.List.listUpdate (.ref ks) λ_=>#[]
     letGo made.toList.reverse [e]
     Builtin.List.listUpdate (.ref L) λ_=>vs.toArray;throw e
    pure (ForInStep.yield PUnit.unit)) R E s:=by
 have vl:vs.length=n:=by have:=hv.length;rw[this,CI]
 refine wpAny_forIn_list _ (λrest _ s'=>∃(i:Nat) (H':Hp) (keys:Array Value) (e':Nat),rest=vs.drop i/\i<=n/\AT X ((L,oL)::ad) σ H' s'/\AI H H'/\C3 X ((L,oL)::ad) H' ks/\s'.heap.get? ks=some (seqObj "list" keys e')/\IntsAre keys.toList ((List.range i).map κ)) _ ?_ ?_ vs PUnit.unit ⟨0,H,#[],e,rfl,ZT _,I,AI.refl _,hk,hks,.nil⟩
 ·rintro x rest _ s' ⟨i,H',keys,e',hr,hi,I',hS,hk',hg,hK⟩;have hlt:i<vs.length:=by apply Decidable.byContradiction;intro z;rw[List.drop_of_length_le (by lia)]at hr;cases hr
  obtain⟨t,ht⟩:∃t,vs[i]?=some (.int (i:Int) t):=by obtain⟨u,hu,t,rt⟩:=(Dy hv).get (i:=i) (x:=.int (i:Int)) (by rw[YO,HR (by lia)];rfl);exact⟨t,by rw[hu,rt]⟩
  have hx:x=.int (i:Int) t/\rest=vs.drop (i+1):=by
   rw[ZG hlt]at hr
   injection hr with h1 h2
   rw[YI hlt]at ht;exact⟨h1.trans (Option.some.inj ht),h2⟩
  obtain⟨rfl,hr2⟩:=hx;obtain⟨f0,f1,f2,f3,f4,f5⟩:=hk'
  have Ip:AT X ((ks,seqObj "list" keys e')::(L,oL)::ad) σ H' s':=I'.pins_of λp hp=>by
   rcases Yf.mp hp with z|z
   ·rw[z];exact⟨hg,f0,f1,f2,λv h=>by cases h⟩
   ·exact I'.pin p (YU _ z)
  refine qC (wpAny_attempt (wpAny_mono (hcall _ H' s' i t (λu s2=>A8 (.int (κ i)) u/\∃H2,AT X ((ks,seqObj "list" keys e')::(L,oL)::ad) σ H2 s2/\AI H H2) Ip hS (by lia) λu H2 s2 ru I2 hS2=>⟨ru,H2,I2,hS2⟩) ?_ λ_ _ z=>z.elim));rintro u s2 ⟨⟨t2,rfl⟩,H2,I2,hS2⟩;obtain⟨g2,n2,l2,x2,_⟩:=I2.pin _ (YU _ Ye);have I2':AT X ((L,oL)::ad) σ H2 s2:=I2.pins_of λp hp=>I2.pin p (YU _ (YZ _ hp))
  have kl:keys.size=i:=by have z:=hK.length;rw[List.length_map,List.length_range]at z;simpa using z
  refine qC (listUpdate_at g2 rfl (qD ?_) (by rw[kl,sizeLine_eq];lia) (by rw[Array.size_push,kl,sizeLine_eq];lia));obtain⟨e3,g3⟩:=Ic g2 (λxs=>xs.push (.int (κ i) t2));refine⟨i+1,H2,_,e3,hr2,by lia,I2'.turned (t':=s2.toks) (λb o hb q=>by rw[Zl _ _ _ _ hb];exact q) n2 l2 f3 f4 f5,hS2,⟨n2,l2,x2,f3,f4,f5⟩,g3,?_⟩;rw[Array.toList_push,Y4,YV];exact hK.append (.cons _ _ .nil)
 ·rintro _ s' ⟨i,H',keys,e',hr,hi,I',hS,hk',hg,hK⟩;have:i=n:=by have z:=congrArg List.length hr;rw[Yi,aw]at z;lia
  subst this;exact hR H' s' keys e' I' hS hk' hg hK
theorem Lj{f L:Addr}{n:Nat}{P:Fin->Shared->Prop}{e:Nat}(I:AT X ad σ H s)(hL:C3 X ad H L)(hg:s.heap.get? L=some (seqObj "list" vs.toArray e))(hv:IntsAre vs (Es n))(hn:n<=1000)
  (hcall:∀(pins':List (Addr×Obj)) (H':Hp) (s':Shared) (x:Nat) (t:Tok) (R':Value->Shared->Prop),AT X pins' σ H' s'->AI H H'->x<n->(∀u H2 s2,A8 (.int (κ x)) u->AT X pins' σ H2 s2->AI H H2->R' u s2)->wpAny (model X.prog X.w) A (call (.ref f) [.int (x:Int) t]) R' (λ_ _=>False) s')
  (hP:∀H' s' out ns e',AT X ad σ H' s'->AI H H'->C3 X ad H' L->s'.heap.get? L=some (seqObj "list" out e')->IntsAre out.toList ns->ns.Perm (Es n)->P (.done (.ret .none)) s'):
  wpAny (model X.prog X.w) A (Builtin.«list.sort» ⟨[.ref L],[(Str.ofString "key",.ref f)]⟩) P E s:=by
 have vl:vs.length=n:=by have:=hv.length;rw[this,CI]
 rw[JI];obtain⟨e1,g1⟩:=Ic hg (λ_=>#[]);refine qC (listItems_at hg rfl (qC (listUpdate_at hg rfl (qC (seqEpoch_at g1 rfl (qC (wpAny_newTuple (qC (wpAny_newList (wpAny_holding ?_))) (by rw[vl,sizeLine_eq];lia))))) (by rw[Yn,vl,sizeLine_eq];lia) (by rw[sizeLine_eq];decide))));obtain⟨f0,f1,f2,f3,f4,f5⟩:=hL;have lt:=YQ hg;obtain⟨h3,hh3⟩:∃h3,h3=((s.heap.update L (Obj.mapSeq λ_=>#[])).push (seqObj "tuple" vs.toArray 0)).push (seqObj "list" #[] 0):=⟨_,rfl⟩;obtain⟨ks,hks⟩:∃ks,ks=((s.heap.update L (Obj.mapSeq λ_=>#[])).push (seqObj "tuple" vs.toArray 0)).objs.size:=⟨_,rfl⟩;have gL:h3.get? L=some (seqObj "list" #[] e1):=by rw[hh3];exact YK _ (YK _ g1)
 have gk:h3.get? ks=some (seqObj "list" #[] 0):=by rw[hh3,hks];exact YX _ rfl
 have sk:s.heap.objs.size<=ks:=by rw[hks,size_push',Heap.size_update];exact Z6 _
 have ko:∀b o,b≠L->s.heap.get? b=some o->h3.get? b=some o:=λb o hb q=>by rw[hh3];exact YK _ (YK _ (by rw[Zl _ _ _ _ hb];exact q))
 have I3:AT X ad σ H {s with heap:=h3}:=I.turned (t':=s.toks) ko f0 f1 f3 f4 f5
 have I4:AT X ((L,seqObj "list" #[] e1)::ad) σ H {s with heap:=h3}:=I3.pins_of λp hp=>by
  rcases Yf.mp hp with z|z
  ·rw[z];exact⟨gL,f0,f1,f2,λv h=>by cases h⟩
  ·exact I3.pin p (YU _ z)
 have fk:C3 X ((L,seqObj "list" #[] e1)::ad) H ks:=by
  obtain⟨k0,k1,k2,k3,k4,k5⟩:=I.fpOk sk (I.hok.fresh sk);refine⟨k0,k1,k2,k3,k4,λp hp=>?_⟩;rcases YR.mp hp with z|z
  ·exact k5 p (Z3 _ z)
  ·rcases Yf.mp z with y|y
   ·rw[y];exact Yp (YS lt sk)
   ·exact k5 p (YU _ y)
 have kne:ks≠L:=λz=>fk.2.2.2.2.2 _ (YU _ Ye) z.symm
 show wpAny (model X.prog X.w) A _ P E {s with heap:=((s.heap.update L (Obj.mapSeq λ_=>#[])).push (seqObj "tuple" vs.toArray 0)).push (seqObj "list" #[] 0)};rw[<-hh3,<-hks];refine qC (wpAny_rule (qC ?_));rw[<-Array.forIn_toList];refine UH I4 fk gk hv hn hcall λH5 s5 keys e5 I5 hS5 fk5 gk5 hK=>?_;have kl:keys.size=n:=by have z:=hK.length;rw[List.length_map,List.length_range]at z;simpa using z
 obtain⟨gL5,nL5,lL5,xL5,_⟩:=I5.pin _ (YU _ Ye);have I5':AT X ad σ H5 s5:=I5.pins_of λp hp=>I5.pin p (YU _ (YZ _ hp))
 obtain⟨n5,l5,x5,y5,c5,p5⟩:=fk5;refine qC (listItems_at gk5 rfl ?_)
 have fin:∀(st:SortSt),(arrOf st).toList.Perm (keys.zip vs.toArray).toList->failedOf st=none->wpAny (model X.prog X.w) A (do
   Builtin.List.listUpdate (.ref ks) λ_=>#[]
   letGo ((arrOf st).map (·.1)).toList (failedOf st).toList
   let touched:=(<-seqEpoch L) != e1
   Builtin.List.listUpdate (.ref L) λ_=>(arrOf st).map (·.2)
   if let some e:=failedOf st then rule "list.sort.comparison-raised";throw e
   if touched then rule "list.sort.modified";raiseError "ValueError" "list modified during sort"
   ret .none) P E s5:=λst hp hf=>by
  have pl:((arrOf st).map (·.2)).toList.Perm vs:=by have z:=hp.map (·.2);rw[Array.toList_zip,List.map_snd_zip (by simp[kl,vl])]at z;rw[Array.toList_map];exact z
  have al:((arrOf st).map (·.2)).size=n:=by have z:=pl.length_eq;rw[vl]at z;simpa using z
  refine qC (listUpdate_at gk5 rfl (qC (wpAny_letGo ?_)) (by rw[kl,sizeLine_eq];lia) (by rw[sizeLine_eq];decide));have I6:AT X ad σ H5 {s5 with heap:=s5.heap.update ks (Obj.mapSeq λ_=>#[])}:=I5'.turned (t':=s5.toks) (λb o hb q=>by rw[Zl _ _ _ _ hb];exact q) n5 l5 y5 c5 λp hp=>p5 p ((YR.mp hp).elim (Z3 _) λz=>YU _ (YZ _ z))
  have gL6:(s5.heap.update ks (Obj.mapSeq λ_=>#[])).get? L=some (seqObj "list" #[] e1):=by rw[Zl _ _ _ _ (Ne.symm kne)];exact gL5
  refine qC (seqEpoch_at gL6 rfl (qC (listUpdate_at gL6 rfl ?_ (by rw[sizeLine_eq];decide) (by rw[al,sizeLine_eq];lia))));rw[hf];simp only[bne_self_eq_false,Bool.false_eq_true,if_false];obtain⟨e7,g7⟩:=Ic gL6 (λ_=>(arrOf st).map (·.2));have I7:AT X ad σ H5 {s5 with heap:=(s5.heap.update ks (Obj.mapSeq λ_=>#[])).update L (Obj.mapSeq λ_=>(arrOf st).map (·.2))}:=I6.turned (t':=s5.toks) (λb o hb q=>by rw[Zl _ _ _ _ hb];exact q) nL5 f1 f3 f4 f5
  obtain⟨ns,hns,pn⟩:∃ns,IntsAre ((arrOf st).map (·.2)).toList ns/\ns.Perm (Es n):=by
   obtain⟨zs,pz,vz⟩:=Jh pl (Dy hv);refine⟨zs.map λv=>match v with|.int a=>a|_=>0,?_,?_⟩
   ·refine Ct ?_;rw[Zd,show zs.map (V.int∘λv=>match v with|.int a=>a|_=>0)=zs from ?_]
    ·exact vz
    ·refine (Yg λv hv=>?_).trans (List.map_id _);obtain⟨a,_,rfl⟩:=Yd.mp (pz.mem_iff.mp hv);rfl
   ·have z:=pz.map λv=>match v with|.int a=>a|_=>(0:Int)
    rw[Zd]at z;exact z.trans (by rw[show (Es n).map ((λv=>match v with|V.int a=>a|_=>(0:Int))∘V.int)=Es n from (Yg λ_ _=>rfl).trans (List.map_id _)])
  exact qD (hP H5 _ _ ns e7 I7 hS5 ⟨nL5,f1,f2,f3,f4,f5⟩ g7 hns pn)
 by_cases h2:vs.toArray.size<2
 ·rw[qF h2,qF h2];refine qC (qD ?_);dsimp only;rw[StateT.run_pure];exact qC (qD (fin _ (.refl _) rfl))
 ·rw[qE h2,qE h2];rw[Yn,vl]at h2
  obtain⟨v₁,v₂,rest,hke⟩:∃v₁ v₂ rest,keys.toList=v₁::v₂::rest:=by
   have kl2:keys.toList.length=n:=by rw[ZL];exact kl
   exact UG (by lia)
  have hka:keys=(v₁::v₂::rest).toArray:=by rw[<-hke]
  have kk:keyKind' keys=pure oneType':=by rw[hka];exact keyKind_ints (by rw[<-hke];exact hK)
  rw[kk];refine qC (qD ?_);obtain⟨a₀,ea⟩:∃a₀,a₀=keys.zip vs.toArray:=⟨_,rfl⟩;rw[<-ea]at fin⊢
  refine qC (wpAny_mono (Nq (k:=oneType') (a₀:=a₀) (st:=SortSt.mk' oneType' a₀ #[] 7 none)
   (Q:=λ_ t=>(arrOf t).toList.Perm a₀.toList/\failedOf t=none) (QZ λx hx=>?_) ⟨rfl,.refl _,rfl,rfl⟩ λt p f=>⟨p,f⟩) ?_ λ_ _ e=>e)
  ·rw[ea,Array.toList_zip]at hx;exact hK.all x.1 (aJ (show (x.1,x.2)∈_ from hx)).1
  ·rintro⟨⟨⟩,t⟩ s' ⟨rfl,hp,hf⟩;exact fin t hp hf
end
section
variable{X:Cx}
noncomputable def UI(x:Str):Str:=x++".<locals>."++"<lambda>"
def SD(P:Program)(w:World)(K:qJ)(mg:Str->Option Value)(base:Heap)(k:Nat)(cl:List (Str×Addr))(is:List Nat)(ta tl:TA):TE:=λσ H Q=>ta σ H λvs H1=>∃n:Nat,vs=[.int (n:Int)]/\n<=1000/\tl σ H1 λws H2=>∃(f:Addr) (Cv:List V) (κ:Nat->Int),ws=[.ref f]/\At σ is Cv/\Vx P w K mg base k f cl Cv κ n H2 /\
 ∀(D:Addr) (zs:List Int) (H':Hp),AI H2 H'->H2 D=none->H' D=some (.lst (zs.map V.int))->zs.Perm (Es n)->Q (.ref D) H'
theorem Ov{k:Nat}{l v:Expr}{tl:TA}{p1 p2 pos1 pos2 kpos:Pos}{is:List Nat}(hc:X.calm=true)(hx:X.ex=[])(hr:Br (k+2) X.A)(hg:Gl X "range")(hm:X.mg "range"=none)(hg2:Gl X "sorted")(hm2:X.mg "sorted"=none)(ha:PA X [l] ta)(hk:PK X [⟨some "key",v,kpos⟩] tl)
  (hcl:Paired (λ(i:Nat) (q:Str×Addr)=>X.N[i]?=some q.1/\X.env.kindOf q.1=some .cell/\X.env.cells.lookup q.1=some q.2/\X.fn q.1=true) is cl)
  (hs:starEach [l] X.env=[(false,eval l X.env)]:=by rfl)
  (hs1:backTo pos2 (starEach [.Call (.Name "range" p1) [l] [] pos1] X.env)=(false,eval (.Call (.Name "range" p1) [l] [] pos1) X.env)::backTo pos2 (starEach [] X.env):=by rfl) (hs2:(backTo pos2 (starEach [.Call (.Name "range" p1) [l] [] pos1] X.env)).any (·.1)=false:=by rfl) (hall:(backToKw pos2 (keywordEach [⟨some "key",v,kpos⟩] X.env)).all (·.1.isSome)=true:=by rfl) (hks:(backToKw pos2 (keywordEach [⟨some "key",v,kpos⟩] X.env)).filterMap (·.1)=[Str.ofString "key"]:=by rfl)
  (hkw:(backToKw pos2 (keywordEach [⟨some "key",v,kpos⟩] X.env)).any (·.1.isNone)=false:=by rfl):
  PE X (.Call (.Name "sorted" p2) [.Call (.Name "range" p1) [l] [] pos1] [⟨some "key",v,kpos⟩] pos2) (SD X.prog X.w X.K X.mg X.base k cl is ta tl):=by
 intro ad s σ H Q I h;refine wpAny_Call_Name_kw (Cf I hg2 hm2 PyProof.Rows.boot_sorted ?_);refine callWith_kw ?_ hs1 hs2 hall hkw;rw[hs1];refine Calls.spliced_cons (Call_ (Cf I hg hm boot_range (Y1 (BQ (ha pos1 ad s σ H _ I h) λus s1 z9=>?_) hs rfl)));obtain⟨vs,H1,I1,r1,q1⟩:=z9;obtain⟨n,e,n1,q⟩:=q1;subst e;cases r1 with
 |cons r rr =>
  cases rr;obtain⟨t,rfl⟩:=r;refine call_range_1 (Calls.spliced_nil ?_);have sm:Builtin.Range.small 0 (n:Int) 1=true:=small_one (by lia) (by lia) (by lia) (by lia);obtain⟨ro,hro⟩:∃ro:Obj,ro={cls:=.type "range",data:=.fields #[.int 0 s1.toks,.int (n:Int) t,.int 1 (s1.toks+1)]}:=⟨_,rfl⟩;rw[<-hro];obtain⟨a,ha0⟩:∃a,a=s1.heap.objs.size:=⟨_,rfl⟩;have I1':AT X ad σ H1 {s1 with heap:=s1.heap.push ro,toks:=s1.toks+1+1}:=I1.kept (t':=s1.toks+1+1) λb o z=>YK _ z
  have ga:(s1.heap.push ro).get? a=some ro:=by rw[ha0,hro];exact YX _ rfl
  obtain⟨b0,b1,b2,b3,b4,b5⟩:=I1.fpOk (bW ha0.symm) (I1.hok.fresh (bW ha0.symm))
  have Ip:AT X ((a,ro)::ad) σ H1 {s1 with heap:=s1.heap.push ro,toks:=s1.toks+1+1}:=I1'.pins_of λp hp=>by
   rcases Yf.mp hp with z|z
   ·rw[z];exact⟨ga,b0,b1,b2,λv h=>by rw[hro]at h;cases h⟩
   ·exact I1'.pin p (YU _ z)
  refine BQ (hk pos2 _ _ σ H1 _ Ip q) λws s2 z9=>?_;obtain⟨zs,H2,I2p,rz,f,Cv,κ,hz,hAt,hF,qf⟩:=z9;subst hz;obtain⟨u,rfl,ru⟩:=Ev rz;obtain rfl:u=Value.ref f:=ru;rw[hks];obtain⟨ga2,_⟩:=I2p.pin _ (YU _ Ye);have I2:AT X ad σ H2 s2:=I2p.pins_of λp hp=>I2p.pin p (YU _ (YZ _ hp))
  rw[<-ha0];show wpAny _ _ (call (.builtin "sorted") [.ref a] [(Str.ofString "key",.ref f)]) _ _ _;refine call_function_entry_kw kind_sorted plain_sorted entry_sorted (Gk _ _) ?_;unfold Builtin.«sorted»
  have ir:IsRange s2.heap a 0 (n:Int) 1 s1.toks t (s1.toks+1):=by have z:=ga2;rw[hro]at z;exact z
  refine qC (m:=checkCount "sorted" 1 1 _) (qD (qC (collect_rng (A:=X.A.in1) (I.ok.hd hc) ir sm (n:=n) (by rw[rangeSize_one];split<;>lia) (by lia) λh3 tk bg k3 hacc=>?_)))
  have hv:IntsAre bg.toList (Es n):=Ct (NS (by rw[YG,CI,ZL,hacc.1]) λi x u e1 e2=>by
   have hi:i<n:=by have z:=(YJ.mp e1).1;rw[YG,CI]at z;exact z
   rw[YO,HR hi]at e1;cases e1;obtain⟨t',z⟩:=hacc.2 i u (by simpa using e2);exact⟨t',by rw[z,Yj,aI]⟩)
  refine qC (wpAny_newList ?_ (by rw[ZL,hacc.1,sizeLine_eq];lia));have gL:(h3.push (seqObj "list" bg.toList.toArray 0)).get? h3.objs.size=some (seqObj "list" bg.toList.toArray 0):=YX _ rfl;obtain⟨L,hL0⟩:∃L,L=h3.objs.size:=⟨_,rfl⟩;have I3:AT X ad σ H2 {s2 with heap:=h3,toks:=tk}:=I2.kept (t':=tk) k3;have I4:AT X ad σ H2 {s2 with heap:=h3.push (seqObj "list" bg.toList.toArray 0),toks:=tk}:=I3.kept (t':=tk) λb o z=>YK _ z
  have fL:C3 X ad H2 L:=I3.fpOk (bW hL0.symm) (I3.hok.fresh (bW hL0.symm));have nL:X.s₀.heap.objs.size<=L:=by rw[hL0];exact I3.sz
  rw[<-hL0]at gL;show wpAny _ _ (holding [.ref h3.objs.size] (call (.builtin "list.sort") [.ref h3.objs.size] [(Str.ofString "key",.ref f)]) >>= _) _ _ {s2 with heap:=h3.push (seqObj "list" bg.toList.toArray 0),toks:=tk};rw[<-hL0];obtain⟨fd,ps,sp,F,hb,hsp⟩:=hF;refine qC (wpAny_holding (wpAny_call_entry_kw slot_list_sort ⟨_,gL,rfl⟩ entry_list_sort (Lj (A:=X.A.in1.in1) (κ:=κ) (n:=n) I4 fL gL hv n1 (λpins' H' s' x t' R' I' hS hx hR'=>?_) λH' s' out ns e' I' hS fL' gL' hns hp=>⟨_,rfl,qD ⟨_,rfl,?_⟩⟩) (FF _ _)))
  ·have rm:Br k X.A.in1.in1:=Br.in1 (Br.in1 hr);refine Ot F hb rm rfl hcl hAt I' (vs:=[.int (x:Int)]) (.cons ⟨t',rfl⟩ .nil) (Q':=λv HE=>v=.int (κ x)/\AI H2 (Jl cl HE)) (λHC e1 hn ck ho=>hsp x hx H' HC _ hS e1 ck ho hn λHE eE=>⟨rfl,hS.trans (QX hn (e1.trans eE))⟩) ?_;rintro v u HE s3 rv I3' ⟨rfl,hE⟩;exact hR' u _ s3 rv I3' hE
  ·have z:=hns.length;rw[hp.length_eq,CI,ZL]at z;have nx:L∉X.ex:=by rw[hx];exact Yv
   refine⟨.ref L,Ac H' L (.lst (ns.map V.int)),I'.adopt fL' nx nL ⟨by rw[YG,hp.length_eq,CI,sizeLine_eq];lia,out.toList,e',Dy hns,by rw[Array.toArray_toList];exact gL'⟩,rfl,qf L ns _ (hS.into fL.1) fL.1 AE hp⟩
end
noncomputable def Qa:Expr->Option Int
 |.Constant (.int i) _ _=>some i
 |_=>none
noncomputable def GK:List Expr->Option (List Int)
 |[]=>some []
 |e::es=>(Qa e).bind λi=>(GK es).map (i::·)
def Vy(ns:List Int):TA:=λ_ H Q=>Q (ns.map V.int) H
theorem Qb{e:Expr}{i:Int}(h:Qa e=some i):∃j pos,e=.Constant (.int i) j pos:=by
 cases e with
 |Constant c j pos =>
  cases c with
  |int k=>cases h;exact⟨_,_,rfl⟩
  |_=>cases h
 |_=>cases h
theorem SE{X:Cx}:∀{ns:List Int},GK es=some ns->PA X es (Vy ns):=by
 induction es with
 |nil =>
  intro ns h;cases h;exact AD
 |cons e es ih =>
  intro ns h;obtain⟨i,h0,h⟩:=Option.bind_eq_some_iff.mp (show (Qa e).bind _=some ns from h);obtain⟨j,pos,rfl⟩:=Qb h0;obtain⟨ms,h1,rfl⟩:=Y3.mp h;intro p ad s σ H Q I hq;exact AA (X:=X) (e:=.Constant (.int i) j pos) (AB (X:=X)) (ih h1) (by rfl) p ad s σ H Q I hq
def Vz(ns:List Int):TE:=λ_ H Q=>ns.length<=sizeLine/\∀p,H p=none->Q (.ref p) (Ac H p (.lst (ns.map V.int)))
theorem SF{X:Cx}{ns:List Int}(h:GK es=some ns):PE X (.List es pos) (Vz ns):=λad s σ H Q I hq =>
 BB (SE h) ad s σ H Q I (by show (ns.map V.int).length<=sizeLine/\_;rw[YG];exact hq)
theorem TC{X:Cx}{ss:List Stmt}(h:∃t,Fc X ss t/\t D σ H):∃t,GS X ss t/\t D σ H:=by obtain⟨t,a,b⟩:=h;exact⟨t,Fc.out a,b⟩
end L2
namespace L2
open PySem PySem.Spec PyProof.Rows RW
variable{G i j m' mf:Nat}{H H':Hp}{M:List (Nat×Nat)}{S:Nat×Nat->Nat×Nat->Prop}{a:Addr}{f:Nat×Nat->Nat}{lf lo lo' z:Int}{p:Nat×Nat}{q:Nat->Nat×Nat}{st:Stmt}{b9 tab' tf:List Int}
def UJ:TS:=λ_ _ _=>False
theorem Ex{X:Cx}:PS X st UJ:=λ_ _ _ _ _ _ h=>h.elim
inductive EZ(K:qJ)(vs:List V)(H:Hp)(Q:VK)(z3_:XK):Prop
 |m (a:Addr) (xs:List V) (g:Int):vs=[.ref a,.int g]->Ai K H a xs->(∀x∈xs,Kd H x)->(match CD g xs with|none=>∀H',AI H H'->Q .non H'|some _=>False)->EZ K vs H Q z3_
inductive Ea(K:qJ)(vs:List V)(H:Hp)(Q:VK)(z3_:XK):Prop
 |m (a:Addr) (xs:List V) (g:Int) (m:Nat):vs=[.ref a,.int g,.int ((m:Nat):Int)]->Ai K H a xs->(∀x∈xs,Kd H x)->(match EL g m xs with|none=>∀H',AI H H'->Q .non H'|some _=>False)->Ea K vs H Q z3_
inductive GL(K:qJ)(vs:List V)(H:Hp)(Q:VK)(z3_:XK):Prop
 |m (a:Addr) (xs:List V) (g:Int):vs=[.ref a,.int g]->2<=g->g<=9->Ai K H a xs->(∀x∈xs,Kd H x)->(match CD g xs with|none=>∀ns:List Int,xs=ns.map V.int->∀H',AI H H'->Q (.int (Av g ns)) H'|some _=>False)->GL K vs H Q z3_
inductive Ka(K:qJ)(vs:List V)(H:Hp)(Q:VK)(z3_:XK):Prop
 |m (r a:Addr) (g lo:Int) (b9:List Int) (m:Nat) (xs:List V):vs=[.ref r,.ref a]->2<=g->g<=9->A5 H r g lo b9->(b9.length:Int)=g^m->Ai K H a xs->(∀x∈xs,Kd H x)->(match EL g m xs with|none=>∀ns:List Int,xs=ns.map V.int->∀H',AI H H'->Q (.int (b9.getD (Av g ns).toNat 0)) H'|some _=>False)->Ka K vs H Q z3_
inductive Fq(vs:List V)(H:Hp)(Q:VK)(z3_:XK):Prop
 |m (n g m:Int):vs=[.int n,.int g,.int m]->2<=g->g<=9->0<=m->m<=300->((n<0\/g^m.toNat<=n)->False)->(0<=n->n<g^m.toNat->∀r H',K6 H H' r (RW.C7 g n m.toNat).reverse->Q (.ref r) H')->Fq vs H Q z3_
inductive Kb(vs:List V)(H:Hp)(Q:VK)(z3_:XK):Prop
 |m (g lo:Int):vs=[.int g,.int lo]->2<=g->g<=9->Q .non H->Kb vs H Q z3_
inductive M4(vs:List V)(H:Hp)(Q:VK)(z3_:XK):Prop
 |m (g:Int) (a:Addr) (b9:List Int) (m:Nat):vs=[.int g,.ref a]->2<=g->g<=9->1<=m->(b9.length:Int)=g^m->g^m<=256->(∀n∈b9,0<=n/\n<g)->H a=some (.lst (b9.map V.int))->(∀H',AI H H'->Q .non H')->M4 vs H Q z3_
inductive Ie(vs:List V)(H:Hp)(Q:VK)(z3_:XK):Prop
 |m (g lo:Int) (a:Addr) (b9:List Int) (m:Nat):vs=[.int g,.int lo,.ref a]->2<=g->g<=9->1<=m->(b9.length:Int)=g^m->g^m<=256->(∀n∈b9,0<=n/\n<g)->H a=some (.lst (b9.map V.int))->(∀r' H',AI H H'->A5 H' r' g lo b9->Q (.ref r') H')->Ie vs H Q z3_
theorem Ig{g:Int}{m:Nat}{Q:VK}{E:XK}(g2:2<=g)(g9:g<=9)(m1:1<=m)(len:(b9.length:Int)=g^m)(sz:g^m<=256)(tb:∀n∈b9,0<=n/\n<g)(hs:H a=some (.lst (b9.map V.int))\/False)
  (q:∀r' H',AI H H'->A5 H' r' g lo b9->Q (.ref r') H'):Ie [.int g,.int lo,.ref a] H Q E:=by
 obtain hs|z:=hs
 ·exact⟨g,lo,a,b9,m,rfl,g2,g9,m1,len,sz,tb,hs,q⟩
 ·exact z.elim
noncomputable def Et(k g s h t:Nat):Nat:=
 if k=1 then h/s*s+t%s
 else if k=2 then (if h=g-1\/t≠g-1 then h else (h+s)%(g-1))
 else if k=4 then (s/16*h+s%16*t)%g
 else if k=5 then (h/4+t/2)%2*4+(h/2+t)%2*2+h%2
 else if h<2 then (h+if t=3 then 1 else 0)%2 else if h<g-1/\t=g-1 then 2+(h-1)%(g-3) else h
noncomputable def Ci(k g s d a:Nat):Nat:=
 if k=3 then
  if s%2=0 then (a/4%2+if a/8%2=s/2/\a/2%2=1-s/2/\a%2=s/2 then 1 else 0)%2
  else (a/2%2+if a/8%2=s/2/\a/4%2=1-s/2/\a%2=s/2 then 1 else 0)%2
 else if d=0 then Et k g s (a/g) (a%g) else Et k g s (a%g) (a/g)
structure Bi where
 k:Nat
 g:Nat
 s:Nat
 d:Nat
 h:Nat
 R:Nat
 e:Nat
 top:Nat
 ch:List (Nat×Nat)
noncomputable def M5 (n:Nat) (f:Nat->Bool):Bool:=Nat.rec true (λi r=>cond (f i) r false) n
noncomputable def SG (n:Nat) (f:Nat->Bool):Bool:=Nat.rec false (λi r=>cond (f i) true r) n
theorem Dz{f:Nat->Bool}:∀{n:Nat},M5 n f=true->∀i,i<n->f i=true
 |n+1,h,i,hi=>by
  have h:cond (f n) (M5 n f) false=true:=h;cases e:f n with
  |false=>rw[e]at h;cases h
  |true =>
   rw[e]at h;rcases Nat.lt_succ_iff_lt_or_eq.mp hi with z|z
   ·exact Dz h i z
   ·rw[z];exact e
theorem Kc{f:Nat->Bool}:∀{n:Nat},SG n f=true->∃i,i<n/\f i=true
 |0,h=>by cases h
 |n+1,h=>by
  have h:cond (f n) true (SG n f)=true:=h;cases e:f n with
  |true=>exact⟨n,Zz n,e⟩
  |false =>
   rw[e]at h;obtain⟨i,hi,z⟩:=Kc h;exact⟨i,Zk hi,z⟩
noncomputable def Bi.tab (c:Bi):Nat:=Nat.rec 0 (λi r=>Nat.lor r (Nat.shiftLeft (Ci c.k c.g c.s c.d i) (4*i))) (c.h*c.g)
noncomputable def Bi.t (c:Bi) (a:Nat):Nat:=Nat.land (Nat.shiftRight c.tab (4*a)) 15
noncomputable def Bi.r (c:Bi) (x y:Nat):Nat:=cond (Nat.beq x y) c.e (Nat.land (Nat.shiftRight c.R (3*(x*c.h+y))) 7)
noncomputable def Bi.on (c:Bi):List (Nat×Nat)->Bool
 |[]=>true
 |[_]=>true
 |p::q::l=>Nat.beq (p.1%c.h) (q.1/c.g)&&Nat.beq (p.2%c.h) (q.2/c.g)&&c.on (q::l)
noncomputable def Bi.ok (c:Bi):Bool:=
 M5 (c.h*c.g) (λa=>Nat.beq (c.t a) (Ci c.k c.g c.s c.d a)&&Nat.blt (c.t a) c.g) &&
 SG (c.h*c.g) (λa=>!(Nat.beq (c.t a) (c.t (a%c.h))))&&SG (c.h*c.g) (λa=>!(Nat.beq (c.t a) (c.t (a/c.g*c.g)))) &&
 M5 (c.h*c.g) (λa=>M5 (c.h*c.g) λb=>Nat.beq a b||!(Nat.beq (c.t a) (c.t b))||Nat.blt (c.r (a/c.g) (b/c.g)) (c.r (a%c.h) (b%c.h))) &&
 M5 c.h (λx=>M5 c.h λy=>Nat.ble (c.r x y) c.top)&&Nat.ble c.e c.top &&
 c.ch.all (λp=>Nat.blt p.1 (c.h*c.g)&&Nat.blt p.2 (c.h*c.g)&&!(Nat.beq p.1 p.2)&&Nat.beq (c.t p.1) (c.t p.2))&&c.on c.ch
noncomputable def Ep:List Bi:=[
 ⟨1,4,2,0,4,0x10002400080,1,2,[]⟩,
 ⟨1,4,2,1,4,0x80400002010,1,2,[]⟩,
 ⟨1,6,2,0,6,0x10400082400402002410002080,1,2,[]⟩,
 ⟨1,6,2,1,6,0x80010000002000400000080010,1,2,[]⟩,
 ⟨1,6,3,0,6,0x2000010000090000080000400,1,2,[]⟩,
 ⟨1,6,3,1,6,0x90010400480000012002080090,1,2,[]⟩,
 ⟨1,8,2,0,8,0x10410002082400410080082410010082002410400082080,1,2,[]⟩,
 ⟨1,8,2,1,8,0x80000400000002000010000000080000400000002000010,1,2,[]⟩,
 ⟨1,8,4,0,8,0x400000080000010000002400000080000010000002000,1,2,[]⟩,
 ⟨1,8,4,1,8,0x92000412000482000490000000092000412000482000490,1,2,[]⟩,
 ⟨1,9,3,0,9,0x10080000402000010090000400400010010000480400002010000080400,1,2,[]⟩,
 ⟨1,9,3,1,9,0x480000410000090000000012000010400002400000000480000410000090,1,2,[]⟩,
 ⟨2,3,1,0,3,0x490288,0,2,[]⟩,
 ⟨2,3,1,1,3,0x208,2,2,[]⟩,
 ⟨2,4,1,0,4,0x92409441448,0,2,[]⟩,
 ⟨2,4,1,1,4,0x9041048,2,2,[]⟩,
 ⟨2,4,2,0,4,0x92409441448,0,2,[]⟩,
 ⟨2,4,2,1,4,0x9041048,2,2,[]⟩,
 ⟨2,5,1,0,5,0x49240928825120a248,0,2,[]⟩,
 ⟨2,5,1,1,5,0x8208200208208,2,2,[]⟩,
 ⟨2,5,2,0,5,0x49240928825120a248,0,2,[]⟩,
 ⟨2,5,2,1,5,0x1000041000040,2,2,[]⟩,
 ⟨2,5,3,0,5,0x49240928825120a248,0,2,[]⟩,
 ⟨2,5,3,1,5,0x8208200208208,2,2,[]⟩,
 ⟨2,6,1,0,6,0x92490249441251209449051248,0,2,[]⟩,
 ⟨2,6,1,1,6,0x201041000208001041008,2,2,[]⟩,
 ⟨2,6,2,0,6,0x92490249441251209449051248,0,2,[]⟩,
 ⟨2,6,2,1,6,0x48000241001048000240,2,2,[]⟩,
 ⟨2,6,3,0,6,0x92490249441251209449051248,0,2,[]⟩,
 ⟨2,6,3,1,6,0x48000241001048000240,2,2,[]⟩,
 ⟨2,6,4,0,6,0x92490249441251209449051248,0,2,[]⟩,
 ⟨2,6,4,1,6,0x201041000208001041008,2,2,[]⟩,
 ⟨2,7,1,0,7,0x49249024928824944824a248251248289248,0,2,[]⟩,
 ⟨2,7,1,1,7,0x200208200008200008200008208008,2,2,[]⟩,
 ⟨2,7,2,0,7,0x49249024928824944824a248251248289248,0,2,[]⟩,
 ⟨2,7,2,1,7,0x41000041040040040041040001040,2,2,[]⟩,
 ⟨2,7,3,0,7,0x49249024928824944824a248251248289248,0,2,[]⟩,
 ⟨2,7,3,1,7,0x8000008000008200000200000200,2,2,[]⟩,
 ⟨2,7,4,0,7,0x49249024928824944824a248251248289248,0,2,[]⟩,
 ⟨2,7,4,1,7,0x41000041040040040041040001040,2,2,[]⟩,
 ⟨2,7,5,0,7,0x49249024928824944824a248251248289248,0,2,[]⟩,
 ⟨2,7,5,1,7,0x200208200008200008200008208008,2,2,[]⟩,
 ⟨4,9,19,0,9,0x48a45241229149048a44a41229229048a48a41225229049148a412452290,0,2,[]⟩,
 ⟨4,9,19,1,9,0x8040000201000008048000200200008008000240200001008000040200,2,2,[]⟩,
 ⟨4,9,22,0,9,0x48a45241229149048a44a41229229048a48a41225229049148a412452290,0,2,[]⟩,
 ⟨4,9,22,1,9,0x8040000201000008048000200200008008000240200001008000040200,2,2,[]⟩,
 ⟨4,9,35,0,9,0x48a45241229149048a44a41229229048a48a41225229049148a412452290,0,2,[]⟩,
 ⟨4,9,35,1,9,0x8040000201000008048000200200008008000240200001008000040200,2,2,[]⟩,
 ⟨4,9,38,0,9,0x48a45241229149048a44a41229229048a48a41225229049148a412452290,0,2,[]⟩,
 ⟨4,9,38,1,9,0x8040000201000008048000200200008008000240200001008000040200,2,2,[]⟩,
 ⟨4,9,67,0,9,0x48a45241229149048a44a41229229048a48a41225229049148a412452290,0,2,[]⟩,
 ⟨4,9,67,1,9,0x8040000201000008048000200200008008000240200001008000040200,2,2,[]⟩,
 ⟨4,9,70,0,9,0x48a45241229149048a44a41229229048a48a41225229049148a412452290,0,2,[]⟩,
 ⟨4,9,70,1,9,0x8040000201000008048000200200008008000240200001008000040200,2,2,[]⟩,
 ⟨4,9,83,0,9,0x48a45241229149048a44a41229229048a48a41225229049148a412452290,0,2,[]⟩,
 ⟨4,9,83,1,9,0x8040000201000008048000200200008008000240200001008000040200,2,2,[]⟩,
 ⟨4,9,86,0,9,0x48a45241229149048a44a41229229048a48a41225229049148a412452290,0,2,[]⟩,
 ⟨4,9,86,1,9,0x8040000201000008048000200200008008000240200001008000040200,2,2,[]⟩,
 ⟨4,9,115,0,9,0x48a45241229149048a44a41229229048a48a41225229049148a412452290,0,2,[]⟩,
 ⟨4,9,115,1,9,0x8040000201000008048000200200008008000240200001008000040200,2,2,[]⟩,
 ⟨4,9,118,0,9,0x48a45241229149048a44a41229229048a48a41225229049148a412452290,0,2,[]⟩,
 ⟨4,9,118,1,9,0x8040000201000008048000200200008008000240200001008000040200,2,2,[]⟩,
 ⟨4,9,131,0,9,0x48a45241229149048a44a41229229048a48a41225229049148a412452290,0,2,[]⟩,
 ⟨4,9,131,1,9,0x8040000201000008048000200200008008000240200001008000040200,2,2,[]⟩,
 ⟨4,9,134,0,9,0x48a45241229149048a44a41229229048a48a41225229049148a412452290,0,2,[]⟩,
 ⟨4,9,134,1,9,0x8040000201000008048000200200008008000240200001008000040200,2,2,[]⟩,
 ⟨4,8,18,0,8,0xd32d361a65a4c34cb6986992d30d365a61a4cb4c3699698,0,3,[(0,4),(0,34),(0,19)]⟩,
 ⟨4,8,18,1,8,0x8408001081200210040042408008081001210200042040,3,3,[(0,14),(0,52),(0,32)]⟩,
 ⟨4,8,20,0,8,0x8a28a41145128228a45045128a08a45141128a282451450,0,2,[]⟩,
 ⟨4,8,20,1,8,0x200000040000008000001200000040000008000001000,2,2,[]⟩,
 ⟨4,8,22,0,8,0xd32d361a65a4c34cb6986992d30d365a61a4cb4c3699698,0,3,[(0,4),(0,34),(0,17)]⟩,
 ⟨4,8,22,1,8,0x8408001081200210040042408008081001210200042040,3,3,[(0,10),(0,20),(0,32)]⟩,
 ⟨4,8,50,0,8,0xd32d361a65a4c34cb6986992d30d365a61a4cb4c3699698,0,3,[(0,4),(0,34),(0,17)]⟩,
 ⟨4,8,50,1,8,0x8408001081200210040042408008081001210200042040,3,3,[(0,10),(0,20),(0,32)]⟩,
 ⟨4,8,52,0,8,0x8a28a41145128228a45045128a08a45141128a282451450,0,2,[]⟩,
 ⟨4,8,52,1,8,0x200000040000008000001200000040000008000001000,2,2,[]⟩,
 ⟨4,8,54,0,8,0xd32d361a65a4c34cb6986992d30d365a61a4cb4c3699698,0,3,[(0,4),(0,34),(0,19)]⟩,
 ⟨4,8,54,1,8,0x8408001081200210040042408008081001210200042040,3,3,[(0,14),(0,52),(0,32)]⟩,
 ⟨4,8,82,0,8,0xd32d361a65a4c34cb6986992d30d365a61a4cb4c3699698,0,3,[(0,4),(0,34),(0,19)]⟩,
 ⟨4,8,82,1,8,0x8408001081200210040042408008081001210200042040,3,3,[(0,14),(0,52),(0,32)]⟩,
 ⟨4,8,84,0,8,0x8a28a41145128228a45045128a08a45141128a282451450,0,2,[]⟩,
 ⟨4,8,84,1,8,0x200000040000008000001200000040000008000001000,2,2,[]⟩,
 ⟨4,8,86,0,8,0xd32d361a65a4c34cb6986992d30d365a61a4cb4c3699698,0,3,[(0,4),(0,34),(0,17)]⟩,
 ⟨4,8,86,1,8,0x8408001081200210040042408008081001210200042040,3,3,[(0,10),(0,20),(0,32)]⟩,
 ⟨4,8,114,0,8,0xd32d361a65a4c34cb6986992d30d365a61a4cb4c3699698,0,3,[(0,4),(0,34),(0,17)]⟩,
 ⟨4,8,114,1,8,0x8408001081200210040042408008081001210200042040,3,3,[(0,10),(0,20),(0,32)]⟩,
 ⟨4,8,116,0,8,0x8a28a41145128228a45045128a08a45141128a282451450,0,2,[]⟩,
 ⟨4,8,116,1,8,0x200000040000008000001200000040000008000001000,2,2,[]⟩,
 ⟨4,8,118,0,8,0xd32d361a65a4c34cb6986992d30d365a61a4cb4c3699698,0,3,[(0,4),(0,34),(0,19)]⟩,
 ⟨4,8,118,1,8,0x8408001081200210040042408008081001210200042040,3,3,[(0,14),(0,52),(0,32)]⟩,
 ⟨4,4,18,0,4,0x8a411282450,0,2,[]⟩,
 ⟨4,4,18,1,4,0x8001200040,2,2,[]⟩,
 ⟨4,4,50,0,4,0x8a411282450,0,2,[]⟩,
 ⟨4,4,50,1,4,0x8001200040,2,2,[]⟩,
 ⟨5,8,0,0,8,0xd32d361a65a4c34cb6986992d30d365a61a4cb4c3699698,0,3,[(0,4),(0,34),(0,17)]⟩,
 ⟨5,8,0,1,8,0x8408001081200210040042408008081001210200042040,3,3,[(0,10),(0,20),(0,32)]⟩,
 ⟨6,5,0,0,5,0x6db6124d025a20b448,0,3,[]⟩,
 ⟨6,5,0,1,5,0x8008000010010,3,3,[]⟩,
 ⟨6,6,0,0,6,0xdb6d8449682499409651059448,0,3,[]⟩,
 ⟨6,6,0,1,6,0x240041001200000080010,3,3,[]⟩,
 ⟨6,7,0,0,7,0x6db6d82892c84496904932502592882c9448,0,3,[(0,1),(2,10),(20,21)]⟩,
 ⟨6,7,0,1,7,0x208008200008200208000000400010,3,3,[(3,44),(21,15),(0,7)]⟩,
 ⟨3,2,0,0,8,0xf6140636a6dd83180d981801400e4a76624140903140918,2,6,[]⟩,
 ⟨3,2,1,0,8,0x146240a3225218501bca825b241140241a0009b00509b028,4,6,[]⟩,
 ⟨3,2,2,0,8,0xe4028624028903d8d9180280300f6030636b4dd83028d98,2,6,[]⟩,
 ⟨3,2,3,0,8,0x1406d0a006d00052090282096c91566c0a30489585009c28,4,6,[]⟩]
theorem Qc:∀c∈Ep,c.ok=true:=by decide +kernel
structure TD(g h:Nat)(T:Nat->Nat)(top:Nat):Prop where
 lt:∀a,a<h*g->T a<g
 first:∃a,a<h*g/\T a≠T (a%h)
 last:∃a,a<h*g/\T a≠T (a/g*g)
 rise:∃rk:Nat×Nat->Nat,(∀a b,a<h*g->b<h*g->a≠b->T a=T b->rk (C0 (a/g,b/g))<rk (C0 (a%h,b%h)))/\∀p,rk p<=top
theorem Bi.fam{c:Bi}(hc:c.ok=true)(h0:0<c.h):TD c.g c.h (Ci c.k c.g c.s c.d) c.top:=by
 unfold Bi.ok at hc;simp only[Bool.and_eq_true]at hc;obtain⟨⟨⟨⟨⟨⟨⟨c1,c2⟩,c3⟩,c4⟩,c5⟩,c6⟩,c7⟩,c8⟩:=hc
 have eT:∀a,a<c.h*c.g->c.t a=Ci c.k c.g c.s c.d a/\c.t a<c.g:=λa ha=>by have z:=Dz c1 a ha;rw[Zi]at z;exact⟨Nat.eq_of_beq_eq_true z.1,by simpa [Nat.blt_eq] using z.2⟩
 have nb:∀{x y:Nat},(!(Nat.beq x y))=true->x≠y:=λ{x y} z e=>by rw[e,Nat.beq_refl]at z;cases z
 refine⟨λa ha=>by rw[<-(eT a ha).1];exact (eT a ha).2,?_,?_,?_⟩
 ·obtain⟨a,ha,z⟩:=Kc c2;exact⟨a,ha,by rw[<-(eT a ha).1,<-(eT (a%c.h) (Z0 (Nat.mod_le ..) ha)).1];exact nb z⟩
 ·obtain⟨a,ha,z⟩:=Kc c3;exact⟨a,ha,by rw[<-(eT a ha).1,<-(eT (a/c.g*c.g) (Z0 (Nat.div_mul_le_self ..) ha)).1];exact nb z⟩
 ·have rr:∀x y,x<c.h->y<c.h->(λp:Nat×Nat=>if p.1<c.h/\p.2<c.h then c.r p.1 p.2 else 0) (C0 (x,y))=c.r x y:=λx y hx hy=>by
   by_cases e:x=y
   ·subst e;rw[B4];show (if 0<c.h/\0<c.h then c.r 0 0 else 0)=_;rw[qF ⟨h0,h0⟩];unfold Bi.r;rw[Nat.beq_refl,Nat.beq_refl];rfl
   ·have:C0 (x,y)=(x,y):=qE e;rw[this];exact qF ⟨hx,hy⟩
  refine⟨λp=>if p.1<c.h/\p.2<c.h then c.r p.1 p.2 else 0,λa b ha hb ne e=>?_,λp=>?_⟩
  ·have dv:∀{a:Nat},a<c.h*c.g->a/c.g<c.h:=λ{a} ha=>ZN (by rw[Zm];exact ha)
   rw[rr _ _ (dv ha) (dv hb),rr _ _ (Yz _ h0) (Yz _ h0)];have z:=Dz (Dz c4 a ha) b hb;rw[Bool.or_eq_true,Bool.or_eq_true]at z;rcases z with (z|z)|z
   ·exact qG (ZK z) ne
   ·exact qG (by rw[(eT a ha).1,(eT b hb).1];exact e) (nb z)
   ·simpa [Nat.blt_eq] using z
  ·show (if p.1<c.h/\p.2<c.h then c.r p.1 p.2 else 0)<=c.top;split
   ·rename_i hp
    exact Nat.le_of_ble_eq_true (Dz (Dz c5 p.1 hp.1) p.2 hp.2)
   ·exact ZT _
def SH(g h:Nat)(T:Nat->Nat)(n:Nat)(al bl:Nat->Nat):Prop:=(∀i,i<n->al i<h*g/\bl i<h*g/\al i≠bl i/\T (al i)=T (bl i))/\∀i,i+1<n->al i%h=al (i+1)/g/\bl i%h=bl (i+1)/g
theorem Bi.way{c:Bi}(hc:c.ok=true):SH c.g c.h (Ci c.k c.g c.s c.d) c.ch.length (λi=>(c.ch.getD i (0,0)).1) (λi=>(c.ch.getD i (0,0)).2):=by
 unfold Bi.ok at hc;simp only[Bool.and_eq_true]at hc;obtain⟨⟨⟨⟨⟨⟨⟨c1,c2⟩,c3⟩,c4⟩,c5⟩,c6⟩,c7⟩,c8⟩:=hc
 have eT:∀a,a<c.h*c.g->c.t a=Ci c.k c.g c.s c.d a:=λa ha=>by have z:=Dz c1 a ha;rw[Zi]at z;exact ZK z.1
 refine⟨λi hi=>?_,λi hi=>?_⟩
 ·have m:c.ch.getD i (0,0)∈c.ch:=by rw[YH,YI hi];exact ZM hi
  have z:=ag.mp c7 _ m;simp only[Bool.and_eq_true]at z;obtain⟨⟨⟨z1,z2⟩,z3⟩,z4⟩:=z;have l1:(c.ch.getD i (0,0)).1<c.h*c.g:=by simpa [Nat.blt_eq] using z1
  have l2:(c.ch.getD i (0,0)).2<c.h*c.g:=by simpa [Nat.blt_eq] using z2
  exact⟨l1,l2,(λ(e:(c.ch.getD i (0,0)).1=(c.ch.getD i (0,0)).2)=>by rw[e,Nat.beq_refl]at z3;cases z3),by rw[<-eT _ l1,<-eT _ l2];exact ZK z4⟩
 ·have go:∀(l:List (Nat×Nat)),c.on l=true->∀i,i+1<l.length->(l.getD i (0,0)).1%c.h=(l.getD (i+1) (0,0)).1/c.g/\(l.getD i (0,0)).2%c.h=(l.getD (i+1) (0,0)).2/c.g:=by
   intro l
   induction l with
   |nil=>intro _ i hi;simp at hi
   |cons p l ih =>
    intro h i hi;cases l with
    |nil=>simp at hi
    |cons q l =>
     have h:(Nat.beq (p.1%c.h) (q.1/c.g)&&Nat.beq (p.2%c.h) (q.2/c.g)&&c.on (q::l))=true:=h;simp only[Bool.and_eq_true]at h;cases i with
     |zero=>exact⟨ZK h.1.1,ZK h.1.2⟩
     |succ i=>exact ih h.2 i (by simpa using hi)
  exact go c.ch c8 i hi
structure Nw(g:Nat)(ν:Nat->Int):Prop where
 lt:∀x,x<g->0<=ν x/\ν x<(g:Int)
 inj:∀x y,x<g->y<g->ν x=ν y->x=y
noncomputable def BP(n:Nat)(ν:Nat->Int)(T:Nat->Nat):List Int:=(List.range n).map λa=>ν (T a)
theorem B5(n:Nat)(ν:Nat->Int)(T:Nat->Nat):(BP n ν T).length=n:=by unfold BP;rw[List.length_map,List.length_range]
variable{ν:Nat->Int}
theorem Bl{n:Nat}{T:Nat->Nat}{a:Nat}(h:a<n):(BP n ν T).getD a 0=ν (T a):=Aj h
section
variable{g h:Nat}{T:Nat->Nat}{top:Nat}
theorem SI(f:∀a,a<h*g->T a<g)(n:Nw g ν):∀x∈BP (h*g) ν T,0<=x/\x<(g:Int):=λx hx=>by unfold BP at hx;obtain⟨a,ha,rfl⟩:=Yd.mp hx;exact n.lt _ (f a (Yc.mp ha))
theorem TD.stp(f:TD g h T top)(n:Nw g ν)(g0:0<g){q:Nat×Nat}(s:Gi g ((BP (h*g) ν T).length/g) (BP (h*g) ν T) p q):∃a b,a<h*g/\b<h*g/\a≠b/\T a=T b/\p=C0 (a/g,b/g)/\q=C0 (a%h,b%h):=by
 have hh:(BP (h*g) ν T).length/g=h:=by rw[B5,av _ g0]
 rw[hh]at s;obtain⟨a,b,ha,hb,ne,e,h1,h2⟩:=s;rw[Bl ha,Bl hb]at e;exact⟨a,b,ha,hb,ne,n.inj _ _ (f.lt a ha) (f.lt b hb) e,h1,h2⟩
theorem TD.rises(f:TD g h T top)(n:Nw g ν)(g0:0<g):∃rk:Nat×Nat->Nat,FC g ((BP (h*g) ν T).length/g) (BP (h*g) ν T) rk/\∀p,rk p<=top:=by obtain⟨rk,h1,h2⟩:=f.rise;refine⟨rk,λp q s=>?_,h2⟩;obtain⟨a,b,ha,hb,ne,e,rfl,rfl⟩:=f.stp n g0 s;exact h1 a b ha hb ne e
theorem SH.stps{k:Nat}{al bl:Nat->Nat}(w:SH g h T k al bl)(g0:0<g)(i:Nat)(hi:i<k):Gi g ((BP (h*g) ν T).length/g) (BP (h*g) ν T) (C0 (al i/g,bl i/g)) (C0 (al i%h,bl i%h)):=by
 have hh:(BP (h*g) ν T).length/g=h:=by rw[B5,av _ g0]
 rw[hh];obtain⟨h1,h2,h3,h4⟩:=w.1 i hi;exact⟨al i,bl i,h1,h2,h3,by rw[Bl h1,Bl h2,h4],rfl,rfl⟩
end
structure Bm(g:Int)(b9:List Int)(m:Nat)(tw:Bool)(d:Int)(tf:List Int)(mf top:Nat):Prop where
 g2:2<=g
 g9:g<=9
 m1:1<=m
 m4:m<=4
 m3:3<=g->m<=2
 len:(b9.length:Int)=g^m
 sz:g^m<=256
 nd:g^(m-1)<=9
 tb:∀n∈b9,0<=n/\n<g
 tfl:(tf.length:Int)=g^mf
 mf2:2<=mf
 al:∀lo,Bp g (lo+d) tf mf lo b9 m
 fr:∀lo lo' tab' m',(tab'.length:Int)=g^m'->Bp g lo b9 m lo' tab' m'->A7 g lo' tab' m' (lo+d) tf mf
 sm:g^(mf-1)<=9
 rise:∃rk:Nat×Nat->Nat,FC g.toNat (tf.length/g.toNat) tf rk/\∀p,rk p<=top
 thin:tw=false->g^(top+2-mf)<=256/\mf<=top+2
 wide:tw=true->∃(q:Nat->Nat×Nat) (n:Nat),(q 0=(0,0)\/q n=(0,0))/\(∀i,i<n->Gi g.toNat (tf.length/g.toNat) tf (q i) (q (i+1)))/\256<g^(n+2-mf)/\mf<=n+2
theorem Ke{g:Int}{w:Int}{k k':Nat}(hk:k<b9.length)(e:(k:Int)-(k:Int)/w%g*w=(k':Int))(ne:b9.getD k 0≠b9.getD k' 0):BL g b9 w=true:=by unfold BL;rw[List.any_eq_true];refine⟨k,Yc.mpr hk,?_⟩;rw[e,YM,qI ne];rfl
section
variable{h:Nat}{T:Nat->Nat}{top:Nat}
theorem TD.cnt(f:TD G h T top)(n:Nw G ν)(G2:2<=G)(h0:0<h):BL (G:Int) (BP (h*G) ν T) (h:Int)=true/\BL (G:Int) (BP (h*G) ν T) 1=true:=by
 refine⟨?_,?_⟩
 ·obtain⟨a,ha,ne⟩:=f.first;have hb:a%h<h*G:=Z0 (Nat.mod_le ..) ha;refine Ke (k:=a) (k':=a%h) (by rw[B5];exact ha) ?_ (by rw[Bl ha,Bl hb];exact λz=>ne (n.inj _ _ (f.lt a ha) (f.lt _ hb) z));have e1:(a:Int)/(h:Int)%(G:Int)*(h:Int)=((a/h*h:Nat):Int):=by rw[<-Zq,<-Yk,Za (ZN ha),ZE]
  rw[e1];have:=aP a h;rw[Zm]at this;lia
 ·obtain⟨a,ha,ne⟩:=f.last;have hb:a/G*G<h*G:=Z0 (Nat.div_mul_le_self ..) ha;refine Ke (k:=a) (k':=a/G*G) (by rw[B5];exact ha) ?_ (by rw[Bl ha,Bl hb];exact λz=>ne (n.inj _ _ (f.lt a ha) (f.lt _ hb) z));have e1:(a:Int)/1%(G:Int)*1=((a%G:Nat):Int):=by rw[Int.ediv_one,aI,Yk]
  rw[e1];have:=aP a G;rw[Zm]at this;lia
theorem Qd(f:TD G h T top)(n:Nw G ν)(G2:2<=G)(G9:G<=9){m:Nat}(m2:2<=m)(m4:m<=4)(m3:3<=G->m<=2)(hh:h=G^(m-1))(h9:h<=9){tw:Bool}(thin:tw=false->(G:Int)^(top+2-m)<=256/\m<=top+2)
  (wide:tw=true->∃al bl k,SH G h T k al bl/\0<k/\(al 0/G=bl 0/G\/al (k-1)%h=bl (k-1)%h)/\256<(G:Int)^(k+2-m)/\m<=k+2):
  Bm (G:Int) (BP (h*G) ν T) m tw 0 (BP (h*G) ν T) m top:=by
 have hp:h*G=G^m:=by rw[hh,<-Nat.pow_succ];congr 1;lia
 have h0:0<h:=by rw[hh];exact Nat.pow_pos (by lia)
 have len:((BP (h*G) ν T).length:Int)=(G:Int)^m:=by rw[B5,hp,Zx]
 have hi:(G:Int)^(m-1)=(h:Int):=by rw[hh,Zx]
 have g2:(2:Int)<=(G:Int):=by lia
 obtain⟨c0,c1⟩:=f.cnt n G2 h0;rw[<-hi]at c0;have gn:(G:Int).toNat=G:=YM G;refine⟨g2,by lia,by lia,m4,λz=>m3 (by lia),len,?_,by rw[hi];lia,SI f.lt n,len,m2,λlo x hx=>by rw[Zc],λlo lo' tab' m' hl' al=>by rw[Zc];exact E7 g2 hl' len al m2 c0 c1,by rw[hi];lia,?_,thin,λz=>?_⟩
 ·have:=Zu h9 G9;rw[<-Zx,<-hp];lia
 ·rw[gn];exact f.rises n (by lia)
 ·obtain⟨al,bl,k,w,k0,ends,big,le⟩:=wide z;rw[gn];have st:=λi hi=>w.stps (ν:=ν) (show 0<G by lia) i hi
  refine⟨λi=>if i<k then C0 (al i/G,bl i/G) else C0 (al (k-1)%h,bl (k-1)%h),k,?_,λi hi=>?_,big,le⟩
  ·rcases ends with z|z
   ·left
    show (if 0<k then C0 (al 0/G,bl 0/G) else _)=_;rw[qF k0,z,B4]
   ·right
    show (if k<k then _ else C0 (al (k-1)%h,bl (k-1)%h))=_;rw[qE (Yh _),z,B4]
  ·show Gi _ _ _ (if i<k then C0 (al i/G,bl i/G) else _) (if i+1<k then C0 (al (i+1)/G,bl (i+1)/G) else C0 (al (k-1)%h,bl (k-1)%h));rw[qF hi]
   by_cases y:i+1<k
   ·rw[qF y];have e:=w.2 i y;rw[<-e.1,<-e.2];exact st i hi
   ·rw[qE y,show k-1=i by lia];exact st i hi
theorem Qe(n:Nw G ν)(G2:2<=G)(x:Int):∃rk:Nat×Nat->Nat,FC G ((EM (G:Int) x (BP G ν id) 1 x 2).length/G) (EM (G:Int) x (BP G ν id) 1 x 2) rk/\∀p,rk p<=1:=by
 have e:=Me (g:=(G:Int)) (by lia) (G:=G) rfl x (BP G ν id);rw[e,YG,Yo,av _ (by lia)];refine⟨λp=>if p=(0,0) then 0 else 1,?_,λp=>by dsimp only;split<;>lia⟩;rintro p q ⟨a,b,ha,hb,ne,ee,rfl,rfl⟩;rw[Aj ha,Aj hb]at ee;have da:a/G<G:=ZN ha;have db:b/G<G:=ZN hb;rw[Bl da,Bl db]at ee;have e2:a/G=b/G:=n.inj _ _ da db ee;have e3:a%G≠b%G:=λz=>ne (by rw[<-aP a G,<-aP b G,e2,z])
 rw[e2,B4];show (if ((0,0):Nat×Nat)=(0,0) then 0 else 1)<(if C0 (a%G,b%G)=(0,0) then 0 else 1);rw[qF rfl,show C0 (a%G,b%G)=(a%G,b%G) from qE e3,qE (λz=>e3 (by injection z with z1 z2;lia))];exact Nat.zero_lt_one
theorem Ih(n:Nw G ν)(G2:2<=G)(G9:G<=9){m:Nat}(m1:1<=m)(m2:m<=2)(len:(b9.length:Int)=(G:Int)^m)(tb:∀n∈b9,0<=n/\n<(G:Int)){d:Int}(al:∀lo,Bp (G:Int) (lo+d) (BP G ν id) 1 lo b9 m):Bm (G:Int) b9 m false d (EM (G:Int) 0 (BP G ν id) 1 0 2) 2 1:=by
 have g2:(2:Int)<=(G:Int):=by lia
 have l1:((BP G ν id).length:Int)=(G:Int)^1:=by rw[B5,Ym,Yq,ZW]
 have bw:∀x,EM (G:Int) x (BP G ν id) 1 x 2=EM (G:Int) 0 (BP G ν id) 1 0 2:=λx=>by rw[Me g2 rfl,Me g2 rfl]
 have p2:(G:Int)^2=((G*G:Nat):Int):=by rw[show (2:Nat)=0+1+1 from rfl,Ym,Ym,Yq,ZW,ZE]
 have p1:(G:Int)^1=(G:Int):=by rw[Ym,Yq,ZW]
 have gg:=Zu G9 G9
 have c1:BL (G:Int) (BP G ν id) 1=true:=by refine Ke (k:=1) (k':=0) (by rw[B5];lia) ?_ (by rw[Bl (by lia),Bl (by lia)];exact λz=>qG (n.inj 1 0 (by lia) (by lia) z) (by decide));rw[Int.ediv_one,aI,Yr (by decide) (by lia)];rfl
 have tfl:((EM (G:Int) 0 (BP G ν id) 1 0 2).length:Int)=(G:Int)^2:=BO g2 ..;have mm:m=1\/m=2:=by lia
 refine⟨g2,by lia,m1,by lia,λ_=>m2,len,?_,?_,tb,tfl,YL _,λlo=>?_,λlo lo' tab' m' hl' al'=>?_,?_,?_,λ_=>?_,λz=>nomatch z⟩
 ·rcases mm with rfl|rfl
  ·rw[p1];lia
  ·rw[p2];lia
 ·rcases mm with rfl|rfl
  ·rw[Zn,Yq];decide
  ·rw[show 2-1=1 from rfl,p1];lia
 ·intro x hx;rw[<-bw (lo+d),IB g2 l1 (Zp _) (by lia) hx];exact al lo x hx
 ·rw[<-bw (lo+d)];exact OX g2 hl' l1 (λx hx=>(al lo x hx).trans (al' x hx)) c1
 ·rw[show 2-1=1 from rfl,p1];lia
 ·rw[YM];exact Qe n G2 0
 ·rw[show 1+2-2=1 from rfl,p1];lia
end
theorem SJ(hl:b9.length=b9.length/G*G)(s:Int):B2 G b9 [s]=Ag b9.length λa=>DD (decide (b9.getD a 0=s)) 1:=by have e:=JX (b9.length/G) G (λa=>DD (decide (b9.getD a 0=s)) 1);rw[<-hl]at e;rw[e];rfl
theorem Jm{g:Int}(hg:2<=g){m:Nat}(hl:(b9.length:Int)=g^m)(m1:1<=m)(fw:A7 g lo b9 m lf tf mf)(tb:∀n∈tf,0<=n/\n<g){rk:Nat×Nat->Nat}(hr:FC g.toNat (tf.length/g.toNat) tf rk)(r:List Int)(hb:∀n∈r,0<=n/\n<g):1<=B2 g.toNat b9 r:=by
 obtain⟨al,tfl⟩:=fw.alike hg hl;have mf2:=fw.two;have hG:(g.toNat:Int)=g:=by lia
 have hd:=Az hg tfl (show 1<=mf by lia);have hp:=RW.Ab hg (mf-1);have z:=ER (G:=g.toNat) (by lia) (by rw[hG];exact tb) hr (by lia) (c:=r) (by rw[hG];exact hb);exact Lh hg tfl (by lia) hl m1 al z
theorem GM{g:Int}(hg:2<=g){m:Nat}(tb:∀n∈b9,0<=n/\n<g)(fw:A7 g lo b9 m lf tf mf):∀n∈tf,0<=n/\n<g:=by
 obtain⟨low,M,_,_,⟨_,_,rfl⟩|⟨_,_,rfl⟩⟩:=fw
 ·exact Hg hg _ (Hg hg _ tb _ _ _) _ _ _
 ·exact Hg hg _ tb _ _ _
theorem Lk{g:Int}(hg:2<=g){m:Nat}(hl:(b9.length:Int)=g^m)(m1:1<=m)(tb:∀n∈b9,0<=n/\n<g)(fw:A7 g lo b9 m lf tf mf){rk:Nat×Nat->Nat}(hr:FC g.toNat (tf.length/g.toNat) tf rk)
  {at':Nat} (ha:at'<b9.length) {v:Int} (hv:0<=v/\v<g) (ne:v≠b9.getD at' 0) {lo' lf':Int} {tf':List Int} {mf':Nat} (fw':A7 g lo' (b9.set at' v) m lf' tf' mf'):∀rk,¬FC g.toNat (tf'.length/g.toNat) tf' rk:=λrk' hr'=>by
 have hl':((b9.set at' v).length:Int)=g^m:=by rw[ZS];exact hl
 have tb':∀n∈b9.set at' v,0<=n/\n<g:=λn hn=>(ae hn).elim (tb n) λe=>by rw[e];exact hv
 have hG:(g.toNat:Int)=g:=by lia
 have bal:∀{b9:List Int},(b9.length:Int)=g^m->(∀n∈b9,0<=n/\n<g)->(∀r:List Int,(∀n∈r,0<=n/\n<g)->1<=B2 g.toNat b9 r)->∀s:Int,0<=s->s<g->Ag b9.length (λa=>DD (decide (b9.getD a 0=s)) 1)=g^(m-1):=λ{b9} hl tb on s s0 s1=>by
  obtain⟨h1,h2⟩:=Az hg hl m1;rw[<-SJ h2,QU (G:=g.toNat) (by lia) (by rw[hG];exact tb) (l:=m-1) ?_ (λr hr=>on r λn hn=>by have:=hr n hn;rw[hG]at this;exact this) [s] (λn hn=>by rw[YT.mp hn,hG];exact⟨s0,s1⟩),h1];have:((b9.length/g.toNat:Nat):Int)=((g.toNat^(m-1):Nat):Int):=by rw[h1,Zx,hG]
  lia
 obtain⟨s0,s1⟩:=tb (b9.getD at' 0) (by rw[YH,YI ha];exact ZM ha);have b1:=bal hl tb (Jm hg hl m1 fw (GM hg tb fw) hr) _ s0 s1;have b2:=bal hl' tb' (Jm hg hl' m1 fw' (GM hg tb' fw') hr') (b9.getD at' 0) s0 s1;rw[ZS]at b2
 have e:Ag b9.length (λa=>DD (decide (b9.getD a 0=b9.getD at' 0)) 1)=Ag b9.length (λa=>DD (decide ((b9.set at' v).getD a 0=b9.getD at' 0)) 1)+1:=by
  have o:=Hm b9.length at' ha 1;have s:=Hk b9.length (λa=>DD (decide ((b9.set at' v).getD a 0=b9.getD at' 0)) 1) (λk=>DD (decide (k=at')) 1);rw[o]at s;rw[<-s];refine Ar λa h=>?_;rw[Hf ha];unfold DD
  by_cases z:at'=a
  ·subst z;rw[qF rfl,qH rfl,qI ne,qH rfl];rfl
  ·rw[qE z,qI (Ne.symm z)];simp
 lia
noncomputable def Ii(g lo:Int)(b9:List Int)(m:Nat)(x:Int->Int):Int->Int:=λz=>Cy g (lo+z) b9 m x
theorem Ll(g lo:Int)(b9:List Int)(m:Nat)(x:Int->Int)(k:Int):Cy g lo b9 m (λz=>x (z+k))=Cy g (lo+k) b9 m x:=by
 unfold Cy BU
 congr 4
 funext j
 show x (lo+(j:Int)+k)=x (lo+k+(j:Int))
 congr 1
 lia
theorem Qf{g:Int}{m:Nat}(al:Bp g lo b9 m lo' tab' m'){x:Int->Int}(hx:GB g x):Ii g lo b9 m x=Ii g lo' tab' m' x:=by
 funext z
 have y:=al (λu=>x (u+z)) λu=>hx _
 rw[Ll,Ll]at y;exact y
theorem Ij{g:Int}(hg:2<=g)(tb:∀n∈b9,0<=n/\n<g)(lo:Int)(m:Nat)(x:Int->Int):GB g (Ii g lo b9 m x):=λz=>B7 hg tb _
theorem Fs(g lo:Int)(b9:List Int){m:Nat}(m1:1<=m)(x:Int->Int)(u:Int)(n:Nat):BU (Ii g lo b9 m x) u n=Ap g b9 m (BU x (lo+u) (m+n-1)):=by refine Aq (by rw[A6,BH,A6];lia) λj hj=>?_;rw[A6]at hj;rw[B3 _ _ hj,DA (by rw[A6];lia),<-KY x (show j+m<=m+n-1 by lia)];show b9.getD (Av g (BU x (lo+(u+(j:Int))) m)).toNat 0=_;rw[show lo+(u+(j:Int))=lo+u+(j:Int) by lia]
section
variable{g:Int}(hg:2<=g)(hl:(tf.length:Int)=g^mf)(m2:2<=mf)(hb:∀n∈tf,0<=n/\n<g){ba left:Nat}(B:Dl g tf mf ba left){bf:Nat}(em:ba+left+2=mf+bf)
include hg hl m2 hb B em
theorem Dl.back(lf:Int){x:Int->Int}(hx:GB g x)(z:Int):Cy g (-lf-(ba:Int)+z) (Jj g tf mf ba bf) bf (Ii g lf tf mf x)=x z:=by
 unfold Cy;rw[Fs g lf tf (by lia)];have vb:=Du hx (lf+(-lf-(ba:Int)+z)) (mf+bf-1);have vl:=A6 x (lf+(-lf-(ba:Int)+z)) (mf+bf-1);have a:=Dl.at hg hl m2 hb B em vb (by rw[vl]);have cb:=FY hg hb mf (BU x (lf+(-lf-(ba:Int)+z)) (mf+bf-1));have nb:=BN hg cb;rw[BH,vl,show mf+bf-1+1-mf=bf by lia]at nb;unfold Jj;rw[Aj (by lia),a,B3 _ _ (by lia)]
 congr 1
 lia
theorem Dl.there(lf:Int){y:Int->Int}(hy:GB g y)(z:Int):Cy g (lf+z) tf mf (Ii g (-lf-(ba:Int)) (Jj g tf mf ba bf) bf y)=y z:=by
 obtain⟨rk,hr,_⟩:=B.ex;obtain⟨w,wl,wb,we⟩:=LW hg hl m2 hb hr (Du hy (z-(ba:Int)) (mf+bf-1));have hx:=Bu hg wb (lf+(z-(ba:Int)));obtain⟨x,hxe⟩:∃x,x=Bo w (lf+(z-(ba:Int))):=⟨_,rfl⟩;rw[<-hxe]at hx;rw[A6]at wl
 have ix:BU (Ii g lf tf mf x) (z-(ba:Int)) (mf+bf-1)=BU y (z-(ba:Int)) (mf+bf-1):=by rw[Fs g lf tf (by lia),hxe,<-we,show mf+(mf+bf-1)-1=w.length by lia,Cb]
 have at':∀j:Nat,j<mf+bf-1->Ii g lf tf mf x (z-(ba:Int)+(j:Int))=y (z-(ba:Int)+(j:Int)):=λj hj=>by have e:=congrArg (λl:List Int=>l.getD j 0) ix;have e:(BU (Ii g lf tf mf x) (z-(ba:Int)) (mf+bf-1)).getD j 0=(BU y (z-(ba:Int)) (mf+bf-1)).getD j 0:=e;rw[B3 _ _ hj,B3 _ _ hj]at e;exact e
 have wx:BU (Ii g (-lf-(ba:Int)) (Jj g tf mf ba bf) bf y) (lf+z) mf=BU x (lf+z) mf:=by
  unfold BU;refine Yg λj hj=>?_;have hj:=Yc.mp hj;rw[<-Dl.back hg hl m2 hb B em lf hx (lf+z+(j:Int))];show Cy g (-lf-(ba:Int)+(lf+z+(j:Int))) _ bf y=_;unfold Cy BU
  congr 3
  refine Yg λk hk=>?_;have hk:=Yc.mp hk;have e:=at' (j+k) (by lia);rw[show -lf-(ba:Int)+(lf+z+(j:Int))+(k:Int)=z-(ba:Int)+((j+k:Nat):Int) by lia];exact e.symm
 have e:=at' ba (by lia);rw[show z-(ba:Int)+((ba:Nat):Int)=z by lia]at e;rw[<-e];show tf.getD (Av g (BU _ (lf+z) mf)).toNat 0=tf.getD (Av g (BU x (lf+z) mf)).toNat 0;rw[wx]
end
theorem Jn{g:Int}(hg:2<=g){m:Nat}(m1:1<=m){lw:Int}{W:List Int}{n:Nat}(n1:1<=n)(h:∀x,GB g x->Cy g lw W n (Ii g lo b9 m x)=x 0):
  ∃at':Nat,((at':Nat):Int)=0-lo-lw/\at'<m+n-1/\∀v:List Int,v.length=m+n-1->(∀k∈v,0<=k/\k<g)->W.getD (Av g (Ap g b9 m v)).toNat 0=v.getD at' 0:=by
 have rng:0<=0-lo-lw/\0-lo-lw<(m:Int)+(n:Int)-1:=by
  apply Decidable.byContradiction;intro z;have h1:=h (λu=>if u=0 then 1 else 0) λu=>by dsimp only;split<;>lia
  have h0:=h (λ_=>0) λu=>by dsimp only;lia
  have e:BU (Ii g lo b9 m (λu=>if u=0 then 1 else 0)) lw n=BU (Ii g lo b9 m (λ_=>0)) lw n:=by
   rw[Fs g lo b9 m1,Fs g lo b9 m1]
   congr 1
   unfold BU;refine Yg λj hj=>?_;have:=Yc.mp hj;show (if lo+lw+(j:Int)=0 then (1:Int) else 0)=0;rw[qE (by lia)]
  unfold Cy at h1 h0;rw[e,h0]at h1;exact qG h1 (by decide)
 refine⟨(0-lo-lw).toNat,by lia,by lia,λv vl vb=>?_⟩;have z:=h (Bo v (lo+lw)) (Bu hg vb _);unfold Cy at z;rw[Fs g lo b9 m1,<-vl,Cb]at z;rw[z];show sn v (0-(lo+lw))=_;rw[show 0-(lo+lw)=(((0-lo-lw).toNat:Nat):Int) by lia,DX (by lia)]
theorem Qg{g:Int}(hg:2<=g){m:Nat}{y y':Int->Int}(hy:GB g y)(hy':GB g y')(e:∀j:Nat,j<m->lo+(j:Int)≠z->y (lo+(j:Int))=y' (lo+(j:Int)))(ne:Cy g lo b9 m y≠Cy g lo b9 m y'):Pq g (Cy g lo b9 m) z:=by
 by_cases c:Cy g lo b9 m y=Cy g lo b9 m λu=>if u=z then 0 else y u
 ·refine⟨y',hy',λc'=>ne ?_⟩;rw[c,c'];unfold Cy BU
  congr 3
  refine Yg λj hj=>?_;show (if lo+(j:Int)=z then 0 else y (lo+(j:Int)))=if lo+(j:Int)=z then 0 else y' (lo+(j:Int))
  by_cases w:lo+(j:Int)=z
  ·rw[qF w,qF w]
  ·rw[qE w,qE w,e j (Yc.mp hj) w]
 ·exact⟨y,hy,c⟩
noncomputable def yW(g:Int)(mf:Nat)(al:Nat->Nat):Nat->List Int
 |0=>Af g (al 0:Int) mf
 |k+1=>yW g mf al k++[((al (k+1)%g.toNat:Nat):Int)]
section
variable{g:Int}(hg:2<=g)(m2:2<=mf)
include hg m2
theorem Qh{al:Nat->Nat}{n:Nat}(lt:∀i,i<n->((al i:Nat):Int)<g^mf)(nx:∀i,i+1<n->((al i:Nat):Int)%g^(mf-1)=((al (i+1)/g.toNat:Nat):Int)):∀k,k<n->(yW g mf al k).length=mf+k/\(∀s∈yW g mf al k,0<=s/\s<g)/\∀i,i<=k->Av g (((yW g mf al k).drop i).take mf)=(al i:Int)
 |0,h0=>by
  refine⟨A1 ..,Bd hg _ _,λi hi=>?_⟩;obtain rfl:i=0:=by lia
  show Av g (((Af g (al 0:Int) mf).drop 0).take mf)=_;rw[Zt,ZI (by rw[A1];exact YL _),Dg hg (by lia) (lt 0 h0)]
 |k+1,hk=>by
  obtain⟨l1,b1,w1⟩:=Qh lt nx k (by lia)
  have sb:0<=((al (k+1)%g.toNat:Nat):Int)/\((al (k+1)%g.toNat:Nat):Int)<g:=by have:=Yz (al (k+1)) (show 0<g.toNat by lia);lia
  refine⟨by show (yW g mf al k++[_]).length=_;rw[YN,l1];rfl,λs hs=>(YR.mp hs).elim (b1 s) λz=>by rw[YT.mp z];exact sb,λi hi=>?_⟩;show Av g (((yW g mf al k++[((al (k+1)%g.toNat:Nat):Int)]).drop i).take mf)=_
  by_cases z:i<=k
  ·rw[List.drop_append_of_le_length (by lia),List.take_append_of_le_length (by rw[Yi];lia)];exact w1 i z
  ·obtain rfl:i=k+1:=by lia
   rw[List.drop_append_of_le_length (by lia),List.take_of_length_le (by rw[List.length_append,List.length_drop];simp only[List.length_cons,List.length_nil];lia),C5];have wk:=w1 k (YL _);have dk:((yW g mf al k).drop k).take mf=(yW g mf al k).drop k:=ZI (by rw[Yi];lia);rw[dk]at wk
   have c:(yW g mf al k).drop k=(yW g mf al k).getD k 0::(yW g mf al k).drop (k+1):=by rw[ZG (show k<(yW g mf al k).length by lia),YH,YI (by lia)];rfl
   have bd:∀s∈(yW g mf al k).drop (k+1),0<=s/\s<g:=λs hs=>b1 s (Y0 hs)
   have nl:=BN hg bd;rw[Yi,show (yW g mf al k).length-(k+1)=mf-1 by lia]at nl;rw[c,II,Yi,show (yW g mf al k).length-(k+1)=mf-1 by lia]at wk;have e:=nx k hk;rw[<-wk,ao,aO,Yr nl.1 nl.2]at e;rw[e];have hG:(g.toNat:Int)=g:=by lia
   have:=aP (al (k+1)) g.toNat;have y:((al (k+1)/g.toNat:Nat):Int)*g+((al (k+1)%g.toNat:Nat):Int)=((g.toNat*(al (k+1)/g.toNat)+al (k+1)%g.toNat:Nat):Int):=by rw[ZF,ZE,hG,Zh]
   rw[y,this]
omit hg m2
theorem Lm{h a:Nat}(g2:2<=g)(hG:G=g.toNat)(hh:(h:Int)=g^(mf-1))(m2:2<=mf)(ha:a<h*G):((a:Nat):Int)<g^mf:=by
 have e:g^mf=g^(mf-1)*g:=by rw[<-Ym];congr 1;lia
 rw[e,<-hh,show g=(G:Int) by lia,<-ZE];lia
end
section
variable{g:Int}(hg:2<=g)(hl:(tf.length:Int)=g^mf)(m2:2<=mf)(hb:∀n∈tf,0<=n/\n<g)
include hg hl m2
theorem Jo{n:Nat}(n1:1<=n)(st:∀i,i<n->Gi g.toNat (tf.length/g.toNat) tf (q i) (q (i+1)))(ne:∀i,0<i->i<n->q i≠(0,0)):
  ∃Y Z:List Int,Y.length=mf+n-1/\Z.length=mf+n-1/\(∀s∈Y,0<=s/\s<g)/\(∀s∈Z,0<=s/\s<g)/\Ap g tf mf Y=Ap g tf mf Z/\(∀i,i<n->(Y.drop i).take mf≠(Z.drop i).take mf) /\
   (q 0=(0,0)->Y.take (mf-1)=Z.take (mf-1))/\(q n=(0,0)->Y.drop n=Z.drop n):=by
 obtain⟨hd,hm⟩:=Az hg hl (show 1<=mf by lia);obtain⟨h,hh⟩:∃h,h=tf.length/g.toNat:=⟨_,rfl⟩;rw[<-hh]at hd hm st;have hp:=RW.Ab hg (mf-1);have G0:0<g.toNat:=by lia
 have ch:∀i,∃a b,i<n->(a<h*g.toNat/\b<h*g.toNat/\a≠b/\tf.getD a 0=tf.getD b 0/\q i=C0 (a/g.toNat,b/g.toNat)/\q (i+1)=C0 (a%h,b%h)):=λi=>by
  by_cases z:i<n
  ·obtain⟨a,b,s⟩:=st i z;exact⟨a,b,λ_=>s⟩
  ·exact⟨0,0,λy=>qG y z⟩
 obtain⟨al,hal⟩:=Classical.axiomOfChoice ch;obtain⟨bl,hab⟩:=Classical.axiomOfChoice hal
 have nin:∀{p p':Nat×Nat},C0 p=C0 p'->C0 p≠(0,0)->p=p':=λ{p p'} e z=>by
  unfold C0 at e z
  by_cases y:p.1=p.2
  ·rw[qF y]at z;exact qG rfl z
  ·rw[qE y]at e
   by_cases y':p'.1=p'.2
   ·rw[qF y']at e;rw[e]at y;exact qG rfl y
   ·rw[qE y']at e;exact e
 have nxt:∀i,i+1<n->al i%h=al (i+1)/g.toNat/\bl i%h=bl (i+1)/g.toNat:=λi hi=>by
  obtain⟨_,_,_,_,_,e1⟩:=hab i (by lia);obtain⟨_,_,_,_,e2,_⟩:=hab (i+1) hi;have e:=nin (e1.symm.trans e2) (by rw[<-e1];exact ne (i+1) (by lia) hi)
  injection e with e3 e4
  exact⟨e3,e4⟩
 have la:∀i,i<n->((al i:Nat):Int)<g^mf:=λi hi=>Lm hg rfl hd m2 (hab i hi).1
 have lb:∀i,i<n->((bl i:Nat):Int)<g^mf:=λi hi=>Lm hg rfl hd m2 (hab i hi).2.1
 obtain⟨l1,b1,w1⟩:=Qh hg m2 la (λi hi=>by rw[<-hd,<-Yk,(nxt i hi).1]) (n-1) (by lia);obtain⟨l2,b2,w2⟩:=Qh hg m2 lb (λi hi=>by rw[<-hd,<-Yk,(nxt i hi).2]) (n-1) (by lia);generalize yW g mf al (n-1)=Y at *;generalize yW g mf bl (n-1)=Z at *;have wb:∀{Y:List Int} (i:Nat),(∀s∈Y,0<=s/\s<g)->∀s∈(Y.drop i).take mf,0<=s/\s<g:=λ{Y} i hb s hs=>hb s (Y0 (ZB hs))
 have wlen:∀{Y:List Int} {i:Nat},Y.length=mf+(n-1)->i<n->((Y.drop i).take mf).length=mf:=λ{Y i} l hi=>by rw[Ys,Yi];lia
 refine⟨Y,Z,by lia,by lia,b1,b2,?_,λi hi e=>?_,λz=>?_,λz=>?_⟩
 ·refine Aq (by rw[BH,BH,l1,l2]) λi hi=>?_;rw[BH,l1]at hi;have hin:i<n:=by lia
  rw[DA (by lia),DA (by lia),w1 i (by lia),w2 i (by lia),YM,YM];exact (hab i hin).2.2.2.1
 ·have e:=congrArg (Av g) e;rw[w1 i (by lia),w2 i (by lia)]at e;exact (hab i hi).2.2.1 (by lia)
 ·have e:al 0/g.toNat=bl 0/g.toNat:=by
   obtain⟨_,_,_,_,e2,_⟩:=hab 0 (by lia);rw[z]at e2;unfold C0 at e2
   split at e2
   ·assumption
   ·injection e2 with x1 x2
    lia
  have t:∀{Y:List Int} {c:Nat},Y.length=mf+(n-1)->(∀s∈Y,0<=s/\s<g)->Av g ((Y.drop 0).take mf)=(c:Int)->Av g (Y.take (mf-1))=((c/g.toNat:Nat):Int):=λ{Y c} l hb e=>by
   rw[Zt]at e
   have s:Y.take mf=Y.take (mf-1)++[Y.getD (mf-1) 0]:=by rw[show mf=mf-1+1 by lia,ZJ,YI (by lia),YH,show mf-1+1-1=mf-1 by lia,YI (by lia)];rfl
   have sb:0<=Y.getD (mf-1) 0/\Y.getD (mf-1) 0<g:=B7 hg hb _;rw[s,C5]at e;rw[Zq,<-e,show ((g.toNat:Nat):Int)=g by lia,ao,Int.add_mul_ediv_right _ _ (by lia),aC sb.1 sb.2,Yj]
  have c1:=t l1 b1 (w1 0 (ZT _));have c2:=t l2 b2 (w2 0 (ZT _));exact KM hg (λs hs=>b1 s (ZB hs)) (λs hs=>b2 s (ZB hs)) (by rw[Ys,Ys,l1,l2]) (by rw[c1,c2,e])
 ·have e:al (n-1)%h=bl (n-1)%h:=by
   obtain⟨_,_,_,_,_,e2⟩:=hab (n-1) (by lia);rw[show n-1+1=n by lia,z]at e2;unfold C0 at e2
   split at e2
   ·assumption
   ·injection e2 with x1 x2
    lia
  have t:∀{Y:List Int} {c:Nat},Y.length=mf+(n-1)->(∀s∈Y,0<=s/\s<g)->Av g ((Y.drop (n-1)).take mf)=(c:Int)->Av g (Y.drop n)=((c%h:Nat):Int):=λ{Y c} l hb e=>by
   rw[ZI (by rw[Yi];lia)]at e
   have s:Y.drop (n-1)=Y.getD (n-1) 0::Y.drop n:=by rw[ZG (show n-1<Y.length by lia),YH,YI (by lia),show n-1+1=n by lia];rfl
   have nl:=BN hg (ns:=Y.drop n) λs hs=>hb s (Y0 hs)
   rw[Yi,show Y.length-n=mf-1 by lia]at nl;rw[s,II,Yi,show Y.length-n=mf-1 by lia]at e;rw[Yk,<-e,hd,ao,aO,Yr nl.1 nl.2]
  have c1:=t l1 b1 (w1 (n-1) (YL _));have c2:=t l2 b2 (w2 (n-1) (YL _));exact KM hg (λs hs=>b1 s (Y0 hs)) (λs hs=>b2 s (Y0 hs)) (by rw[Yi,Yi,l1,l2]) (by rw[c1,c2,e])
end
structure Q3(g:Int)(tf:List Int)(mf ba left:Nat):Prop where
 b:Dl g tf mf ba left
 ev:∃q:Nat->Nat×Nat,q ba=(0,0)/\∀i,i<ba->Gi g.toNat (tf.length/g.toNat) tf (q i) (q (i+1))
 lv:∃q:Nat->Nat×Nat,q 0=(0,0)/\∀i,i<left->Gi g.toNat (tf.length/g.toNat) tf (q i) (q (i+1))
theorem Eb{rk:Nat×Nat->Nat}(hr:∀p q,S p q->rk p<rk q){n:Nat}(st:∀i,i<n->S (q i) (q (i+1))):∀(k i:Nat),i+k<=n->rk (q i)+k<=rk (q (i+k))
 |0,i,_=>YL _
 |k+1,i,h=>by have a:=Eb hr st k i (by lia);have b:=hr _ _ (st (i+k) (by lia));rw[show i+(k+1)=i+k+1 by lia];lia
variable{Y Z:List Int}
theorem Ln{a:Int}(l:Y.length=Z.length)(h:∀j:Nat,j<Y.length->(j:Int)=z-a->Y.getD j 0=Z.getD j 0):Bo Y a z=Bo Z a z:=by
 unfold Bo sn;rw[l]
 by_cases c:z-a<0\/(Z.length:Int)<=z-a
 ·rw[qF c,qF c]
 ·rw[qE c,qE c];exact h (z-a).toNat (by lia) (by lia)
theorem SK{n:Nat}(h:Y.drop n=Z.drop n)(hj:n<=j):Y.getD j 0=Z.getD j 0:=by have e:=congrArg (λl:List Int=>l.getD (j-n) 0) h;have e:(Y.drop n).getD (j-n) 0=(Z.drop n).getD (j-n) 0:=e;rw[CP,CP,show n+(j-n)=j by lia]at e;exact e
theorem SL{n:Nat}(h:Y.take n=Z.take n)(hj:j<n):Y.getD j 0=Z.getD j 0:=by have e:=congrArg (λl:List Int=>l.getD j 0) h;have e:(Y.take n).getD j 0=(Z.take n).getD j 0:=e;rw[Cz hj,Cz hj]at e;exact e
section
variable{g:Int}(hg:2<=g)(hl:(tf.length:Int)=g^mf)(m2:2<=mf)(hb:∀n∈tf,0<=n/\n<g){ba left:Nat}(X:Q3 g tf mf ba left)
include hg hl m2
theorem TF(ly:Y.length=Z.length)(le:Ap g tf mf Y=Ap g tf mf Z){a u:Int}(hi:i+mf<=Y.length)(e:u=a+(i:Int)):Ii g 0 tf mf (Bo Y a) u=Ii g 0 tf mf (Bo Z a) u:=by
 have one:∀{Y:List Int},i+mf<=Y.length->Ii g 0 tf mf (Bo Y a) u=(Ap g tf mf Y).getD i 0:=λ{Y} hi=>by rw[DA hi];show tf.getD (Av g (BU (Bo Y a) (0+u) mf)).toNat 0=_;rw[Nd,show 0+u-a=((i:Nat):Int) by lia,Hj hi]
 rw[one hi,one (by rw[<-ly];exact hi),le]
omit hl m2 in
theorem Nx{x x':Int->Int}{u:Int}(h:∀j:Nat,j<mf->x (u+(j:Int))=x' (u+(j:Int))):Ii g 0 tf mf x u=Ii g 0 tf mf x' u:=by
 show tf.getD (Av g (BU x (0+u) mf)).toNat 0=tf.getD (Av g (BU x' (0+u) mf)).toNat 0
 congr 3
 unfold BU;exact Yg λj hj=>by rw[Yj];exact h j (Yc.mp hj)
include X
theorem M6:∃x x',GB g x/\GB g x'/\x 0≠x' 0/\∀u:Int,1-(ba:Int)<=u->Ii g 0 tf mf x u=Ii g 0 tf mf x' u:=by
 obtain⟨q,qe,st⟩:=X.ev;obtain⟨rk,hr,_⟩:=X.b.ex
 by_cases e0:ba=0
 ·subst e0;refine⟨λu=>if u=0 then 1 else 0,λ_=>0,λu=>by dsimp only;split<;>lia,λu=>by dsimp only;lia,by show (1:Int)≠0;decide,λu hu=>Nx hg λj hj=>?_⟩;show (if u+(j:Int)=0 then (1:Int) else 0)=0;rw[qE (by lia)]
 ·have ne:∀i,0<i->i<ba->q i≠(0,0):=λi _ hi z=>by
   have:=Eb hr st (ba-i) i (by lia);rw[show i+(ba-i)=ba by lia,qe,z]at this;lia
  obtain⟨Y,Z,l1,l2,b1,b2,le,wn,_,dr⟩:=Jo hg hl m2 (by lia) st ne;have dr:=dr qe
  have n0:Y.getD (ba-1) 0≠Z.getD (ba-1) 0:=λz=>wn (ba-1) (by lia) (by
   have c:∀{Y:List Int},Y.length=mf+ba-1->Y.drop (ba-1)=Y.getD (ba-1) 0::Y.drop ba:=λ{Y} l=>by rw[ZG (show ba-1<Y.length by lia),YH,YI (by lia),show ba-1+1=ba by lia];rfl
   rw[c l1,c l2,z,dr])
  have eq1:∀z:Int,1<=z->Bo Y (1-(ba:Int)) z=Bo Z (1-(ba:Int)) z:=λz hz=>Ln (by lia) λj _ e=>SK dr (by lia)
  refine⟨Bo Y (1-(ba:Int)),Bo Z (1-(ba:Int)),Bu hg b1 _,Bu hg b2 _,?_,λu hu=>?_⟩
  ·show sn Y (0-(1-(ba:Int)))≠sn Z (0-(1-(ba:Int)));rw[show 0-(1-(ba:Int))=((ba-1:Nat):Int) by lia,DX (by lia),DX (by lia)];exact n0
  ·by_cases c:u<=0
   ·exact TF hg hl m2 (by lia) le (i:=(u-(1-(ba:Int))).toNat) (by lia) (by lia)
   ·exact Nx hg λj hj=>eq1 _ (by lia)
theorem Ow:∃x x',GB g x/\GB g x'/\x 0≠x' 0/\∀u:Int,u<=(left:Int)-(mf:Int)->Ii g 0 tf mf x u=Ii g 0 tf mf x' u:=by
 obtain⟨q,qe,st⟩:=X.lv;obtain⟨rk,hr,_⟩:=X.b.ex
 by_cases e0:left=0
 ·subst e0;refine⟨λu=>if u=0 then 1 else 0,λ_=>0,λu=>by dsimp only;split<;>lia,λu=>by dsimp only;lia,by show (1:Int)≠0;decide,λu hu=>Nx hg λj hj=>?_⟩;show (if u+(j:Int)=0 then (1:Int) else 0)=0;rw[qE (by lia)]
 ·have ne:∀i,0<i->i<left->q i≠(0,0):=λi hi hi2 z=>by
   have:=Eb hr st i 0 (by lia);rw[bV,qe,z]at this;lia
  obtain⟨Y,Z,l1,l2,b1,b2,le,wn,tk,_⟩:=Jo hg hl m2 (by lia) st ne;have tk:=tk qe
  have n0:Y.getD (mf-1) 0≠Z.getD (mf-1) 0:=λz=>wn 0 (by lia) (by
   have c:∀{Y:List Int},Y.length=mf+left-1->(Y.drop 0).take mf=Y.take (mf-1)++[Y.getD (mf-1) 0]:=λ{Y} l=>by rw[Zt,show mf=mf-1+1 by lia,ZJ,YI (by lia),YH,show mf-1+1-1=mf-1 by lia,YI (by lia)];rfl
   rw[c l1,c l2,z,tk])
  have eq1:∀z:Int,z<=-1->Bo Y (1-(mf:Int)) z=Bo Z (1-(mf:Int)) z:=λz hz=>Ln (by lia) λj _ e=>SL tk (by lia)
  refine⟨Bo Y (1-(mf:Int)),Bo Z (1-(mf:Int)),Bu hg b1 _,Bu hg b2 _,?_,λu hu=>?_⟩
  ·show sn Y (0-(1-(mf:Int)))≠sn Z (0-(1-(mf:Int)));rw[show 0-(1-(mf:Int))=((mf-1:Nat):Int) by lia,DX (by lia),DX (by lia)];exact n0
  ·by_cases c:1-(mf:Int)<=u
   ·exact TF hg hl m2 (by lia) le (i:=(u-(1-(mf:Int))).toNat) (by lia) (by lia)
   ·exact Nx hg λj hj=>eq1 _ (by lia)
include hb
theorem Q3.ends{bf:Nat}(em:ba+left+2=mf+bf)(m1:1<=bf):BL g (Jj g tf mf ba bf) (g^(bf-1))=true/\BL g (Jj g tf mf ba bf) 1=true:=by
 have wl:=Nr hg tf mf ba bf
 have bk:∀{x:Int->Int},GB g x->Cy g (-(ba:Int)) (Jj g tf mf ba bf) bf (Ii g 0 tf mf x)=x 0:=λ{x} hx=>by have z:=Dl.back hg hl m2 hb X.b em 0 hx 0;rw[Int.neg_zero,Int.zero_sub,Zc]at z;exact z
 refine⟨?_,?_⟩
 ·obtain⟨x,x',hx,hx',ne,eq⟩:=M6 hg hl m2 X;have d:Pq g (Cy g (-(ba:Int)) (Jj g tf mf ba bf) bf) (-(ba:Int)+((0:Nat):Int)):=Qg hg (Ij hg hb 0 mf x) (Ij hg hb 0 mf x') (λj hj n=>eq _ (by lia)) (by rw[bk hx,bk hx'];exact ne);have z:=(Ek hg wl (show 0<bf by lia)).mpr d;rw[aK]at z;exact z
 ·obtain⟨x,x',hx,hx',ne,eq⟩:=Ow hg hl m2 X;have d:Pq g (Cy g (-(ba:Int)) (Jj g tf mf ba bf) bf) (-(ba:Int)+((bf-1:Nat):Int)):=Qg hg (Ij hg hb 0 mf x) (Ij hg hb 0 mf x') (λj hj n=>eq _ (by lia)) (by rw[bk hx,bk hx'];exact ne);have z:=(Ek hg wl (show bf-1<bf by lia)).mpr d;rw[Zn,Yq]at z;exact z
end
def FG(g:Int)(tf:List Int)(mf:Nat):Prop:=g^(mf-1)<=9/\∀rk,¬FC g.toNat (tf.length/g.toNat) tf rk
def Kf(g:Int)(tf:List Int)(mf:Nat):Prop:=9<g^(mf-1)\/(g^(mf-1)<=9/\∃ba left bf,Q3 g tf mf ba left/\ba+left+2=mf+bf/\256<g^bf)
theorem UK{g:Int}{m:Nat}(h0:0<b9.length/g.toNat){M':List (Nat×Nat)}{f':Nat×Nat->Nat}(r:On (b9.length/g.toNat) (Gi g.toNat (b9.length/g.toNat) b9) M f)(all:∀p∈BR (b9.length/g.toNat),p∈M)(r':On (b9.length/g.toNat) (λa b=>Gi g.toNat (b9.length/g.toNat) b9 b a) M' f'):(∀p∈BR (b9.length/g.toNat),p∈M')/\Q3 g b9 m (f (0,0)) (f' (0,0)):=by
 obtain⟨al,bk⟩:=Vu (m:=m) h0 r all r';have ev:(0,0)∈BR (b9.length/g.toNat):=ET.mpr (.inl rfl)
 have way:∀{S:Nat×Nat->Nat×Nat->Prop} {M:List (Nat×Nat)} {f:Nat×Nat->Nat},On (b9.length/g.toNat) S M f->∀(n:Nat) (p:Nat×Nat),p∈M->f p=n->∃q:Nat->Nat×Nat,q n=p/\∀i,i<n->S (q i) (q (i+1)):=by
  intro S M f r n
  induction n with
  |zero=>intro p _ _;exact⟨λ_=>p,rfl,λi hi=>qG hi (aN _)⟩
  |succ n ih =>
   intro p hp e;rcases r.top p hp with z|⟨q,s,hq,z⟩
   ·lia
   ·obtain⟨w,w1,w2⟩:=ih q hq (by lia);refine⟨λi=>if i<=n then w i else p,qE (by lia),λi hi=>?_⟩;show S (if i<=n then w i else p) (if i+1<=n then w (i+1) else p);rw[qF (by lia)]
    by_cases y:i+1<=n
    ·rw[qF y];exact w2 i (by lia)
    ·rw[qE y,show i=n by lia,w1];exact s
 refine⟨al,bk,?_,?_⟩
 ·obtain⟨q,h1,h2⟩:=way r _ (0,0) (all _ ev) rfl;exact⟨q,h1,h2⟩
 ·obtain⟨q,h1,h2⟩:=way r' _ (0,0) (al _ ev) rfl;refine⟨λi=>q (f' (0,0)-i),by show q (f' (0,0)-0)=_;rw[aK,h1],λi hi=>?_⟩;have z:=h2 (f' (0,0)-(i+1)) (by lia);rw[show f' (0,0)-(i+1)+1=f' (0,0)-i by lia]at z;exact z
inductive Ik(CT:Addr)(vs:List V)(H:Hp)(Q:VK)(E:XK):Prop
 |m (r:Addr) (g lo:Int) (b9:List Int) (m:Nat) (lf:Int) (tf:List Int) (mf:Nat):vs=[.ref r]->Ah H r g lo b9 m->A7 g lo b9 m lf tf mf->(9<g^(mf-1)->∀H',AI H H'->E (.ref CT) none H')->(FG g tf mf->∀H',AI H H'->Q .non H')->(g^(mf-1)<=9->∀p D H' M f,AI H H'->H' p=some (.tup [.int (f (0,0):Nat),.ref D])->On (tf.length/g.toNat) (Gi g.toNat (tf.length/g.toNat) tf) M f->(∀p∈BR (tf.length/g.toNat),p∈M)->Q (.ref p) H')->Ik CT vs H Q E
inductive FH(CN CT:Addr)(vs:List V)(H:Hp)(Q:VK)(E:XK):Prop
 |m (r:Addr) (g lo:Int) (b9:List Int) (m:Nat) (lf:Int) (tf:List Int) (mf:Nat):vs=[.ref r]->Ah H r g lo b9 m->A7 g lo b9 m lf tf mf->(FG g tf mf->∀H',AI H H'->E (.ref CN) none H')->(Kf g tf mf->∀H',AI H H'->E (.ref CT) none H')->(g^(mf-1)<=9->∀ba left bf,Q3 g tf mf ba left->ba+left+2=mf+bf->1<=bf->g^bf<=256->∀r' H',AI H H'->Ah H' r' g (-lf-(ba:Int)) (Jj g tf mf ba bf) bf->Q (.ref r') H')->FH CN CT vs H Q E
noncomputable def Ox(c:Int):Nat->Int
 |0=>c%2147483647+48271
 |k+1=>(Ox c k*48271+(k:Int)*(k:Int)+11)%2147483647
noncomputable def D7(c:Int)(m:Nat):List Int:=(List.range m).map λk=>Ox c (k+1)/7
theorem Ec(c:Int)(m:Nat):(D7 c m).length=m:=by unfold D7;rw[List.length_map,List.length_range]
theorem Kg(c:Int)(m:Nat):∀x∈D7 c m,0<=x/\x<2147483647:=λx hx=>by unfold D7 at hx;obtain⟨k,_,rfl⟩:=Yd.mp hx;show 0<=(Ox c k*48271+(k:Int)*(k:Int)+11)%2147483647/7/\(Ox c k*48271+(k:Int)*(k:Int)+11)%2147483647/7<2147483647;generalize Ox c k*48271+(k:Int)*(k:Int)+11=u;lia
inductive Il(vs:List V)(H:Hp)(Q:VK)(z3_:XK):Prop
 |m (c m:Int):vs=[.int c,.int m]->0<=m->m<=300->(∀(r:Addr) (H':Hp),AI H H'->H r=none->H' r=some (.lst ((D7 c m.toNat).map V.int))->Q (.ref r) H')->Il vs H Q z3_
abbrev xn(l:List Int)(i:Nat):Nat:=(l.getD i 0).toNat
noncomputable def D8(k G:Nat)(l:List Int):Nat:=
 if k=1 then (if G=9\/(G=6/\xn l 10%2=1) then 3 else if G=8/\xn l 10%2=1 then 4 else 2)
 else if k=2 then 1+xn l 10%(G-2)
 else if k=3 then xn l 10%2+2*(xn l 11%2)
 else if k=4 then (if G=9 then (1+xn l 10%2+xn l 11%3*3)*16+xn l 12%3*3 else (1+xn l 10%4*2)%G*16+xn l 12%(G/2)*2)
 else 0
noncomputable def JJ(k:Nat)(l:List Int):Nat:=if k=3 then 0 else xn l 14%2
noncomputable def DG(k G:Nat)(l:List Int)(a:Nat):Nat:=if k=0 then a else if k=4 then (Ci 4 G (D8 4 G l) (JJ 4 l) a+xn l 13)%G else Ci k G (D8 k G l) (JJ k l) a
def KG(k G:Nat):Prop:=(k=0/\2<=G/\G<=9)\/(k=1/\(G=4\/G=6\/G=8\/G=9))\/(k=2/\3<=G/\G<=7)\/(k=3/\G=2)\/(k=4/\(G=4\/G=8\/G=9))\/(k=5/\G=8)\/(k=6/\5<=G/\G<=7)
noncomputable def mK(k:Nat):Nat:=if k=0 then 1 else if k=3 then 4 else 2
noncomputable def TH(k G:Nat)(l:List Int):Bool:=decide (k=5\/(k=6/\G=7)\/(k=4/\G=8/\xn l 12%2=1))
noncomputable def Bi.tw(c:Bi):Bool:=decide (c.k=5\/(c.k=6/\c.g=7)\/(c.k=4/\c.g=8/\c.s%16%4=2))
noncomputable def Bi.fits(c:Bi):Bool:=decide (c.h=(if c.k=3 then 8 else c.g)/\2<=c.g/\c.g<=9/\(c.k=3->c.g=2) /\
 (if c.tw=true then c.ch.length=3/\((c.ch.getD 0 (0,0)).1/c.g=(c.ch.getD 0 (0,0)).2/c.g\/(c.ch.getD 2 (0,0)).1%c.h=(c.ch.getD 2 (0,0)).2%c.h)/\256<c.g^3/\c.k≠3 else c.g^(c.top+2-(if c.k=3 then 4 else 2))<=256/\(if c.k=3 then 4 else 2)<=c.top+2))
theorem Jp:∀c∈Ep,c.fits=true:=by decide +kernel
theorem Jq{c:Bi}(hc:c∈Ep)(n:Nw c.g ν):Bm (c.g:Int) (BP (c.h*c.g) ν (Ci c.k c.g c.s c.d)) (if c.k=3 then 4 else 2) c.tw 0 (BP (c.h*c.g) ν (Ci c.k c.g c.s c.d)) (if c.k=3 then 4 else 2) c.top:=by
 have f:=of_decide_eq_true (Jp c hc);obtain⟨f1,f2,f3,f4,f5⟩:=f;have ok:=Qc c hc;have h0:0<c.h:=by rw[f1];split<;>lia
 have m2:2<=(if c.k=3 then 4 else 2):=by split<;>lia
 have hh:c.h=c.g^((if c.k=3 then 4 else 2)-1):=by
  rw[f1];split
  ·rename_i z;rw[f4 z]
  ·exact (Nat.pow_one c.g).symm
 have m3:3<=c.g->(if c.k=3 then 4 else 2)<=2:=λz=>by
  split
  ·rename_i y
   have:=f4 y;lia
  ·lia
 refine Qd (Bi.fam ok h0) n f2 f3 m2 (by split<;>lia) m3 hh (by rw[f1];split<;>lia) (λz=>?_) λz=>?_
 ·rw[qE (by rw[z];exact Ya)]at f5;refine⟨?_,f5.2⟩;have:=f5.1;rw[<-Zx];lia
 ·rw[qF z]at f5;obtain⟨c1,c2,c3,c4⟩:=f5;refine⟨_,_,c.ch.length,Bi.way ok,by lia,?_,?_,by rw[qE c4];lia⟩
  ·rw[c1];exact c2
  ·rw[c1,qE c4];show 256<(c.g:Int)^3;rw[<-Zx];lia
noncomputable def Kh(k G s d:Nat):Bool:=Ep.any λc=>Nat.beq c.k k&&Nat.beq c.g G&&Nat.beq c.s s&&Nat.beq c.d d
theorem DT{k s d:Nat}(e:Kh k G s d=true):∃c∈Ep,c.k=k/\c.g=G/\c.s=s/\c.d=d:=by obtain⟨c,hc,z⟩:=List.any_eq_true.mp e;simp only[Bool.and_eq_true]at z;exact⟨c,hc,ZK z.1.1.1,ZK z.1.1.2,ZK z.1.2,ZK z.2⟩
theorem SM{k:Nat}(h:KG k G)(k0:k≠0)(l:List Int)(p0:k=4->D8 4 G l%16≠0):∃c∈Ep,c.k=k/\c.g=G/\c.s=D8 k G l/\c.d=JJ k l:=by
 have md:∀{n m:Nat},0<m->n%m<m:=λh=>Yz _ h
 rcases h with⟨rfl,_⟩|⟨rfl,h⟩|⟨rfl,h⟩|⟨rfl,rfl⟩|⟨rfl,h⟩|⟨rfl,rfl⟩|⟨rfl,h⟩
 ·exact qG rfl k0
 ·have z:∀G∈[4,6,8,9],∀a<2,∀d<2,Kh 1 G (if G=9\/(G=6/\a=1) then 3 else if G=8/\a=1 then 4 else 2) d=true:=by decide +kernel
  exact DT (z G (by rcases h with rfl|rfl|rfl|rfl<;>decide) _ (md (by decide)) _ (md (by decide)))
 ·have z:∀G<8,3<=G->∀r<G-2,∀d<2,Kh 2 G (1+r) d=true:=by decide +kernel
  exact DT (z G (by lia) h.1 _ (md (by lia)) _ (md (by decide)))
 ·have z:∀a<2,∀b<2,Kh 3 2 (a+2*b) 0=true:=by decide +kernel
  exact DT (z _ (md (by decide)) _ (md (by decide)))
 ·have p0:=p0 rfl;rcases h with rfl|rfl|rfl
  ·have z:∀a<4,∀t<2,∀d<2,((1+a*2)%4*16+t*2)%16≠0->Kh 4 4 ((1+a*2)%4*16+t*2) d=true:=by decide +kernel
   exact DT (z _ (md (by decide)) _ (md (by decide)) _ (md (by decide)) p0)
  ·have z:∀a<4,∀t<4,∀d<2,((1+a*2)%8*16+t*2)%16≠0->Kh 4 8 ((1+a*2)%8*16+t*2) d=true:=by decide +kernel
   exact DT (z _ (md (by decide)) _ (md (by decide)) _ (md (by decide)) p0)
  ·have z:∀a<2,∀b<3,∀t<3,∀d<2,((1+a+b*3)*16+t*3)%16≠0->Kh 4 9 ((1+a+b*3)*16+t*3) d=true:=by decide +kernel
   exact DT (z _ (md (by decide)) _ (md (by decide)) _ (md (by decide)) _ (md (by decide)) p0)
 ·have z:∀d<2,Kh 5 8 0 d=true:=by decide +kernel
  exact DT (z _ (md (by decide)))
 ·have z:∀G<8,5<=G->∀d<2,Kh 6 G 0 d=true:=by decide +kernel
  exact DT (z G (by lia) h.1 _ (md (by decide)))
theorem FI{n:Nat}{ν':Nat->Int}{T T':Nat->Nat}(h:∀a,a<n->ν (T a)=ν' (T' a)):BP n ν T=BP n ν' T':=Yg λa ha=>h a (Yc.mp ha)
theorem SN(g a b:Int):Av g [a,b]=a*g+b:=by rw[show[a,b]=[a]++[b] from rfl,C5,KH]
theorem Qi(G2:2<=G){f:Nat->Nat}{x:Int->Int}(hx:GB (G:Int) x)(lo:Int):Cy (G:Int) lo (BP (G^2) ν f) 2 x=ν (f ((x lo).toNat*G+(x (lo+1)).toNat)):=by
 have a:=hx lo;have b:=hx (lo+1)
 have e:BU x lo 2=[x lo,x (lo+1)]:=by show[x (lo+((0:Nat):Int)),x (lo+((1:Nat):Int))]=_;rw[show lo+((0:Nat):Int)=lo by lia];rfl
 have e2:(x lo*(G:Int)+x (lo+1)).toNat=(x lo).toNat*G+(x (lo+1)).toNat:=by
  have z:x lo*(G:Int)+x (lo+1)=(((x lo).toNat*G+(x (lo+1)).toNat:Nat):Int):=by rw[ZF,ZE,YY a.1,YY b.1]
  rw[z,YM]
 have lt:(x lo).toNat*G+(x (lo+1)).toNat<G^2:=by have:=aS G (show (x lo).toNat+1<=G by lia);rw[Nat.succ_mul]at this;rw[Nat.pow_two];lia
 unfold Cy;rw[e,SN,e2,Bl lt]
theorem Qj{x:Int->Int}(hx:GB (G:Int) x)(lo:Int):Cy (G:Int) lo (BP G ν id) 1 x=ν (x lo).toNat:=by
 have a:=hx lo
 have e:BU x lo 1=[x lo]:=by show[x (lo+((0:Nat):Int))]=_;rw[show lo+((0:Nat):Int)=lo by lia]
 unfold Cy;rw[e,KH,Bl (by lia)];rfl
theorem SO{u:Nat}(h:(G=4/\(u=1\/u=3))\/(G=8/\(u=1\/u=3\/u=5\/u=7))\/(G=9/\(u=1\/u=2\/u=4\/u=5\/u=7\/u=8))):∀x y,x<G->y<G->u*x%G=u*y%G->x=y:=by
 rcases h with⟨rfl,h⟩|⟨rfl,h⟩|⟨rfl,h⟩
 ·rcases h with rfl|rfl<;>lia
 ·rcases h with rfl|rfl|rfl|rfl<;>lia
 ·rcases h with rfl|rfl|rfl|rfl|rfl|rfl<;>lia
theorem Ny(G0:0<G)(n:Nw G ν)(c:Nat):Nw G λv=>ν ((v+c)%G):=by
 refine⟨λx _=>n.lt _ (Yz _ G0),λx y hx hy e=>?_⟩;have z:=n.inj _ _ (Yz _ G0) (Yz _ G0) e;have c1:=Yz c G0;rw[bR x c,bR y c,Za hx,Za hy]at z;generalize c%G=r at z c1
 have f:∀x,x<G->(x+r)%G=if x+r<G then x+r else x+r-G:=λx hx=>by
  split
  ·exact Za ‹_›
  ·rw[Nat.mod_eq_sub_mod (by lia),Za (by lia)]
 rw[f x hx,f y hy]at z
 split at z<;>split at z<;>lia
theorem Qk{k:Nat}(h:KG k G)(l:List Int)(n:Nw G ν):∃d tf mf top,Bm (G:Int) (BP (G^mK k) ν (DG k G l)) (mK k) (TH k G l) d tf mf top:=by
 have G2:2<=G:=by unfold KG at h;lia
 have G9:G<=9:=by unfold KG at h;lia
 by_cases k0:k=0
 ·subst k0;have e:BP (G^mK 0) ν (DG 0 G l)=BP G ν id:=by rw[show G^mK 0=G from Nat.pow_one G];exact FI λa _=>rfl
  have z:=Ih (G:=G) n G2 G9 (b9:=BP G ν id) (m:=1) (YL _) (by decide) (by rw[B5,Ym,Yq,ZW]) (λx hx=>by unfold BP at hx;obtain⟨a,ha,rfl⟩:=Yd.mp hx;exact n.lt _ (Yc.mp ha)) (d:=0) (λlo x hx=>by rw[Zc])
  exact⟨_,_,_,_,by rw[e];exact z⟩
 by_cases p0:k=4/\D8 4 G l%16=0
 ·obtain⟨rfl,p0⟩:=p0;have hG:G=4\/G=8\/G=9:=by unfold KG at h;lia
  obtain⟨u,hu⟩:∃u,u=D8 4 G l/16:=⟨_,rfl⟩
  have uo:(G=4/\(u=1\/u=3))\/(G=8/\(u=1\/u=3\/u=5\/u=7))\/(G=9/\(u=1\/u=2\/u=4\/u=5\/u=7\/u=8)):=by
   have dv:∀{A t:Nat},t<16->u=(A*16+t)/16->u=A:=λh1 h2=>by lia
   rcases hG with rfl|rfl|rfl
   ·have e:=dv (t:=xn l 12%2*2) (by lia) hu;have z:∀r<4,(1+r*2)%4=1\/(1+r*2)%4=3:=by decide
    rw[e];exact .inl ⟨rfl,z _ (Yz _ (by decide))⟩
   ·have e:=dv (t:=xn l 12%4*2) (by lia) hu;have z:∀r<4,(1+r*2)%8=1\/(1+r*2)%8=3\/(1+r*2)%8=5\/(1+r*2)%8=7:=by decide
    rw[e];exact .inr (.inl ⟨rfl,z _ (Yz _ (by decide))⟩)
   ·have e:=dv (t:=xn l 12%3*3) (by lia) hu;have z:∀r<2,∀q<3,1+r+q*3=1\/1+r+q*3=2\/1+r+q*3=4\/1+r+q*3=5\/1+r+q*3=7\/1+r+q*3=8:=by decide
    rw[e];exact .inr (.inr ⟨rfl,z _ (Yz _ (by decide)) _ (Yz _ (by decide))⟩)
  have tw:TH 4 G l=false:=by
   unfold TH;refine qI λz=>?_;rcases z with z|⟨z,_⟩|⟨_,rfl,z⟩
   ·lia
   ·lia
   ·have p:D8 4 8 l=(1+xn l 10%4*2)%8*16+xn l 12%4*2:=rfl;rw[p,aR]at p0;clear p hu uo h hG n;lia
  have nu:Nw G λv=>ν ((u*v%G+xn l 13)%G):=by have na:=Ny (show 0<G by lia) n (xn l 13);exact⟨λx _=>na.lt _ (Yz _ (by lia)),λx y hx hy e=>SO uo x y hx hy (na.inj _ _ (Yz _ (by lia)) (Yz _ (by lia)) e)⟩
  have tl:((BP (G^2) ν (DG 4 G l)).length:Int)=(G:Int)^2:=by rw[B5,Zx]
  have tv:∀a,DG 4 G l a=((if JJ 4 l=0 then u*(a/G) else u*(a%G))%G+xn l 13)%G:=λa=>by
   show (Ci 4 G (D8 4 G l) (JJ 4 l) a+xn l 13)%G=_;unfold Ci Et;simp only[show ¬(4:Nat)=3 by decide,show ¬(4:Nat)=1 by decide,show ¬(4:Nat)=2 by decide,if_false,if_true];rw[p0,<-hu]
   by_cases c:JJ 4 l=0
   ·rw[qF c,qF c,Nat.zero_mul,bH]
   ·rw[qE c,qE c,Nat.zero_mul,bH]
  have tb:∀x∈BP (G^2) ν (DG 4 G l),0<=x/\x<(G:Int):=λx hx=>by unfold BP at hx;obtain⟨a,ha,rfl⟩:=Yd.mp hx;rw[tv];exact n.lt _ (Yz _ (by lia))
  rw[tw];clear uo hG hu p0 h tw k0
  by_cases c:JJ 4 l=0
  ·refine⟨0,_,_,_,Ih nu G2 G9 (m:=2) (by decide) (YL _) tl tb λlo x hx=>?_⟩;have a:=hx lo;have b:=hx (lo+1);rw[Zc,Qj hx,Qi G2 hx,tv,qF c,Cc (G:=G) (u:=(x lo).toNat) (by lia)]
  ·refine⟨1,_,_,_,Ih nu G2 G9 (m:=2) (by decide) (YL _) tl tb λlo x hx=>?_⟩;have a:=hx lo;have b:=hx (lo+1);rw[Qj hx,Qi G2 hx,tv,qE c,show ((x lo).toNat*G+(x (lo+1)).toNat)%G=(x (lo+1)).toNat by rw[am,Nat.add_mul_mod_self_right,Za (by lia)]]
 ·obtain⟨c,hc,rfl,rfl,e3,e4⟩:=SM h k0 l λe z=>p0 ⟨e,z⟩
  have fit:=of_decide_eq_true (Jp c hc);have mm:mK c.k=if c.k=3 then 4 else 2:=by unfold mK;rw[qE k0]
  have hp:c.h*c.g=c.g^mK c.k:=by
   rw[mm,fit.1];split
   ·rename_i z;rw[fit.2.2.2.1 z]
   ·exact (Nat.pow_two c.g).symm
  have tw:c.tw=TH c.k c.g l:=by
   unfold Bi.tw TH;refine decide_eq_decide.mpr (or_congr Iff.rfl (or_congr Iff.rfl (and_congr_right λy1=>and_congr_right λy2=>?_)));have p:D8 c.k c.g l=(1+xn l 10%4*2)%8*16+xn l 12%4*2:=by rw[y1,y2];rfl
   rw[e3,p,aR];generalize xn l 12=t;clear p y1 y2 hp mm fit;lia
  by_cases k4:c.k=4
  ·have na:=Ny (show 0<c.g by lia) n (xn l 13);have z:=Jq hc na;rw[hp,tw,<-mm]at z;have e:BP (c.g^mK c.k) ν (DG c.k c.g l)=BP (c.g^mK c.k) (λv=>ν ((v+xn l 13)%c.g)) (Ci c.k c.g c.s c.d):=FI λa _=>by show ν (DG c.k c.g l a)=ν ((Ci c.k c.g c.s c.d a+xn l 13)%c.g);unfold DG;rw[qE k0,qF k4,e3,e4,k4]
   rw[e];exact⟨_,_,_,_,z⟩
  ·have z:=Jq hc n;rw[hp,tw,<-mm]at z;have e:BP (c.g^mK c.k) ν (DG c.k c.g l)=BP (c.g^mK c.k) ν (Ci c.k c.g c.s c.d):=FI λa _=>by unfold DG;rw[qE k0,qE k4,e3,e4]
   rw[e];exact⟨_,_,_,_,z⟩
def Q4(H:Hp)(p:Addr)(l:List Int):Prop:=H p=some (.lst (l.map V.int))/\l.length=15/\∀x∈l,0<=x/\x<2147483647
theorem Q4.same{p:Addr}{l:List Int}(e:AI H H')(x:Q4 H p l):Q4 H' p l:=⟨e _ _ x.1,x.2⟩
theorem Q4.at{p:Addr}{l:List Int}(x:Q4 H p l)(hi:i<15):Kj (l.map V.int) ((i:Nat):Int)=some (.int ((xn l i:Nat):Int)):=by
 have hl:i<l.length:=by rw[x.2.1];exact hi
 have b:=x.2.2 (l.getD i 0) (by rw[YH,YI hl];exact ZM hl);rw[CZ hl,YY b.1]
inductive DU(k:Nat)(vs:List V)(H:Hp)(Q:VK)(z3_:XK):Prop
 |m (G:Nat) (p:Addr) (l:List Int) (h t:Nat):vs=[.int (G:Int),.ref p,.int (h:Int),.int (t:Int)]->KG k G->Q4 H p l->h<G->t<G->(∀H',AI H H'->Q (.int ((if k=4 then (Et 4 G (D8 4 G l) h t+xn l 13)%G else Et k G (D8 k G l) h t:Nat):Int)) H')->DU k vs H Q z3_
inductive GN(vs:List V)(H:Hp)(Q:VK)(z3_:XK):Prop
 |m (h t:Nat):vs=[.int (h:Int),.int (t:Int)]->Q (.int ((Et 5 8 0 h t:Nat):Int)) H->GN vs H Q z3_
inductive Im(vs:List V)(H:Hp)(Q:VK)(z3_:XK):Prop
 |m (G h t:Nat):vs=[.int (G:Int),.int (h:Int),.int (t:Int)]->5<=G->G<=7->h<G->t<G->Q (.int ((Et 6 G 0 h t:Nat):Int)) H->Im vs H Q z3_
inductive Io(vs:List V)(H:Hp)(Q:VK)(z3_:XK):Prop
 |m (p a:Addr) (l:List Int) (n:Nat):vs=[.ref p,.ref a]->Q4 H p l->H a=some (.lst ((Af 2 (n:Int) 4).map V.int))->(∀H',AI H H'->Q (.int ((Ci 3 2 (D8 3 2 l) 0 n:Nat):Int)) H')->Io vs H Q z3_
inductive Iq(vs:List V)(H:Hp)(Q:VK)(z3_:XK):Prop
 |m (k G:Nat) (p a:Addr) (l:List Int) (n:Nat):vs=[.int (k:Int),.int (G:Int),.ref p,.ref a]->KG k G->Q4 H p l->H a=some (.lst ((Af (G:Int) (n:Int) (mK k)).map V.int))->n<G^mK k->(∀H',AI H H'->Q (.int ((DG k G l n:Nat):Int)) H')->Iq vs H Q z3_
noncomputable def Iz(c:Int):Nat:=([0,1,1,2,2,3,4,5,6,6,3,4,6,1]:List Nat).getD (c%14).toNat 0
noncomputable def gF(c:Int):Nat:=if Iz c=0 then (2+c/14%8).toNat else if Iz c=1 then ([4,4,6,4,4,8,6,9]:List Nat).getD (c/14%8).toNat 0 else if Iz c=2 then ([3,4,5,3,4,3,6,7]:List Nat).getD (c/14%8).toNat 0 else if Iz c=3 then 2 else if Iz c=4 then ([4,4,8,9]:List Nat).getD (c/14%4).toNat 0 else if Iz c=5 then 8 else ([5,6,5,7]:List Nat).getD (c/14%4).toNat 0
theorem M7(c:Int):Iz c<=6:=by
 unfold Iz;have h:(c%14).toNat<14:=by lia
 generalize (c%14).toNat=i at h;have z:∀i<14,([0,1,1,2,2,3,4,5,6,6,3,4,6,1]:List Nat).getD i 0<=6:=by decide
 exact z i h
theorem YF(c:Int):KG (Iz c) (gF c):=by
 have k6:=M7 c;have a8:(c/14%8).toNat<8:=by lia
 have a4:(c/14%4).toNat<4:=by lia
 unfold KG gF;generalize Iz c=k at *;generalize (c/14%8).toNat=i at *;generalize (c/14%4).toNat=j at *;obtain rfl|rfl|rfl|rfl|rfl|rfl|rfl:k=0\/k=1\/k=2\/k=3\/k=4\/k=5\/k=6:=by lia
 ·left
  refine⟨rfl,?_⟩;rw[qF rfl];lia
 ·have z:∀i<8,([4,4,6,4,4,8,6,9]:List Nat).getD i 0=4\/([4,4,6,4,4,8,6,9]:List Nat).getD i 0=6\/([4,4,6,4,4,8,6,9]:List Nat).getD i 0=8\/([4,4,6,4,4,8,6,9]:List Nat).getD i 0=9:=by decide
  exact .inr (.inl ⟨rfl,z i a8⟩)
 ·have z:∀i<8,3<=([3,4,5,3,4,3,6,7]:List Nat).getD i 0/\([3,4,5,3,4,3,6,7]:List Nat).getD i 0<=7:=by decide
  exact .inr (.inr (.inl ⟨rfl,z i a8⟩))
 ·exact .inr (.inr (.inr (.inl ⟨rfl,rfl⟩)))
 ·have z:∀i<4,([4,4,8,9]:List Nat).getD i 0=4\/([4,4,8,9]:List Nat).getD i 0=8\/([4,4,8,9]:List Nat).getD i 0=9:=by decide
  exact .inr (.inr (.inr (.inr (.inl ⟨rfl,z j a4⟩))))
 ·exact .inr (.inr (.inr (.inr (.inr (.inl ⟨rfl,rfl⟩)))))
 ·have z:∀i<4,5<=([5,6,5,7]:List Nat).getD i 0/\([5,6,5,7]:List Nat).getD i 0<=7:=by decide
  exact .inr (.inr (.inr (.inr (.inr (.inr ⟨rfl,z j a4⟩)))))
noncomputable def UL(c c2:Int):Bool:=TH (Iz c) (gF c) (D7 c2 15)
theorem Ql{zs:List Int}(p:zs.Perm (Es G)):Nw G λv=>zs.getD v 0:=by
 have hl:zs.length=G:=by rw[p.length_eq,CI]
 have nd:(Es G).Nodup:=by unfold Es;rw[List.Nodup,List.pairwise_map];exact (List.nodup_range (n:=G)).imp λh e=>h (by lia)
 have ndz:zs.Nodup:=p.nodup_iff.mpr nd;refine⟨λx hx=>?_,λx y hx hy e=>?_⟩
 ·have hx':x<zs.length:=by lia
  have m:zs.getD x 0∈Es G:=p.mem_iff.mp (by rw[YH,YI hx'];exact ZM hx');obtain⟨i,hi⟩:=Y2.mp m;have il:i<G:=by have:=(YJ.mp hi).1;rwa [CI]at this
  rw[HR il]at hi;have:=Option.some.inj hi;lia
 ·have hx':x<zs.length:=by lia
  have hy':y<zs.length:=by lia
  have e:zs.getD x 0=zs.getD y 0:=e;rw[YH,YH,YI hx',YI hy']at e;exact (af ndz).mp e
theorem SQ{k:Nat}(h:KG k G)(l:List Int){n:Nat}(hn:n<G^mK k):DG k G l n<G:=by
 have na:Nw G λv=>(v:Int):=⟨λx hx=>by lia,λx y _ _ e=>by lia⟩
 obtain⟨d,tf,mf,top,c⟩:=Qk h l na;have z:=c.tb ((BP (G^mK k) (λv=>(v:Int)) (DG k G l)).getD n 0) (by rw[YH,YI (by rw[B5];exact hn)];exact ZM _);rw[Bl hn]at z;lia
end L2
namespace L2
open PySem PySem.Spec PyProof.Rows
variable{D:Gf}{H:Hp}{a:Addr}{lo:Int}{b9:List Int}{tl to:TE}{xs:List V}{α β:Type}{σ:St}
section
variable{X:Cx}(K:qJ)
theorem CJ(h:X.K=K:=by rfl):Si X (RK K):=h▸NO
theorem Bh(h:X.K=K:=by rfl):Si X (RL K):=h▸PB
theorem Lo(h:X.K=K:=by rfl):CK X (.builtin "len") (λxs H Q=>∃p ys,xs=[V.ref p]/\(Ai K H p ys\/Ad K H p ys)/\Q (.int ((ys.length:Nat):Int)) H):=h▸FR
theorem Q5{tg l:Expr}(hl:PE X l tl)(h:X.K=K:=by rfl):PI X tg l (O4 K tl):=h▸NC hl
theorem Q6{o e:Expr}{t:TA}{apos cpos:Pos}(ho:PE X o to)(ha:PA X [e] t)(hK:X.K=K:=by rfl)
  (hbase:attributeBase o "append" X.env (eval o X.env)=eval o X.env:=by rfl)
  (hfew:((backTo cpos (starEach [e] X.env)).all (λx=>!x.1)&&(backToKw cpos (keywordEach [] X.env)).all (λx=>x.1.isSome)&&decide (([e]:List Expr).length+([]:List Keyword).length+(if ([]:List Keyword).isEmpty then 0 else 1)<30))=true:=by rfl)
  (hline:(apos.endLine==cpos.line)=true:=by rfl) (hs:starEach [e] X.env=(false,eval e X.env)::starEach [] X.env:=by rfl) (hplain:(backTo cpos (starEach [] X.env)).any (·.1)=false:=by rfl):
  PE X (.Call (.Attribute o "append" apos) [e] [] cpos) (XT K "list" J3 to t):=by
 subst hK;exact PH ay PySem.F.slot_list_append PySem.F.type_list_append F2 ho ha hbase hfew hline hs hplain
end
theorem CG{t u:TS}(Z:St->Hp->Prop)(h1:∀N:St->Hp->Prop,(∀σ' H',Z σ' H'->N σ' H')->t {D with nx:=N} σ H)(h2:∀G:St->Hp->Prop,(∀σ H,u D σ H->G σ H)->∀σ' H',Z σ' H'->G σ' H'):OE t u D σ H:=XY Z h1 (h2 _ λ_ _ z=>z)
theorem Lp{Pv:Nat->St->Hp->Prop}{g:TG}{tb:TS}{R:VK}{B0:St->Hp->Prop}
  (h:∀(C B:St->Hp->Prop) i x,∀G:St->Hp->Prop,(∀σ H,(g x σ H λσ2 H2=>tb {nx:=Pv (i+1),rt:=R,bk:=B,ct:=C} σ2 H2)->G σ H)->∀σ H,xs[i]?=some x->Pv i σ H->G σ H):
  ∀i x σ H,xs[i]?=some x->Pv i σ H->g x σ H λσ2 H2=>tb {nx:=Pv (i+1),rt:=R,bk:=B0,ct:=Pv (i+1)} σ2 H2:=λi x σ H hx p=>h _ _ i x _ (λ_ _ z=>z) σ H hx p
theorem Ed{n:Nat}{f:Nat->V}{Pv:Nat->St->Hp->Prop}{g:TG}{tb:TS}{R:VK}{B0:St->Hp->Prop}
  (h:∀(C B:St->Hp->Prop) i,∀G:St->Hp->Prop,(∀σ H,(g (f i) σ H λσ2 H2=>tb {nx:=Pv (i+1),rt:=R,bk:=B,ct:=C} σ2 H2)->G σ H)->∀σ H,i<n->Pv i σ H->G σ H):
  ∀i σ H,i<n->Pv i σ H->g (f i) σ H λσ2 H2=>tb {nx:=Pv (i+1),rt:=R,bk:=B0,ct:=Pv (i+1)} σ2 H2:=λi σ H hx p=>h _ _ i _ (λ_ _ z=>z) σ H hx p
theorem M9{A:Nat->V->α->β->Prop}{c:Nat->V->Prop}{Pv:Nat->α->β->Prop}(h:∀i x,∀G:α->β->Prop,(∀a b,A i x a b->G a b)->∀a b,c i x->Pv i a b->G a b):∀i x a b,c i x->Pv i a b->A i x a b:=λi x a b hc p=>h i x _ (λ_ _ z=>z) a b hc p
theorem GO{A:Nat->α->β->Prop}{c:Nat->Prop}{Pv:Nat->α->β->Prop}(h:∀i,∀G:α->β->Prop,(∀a b,A i a b->G a b)->∀a b,c i->Pv i a b->G a b):∀i a b,c i->Pv i a b->A i a b:=λi a b hc p=>h i _ (λ_ _ z=>z) a b hc p
theorem A5.el{r:Addr}{g:Int}{P:Prop}(h:A5 H r g lo b9)(k:∀tb,H r=some (.tup [.int g,.int lo,.ref tb])->H tb=some (.tup (b9.map V.int))->P):P:=by obtain⟨tb,h1,h2⟩:=h;exact k tb h1 h2
theorem Ce{K:qJ}{i:Int}{v:V}{Q:VK}(h:Ai K H a xs)(hi:Kj xs i=some v)(q:Q v H):RK K (.ref a) (.int i) H Q:=⟨a,xs,i,v,rfl,rfl,h,hi,q⟩
theorem Bz{K:qJ}{i:Int}{v:V}{Q:VK}(h:Ad K H a xs)(hi:Kj xs i=some v)(q:Q v H):RL K (.ref a) (.int i) H Q:=⟨a,xs,i,v,rfl,rfl,h,hi,q⟩
theorem Qm{g:Int}(hg:2<=g)(lo:Int){m:Nat}{P:Prop}(k:∀lf tf mf,A7 g lo b9 m lf tf mf->P):P:=by obtain⟨lf,tf,mf,fw⟩:=Px hg lo (b9:=b9) (m:=m);exact k lf tf mf fw
end L2
local macro_rules|`(tactic|walk_at "")=>`(tactic|try simp only[L2.Tw,L2.XX,L2.Vj,L2.OE,L2.O2,L2.Td,L2.Vf,L2.Sd,L2.VJ,L2.X4,L2.TZ,L2.tC,L2.PP,L2.FN,L2.Jw,L2.Tl,L2.Tk,L2.OF,L2.FM,L2.Sa,L2.XT,L2.XS,L2.J3,L2.VQ,L2.Sj,L2.Vo,L2.RZ,L2.Cv,Option.join_some,L2.Va,L2.J8,L2.Pb,L2.YA,L2.Vi,
 L2.VO,L2.VN,L2.X2,L2.tB,L2.SV,L2.VP,L2.SW,L2.rI,L2.RE,L2.rU,L2.Tt,L2.RT,L2.X8,L2.Sf,L2.NI,L2.Cm,L2.VY,L2.RG,L2.VZ,L2.X5,L2.X6,L2.Ti,
 ZV,bT,Y8,aw,Z8,au,List.replicate,List.getElem?_cons_zero,List.getElem?_cons_succ,List.set_cons_zero,List.set_cons_succ,Nat.reduceAdd,Nat.reduceSub,
 Option.some.injEq,L2.V.int.injEq,L2.V.bl.injEq,L2.V.ref.injEq,L2.V.str.injEq,List.cons.injEq,and_true,true_and,exists_eq_left',exists_eq_left,exists_eq_right,exists_and_left,exists_and_right,exists_eq,and_assoc,if_true,if_false,reduceIte,reduceCtorEq,not_true_eq_false,not_false_eq_true,Bool.false_eq_true,Bool.not_true,Bool.not_false,decide_eq_true_eq,Bool.not_eq_true',decide_eq_false_iff_not])
namespace K54
open PySem L2 RW
def top(i:Nat):Stmt:=PySem.Challenge.pw_rowrules_k54_ways_back.main.body.getD i (.Pass ⟨0,0,0,0⟩)
abbrev UM:Stmt:=top 9
abbrev UN:Stmt:=top 10
abbrev UO:Stmt:=top 11
abbrev Xe:Stmt:=top 12
abbrev UP:Stmt:=top 13
abbrev UQ:Stmt:=top 14
abbrev UR:Stmt:=top 17
abbrev US:Stmt:=top 18
abbrev Xf:Stmt:=top 19
abbrev UT:Stmt:=top 20
abbrev UU:Stmt:=top 21
abbrev UV:Stmt:=top 22
abbrev UW:Stmt:=top 23
abbrev UX:Stmt:=top 24
abbrev UY:Stmt:=top 25
abbrev UZ:Stmt:=top 27
abbrev Ua:Stmt:=top 28
abbrev Ub:Stmt:=top 29
abbrev Uc:Stmt:=top 30
abbrev Ud:Stmt:=top 31
abbrev Ue:Stmt:=top 33
abbrev Uf:Stmt:=top 34
abbrev Xg:Stmt:=top 35
abbrev Ug:Stmt:=top 36
abbrev Uh:Stmt:=top 37
abbrev Ui:Stmt:=top 38
abbrev Uj:Stmt:=top 41
abbrev Uk:Stmt:=top 43
abbrev Ul:Stmt:=top 44
abbrev Um:Stmt:=top 47
abbrev Uo:Stmt:=top 48
abbrev Up:Stmt:=top 49
abbrev Uq:Stmt:=top 50
abbrev Ur:Stmt:=top 51
abbrev Us:Stmt:=top 52
abbrev Ut:Stmt:=top 53
abbrev Uu:Stmt:=top 54
abbrev Uv:Stmt:=top 56
abbrev Uw:Stmt:=top 58
abbrev Xh:Stmt:=top 59
abbrev Ux:Stmt:=top 60
abbrev Uy:Stmt:=top 61
abbrev Uz:Stmt:=top 62
abbrev U0:Stmt:=top 63
abbrev U1:Stmt:=top 64
abbrev U2:Stmt:=top 65
abbrev U3:Stmt:=top 66
abbrev Xi:Stmt:=top 67
abbrev U4:Stmt:=top 68
abbrev U5:Stmt:=top 69
abbrev U6:Stmt:=top 70
abbrev U7:Stmt:=top 71
abbrev U8:Stmt:=top 72
abbrev U9:Stmt:=top 73
abbrev Xj:Stmt:=top 74
abbrev Xk:Stmt:=top 75
abbrev VA:Stmt:=top 76
abbrev Xl:Stmt:=top 77
abbrev VB:Stmt:=top 78
abbrev Xm:Stmt:=top 79
abbrev VC:Stmt:=top 80
abbrev Xn:Stmt:=top 81
abbrev SR:Stmt:=top 82
set_option genInjectivity false
structure YC where
 (c_43 c_56 c_64 c_57 c_42 c_49 c_28:Addr)
 (f_47 f_50 f_22 f_7 f_40 f_55 f_21 f_26 f_8 f_14 f_68 f_62 f_39 f_41 f_66 f_63 f_52 f_58 f_54 f_37 f_59 f_46 f_2 f_38 f_61 f_53 f_65 f_15 f_23 f_51 f_36 f_27 f_45 f_60 f_24 f_25 f_67 f_48 f_20 f_4 f_11 f_17 f_35 f_12 f_16 f_32 f_18 f_0 f_30 f_33 f_29 f_44 f_31 f_34 f_1 f_9 f_10 f_6 f_19 f_5 f_13 f_3 f_69:Addr)
 (k_EVEN:Addr)
 (cc_29 p_29:Addr)
structure B8(K:qJ)(mg:Str->Option Value)(t:YC):Prop where
 m_43:mg "RowError"=some (.ref t.c_43)
 m_56:mg "NoRule"=some (.ref t.c_56)
 m_64:mg "NoRow"=some (.ref t.c_64)
 m_57:mg "NoSuch"=some (.ref t.c_57)
 m_42:mg "NoWindow"=some (.ref t.c_42)
 m_49:mg "TooWide"=some (.ref t.c_49)
 m_28:mg "NoWayBack"=some (.ref t.c_28)
 m_EVEN:mg "EVEN"=some (.ref t.k_EVEN)
 q_EVEN:Nj K t.k_EVEN [0,0]=true
 m_47:mg "is_whole"=some (.ref t.f_47)
 d_47:∃fd,Bn K "is_whole" "is_whole" UM t.f_47 fd
 m_50:mg "is_sign"=some (.ref t.f_50)
 d_50:∃fd,Bn K "is_sign" "is_sign" UN t.f_50 fd
 m_22:mg "check_word"=some (.ref t.f_22)
 d_22:∃fd,Bn K "check_word" "check_word" UO t.f_22 fd
 m_7:mg "check_length"=some (.ref t.f_7)
 d_7:∃fd,Bn K "check_length" "check_length" Xe t.f_7 fd
 m_40:mg "number_of"=some (.ref t.f_40)
 d_40:∃fd,Bn K "number_of" "number_of" UP t.f_40 fd
 m_55:mg "word_of"=some (.ref t.f_55)
 d_55:∃fd,Bn K "word_of" "word_of" UQ t.f_55 fd
 m_21:mg "check_head"=some (.ref t.f_21)
 d_21:∃fd,Bn K "check_head" "check_head" UR t.f_21 fd
 m_26:mg "places_for"=some (.ref t.f_26)
 d_26:∃fd,Bn K "places_for" "places_for" US t.f_26 fd
 m_8:mg "table_length"=some (.ref t.f_8)
 d_8:∃fd,Bn K "table_length" "table_length" Xf t.f_8 fd
 m_14:mg "check_table"=some (.ref t.f_14)
 d_14:∃fd,Bn K "check_table" "check_table" UT t.f_14 fd
 m_68:mg "rule"=some (.ref t.f_68)
 d_68:∃fd,Bn K "rule" "rule" UU t.f_68 fd
 m_62:mg "places"=some (.ref t.f_62)
 d_62:∃fd,Bn K "places" "places" UV t.f_62 fd
 m_39:mg "next_sign"=some (.ref t.f_39)
 d_39:∃fd,Bn K "next_sign" "next_sign" UW t.f_39 fd
 m_41:mg "told_from"=some (.ref t.f_41)
 d_41:∃fd,Bn K "told_from" "told_from" UX t.f_41 fd
 m_66:mg "heads"=some (.ref t.f_66)
 d_66:∃fd,Bn K "heads" "heads" UY t.f_66 fd
 m_63:mg "shares"=some (.ref t.f_63)
 d_63:∃fd,Bn K "shares" "shares" UZ t.f_63 fd
 m_52:mg "ways_on"=some (.ref t.f_52)
 d_52:∃fd,Bn K "ways_on" "ways_on" Ua t.f_52 fd
 m_58:mg "choose"=some (.ref t.f_58)
 d_58:∃fd,Bn K "choose" "choose" Ub t.f_58 fd
 m_54:mg "word_by"=some (.ref t.f_54)
 d_54:∃fd,Bn K "word_by" "word_by" Uc t.f_54 fd
 m_37:mg "before_at"=some (.ref t.f_37)
 d_37:∃fd,Bn K "before_at" "before_at" Ud t.f_37 fd
 m_59:mg "counts"=some (.ref t.f_59)
 d_59:∃fd,Bn K "counts" "counts" Ue t.f_59 fd
 m_46:mg "counting"=some (.ref t.f_46)
 d_46:∃fd,Bn K "counting" "counting" Uf t.f_46 fd
 m_2:mg "sign_or_nought"=some (.ref t.f_2)
 d_2:∃fd,Bn K "sign_or_nought" "sign_or_nought" Xg t.f_2 fd
 m_38:mg "by_window"=some (.ref t.f_38)
 d_38:∃fd,Bn K "by_window" "by_window" Ug t.f_38 fd
 m_61:mg "narrow"=some (.ref t.f_61)
 d_61:∃fd,Bn K "narrow" "narrow" Uh t.f_61 fd
 m_53:mg "widened"=some (.ref t.f_53)
 d_53:∃fd,Bn K "widened" "widened" Ui t.f_53 fd
 m_65:mg "frame"=some (.ref t.f_65)
 d_65:∃fd,Bn K "frame" "frame" Uj t.f_65 fd
 m_15:mg "turned_back"=some (.ref t.f_15)
 d_15:∃fd,Bn K "turned_back" "turned_back" Uk t.f_15 fd
 m_23:mg "most_steps"=some (.ref t.f_23)
 d_23:∃fd,Bn K "most_steps" "most_steps" Ul t.f_23 fd
 m_51:mg "pair_of"=some (.ref t.f_51)
 d_51:∃fd,Bn K "pair_of" "pair_of" Um t.f_51 fd
 m_36:mg "all_pairs"=some (.ref t.f_36)
 d_36:∃fd,Bn K "all_pairs" "all_pairs" Uo t.f_36 fd
 m_27:mg "word_pairs"=some (.ref t.f_27)
 d_27:∃fd,Bn K "word_pairs" "word_pairs" Up t.f_27 fd
 m_45:mg "begin_of"=some (.ref t.f_45)
 d_45:∃fd,Bn K "begin_of" "begin_of" Uq t.f_45 fd
 m_60:mg "end_of"=some (.ref t.f_60)
 d_60:∃fd,Bn K "end_of" "end_of" Ur t.f_60 fd
 m_24:mg "pair_nexts"=some (.ref t.f_24)
 d_24:∃fd,Bn K "pair_nexts" "pair_nexts" Us t.f_24 fd
 m_25:mg "pair_ranks"=some (.ref t.f_25)
 d_25:∃fd,Bn K "pair_ranks" "pair_ranks" Ut t.f_25 fd
 m_67:mg "ranks"=some (.ref t.f_67)
 d_67:∃fd,Bn K "ranks" "ranks" Uu t.f_67 fd
 m_48:mg "way_back"=some (.ref t.f_48)
 d_48:∃fd,Bn K "way_back" "way_back" Uv t.f_48 fd
 m_20:mg "_law_whole"=some (.ref t.f_20)
 d_20:∃fd,Bn K "_law_whole" "_law_whole" Uw t.f_20 fd
 m_4:mg "_law_cell_at"=some (.ref t.f_4)
 d_4:∃fd,Bn K "_law_cell_at" "_law_cell_at" Xh t.f_4 fd
 m_11:mg "_law_stream"=some (.ref t.f_11)
 d_11:∃fd,Bn K "_law_stream" "_law_stream" Ux t.f_11 fd
 m_17:mg "_law_power"=some (.ref t.f_17)
 d_17:∃fd,Bn K "_law_power" "_law_power" Uy t.f_17 fd
 m_35:mg "_law_word"=some (.ref t.f_35)
 d_35:∃fd,Bn K "_law_word" "_law_word" Uz t.f_35 fd
 m_12:mg "_law_tracks"=some (.ref t.f_12)
 d_12:∃fd,Bn K "_law_tracks" "_law_tracks" U0 t.f_12 fd
 m_16:mg "_law_marks"=some (.ref t.f_16)
 d_16:∃fd,Bn K "_law_marks" "_law_marks" U1 t.f_16 fd
 m_32:mg "_law_sums"=some (.ref t.f_32)
 d_32:∃fd,Bn K "_law_sums" "_law_sums" U2 t.f_32 fd
 m_18:mg "_law_three"=some (.ref t.f_18)
 d_18:∃fd,Bn K "_law_three" "_law_three" U3 t.f_18 fd
 m_0:mg "_law_steps_down"=some (.ref t.f_0)
 d_0:∃fd,Bn K "_law_steps_down" "_law_steps_down" Xi t.f_0 fd
 m_30:mg "_law_flip"=some (.ref t.f_30)
 d_30:∃fd,Bn K "_law_flip" "_law_flip" U4 t.f_30 fd
 m_33:mg "_law_told"=some (.ref t.f_33)
 d_33:∃fd,Bn K "_law_told" "_law_told" U5 t.f_33 fd
 m_29:mg "_law_core"=some (.ref t.f_29)
 d_29:∃fd,UF K "_law_core" "_law_core" U6 t.f_29 t.cc_29 t.p_29 fd
 hd_29:PySem.W.codeHdIn K t.cc_29 t.p_29=true
 m_44:mg "_law_low"=some (.ref t.f_44)
 d_44:∃fd,Bn K "_law_low" "_law_low" U7 t.f_44 fd
 m_31:mg "_law_seen"=some (.ref t.f_31)
 d_31:∃fd,Bn K "_law_seen" "_law_seen" U8 t.f_31 fd
 m_34:mg "_law_wide"=some (.ref t.f_34)
 d_34:∃fd,Bn K "_law_wide" "_law_wide" U9 t.f_34 fd
 m_1:mg "_law_not_small"=some (.ref t.f_1)
 d_1:∃fd,Bn K "_law_not_small" "_law_not_small" Xj t.f_1 fd
 m_9:mg "_law_counts"=some (.ref t.f_9)
 d_9:∃fd,Bn K "_law_counts" "_law_counts" Xk t.f_9 fd
 m_10:mg "_law_places"=some (.ref t.f_10)
 d_10:∃fd,Bn K "_law_places" "_law_places" VA t.f_10 fd
 m_6:mg "_law_spoiled"=some (.ref t.f_6)
 d_6:∃fd,Bn K "_law_spoiled" "_law_spoiled" Xl t.f_6 fd
 m_19:mg "_law_tried"=some (.ref t.f_19)
 d_19:∃fd,Bn K "_law_tried" "_law_tried" VB t.f_19 fd
 m_5:mg "_law_refused"=some (.ref t.f_5)
 d_5:∃fd,Bn K "_law_refused" "_law_refused" Xm t.f_5 fd
 m_13:mg "_law_undone"=some (.ref t.f_13)
 d_13:∃fd,Bn K "_law_undone" "_law_undone" VC t.f_13 fd
 m_3:mg "_law_too_wide"=some (.ref t.f_3)
 d_3:∃fd,Bn K "_law_too_wide" "_law_too_wide" Xn t.f_3 fd
 m_69:mg "law"=some (.ref t.f_69)
 d_69:∃fd,Bn K "law" "law" SR t.f_69 fd
 z_len:mg "len"=none
 z_list:mg "list"=none
 z_reversed:mg "reversed"=none
 z_isinstance:mg "isinstance"=none
 z_range:mg "range"=none
 z_int:mg "int"=none
 z_bool:mg "bool"=none
 z_ValueError:mg "ValueError"=none
 z_tuple:mg "tuple"=none
 z_enumerate:mg "enumerate"=none
 z_min:mg "min"=none
 z_sum:mg "sum"=none
 z_sorted:mg "sorted"=none
 z_all:mg "all"=none
 g_LONGEST_TABLE:∃k,mg "LONGEST_TABLE"=some (.int 256 k)
 g_MOST_NODES:∃k,mg "MOST_NODES"=some (.int 9 k)
 x_42:PySem.W.excIn K t.c_42 ME "ValueError.__new__"=true
 x_49:PySem.W.excIn K t.c_49 ME "ValueError.__new__"=true
 x_28:PySem.W.excIn K t.c_28 ME "ValueError.__new__"=true
 ek_49:Kt K t.c_49
 ek_28:Kt K t.c_28
 kt_49_49:PySem.W.kitOne K (.ref t.c_49) (.ref t.c_49)=some true
 kt_TooWide_ValueError:PySem.W.kitOne K (.ref t.c_49) (.type "ValueError")=some true
 kt_49_64:PySem.W.kitOne K (.ref t.c_49) (.ref t.c_64)=some false
 kt_49_28:PySem.W.kitOne K (.ref t.c_49) (.ref t.c_28)=some false
 kt_28_49:PySem.W.kitOne K (.ref t.c_28) (.ref t.c_49)=some false
 kt_NoWayBack_ValueError:PySem.W.kitOne K (.ref t.c_28) (.type "ValueError")=some true
 kt_28_64:PySem.W.kitOne K (.ref t.c_28) (.ref t.c_64)=some false
 kt_28_28:PySem.W.kitOne K (.ref t.c_28) (.ref t.c_28)=some true
 em_49_43:PySem.W.exmOne K (.ref t.c_49) (.ref t.c_43)=some true
 em_28_43:PySem.W.exmOne K (.ref t.c_28) (.ref t.c_43)=some true
abbrev LP:Pos:=⟨328,47,328,91⟩
def Lq(K:qJ):Sp:=λvs H Q _=>∃(r a:Addr) (g lo:Int) (b9:List Int) (m:Nat) (xs:List V) (n:Int),vs=[.ref r,.ref a,.int n]/\Ah H r g lo b9 m/\Ai K H a xs/\(∀x∈xs,Kd H x)/\xs.length<=100 /\
 match CD g xs with
 |none=>∀ns:List Int,xs=ns.map V.int->((n<0\/B2 g.toNat b9 ns<=n)->False)/\(0<=n->n<B2 g.toNat b9 ns->∀q H' w,(DF g b9 m ns)[n.toNat]?=some w->K6 H H' q w->Q (.ref q) H')
 |some _=>False
inductive FJ(vs:List V)(H:Hp)(Q:VK)(z3_:XK):Prop
 |m (r:Addr) (g lo:Int) (b9:List Int) (m j:Nat):vs=[.ref r,.int ((m:Nat):Int),.int ((j:Nat):Int)]->2<=g->g<=9->A5 H r g lo b9->(b9.length:Int)=g^m->j<m->m<=8->g^m<=256->Q (.bl (BL g b9 (g^(m-1-j)))) H->FJ vs H Q z3_
inductive Ki(vs:List V)(H:Hp)(Q:VK)(z3_:XK):Prop
 |m (c:Int):vs=[.int c]->(∀lo:Int,Q (.int lo) H)->Ki vs H Q z3_
inductive Ir(pos:Pos)(Pt:Addr)(vs:List V)(H:Hp)(Q:VK)(z3_:XK):Prop
 |m (c1 c2 lo:Int):vs=[.int c1,.int c2,.int lo]->Co pos (UI "_law_core") Pt H->(∀(p r:Addr) (H':Hp) (g:Int) (b9:List Int) (m:Nat) (d:Int) (tf:List Int) (mf top:Nat),DQ Pt H H'->Co pos (UI "_law_core") Pt H'->H' p=some (.lst [.ref r,.int ((m:Nat):Int)])->Ah H' r g lo b9 m->Bm g b9 m (UL c1 c2) d tf mf top->Q (.ref p) H')->Ir pos Pt vs H Q z3_
noncomputable def GP(g:Int):Int:=([6,4,3,3,3,2,2,2]:List Int).getD (g-2).toNat 0
theorem Jr{g:Int}(g2:2<=g)(g9:g<=9):2<=GP g/\GP g<=7/\(g<3->4<=GP g)/\g^(GP g).toNat<=256:=by
 obtain rfl|rfl|rfl|rfl|rfl|rfl|rfl|rfl:g=2\/g=3\/g=4\/g=5\/g=6\/g=7\/g=8\/g=9:=by lia
 all_goals exact⟨by decide,by decide,by decide,by decide⟩
theorem Lr{g:Int}(g2:2<=g)(g9:g<=9){m:Nat}(m4:m<=4)(m3:3<=g->m<=2):(m:Int)<=GP g:=by
 have z:=Jr g2 g9
 by_cases c:3<=g
 ·have:=m3 c;lia
 ·have:=z.2.2.1 (by lia);lia
inductive Iu(vs:List V)(H:Hp)(Q:VK)(z3_:XK):Prop
 |m (r:Addr) (g lo:Int) (b9:List Int) (m:Nat) (c:Int):vs=[.ref r,.int ((m:Nat):Int),.int c]->Ah H r g lo b9 m->m<=4->(3<=g->m<=2)->(∀(r':Addr) (lo':Int) (tab':List Int) (M:Nat) (H':Hp),AI H H'->Ah H' r' g lo' tab' M->Bp g lo' tab' M lo b9 m->Q (.ref r') H')->Iu vs H Q z3_
inductive GQ(vs:List V)(H:Hp)(Q:VK)(z3_:XK):Prop
 |m (r:Addr) (g lo:Int) (b9:List Int) (m:Nat) (c:Int):vs=[.ref r,.int c]->Ah H r g lo b9 m->0<=c->(∀(r':Addr) (at':Nat) (v:Int) (H':Hp),AI H H'->at'<b9.length->0<=v->v<g->v≠b9.getD at' 0->Ah H' r' g lo (b9.set at' v) m->Q (.ref r') H')->GQ vs H Q z3_
inductive GR(K:qJ)(vs:List V)(H:Hp)(Q:VK)(z3_:XK):Prop
 |m (p:Addr) (lo:Int) (l:List Int):vs=[.ref p,.int lo]->Ai K H p (l.map V.int)->l.length=8->(∀x∈l,0<=x/\x<2147483647)->(∀(r':Addr) (g:Int) (b9:List Int) (m:Nat) (H':Hp),AI H H'->Ah H' r' g lo b9 m->A7 g lo b9 m lo b9 m->9<g^(m-1)->Q (.ref r') H')->GR K vs H Q z3_
inductive Iv(vs:List V)(H:Hp)(Q:VK)(z3_:XK):Prop
 |m (c1 c2:Int):vs=[.int c1,.int c2]->(∀H',AI H H'->Q (.bl (UL c1 c2)) H')->Iv vs H Q z3_
inductive Er(CN CT:Addr)(vs:List V)(H:Hp)(Q:VK)(z3_:XK):Prop
 |m (r:Addr) (g lo:Int) (b9:List Int) (m:Nat) (lf:Int) (tf:List Int) (mf:Nat):vs=[.ref r]->Ah H r g lo b9 m->A7 g lo b9 m lf tf mf->(FG g tf mf->∀p ea H',AI H H'->H' ea=some (RP ea (.ref CN) none false)->H' p=some (.lst [.ref ea,.non])->Q (.ref p) H')->(Kf g tf mf->∀p ea H',AI H H'->H' ea=some (RP ea (.ref CT) none false)->H' p=some (.lst [.ref ea,.non])->Q (.ref p) H')->(g^(mf-1)<=9->∀ba left bf,Q3 g tf mf ba left->ba+left+2=mf+bf->1<=bf->g^bf<=256->∀p r' H',AI H H'->Ah H' r' g (-lf-(ba:Int)) (Jj g tf mf ba bf) bf->H' p=some (.lst [.non,.ref r'])->Q (.ref p) H')->Er CN CT vs H Q z3_
def TJ(g:Int)(tf:List Int)(mf:Nat):Prop:=9<g^(mf-1)\/((∃rk,FC g.toNat (tf.length/g.toNat) tf rk)/\∀ba left bf,Q3 g tf mf ba left->ba+left+2=mf+bf->256<g^bf)
inductive Iw(vs:List V)(H:Hp)(Q:VK)(z3_:XK):Prop
 |m (r:Addr) (g lo:Int) (b9:List Int) (m:Nat) (lf:Int) (tf:List Int) (mf:Nat) (b:Bool):vs=[.ref r,.bl b]->Ah H r g lo b9 m->A7 g lo b9 m lf tf mf->(b=true->TJ g tf mf)->(b=false->FG g tf mf)->(∀H',AI H H'->Q (.bl true) H')->Iw vs H Q z3_
inductive FK(vs:List V)(H:Hp)(Q:VK)(z3_:XK):Prop
 |m (r r':Addr) (g lo lo':Int) (b9 tab':List Int) (m m' at':Nat):vs=[.ref r,.int ((m:Nat):Int),.ref r',.int ((m':Nat):Int)]->Ah H r g lo b9 m->Ah H r' g lo' tab' m'->((at':Nat):Int)=0-lo-lo'->at'<m+m'-1->g^(m+m'-1)<=70000->(∀v:List Int,v.length=m+m'-1->(∀k∈v,0<=k/\k<g)->tab'.getD (Av g (Ap g b9 m v)).toNat 0=v.getD at' 0)->(∀H',AI H H'->Q (.bl true) H')->FK vs H Q z3_
noncomputable def Q7(g:Int)(i j:Nat)(w:List Int):Int:=(w.getD 0 0+w.getD (w.length-1) 0*(g-1)+w.getD i 0*w.getD j 0)%g
noncomputable def Q8(g:Int)(m i j:Nat):List Int:=(List.range (g^m).toNat).map λk:Nat=>Q7 g i j (Af g (k:Int) m)
theorem Nz{g:Int}(g2:2<=g)(m i j:Nat):((Q8 g m i j).length:Int)=g^m:=by have:=RW.Ab g2 m;unfold Q8;rw[YG,Yo];lia
theorem VD{g:Int}(g2:2<=g)(m i j:Nat):∀n∈Q8 g m i j,0<=n/\n<g:=by intro n hn;obtain⟨k,_,rfl⟩:=Yd.mp hn;exact⟨ZU _ (by lia),ZO _ (by lia)⟩
theorem Qn{g:Int}(g2:2<=g){m:Nat}(i j:Nat){w:List Int}(l:w.length=m)(b:∀n∈w,0<=n/\n<g):(Q8 g m i j).getD (Av g w).toNat 0=Q7 g i j w:=by subst l;have z:=BN g2 b;unfold Q8;rw[YH,YO,ak (by lia)];show Q7 g i j (Af g (((Av g w).toNat:Nat):Int) w.length)=_;rw[YY z.1,Dh g2 b]
theorem Gd{m c:Nat}(hc:c<m)(v:Int)(t:Nat):((List.replicate m (0:Int)).set c v).getD t 0=if t=c then v else 0:=by
 rw[YH,List.getElem?_set,Yl]
 by_cases z:t=c
 ·rw[qF z.symm,qF z,qF hc];rfl
 ·rw[qE (λy=>z y.symm),qE z,Z5]
  split<;>rfl
theorem Qo{g:Int}(g2:2<=g){m i j:Nat}(i1:1<=i)(im:i+1<m)(j1:1<=j)(jm:j+1<m):BL g (Q8 g m i j) (g^(m-1))=true/\BL g (Q8 g m i j) 1=true:=by
 have key:∀c,c<m->Q7 g i j ((List.replicate m (0:Int)).set c 1)≠Q7 g i j ((List.replicate m (0:Int)).set c 0)->BL g (Q8 g m i j) (g^(m-1-c))=true:=by
  intro c hc ne
  have bd:∀v:Int,0<=v->v<g->∀n∈(List.replicate m (0:Int)).set c v,0<=n/\n<g:=by
   intro v v0 vg n hn;rcases ae hn with z|z
   ·rw[(List.mem_replicate.mp z).2];lia
   ·lia
  refine (Hh g2 (Nz g2 ..) hc).mpr ⟨(List.replicate m (0:Int)).set c 1,by rw[ZS,Yl],bd 1 (by lia) (by lia),?_⟩;rw[List.set_set,Qn g2 _ _ (by rw[ZS,Yl]) (bd 1 (by lia) (by lia)),Qn g2 _ _ (by rw[ZS,Yl]) (bd 0 (by lia) (by lia))];exact ne
 have e0:∀v:Int,Q7 g i j ((List.replicate m (0:Int)).set 0 v)=v%g:=λv=>by
  have h:0<m:=by lia
  unfold Q7;rw[ZS,Yl,Gd h v 0,Gd h v (m-1),Gd h v i,Gd h v j,qF rfl,qE (by lia),qE (by lia),qE (by lia),ZY,ZY,Zc,Zc]
 have e1:∀v:Int,Q7 g i j ((List.replicate m (0:Int)).set (m-1) v)=v*(g-1)%g:=λv=>by
  have h:m-1<m:=by lia
  unfold Q7;rw[ZS,Yl,Gd h v 0,Gd h v (m-1),Gd h v i,Gd h v j,qE (by lia),qF rfl,qE (by lia),qE (by lia),ZY,Yj,Zc]
 have z:=key 0 (by lia) (by rw[e0,e0,Yr (by lia) (by lia),Yr (by lia) (by lia)];decide);have y:=key (m-1) (by lia) (by rw[e1,e1,ZW,ZY,Yr (by lia) (by lia),Yr (by lia) (by lia)];lia);rw[aK]at z;rw[show m-1-(m-1)=0 by lia,Yq]at y;exact⟨z,y⟩
theorem SS{g x:Int}(g2:2<=g)(g6:g<=6):let b:=([4,2,2,1,1]:List Int).getD (g-2).toNat 0;0<b/\∃m:Nat,(m:Int)=([5,4,3,3,3]:List Int).getD (g-2).toNat 0+x%b/\3<=m/\m<=8/\g^m<=256/\9<g^(m-1):=by
 obtain rfl|rfl|rfl|rfl|rfl:g=2\/g=3\/g=4\/g=5\/g=6:=by lia
 ·have h:x%4=0\/x%4=1\/x%4=2\/x%4=3:=by lia
  refine⟨by decide,(5+x%4).toNat,?_⟩;show (((5+x%4).toNat:Nat):Int)=5+x%4/\_;rcases h with h|h|h|h<;>rw[h]<;>decide
 ·have h:x%2=0\/x%2=1:=by lia
  refine⟨by decide,(4+x%2).toNat,?_⟩;show (((4+x%2).toNat:Nat):Int)=4+x%2/\_;rcases h with h|h<;>rw[h]<;>decide
 ·have h:x%2=0\/x%2=1:=by lia
  refine⟨by decide,(3+x%2).toNat,?_⟩;show (((3+x%2).toNat:Nat):Int)=3+x%2/\_;rcases h with h|h<;>rw[h]<;>decide
 ·have h:x%1=0:=by lia
  refine⟨by decide,(3+x%1).toNat,?_⟩;show (((3+x%1).toNat:Nat):Int)=3+x%1/\_;rw[h];decide
 ·have h:x%1=0:=by lia
  refine⟨by decide,(3+x%1).toNat,?_⟩;show (((3+x%1).toNat:Nat):Int)=3+x%1/\_;rw[h];decide
theorem Bm.big{g:Int}{b9:List Int}{m:Nat}{tw:Bool}{d:Int}{tf:List Int}{mf top:Nat}(c:Bm g b9 m tw d tf mf top)(h:tw=true):TJ g tf mf:=by
 obtain⟨rk,hr,_⟩:=c.rise;refine .inr ⟨⟨rk,hr⟩,λba left bf bx em=>?_⟩;obtain⟨q,n,qq,st,big,le⟩:=c.wide h
 have n1:n+2-mf<=bf:=by
  rcases qq with z|z
  ·have:=bx.b.l q n z st;lia
  ·have:=bx.b.e q n z st;lia
 have:=Bc c.g2 n1;lia
theorem Bm.not_wide{g:Int}{b9:List Int}{m:Nat}{tw:Bool}{d:Int}{tf:List Int}{mf top:Nat}(c:Bm g b9 m tw d tf mf top)(h:tw=false):¬Kf g tf mf:=by
 obtain⟨rk,hr,ht⟩:=c.rise;rintro (z|⟨_,ba,left,bf,bx,em,big⟩)
 ·have:=c.sm;lia
 obtain⟨q1,e1,s1⟩:=bx.ev;obtain⟨q2,e2,s2⟩:=bx.lv;have r1:=Eb hr s1 ba 0 (by lia);have r2:=Eb hr s2 left 0 (by lia);rw[bV,e1]at r1;rw[bV,e2]at r2;have:=ht (q2 left);obtain⟨t1,t2⟩:=c.thin h;have:=Bc c.g2 (show bf<=top+2-mf by lia);lia
theorem Bm.spoil{g:Int}{b9:List Int}{m:Nat}{tw:Bool}{d:Int}{tf:List Int}{mf top:Nat}(c:Bm g b9 m tw d tf mf top)(lo:Int){at':Nat}(ha:at'<b9.length){v:Int}(hv:0<=v/\v<g)(ne:v≠b9.getD at' 0):∃lf' tf' mf',A7 g lo (b9.set at' v) m lf' tf' mf'/\FG g tf' mf':=by
 obtain⟨rk,hr,ht⟩:=c.rise;refine Qm c.g2 lo (b9:=b9.set at' v) (m:=m) λlf' tf' mf' fw'=>?_;have hl':((b9.set at' v).length:Int)=g^m:=by rw[ZS];exact c.len
 refine⟨lf',tf',mf',fw',?_,Lk c.g2 c.len c.m1 c.tb (c.fr lo lo b9 m c.len (λ_ _=>rfl)) hr ha hv ne fw'⟩;have l:=fw'.le c.g2 hl' hl' (λ_ _=>rfl);have t2:=fw'.two
 by_cases z:mf'<=m
 ·have:=Bc c.g2 (show mf'-1<=m-1 by lia);have:=c.nd;lia
 ·obtain rfl:mf'=2:=by lia
  show g^1<=9;rw[Ym,Yq,ZW];exact c.g9
section
variable{g:Int}{b9:List Int}{m:Nat}{tw:Bool}{d:Int}{tf:List Int}{mf top:Nat}(c:Bm g b9 m tw d tf mf top)(tfb:∀n∈tf,0<=n/\n<g){ba left bf:Nat}(bx:Q3 g tf mf ba left)(em:ba+left+2=mf+bf)(n1:1<=bf)(lo:Int)
include c tfb bx em n1
theorem Bm.un1:∃at':Nat,((at':Nat):Int)=0-lo-(-(lo+d)-(ba:Int))/\at'<m+bf-1/\∀v:List Int,v.length=m+bf-1->(∀k∈v,0<=k/\k<g)->(Jj g tf mf ba bf).getD (Av g (Ap g b9 m v)).toNat 0=v.getD at' 0:=by refine Jn c.g2 c.m1 n1 λx hx=>?_;have z:=Dl.back c.g2 c.tfl c.mf2 tfb bx.b em (lo+d) hx 0;rw[Qf (c.al lo) hx,Zc]at z;exact z
theorem Bm.un2(wb:∀n∈Jj g tf mf ba bf,0<=n/\n<g):∃at':Nat,((at':Nat):Int)=0-(-(lo+d)-(ba:Int))-lo/\at'<bf+m-1/\∀v:List Int,v.length=bf+m-1->(∀k∈v,0<=k/\k<g)->b9.getD (Av g (Ap g (Jj g tf mf ba bf) bf v)).toNat 0=v.getD at' 0:=by refine Jn c.g2 n1 c.m1 λy hy=>?_;have z:=Dl.there c.g2 c.tfl c.mf2 tfb bx.b em (lo+d) hy 0;rw[Zc]at z;rw[<-c.al lo _ (Ij c.g2 wb _ _ _)];exact z
end
theorem DQ.seq{K:qJ}{P:Addr}{H H':Hp}{pos:Pos}{q:Str}(e:DQ P H H')(t:Co pos q P H){a:Addr}{xs:List V}(h:Ai K H a xs):Ai K H' a xs:=by
 rcases h with (h|⟨o,h⟩)|h
 ·exact .inl (.inl (e.get t h λ_ z=>by cases z))
 ·exact .inl (.inr ⟨o,e.get t h λ_ z=>by cases z⟩)
 ·exact .inr h
section
variable{P:Program}{w:World}{K:qJ}{mg:Str->Option Value}{base:Heap}{t:YC}
theorem V0:AK ["thing"] ["thing"] (AH UM):=CA (by decide +kernel)
theorem V1(T:B8 K mg t) :Al P w K mg base 1 t.f_47 ["thing"] (Eg):=by
 refine Ak T.d_47 V0 (λ_ _ _ _ _ _=>b1 λ_=>rfl) λvs H Q E h=>?_;obtain⟨x,rfl,kd,q⟩:=h;refine⟨rfl,λbh A outer s hr=>?_⟩;refine⟨_,(AF (AL (EB (DV rfl T.z_isinstance (pv 0) (FU rfl T.z_int PyProof.Rows.boot_int)) (Do (O1 (DV rfl T.z_isinstance (pv 0) (FU rfl T.z_bool PyProof.Rows.boot_bool))))))),?_⟩;walk_at "";cases x with
 |int i =>
  refine⟨_,.of (.int i),_,Sl,?_⟩;rw[qF rfl];exact⟨_,.of (.int i),_,Sm,q⟩
 |bl b =>
  refine⟨_,.of (.bl b),_,Sn,?_⟩;rw[qF rfl];exact⟨_,.of (.bl b),_,So,q⟩
 |non =>
  refine⟨_,.of .non,_,Sq,?_⟩;rw[qE (by decide)];exact q
 |str y =>
  refine⟨_,.of (.str y),_,Sr,?_⟩;rw[qE (by decide)];exact q
 |ref a =>
  obtain⟨xs,z|z⟩:=kd
  ·refine⟨_,.of (.lst z),_,Ss,?_⟩;rw[qE (by decide)];exact q
  ·refine⟨_,.of (.tup z),_,Sv,?_⟩;rw[qE (by decide)];exact q
 |byt _=>exact kd.elim
 |flt _=>exact kd.elim
 |ty _=>exact kd.elim
theorem V2:AK ["thing","signs"] ["thing","signs"] (AH UN):=CA (by decide +kernel)
theorem V3(T:B8 K mg t)(G_47:Al P w K mg base 1 t.f_47 ["thing"] (Eg)):Al P w K mg base 2 t.f_50 ["thing","signs"] (J9):=by
 refine Ak T.d_50 V2 (λ_ _ _ _ _ _=>b2 λ_ _=>rfl) λvs H Q E h=>?_;obtain⟨x,g,rfl,kd,q⟩:=h;refine⟨rfl,λbh A outer s hr=>?_⟩;refine⟨_,(AF (AL (EB (AQ hr G_47 T.m_47 (AA (pv 0) AD)) (EB (Bs Sc AB (pv 0) (AR _)) (Do (Bs Ck (pv 0) (pv 1) (AR _))))))),?_⟩;walk_at "";refine⟨x,rfl,kd,?_⟩;cases x with
 |int i =>
  walk_at "";simp only[Qw]at q
  by_cases h:0<=i
  ·rw[qH h,Bool.true_and]at q;rw[qF h];exact q
  ·rw[qI h,Bool.false_and]at q;rw[qE h];exact q
 |_=>exact⟨false,rfl,Tr q⟩
theorem Qp:AK ["word","signs","at","thing"] ["word","signs"] (AH UO):=CA (by decide +kernel)
theorem V4(T:B8 K mg t)(G_50:Al P w K mg base 2 t.f_50 ["thing","signs"] (J9)):Al P w K mg base 3 t.f_22 ["word","signs"] (EZ K):=by
 refine Ak T.d_22 Qp (λ_ _ _ _ _ _=>b2 λ_ _=>rfl) λvs H Q E h=>?_;obtain⟨a,xs,g,rfl,hS,kd,h⟩:=h;refine⟨rfl,λbh A outer s hr=>?_⟩;refine⟨_,(AF (BD PassesOwn.never rfl (NR rfl T.z_enumerate (AA (pv 0) AD)) (HD rfl (BK (BC 2 Qp) (BK (BC 3 Qp) DH))) (AF (Au (By (Bb (AQ hr G_50 T.m_50 (AA (pv 3) (AA (pv 1) AD))))) (AF Ex) AV)))),?_⟩;refine⟨_,rfl,a,xs,rfl,hS,?_⟩;refine Kw (xs:=xs) (λi σ H1=>CD g (xs.take i)=none/\(∃x2 x3,σ=[some (.ref a),some (.int g),x2,x3])/\AI H H1) ⟨rfl,⟨none,none,rfl⟩,AI.refl _⟩ (λi σ H1 _ z=>z.2.2.seq hS) ?_ ?_
 ·rintro i x p σ H1 hx ⟨hb,⟨x2,x3,rfl⟩,e⟩ hp;have e2:AI H (Ac H1 p (.tup [.int ((i:Nat):Int),x])):=e.trans (AI.new hp _);refine⟨p,_,rfl,Ad.of AE,rfl,_,_,rfl,_,_,rfl,rfl,?_⟩;walk_at "";refine⟨x,g,rfl,(kd x (YW hx)).same e2,?_⟩;cases hs:Qw g x with
  |true =>
   walk_at "";exact⟨MJ hb hx hs,⟨_,rfl⟩,e2⟩
  |false =>
   walk_at "";rw[MK hb hx hs]at h;exact h
 ·rintro σ H1 ⟨hb,_,e⟩;rw[ZC]at hb;rw[hb]at h;exact h H1 e
theorem Xo:AK ["word","signs","many"] ["word","signs","many"] (AH Xe):=CA (by decide +kernel)
theorem Xp(T:B8 K mg t)(G_22:Al P w K mg base 3 t.f_22 ["word","signs"] (EZ K)):Al P w K mg base 4 t.f_7 ["word","signs","many"] (Ea K):=by
 refine Ak T.d_7 Xo (λ_ _ _ _ _ _=>b3 λ_ _ _=>rfl) λvs H Q E h=>?_;obtain⟨a,xs,g,m,rfl,hS,kd,h⟩:=h;refine⟨rfl,λbh A outer s hr=>?_⟩
 refine⟨_,(AC (BM (AQ hr G_22 T.m_22 (AA (FQ Go (pv 0) Jy (FP (pv 2))) (AA (pv 1) AD))))
  (AF (Au (AM ED (Aw (Lo K) rfl T.z_len Y7 (AA (pv 0) AD)) (pv 2) (AR _)) (AF Ex) AV))),?_⟩
 walk_at "";refine KD hS λp H1 e1 _ h1=>?_;rw[NY]at h1;refine⟨p,_,g,rfl,Ai.of h1,λx hx=>(kd x (ZB hx)).same e1,?_⟩;unfold EL at h;cases hb:CD g (xs.take m) with
 |some i =>
  rw[hb]at h;exact h
 |none =>
  rw[hb]at h;dsimp only at h;intro H2 e2;refine⟨xs,.inl ((e1.trans e2).seq hS),?_⟩
  by_cases hl:xs.length=m
  ·rw[qF hl]at h;rw[qE (by lia)];exact h _ (e1.trans e2)
  ·rw[qE hl]at h;exact h.elim
theorem N0:AK ["word","signs","number","sign"] ["word","signs"] (AH UP):=CA (by decide +kernel)
theorem V5(T:B8 K mg t)(G_22:Al P w K mg base 3 t.f_22 ["word","signs"] (EZ K)):Al P w K mg base 4 t.f_40 ["word","signs"] (GL K):=by
 refine Ak T.d_40 N0 (λ_ _ _ _ _ _=>b2 λ_ _=>rfl) λvs H Q E h=>?_;obtain⟨a,xs,g,rfl,g2,g9,hS,kd,h⟩:=h;refine⟨rfl,λbh A outer s hr=>?_⟩
 refine⟨_,(AC (BM (AQ hr G_22 T.m_22 (AA (pv 0) (AA (pv 1) AD))))
  (AC (AS 2 N0 AB)
  (AC (BD PassesOwn.never rfl (Q5 K (pv 0)) (BC 3 N0) (AF (AS 2 N0 (AG AY (AG A9 (pv 2) (pv 1)) (pv 3)))))
  (AF (AL (pv 2)))))),?_⟩
 walk_at "";refine⟨a,xs,g,rfl,hS,kd,?_⟩;cases hb:CD g xs with
 |some i =>
  rw[hb]at h;exact h
 |none =>
  rw[hb]at h;obtain⟨ns,rfl,hns⟩:=E2 hb;intro H1 e;refine⟨_,rfl,a,rfl,⟨_,e.seq hS⟩,?_⟩;refine CY (xs:=ns.map V.int) (λi σ H2=>(∃x3,σ=[some (.ref a),some (.int g),some (.int (Av g (ns.take i))),x3])/\H2=H1) ⟨⟨none,rfl⟩,rfl⟩ (λi σ H2 _ z=>by rw[z.2];exact e.seq hS) ?_ ?_
  ·refine Lp ?_;rintro _ _ i x _ hGo σ H2 hx ⟨⟨x3,rfl⟩,rfl⟩;refine hGo _ _ ?_;obtain⟨n,hn,rfl⟩:=C4 hx;walk_at "";refine⟨.inr ⟨by lia,by lia⟩,?_⟩;rw[FW hn];exact⟨rfl,_,rfl⟩
  ·rintro σ H2 ⟨⟨x3,rfl⟩,rfl⟩;walk_at "";rw[YG,ZC];exact h ns rfl _ e
theorem N1:AK ["number","signs","many","backwards","rest"] ["number","signs","many"] (AH UQ):=CA (by decide +kernel)
theorem V6(T:B8 K mg t) :Al P w K mg base 1 t.f_55 ["number","signs","many"] (Fq):=by
 refine Ak T.d_55 N1 (λ_ _ _ _ _ _=>b3 λ_ _ _=>rfl) λvs H Q E h=>?_;obtain⟨n,g,m,rfl,g2,g9,m0,m3,hbad,hgood⟩:=h;refine⟨rfl,λbh A outer s hr=>?_⟩
 refine⟨_,(AC (Au (AM Ck (pv 0) AB (AR _)) (AF Ex) AV)
  (AC (AS 3 N1 (BB AD))
  (AC (AS 4 N1 (pv 0))
  (AC (Da PassesOwn.never (AM Ck (Aw (Lo K) rfl T.z_len Y7 (AA (pv 3) AD)) (pv 2) (AR _)) (AC (BM (Q6 K (pv 3) (AA (AG Aa (pv 4) (pv 1)) AD)))
  (AF (AS 4 N1 (AG BF (pv 4) (pv 1))))))
  (AC (Au (AM EE (pv 4) AB (AR _)) (AF Ex) AV)
  (AF (AL (NQ rfl rfl T.z_reversed rfl T.z_list (AA (pv 3) AD))))))))),?_⟩
 walk_at ""
 by_cases hn:n<0
 ·rw[qF hn];exact hbad (.inl hn)
 rw[qE hn];refine⟨ZT _,λp hp=>?_⟩
 refine EC (λσ H1=>∃i:Nat,i<=m.toNat/\σ=[some (.int n),some (.int g),some (.int m),some (.ref p),some (.int (dr g n i))]/\H1=Ac H p (.lst ((C7 g n i).map V.int)))
  (λσ H1=>match H1 p with|some (.lst xs)=>m.toNat-xs.length|_=>0) ⟨0,ZT _,rfl,rfl⟩ ?_ ?_
 ·rintro σ H1 ⟨i,hi,rfl,rfl⟩;walk_at "";have hl:((C7 g n i).map V.int).length=i:=by rw[YG,DL]
  refine⟨_,.inl (Ai.of AE),?_⟩;rw[hl]
  by_cases hlt:(i:Int)<m
  ·rw[qF hlt];refine⟨.inl ⟨_,Ai.of AE⟩,by lia,_,AE,by rw[hl];exact Ae (by lia),by lia,by lia,⟨i+1,by lia,rfl,?_⟩,?_⟩
   ·rw[Ef,C7,YV];rfl
   ·rw[AE,AE];show m.toNat-(List.map V.int (C7 g n i)++[V.int (dr g n i%g)]).length<m.toNat-(List.map V.int (C7 g n i)).length;rw[YN,hl];simp only[List.length_cons,List.length_nil];lia
  ·rw[qE hlt];have ei:i=m.toNat:=by lia
   by_cases hd:0<dr g n i
   ·rw[qF hd];refine hbad (.inr (Int.not_lt.mp λz=>?_));rw[ei,NW g2 (by lia) z]at hd;lia
   ·rw[qE hd];refine⟨_,Ai.of AE,λr hr'=>hgood (by lia) (Int.not_le.mp λz=>?_) r _ ⟨(AI.new hp _).trans (AI.new hr' _),(PY hr').2,?_⟩⟩
    ·rw[ei]at hd;exact hd (T2 g2 z)
    ·rw[AE,ei,List.map_reverse]
 ·intro σ H1 Q1 Q2 hq;walk_at "";rintro⟨v,h1,p,h2,x,h3,v2,h4,x1,h5,h6⟩;exact⟨v,h1,p,h2,x,h3,v2,h4,x1,h5,hq _ _ h6⟩
theorem V7:AK ["signs","low"] ["signs","low"] (AH UR):=CA (by decide +kernel)
theorem V8(T:B8 K mg t)(G_47:Al P w K mg base 1 t.f_47 ["thing"] (Eg)):Al P w K mg base 2 t.f_21 ["signs","low"] (Kb):=by
 refine Ak T.d_21 V7 (λ_ _ _ _ _ _=>b2 λ_ _=>rfl) λvs H Q E h=>?_;obtain⟨g,lo,rfl,g2,g9,q⟩:=h;refine⟨rfl,λbh A outer s hr=>?_⟩
 refine⟨_,(AC (Au (PW.pt (CB (By (Bb (AQ hr G_47 T.m_47 (AA (pv 0) AD)))) (CB (AM Ck (pv 0) AB (AR _)) (CH (AM EE (pv 0) AB (AR _)))))) (AF Ex) AV)
  (AF (Au (By (Bb (AQ hr G_47 T.m_47 (AA (pv 1) AD)))) (AF Ex) AV))),?_⟩
 walk_at "";refine⟨.int g,rfl,trivial,true,rfl,?_⟩;rw[qE (by decide)];rw[qE (by lia),qE (by lia)];refine⟨.int lo,rfl,trivial,true,rfl,?_⟩;rw[qE (by decide)];exact q
theorem Ls:AK ["signs","length","many","words"] ["signs","length"] (AH US):=CA (by decide +kernel)
theorem V9(T:B8 K mg t) :Al P w K mg base 1 t.f_26 ["signs","length"] (DM):=by
 refine Ak T.d_26 Ls (λ_ _ _ _ _ _=>b2 λ_ _=>rfl) λvs H Q E h=>?_;obtain⟨g,n,rfl,g2,g9,hy,hn⟩:=h;refine⟨rfl,λbh A outer s hr=>?_⟩
 refine⟨_,(AC (AS 2 Ls AB)
  (AC (AS 3 Ls AB)
  (AC (Da PassesOwn.never (AM Ck (pv 3) (pv 1) (AR _)) (AC (AS 3 Ls (AG A9 (pv 3) (pv 0)))
  (AF (AS 2 Ls (AG AY (pv 2) AB)))))
  (AC (Au (AM BG (pv 3) (pv 1) (AR _)) (AF (AL (pv 2))) AV)
  (AF (AL AB)))))),?_⟩
 walk_at ""
 refine EC (λσ H1=>∃i:Nat,σ=[some (.int g),some (.int n),some (.int ((i:Nat):Int)),some (.int (g^i))]/\H1=H/\∀j,j<i->g^j<n)
  (λ(σ:St) (H1:Hp)=>match σ[3]? with|some (some (V.int x))=>(n-x).toNat|_=>0) ⟨0,by rw[Yq];rfl,rfl,λj hj=>qG hj (aN _)⟩ ?_ ?_
 ·rintro σ H1 ⟨i,rfl,rfl,hj⟩;have gp:=RW.Ab g2 i;walk_at ""
  by_cases hlt:g^i<n
  ·rw[qF hlt];refine⟨.inr ⟨by lia,by lia⟩,⟨i+1,rfl,?_,λj hj2=>?_⟩,?_⟩
   ·rw[Ym]
   ·by_cases z:j=i
    ·rw[z];exact hlt
    ·exact hj j (by lia)
   ·have:g^i<g^i*g:=by
     have:=Zo g2 (ZX gp);lia
    lia
  ·rw[qE hlt]
   by_cases he:g^i=n
   ·rw[qF he];exact hy i he.symm
   ·rw[qE he];refine hn λm z=>?_
    by_cases hm:m<i
    ·have:=hj m hm;lia
    ·have:=Bc g2 (bJ hm);lia
 ·intro σ H1 Q1 Q2 hq;walk_at "";rintro⟨v,h1,v2,h2,i,h3,x,h4,h5⟩;exact⟨v,h1,v2,h2,i,h3,x,h4,hq _ _ h5⟩
theorem Qq:AK ["signs","many","length","done"] ["signs","many"] (AH Xf):=CA (by decide +kernel)
theorem Xq(T:B8 K mg t) :Al P w K mg base 1 t.f_8 ["signs","many"] (Hc):=by
 refine Ak T.d_8 Qq (λ_ _ _ _ _ _=>b2 λ_ _=>rfl) λvs H Q E h=>?_;obtain⟨g,m,rfl,g2,g9,m1,hy,hn⟩:=h;refine⟨rfl,λbh A outer s hr=>?_⟩
 refine⟨_,(AC (AS 2 Qq AB)
  (AC (AS 3 Qq AB)
  (AC (Da PassesOwn.never (PW.pt (E1 (AM Ck (pv 3) (pv 1) (AR _)) (Dn (AM Sc (pv 2) (Df rfl T.g_LONGEST_TABLE) (AR _))))) (AC (AS 2 Qq (AG A9 (pv 2) (pv 0)))
  (AF (AS 3 Qq (AG AY (pv 3) AB)))))
  (AF (AL (pv 2)))))),?_⟩
 walk_at ""
 refine EC (λσ H1=>∃i:Nat,i<=m.toNat/\σ=[some (.int g),some (.int m),some (.int (g^i)),some (.int ((i:Nat):Int))]/\H1=H)
  (λ(σ:St) (H1:Hp)=>match σ[3]? with|some (some (V.int x))=>(m-x).toNat|_=>0) ⟨0,ZT _,by rw[Yq];rfl,rfl⟩ ?_ ?_
 ·rintro σ H1 ⟨i,hi,rfl,rfl⟩;have gp:=RW.Ab g2 i;walk_at ""
  by_cases hlt:(i:Int)<m
  ·rw[qF hlt]
   by_cases hle:g^i<=256
   ·rw[qF hle];exact⟨.inr ⟨by lia,by lia⟩,⟨i+1,by lia,by rw[Ym],by lia⟩,by lia⟩
   ·rw[qE hle];have:=Bc g2 hi;exact hn (by lia) _ (by lia)
  ·rw[qE hlt];have ei:i=m.toNat:=by lia
   subst ei
   by_cases hle:g^m.toNat<=256
   ·exact hy hle
   ·exact hn (by lia) _ (by lia)
 ·intro σ H1 Q1 Q2 hq;walk_at "";rintro⟨v,h1,v2,h2,i,h3,x,h4,h5⟩;refine⟨v,h1,v2,h2,i,h3,x,h4,?_⟩
  by_cases z:i<x
  ·rw[qF z]at h5⊢;obtain⟨v3,h6,j,h7,h8⟩:=h5;exact⟨v3,h6,j,h7,hq _ _ h8⟩
  ·rw[qE z]at h5⊢;exact hq _ _ h5
theorem TK:AK ["signs","table","told"] ["signs","table"] (AH UT):=CA (by decide +kernel)
theorem WA(T:B8 K mg t)(G_26:Al P w K mg base 1 t.f_26 ["signs","length"] (DM))(G_50:Al P w K mg base 2 t.f_50 ["thing","signs"] (J9)):Al P w K mg base 3 t.f_14 ["signs","table"] (M4):=by
 refine Ak T.d_14 TK (λ_ _ _ _ _ _=>b2 λ_ _=>rfl) λvs H Q E h=>?_;obtain⟨g,a,b9,m,rfl,g2,g9,m1,len,sz,tb,ha,q⟩:=h;refine⟨rfl,λbh A outer s hr=>?_⟩
 refine⟨_,(AC (Au (By (Bb (RV rfl T.z_isinstance (pv 1) (AA (FU rfl T.z_list PyProof.Rows.boot_list) (AA (FU rfl T.z_tuple PyProof.Rows.boot_tuple) AD))))) (AF Ex) AV)
  (AC (Au (PW.pt (CB (AM EE (Aw (Lo K) rfl T.z_len Y7 (AA (pv 1) AD)) (Df rfl T.g_LONGEST_TABLE) (AR _)) (CH (AM BG (AQ hr G_26 T.m_26 (AA (pv 0) (AA (Aw (Lo K) rfl T.z_len Y7 (AA (pv 1) AD)) AD))) AB (AR _))))) (AF Ex) AV)
  (AF (BD PassesOwn.never rfl (Q5 K (pv 1)) (BC 2 TK) (AF (Au (By (Bb (AQ hr G_50 T.m_50 (AA (pv 2) (AA (pv 0) AD))))) (AF Ex) AV)))))),?_⟩
 walk_at "";refine⟨by decide,λp hp=>?_⟩;have e1:=AI.new hp (.tup [V.ty "list",V.ty "tuple"]);have h1:Ac H p (.tup [V.ty "list",V.ty "tuple"]) p=some (.tup [V.ty "list",V.ty "tuple"]):=AE;generalize Ac H p (HO.tup [V.ty "list",V.ty "tuple"])=H1 at e1 h1⊢;have ha1:=e1 _ _ ha;refine⟨_,.of (.lst ha1),_,h1,[.type "list",.type "tuple"],rfl,true,YE Vn _,?_⟩;rw[qE (by decide)];refine⟨_,.inl (Ai.of ha1),?_⟩;rw[YG,qE (by lia)];refine⟨_,.inl (Ai.of ha1),g,_,rfl,g2,g9,λm' hm=>⟨rfl,?_⟩,λno=>qG (by rw[YG];exact len) (no m)⟩;rw[YG,len]at hm;have:=Dq g2 hm;rw[qE (by intro z;injection z with z;lia)];refine⟨_,rfl,a,rfl,⟨_,Ai.of ha1⟩,?_⟩;refine CY (xs:=b9.map V.int) (λi σ H2=>(∃x2,σ=[some (.int g),some (.ref a),x2])/\H2=H1) ⟨⟨none,rfl⟩,rfl⟩ (λi σ H2 _ z=>by rw[z.2];exact Ai.of ha1) ?_ ?_
 ·refine Lp ?_;rintro _ _ i x _ hGo σ H2 hx ⟨⟨x2,rfl⟩,rfl⟩;refine hGo _ _ ?_;obtain⟨n,hn,rfl⟩:=C4 hx;have b:=tb n (YW hn);walk_at "";refine⟨.int n,g,rfl,trivial,?_⟩;rw[show Qw g (.int n)=true by show (decide (0<=n)&&decide (n<g))=true;rw[qH b.1,qH b.2];rfl];walk_at "";exact⟨_,rfl⟩
 ·rintro σ H2 ⟨_,rfl⟩;exact q _ e1
theorem WB:AK ["signs","low","table"] ["signs","low","table"] (AH UU):=CA (by decide +kernel)
theorem WC(T:B8 K mg t)(G_21:Al P w K mg base 2 t.f_21 ["signs","low"] (Kb))(G_14:Al P w K mg base 3 t.f_14 ["signs","table"] (M4)):Al P w K mg base 4 t.f_68 ["signs","low","table"] (Ie):=by
 refine Ak T.d_68 WB (λ_ _ _ _ _ _=>b3 λ_ _ _=>rfl) λvs H Q E h=>?_;obtain⟨g,lo,a,b9,m,rfl,g2,g9,m1,len,sz,tb,ha,q⟩:=h;refine⟨rfl,λbh A outer s hr=>?_⟩
 refine⟨_,(AC (BM (AQ hr G_21 T.m_21 (AA (pv 0) (AA (pv 1) AD))))
  (AC (BM (AQ hr G_14 T.m_14 (AA (pv 0) (AA (pv 2) AD))))
  (AF (AL (Cg (AA (pv 0) (AA (pv 1) (AA (Bt B1 rfl T.z_tuple Zs (AA (pv 2) AD)) AD)))))))),?_⟩
 walk_at "";refine⟨g,lo,rfl,g2,g9,g,a,b9,m,rfl,g2,g9,m1,len,sz,tb,ha,λH1 e1=>?_⟩;refine⟨_,.inl ⟨Ai.of (e1 _ _ ha),λl hl=>⟨by decide,λp hp=>?_⟩⟩⟩;have e2:=AI.new hl (.tup (b9.map V.int));have e3:=AI.new hp (.tup [.int g,.int lo,.ref l]);exact q p _ ((e1.trans e2).trans e3) ⟨l,AE,e3 _ _ AE⟩
theorem WD:AK ["one"] ["one"] (AH UV):=CA (by decide +kernel)
theorem WE(T:B8 K mg t)(G_26:Al P w K mg base 1 t.f_26 ["signs","length"] (DM)):Al P w K mg base 2 t.f_62 ["one"] (Ca):=by
 refine Ak T.d_62 WD (λ_ _ _ _ _ _=>b1 λ_=>rfl) λvs H Q E h=>?_;obtain⟨r,g,lo,b9,m,rfl,g2,g9,⟨tb,h1,h2⟩,hl,q⟩:=h;refine⟨rfl,λbh A outer s hr=>?_⟩;refine⟨_,(AF (AL (AQ hr G_26 T.m_26 (AA (AJ (Bh K) (pv 0) AB (λ_ _=>rfl)) (AA (Aw (Lo K) rfl T.z_len Y7 (AA (AJ (Bh K) (pv 0) AB (λ_ _=>rfl)) AD)) AD))))),?_⟩;walk_at "";refine (Bz (v:=.int g) (Ad.of h1) (Cp rfl) (Bz (v:=.ref tb) (Ad.of h1) (Cp rfl) ?_));walk_at "";refine⟨_,.inr (Ad.of h2),g,_,rfl,g2,g9,λm' e=>?_,λz=>?_⟩
 ·rw[YG,hl]at e;rw[<-Dq g2 e];exact q
 ·exact qG (by rw[YG,hl]) (z m)
theorem WF:AK ["one","word"] ["one","word"] (AH UW):=CA (by decide +kernel)
theorem WG(T:B8 K mg t)(G_7:Al P w K mg base 4 t.f_7 ["word","signs","many"] (Ea K))(G_62:Al P w K mg base 2 t.f_62 ["one"] (Ca))(G_40:Al P w K mg base 4 t.f_40 ["word","signs"] (GL K)):Al P w K mg base 5 t.f_39 ["one","word"] (Ka K):=by
 refine Ak T.d_39 WF (λ_ _ _ _ _ _=>b2 λ_ _=>rfl) λvs H Q E h=>?_;obtain⟨r,a,g,lo,b9,m,xs,rfl,g2,g9,hR,hl,hS,kd,h⟩:=h;refine⟨rfl,λbh A outer s hr=>?_⟩
 refine⟨_,(AC (BM (AQ hr G_7 T.m_7 (AA (pv 1) (AA (AJ (Bh K) (pv 0) AB (λ_ _=>rfl)) (AA (AQ hr G_62 T.m_62 (AA (pv 0) AD)) AD)))))
  (AF (AL (AJ (Bh K) (AJ (Bh K) (pv 0) AB (λ_ _=>rfl)) (AQ hr G_40 T.m_40 (AA (pv 1) (AA (AJ (Bh K) (pv 0) AB (λ_ _=>rfl)) AD))) (λ_ _=>rfl))))),?_⟩
 refine A5.el hR λtb h1 h2=>?_;walk_at "";refine (Bz (Ad.of h1) rfl ⟨r,g,lo,b9,m,rfl,g2,g9,hR,hl,a,xs,g,m,rfl,hS,kd,?_⟩);cases hb:EL g m xs with
 |some i =>
  rw[hb]at h;exact h
 |none =>
  rw[hb]at h;obtain⟨hlen,hbi⟩:=K3 hb;obtain⟨ns,rfl,hns⟩:=E2 hbi;rw[YG]at hlen;intro H1 e1;refine (Bz (Ad.of (e1 _ _ h1)) rfl (Bz (Ad.of (e1 _ _ h1)) rfl ⟨a,_,g,rfl,g2,g9,e1.seq hS,KA,?_⟩));rw[hbi];intro ms hms H2 e2;have:=FV hms;subst this;have nb:=BN g2 hns;rw[hlen,<-hl]at nb;refine (Bz (v:=.int (b9.getD (Av g ns).toNat 0)) (Ad.of (e2 _ _ (e1 _ _ h2))) ?_ (h ns rfl _ (e1.trans e2)));have z:=CZ (ns:=b9) (k:=(Av g ns).toNat) (by lia);rw[show (((Av g ns).toNat:Nat):Int)=Av g ns by lia]at z;exact z
theorem TL:AK ["one","head","sign","first"] ["one","head","sign"] (AH UX):=CA (by decide +kernel)
theorem WH(T:B8 K mg t) :Al P w K mg base 1 t.f_41 ["one","head","sign"] (KJ):=by
 refine Ak T.d_41 TL (λ_ _ _ _ _ _=>b3 λ_ _ _=>rfl) λvs H Q E h=>?_;obtain⟨r,g,lo,b9,m,h,s',rfl,ok,hh,q⟩:=h;refine⟨rfl,λbh A outer s hr=>?_⟩
 refine⟨_,(AC (AS 3 TL (AG A9 (pv 1) (AJ (Bh K) (pv 0) AB (λ_ _=>rfl))))
  (AF (AL (ID [(2,"sign"),(0,"one")] [("sign",_),("one",_)] (OH rfl T.z_range (AA (pv 3) (AA (AG AY (pv 3) (AJ (Bh K) (pv 0) AB (λ_ _=>rfl))) AD))) (λ_ _ _ _=>(F4 (AM BG (AJ (KC (K:=K) rfl) (AJ (KC (K:=K) rfl) (pv 2) AB (λ_ _=>rfl)) (pv 0) (λ_ _=>rfl)) (pv 1) (AR _)))) (λ_ _ _ _=>(pv 0)))))),?_⟩
 refine A5.el ok.v λtb h1 h2=>?_;have g2:=ok.g2;have g9:=ok.g9;have m1:=ok.m1;have m8:=ok.m8;have hl:=ok.len;have sz:=ok.sz;have hlm:(b9.map V.int).length=b9.length:=YG ..;have hd:=Az g2 hl m1;walk_at "";have gn:((g.toNat:Nat):Int)=g:=by lia
 have hb2:h*g.toNat+g.toNat<=b9.length:=by have:=aS g.toNat (show h+1<=b9.length/g.toNat from hh);rw[Nat.add_mul,Nat.one_mul]at this;lia
 refine (Bz (Ad.of h1) rfl ⟨g,rfl,.inr ⟨by lia,by lia⟩,?_⟩);refine⟨_,rfl,_,rfl,_,rfl,r,_,0,_,rfl,rfl,Ad.of h1,rfl,_,_,rfl,rfl,_,_,rfl,?_⟩;have eh:(h:Int)*g=((h*g.toNat:Nat):Int):=by rw[ZE,gn]
 rw[eh];refine⟨⟨by lia,by lia,by lia,by lia⟩,λD hD=>?_⟩;rw[show (((h*g.toNat:Nat):Int)+g-((h*g.toNat:Nat):Int)).toNat=g.toNat by lia];refine CM (lo:=((h*g.toNat:Nat):Int)) (n:=g.toNat) (λi bg Hx=>bg=(Hv (((List.range i).filter λj=>decide (b9.getD (h*g.toNat+j) 0=s')).map λj=>h*g.toNat+j)).map V.int/\Hx=Ac H D (.lst bg)) ⟨rfl,rfl⟩ ?_ ?_
 ·refine GO ?_;rintro i _ hGo bg Hx hi ⟨rfl,rfl⟩;refine hGo _ _ ?_;have en:=AI.new hD (.lst ((Hv (((List.range i).filter λj=>decide (b9.getD (h*g.toNat+j) 0=s')).map λj=>h*g.toNat+j)).map V.int));have ei:((h*g.toNat:Nat):Int)+(i:Int)=((h*g.toNat+i:Nat):Int):=by lia
  have fl:((List.range i).filter λj=>decide (b9.getD (h*g.toNat+j) 0=s')).length<=i:=by have:=Zf (λj=>decide (b9.getD (h*g.toNat+j) 0=s')) (List.range i);rw[Yo]at this;exact this
  rw[ei];walk_at "";refine (Bz (Ad.of (en _ _ h1)) rfl (Bz (Ad.of (en _ _ h2)) (CZ (by lia)) ⟨rfl,?_⟩))
  by_cases hc:b9.getD (h*g.toNat+i) 0=s'
  ·rw[qF (by rw[hc])];refine⟨AE,?_,?_,by rw[Ef]⟩
   ·unfold Hv;rw[YG,YG,YG];exact Ae (by lia)
   ·unfold Hv;have f1:([i]:List Nat).filter (λj=>decide (b9.getD (h*g.toNat+j) 0=s'))=[i]:=by rw[List.filter_cons,qF (qH hc)];rfl
    rw[Y4,ZP,f1,YV,YV,YV];rfl
  ·rw[qE (by intro z;exact hc (V.int.inj z))];have f1:([i]:List Nat).filter (λj=>decide (b9.getD (h*g.toNat+j) 0=s'))=[]:=by rw[List.filter_cons,qE (by rw[qI hc];decide)];rfl
   rw[Y4,ZP,f1,Yt];exact⟨rfl,rfl⟩
 ·rintro bg Hx ⟨rfl,rfl⟩;exact q D _ ⟨AI.new hD _,hD,AE⟩
theorem WI:AK ["one"] ["one"] (AH UY):=CA (by decide +kernel)
theorem WJ(T:B8 K mg t) :Al P w K mg base 1 t.f_66 ["one"] (DO):=by
 refine Ak T.d_66 WI (λ_ _ _ _ _ _=>b1 λ_=>rfl) λvs H Q E h=>?_;obtain⟨r,g,lo,b9,m,rfl,ok,q⟩:=h;refine⟨rfl,λbh A outer s hr=>?_⟩;refine⟨_,(AF (AL (AG BF (Aw (Lo K) rfl T.z_len Y7 (AA (AJ (Bh K) (pv 0) AB (λ_ _=>rfl)) AD)) (AJ (Bh K) (pv 0) AB (λ_ _=>rfl))))),?_⟩;refine A5.el ok.v λtb h1 h2=>?_;have g2:=ok.g2;have g9:=ok.g9;have m1:=ok.m1;have m8:=ok.m8;have hl:=ok.len;have sz:=ok.sz;have hlm:(b9.map V.int).length=b9.length:=YG ..;walk_at "";refine (Bz (Ad.of h1) rfl ?_);walk_at "";refine⟨_,.inr (Ad.of h2),Bz (Ad.of h1) rfl ⟨g,rfl,by lia,by lia,?_⟩⟩
 have e:(((b9.map V.int).length:Nat):Int)/g=((b9.length/g.toNat:Nat):Int):=by rw[hlm,Zq,YY (by lia)]
 rw[e];exact q
theorem WK:AK ["one","fitting","ways"] ["one","fitting","ways"] (AH UZ):=CA (by decide +kernel)
theorem WL(T:B8 K mg t)(G_66:Al P w K mg base 1 t.f_66 ["one"] (DO)):Al P w K mg base 2 t.f_63 ["one","fitting","ways"] (Fb):=by
 refine Ak T.d_63 WK (λ_ _ _ _ _ _=>b3 λ_ _ _=>rfl) λvs H Q E h=>?_;obtain⟨r,f,w',g,lo,b9,m,fs,ws,rfl,ok,hf,fl,hw,wl,q⟩:=h;refine⟨rfl,λbh A outer s hr=>?_⟩;refine⟨_,(AF (AL (ID [(2,"ways"),(0,"one")] [("ways",_),("one",_)] (Q5 K (pv 1)) (λ_ _ _ _=>E4) (λ_ _ _ _=>(AJ (K1 (K:=K) rfl) (pv 1) (AG Aa (pv 0) (AQ hr G_66 T.m_66 (AA (pv 2) AD))) (λ_ _=>rfl)))))),?_⟩;refine A5.el ok.v λtb h1 h2=>?_;have g2:=ok.g2;have g9:=ok.g9;have m1:=ok.m1;have m8:=ok.m8;have hl:=ok.len;have sz:=ok.sz;have hlm:(b9.map V.int).length=b9.length:=YG ..;have hd:=Az g2 hl m1;have hp:=RW.Ab g2 (m-1);have hp2:0<b9.length/g.toNat:=by lia
 walk_at "";refine⟨_,rfl,f,rfl,⟨_,Ai.of hf⟩,λD hD=>?_⟩;refine F5 (xs:=(Hv fs).map V.int) (λi bg Hx=>bg=((fs.take i).map λn=>ws.getD (n%(b9.length/g.toNat)) 0).map V.int/\Hx=Ac H D (.lst bg)) ⟨rfl,rfl⟩ (λi bg Hx _ z=>by rw[z.2];exact Ai.of (AI.new hD _ _ _ hf)) ?_ ?_
 ·refine M9 ?_;rintro i x _ hGo bg Hx hx ⟨rfl,rfl⟩;refine hGo _ _ ?_;obtain⟨v,hv,rfl⟩:=C4 hx
  obtain⟨n,hn,rfl⟩:∃n:Nat,fs[i]?=some n/\v=(n:Int):=by
   unfold Hv at hv;rw[YO]at hv;cases z:fs[i]? with
   |none=>rw[z]at hv;cases hv
   |some n=>rw[z]at hv;exact⟨n,rfl,(Option.some.inj hv).symm⟩
  have en:=AI.new hD (.lst (((fs.take i).map λn=>ws.getD (n%(b9.length/g.toNat)) 0).map V.int));have md:(n:Int)%((b9.length/g.toNat:Nat):Int)=((n%(b9.length/g.toNat):Nat):Int):=(Yk ..).symm;have lt:=Yz n hp2;walk_at "";refine⟨r,g,lo,b9,m,rfl,ok.same en,_,rfl,by lia,?_⟩;rw[md];refine (Ce (Ai.of (en _ _ hw)) (CZ (by lia)) ⟨AE,?_,?_,by rw[Ef]⟩)
  ·rw[YG,YG,Ys];exact Ae (by lia)
  ·rw[aW,hn];simp
 rintro bg Hx ⟨rfl,rfl⟩;have lf:((Hv fs).map V.int).length=fs.length:=by unfold Hv;rw[List.length_map,List.length_map]
 rw[lf,ZC];exact q D _ ⟨AI.new hD _,hD,AE⟩
theorem N3:AK ["one","row","ways","sign","ends"] ["one","row"] (AH Ua):=CA (by decide +kernel)
theorem WM(T:B8 K mg t)(G_66:Al P w K mg base 1 t.f_66 ["one"] (DO))(G_63:Al P w K mg base 2 t.f_63 ["one","fitting","ways"] (Fb))(G_41:Al P w K mg base 1 t.f_41 ["one","head","sign"] (KJ)):Al P w K mg base 3 t.f_52 ["one","row"] (MZ K):=by
 refine Ak T.d_52 N3 (λ_ _ _ _ _ _=>b2 λ_ _=>rfl) λvs H Q E h=>?_;obtain⟨r,a,g,lo,b9,m,ns,rfl,ok,hS,hn,q⟩:=h;refine⟨rfl,λbh A outer s hr=>?_⟩
 refine⟨_,(AC (AS 2 N3 (BB (AA (AG Tp (BB (AU AD)) (AQ hr G_66 T.m_66 (AA (pv 0) AD))) AD)))
  (AC (BD PassesOwn.never rfl (Tu rfl T.z_reversed (AA (pv 1) AD)) (BC 3 N3) (AC (AS 4 N3 (AJ (CJ K) (pv 2) (JM Fx AB) (λ_ _=>rfl)))
  (AF (BM (Q6 K (pv 2) (AA (ID [(3,"sign"),(0,"one"),(4,"ends")] [("sign",_),("one",_),("ends",_)] (A4 rfl T.z_range (AA (AQ hr G_66 T.m_66 (AA (pv 0) AD)) AD)) (λ_ _ _ _=>E4) (λ_ _ _ _=>(Aw (Mb (K:=K) rfl rfl) rfl T.z_sum PyProof.Rows.boot_sum (AA (AQ hr G_63 T.m_63 (AA (pv 2) (AA (AQ hr G_41 T.m_41 (AA (pv 2) (AA (pv 0) (AA (pv 1) AD)))) (AA (pv 3) AD)))) AD)))) AD))))))
  (AF (AL (NQ rfl rfl T.z_reversed rfl T.z_list (AA (pv 2) AD)))))),?_⟩
 refine A5.el ok.v λtb h1 h2=>?_;have g2:=ok.g2;have g9:=ok.g9;have m1:=ok.m1;have m8:=ok.m8;have hl:=ok.len;have sz:=ok.sz;have hlm:(b9.map V.int).length=b9.length:=YG ..;have hd:=Az g2 hl m1;have hp:=RW.Ab g2 (m-1);have hm1:=Bc g2 (show m-1<=m by lia);walk_at "";refine⟨by decide,λp1 hp1=>?_⟩;have f1:=AI.new hp1 (.lst [V.int 1]);refine⟨r,g,lo,b9,m,rfl,ok.same f1,?_⟩;refine Rb AE (by lia) (by lia) λp2 H2 f2 n2 h2'=>⟨by decide,λpw hpw=>?_⟩
 rw[YM]at h2';have f3:=AI.new hpw (.lst [.ref p2])
 have c0:H2 p2=some (.lst ((EO g.toNat b9 []).map V.int)):=by
  rw[h2']
  congr 2
  unfold EO;rw[Zd]
  symm
  rw[List.eq_replicate_iff];refine⟨by rw[YG,Yo],λb hb=>?_⟩;obtain⟨x,_,e⟩:=Yd.mp hb;rw[<-e];rfl
 have sA:AI H (Ac H2 pw (.lst [.ref p2])):=(f1.trans f2).trans f3;have npw:H pw=none:=(f1.trans f2).free hpw;refine⟨_,rfl,a,_,rfl,sA.seq hS,?_⟩;refine RU (xs:=ns.map V.int) (λi σ H3=>∃(ps:List Addr) (x3 x4:Option V),σ=[some (.ref r),some (.ref a),some (.ref pw),x3,x4]/\AI H H3/\H3 pw=some (.lst (ps.map V.ref))/\ps.length=i+1/\∀(j:Nat) (q':Addr),ps[j]?=some q'->H3 q'=some (.lst ((EO g.toNat b9 (ns.drop (ns.length-j))).map V.int))) ⟨[p2],none,none,rfl,sA,AE,rfl,λj q' hq=>?_⟩ (λi σ H3 _ z=>by obtain⟨_,_,_,_,e,_⟩:=z;exact e.seq hS) ?_ ?_
 ·have hj:j=0:=by
   have:=(YJ.mp hq).1;simpa using this
  subst hj;have:q'=p2:=by simpa using hq.symm
  subst this;rw[aK,List.drop_length];exact f3 _ _ c0
 ·rintro i x σ H3 hx ⟨ps,x3,x4,rfl,e3,hpw3,pl,hps⟩;rw[<-List.map_reverse]at hx;obtain⟨sg,hsg,rfl⟩:=C4 hx;walk_at "";have il:i<ns.length:=by have:=(YJ.mp hsg).1;rw[Zv]at this;exact this
  have dr:ns.drop (ns.length-(i+1))=sg::ns.drop (ns.length-i):=by rw[bF il]at hsg;obtain⟨hlt,hget⟩:=YJ.mp hsg;rw[show ns.length-(i+1)=ns.length-1-i by lia,ZG hlt,hget,show ns.length-1-i+1=ns.length-i by lia]
  obtain⟨q0,hq0⟩:∃q0,ps[i]?=some q0:=⟨ps[i],YI (by lia)⟩;have hv0:=hps i q0 hq0
  have la:Kj (ps.map V.ref) (-1)=some (V.ref q0):=by
   have z:NJ (ps.map V.ref).length (-1)=some i:=by
    unfold NJ;rw[YG,qE (by decide),qF (by lia)]
    congr 1
    lia
   unfold Kj;rw[z];show (ps.map V.ref)[i]?=_;rw[YO,hq0];rfl
  refine (Ce (Ai.of hpw3) la ⟨.inl ⟨_,Ai.of hpw3⟩,?_⟩);refine⟨_,rfl,r,g,lo,b9,m,rfl,ok.same e3,_,rfl,by lia,by lia,λD hD=>?_⟩;rw[YM]
  have hne:D≠pw:=λz=>by rw[z,hpw3]at hD;cases hD
  refine CM (n:=b9.length/g.toNat) (λk bg Hx=>bg=((List.range k).map (DE g.toNat b9 (sg::ns.drop (ns.length-i)))).map V.int/\AI H3 Hx/\Hx D=some (.lst bg)) ⟨rfl,AI.new hD _,AE⟩ ?_ ?_
  ·refine GO ?_;rintro k _ hGo bg Hx hk ⟨rfl,ex,hDx⟩;refine hGo _ _ ?_;walk_at "";refine⟨r,g,lo,b9,m,k,sg,by rw[Yj],ok.same (e3.trans ex),hk,λp5 H5 hN5=>?_⟩;have fl:(CF g.toNat b9 k sg).length<=9:=by unfold CF;rw[YG];have:=Zf (λj=>decide (b9.getD (k*g.toNat+j) 0=sg)) (List.range g.toNat);rw[Yo]at this;lia
   refine⟨r,p5,q0,g,lo,b9,m,CF g.toNat b9 k sg,EO g.toNat b9 (ns.drop (ns.length-i)),rfl,ok.same ((e3.trans ex).trans hN5.1),hN5.2.2,by lia,hN5.1 _ _ (ex _ _ hv0),Ht ..,λp6 H6 hN6=>?_⟩
   have sumE:((CF g.toNat b9 k sg).map λn=>(EO g.toNat b9 (ns.drop (ns.length-i))).getD (n%(b9.length/g.toNat)) 0).sum=DE g.toNat b9 (sg::ns.drop (ns.length-i)) k:=by
    rw[<-Hs]
    congr 1
    refine Yg λn _=>Hu (Yz _ (by lia))
   refine⟨p6,rfl,_,Ai.of hN6.2.2,hN6.1 _ _ (hN5.1 _ _ hDx),?_,?_,((ex.trans hN5.1).trans hN6.1).into hD,AE⟩
   ·rw[YG,YG,Yo];exact Ae (by lia)
   ·rw[sumE,BS,YV];rfl
  ·rintro bg Hx ⟨rfl,ex,hDx⟩;refine⟨_,ex _ _ hpw3,?_,(e3.trans ex).into npw,ps++[D],?_,?_,λj q' hq=>?_⟩
   ·rw[YG];exact Ae (by lia)
   ·rw[AE,YV];rfl
   ·rw[YN,pl];rfl
   ·by_cases hj:j<ps.length
    ·rw[ZH hj]at hq;have hh:=hps j q' hq
     have:q'≠pw:=λz=>by
      rw[z,hpw3]at hh;have z2:=HO.lst.inj (Option.some.inj hh);have e1:(ps.map V.ref)[i]?=some (V.ref q0):=by rw[YO,hq0];rfl
      rw[z2,YO]at e1;cases hz:(EO g.toNat b9 (ns.drop (ns.length-j)))[i]? with
      |none=>rw[hz]at e1;cases e1
      |some c=>rw[hz]at e1;cases e1
     rw[AN this];exact ex _ _ hh
    ·have hj2:=(YJ.mp hq).1;rw[YN]at hj2;have hj3:j=i+1:=by simp only[List.length_cons,List.length_nil]at hj2;lia
     subst hj3;rw[Yw (by lia),pl,Zn]at hq;have:q'=D:=(Option.some.inj hq).symm;subst this;rw[AN hne,hDx,dr];rfl
 ·rintro σ H3 ⟨ps,x3,x4,rfl,e3,hpw3,pl,hps⟩;walk_at "";refine⟨_,Ai.of hpw3,λp9 hp9=>?_⟩;have f9:=AI.new hp9 (.lst (ps.map V.ref).reverse);rw[YG]at pl;refine q p9 _ (e3.trans f9) (e3.free hp9) ⟨ps.reverse,by rw[AE,List.map_reverse],by rw[Zv,pl],λk q' hq=>?_⟩;have kl:=(YJ.mp hq).1;rw[Zv]at kl;rw[bF kl]at hq;have hh:=hps _ q' hq;rw[show ns.length-(ps.length-1-k)=k by lia]at hh;exact f9 _ _ hh
theorem Lu:AK ["parts","number","at","rest"] ["parts","number"] (AH Ub):=CA (by decide +kernel)
theorem WN(T:B8 K mg t) :Al P w K mg base 1 t.f_58 ["parts","number"] (IG):=by
 refine Ak T.d_58 Lu (λ_ _ _ _ _ _=>b2 λ_ _=>rfl) λvs H Q E h=>?_;obtain⟨p,ps,n,rfl,hp,n0,n1,q⟩:=h;refine⟨rfl,λbh A outer s hr=>?_⟩
 refine⟨_,(AC (AS 2 Lu AB)
  (AC (AS 3 Lu (pv 1))
  (AC (Da PassesOwn.never (AM Ko (pv 3) (AJ (CJ K) (pv 0) (pv 2) (λ_ _=>rfl)) (AR _)) (AC (AS 3 Lu (AG An (pv 3) (AJ (CJ K) (pv 0) (pv 2) (λ_ _=>rfl))))
  (AF (AS 2 Lu (AG AY (pv 2) AB)))))
  (AF (AL (Cg (AA (pv 2) (AA (pv 3) AD)))))))),?_⟩
 have hlm:(ps.map V.int).length=ps.length:=YG ..
 have pos:0<ps.length:=by
  cases ps with
  |nil=>exact qG n1 (by simp;lia)
  |cons a r=>exact Nat.succ_pos _
 refine As λN hN=>?_;walk_at "";refine hN _ _ ?_;clear hN N;refine As λN hN=>?_;walk_at "";refine hN _ _ ?_;clear hN N;refine CG (λσ HX=>∃(k rest:Nat),k<ps.length/\(rest:Int)<ps.getD k 0/\n=(ps.take k).sum+(rest:Int)/\σ=[some (.ref p),some (.int n),some (.int ((k:Nat):Int)),some (.int ((rest:Nat):Int))]/\HX=H) (λN hN=>?_) ?_
 ·refine EC (λσ HX=>∃(k rest:Nat),k<ps.length/\n=(ps.take k).sum+(rest:Int)/\σ=[some (.ref p),some (.int n),some (.int ((k:Nat):Int)),some (.int ((rest:Nat):Int))]/\HX=H)
   (λ(σ:St) (HX:Hp)=>match σ[2]? with|some (some (V.int y))=>((ps.length:Int)-y).toNat|_=>0) ⟨0,n.toNat,pos,by simp;lia,by rw[Int.toNat_of_nonneg n0];rfl,rfl⟩ ?_ ?_
  ·rintro σ HX ⟨k,rest,hk,hn,rfl,rfl⟩;have st:=JG hk;walk_at "";refine (Ce (Ai.of hp) (CZ hk) ⟨_,rfl,?_⟩)
   by_cases hle:ps.getD k 0<=(rest:Int)
   ·rw[qF hle];refine (Ce (Ai.of hp) (CZ hk) ⟨_,rfl,⟨k+1,?_,(((rest:Nat):Int)-ps.getD k 0).toNat,?_,by lia,by lia,rfl⟩,by lia⟩)
    ·by_cases z:k+1<ps.length
     ·exact z
     ·rw[ZI (show ps.length<=k+1 by lia)]at st;lia
    ·rw[st];lia
   ·rw[qE hle];exact hN _ _ ⟨k,rest,hk,by lia,hn,rfl,rfl⟩
  ·intro σ H1 Q1 Q2 hq;walk_at "";rintro⟨v,h1,v1,h2,v2,h3,p',ys,i',x',e1,e2,e3,e4,i,h5,x,h6,h7⟩;exact⟨v,h1,v1,h2,v2,h3,p',ys,i',x',e1,e2,e3,e4,i,h5,x,h6,hq _ _ h7⟩
 rintro _ hGo σ HX ⟨k,rest,hk,hr,hn,rfl,rfl⟩;refine hGo _ _ ?_;walk_at "";exact⟨by decide,λb hb=>q k rest b _ (AI.new hb _) hk hr hn AE⟩
theorem Ey:AK ["one","row","ways","number","chosen","head","word","at","sign","fitting","taken"] ["one","row","ways","number"] (AH Uc):=CA (by decide +kernel)
theorem WO(T:B8 K mg t)(G_58:Al P w K mg base 1 t.f_58 ["parts","number"] (IG))(G_55:Al P w K mg base 1 t.f_55 ["number","signs","many"] (Fq))(G_41:Al P w K mg base 1 t.f_41 ["one","head","sign"] (KJ))(G_62:Al P w K mg base 2 t.f_62 ["one"] (Ca))(G_63:Al P w K mg base 2 t.f_63 ["one","fitting","ways"] (Fb))(G_66:Al P w K mg base 1 t.f_66 ["one"] (DO)):Al P w K mg base 3 t.f_54 ["one","row","ways","number"] (IH K):=by
 refine Ak T.d_54 Ey (λ_ _ _ _ _ _=>b4 λ_ _ _ _=>rfl) λvs H Q E h=>?_;obtain⟨r,a,p,g,lo,b9,m,row,n,rfl,ok,hS,hn,hW,hlt,q⟩:=h;refine⟨rfl,λbh A outer s hr=>?_⟩
 refine⟨_,(AC (AS 4 Ey (AQ hr G_58 T.m_58 (AA (AJ (CJ K) (pv 2) AB (λ_ _=>rfl)) (AA (pv 3) AD))))
  (AC (AS 5 Ey (AJ (Bh K) (pv 4) AB (λ_ _=>rfl)))
  (AC (AS 6 Ey (AQ hr G_55 T.m_55 (AA (pv 5) (AA (AJ (Bh K) (pv 0) AB (λ_ _=>rfl)) (AA (AG An (AQ hr G_62 T.m_62 (AA (pv 0) AD)) AB) AD)))))
  (AC (BD PassesOwn.never rfl (NR rfl T.z_enumerate (AA (pv 1) AD)) (HD rfl (BK (BC 7 Ey) (BK (BC 8 Ey) DH))) (AC (AS 9 Ey (AQ hr G_41 T.m_41 (AA (pv 0) (AA (pv 5) (AA (pv 8) AD)))))
  (AC (AS 4 Ey (AQ hr G_58 T.m_58 (AA (AQ hr G_63 T.m_63 (AA (pv 0) (AA (pv 9) (AA (AJ (CJ K) (pv 2) (AG AY (pv 7) AB) (λ_ _=>rfl)) AD)))) (AA (AJ (Bh K) (pv 4) AB (λ_ _=>rfl)) AD))))
  (AC (AS 10 Ey (AJ (CJ K) (pv 9) (AJ (Bh K) (pv 4) AB (λ_ _=>rfl)) (λ_ _=>rfl)))
  (AC (BM (Q6 K (pv 6) (AA (AG Aa (pv 10) (AJ (Bh K) (pv 0) AB (λ_ _=>rfl))) AD)))
  (AF (AS 5 Ey (AG Aa (pv 10) (AQ hr G_66 T.m_66 (AA (pv 0) AD))))))))))
  (AF (AL (pv 6))))))),?_⟩
 refine A5.el ok.v λtb h1 h2=>?_;have g2:=ok.g2;have g9:=ok.g9;have m1:=ok.m1;have m8:=ok.m8;have hd:=Az g2 ok.len m1;have hpw:=RW.Ab g2 (m-1);have hp2:0<b9.length/g.toNat:=by lia
 obtain⟨ps,hps,pl,pe⟩:=hW;obtain⟨q0,hq0⟩:∃q0,ps[0]?=some q0:=⟨ps[0],YI (by lia)⟩;have hv0:=pe 0 q0 hq0;rw[Zt]at hv0;refine As λN hN=>?_;walk_at "";refine (Ce (v:=.ref q0) (Ai.of hps) (Cp (by rw[YO,hq0];rfl)) ⟨q0,EO g.toNat b9 row,_,rfl,hv0,by lia,by rw[LF];exact hlt,λh0 rest b H2 e2 hh hr hnn hb=>hN _ _ ?_⟩);clear hN N;rw[Ht]at hh;rw[Hu hh]at hr;have inv0:∀c,(JF g.toNat b9 row h0)[rest]?=some c->(DF g b9 m row)[n]?=some (Af g (h0:Int) (m-1)++c):=λc hc=>T5 hh hr hnn hc
 clear hnn;refine As λN hN=>?_;walk_at "";refine (Bz (Ad.of hb) rfl (hN _ _ ?_));clear hN N;have ok2:=ok.same e2;refine As λN hN=>?_;walk_at "";refine A5.el ok2.v λtb2 k1 k2=>?_;refine (Bz (Ad.of k1) rfl ⟨r,g,lo,b9,m,rfl,g2,g9,ok2.v,ok2.len,_,rfl,_,g,_,rfl,g2,g9,by lia,by lia,λz=>qG z ?_,λ_ _ pw H3 n3=>hN _ _ ?_⟩)
 ·rw[show ((m:Int)-1).toNat=m-1 by lia];lia
 clear hN N;rw[show ((m:Int)-1).toNat=m-1 by lia]at n3;have hb3:=n3.1 _ _ hb;have hw3:H3 pw=some (.lst ((Af g (h0:Int) (m-1)).map V.int)):=n3.2.2;have nw:=n3.2.1;have e3:=n3.1;clear n3 hb k1 k2;refine CG (λσ HX=>∃b h x7 x8 x9 x10 w,σ=[some (.ref r),some (.ref a),some (.ref p),some (.int ((n:Nat):Int)),some (.ref b),some (.int ((h:Nat):Int)),some (.ref pw),x7,x8,x9,x10]/\AI H2 HX/\HX pw=some (.lst (w.map V.int))/\(DF g b9 m row)[n]?=some w) (λN hN=>?_) ?_
 ·refine⟨_,rfl,a,_,rfl,(e2.trans e3).seq hS,?_⟩;refine Kw (xs:=row.map V.int) (λi σ HX=>∃b b0 h rest x7 x8 x9 x10 w,σ=[some (.ref r),some (.ref a),some (.ref p),some (.int ((n:Nat):Int)),some (.ref b),some (.int ((h:Nat):Int)),some (.ref pw),x7,x8,x9,x10]/\AI H2 HX/\HX b=some (.tup [.int b0,.int ((rest:Nat):Int)])/\h<b9.length/g.toNat/\(rest:Int)<DE g.toNat b9 (row.drop i) h/\HX pw=some (.lst (w.map V.int))/\w.length=m-1+i/\∀c,(JF g.toNat b9 (row.drop i) h)[rest]?=some c->(DF g b9 m row)[n]?=some (w++c)) ⟨b,_,h0,rest,none,none,none,none,_,rfl,e3,hb3,hh,hr,hw3,by rw[A1];rfl,inv0⟩ (λi σ HX _ z=>by obtain⟨_,_,_,_,_,_,_,_,_,_,e,_⟩:=z;exact (e2.trans e).seq hS) ?_ ?_
  ·clear inv0 hb3 hw3 hr;rintro i x pt σ HX hx ⟨b,b0,h,rest,x7,x8,x9,x10,w,rfl,eX,hb,hh,hr,hw,wl,inv⟩ hpt;obtain⟨s,hs,rfl⟩:=C4 hx;have dr:row.drop i=s::row.drop (i+1):=by obtain⟨hl,hget⟩:=YJ.mp hs;rw[ZG hl,hget]
   have il:=(YJ.mp hs).1;rw[dr]at hr inv;have et:=AI.new hpt (.tup [.int ((i:Nat):Int),.int s]);refine⟨pt,_,rfl,Ad.of AE,rfl,_,_,rfl,_,_,rfl,rfl,?_⟩;have eT:=eX.trans et;have hbT:=et _ _ hb;have hwT:=et _ _ hw;generalize Ac HX pt (.tup [.int ((i:Nat):Int),.int s])=HT at eT hbT hwT et⊢;have okT:=(ok.same e2).same eT;refine As λN2 hN2=>?_;walk_at "";refine⟨r,g,lo,b9,m,h,s,rfl,okT,hh,λpf H4 n4=>hN2 _ _ ?_⟩;clear hN2 N2;have e4:=eT.trans n4.1;have hb4:=n4.1 _ _ hbT;have hw4:=n4.1 _ _ hwT;have hf4:=n4.2.2;have ok4:=okT.same n4.1;clear n4 okT eT hbT hwT et hb hw hpt eX;obtain⟨qk,hqk⟩:∃qk,ps[i+1]?=some qk:=⟨ps[i+1],YI (by lia)⟩;have hvk:=pe (i+1) qk hqk;refine As λN2 hN2=>?_;walk_at "";have eH4:=e2.trans e4;have sh:((CF g.toNat b9 h s).map λf=>(EO g.toNat b9 (row.drop (i+1))).getD (f%(b9.length/g.toNat)) 0)=(CF g.toNat b9 h s).map λf=>DE g.toNat b9 (row.drop (i+1)) (f%(b9.length/g.toNat)):=Yg λf _=>Hu (Yz _ hp2)
   have fl:(CF g.toNat b9 h s).length<=300:=by unfold CF;rw[YG];have:=Zf (λj=>decide (b9.getD (h*g.toNat+j) 0=s)) (List.range g.toNat);rw[Yo]at this;lia
   refine (Ce (v:=.ref qk) (Ai.of (eH4 _ _ hps)) (by rw[show (i:Int)+1=((i+1:Nat):Int) by lia];exact Cp (by rw[YO,hqk];rfl)) ?_);refine⟨r,pf,qk,g,lo,b9,m,CF g.toNat b9 h s,EO g.toNat b9 (row.drop (i+1)),rfl,ok4,hf4,fl,eH4 _ _ hvk,Ht _ _ _,λpsh H5 n5=>?_⟩;rw[sh]at n5;refine (Bz (Ad.of (n5.1 _ _ hb4)) rfl ⟨psh,_,_,rfl,n5.2.2,by lia,by rw[Hs];exact hr,λk rest' b' H6 e6 hk hr' hn' hb'=>hN2 _ _ ?_⟩);clear hN2 N2;rw[YG]at hk;obtain⟨f,hf⟩:∃f,(CF g.toNat b9 h s)[k]?=some f:=⟨_,YI hk⟩;rw[YH,YO,hf]at hr';replace hr':(rest':Int)<DE g.toNat b9 (row.drop (i+1)) (f%(b9.length/g.toNat)):=hr'
   have inv2:∀c,(JF g.toNat b9 (row.drop (i+1)) (f%(b9.length/g.toNat)))[rest']?=some c->(DF g b9 m row)[n]?=some (w++[((f%g.toNat:Nat):Int)]++c):=λc hc=>by rw[Yu];exact inv _ (Vs hf hr' hn' hc)
   have e56:=n5.1.trans e6;have e6':=e4.trans e56;have hf6:=e56 _ _ hf4;have hw6:=e56 _ _ hw4;have ok6:=ok4.same e56;clear n5 e6 hn' e56 hf4 hw4 hb4 e4 inv hr ok4 sh eH4 hvk hqk;refine As λN2 hN2=>?_;walk_at "";refine (Bz (Ad.of hb') rfl (Ce (v:=.int ((f:Nat):Int)) (Ai.of hf6) (Cp (by unfold Hv;rw[List.map_map,List.getElem?_map,hf];rfl)) (hN2 _ _ ?_)));clear hN2 N2;refine A5.el ok6.v λtb6 k1 k2=>?_;refine As λN2 hN2=>?_;walk_at "";refine⟨.inl ⟨_,Ai.of hw6⟩,Bz (Ad.of k1) rfl ⟨_,rfl,by lia,_,hw6,?_,hN2 _ _ ?_⟩⟩
   ·rw[YG,wl];exact Ae (by lia)
   clear hN2 N2;have e7:=e6'.into nw (o:=.lst (w.map V.int++[V.int ((f:Int)%g)]))
   have hb7:Ac H6 pw (.lst (w.map V.int++[V.int ((f:Int)%g)])) b'=some (.tup [.int ((k:Nat):Int),.int ((rest':Nat):Int)]):=by rw[AN (Eu hb' hw6 (λz=>nomatch z))];exact hb'
   have hw7:Ac H6 pw (.lst (w.map V.int++[V.int ((f:Int)%g)])) pw=some (.lst ((w++[((f%g.toNat:Nat):Int)]).map V.int)):=by rw[AE,YV,show (f:Int)%g=((f%g.toNat:Nat):Int) by rw[Yk,YY (by lia)]];rfl
   have ok7:=(ok.same e2).same e7;generalize Ac H6 pw (.lst (w.map V.int++[V.int ((f:Int)%g)]))=H7 at e7 hb7 hw7 ok7⊢;walk_at "";exact⟨r,g,lo,b9,m,rfl,ok7,_,rfl,by lia,_,f%(b9.length/g.toNat),by rw[Yk],e7,rest',hb7,Yz _ hp2,hr',_,hw7,by rw[YN,wl];rfl,inv2⟩
  ·rintro σ HX ⟨b,b0,h,rest,x7,x8,x9,x10,w,rfl,eX,hb,hh,hr,hw,wl,inv⟩;rw[YG,List.drop_length]at hr inv;have r0:rest=0:=by have:(rest:Int)<1:=hr;lia
   refine hN _ _ ⟨b,h,x7,x8,x9,x10,w,rfl,eX,hw,?_⟩;have:=inv [] (by rw[r0];rfl);rw[Yt]at this;exact this
 rintro _ hGo σ HX ⟨b,h,x7,x8,x9,x10,w,rfl,eX,hw,hall⟩;refine hGo _ _ ?_;walk_at "";exact q pw HX w hall ⟨e2.trans eX,e2.free nw,hw⟩
theorem TM:AK ["one","row","number","ways"] ["one","row","number"] (AH Ud):=CA (by decide +kernel)
theorem WP(T:B8 K mg t)(G_22:Al P w K mg base 3 t.f_22 ["word","signs"] (EZ K))(G_52:Al P w K mg base 3 t.f_52 ["one","row"] (MZ K))(G_54:Al P w K mg base 3 t.f_54 ["one","row","ways","number"] (IH K)):Al P w K mg base 4 t.f_37 ["one","row","number"] (Lq K):=by
 refine Ak T.d_37 TM (λ_ _ _ _ _ _=>b3 λ_ _ _=>rfl) λvs H Q E h=>?_;obtain⟨r,a,g,lo,b9,m,xs,n,rfl,ok,hS,kd,hn,h⟩:=h;refine⟨rfl,λbh A outer s hr=>?_⟩
 refine⟨_,(AC (BM (AQ hr G_22 T.m_22 (AA (pv 1) (AA (AJ (Bh K) (pv 0) AB (λ_ _=>rfl)) AD))))
  (AC (AS 3 TM (AQ hr G_52 T.m_52 (AA (pv 0) (AA (pv 1) AD))))
  (AC (Au (PW.pt (CB (AM Ck (pv 2) AB (AR _)) (CH (AM Ko (pv 2) (Aw (GX rfl) rfl T.z_sum PyProof.Rows.boot_sum (AA (AJ (CJ K) (pv 3) AB (λ_ _=>rfl)) AD)) (AR _))))) (AF Ex) AV)
  (AF (AL (AQ hr G_54 T.m_54 (AA (pv 0) (AA (pv 1) (AA (pv 3) (AA (pv 2) AD)))))))))),?_⟩
 refine A5.el ok.v λtb h1 h2=>?_;refine As λN hN=>?_;walk_at "";refine (Bz (Ad.of h1) rfl ⟨a,xs,g,rfl,hS,kd,?_⟩);cases hb:CD g xs with
 |some i =>
  rw[hb]at h;exact h
 |none =>
  rw[hb]at h;obtain⟨ns,rfl,hns⟩:=E2 hb;rw[YG]at hn;obtain⟨hbad,hgood⟩:=h ns rfl;clear h;intro H1 e1;refine hN _ _ ?_;clear hN N;refine As λN hN=>?_;walk_at "";refine⟨r,a,g,lo,b9,m,ns,rfl,ok.same e1,e1.seq hS,by lia,λp H2 e2 hp hW=>hN _ _ ?_⟩;clear hN N;have e12:=e1.trans e2;obtain⟨ps,hps,pl,pe⟩:=id hW;obtain⟨q0,hq0⟩:∃q0,ps[0]?=some q0:=⟨ps[0],YI (by lia)⟩;have hv0:=pe 0 q0 hq0;rw[Zt]at hv0;refine As λN hN=>?_;walk_at ""
  by_cases n0:n<0
  ·rw[qF n0];exact hbad (.inl n0)
  rw[qE n0];refine (Ce (v:=.ref q0) (Ai.of hps) (Cp (by rw[YO,hq0];rfl)) ⟨q0,rfl,_,Ai.of hv0,?_⟩);rw[LF]
  by_cases n1:B2 g.toNat b9 ns<=n
  ·rw[qF n1];exact hbad (.inr n1)
  rw[qE n1];refine hN _ _ ?_;clear hN N;obtain⟨M,rfl⟩:∃M:Nat,n=((M:Nat):Int):=⟨n.toNat,by lia⟩;walk_at "";exact⟨r,a,p,g,lo,b9,m,ns,M,rfl,ok.same e12,e12.seq hS,hn,hW,by lia,λq H' w hw n5=>hgood (by lia) (by lia) q H' w hw ⟨e12.trans n5.1,e12.free n5.2.1,n5.2.2⟩⟩
theorem Lv:AK ["one","weight","table","number","told","there"] ["one","weight"] (AH Ue):=CA (by decide +kernel)
theorem WQ(T:B8 K mg t) :Al P w K mg base 1 t.f_59 ["one","weight"] (Hd):=by
 refine Ak T.d_59 Lv (λ_ _ _ _ _ _=>b2 λ_ _=>rfl) λvs H Q E h=>?_;obtain⟨r,g,lo,b9,wt,rfl,g2,g9,hR,w0,w3,tl,q⟩:=h;refine⟨rfl,λbh A outer s hr=>?_⟩
 refine⟨_,(AC (AS 2 Lv (AJ (Bh K) (pv 0) AB (λ_ _=>rfl)))
  (AC (BD PassesOwn.never rfl (Ha rfl T.z_enumerate (AA (pv 2) AD)) (HD rfl (BK (BC 3 Lv) (BK (BC 4 Lv) DH))) (AC (AS 5 Lv (AG Aa (AG BF (pv 3) (pv 1)) (AJ (Bh K) (pv 0) AB (λ_ _=>rfl))))
  (AF (Au (AM ED (pv 4) (AJ (Bh K) (pv 2) (AG An (pv 3) (AG A9 (pv 5) (pv 1))) (λ_ _=>rfl)) (AR _)) (AF (AL Cj)) AV))))
  (AF (AL Cj)))),?_⟩
 refine A5.el hR λtb h1 h2=>?_;walk_at "";refine (Bz (Ad.of h1) rfl ?_);walk_at "";refine⟨_,rfl,tb,_,rfl,Ad.of h2,?_⟩;refine JT (xs:=b9.map V.int) (λi σ H1=>(∃x3 x4 x5,σ=[some (.ref r),some (.int wt),some (.ref tb),x3,x4,x5])/\AI H H1/\∀k,k<i->b9.getD k 0=b9.getD ((k:Int)-(k:Int)/wt%g*wt).toNat 0) ⟨⟨none,none,none,rfl⟩,AI.refl _,λk hk=>qG hk (aN _)⟩ (λi σ H1 _ z=>Ad.of (z.2.1 _ _ h2)) ?_ ?_
 ·rintro i x p2 σ H1 hx ⟨⟨x3,x4,x5,rfl⟩,e,hall⟩ hp2;obtain⟨n,hn,rfl⟩:=C4 hx;have hi:i<b9.length:=(YJ.mp hn).1;have e2:AI H (Ac H1 p2 (.tup [.int ((i:Nat):Int),.int n])):=e.trans (AI.new hp2 _);refine⟨p2,_,rfl,Ad.of AE,rfl,_,_,rfl,_,_,rfl,rfl,?_⟩;walk_at "";have ix:=Pk (k:=(i:Int)) (w:=wt) (g:=g) (by lia) w0 g2;have gA:=BJ (ns:=b9) ix.1 (by lia);have ng:n=b9.getD i 0:=by rw[YH,hn];rfl
  refine⟨w0,by lia,Bz (Ad.of (e2 _ _ h1)) rfl ⟨g,rfl,by lia,.inr ⟨by lia,by lia⟩,Bz (Ad.of (e2 _ _ h2)) gA ⟨rfl,?_⟩⟩⟩
  by_cases hd:V.int n=V.int (b9.getD ((i:Int)-(i:Int)/wt%g*wt).toNat 0)
  ·rw[qE (λz=>z hd)];refine⟨⟨_,rfl⟩,e2,λk hk=>?_⟩
   by_cases z:k=i
   ·subst z;rw[<-ng];exact V.int.inj hd
   ·exact hall k (by lia)
  ·rw[qF hd];have z:BL g b9 wt=true:=Di.mpr ⟨i,hi,λy=>hd (by rw[ng,y])⟩;rw[z]at q;exact q _ e2
 ·rintro σ H1 ⟨⟨x3,x4,x5,rfl⟩,e,hall⟩;walk_at "";rw[YG]at hall
  have z:BL g b9 wt=false:=by
   cases z:BL g b9 wt with
   |false=>rfl
   |true =>
    obtain⟨k,hk,h⟩:=Di.mp z;exact qG (hall k hk) h
  rw[z]at q;exact q H1 e
theorem Lw:AK ["one","found","weight","at"] ["one"] (AH Uf):=CA (by decide +kernel)
theorem WR(T:B8 K mg t)(G_62:Al P w K mg base 2 t.f_62 ["one"] (Ca))(G_59:Al P w K mg base 1 t.f_59 ["one","weight"] (Hd)):Al P w K mg base 3 t.f_46 ["one"] (Dr):=by
 refine Ak T.d_46 Lw (λ_ _ _ _ _ _=>b1 λ_=>rfl) λvs H Q E h=>?_;obtain⟨r,g,lo,b9,m,rfl,g2,g9,hR,hl,m1,m8,gm,q⟩:=h;refine⟨rfl,λbh A outer s hr=>?_⟩
 refine⟨_,(AC (AS 1 Lw (BB AD))
  (AC (AS 2 Lw (Aw (Lo K) rfl T.z_len Y7 (AA (AJ (Bh K) (pv 0) AB (λ_ _=>rfl)) AD)))
  (AC (BD PassesOwn.never rfl (A4 rfl T.z_range (AA (AQ hr G_62 T.m_62 (AA (pv 0) AD)) AD)) (BC 3 Lw) (AC (AS 2 Lw (AG BF (pv 2) (AJ (Bh K) (pv 0) AB (λ_ _=>rfl))))
  (AF (Au (Bb (AQ hr G_59 T.m_59 (AA (pv 0) (AA (pv 2) AD)))) (AF (BM (Q6 K (pv 1) (AA (AG AY (AJ (Bh K) (pv 0) AB (λ_ _=>rfl)) (pv 3)) AD)))) AV))))
  (AF (AL (pv 1)))))),?_⟩
 refine A5.el hR λtb h1 h2=>?_;walk_at "";refine⟨ZT _,λp hp=>?_⟩;have e0:=AI.new hp (.lst []);refine (Bz (Ad.of (e0 _ _ h1)) rfl ?_);walk_at "";refine⟨_,.inr (Ad.of (e0 _ _ h2)),?_⟩;rw[YG];refine⟨_,rfl,r,g,lo,b9,m,rfl,g2,g9,hR.same e0,hl,_,rfl,by lia,by lia,?_⟩;refine BX (n:=m) (λi σ H1=>∃x3,σ=[some (.ref r),some (.ref p),some (.int (g^(m-i))),x3]/\AI H H1/\H1 p=some (.lst ((((List.range i).filter λj=>BL g b9 (g^(m-1-j))).map λj:Nat=>lo+(j:Int)).map V.int))) ⟨none,by rw[hl,aK],e0,AE⟩ ?_ ?_
 ·refine Ed ?_;rintro _ _ i _ hGo σ H1 hi ⟨x3,rfl,e,hp1⟩;refine hGo _ _ ?_;have dv:g^(m-i)/g=g^(m-1-i):=by rw[show m-i=(m-1-i)+1 by lia,Ym,Int.mul_ediv_cancel _ (by lia)]
  have gp:=RW.Ab g2 (m-1-i);have gb:=Bc g2 (show m-1-i<=m by lia);walk_at "";refine (Bz (Ad.of (e _ _ h1)) rfl ?_);walk_at "";rw[dv];refine⟨by lia,by lia,r,g,lo,b9,_,rfl,g2,g9,hR.same e,gp,by lia,by lia,λH2 e2=>?_⟩;have e3:=e.trans e2;refine⟨_,rfl,?_⟩;cases hc:BL g b9 (g^(m-1-i)) with
  |true =>
   rw[qF rfl];refine⟨.inl ⟨_,Ai.of (e2 _ _ hp1)⟩,Bz (Ad.of (e3 _ _ h1)) rfl ⟨lo,rfl,_,e2 _ _ hp1,?_,by rw[show m-(i+1)=m-1-i by lia],e3.into hp,?_⟩⟩
   ·rw[YG,YG];have:=Zf (λj=>BL g b9 (g^(m-1-j))) (List.range i);rw[Yo]at this;exact Ae (by lia)
   ·rw[AE,Y4,ZP,YV,YV,Yj];simp[List.filter,hc]
  |false =>
   rw[qE (by decide)];refine⟨by rw[show m-(i+1)=m-1-i by lia],e3,?_⟩;rw[e2 _ _ hp1,Y4,ZP];simp[List.filter,hc]
 ·rintro σ H1 ⟨x3,rfl,e,hp1⟩;walk_at "";exact q p H1 ⟨e,hp,hp1⟩
theorem Xr:AK ["word","at"] ["word","at"] (AH Xg):=CA (by decide +kernel)
theorem Xs(T:B8 K mg t) :Al P w K mg base 1 t.f_2 ["word","at"] (Hw K):=by
 refine Ak T.d_2 Xr (λ_ _ _ _ _ _=>b2 λ_ _=>rfl) λvs H Q E h=>?_;obtain⟨a,v,z,rfl,hS,q⟩:=h;refine⟨rfl,λbh A outer s hr=>?_⟩
 refine⟨_,(AC (Au (PW.pt (CB (AM Ck (pv 1) AB (AR _)) (CH (AM Ko (pv 1) (Aw (Lo K) rfl T.z_len Y7 (AA (pv 0) AD)) (AR _))))) (AF (AL AB)) AV)
  (AF (AL (AJ (CJ K) (pv 0) (pv 1) (λ_ _=>rfl))))),?_⟩
 have hlm:(v.map V.int).length=v.length:=YG ..;unfold sn at q;walk_at ""
 by_cases h0:z<0
 ·rw[qF (.inl h0)]at q;rw[qF h0];exact q
 rw[qE h0];refine⟨_,.inl hS,?_⟩;rw[hlm]
 by_cases h1:(v.length:Int)<=z
 ·rw[qF (.inr h1)]at q;rw[qF h1];exact q
 rw[qE h1];rw[qE (by lia)]at q;exact⟨a,_,_,_,rfl,rfl,hS,BJ (by lia) (by lia),q⟩
theorem Lx:AK ["one","low","many","ahead","table","number","word"] ["one","low","many"] (AH Ug):=CA (by decide +kernel)
theorem WS(T:B8 K mg t)(G_68:Al P w K mg base 4 t.f_68 ["signs","low","table"] (Ie))(G_8:Al P w K mg base 1 t.f_8 ["signs","many"] (Hc))(G_55:Al P w K mg base 1 t.f_55 ["number","signs","many"] (Fq))(G_39:Al P w K mg base 5 t.f_39 ["one","word"] (Ka K))(G_2:Al P w K mg base 1 t.f_2 ["word","at"] (Hw K))(G_62:Al P w K mg base 2 t.f_62 ["one"] (Ca)):Al P w K mg base 6 t.f_38 ["one","low","many"] (Gv):=by
 refine Ak T.d_38 Lx (λ_ _ _ _ _ _=>b3 λ_ _ _=>rfl) λvs H Q E h=>?_;obtain⟨r,g,lo,b9,m,low,M,rfl,ok,M1,gM,q⟩:=h;refine⟨rfl,λbh A outer s hr=>?_⟩
 refine⟨_,(AC (AS 3 Lx (AG An (AJ (Bh K) (pv 0) AB (λ_ _=>rfl)) (pv 1)))
  (AC (AS 4 Lx (BB AD))
  (AC (BD PassesOwn.never rfl (A4 rfl T.z_range (AA (AQ hr G_8 T.m_8 (AA (AJ (Bh K) (pv 0) AB (λ_ _=>rfl)) (AA (pv 2) AD))) AD)) (BC 5 Lx) (AC (AS 6 Lx (AQ hr G_55 T.m_55 (AA (pv 5) (AA (AJ (Bh K) (pv 0) AB (λ_ _=>rfl)) (AA (pv 2) AD)))))
  (AF (BM (Q6 K (pv 4) (AA (AQ hr G_39 T.m_39 (AA (pv 0) (AA (ID [(6,"word"),(3,"ahead")] [("word",_),("ahead",_)] (A4 rfl T.z_range (AA (AQ hr G_62 T.m_62 (AA (pv 0) AD)) AD)) (λ_ _ _ _=>E4) (λ_ _ _ _=>(AQ hr G_2 T.m_2 (AA (pv 1) (AA (AG AY (pv 2) (pv 0)) AD))))) AD))) AD))))))
  (AF (AL (AQ hr G_68 T.m_68 (AA (AJ (Bh K) (pv 0) AB (λ_ _=>rfl)) (AA (pv 1) (AA (pv 4) AD))))))))),?_⟩
 refine A5.el ok.v λtb h1 h2=>?_;have g2:=ok.g2;have g9:=ok.g9;have m8:=ok.m8;have hl:=ok.len;have gp:=RW.Ab g2 M;have M8:=Dt g2 gM;walk_at "";refine (Bz (Ad.of h1) rfl ⟨lo,rfl,ZT _,λp hp=>?_⟩);have e0:=AI.new hp (.lst []);refine⟨_,rfl,r,_,0,_,rfl,rfl,Ad.of (e0 _ _ h1),rfl,_,rfl,?_⟩;refine⟨g,_,rfl,g2,g9,by lia,λ_=>?_,λz=>qG z (by rw[YM];lia)⟩;rw[YM];refine⟨_,rfl,by lia,by lia,?_⟩;refine BX (n:=(g^M).toNat) (λi σ H1=>∃x5 x6,σ=[some (.ref r),some (.int low),some (.int ((M:Nat):Int)),some (.int (lo-low)),some (.ref p),x5,x6]/\AI H H1/\H1 p=some (.lst (((List.range i).map λn:Nat=>b9.getD (Av g (Gs (Af g (n:Int) M) (lo-low) m)).toNat 0).map V.int))) ⟨none,none,rfl,e0,AE⟩ ?_ ?_
 ·refine Ed ?_;rintro _ _ i _ hGo σ H1 hi ⟨x5,x6,rfl,e,hp1⟩;refine hGo _ _ ?_;walk_at "";refine (Bz (Ad.of (e _ _ h1)) rfl ⟨_,g,_,rfl,g2,g9,by lia,by lia,λz=>qG z (by rw[YM];lia),λ_ _ pw H2 hN2=>?_⟩);rw[YM,Yj]at hN2;have e2:=e.trans hN2.1;have hp2:=hN2.1 _ _ hp1;refine⟨.inl ⟨_,Ai.of hp2⟩,?_⟩;refine⟨_,rfl,r,g,lo,b9,m,rfl,g2,g9,ok.v.same e2,hl,_,rfl,by lia,by lia,λD hD=>?_⟩;rw[YM];have hw2:H2 pw=some (.lst ((Af g (i:Int) M).map V.int)):=hN2.2.2;refine CM (n:=m) (λj bg Hx=>bg=((List.range j).map λk:Nat=>sn (Af g (i:Int) M) (lo-low+(k:Int))).map V.int/\Hx=Ac H2 D (.lst bg)) ⟨rfl,rfl⟩ ?_ ?_
  ·refine GO ?_;rintro j _ hGo bg Hx hj ⟨rfl,rfl⟩;refine hGo _ _ ?_;walk_at "";rw[Yj];refine⟨pw,_,_,rfl,Ai.of (AI.new hD _ _ _ hw2),AE,?_,?_,by rw[Ef]⟩
   ·rw[YG,YG,Yo];exact Ae (by lia)
   ·rw[BS,YV];rfl
  ·rintro bg Hx ⟨rfl,rfl⟩;have en:=AI.new hD (.lst ((Gs (Af g (i:Int) M) (lo-low) m).map V.int));have bb:=MU g2 (Bd g2 (i:Int) M) (lo-low) m;have bl:=K4 bb;rw[Cr]at bl;refine⟨r,D,g,lo,b9,m,(Gs (Af g (i:Int) M) (lo-low) m).map V.int,rfl,g2,g9,(ok.v.same e2).same en,hl,Ai.of AE,KA,?_⟩;rw[bl];intro ms hms H4 e4;have:=FV hms;subst this;have e24:=en.trans e4;refine⟨_,e24 _ _ hp2,?_,(e2.trans e24).into hp,?_⟩
   ·rw[YG,YG,Yo];exact Ae (by lia)
   ·rw[AE,BS,YV];rfl
 ·rintro σ H1 ⟨x5,x6,rfl,e,hp1⟩;walk_at "";refine (Bz (Ad.of (e _ _ h1)) rfl ?_);exact Ig (E:=E0) (b9:=EM g lo b9 m low M) g2 g9 M1 (BO g2 _ _ _ _ _) gM (Hg g2 _ ok.tb _ _ _) (.inl hp1) λr' H' e' hR=>q r' H' (e.trans e') (ok.bw M1 gM hR)
theorem TN:AK ["one","found"] ["one"] (AH Uh):=CA (by decide +kernel)
theorem WT(T:B8 K mg t)(G_46:Al P w K mg base 3 t.f_46 ["one"] (Dr))(G_38:Al P w K mg base 6 t.f_38 ["one","low","many"] (Gv)):Al P w K mg base 7 t.f_61 ["one"] (Hz):=by
 refine Ak T.d_61 TN (λ_ _ _ _ _ _=>b1 λ_=>rfl) λvs H Q E h=>?_;obtain⟨r,g,lo,b9,m,rfl,ok,q⟩:=h;refine⟨rfl,λbh A outer s hr=>?_⟩
 refine⟨_,(AC (AS 1 TN (AQ hr G_46 T.m_46 (AA (pv 0) AD)))
  (AC (Au (AM BG (Aw (Lo K) rfl T.z_len Y7 (AA (pv 1) AD)) AB (AR _)) (AF (AL (AQ hr G_38 T.m_38 (AA (pv 0) (AU (AU AD)))))) AV)
  (AF (AL (AQ hr G_38 T.m_38 (AA (pv 0) (AA (AJ (CJ K) (pv 1) AB (λ_ _=>rfl)) (AA (AG AY (AG An (AJ (CJ K) (pv 1) (JM Fx AB) (λ_ _=>rfl)) (AJ (CJ K) (pv 1) AB (λ_ _=>rfl))) AB) AD)))))))),?_⟩
 have g2:=ok.g2;have g9:=ok.g9;have m1:=ok.m1;have m8:=ok.m8;have sz:=ok.sz;walk_at "";refine⟨r,g,lo,b9,m,rfl,g2,g9,ok.v,ok.len,m1,m8,sz,λp H1 hN1=>?_⟩;have hcl:((Be g lo b9 m).map V.int).length=(Be g lo b9 m).length:=YG ..;walk_at "";refine⟨_,.inl (Ai.of hN1.2.2),?_⟩;rw[hcl]
 by_cases hc:Be g lo b9 m=[]
 ·rw[qF (by rw[hc];rfl)];have g1:g^1=g:=by rw[Ym,Yq,ZW]
  exact⟨r,g,lo,b9,m,0,1,rfl,ok.same hN1.1,YL _,by lia,λr' H' e' ok'=>q 0 1 (LC hc) r' H' (hN1.1.trans e') ok'⟩
 ·obtain⟨M,hM,hMm,hW⟩:=JW hc;have hp0:0<(Be g lo b9 m).length:=List.length_pos_iff.mpr hc;rw[qE (by lia)];have gM:=Bc g2 hMm;refine (Ce (Ai.of hN1.2.2) (BJ (by decide) (by show 0<_;lia)) (Ce (Ai.of hN1.2.2) (Ja hp0) (Ce (Ai.of hN1.2.2) (BJ (by decide) (by show 0<_;lia)) ⟨_,rfl,_,rfl,?_⟩)));refine⟨r,g,lo,b9,m,(Be g lo b9 m).getD 0 0,M,?_,ok.same hN1.1,hW.one,by lia,λr' H' e' ok'=>q _ M hW r' H' (hN1.1.trans e') ok'⟩;rw[hM];rfl
theorem TQ:AK ["one","low","high","place"] ["one","low","high"] (AH Ui):=CA (by decide +kernel)
theorem WU(T:B8 K mg t)(G_46:Al P w K mg base 3 t.f_46 ["one"] (Dr))(G_38:Al P w K mg base 6 t.f_38 ["one","low","many"] (Gv))(G_8:Al P w K mg base 1 t.f_8 ["signs","many"] (Hc)):Al P w K mg base 7 t.f_53 ["one","low","high"] (GA t.c_42 t.c_49):=by
 refine Nf T.d_53 TQ (λ_ _ _ _ _ _=>b3 λ_ _ _=>rfl) λvs H Q E h=>?_;obtain⟨r,g,lo,b9,m,low,high,rfl,ok,hout,hwide,hok⟩:=h;refine⟨rfl,λbh A outer s hr=>?_⟩
 refine⟨_,(AC (Au (AM EE (pv 1) (pv 2) (AR _)) (AF (Dd rfl T.x_42 rfl T.m_42 CC (AA Fu AD))) AV)
  (AC (BD PassesOwn.leaving rfl (Q5 K (AQ hr G_46 T.m_46 (AA (pv 0) AD))) (BC 3 TQ) (AF (Au (PW.pt (CB (AM Ck (pv 3) (pv 1) (AR _)) (CH (AM EE (pv 3) (pv 2) (AR _))))) (AF (Dd rfl T.x_42 rfl T.m_42 CC (AA Fu AD))) AV)))
  (AC (Au (AM EE (AQ hr G_8 T.m_8 (AA (AJ (Bh K) (pv 0) AB (λ_ _=>rfl)) (AA (AG AY (AG An (pv 2) (pv 1)) AB) AD))) (Df rfl T.g_LONGEST_TABLE) (AR _)) (AF (Dd rfl T.x_49 rfl T.m_49 CC (AA Fu AD))) AV)
  (AF (AL (AQ hr G_38 T.m_38 (AA (pv 0) (AA (pv 1) (AA (AG AY (AG An (pv 2) (pv 1)) AB) AD))))))))),?_⟩
 refine A5.el ok.v λtb h1 h2=>?_;have g2:=ok.g2;have g9:=ok.g9;have m1:=ok.m1;have m8:=ok.m8;walk_at ""
 by_cases hlh:high<low
 ·rw[qF hlh];exact⟨by decide,hout (.inl hlh) _ (AI.refl _)⟩
 rw[qE hlh];refine⟨_,rfl,r,g,lo,b9,m,rfl,g2,g9,ok.v,ok.len,m1,m8,ok.sz,λp H1 hN1=>?_⟩;refine⟨p,rfl,⟨_,Ai.of hN1.2.2⟩,?_⟩;refine CY (xs:=(Be g lo b9 m).map V.int) (λi σ H2=>(∃x3,σ=[some (.ref r),some (.int low),some (.int high),x3])/\H2=H1/\∀z∈(Be g lo b9 m).take i,low<=z/\z<=high) ⟨⟨none,rfl⟩,rfl,λz hz=>qG hz (by simp)⟩ (λi σ H2 _ z=>by rw[z.2.1];exact Ai.of hN1.2.2) ?_ ?_
 ·refine Lp ?_;rintro _ _ i x _ hGo σ H2 hx ⟨⟨x3,rfl⟩,rfl,hall⟩;refine hGo _ _ ?_;obtain⟨n,hn,rfl⟩:=C4 hx;have nm:=YW hn;walk_at ""
  by_cases c1:n<low
  ·rw[qF c1];exact⟨by decide,hout (.inr ⟨n,nm,.inl c1⟩) _ hN1.1⟩
  rw[qE c1]
  by_cases c2:high<n
  ·rw[qF c2];exact⟨by decide,hout (.inr ⟨n,nm,.inr c2⟩) _ hN1.1⟩
  rw[qE c2];refine⟨⟨_,rfl⟩,λz hz=>?_⟩;rw[aW,hn]at hz;rcases YR.mp hz with y|y
  ·exact hall z y
  ·have:z=n:=by simpa using y
   lia
 ·rintro σ H2 ⟨⟨x3,rfl⟩,rfl,hall⟩;rw[YG,ZC]at hall
  have nout:¬Rg g lo b9 m low high:=by
   rintro (z|⟨z,hz,y⟩)
   ·exact hlh z
   ·have:=hall z hz;lia
  walk_at "";refine (Bz (Ad.of (hN1.1 _ _ h1)) rfl ⟨g,_,rfl,g2,g9,by lia,λhle=>?_,λhgt rr hrr=>?_⟩)
  ·refine⟨_,rfl,?_⟩;rw[qE (by lia)];exact⟨r,g,lo,b9,m,low,(high-low+1).toNat,by rw[show (((high-low+1).toNat:Nat):Int)=high-low+1 by lia],ok.same hN1.1,by lia,hle,λr' H' e' ok'=>hok nout hle r' H' (hN1.1.trans e') ok'⟩
  ·refine⟨_,rfl,?_⟩;rw[qF hrr];exact⟨by decide,hwide nout hgt _ hN1.1⟩
theorem TR:AK ["one","least"] ["one"] (AH Uj):=CA (by decide +kernel)
theorem WV(T:B8 K mg t)(G_61:Al P w K mg base 7 t.f_61 ["one"] (Hz))(G_62:Al P w K mg base 2 t.f_62 ["one"] (Ca))(G_53:Al P w K mg base 7 t.f_53 ["one","low","high"] (GA t.c_42 t.c_49))(G_66:Al P w K mg base 1 t.f_66 ["one"] (DO)):Al P w K mg base 8 t.f_65 ["one"] (Gx t.c_49):=by
 refine Nf T.d_65 TR (λ_ _ _ _ _ _=>b1 λ_=>rfl) λvs H Q E h=>?_;obtain⟨r,g,lo,b9,m,lf,tf,mf,rfl,ok,fw,hok,hex⟩:=h;refine⟨rfl,λbh A outer s hr=>?_⟩
 refine⟨_,(AC (AS 1 TR (AQ hr G_61 T.m_61 (AA (pv 0) AD)))
  (AC (Au (AM BG (AQ hr G_62 T.m_62 (AA (pv 1) AD)) AB (AR _)) (AF (AL (De G_53 (hr.mono (by decide)) rfl T.m_53 DJ (AA (pv 1) (AA (AJ (Bh K) (pv 1) AB (λ_ _=>rfl)) (AA (AG AY (AJ (Bh K) (pv 1) AB (λ_ _=>rfl)) AB) AD)))))) AV)
  (AC (Au (AM EE (AQ hr G_66 T.m_66 (AA (pv 1) AD)) (Df rfl T.g_MOST_NODES) (AR _)) (AF (Dd rfl T.x_49 rfl T.m_49 CC (AA Fu AD))) AV)
  (AF (AL (pv 1)))))),?_⟩
 have g2:=ok.g2;have g9:=ok.g9;refine As λN hN=>?_;walk_at "";refine⟨r,g,lo,b9,m,rfl,ok,λlow M hW r1 H1 e1 ok1=>hN _ _ ?_⟩;clear hN N;walk_at "";refine⟨r1,g,low,_,M,rfl,g2,g9,ok1.v,ok1.len,rfl,?_⟩;obtain⟨low',M',hW',elf,hc⟩:=id fw;obtain⟨rfl,rfl⟩:=Pw g2 ok.len hW hW';subst elf;refine A5.el ok1.v λtb h1 h2=>?_;rcases hc with⟨rfl,rfl,rfl⟩|⟨hM,rfl,rfl⟩
 ·rw[qF (show V.int ((1:Nat):Int)=V.int 1 from rfl)];have g1:g^(2-1)=g:=by show g^(0+1)=g;rw[Ym,Yq,ZW]
  have e2:(lf+1-lf+1).toNat=2:=by lia
  refine (Bz (Ad.of h1) rfl (Bz (Ad.of h1) rfl ⟨lf,rfl,?_⟩));refine⟨r1,g,lf,_,1,lf,lf+1,rfl,ok1,λho=>?_,λ_ hw=>?_,λ_ _ r2 H2 f2 ok2=>?_⟩
  ·exfalso;rcases ho with z|⟨z,hz,y⟩
   ·lia
   ·unfold Be at hz;obtain⟨j,hj,rfl⟩:=Yd.mp hz;have:=Yc.mp (Yx.mp hj).1;lia
  ·exfalso;rw[e2]at hw;have:g^2<=9*9:=by rw[show (2:Nat)=(2-1)+1 from rfl,Ym,g1];exact aY g9 g9 (by lia) (by lia)
   lia
  ·rw[e2]at ok2;exact hok (by lia) r2 H2 (e1.trans f2) ok2
 ·rw[qE (λz=>by have:=V.int.inj z;lia)];refine⟨r1,g,lf,_,mf,rfl,ok1,_,rfl,?_⟩;rw[(Az g2 ok1.len ok1.m1).1]
  by_cases h9:9<g^(mf-1)
  ·rw[qF h9];exact⟨by decide,hex h9 _ e1⟩
  ·rw[qE h9];exact hok (by lia) r1 H1 e1 ok1
theorem N4:AK ["nexts","ahead","here","come"] ["nexts"] (AH Uk):=CA (by decide +kernel)
theorem WW(T:B8 K mg t) :Al P w K mg base 1 t.f_15 ["nexts"] (KR P w K):=by
 refine Ak T.d_15 N4 (λ_ _ _ _ _ _=>b1 λ_=>rfl) λvs H Q E h=>?_;obtain⟨d,u,ls,A0,F,rfl,dr,gr,nd,cl,lA,lF,q⟩:=h;refine⟨rfl,λbh A outer s hr=>?_⟩
 refine⟨_,(AC (HI (i:=1) N4.nd rfl (Or.inl rfl) (IK (P:=P) (w:=w) (K:=K) rfl rfl rfl))
  (AC (BD PassesOwn.never rfl (En (P:=P) (w:=w) (K:=K) rfl rfl rfl (pv 0)) (BC 2 N4) (AC (BM (P5 (P:=P) (w:=w) (K:=K) rfl rfl rfl aE PySem.F.type_dict_setdefault (Gb (P:=P) (w:=w) (K:=K) rfl rfl rfl (Dc hr)) (pv 1) (AA (pv 2) (AA (BB AD) AD))))
  (AF (BD PassesOwn.never rfl (Q5 K (C9 (P:=P) (w:=w) (K:=K) rfl rfl rfl (Dc hr) (pv 0) (pv 2) (λ_ _=>rfl))) (BC 3 N4) (AF (BM (Q6 K (P5 (P:=P) (w:=w) (K:=K) rfl rfl rfl aE PySem.F.type_dict_setdefault (Gb (P:=P) (w:=w) (K:=K) rfl rfl rfl (Dc hr)) (pv 1) (AA (pv 3) (AA (BB AD) AD))) (AA (pv 2) AD))))))))
  (AF (AL (pv 1))))),?_⟩
 refine As λN hN=>?_;walk_at "";intro d2 u2 hd2 dw;refine hN _ _ ?_;clear hN N;have e0:=AI.new hd2 u2;generalize Ac H d2 u2=H0 at dw e0⊢;refine CG (λσ HX=>(∃x2 x3,σ=[some (.ref d),some (.ref d2),x2,x3])/\∃u' ls2 A2 B,AI (Ac H d u') HX/\DR P w K HX d u' (Am A0 (ls.map V.ref))/\(∀l∈ls2,H l=none)/\DW P w K HX d2 (Am A2 (ls2.map V.ref))/\Dm K HX ls2 A2 B/\Nn A0 F A2 B) (λN hN=>?_) ?_
 ·refine⟨_,rfl,d,u,_,rfl,dr.same e0,λu' dr'=>?_⟩;have nd2:d≠d2:=λe=>by obtain⟨φ,h1,_⟩:=dr.isX;rw[e,hd2]at h1;cases h1
  have eF:=AI.both e0 d u';have gF:=(dr.same e0).grl (gr.same e0) u'
  have aF:S5 P w K H (Ac H0 d u') d2 [] (λ_=>[]):=by obtain⟨bs,h1,h3,h4⟩:=dw;have hb:bs=[]:=List.map_eq_nil_iff.mp h3;subst hb;exact⟨[],λl hl=>qG hl List.not_mem_nil,⟨[],by rw[AN (Ne.symm nd2)];exact h1,rfl,λp hp=>qG hp List.not_mem_nil⟩,⟨rfl,List.nodup_nil,λi a l z=>by simp at z⟩⟩
  generalize Ac H0 d u'=HF at dr' eF gF aF⊢;refine Of (P:=P) (w:=w) (K:=K) (d:=d) (u:=u') (kvs:=Am A0 (ls.map V.ref)) (λi σ HX=>(∃x2 x3,σ=[some (.ref d),some (.ref d2),x2,x3])/\AI (Ac H d u') HX/\DR P w K HX d u' (Am A0 (ls.map V.ref))/\Dm K HX ls A0 F/\∃A2 B,S5 P w K H HX d2 A2 B/\Oz A0 F i (λ_ _=>False) (i*70000) A2 B) ⟨⟨none,none,rfl⟩,eF,dr',gF,[],λ_=>[],aF,⟨List.nodup_nil,λp hp=>qG hp List.not_mem_nil,λp hp=>qG hp (by simp),λ_ _=>rfl,λp q=>by simp,λ_=>Nat.zero_le _⟩⟩ (λi σ HX _ z=>z.2.2.1) ?_ ?_
  ·rintro i b k v σ HX hk sb ⟨⟨x2,x3,rfl⟩,eX,dX,gX,A2,B,aX,tX⟩;obtain⟨a,l,ha,hl,rfl,rfl⟩:=KS hk;dsimp only[FM];have aA:a∈A0:=YW ha;have lA2:∀{A2:List (Nat×Nat)} {B:Nat×Nat->List (Nat×Nat)} {D:(Nat×Nat)->(Nat×Nat)->Prop} {n:Nat},Oz A0 F i D n A2 B->A2.length<=100:=λt=>Yy (t.nd.length_le_of_subset t.sub) lA
   have Hn:∀{HX:Hp} {l:Addr},AI (Ac H d u') HX->HX l=none->H l=none:=λ{HX l} e z=>by have y:=e.free z;rw[AN λx=>by rw[x,AE]at y;cases y]at y;exact y
   have hd2':Ac H d u' d2=none:=by rw[AN (Ne.symm nd2)];exact hd2
   refine CG (λσ HY=>(∃x3,σ=[some (.ref d),some (.ref d2),some (.ref b),x3])/\AI (Ac H d u') HY/\DR P w K HY d u' (Am A0 (ls.map V.ref))/\Dm K HY ls A0 F/\Ad K HY b (QD a)/\∃A2 B,S5 P w K H HY d2 A2 B/\Oz A0 F i (λ_ _=>False) (i*70000) A2 B/\a∈A2) (λN2 hN2=>?_) ?_
   ·obtain⟨ls2,ln,wX,g2⟩:=aX;obtain⟨v2,r2⟩:=wX.r;have lr:(Am A2 (ls2.map V.ref)).length<=100:=by rw[Bv (by rw[YG];exact g2.n)];exact lA2 tX
    refine⟨_,rfl,⟨d2,v2,_,rfl,r2⟩,_,rfl,by decide,λl' hl'=>?_⟩;have f1:=AI.new hl' (.lst []);have h0:=Hn eX hl';have nl:=g2.out hl';have lY:Ac HX l' (.lst []) l'=some (.lst []):=AE;have eY:=eX.trans f1;have dY:=dX.same f1;have gY:=gX.same f1;have wY:=wX.same f1;have g2Y:=g2.same f1;have sY:=Ad.same' f1 sb;generalize Ac HX l' (.lst [])=HY at lY eY dY gY wY g2Y sY⊢;refine⟨d2,b,_,BW a,.ref l',rfl,rfl,wY,sY,Ae (by lia),λz hz=>hN2 _ _ ⟨⟨_,rfl⟩,eY,dY,gY,sY,A2,B,⟨ls2,ln,wY,g2Y⟩,tX,?_⟩,λhz u3 w3=>hN2 _ _ ?_⟩
    ·by_cases m:a∈A2
     ·exact m
     ·rw[Dk m]at hz;cases hz
    ·have m:a∉A2:=λm=>by
      obtain⟨j,hj⟩:=Y2.mp m;have jl:=(YJ.mp hj).1;rw[Bw tX.nd hj (v:=.ref (ls2[j]'(by rw[g2.n];exact jl))) (by rw[YO,YI (by rw[g2.n];exact jl)];rfl)]at hz;cases hz
     exact⟨⟨_,rfl⟩,eY.into hd2',dY.updX wY nd2 u3,wY.grl gY u3,(by obtain⟨_,h1,_⟩:=wY;exact sY.upd' h1),A2++[a],B,S5.put ln wY g2Y lY nl h0 m (tX.no a m) w3,tX.key m aA,YR.mpr (.inr (YT.mpr rfl))⟩
   clear tX aX eX dX gX sb;rintro _ hGo σ HY ⟨⟨x3,rfl⟩,eX,dX,gX,sb,A2,B,aX,tX,mA⟩;refine hGo _ _ ?_;obtain⟨ps,hps,pp⟩:=gX.e i a l ha hl;have pn:=Paired.length pp;have fa:=lF a aA;have i100:i<=100:=by have:=(YJ.mp ha).1;lia
   have nls:∀{x:Addr},H x=none->x∉ls:=λhx=>gr.out hx
   refine⟨_,rfl,_,rfl,d,b,u',_,BW a,.ref l,rfl,rfl,dX,sb,Bw nd ha (by rw[YO,hl];rfl),l,rfl,⟨_,Ai.of hps⟩,?_⟩;refine CY (xs:=ps.map V.ref) (λj σ HZ=>(∃x3,σ=[some (.ref d),some (.ref d2),some (.ref b),x3])/\AI (Ac H d u') HZ/\HZ l=some (.lst (ps.map V.ref))/\Cd K HZ ps (F a)/\DR P w K HZ d u' (Am A0 (ls.map V.ref))/\Dm K HZ ls A0 F/\Ad K HZ b (QD a)/\∃A2 B,S5 P w K H HZ d2 A2 B/\Oz A0 F i (λp q=>q=a/\p∈(F a).take j) (i*70000+j) A2 B/\a∈A2) ⟨⟨_,rfl⟩,eX,hps,pp,dX,gX,sb,A2,B,aX,⟨tX.nd,tX.sub,tX.got,tX.no,λp q=>by rw[tX.on];simp,λp=>Nat.le_trans (tX.len p) (Nat.le_add_right ..)⟩,mA⟩ (λj σ HZ _ z=>Ai.of z.2.2.1) ?_ ?_
   ·clear tX aX eX dX gX sb mA hps pp;rintro j x σ HZ hx ⟨⟨x3,rfl⟩,eX,hps,pp,dX,gX,sb,A2,B,⟨ls2,ln,wX,g2⟩,tX,mA⟩;obtain⟨c,hci,rfl⟩:∃c,ps[j]?=some c/\x=V.ref c:=by rw[YO]at hx;obtain⟨c,h1,h2⟩:=Y3.mp hx;exact⟨c,h1,h2.symm⟩
    obtain⟨p0,hp0,sc⟩:=Bk pp hci;have p0A:p0∈A0:=cl a aA p0 (YW hp0);have j7:j<70000:=by have:=(YJ.mp hp0).1;lia
    have i7:=aS 70000 i100;obtain⟨v2,r2⟩:=wX.r
    have lr:(Am A2 (ls2.map V.ref)).length<=100:=by rw[Bv (by rw[YG];exact g2.n)];exact lA2 tX
    have app:∀(HQ:Hp) (A2:List (Nat×Nat)) (ls2:List Addr) (j2:Nat) (l2:Addr),AI (Ac H d u') HQ->HQ l=some (.lst (ps.map V.ref))->Cd K HQ ps (F a)->DR P w K HQ d u' (Am A0 (ls.map V.ref))->Dm K HQ ls A0 F->Ad K HQ b (QD a)->(∀l∈ls2,H l=none)->DW P w K HQ d2 (Am A2 (ls2.map V.ref))->Dm K HQ ls2 A2 B->Oz A0 F i (λp q=>q=a/\p∈(F a).take j) (i*70000+j) A2 B->a∈A2->A2[j2]?=some p0->ls2[j2]?=some l2 ->
      ∃qs:List Addr,HQ l2=some (.lst (qs.map V.ref))/\(qs.map V.ref).length<sizeLine/\∃HW,HW=Ac HQ l2 (.lst (qs.map V.ref++[V.ref b]))/\AI (Ac H d u') HW/\HW l=some (.lst (ps.map V.ref))/\Cd K HW ps (F a)/\DR P w K HW d u' (Am A0 (ls.map V.ref))/\Dm K HW ls A0 F/\Ad K HW b (QD a)/\∃A2 B,S5 P w K H HW d2 A2 B/\Oz A0 F i (λp q=>q=a/\p∈(F a).take (j+1)) (i*70000+(j+1)) A2 B/\a∈A2:=by
     intro HQ A2 ls2 j2 l2 e h1 h2 h3 h4 h5 ln w2 g2 t m hj2 hl2;obtain⟨qs,hq,hqp⟩:=g2.e j2 p0 l2 hj2 hl2;have ml:=YW hl2;have h0:=ln l2 ml;have nl:=nls h0;have ne:l≠l2:=λz=>nl (by rw[<-z];exact YW hl)
     have lq:=Paired.length hqp;have lb:=t.len p0;have tp:=t.push hp0 (YW hj2);rw[Z7]at tp;refine⟨qs,hq,by rw[YG,sizeLine_eq];lia,_,rfl,?_⟩;rw[show qs.map V.ref++[V.ref b]=(qs++[b]).map V.ref by rw[YV];rfl];refine⟨e.into (by rw[AN λz=>by obtain⟨φ,y,_⟩:=dr.isX;rw[<-z,h0]at y;cases y];exact h0),by rw[AN ne];exact h1,Cd.upd hq h2,h3.updL hq _,h4.keep hq nl _,Ad.updL hq h5,A2,_,⟨ls2,ln,w2.updL hq _,g2.push t.nd hj2 hl2 hq hqp h5 λ_=>rfl⟩,tp,m⟩
    refine⟨_,rfl,⟨d2,v2,_,rfl,r2⟩,_,rfl,by decide,λl' hl'=>?_⟩;have f1:=AI.new hl' (.lst []);have h0:=Hn eX hl';have nl:=g2.out hl';have lY:Ac HZ l' (.lst []) l'=some (.lst []):=AE;have eY:=eX.trans f1;have dY:=dX.same f1;have gY:=gX.same f1;have wY:=wX.same f1;have g2Y:=g2.same f1;have sY:=Ad.same' f1 sb;have cY:=Ad.same' f1 sc;have hY:=f1 _ _ hps;have pY:=Cd.same f1 pp;generalize Ac HZ l' (.lst [])=HY at lY eY dY gY wY g2Y sY cY hY pY⊢;refine⟨d2,c,_,BW p0,.ref l',rfl,rfl,wY,cY,Ae (by lia),λz hz=>?_,λhz u3 w3=>?_⟩
    ·have m:p0∈A2:=by
      by_cases m:p0∈A2
      ·exact m
      ·rw[Dk m]at hz;cases hz
     obtain⟨j2,hj2⟩:=Y2.mp m;have jl:=(YJ.mp hj2).1;obtain⟨l2,hl2⟩:∃l2,ls2[j2]?=some l2:=⟨ls2[j2]'(by rw[g2.n];exact jl),YI _⟩;rw[Bw tX.nd hj2 (v:=.ref l2) (by rw[YO,hl2];rfl)]at hz;cases hz;obtain⟨qs,h1,h2,HW,hW,h3⟩:=app HY A2 ls2 j2 l2 eY hY pY dY gY sY ln wY g2Y tX mA hj2 hl2;refine⟨.inl ⟨rfl,_,Ai.of h1⟩,_,rfl,l2,_,_,rfl,rfl,h1,h2,?_⟩;rw[<-hW];exact⟨⟨_,rfl⟩,h3⟩
    ·have m:p0∉A2:=λm=>by
      obtain⟨j2,hj2⟩:=Y2.mp m;have jl:=(YJ.mp hj2).1;rw[Bw tX.nd hj2 (v:=.ref (ls2[j2]'(by rw[g2.n];exact jl))) (by rw[YO,YI (by rw[g2.n];exact jl)];rfl)]at hz;cases hz
     obtain⟨ln3,w3',g3⟩:=QI ln wY g2Y lY nl h0 m (tX.no p0 m) w3;have hj2:(A2++[p0])[A2.length]?=some p0:=by rw[Yw (YL _),Zn];rfl
     have hl2:(ls2++[l'])[A2.length]?=some l':=by rw[<-g2.n,Yw (YL _),Zn];rfl
     have wx:∃φ,HY d2=some (.ext φ):=by obtain⟨_,y,_⟩:=wY;exact⟨_,y⟩
     obtain⟨φ,hφ⟩:=wx;obtain⟨qs,h1,h2,HW,hW,h3⟩:=app (Ac HY d2 u3) (A2++[p0]) (ls2++[l']) A2.length l' (eY.into hd2') (wY.lst hY u3) (wY.prv pY u3) (dY.updX wY nd2 u3) (wY.grl gY u3) (sY.upd' hφ) ln3 w3' g3 (tX.key m p0A) (YR.mpr (.inl mA)) hj2 hl2;refine⟨.inl ⟨rfl,_,Ai.of h1⟩,_,rfl,l',_,_,rfl,rfl,h1,h2,?_⟩;rw[<-hW];exact⟨⟨_,rfl⟩,h3⟩
   ·rintro σ HZ ⟨⟨x3,rfl⟩,eX,hps,pp,dX,gX,sb,A2,B,aX,tX,mA⟩;rw[YG,pn]at tX;refine⟨⟨_,_,rfl⟩,eX,dX,gX,A2,B,aX,tX.nd,tX.sub,λp hp=>?_,tX.no,λp q=>?_,λp=>Yy (tX.len p) (by lia)⟩
    ·rw[ZJ,ha]at hp;rcases YR.mp hp with z|z
     ·exact tX.got p z
     ·rw[YT.mp z];exact mA
    ·rw[tX.on,ZC,ZJ,ha,show (some a).toList=[a] from rfl,YR,YT,or_false];constructor
     ·rintro (⟨h1,h2⟩|⟨h1,h2⟩)
      ·exact⟨.inl h1,h2⟩
      ·exact⟨.inr h1,by rw[h1];exact h2⟩
     ·rintro⟨h1|h1,h2⟩
      ·exact .inl ⟨h1,h2⟩
      ·exact .inr ⟨h1,by rw[h1]at h2;exact h2⟩
  ·rintro σ HX ⟨⟨x2,x3,rfl⟩,eX,dX,gX,A2,B,⟨ls2,ln,wX,gX2⟩,tX⟩;rw[Bv (by rw[YG];exact gX.n)]at tX;exact hN _ _ ⟨⟨_,_,rfl⟩,u',ls2,A2,B,eX,dX,ln,wX,gX2,⟨tX.nd,λp=>⟨tX.sub p,λh=>tX.got p (by rw[List.take_length];exact h)⟩,λp q=>by rw[tX.on,List.take_length];simp,λp=>Nat.le_trans (tX.len p) (Nat.mul_le_mul_right 70000 lA)⟩⟩
 rintro _ hGo σ HX ⟨⟨x2,x3,rfl⟩,u',ls2,A2,B,eX,dX,ln,wX,gX,tX⟩;refine hGo _ _ ?_;walk_at "";exact q u' HX d2 ls2 A2 B eX dX hd2 ln wX gX tX
theorem Ix:AK ["ahead","most","free","steps","here"] ["ahead"] (AH Ul):=CA (by decide +kernel)
theorem WX(T:B8 K mg t) :Al P w K mg base 1 t.f_23 ["ahead"] (KU P w K):=by
 refine Ak T.d_23 Ix (λ_ _ _ _ _ _=>b1 λ_=>rfl) λvs H Q E h=>?_;obtain⟨d,u,ls,A0,B,rfl,dr,gr,nd,cl,lA,lB,q⟩:=h;refine⟨rfl,λbh A outer s hr=>?_⟩
 refine⟨_,(AC (HI (i:=1) Ix.nd rfl (Or.inr rfl) (IK (P:=P) (w:=w) (K:=K) rfl rfl rfl))
  (AC (FX (iy:=2) (fv:=[(0,"ahead")]) (cl:=[("ahead",_)]) rfl Ix.nd rfl (Or.inl rfl) (En (P:=P) (w:=w) (K:=K) rfl rfl rfl (pv 0)) (by with_unfolding_all rfl) (by with_unfolding_all rfl) (by decide +kernel) rfl (by decide +kernel) rfl ⟨(by with_unfolding_all rfl),trivial⟩ (by with_unfolding_all rfl) ⟨⟨rfl,rfl,(by with_unfolding_all rfl),rfl⟩,trivial⟩ (by decide) (λ_ _ _ _=>(F4 (AM BG (Aw (Ma (K:=K) rfl) rfl T.z_len Y7 (AA (by exact C9 (P:=P) (w:=w) (K:=K) rfl rfl rfl (Dc hr) (pv 1) (pv 0) (λ_ _=>rfl)) AD)) AB (AR _)))) (λ_ _ _ _=>(pv 0)))
  (AC (AS 3 Ix AB)
  (AC (Da PassesOwn.never (AM EE (Aw (Lo K) rfl T.z_len Y7 (AA (pv 2) AD)) AB (AR _)) (AC (BD PassesOwn.never rfl (Q5 K (pv 2)) (BC 4 Ix) (AF (LQ (P:=P) (w:=w) (K:=K) rfl rfl rfl (Dc hr) (pv 1) (pv 4) (pv 3) rfl)))
  (AC (AS 3 Ix (AG AY (pv 3) AB))
  (AF (FX (iy:=2) (fv:=[(1,"most"),(0,"ahead")]) (cl:=[("most",_),("ahead",_)]) rfl Ix.nd rfl (Or.inl rfl) (En (P:=P) (w:=w) (K:=K) rfl rfl rfl (pv 0)) (by with_unfolding_all rfl) (by with_unfolding_all rfl) (by decide +kernel) rfl (by decide +kernel) rfl ⟨(by with_unfolding_all rfl),⟨(by with_unfolding_all rfl),trivial⟩⟩ (by with_unfolding_all rfl) ⟨⟨rfl,rfl,(by with_unfolding_all rfl),rfl⟩,⟨⟨rfl,rfl,(by with_unfolding_all rfl),rfl⟩,trivial⟩⟩ (by decide) (λ_ _ _ _=>(F4 (PW.pt (E1 (Tc (Ml (P:=P) (w:=w) (K:=K) rfl rfl rfl (Dc hr) (pv 0) (pv 1))) (Dn (Bb (Aw (Mq (K:=K) rfl rfl) rfl T.z_all PyProof.Rows.boot_all (AA (ID [(1,"most")] [("most",_)] (QK (K:=K) rfl (by exact C9 (P:=P) (w:=w) (K:=K) rfl rfl rfl (Dc hr) (pv 2) (pv 0) (λ_ _=>rfl))) (λ_ _ _ _=>E4) (λ_ _ _ _=>(Tb (Rs (P:=P) (w:=w) (K:=K) rfl rfl rfl (Dc hr) (pv 0) (pv 1))))) AD)))))))) (λ_ _ _ _=>(pv 0)))))))
  (AF (AL (pv 1))))))),?_⟩
 refine As λN hN=>?_;walk_at "";intro d2 u2 hd2 dw;refine hN _ _ ?_;clear hN N
 have nd2:d≠d2:=λe=>by obtain⟨φ,h1,_⟩:=dr.isX;rw[e,hd2]at h1;cases h1
 have e0:=AI.new hd2 u2;generalize Ac H d2 u2=H0 at dw e0⊢
 have Hn:∀{HX:Hp} {l:Addr} {u':HO},AI (Ac H d u') HX->HX l=none->H l=none:=λ{HX l u'} e z=>by have y:=e.free z;rw[AN λx=>by rw[x,AE]at y;cases y]at y;exact y
 refine CG (λσ HX=>∃D,σ=[some (.ref d),some (.ref d2),some (.ref D),none,none]/\XD P w K H d d2 ls A0 B D [] (λ_=>0) (A0.filter λp=>decide (B p=[])) HX) (λN hN=>?_) ?_
 ·refine⟨_,rfl,d,u,_,rfl,dr.same e0,λu' dr' D hD=>?_⟩;have eF:=AI.both e0 d u';have gF:=(dr.same e0).grl (gr.same e0) u';have wF:DW P w K (Ac H0 d u') d2 (Am [] []):=by obtain⟨bs,h1,h3,h4⟩:=dw;have hb:bs=[]:=List.map_eq_nil_iff.mp h3;subst hb;exact⟨[],by rw[AN (Ne.symm nd2)];exact h1,rfl,λp hp=>qG hp Yv⟩
  generalize Ac H0 d u'=HF at dr' eF gF wF hD⊢;refine E9 (P:=P) (w:=w) (K:=K) (λi bg Hx=>∃ps:List Addr,bg=ps.map V.ref/\ps.length<=i/\AI HF Hx/\Hx D=some (.lst bg)/\Cd K Hx ps ((A0.take i).filter λp=>decide (B p=[]))) ⟨[],rfl,YL _,AI.new hD _,AE,.nil⟩ (λi bg Hx _ z=>by obtain⟨_,_,_,e,_⟩:=z;exact dr'.same e) ?_ ?_
  ·rintro i b k v bg Hx hk sb ⟨ps,rfl,lp,ex,hDx,hp⟩;obtain⟨a,l,ha,hl,rfl,rfl⟩:=KS hk;have i100:i<=100:=by have:=(YJ.mp ha).1;lia
   obtain⟨qs,hq,pq⟩:=(gF.same ex).e i a l ha hl;have lq:=Paired.length pq;refine⟨_,rfl,_,rfl,d,b,u',_,BW a,.ref l,rfl,rfl,dr'.same ex,sb,Bw nd ha (by rw[YO,hl];rfl),l,_,rfl,.inl (Ai.of hq),rfl,_,rfl,?_⟩;dsimp only;rw[Jg ha,YG,lq]
   by_cases z:B a=[]
   ·rw[qF (by rw[z];rfl),qF (qH z)];refine⟨_,rfl,hDx,by rw[YG];exact Ae (by lia),ps++[b],by rw[YV];rfl,by rw[YN,Y5];lia,ex.into hD,AE,?_⟩;exact Paired.app (Cd.upd hDx hp) (.cons (Ad.updL hDx sb) .nil)
   ·have nz:(B a).length≠0:=λy=>z (ax.mp y)
    rw[qE (λy=>nz (by have:=of_decide_eq_true y;injection this with this;lia)),qE (λy=>z (of_decide_eq_true y)),Yt];exact⟨ps,rfl,by lia,ex,hDx,hp⟩
  ·rintro bg H2 ⟨ps,rfl,lp,ex,hDx,hp⟩;rw[Bv (by rw[YG];exact gF.n),ZC]at hp;exact hN _ _ ⟨D,rfl,u',ps,eF.trans ex,dr'.same ex,gF.same ex,Hn eF hD,hDx,hp,wF.same ex⟩
 rintro _ hGo σ HX ⟨D,rfl,mv⟩;refine hGo _ _ ?_;refine As λN hN=>?_;refine hN _ _ ?_;clear hN N dw e0;refine CG (λσ HX=>∃D M f n x4,σ=[some (.ref d),some (.ref d2),some (.ref D),some (.int (n:Nat)),x4]/\XD P w K H d d2 ls A0 B D M f [] HX/\QL A0 B M f [] n) (λN hN=>?_) ?_
 ·refine⟨λm σ HX=>∃D M f FL n x4,m=101-n/\σ=[some (.ref d),some (.ref d2),some (.ref D),some (.int (n:Nat)),x4]/\XD P w K H d d2 ls A0 B D M f FL HX/\QL A0 B M f FL n,⟨_,D,[],_,_,0,none,rfl,rfl,mv,QM nd _⟩,?_⟩;clear mv HX D;rintro m σ HX ⟨D,M,f,FL,n,x4,rfl,rfl,⟨u',ps,eX,dX,gX,hD0,hD,pX,wX⟩,mp⟩;have lp:=Paired.length pX;refine⟨_,rfl,D,_,rfl,.inl (Ai.of hD),_,_,rfl,rfl,_,rfl,?_⟩;dsimp only;rw[YG,lp];have few:=mp.few;have nle:=mp.le
  by_cases z:FL=[]
  ·subst z;rw[qE (λy=>qG (of_decide_eq_true y) (by decide))];exact hN _ _ ⟨D,M,f,n,x4,rfl,⟨u',ps,eX,dX,gX,hD0,hD,pX,wX⟩,mp⟩
  have fl:0<FL.length:=List.length_pos_iff.mpr z;rw[qF (qH (by lia))];refine⟨λσ HX=>∃D M' f' FL' x4,σ=[some (.ref d),some (.ref d2),some (.ref D),some (.int ((n+1:Nat):Int)),x4]/\XD P w K H d d2 ls A0 B D M' f' FL' HX/\QL A0 B M' f' FL' (n+1),λσ' H' ⟨D,M',f',FL',x4,h1,h2,h3⟩=>⟨101-(n+1),by lia,D,M',f',FL',n+1,x4,rfl,h1,h2,h3⟩,?_⟩;have hd2':∀u',Ac H d u' d2=none:=λu'=>by rw[AN (Ne.symm nd2)];exact hd2
  refine XY (λσ HZ=>(∃x4,σ=[some (.ref d),some (.ref d2),some (.ref D),some (.int (n:Nat)),x4])/\AI (Ac H d u') HZ/\DR P w K HZ d u' (Am A0 (ls.map V.ref))/\Dm K HZ ls A0 B/\DW P w K HZ d2 (Am (M++FL) ((M++FL).map λp=>V.int (UA M f n p:Int)))) (λN hN=>?_) ?_
  ·refine⟨_,rfl,D,rfl,⟨_,Ai.of hD⟩,?_⟩;refine CY (xs:=ps.map V.ref) (λj σ HZ=>(∃x4,σ=[some (.ref d),some (.ref d2),some (.ref D),some (.int (n:Nat)),x4])/\AI (Ac H d u') HZ/\DR P w K HZ d u' (Am A0 (ls.map V.ref))/\Dm K HZ ls A0 B/\HZ D=some (.lst (ps.map V.ref))/\Cd K HZ ps FL/\DW P w K HZ d2 (Am (M++FL.take j) ((M++FL.take j).map λp=>V.int (UA M f n p:Int)))) ⟨⟨_,rfl⟩,eX,dX,gX,hD,pX,?_⟩ (λj σ HZ _ z=>Ai.of z.2.2.2.2.1) ?_ ?_
   ·rw[List.take_zero,Yt,Yg (g:=λp=>V.int (f p:Int)) λp hp=>by rw[Dx hp]];exact wX
   ·rintro j x σ HZ hx ⟨⟨x4,rfl⟩,eZ,dZ,gZ,hDZ,pZ,wZ⟩;obtain⟨c,hci,rfl⟩:∃c,ps[j]?=some c/\x=V.ref c:=by rw[YO]at hx;obtain⟨c,h1,h2⟩:=Y3.mp hx;exact⟨c,h1,h2.symm⟩
    obtain⟨p0,hp0,sc⟩:=Bk pZ hci;have pn:p0∉M:=((mp.on p0).mp (YW hp0)).2.1;have nin:p0∉M++FL.take j:=λy=>(YR.mp y).elim pn (Fm mp.ndF hp0)
    have lr:(Am (M++FL.take j) ((M++FL.take j).map λp=>V.int (UA M f n p:Int))).length<=100:=by rw[Bv (by rw[YG]),YN,Ys];lia
    refine⟨_,rfl,_,rfl,_,rfl,d2,c,_,BW p0,rfl,rfl,wZ,sc,Ae (by lia),λu3 w3=>⟨⟨_,rfl⟩,eZ.into (hd2' u'),dZ.updX wZ nd2 u3,wZ.grl gZ u3,wZ.lst hDZ u3,wZ.prv pZ u3,?_⟩⟩;rw[IN (by rw[YG]) nin]at w3;rw[ZJ,hp0,show (some p0).toList=[p0] from rfl,<-Yu,YV (l₂:=[p0]),List.map_singleton,Fn pn];exact w3
   ·rintro σ HZ ⟨⟨x4,rfl⟩,eZ,dZ,gZ,hDZ,pZ,wZ⟩;rw[YG,lp,ZC]at wZ;exact hN _ _ ⟨⟨_,rfl⟩,eZ,dZ,gZ,wZ⟩
  clear eX dX gX hD pX wX;have mq:=mp.step nd z;have lM2:(M++FL).length<=100:=by rw[YN];lia
  obtain⟨M2,hM2⟩:∃M2,M2=M++FL:=⟨_,rfl⟩;rw[<-hM2]at mq lM2⊢;generalize UA M f n=f2 at mq⊢;rintro σ HZ ⟨⟨y4,rfl⟩,eZ,dZ,gZ,wZ⟩;refine As λN hN=>⟨_,rfl,_,_,rfl,rfl,hN _ _ ?_⟩
  clear hN N;refine⟨_,rfl,d,u',_,rfl,dZ,λu2 dr2 D2 hD2=>?_⟩;have eG:=AI.both eZ d u2;rw[Ef]at eG;have gG:=dZ.grl gZ u2
  have wG:DW P w K (Ac HZ d u2) d2 (Am M2 (M2.map λp=>V.int (f2 p:Int))):=by obtain⟨bs,h1,h3,h4⟩:=wZ;exact⟨bs,by rw[AN (Ne.symm nd2)];exact h1,h3,λp hp=>dZ.sqt (h4 p hp) u2⟩
  generalize Ac HZ d u2=HG at dr2 eG gG wG hD2⊢;refine E9 (P:=P) (w:=w) (K:=K) (λi bg Hx=>∃ps2:List Addr,bg=ps2.map V.ref/\ps2.length<=i/\AI HG Hx/\Hx D2=some (.lst bg)/\Cd K Hx ps2 ((A0.take i).filter λp=>decide (p∉M2)&&decide (∀q∈B p,q∈M2))) ⟨[],rfl,YL _,AI.new hD2 _,AE,.nil⟩ (λi bg Hx _ z=>by obtain⟨_,_,_,e,_⟩:=z;exact dr2.same e) ?_ ?_
  ·rintro i b k v bg Hx hk sb ⟨ps2,rfl,l2,ex,hDx,hp⟩;obtain⟨a,l,ha,hl,rfl,rfl⟩:=KS hk;have i100:i<=100:=by have:=(YJ.mp ha).1;lia
   obtain⟨qs,hq,pq⟩:=(gG.same ex).e i a l ha hl;have lq:=Paired.length pq;have la:=lB a (YW ha);obtain⟨u5,r5⟩:=(wG.same ex).r;refine⟨_,rfl,_,rfl,d2,b,u5,_,BW a,rfl,rfl,r5,sb,_,rfl,?_⟩;dsimp only;rw[IR,Jg ha]
   by_cases m:a∈M2
   ·rw[qH m,Bool.not_true];refine Tr (Tr ?_);rw[qE (by rw[qI (λy=>y m)];exact Ya),Yt];exact⟨ps2,rfl,by lia,ex,hDx,hp⟩
   rw[qI m,Bool.not_false];refine XU ?_;refine⟨_,rfl,_,rfl,d,b,u2,_,BW a,.ref l,rfl,rfl,dr2.same ex,sb,Bw nd ha (by rw[YO,hl];rfl),l,rfl,⟨_,Ai.of hq⟩,λD3 hD3=>?_⟩;refine F5 (xs:=qs.map V.ref) (λj bg Hy=>bg=((B a).take j).map (λp=>V.bl (decide (p∈M2)))/\AI Hx Hy/\Hy D3=some (.lst bg)) ⟨rfl,AI.new hD3 _,AE⟩ (λj bg Hy _ z=>Ai.of (z.2.1 _ _ hq)) ?_ ?_
   ·refine M9 ?_;rintro j x _ hGo bg Hy hx ⟨rfl,ey,h3⟩;refine hGo _ _ ?_;obtain⟨c,hci,rfl⟩:∃c,qs[j]?=some c/\x=V.ref c:=by rw[YO]at hx;obtain⟨c,h1,h2⟩:=Y3.mp hx;exact⟨c,h1,h2.symm⟩
    obtain⟨p0,hp0,sc⟩:=Bk pq hci;dsimp only[RZ];rw[qF rfl];refine⟨_,rfl,_,rfl,d2,c,u5,_,BW p0,rfl,rfl,r5.same ey,Ad.same' ey sc,h3,?_,?_,ey.into hD3,AE⟩
    ·rw[YG,Ys,sizeLine_eq];lia
    ·rw[IR,ZJ,hp0,YV];rfl
   ·rintro bg Hy ⟨rfl,ey,h3⟩;rw[YG,lq,ZC]at h3;refine⟨D3,(B a).map λp=>decide (p∈M2),rfl,Ai.of (by rw[h3,Zd];rfl),_,rfl,?_⟩;dsimp only;have ev:(((B a).map λp=>decide (p∈M2)).all id=true)↔∀q∈B a,q∈M2:=by simp
    by_cases all:∀q∈B a,q∈M2
    ·rw[qF (ev.mpr all),qF (by rw[qH m,qH all];rfl)];have hD':=ey _ _ hDx;refine⟨_,rfl,hD',by rw[YG];exact Ae (by lia),ps2++[b],by rw[YV];rfl,by rw[YN,Y5];lia,(ex.trans ey).into hD2,AE,?_⟩;exact Paired.app (Cd.upd hD' (Cd.same ey hp)) (.cons (Ad.updL hD' (Ad.same' ey sb)) .nil)
    ·rw[qE (λy=>all (ev.mp y)),qE (by rw[qI all,Bool.and_false];exact Ya),Yt];exact⟨ps2,rfl,by lia,ex.trans ey,ey _ _ hDx,Cd.same ey hp⟩
  ·rintro bg H2 ⟨ps2,rfl,l2,ex,hDx,hp⟩;rw[Bv (by rw[YG];exact gG.n),ZC]at hp;exact⟨D2,M2,f2,_,_,rfl,⟨u2,ps2,eG.trans ex,dr2.same ex,gG.same ex,Hn eG hD2,hDx,hp,wG.same ex⟩,mq⟩
 rintro _ hGo σ HX ⟨D,M,f,n,x4,rfl,⟨u',ps,eX,dX,gX,hD0,hD,pX,wX⟩,mp⟩;refine hGo _ _ ?_;walk_at "";exact q u' HX d2 M f eX dX hd2 wX mp.done
theorem WY:AK ["node","other"] ["node","other"] (AH Um):=CA (by decide +kernel)
theorem WZ(T:B8 K mg t) :Al P w K mg base 1 t.f_51 ["node","other"] (Fk K):=by
 refine Ak T.d_51 WY (λ_ _ _ _ _ _=>b2 λ_ _=>rfl) λvs H Q E h=>?_;obtain⟨a,b,rfl,q⟩:=h;refine⟨rfl,λbh A outer s hr=>?_⟩
 refine⟨_,(AC (Au (AM BG (pv 0) (pv 1) (AR _)) (AF (AL (EH rfl T.m_EVEN))) AV)
  (AF (AL (Cg (AA (pv 0) (AA (pv 1) AD)))))),?_⟩
 walk_at ""
 by_cases e:a=b
 ·rw[qF (by rw[e])];refine q _ H (AI.refl _) ?_;subst e;rw[B4];exact Fi T.q_EVEN H
 ·rw[qE (by lia)];refine⟨by decide,λp hp=>q p _ (AI.new hp _) (Ad.of ?_)⟩;unfold C0;rw[qE e];exact AE
theorem Qr:AK ["framed","pairs","node"] ["framed"] (AH Uo):=CA (by decide +kernel)
theorem Wa(T:B8 K mg t)(G_66:Al P w K mg base 1 t.f_66 ["one"] (DO)):Al P w K mg base 2 t.f_36 ["framed"] (KO K):=by
 refine Ak T.d_36 Qr (λ_ _ _ _ _ _=>b1 λ_=>rfl) λvs H Q E h=>?_;obtain⟨r,g,lo,b9,m,rfl,ok,sm,q⟩:=h;refine⟨rfl,λbh A outer s hr=>?_⟩
 refine⟨_,(AC (AS 1 Qr (BB (AA (EH rfl T.m_EVEN) AD)))
  (AC (BD PassesOwn.never rfl (A4 rfl T.z_range (AA (AQ hr G_66 T.m_66 (AA (pv 0) AD)) AD)) (BC 2 Qr) (AF (BM (PH ay PySem.F.slot_list_extend PySem.F.type_list_extend JQ (pv 1) (AA (ID [(2,"node")] [("node",_)] (A4 rfl T.z_range (AA (AQ hr G_66 T.m_66 (AA (pv 0) AD)) AD)) (λ_ _ _ _=>(F4 (AM ED (pv 0) (pv 1) (AR _)))) (λ_ _ _ _=>(Cg (AA (pv 1) (AA (pv 0) AD))))) AD)))))
  (AF (AL (pv 1))))),?_⟩
 have hd:=Az ok.g2 ok.len ok.m1;have gp:=RW.Ab ok.g2 (m-1);obtain⟨h,hh⟩:∃h:Nat,h=b9.length/g.toNat:=⟨_,rfl⟩;rw[<-hh]at q hd;have h9:h<=9:=by lia
 refine As λN hN=>?_;walk_at "";refine⟨by decide,λD hD=>hN _ _ ?_⟩;clear hN N;refine CG (λσ HX=>(∃x2,σ=[some (.ref r),some (.ref D),x2])/\AI H HX/\∃ps:List Addr,HX D=some (.lst (ps.map V.ref))/\Cd K HX ps (BR h)) (λN hN=>?_) ?_
 ·have e0:=AI.new hD (.lst [V.ref t.k_EVEN]);refine⟨_,rfl,r,g,lo,b9,m,rfl,ok.same e0,?_⟩;rw[<-hh];refine⟨_,rfl,by lia,by lia,?_⟩;rw[YM];refine BX (n:=h) (λi σ HX=>(∃x2,σ=[some (.ref r),some (.ref D),x2])/\AI H HX/\∃ps:List Addr,HX D=some (.lst (ps.map V.ref))/\Cd K HX ps ((0,0)::(List.range i).flatMap (Mo h))) ⟨⟨none,rfl⟩,e0,[t.k_EVEN],AE,.cons (Fi T.q_EVEN _) .nil⟩ ?_ λσ HX z=>hN _ _ z
  refine Ed ?_;rintro _ _ i _ hGo σ HX hi ⟨⟨x2,rfl⟩,eX,ps,hX,hp⟩;refine hGo _ _ ?_;have lp:=Paired.length hp
  have ll:ps.length<=100:=by have a:=Fl h i;have b:=Zu (show i<=9 by lia) h9;rw[lp,Y8];lia
  have okX:=ok.same eX;refine⟨_,rfl,.inl ⟨rfl,_,Ai.of hX⟩,?_⟩;refine⟨_,rfl,r,g,lo,b9,m,rfl,okX,?_⟩;rw[<-hh];refine⟨_,rfl,by lia,by lia,λD2 hD2=>?_⟩;rw[YM];refine CM (n:=h) (λj bg Hx=>∃ps2:List Addr,bg=ps2.map V.ref/\ps2.length<=j/\AI HX Hx/\Hx D2=some (.lst bg)/\Cd K Hx ps2 (((List.range j).filter λo=>decide (o≠i)).map λo=>(i,o))) ⟨[],rfl,YL _,AI.new hD2 _,AE,.nil⟩ ?_ ?_
  ·refine GO ?_;rintro j _ hGo bg Hx hj ⟨ps2,rfl,l2,ex,h2,hp2⟩;refine hGo _ _ ?_;walk_at "";rw[Y4,ZP]
   by_cases e:j=i
   ·rw[qE (by lia),show ([j].filter λo=>decide (o≠i))=[] by subst e;simp,List.append_nil];exact⟨ps2,rfl,by lia,ex,h2,hp2⟩
   ·rw[qF (by lia),show ([j].filter λo=>decide (o≠i))=[j] by simp[e],List.map_append];refine⟨by decide,λp hp=>?_⟩;have f1:=AI.new hp (.tup [V.int (0+(i:Int)),V.int (0+(j:Int))]);have hl:=f1 _ _ h2;refine⟨hl,by rw[YG];exact Ae (by lia),ps2++[p],by rw[YV];rfl,by rw[YN,Y5];lia,(ex.trans f1).into hD2,AE,Paired.app (Cd.upd hl (Cd.same f1 hp2)) (.cons (Ad.updL hl (Ad.of ?_)) .nil)⟩;rw[AE,Yj,Yj];rfl
  ·rintro bg H2 ⟨ps2,rfl,l2,ex,h2,hp2⟩;dsimp only[Jw];refine⟨D,D2,_,_,rfl,rfl,ex _ _ hX,h2,?_,?_⟩
   ·rw[YG,YG];exact ZQ (Ae (show ps.length+ps2.length<=1000 by lia))
   refine⟨⟨_,rfl⟩,(eX.trans ex).into hD,ps++ps2,by rw[AE,YV],?_⟩;rw[Y4,Zw,<-Z8];refine Paired.app (Cd.upd (ex _ _ hX) (Cd.same ex hp)) ?_;rw[ZD,ai,Yt];exact Cd.upd (ex _ _ hX) hp2
 rintro _ hGo σ HX ⟨⟨x2,rfl⟩,eX,ps,hX,hp⟩;refine hGo _ _ ?_;walk_at "";exact q D HX ps eX hD hX hp
theorem N5:AK ["framed","found","word","told"] ["framed"] (AH Up):=CA (by decide +kernel)
theorem Wc(T:B8 K mg t) :Al P w K mg base 1 t.f_27 ["framed"] (Mp K):=by
 refine Ak T.d_27 N5 (λ_ _ _ _ _ _=>b1 λ_=>rfl) λvs H Q E h=>?_;obtain⟨r,g,lo,b9,m,rfl,ok,sm,q⟩:=h;refine⟨rfl,λbh A outer s hr=>?_⟩
 refine⟨_,(AC (AS 1 N5 (BB AD))
  (AC (BD PassesOwn.never rfl (Ha rfl T.z_enumerate (AA (AJ (Bh K) (pv 0) AB (λ_ _=>rfl)) AD)) (HD rfl (BK (BC 2 N5) (BK (BC 3 N5) DH))) (AF (BM (PH ay PySem.F.slot_list_extend PySem.F.type_list_extend JQ (pv 1) (AA (P0 (fv:=[(2,"word"),(3,"told")]) (cl:=[("word",_),("told",_)]) rfl (Ha rfl T.z_enumerate (AA (AJ (Bh K) (pv 0) AB (λ_ _=>rfl)) AD)) (by with_unfolding_all rfl) (by decide +kernel) rfl (by decide +kernel) rfl rfl ⟨(by with_unfolding_all rfl),⟨(by with_unfolding_all rfl),trivial⟩⟩ (by with_unfolding_all rfl) ⟨⟨rfl,rfl,(by with_unfolding_all rfl),rfl⟩,⟨⟨rfl,rfl,(by with_unfolding_all rfl),rfl⟩,trivial⟩⟩ (by decide) (λ_ _ _ _=>(F4 (PW.pt (E1 (AM BG (pv 1) (pv 3) (AR _)) (Dn (AM ED (pv 0) (pv 2) (AR _))))))) (λ_ _ _ _=>(Cg (AA (pv 2) (AA (pv 0) AD))))) AD)))))
  (AF (AL (pv 1))))),?_⟩
 refine A5.el ok.v λtb h1 h2=>?_;have hlm:(b9.map V.int).length=b9.length:=YG ..;refine As λN hN=>?_;walk_at "";refine⟨by decide,λD hD=>hN _ _ ?_⟩;clear hN N;refine CG (λσ HX=>(∃x2 x3,σ=[some (.ref r),some (.ref D),x2,x3])/\AI H HX/\∃ps:List Addr,HX D=some (.lst (ps.map V.ref))/\Cd K HX ps (D6 b9)) (λN hN=>?_) ?_
 ·have e0:=AI.new hD (.lst []);refine⟨_,rfl,r,_,2,_,rfl,rfl,Ad.of (e0 _ _ h1),rfl,?_⟩;refine⟨tb,_,rfl,Ad.of (e0 _ _ h2),?_⟩;refine JT (xs:=b9.map V.int) (λi σ HX=>(∃x2 x3,σ=[some (.ref r),some (.ref D),x2,x3])/\AI H HX/\∃ps:List Addr,HX D=some (.lst (ps.map V.ref))/\Cd K HX ps ((List.range i).flatMap (QF b9))) ⟨⟨none,none,rfl⟩,e0,[],AE,.nil⟩ (λi σ HX _ z=>Ad.of (z.2.1 _ _ h2)) ?_ λσ HX z=>hN _ _ (by rw[hlm]at z;exact z)
  rintro i x p2 σ HX hx ⟨⟨x2,x3,rfl⟩,eX,ps,hX,hp⟩ hp2;obtain⟨n,hn,rfl⟩:=C4 hx;have hi:i<b9.length:=(YJ.mp hn).1;have f2:=AI.new hp2 (.tup [V.int ((i:Nat):Int),V.int n]);have eY:=eX.trans f2;have hY:=f2 _ _ hX;have pY:=Cd.same f2 hp;refine⟨p2,_,rfl,Ad.of AE,rfl,_,_,rfl,_,_,rfl,rfl,?_⟩;generalize Ac HX p2 (.tup [V.int ((i:Nat):Int),V.int n])=HY at eY hY pY⊢;clear hX hp f2 eX hp2;refine⟨_,rfl,.inl ⟨rfl,_,Ai.of hY⟩,?_⟩;refine⟨_,rfl,r,_,2,_,rfl,rfl,Ad.of (eY _ _ h1),rfl,?_⟩;refine⟨tb,_,rfl,Ad.of (eY _ _ h2),λD2 hD2=>?_⟩;refine LX (xs:=b9.map V.int) (λj bg Hx=>∃ps2:List Addr,bg=ps2.map V.ref/\ps2.length<=j/\AI HY Hx/\Hx D2=some (.lst bg)/\Cd K Hx ps2 (((List.range j).filter λb=>decide (b9.getD b 0=b9.getD i 0)&&decide (b≠i)).map λb=>(i,b))) ⟨[],rfl,YL _,AI.new hD2 _,AE,.nil⟩ (λj bg Hx _ z=>by obtain⟨_,_,_,z,_⟩:=z;exact Ad.of (z _ _ (eY _ _ h2))) ?_ ?_
  ·rintro j x p3 bg Hx hx ⟨ps2,rfl,l2,ex,h2',hp2⟩ hp3;obtain⟨n',hn',rfl⟩:=C4 hx;have f3:=AI.new hp3 (.tup [V.int ((j:Nat):Int),V.int n']);have eA:=ex.trans f3;have hA:=f3 _ _ h2';have pA:=Cd.same f3 hp2;generalize Ac Hx p3 (.tup [V.int ((j:Nat):Int),V.int n'])=HA at eA hA pA⊢;clear f3 ex h2' hp2 hp3;have en:n=b9.getD i 0:=by rw[YH,hn];rfl
   have en':n'=b9.getD j 0:=by rw[YH,hn'];rfl
   walk_at "";rw[Y4,ZP]
   by_cases e1:n'=n
   ·have e1':b9.getD j 0=b9.getD i 0:=by rw[<-en',e1,en]
    rw[qF e1]
    by_cases e:j=i
    ·rw[qE (by lia),Nm (by rw[qI (show ¬j≠i from λz=>z e),Bool.and_false]),Yt];exact⟨ps2,rfl,by lia,eA,hA,pA⟩
    ·rw[qF (by lia),QG (by rw[Zi];exact⟨qH e1',qH e⟩),YV];refine⟨by decide,λp hp=>?_⟩;have f1:=AI.new hp (.tup [V.int ((i:Nat):Int),V.int ((j:Nat):Int)]);have hl:=f1 _ _ hA;have hj:j<b9.length:=(YJ.mp hn').1;have lt:b9.length<=256:=by have:=ok.sz;have:=ok.len;lia
     refine⟨hl,by rw[YG];exact Ae (by lia),ps2++[p],by rw[YV];rfl,by rw[YN,Y5];lia,(eA.trans f1).into hD2,AE,Paired.app (Cd.upd hl (Cd.same f1 pA)) (.cons (Ad.updL hl (Ad.of AE)) .nil)⟩
   ·rw[qE e1,Nm (by rw[qI (show ¬b9.getD j 0=b9.getD i 0 from λz=>e1 (by rw[en',z,en])),Bool.false_and]),Yt];exact⟨ps2,rfl,by lia,eA,hA,pA⟩
  ·rintro bg H2 ⟨ps2,rfl,l2,ex,h2',hp2⟩;dsimp only[Jw];rw[hlm]at l2 hp2;have lt:b9.length<=256:=by have:=ok.sz;have:=ok.len;lia
   have lp:=Paired.length pY;have ll:=ES b9 i;have lm:=Zu (show i<=256 by lia) lt;refine⟨D,D2,_,_,rfl,rfl,ex _ _ hY,h2',?_,?_⟩
   ·rw[YG,YG,sizeLine_eq];lia
   refine⟨⟨_,_,rfl⟩,(eY.trans ex).into hD,ps++ps2,by rw[AE,YV],?_⟩;rw[Y4,Zw];refine Paired.app (Cd.upd (ex _ _ hY) (Cd.same ex pY)) ?_;rw[ZD,ai,Yt];exact Cd.upd (ex _ _ hY) hp2
 rintro _ hGo σ HX ⟨⟨x2,x3,rfl⟩,eX,ps,hX,hp⟩;refine hGo _ _ ?_;walk_at "";exact q D HX ps eX hD hX hp
theorem Wd:AK ["framed","words"] ["framed","words"] (AH Uq):=CA (by decide +kernel)
theorem We(T:B8 K mg t)(G_51:Al P w K mg base 1 t.f_51 ["node","other"] (Fk K)):Al P w K mg base 2 t.f_45 ["framed","words"] (KN K):=by
 refine Ak T.d_45 Wd (λ_ _ _ _ _ _=>b2 λ_ _=>rfl) λvs H Q E h=>?_;obtain⟨r,c,g,lo,b9,m,a,b,rfl,ok,hc,q⟩:=h;refine⟨rfl,λbh A outer s hr=>?_⟩;refine⟨_,(AF (AL (AQ hr G_51 T.m_51 (AA (AG BF (AJ (Bh K) (pv 1) AB (λ_ _=>rfl)) (AJ (Bh K) (pv 0) AB (λ_ _=>rfl))) (AA (AG BF (AJ (Bh K) (pv 1) AB (λ_ _=>rfl)) (AJ (Bh K) (pv 0) AB (λ_ _=>rfl))) AD))))),?_⟩;refine A5.el ok.v λtb h1 h2=>?_;have g2:=ok.g2;have g9:=ok.g9;walk_at "";refine⟨c,_,0,_,rfl,rfl,hc,rfl,Bz (Ad.of h1) rfl ?_⟩;refine⟨_,rfl,_,rfl,by lia,by lia,?_⟩;refine⟨c,_,1,_,rfl,rfl,hc,rfl,Bz (Ad.of h1) rfl ?_⟩;refine⟨_,rfl,_,rfl,by lia,by lia,?_⟩;have ea:((a:Nat):Int)/g=((a/g.toNat:Nat):Int):=by rw[Zq,YY (by lia)]
 have eb:((b:Nat):Int)/g=((b/g.toNat:Nat):Int):=by rw[Zq,YY (by lia)]
 exact⟨_,_,by rw[<-ea,<-eb],q⟩
theorem Wf:AK ["framed","words"] ["framed","words"] (AH Ur):=CA (by decide +kernel)
theorem Wg(T:B8 K mg t)(G_51:Al P w K mg base 1 t.f_51 ["node","other"] (Fk K))(G_66:Al P w K mg base 1 t.f_66 ["one"] (DO)):Al P w K mg base 2 t.f_60 ["framed","words"] (QE K):=by
 refine Ak T.d_60 Wf (λ_ _ _ _ _ _=>b2 λ_ _=>rfl) λvs H Q E h=>?_;obtain⟨r,c,g,lo,b9,m,a,b,rfl,ok,hc,q⟩:=h;refine⟨rfl,λbh A outer s hr=>?_⟩;refine⟨_,(AF (AL (AQ hr G_51 T.m_51 (AA (AG Aa (AJ (Bh K) (pv 1) AB (λ_ _=>rfl)) (AQ hr G_66 T.m_66 (AA (pv 0) AD))) (AA (AG Aa (AJ (Bh K) (pv 1) AB (λ_ _=>rfl)) (AQ hr G_66 T.m_66 (AA (pv 0) AD))) AD))))),?_⟩;have hd:=Az ok.g2 ok.len ok.m1;have gp:=RW.Ab ok.g2 (m-1);have ea:((a:Nat):Int)%((b9.length/g.toNat:Nat):Int)=((a%(b9.length/g.toNat):Nat):Int):=(Yk ..).symm;have eb:((b:Nat):Int)%((b9.length/g.toNat:Nat):Int)=((b%(b9.length/g.toNat):Nat):Int):=(Yk ..).symm;have hp:(0:Int)<((b9.length/g.toNat:Nat):Int):=by lia
 walk_at "";refine⟨c,_,0,_,rfl,rfl,hc,rfl,r,g,lo,b9,m,rfl,ok,?_⟩;refine⟨_,rfl,_,rfl,hp,?_⟩;refine⟨c,_,1,_,rfl,rfl,hc,rfl,r,g,lo,b9,m,rfl,ok,?_⟩;refine⟨_,rfl,_,rfl,hp,?_⟩;exact⟨_,_,by rw[<-ea,<-eb],q⟩
theorem N6:AK ["framed","nexts","pair","words"] ["framed"] (AH Us):=CA (by decide +kernel)
theorem Wh(T:B8 K mg t)(G_36:Al P w K mg base 2 t.f_36 ["framed"] (KO K))(G_27:Al P w K mg base 1 t.f_27 ["framed"] (Mp K))(G_60:Al P w K mg base 2 t.f_60 ["framed","words"] (QE K))(G_45:Al P w K mg base 2 t.f_45 ["framed","words"] (KN K)):Al P w K mg base 3 t.f_24 ["framed"] (G3 P w K):=by
 refine Ak T.d_24 N6 (λ_ _ _ _ _ _=>b1 λ_=>rfl) λvs H Q E h=>?_;obtain⟨r,g,lo,b9,m,rfl,ok,sm,q⟩:=h;refine⟨rfl,λbh A outer s hr=>?_⟩
 refine⟨_,(AC (HI (i:=1) N6.nd rfl (Or.inl rfl) (IK (P:=P) (w:=w) (K:=K) rfl rfl rfl))
  (AC (BD PassesOwn.never rfl (Q5 K (AQ hr G_36 T.m_36 (AA (pv 0) AD))) (BC 2 N6) (AF (LQ (P:=P) (w:=w) (K:=K) rfl rfl rfl (Dc hr) (pv 1) (pv 2) (BB AD) rfl)))
  (AC (BD PassesOwn.never rfl (Q5 K (AQ hr G_27 T.m_27 (AA (pv 0) AD))) (BC 3 N6) (AF (BM (Q6 K (C9 (P:=P) (w:=w) (K:=K) rfl rfl rfl (Dc hr) (pv 1) (AQ hr G_45 T.m_45 (AA (pv 0) (AA (pv 3) AD))) (λ_ _=>rfl)) (AA (AQ hr G_60 T.m_60 (AA (pv 0) (AA (pv 3) AD))) AD)))))
  (AF (AL (pv 1)))))),?_⟩
 obtain⟨h,hh⟩:∃h:Nat,h=b9.length/g.toNat:=⟨_,rfl⟩;rw[<-hh]at q;have hd9:=Az ok.g2 ok.len ok.m1;have h9:h<=9:=by rw[<-hh]at hd9;lia
 refine As λN hN=>?_;walk_at "";intro d u hd dw;refine hN _ _ ?_;clear hN N;have e0:=AI.new hd u;generalize Ac H d u=H0 at dw e0⊢;refine CG (λσ HX=>(∃x2 x3,σ=[some (.ref r),some (.ref d),x2,x3])/\AI H HX/\∃ls:List Addr,(∀l∈ls,H l=none)/\DW P w K HX d (Am (BR h) (ls.map V.ref))/\Dm K HX ls (BR h) λ_=>[]) (λN hN=>?_) ?_
 ·refine⟨_,rfl,r,g,lo,b9,m,rfl,ok.same e0,sm,λD H1 ps e1 hD1 hD hp=>?_⟩;rw[<-hh]at hp;have pn:=Paired.length hp;have nd:=CQ h;have lA:(BR h).length<=100:=by have a:=Fl h h;have b:=Zu h9 h9;unfold BR;rw[Y8];lia
  refine⟨D,rfl,⟨_,Ai.of hD⟩,?_⟩;refine CY (xs:=ps.map V.ref) (λi σ HX=>(∃x2 x3,σ=[some (.ref r),some (.ref d),x2,x3])/\AI H HX/\HX D=some (.lst (ps.map V.ref))/\Cd K HX ps (BR h)/\∃ls:List Addr,(∀l∈ls,H l=none)/\DW P w K HX d (Am ((BR h).take i) (ls.map V.ref))/\Dm K HX ls ((BR h).take i) λ_=>[]) ⟨⟨none,none,rfl⟩,e0.trans e1,hD,hp,[],(λl hl=>qG hl List.not_mem_nil),dw.same e1,⟨rfl,List.nodup_nil,λi a l z=>by simp at z⟩⟩ (λi σ HX _ z=>Ai.of z.2.2.1) ?_ ?_
  ·refine Lp ?_;rintro _ _ i x _ hGo σ HX hx ⟨⟨x2,x3,rfl⟩,eX,hDX,pX,ls,ln,dX,gX⟩;refine hGo _ _ ?_;obtain⟨p,hpi,rfl⟩:∃p,ps[i]?=some p/\x=V.ref p:=by rw[YO]at hx;obtain⟨p,h1,h2⟩:=Y3.mp hx;exact⟨p,h1,h2.symm⟩
   obtain⟨a,ha,sa⟩:=Bk pX hpi;have hi:i<(BR h).length:=(YJ.mp ha).1
   have lr:(Am ((BR h).take i) (ls.map V.ref)).length<=100:=by rw[Bv (by rw[YG];exact gX.n),Ys];lia
   refine⟨by decide,λl hl=>?_⟩;have f1:=AI.new hl (.lst []);have dY:=dX.same f1;have gY:=gX.same f1;have hY:=f1 _ _ hDX;have pY:=Cd.same f1 pX;have sY:=Ad.same' f1 sa;have lY:Ac HX l (.lst []) l=some (.lst []):=AE;have nl:=gX.out hl;have eY:=eX.trans f1;have hn:=eX.free hl;generalize Ac HX l (.lst [])=HY at f1 dY gY hY pY sY lY eY⊢;refine⟨_,rfl,_,rfl,d,p,_,BW a,rfl,rfl,dY,sY,Ae (by lia),λu' dw'=>⟨⟨_,_,rfl⟩,eY.into hd,dY.lst hY u',dY.prv pY u',ls++[l],λk hk=>?_,?_,?_⟩⟩
   ·rcases YR.mp hk with z|z
    ·exact ln k z
    ·rw[YT.mp z];exact hn
   ·rw[YV,ZJ,ha];rw[IN (by rw[YG];exact gX.n) (Fm nd ha)]at dw';exact dw'
   ·rw[ZJ,ha];exact (dY.grl gY u').snoc nl (dY.lst lY u') rfl
  ·rintro σ HX ⟨⟨x2,x3,rfl⟩,eX,hDX,pX,ls,ln,dX,gX⟩;rw[YG,pn,ZC]at dX gX;exact hN _ _ ⟨⟨_,_,rfl⟩,eX,ls,ln,dX,gX⟩
 rintro _ hGo σ HX ⟨⟨x2,x3,rfl⟩,eX,ls,ln,dX,gX⟩;refine hGo _ _ ?_;refine CG (λσ HX=>(∃x2 x3,σ=[some (.ref r),some (.ref d),x2,x3])/\AI H HX/\DW P w K HX d (Am (BR h) (ls.map V.ref))/\Dm K HX ls (BR h) (Gj g.toNat h (D6 b9))) (λN hN=>?_) ?_
 ·refine⟨_,rfl,r,g,lo,b9,m,rfl,ok.same eX,sm,λD H1 ps e1 hD1 hD hp=>?_⟩;have pn:=Paired.length hp;have nD:=gX.out hD1;have nd:=CQ h;refine⟨D,rfl,⟨_,Ai.of hD⟩,?_⟩;refine CY (xs:=ps.map V.ref) (λi σ HX=>(∃x2 x3,σ=[some (.ref r),some (.ref d),x2,x3])/\AI H HX/\HX D=some (.lst (ps.map V.ref))/\Cd K HX ps (D6 b9)/\DW P w K HX d (Am (BR h) (ls.map V.ref))/\Dm K HX ls (BR h) (Gj g.toNat h ((D6 b9).take i))) ⟨⟨_,_,rfl⟩,eX.trans e1,hD,hp,dX.same e1,gX.same e1⟩ (λi σ HX _ z=>Ai.of z.2.2.1) ?_ ?_
  ·clear dX gX eX hD hp e1;rintro i x σ HX hx ⟨⟨x2,x3,rfl⟩,eX,hDX,pX,dX,gX⟩;obtain⟨c,hci,rfl⟩:∃c,ps[i]?=some c/\x=V.ref c:=by rw[YO]at hx;obtain⟨c,h1,h2⟩:=Y3.mp hx;exact⟨c,h1,h2.symm⟩
   obtain⟨⟨a,b⟩,hab,sc⟩:=Bk pX hci;have mw:=IQ.mp (YW hab);have hd9':=hd9;rw[<-hh]at hd9';obtain⟨j,hj⟩:=Y2.mp (KP (h:=h) (a:=a/g.toNat) (b:=b/g.toNat) (ZN (by rw[Zm];lia)) (ZN (by rw[Zm];lia)));obtain⟨l,hl⟩:∃l,ls[j]?=some l:=⟨ls[j]'(by rw[gX.n];exact (YJ.mp hj).1),YI _⟩;have ml:=YW hl;have okX:=ok.same eX;refine⟨_,rfl,_,rfl,_,rfl,r,c,g,lo,b9,m,a,b,rfl,okX,sc,λp H2 e2 sp=>?_⟩;obtain⟨u,dr⟩:=(dX.same e2).r;obtain⟨qs,hq,hqp⟩:=(gX.same e2).e j _ l hj hl;refine⟨d,p,u,_,BW _,.ref l,rfl,rfl,dr,sp,Bw nd hj (by rw[YO,hl];rfl),.inl ⟨rfl,_,Ai.of hq⟩,?_⟩;refine⟨_,rfl,_,rfl,r,c,g,lo,b9,m,a,b,rfl,okX.same e2,Ad.same' e2 sc,λp3 H3 e3 sp3=>?_⟩;rw[<-hh]at sp3;have hq3:=e3 _ _ hq;have e23:=e2.trans e3;refine⟨l,_,_,rfl,rfl,hq3,?_,?_⟩
   ·have l1:=Paired.length hqp;have l2:=KQ g.toNat h ((D6 b9).take i) (C0 (a/g.toNat,b/g.toNat));have l3:=ES b9 b9.length;have lt:b9.length<=256:=by have:=ok.sz;have:=ok.len;lia
    have l4:=Zu lt lt;have l5:((D6 b9).take i).length<=(D6 b9).length:=by rw[Ys];exact Nat.min_le_right ..
    have l6:(D6 b9).length<=b9.length*b9.length:=l3;rw[YG,sizeLine_eq];lia
   rw[show qs.map V.ref++[V.ref p3]=(qs++[p3]).map V.ref by rw[YV];rfl];refine⟨⟨_,_,rfl⟩,(eX.trans e23).into (ln l ml),by rw[AN λz=>nD (by rw[z];exact ml)];exact e23 _ _ hDX,Cd.upd hq3 (Cd.same e23 pX),(dX.same e23).updL hq3 _,(gX.same e23).push nd hj hl hq3 (Cd.same e3 hqp) sp3 λz=>QH hab z⟩
  ·rintro σ HX ⟨⟨x2,x3,rfl⟩,eX,hDX,pX,dX,gX⟩;rw[YG,pn,ZC]at gX;exact hN _ _ ⟨⟨_,_,rfl⟩,eX,dX,gX⟩
 rintro _ hGo σ HX ⟨⟨x2,x3,rfl⟩,eX,dX,gX⟩;refine hGo _ _ ?_;walk_at "";exact q d HX ls eX hd ln dX gX
theorem Wi:AK ["framed"] ["framed"] (AH Ut):=CA (by decide +kernel)
theorem Wj(T:B8 K mg t)(G_23:Al P w K mg base 1 t.f_23 ["ahead"] (KU P w K))(G_15:Al P w K mg base 1 t.f_15 ["nexts"] (KR P w K))(G_24:Al P w K mg base 3 t.f_24 ["framed"] (G3 P w K)):Al P w K mg base 4 t.f_25 ["framed"] (IU P w K):=by
 refine Ak T.d_25 Wi (λ_ _ _ _ _ _=>b1 λ_=>rfl) λvs H Q E h=>?_;obtain⟨r,g,lo,b9,m,rfl,ok,sm,q⟩:=h;refine⟨rfl,λbh A outer s hr=>?_⟩;refine⟨_,(AF (AL (AQ hr G_23 T.m_23 (AA (AQ hr G_15 T.m_15 (AA (AQ hr G_24 T.m_24 (AA (pv 0) AD)) AD)) AD)))),?_⟩;have g2:=ok.g2;have hl:=Om g2 ok.len ok.m1;obtain⟨h,hh⟩:∃h:Nat,h=b9.length/g.toNat:=⟨_,rfl⟩;have hd9:=Az ok.g2 ok.len ok.m1;rw[<-hh]at q hl hd9;have h9:h<=9:=by lia
 have hp:=RW.Ab ok.g2 (m-1);have h0:0<h:=by lia
 have wl:(D6 b9).length<=70000:=by
  have l3:(D6 b9).length<=b9.length*b9.length:=ES b9 b9.length;have lt:b9.length<=256:=by have:=ok.sz;have:=ok.len;lia
  have l4:=Zu lt lt;lia
 walk_at "";refine⟨r,g,lo,b9,m,rfl,ok,sm,λd1 H1 ls e1 hd1 ln dw gr=>?_⟩;rw[<-hh]at dw gr;obtain⟨u1,dr⟩:=dw.r;refine⟨d1,u1,ls,BR h,Gj g.toNat h (D6 b9),rfl,dr,gr,CQ h,λa _ p hp=>(DP h0 ((G7 hl).mp hp)).2,EY h9,λa _=>Yy (KQ ..) wl,λu' H2 d2 ls2 A2 B e2 dr2 hd2 ln2 dw2 gr2 tp=>?_⟩;obtain⟨u2,drr⟩:=dw2.r;have eH2:=(e1.into hd1 (o:=u')).trans e2;have l2:A2.length<=100:=Yy (tp.nd.length_le_of_subset λp hp=>(tp.all p).mp hp) (EY h9)
 have hB:∀p q,q∈B p↔Gi g.toNat h b9 q p:=λp q=>by rw[tp.on,G7 hl];exact⟨λz=>z.2,λz=>⟨(DP h0 z).1,z⟩⟩
 refine⟨d2,u2,ls2,A2,B,rfl,drr,gr2,tp.nd,λa _ p hp=>(tp.all p).mpr (DP h0 ((hB a p).mp hp)).1,l2,λa _=>tp.len a,λu3 H3 d3 M f e3 dr3 hd3 dw3 mp=>?_⟩;exact q d3 H3 M f ((eH2.into (e1.free hd2)).trans e3) (eH2.free hd3) dw3 (mp.rk h9 tp.all tp.nd (λp _ q=>hB p q) λp q z=>(DP h0 z).1)
theorem Qs:AK ["one","framed","found"] ["one"] (AH Uu):=CA (by decide +kernel)
theorem Wk(T:B8 K mg t)(G_65:Al P w K mg base 8 t.f_65 ["one"] (Gx t.c_49))(G_25:Al P w K mg base 4 t.f_25 ["framed"] (IU P w K))(G_36:Al P w K mg base 2 t.f_36 ["framed"] (KO K)):Al P w K mg base 9 t.f_67 ["one"] (Ik t.c_49):=by
 refine Nf T.d_67 Qs (λ_ _ _ _ _ _=>b1 λ_=>rfl) λvs H Q E h=>?_;obtain⟨r,g,lo,b9,m,lf,tf,mf,rfl,ok,fw,q0,q1,q2⟩:=h;refine⟨rfl,λbh A outer s hr=>?_⟩
 refine⟨_,(AC (AS 1 Qs (De G_65 (hr.mono (by decide)) rfl T.m_65 DJ (AA (pv 0) AD)))
  (AC (AS 2 Qs (AQ hr G_25 T.m_25 (AA (pv 1) AD)))
  (AC (Au (AM Ck (Aw (Mm (P:=P) (w:=w) (K:=K) rfl rfl rfl) rfl T.z_len Y7 (AA (pv 2) AD)) (Aw (Lo K) rfl T.z_len Y7 (AA (AQ hr G_36 T.m_36 (AA (pv 1) AD)) AD)) (AR _)) (AF (AL Ez)) AV)
  (AF (AL (Cg (AA (C9 (P:=P) (w:=w) (K:=K) rfl rfl rfl (Dc hr) (pv 2) (EH rfl T.m_EVEN) (λ_ _=>rfl)) (AA (Aw (Le (K:=K) rfl) rfl T.z_sorted PyProof.Rows.boot_sorted (AA (ID [(2,"found")] [("found",_)] (En (P:=P) (w:=w) (K:=K) rfl rfl rfl (pv 2)) (λ_ _ _ _=>(F4 (AM (Rv (K:=K) rfl hr.units) (pv 0) (EH rfl T.m_EVEN) (AR _)))) (λ_ _ _ _=>(AG (QJ (K:=K) rfl) (pv 0) (Cg (AA (by exact C9 (P:=P) (w:=w) (K:=K) rfl rfl rfl (Dc hr) (pv 1) (pv 0) (λ_ _=>rfl)) AD))))) AD)) AD)))))))),?_⟩
 have g2:=ok.g2;have gp:=RW.Ab g2 (mf-1);refine As λN hN=>?_;walk_at "";refine⟨r,g,lo,b9,m,lf,tf,mf,rfl,ok,fw,λsm r1 H1 e1 ok1=>hN _ _ ?_,q0⟩;clear hN N;have hd9:=Az g2 ok1.len ok1.m1;obtain⟨h,hh⟩:∃h:Nat,h=tf.length/g.toNat:=⟨_,rfl⟩;unfold FG at q1;rw[<-hh]at q1 q2 hd9;have h9:h<=9:=by lia
 have h0:0<h:=by lia
 have ba:(0,0)∈BR h:=ET.mpr (.inl rfl);refine As λN hN=>?_;walk_at "";refine⟨r1,g,lf,tf,mf,rfl,ok1,by lia,λd H2 M f e2 hd dw rk=>hN _ _ ?_⟩;clear hN N;rw[<-hh]at rk;have e12:=e1.trans e2;have lM:M.length<=(BR h).length:=rk.nd.length_le_of_subset λp hp=>rk.sub p hp
 have lA:=EY (show h<=9 by lia);refine CG (λσ HX=>σ=[some (.ref r),some (.ref r1),some (.ref d)]/\AI H2 HX/\∀p∈BR h,p∈M) (λN hN=>?_) ?_
 ·obtain⟨u,dr⟩:=dw.r;refine⟨_,rfl,d,u,_,rfl,dr,_,rfl,r1,g,lf,tf,mf,rfl,ok1.same e2,by lia,λD H3 ps e3 hD0 hD hps=>?_⟩;have pn:=Paired.length hps;rw[<-hh]at hps pn;refine⟨D,_,rfl,.inl (Ai.of hD),_,_,rfl,rfl,_,rfl,?_⟩;dsimp only;rw[YG,pn,Bv (by rw[YG])]
  by_cases z:M.length<(BR h).length
  ·rw[qF (qH (by lia))];refine q1 ⟨sm,λrr hr=>?_⟩ H3 (e12.trans e3);have:=rk.all hr;have:=(CQ h).length_le_of_subset λp hp=>this p hp
   lia
  ·rw[qE (λy=>z (by have:=of_decide_eq_true y;lia))];exact hN _ _ ⟨rfl,e3,Mx rk.nd rk.sub (by lia)⟩
 rintro _ hGo σ HX ⟨rfl,eX,all⟩;refine hGo _ _ ?_;have l50:M.length<=100:=by lia
 obtain⟨u,dr⟩:=(dw.same eX).r;refine⟨_,rfl,d,t.k_EVEN,u,_,BW (0,0),.int (f (0,0):Nat),rfl,rfl,dr,Fi T.q_EVEN HX,GH rk.nd (all _ ba),_,rfl,d,u,_,rfl,dr,λu' dr' D hD=>?_⟩;have eF:=(e12.trans eX).into (e1.free hd) (o:=u');generalize Ac HX d u'=HF at dr' eF hD⊢;refine E9 (P:=P) (w:=w) (K:=K) (λi bg Hx=>bg.length<=i/\AI HF Hx/\Hx D=some (.lst bg)/\∀y∈bg,∃t ns,y=V.ref t/\Ad K Hx t (ns.map V.int)/\ns≠[]) ⟨YL _,AI.new hD _,AE,λ_ h=>qG h Yv⟩ (λi bg Hx _ z=>dr'.same z.2.1) ?_ ?_
 ·rintro i b k v bg Hx hk sb ⟨lp,ex,hDx,hp⟩;obtain⟨a,ha,rfl,rfl⟩:=QS hk;have aM:=YW ha;have i50:i<=100:=by have:=(YJ.mp ha).1;lia
  have sb':Ad K Hx b (([(a.1:Int),(a.2:Int)]).map V.int):=sb;refine⟨_,rfl,_,_,QT sb',QT (ns:=[0,0]) (Fi T.q_EVEN Hx),NV _,NV _,OV _,_,rfl,?_⟩;refine XV (λ_=>?_) λ_=>⟨by lia,ex,hDx,hp⟩
  refine⟨_,rfl,_,rfl,_,rfl,d,b,u',_,BW a,.int (f a:Nat),rfl,rfl,dr'.same ex,sb,GH rk.nd aM,(by show 1<=sizeLine;decide),λp3 hp3=>⟨b,p3,([(a.1:Int),(a.2:Int)]).map V.int,[V.int (f a:Nat)],rfl,rfl,Ad.same' (AI.new hp3 _) sb',Ad.of AE,List.cons_ne_nil _ _,by show 2+1<=sizeLine;decide,λz=>qG z (List.cons_ne_nil _ _),λ_ p4 hp4=>?_⟩⟩;have e4:=(AI.new hp3 (.tup [V.int (f a:Nat)])).trans (AI.new hp4 (.tup (([(a.1:Int),(a.2:Int)]).map V.int++[V.int (f a:Nat)])));have s4:Ad K (Ac (Ac Hx p3 (.tup [V.int (f a:Nat)])) p4 (.tup (([(a.1:Int),(a.2:Int)]).map V.int++[V.int (f a:Nat)]))) p4 (([(a.1:Int),(a.2:Int),((f a:Nat):Int)]).map V.int):=Ad.of AE;generalize Ac (Ac Hx p3 (.tup [V.int (f a:Nat)])) p4 (.tup (([(a.1:Int),(a.2:Int)]).map V.int++[V.int (f a:Nat)]))=HY at e4 s4⊢;have h4:=e4 _ _ hDx;refine⟨h4,Ae (by lia),by rw[YN,Y5];lia,(ex.trans e4).into hD,AE,λy hy=>?_⟩;rcases YR.mp hy with z|z
  ·obtain⟨t,ns,z1,z2,z3⟩:=hp y z;exact⟨t,ns,z1,Ad.updL h4 (Ad.same' e4 z2),z3⟩
  ·exact⟨p4,_,YT.mp z,Ad.updL h4 s4,List.cons_ne_nil _ _⟩
 ·rintro bg H4 ⟨lp,ex,hDx,hp⟩;rw[Bv (by rw[YG])]at lp;refine⟨D,bg,rfl,Ai.of hDx,by lia,hp,λD2 ts' hD2 _=>⟨(by show 2<=sizeLine;decide),λp5 hp5=>?_⟩⟩;exact q2 sm p5 D2 _ M f (((eF.trans ex).trans (AI.new hD2 _)).trans (AI.new hp5 _)) AE rk all
theorem Ge:AK ["one","framed","ranked","even","many","table","number","come"] ["one"] (AH Uv):=CA (by decide +kernel)
theorem Wl(T:B8 K mg t)(G_65:Al P w K mg base 8 t.f_65 ["one"] (Gx t.c_49))(G_67:Al P w K mg base 9 t.f_67 ["one"] (Ik t.c_49))(G_68:Al P w K mg base 4 t.f_68 ["signs","low","table"] (Ie))(G_62:Al P w K mg base 2 t.f_62 ["one"] (Ca))(G_8:Al P w K mg base 1 t.f_8 ["signs","many"] (Hc))(G_55:Al P w K mg base 1 t.f_55 ["number","signs","many"] (Fq))(G_37:Al P w K mg base 4 t.f_37 ["one","row","number"] (Lq K))(G_23:Al P w K mg base 1 t.f_23 ["ahead"] (KU P w K))(G_24:Al P w K mg base 3 t.f_24 ["framed"] (G3 P w K)):Al P w K mg base 10 t.f_48 ["one"] (FH t.c_28 t.c_49):=by
 refine Nf T.d_48 Ge (λ_ _ _ _ _ _=>b1 λ_=>rfl) λvs H Q E h=>?_;obtain⟨r,g,lo,b9,m,lf,tf,mf,rfl,ok,fw,qn,qt,q⟩:=h;refine⟨rfl,λbh A outer s hr=>?_⟩
 refine⟨_,(AC (AS 1 Ge (De G_65 (hr.mono (by decide)) rfl T.m_65 DJ (AA (pv 0) AD)))
  (AC (AS 2 Ge (De G_67 (hr.mono (by decide)) rfl T.m_67 DJ (AA (pv 1) AD)))
  (AC (Au (AM O7 (pv 2) Ez (AR _)) (AF (Dd rfl T.x_28 rfl T.m_28 CC (AA Fu AD))) AV)
  (AC (AS 3 Ge (AJ (Bh K) (pv 2) AB (λ_ _=>rfl)))
  (AC (AS 4 Ge (AG An (AG AY (AG AY (pv 3) (C9 (P:=P) (w:=w) (K:=K) rfl rfl rfl (Dc hr) (AQ hr G_23 T.m_23 (AA (AQ hr G_24 T.m_24 (AA (pv 1) AD)) AD)) (EH rfl T.m_EVEN) (λ_ _=>rfl))) AB) (AQ hr G_62 T.m_62 (AA (pv 1) AD))))
  (AC (Au (AM EE (AQ hr G_8 T.m_8 (AA (AJ (Bh K) (pv 1) AB (λ_ _=>rfl)) (AA (pv 4) AD))) (Df rfl T.g_LONGEST_TABLE) (AR _)) (AF (Dd rfl T.x_49 rfl T.m_49 CC (AA Fu AD))) AV)
  (AC (AS 5 Ge (BB AD))
  (AC (PS.nox (BD PassesOwn.never rfl (A4 rfl T.z_range (AA (AQ hr G_8 T.m_8 (AA (AJ (Bh K) (pv 1) AB (λ_ _=>rfl)) (AA (pv 4) AD))) AD)) (BC 6 Ge) (AC (AS 7 Ge (AQ hr G_55 T.m_55 (AA (pv 6) (AA (AJ (Bh K) (pv 1) AB (λ_ _=>rfl)) (AA (pv 4) AD)))))
  (AF (BM (Q6 K (pv 5) (AA (AJ (CJ K) (AQ hr G_37 T.m_37 (AA (pv 1) (AA (pv 7) (AU AD)))) (pv 3) (λ_ _=>rfl)) AD)))))))
  (AF (AL (AQ hr G_68 T.m_68 (AA (AJ (Bh K) (pv 1) AB (λ_ _=>rfl)) (AA (AG An (JM Fx (AJ (Bh K) (pv 1) AB (λ_ _=>rfl))) (pv 3)) (AA (pv 5) AD)))))))))))))),?_⟩
 have g2:=ok.g2;have g9:=ok.g9;have gp:=RW.Ab g2 (mf-1);refine As λN hN=>?_;walk_at "";refine⟨r,g,lo,b9,m,lf,tf,mf,rfl,ok,fw,λsm r1 H1 e1 ok1=>hN _ _ ?_,λz=>qt (.inl z)⟩;clear hN N;have hd9:=Az g2 ok1.len ok1.m1;have mf2:=fw.two;have h0:0<tf.length/g.toNat:=by lia
 have even0:(0,0)∈BR (tf.length/g.toNat):=ET.mpr (.inl rfl);refine As λN hN=>?_;walk_at "";refine⟨r1,g,lf,tf,mf,lf,tf,mf,rfl,ok1,fw.again g2 ok.len,λz=>by lia,λno H2 e2=>hN _ _ ?_,λ_ pr D H2 M f e2 hpr rk all=>hN _ _ ?_⟩
 ·clear hN N;walk_at "";exact⟨by decide,qn no H2 (e1.trans e2)⟩
 clear hN N;refine As λN hN=>?_;walk_at "";refine hN _ _ ?_;clear hN N;have e12:=e1.trans e2;refine As λN hN=>?_;refine⟨_,rfl,pr,_,0,_,rfl,rfl,Ad.of hpr,rfl,hN _ _ ?_⟩;clear hN N;refine E3 (λHX=>AI H HX/\Ah HX r1 g lf tf mf) ⟨e12,ok1.same e2⟩ ?_;clear e2 hpr e12 e1 ok1 D;rintro H2 ⟨e2,ok2⟩;refine As λN hN=>?_
 have wl:(D6 tf).length<=70000:=by
  have l3:(D6 tf).length<=tf.length*tf.length:=ES tf tf.length;have lt:tf.length<=256:=by have:=ok2.sz;have:=ok2.len;lia
  have l4:=Zu lt lt;lia
 have h9:tf.length/g.toNat<=9:=by lia
 refine⟨_,rfl,_,rfl,r1,g,lf,tf,mf,rfl,ok2,by lia,λd1 H3 ls e3 hd1 ln dw gr=>?_⟩;obtain⟨u1,dr⟩:=dw.r;refine⟨d1,u1,ls,_,_,rfl,dr,gr,CQ _,λa _ p hp=>(DP h0 ((G7 hd9.2).mp hp)).2,EY h9,λa _=>Yy (KQ ..) (by lia),λu' H4 d2 M' f' e4 dr4 hd2 dw4 mp=>?_⟩;have rk':On (tf.length/g.toNat) (λa b=>Gi g.toNat (tf.length/g.toNat) tf b a) M' f':=mp.rk h9 (λ_=>Iff.rfl) (CQ _) (λp _ q=>G7 hd9.2) λp q z=>(DP h0 z).2
 obtain⟨all',bx⟩:=UK (m:=mf) h0 rk all rk';have bk:=bx.b;have e24:=(e3.into hd1 (o:=u')).trans e4;obtain⟨u4,dr5⟩:=dw4.r;refine⟨d2,t.k_EVEN,u4,_,BW (0,0),.int (f' (0,0):Nat),rfl,rfl,dr5,Fi T.q_EVEN H4,GH mp.nd (all' _ even0),?_⟩;refine⟨_,_,rfl,rfl,_,_,rfl,rfl,?_⟩;have ok4:=ok2.same e24;have mny:=Dl.many g2 ok2.len mf2 ok2.tb bk;generalize f (0,0)=ba at bk bx mny⊢;generalize f' (0,0)=left at bk bx mny⊢;obtain⟨bf,em⟩:∃bf,ba+left+2=mf+bf:=⟨ba+left+2-mf,by lia⟩;have m1:1<=bf:=by lia
 refine⟨_,rfl,r1,g,lf,tf,mf,rfl,g2,g9,ok4.v,ok4.len,_,_,rfl,rfl,hN _ _ ?_⟩;clear hN N;dsimp only;rw[show ((ba:Nat):Int)+((left:Nat):Int)+2-((mf:Nat):Int)=((bf:Nat):Int) by lia];refine E3 (λHX=>AI H HX/\Ah HX r1 g lf tf mf) ⟨e2.trans e24,ok4⟩ ?_;clear ok4 dr5 dw4 dr4 hd2 e4 dr gr dw ln hd1 e3 e24 ok2 e2 mp rk' all' rk all;rintro H5 ⟨e5,ok5⟩;refine A5.el ok5.v λtb5 h51 h52=>?_;refine CG (λσ HX=>σ=[some (.ref r),some (.ref r1),some (.ref pr),some (.int (ba:Nat)),some (.int (bf:Nat)),none,none,none]/\HX=H5/\g^bf<=256) (λN hN=>?_) ?_
 ·refine⟨_,rfl,r1,_,0,_,rfl,rfl,Ad.of h51,rfl,_,rfl,?_⟩;refine⟨g,_,rfl,g2,g9,by lia,λz=>?_,λz x hx=>?_⟩
  ·rw[YM]at z⊢;refine⟨_,_,rfl,rfl,_,rfl,?_⟩;dsimp only;rw[qE (λy=>by have:=of_decide_eq_true y;lia)];exact hN _ _ ⟨rfl,rfl,z⟩
  ·refine⟨_,_,rfl,rfl,_,rfl,?_⟩;dsimp only;rw[qF (qH (by lia))];exact⟨by decide,qt (.inr ⟨sm,ba,left,bf,bx,em,by rw[YM]at z;lia⟩) H5 e5⟩
 rintro _ hGo σ HX ⟨rfl,hHX,s256⟩;refine hGo _ _ ?_;rw[hHX];clear hHX HX;have m8:=Dt g2 s256;have gm:=RW.Ab g2 bf;refine As λN hN=>?_;walk_at "";refine⟨by decide,λD hD=>hN _ _ ?_⟩;clear hN N;have e6:=AI.new hD (.lst []);have hD6:Ac H5 D (.lst []) D=some (.lst []):=AE;generalize Ac H5 D (.lst [])=H6 at e6 hD6⊢;refine CG (λσ HX=>(∃x6 x7,σ=[some (.ref r),some (.ref r1),some (.ref pr),some (.int (ba:Nat)),some (.int (bf:Nat)),some (.ref D),x6,x7])/\AI H5 HX/\HX D=some (.lst ((Jj g tf mf ba bf).map V.int))) (λN hN=>?_) ?_
 ·refine⟨_,rfl,r1,_,0,_,rfl,rfl,Ad.of (e6 _ _ h51),rfl,_,rfl,?_⟩;refine⟨g,_,rfl,g2,g9,by lia,λz=>?_,λz=>qG s256 (by rw[YM]at z;lia)⟩;rw[YM];refine⟨_,rfl,by lia,by lia,?_⟩;refine BX (n:=(g^bf).toNat) (λi σ HX=>(∃x6 x7,σ=[some (.ref r),some (.ref r1),some (.ref pr),some (.int (ba:Nat)),some (.int (bf:Nat)),some (.ref D),x6,x7])/\AI H5 HX/\HX D=some (.lst (((List.range i).map (UB g tf mf ba bf)).map V.int))) ⟨⟨none,none,rfl⟩,e6,hD6⟩ ?_ λσ HX z=>hN _ _ z
  clear e6 hD6;rintro i σ HX hi ⟨⟨x6,x7,rfl⟩,eX,hDX⟩;have okX:=ok5.same eX;have hX1:=eX _ _ h51;refine As λN2 hN2=>?_;refine⟨_,rfl,_,rfl,r1,_,0,_,rfl,rfl,Ad.of hX1,rfl,_,rfl,?_⟩;rw[Yj];refine⟨_,g,_,rfl,g2,g9,by lia,by lia,λz=>?_,λ_ _ p7 H7 n7=>hN2 _ _ ?_⟩
  ·exfalso;rw[YM]at z;lia
  clear hN2 N2;rw[YM,show (RW.C7 g (i:Int) bf).reverse=Af g (i:Int) bf from rfl]at n7;have wb:=Bd g2 (i:Int) bf;have wln:=A1 g (i:Int) bf;obtain⟨w,hw⟩:=Dl.first (bf:=bf) g2 okX.len mf2 okX.tb bk wb;obtain⟨w1,w2,w3⟩:=GI g2 okX.len (by lia) (YW hw);have ok7:=okX.same n7.1;refine⟨_,rfl,.inl ⟨rfl,_,Ai.of (n7.1 _ _ hDX)⟩,?_⟩;refine⟨_,rfl,_,rfl,r1,p7,g,lf,tf,mf,_,0,rfl,ok7,Ai.of n7.2.2,KA,by rw[YG,wln];lia,?_⟩;rw[HS wb]
  have tp:0<B2 g.toNat tf (Af g (i:Int) bf):=by rw[<-Gy (g:=g) tf mf];have:=(YJ.mp hw).1;lia
  refine λns hns=>⟨λz=>?_,λ_ _ q8 H8 w8 hw8 n8=>?_⟩
  ·exfalso;rw[<-FV hns]at z;lia
  rw[<-FV hns,Int.toNat_zero,hw]at hw8;cases hw8;have lw:ba<w.length:=by rw[w3,wln];lia
  refine⟨_,rfl,q8,_,_,_,rfl,rfl,Ai.of n8.2.2,Cp (by rw[YO,YI lw];rfl),?_⟩;have hD8:=n8.1 _ _ (n7.1 _ _ hDX);refine⟨D,_,_,rfl,rfl,hD8,by rw[YG,YG,Yo];exact Ae (by lia),⟨_,_,rfl⟩,((eX.trans n7.1).trans n8.1).into hD,?_⟩;rw[AE,BS,YV]
  have ew:w.getD ba 0=UB g tf mf ba bf i:=by unfold UB;rw[YH (l:=DF g tf mf (Af g (i:Int) bf)),hw];rfl
  rw[YH,YI lw]at ew;rw[<-ew];rfl
 rintro _ hGo σ HX ⟨⟨x6,x7,rfl⟩,eX,hDX⟩;refine hGo _ _ ?_;have hX1:=eX _ _ h51;have wl:=Nr g2 tf mf ba bf;have wt:=UC g2 ok5.len (show 1<=mf by lia) ba bf;refine⟨_,rfl,r1,_,0,_,rfl,rfl,Ad.of hX1,rfl,_,rfl,r1,_,1,_,rfl,rfl,Ad.of hX1,rfl,_,rfl,_,rfl,_,_,rfl,rfl,_,rfl,?_⟩;refine Ig (E:=E0) (m:=bf) g2 g9 m1 wl s256 wt (.inl hDX) λr' H' e' rv=>q sm ba left bf bx em m1 s256 r' H' ((e5.trans eX).trans e') ⟨rv,g2,g9,m1,m8,wl,s256,wt⟩
theorem Wm:AK ["_law_found"] ["_law_found"] (AH Uw):=CA (by decide +kernel)
theorem Wn(T:B8 K mg t) :Al P w K mg base 1 t.f_20 ["_law_found"] (Eg):=by
 refine Ak T.d_20 Wm (λ_ _ _ _ _ _=>b1 λ_=>rfl) λvs H Q E h=>?_;obtain⟨x,rfl,kd,q⟩:=h;refine⟨rfl,λbh A outer s hr=>?_⟩;refine⟨_,(AF (AL (EB (DV rfl T.z_isinstance (pv 0) (FU rfl T.z_int PyProof.Rows.boot_int)) (Do (O1 (DV rfl T.z_isinstance (pv 0) (FU rfl T.z_bool PyProof.Rows.boot_bool))))))),?_⟩;walk_at "";cases x with
 |int i =>
  refine⟨_,.of (.int i),_,Sl,?_⟩;rw[qF rfl];exact⟨_,.of (.int i),_,Sm,q⟩
 |bl b =>
  refine⟨_,.of (.bl b),_,Sn,?_⟩;rw[qF rfl];exact⟨_,.of (.bl b),_,So,q⟩
 |non =>
  refine⟨_,.of .non,_,Sq,?_⟩;rw[qE (by decide)];exact q
 |str y =>
  refine⟨_,.of (.str y),_,Sr,?_⟩;rw[qE (by decide)];exact q
 |ref a =>
  obtain⟨xs,z|z⟩:=kd
  ·refine⟨_,.of (.lst z),_,Ss,?_⟩;rw[qE (by decide)];exact q
  ·refine⟨_,.of (.tup z),_,Sv,?_⟩;rw[qE (by decide)];exact q
 |byt _=>exact kd.elim
 |flt _=>exact kd.elim
 |ty _=>exact kd.elim
theorem Xt:AK ["_law_script","_law_k"] ["_law_script","_law_k"] (AH Xh):=CA (by decide +kernel)
theorem Xu(T:B8 K mg t) :Al P w K mg base 1 t.f_4 ["_law_script","_law_k"] (MH K):=by
 refine Ak T.d_4 Xt (λ_ _ _ _ _ _=>b2 λ_ _=>rfl) λvs H Q E h=>?_;obtain⟨a,ns,k,rfl,hS,h63,q⟩:=h;refine⟨rfl,λbh A outer s hr=>?_⟩
 refine⟨_,(AC (Au (AM Ck (pv 1) (Aw (Lo K) rfl T.z_len Y7 (AA (pv 0) AD)) (AR _)) (AF (AL (AJ (CJ K) (pv 0) (pv 1) (λ_ _=>rfl)))) AV)
  (AF (AL AB))),?_⟩
 walk_at "";refine⟨_,.inl hS,?_⟩;rw[YG]
 by_cases h:(k:Int)<(ns.length:Int)
 ·rw[qF h];have hk:k<ns.length:=by lia
  refine⟨a,_,k,.int (ns.getD k 0),rfl,rfl,hS,Cp ?_,q⟩;rw[YO,YI hk,YH,YI hk];rfl
 ·rw[qE h];have e:ns.getD k 0=0:=by rw[YH,bE (by lia)];rfl
  rw[e]at q;exact q
theorem Ly:AK ["_law_cell","_law_many","_law_found","_law_number","_law_k"] ["_law_cell","_law_many"] (AH Ux):=CA (by decide +kernel)
theorem Wo(T:B8 K mg t) :Al P w K mg base 1 t.f_11 ["_law_cell","_law_many"] (Il):=by
 refine Ak T.d_11 Ly (λ_ _ _ _ _ _=>b2 λ_ _=>rfl) λvs H Q E h=>?_;obtain⟨c,m,rfl,m0,m3,q⟩:=h;refine⟨rfl,λbh A outer s hr=>?_⟩
 refine⟨_,(AC (AS 2 Ly (BB AD))
  (AC (AS 3 Ly (AG AY (AG Aa (pv 0) AB) AB))
  (AC (BD PassesOwn.never rfl (A4 rfl T.z_range (AA (pv 1) AD)) (BC 4 Ly) (AC (AS 3 Ly (AG Aa (AG AY (AG AY (AG A9 (pv 3) AB) (AG A9 (pv 4) (pv 4))) AB) AB))
  (AF (BM (Q6 K (pv 2) (AA (AG BF (pv 3) AB) AD))))))
  (AF (AL (pv 2)))))),?_⟩
 walk_at "";refine⟨ZT _,λp hp=>⟨by decide,?_⟩⟩;refine⟨_,rfl,m,rfl,by lia,by lia,?_⟩;refine BX (n:=m.toNat) (λi σ H1=>∃(x4:Option V),σ=[some (.int c),some (.int m),some (.ref p),some (.int (Ox c i)),x4]/\H1=Ac H p (.lst ((D7 c i).map V.int))) ⟨none,rfl,rfl⟩ ?_ ?_
 ·refine Ed ?_;rintro _ _ i _ hGo σ H1 hi ⟨x4,rfl,rfl⟩;refine hGo _ _ ?_;walk_at "";refine⟨.inr ⟨by decide,by decide⟩,.inl ⟨by lia,by lia⟩,by decide,.inl ⟨_,Ai.of AE⟩,by decide,by decide,_,AE,?_,?_,?_⟩
  ·rw[YG,Ec];exact Ae (by lia)
  ·rw[Yj];rfl
  ·rw[Ef,Yj];unfold D7;rw[BS,YV];rfl
 ·rintro σ H1 ⟨x4,rfl,rfl⟩;walk_at "";exact q p _ (AI.new hp _) hp AE
theorem N7:AK ["_law_signs","_law_many","_law_size","_law_k"] ["_law_signs","_law_many"] (AH Uy):=CA (by decide +kernel)
theorem Wp(T:B8 K mg t) :Al P w K mg base 1 t.f_17 ["_law_signs","_law_many"] (Cq):=by
 refine Ak T.d_17 N7 (λ_ _ _ _ _ _=>b2 λ_ _=>rfl) λvs H Q E h=>?_;obtain⟨g,m,rfl,g2,g9,m0,m3,q⟩:=h;refine⟨rfl,λbh A outer s hr=>?_⟩
 refine⟨_,(AC (AS 2 N7 AB)
  (AC (BD PassesOwn.never rfl (A4 rfl T.z_range (AA (pv 1) AD)) (BC 3 N7) (AF (AS 2 N7 (AG A9 (pv 2) (pv 0)))))
  (AF (AL (pv 2))))),?_⟩
 walk_at "";refine⟨_,rfl,m,rfl,by lia,by lia,?_⟩;refine BX (n:=m.toNat) (λi σ H1=>∃x,σ=[some (.int g),some (.int m),some (.int (g^i)),x]/\H1=H) ⟨none,by rw[Yq],rfl⟩ ?_ ?_
 ·refine Ed ?_;rintro _ _ i _ hGo σ H1 hi ⟨x,rfl,rfl⟩;refine hGo _ _ ?_;walk_at "";refine⟨.inr ⟨by lia,by lia⟩,?_⟩;rw[Ym];exact⟨rfl,_,rfl⟩
 ·rintro σ H1 ⟨x,rfl,rfl⟩;walk_at "";exact q
theorem Lz:AK ["_law_number","_law_signs","_law_many","_law_word_here","_law_k"] ["_law_number","_law_signs","_law_many"] (AH Uz):=CA (by decide +kernel)
theorem Wq(T:B8 K mg t) :Al P w K mg base 1 t.f_35 ["_law_number","_law_signs","_law_many"] (Eh):=by
 refine Ak T.d_35 Lz (λ_ _ _ _ _ _=>b3 λ_ _ _=>rfl) λvs H Q E h=>?_;obtain⟨n,g,m,rfl,g2,g9,m0,m3,q⟩:=h;refine⟨rfl,λbh A outer s hr=>?_⟩
 refine⟨_,(AC (AS 3 Lz (BB AD))
  (AC (BD PassesOwn.never rfl (A4 rfl T.z_range (AA (pv 2) AD)) (BC 4 Lz) (AC (AS 3 Lz (AG PJ (BB (AA (AG Aa (pv 0) (pv 1)) AD)) (pv 3)))
  (AF (AS 0 Lz (AG BF (pv 0) (pv 1))))))
  (AF (AL (pv 3))))),?_⟩
 walk_at "";refine⟨ZT _,λp hp=>?_⟩;refine⟨_,rfl,m,rfl,by lia,by lia,?_⟩;refine BX (n:=m.toNat) (λi σ H1=>∃p' x4,σ=[some (.int (dr g n i)),some (.int g),some (.int m),some (.ref p'),x4]/\K6 H H1 p' (Af g n i)) ⟨p,none,rfl,AI.new hp _,hp,AE⟩ ?_ ?_
 ·refine Ed ?_;rintro _ _ i _ hGo σ H1 hi ⟨p',x4,rfl,hN⟩;refine hGo _ _ ?_;walk_at "";refine⟨by lia,by decide,λp2 hp2=>?_⟩;have e2:=AI.new hp2 (.lst [V.int (dr g n i%g)]);refine NX AE (e2 _ _ hN.2.2) ?_ λp3 H3 e3 f3 h3=>?_
  ·rw[YG,A1];simp only[List.length_cons,List.length_nil];lia
  refine⟨by lia,by lia,rfl,p3,rfl,(hN.1.trans e2).trans e3,(hN.1.trans e2).free f3,?_⟩;rw[h3];unfold Af;rw[C7,List.reverse_append];rfl
 ·rintro σ H1 ⟨p',x4,rfl,hN⟩;walk_at "";exact q p' H1 hN
theorem Qt:AK ["_law_signs","_law_xs","_law_here","_law_there","_law_share"] ["_law_signs","_law_xs","_law_here","_law_there"] (AH U0):=CA (by decide +kernel)
theorem Wr(T:B8 K mg t) :Al P w K mg base 1 t.f_12 ["_law_signs","_law_xs","_law_here","_law_there"] (DU 1):=by
 refine Ak T.d_12 Qt (λ_ _ _ _ _ _=>b4 λ_ _ _ _=>rfl) λvs H Q E h=>?_;obtain⟨G,p,l,h,t,rfl,kg,xs,hh,ht,q⟩:=h;refine⟨rfl,λbh A outer s hr=>?_⟩
 refine⟨_,(AC (AS 4 Qt (AJ (CJ K) (BB (AU (AU AD))) (Bt E5 rfl T.z_int bI (AA (SY (Bs BG (pv 0) AB (AR _)) (Do (EB (Bs BG (pv 0) AB (AR _)) (Do (Bs BG (AG Aa (AJ (CJ K) (pv 1) AB (λ_ _=>rfl)) AB) AB (AR _)))))) AD)) (λ_ _=>rfl)))
  (AC (Au (PW.pt (E1 (AM BG (pv 0) AB (AR _)) (Dn (AM BG (AG Aa (AJ (CJ K) (pv 1) AB (λ_ _=>rfl)) AB) AB (AR _))))) (AF (AS 4 Qt AB)) AV)
  (AF (AL (AG AY (AG A9 (AG BF (pv 2) (pv 4)) (pv 4)) (AG Aa (pv 3) (pv 4))))))),?_⟩
 have e10:=xs.at (i:=10) (by decide);have hG:G=4\/G=6\/G=8\/G=9:=by unfold KG at kg;lia
 clear kg;have hp:D8 1 G l=if G=9\/(G=6/\xn l 10%2=1) then 3 else if G=8/\xn l 10%2=1 then 4 else 2:=rfl;have hf:∀s,Et 1 G s h t=h/s*s+t%s:=λs=>rfl
 rw[qE (by decide),hf,hp]at q;clear hf hp;obtain⟨x,hx⟩:∃x,x=xn l 10:=⟨_,rfl⟩;rw[<-hx]at q e10;refine CG (λσ HX=>∃s:Nat,σ=[some (.int (G:Int)),some (.ref p),some (.int (h:Int)),some (.int (t:Int)),some (.int (s:Int))]/\AI H HX/\s=if G=9\/(G=6/\x%2=1) then 3 else 2) (λN hN=>?_) ?_
 ·walk_at "";refine⟨by decide,λa ha=>?_⟩;have e1:=AI.new ha (.lst [V.int 2,V.int 3]);have h1:Ac H a (.lst [V.int 2,V.int 3]) a=some (.lst [V.int 2,V.int 3]):=AE;generalize Ac H a (.lst [V.int 2,V.int 3])=H1 at e1 h1⊢
  by_cases c:G=9
  ·rw[qF (by lia)];exact⟨_,.inr rfl,Ce (Ai.of h1) rfl (hN _ _ ⟨3,rfl,e1,(qF (.inl c)).symm⟩)⟩
  rw[qE (by lia)]
  by_cases c6:G=6
  ·rw[qF (by lia)];refine (Ce (Ai.of (e1 _ _ xs.1)) e10 ⟨_,rfl,by decide,_,.inr rfl,?_⟩)
   by_cases o:x%2=1
   ·rw[qF (by lia)];exact (Ce (Ai.of h1) rfl (hN _ _ ⟨3,rfl,e1,(qF (.inr ⟨c6,o⟩)).symm⟩))
   ·rw[qE (by lia)];exact (Ce (Ai.of h1) rfl (hN _ _ ⟨2,rfl,e1,(qE (by lia)).symm⟩))
  ·rw[qE (by lia)];exact⟨_,.inr rfl,Ce (Ai.of h1) rfl (hN _ _ ⟨2,rfl,e1,(qE (by lia)).symm⟩)⟩
 rintro _ hGo σ HX ⟨s,rfl,eX,hs⟩;refine hGo _ _ ?_;refine CG (λσ HY=>∃s:Nat,σ=[some (.int (G:Int)),some (.ref p),some (.int (h:Int)),some (.int (t:Int)),some (.int (s:Int))]/\AI H HY/\s=if G=9\/(G=6/\x%2=1) then 3 else if G=8/\x%2=1 then 4 else 2) (λN hN=>?_) ?_
 ·walk_at ""
  by_cases c:G=8
  ·rw[qF (by lia)];refine (Ce (Ai.of (eX _ _ xs.1)) e10 ⟨_,rfl,by decide,?_⟩)
   by_cases o:x%2=1
   ·rw[qF (by lia)];exact hN _ _ ⟨4,rfl,eX,by rw[qE (by lia),qF ⟨c,o⟩]⟩
   ·rw[qE (by lia)];exact hN _ _ ⟨s,rfl,eX,by rw[hs,qE (by lia),qE (by lia),qE (by lia)]⟩
  ·rw[qE (by lia)];refine hN _ _ ⟨s,rfl,eX,?_⟩;rw[hs];split
   ·rfl
   ·rw[qE (by lia)]
 rintro _ hGo σ HY ⟨s,rfl,eY,hs⟩;refine hGo _ _ ?_;rw[<-hs]at q;have s4:s=2\/s=3\/s=4:=by rw[hs];split;exact .inr (.inl rfl);split;exact .inr (.inr rfl);exact .inl rfl
 walk_at "";refine⟨by lia,by lia,.inr ⟨by lia,by lia⟩,by lia,?_⟩;rw[show (h:Int)/(s:Int)*(s:Int)+(t:Int)%(s:Int)=((h/s*s+t%s:Nat):Int) by rw[ZF,ZE,Zq,Yk]];exact q _ eY
theorem Ws:AK ["_law_signs","_law_xs","_law_here","_law_there"] ["_law_signs","_law_xs","_law_here","_law_there"] (AH U1):=CA (by decide +kernel)
theorem Wt(T:B8 K mg t) :Al P w K mg base 1 t.f_16 ["_law_signs","_law_xs","_law_here","_law_there"] (DU 2):=by
 refine Ak T.d_16 Ws (λ_ _ _ _ _ _=>b4 λ_ _ _ _=>rfl) λvs H Q E h=>?_;obtain⟨G,p,l,h,t,rfl,kg,xs,hh,ht,q⟩:=h;refine⟨rfl,λbh A outer s hr=>?_⟩
 refine⟨_,(AC (Au (PW.pt (CB (AM BG (pv 2) (AG An (pv 0) AB) (AR _)) (CH (AM ED (pv 3) (AG An (pv 0) AB) (AR _))))) (AF (AL (pv 2))) AV)
  (AF (AL (AG Aa (AG AY (AG AY (pv 2) AB) (AG Aa (AJ (CJ K) (pv 1) AB (λ_ _=>rfl)) (AG An (pv 0) AB))) (AG An (pv 0) AB))))),?_⟩
 have e10:=xs.at (i:=10) (by decide);have hG:3<=G/\G<=7:=by unfold KG at kg;lia
 have hf:Et 2 G (D8 2 G l) h t=if h=G-1\/t≠G-1 then h else (h+(1+xn l 10%(G-2)))%(G-1):=rfl;rw[qE (by decide),hf]at q;clear hf kg;have q:=q H (AI.refl _);walk_at ""
 by_cases c:h=G-1
 ·rw[qF (by lia)];rw[qF (.inl c)]at q;exact q
 rw[qE (by lia)]
 by_cases c2:t=G-1
 ·rw[qE (by lia)];rw[qE (by lia)]at q;refine (Ce (Ai.of xs.1) e10 ⟨_,rfl,by lia,by lia,?_⟩);rw[show ((h:Int)+1+((xn l 10:Nat):Int)%((G:Int)-2))%((G:Int)-1)=(((h+(1+xn l 10%(G-2)))%(G-1):Nat):Int) by rw[Yk,ZF,ZF,Yk,bS (by lia),bS (by lia),bP];rfl];exact q
 ·rw[qF (by lia)];rw[qF (.inr c2)]at q;exact q
theorem Qu:AK ["_law_signs","_law_xs","_law_here","_law_there","_law_unit","_law_part"] ["_law_signs","_law_xs","_law_here","_law_there"] (AH U2):=CA (by decide +kernel)
theorem Wu(T:B8 K mg t) :Al P w K mg base 1 t.f_32 ["_law_signs","_law_xs","_law_here","_law_there"] (DU 4):=by
 refine Ak T.d_32 Qu (λ_ _ _ _ _ _=>b4 λ_ _ _ _=>rfl) λvs H Q E h=>?_;obtain⟨G,p,l,h,t,rfl,kg,xs,hh,ht,q⟩:=h;refine⟨rfl,λbh A outer s hr=>?_⟩
 refine⟨_,(AC (Au (AM BG (pv 0) AB (AR _)) (AC (AS 4 Qu (AG AY (AG AY AB (AG Aa (AJ (CJ K) (pv 1) AB (λ_ _=>rfl)) AB)) (AG A9 (AG Aa (AJ (CJ K) (pv 1) AB (λ_ _=>rfl)) AB) AB)))
  (AF (AL (AG Aa (AG AY (AG AY (AG A9 (pv 4) (pv 2)) (AG A9 (AG A9 (AG Aa (AJ (CJ K) (pv 1) AB (λ_ _=>rfl)) AB) AB) (pv 3))) (AJ (CJ K) (pv 1) AB (λ_ _=>rfl))) AB)))) AV)
  (AC (AS 5 Qu (AG A9 (AG Aa (AJ (CJ K) (pv 1) AB (λ_ _=>rfl)) (AG BF (pv 0) AB)) AB))
  (AF (AL (AG Aa (AG AY (AG AY (AG A9 (AG AY AB (AG A9 (AG Aa (AJ (CJ K) (pv 1) AB (λ_ _=>rfl)) AB) AB)) (pv 2)) (AG A9 (pv 5) (pv 3))) (AJ (CJ K) (pv 1) AB (λ_ _=>rfl))) (pv 0)))))),?_⟩
 have e10:=xs.at (i:=10) (by decide);have e11:=xs.at (i:=11) (by decide);have e12:=xs.at (i:=12) (by decide);have e13:=xs.at (i:=13) (by decide);have hG:G=4\/G=8\/G=9:=by unfold KG at kg;lia
 have hf:∀s,Et 4 G s h t=(s/16*h+s%16*t)%G:=λs=>rfl
 rw[qF rfl,hf,Nat.mod_add_mod]at q;clear hf kg;have q:=q H (AI.refl _);walk_at ""
 by_cases c:G=9
 ·rw[qF (by lia)];refine (Ce (Ai.of xs.1) e10 ⟨_,rfl,by decide,Ce (Ai.of xs.1) e11 ⟨_,rfl,by decide,.inr ⟨by decide,by decide⟩,.inr ⟨by lia,by lia⟩,Ce (Ai.of xs.1) e12 ⟨_,rfl,by decide,.inr ⟨by decide,by decide⟩,.inr ⟨by lia,by lia⟩,Ce (Ai.of xs.1) e13 ⟨_,rfl,by decide,?_⟩⟩⟩⟩);have hp:D8 4 G l=(1+xn l 10%2+xn l 11%3*3)*16+xn l 12%3*3:=by rw[c];rfl
  rw[hp,show ((1+xn l 10%2+xn l 11%3*3)*16+xn l 12%3*3)/16=1+xn l 10%2+xn l 11%3*3 by lia,show ((1+xn l 10%2+xn l 11%3*3)*16+xn l 12%3*3)%16=xn l 12%3*3 by lia,c]at q;simp only[Int.natCast_emod,Int.natCast_add,Int.natCast_mul]at q;exact q
 ·rw[qE (by lia)];have g2:(G:Int)/2=((G/2:Nat):Int):=by lia
  refine (Ce (Ai.of xs.1) e12 ⟨by decide,by decide,_,rfl,by lia,.inr ⟨by decide,by decide⟩,Ce (Ai.of xs.1) e10 ⟨_,rfl,by decide,.inr ⟨by decide,by decide⟩,.inr ⟨by lia,by lia⟩,.inr ⟨by lia,by lia⟩,Ce (Ai.of xs.1) e13 ⟨_,rfl,by lia,?_⟩⟩⟩)
  have hp:D8 4 G l=(1+xn l 10%4*2)%G*16+xn l 12%(G/2)*2:=by show (if G=9 then _ else (1+xn l 10%4*2)%G*16+xn l 12%(G/2)*2)=_;rw[qE c]
  have pl:xn l 12%(G/2)<4:=YS (Yz _ (by lia)) (by lia);rw[hp,show ((1+xn l 10%4*2)%G*16+xn l 12%(G/2)*2)/16=(1+xn l 10%4*2)%G by lia,show ((1+xn l 10%4*2)%G*16+xn l 12%(G/2)*2)%16=xn l 12%(G/2)*2 by lia]at q
  have e:((1+xn l 10%4*2)%G*h+xn l 12%(G/2)*2*t+xn l 13)%G=((1+xn l 10%4*2)*h+xn l 12%(G/2)*2*t+xn l 13)%G:=by rw[Z7,bR,Nat.mod_mul_mod,<-bR,Z7]
  rw[e]at q;simp only[Int.natCast_emod,Int.natCast_add,Int.natCast_mul]at q;rw[g2];exact q
theorem Wv:AK ["_law_here","_law_there"] ["_law_here","_law_there"] (AH U3):=CA (by decide +kernel)
theorem Ww(T:B8 K mg t) :Al P w K mg base 1 t.f_18 ["_law_here","_law_there"] (GN):=by
 refine Ak T.d_18 Wv (λ_ _ _ _ _ _=>b2 λ_ _=>rfl) λvs H Q E h=>?_;obtain⟨h,t,rfl,q⟩:=h;refine⟨rfl,λbh A outer s hr=>?_⟩;refine⟨_,(AF (AL (AG AY (AG AY (AG A9 (AG Aa (AG AY (AG BF (pv 0) AB) (AG BF (pv 1) AB)) AB) AB) (AG A9 (AG Aa (AG AY (AG BF (pv 0) AB) (pv 1)) AB) AB)) (AG Aa (pv 0) AB)))),?_⟩;walk_at "";refine⟨by decide,by decide,by decide,by decide,by decide,.inr ⟨by decide,by decide⟩,by decide,by decide,by decide,.inr ⟨by decide,by decide⟩,by decide,?_⟩
 rw[show ((h:Int)/4+(t:Int)/2)%2*4+((h:Int)/2+(t:Int))%2*2+(h:Int)%2=((Et 5 8 0 h t:Nat):Int) by show _=(((h/4+t/2)%2*4+(h/2+t)%2*2+h%2:Nat):Int);lia]
 exact q
theorem Xv:AK ["_law_signs","_law_here","_law_there"] ["_law_signs","_law_here","_law_there"] (AH Xi):=CA (by decide +kernel)
theorem Xw(T:B8 K mg t) :Al P w K mg base 1 t.f_0 ["_law_signs","_law_here","_law_there"] (Im):=by
 refine Ak T.d_0 Xv (λ_ _ _ _ _ _=>b3 λ_ _ _=>rfl) λvs H Q E h=>?_;obtain⟨G,h,t,rfl,g5,g7,hh,ht,q⟩:=h;refine⟨rfl,λbh A outer s hr=>?_⟩
 refine⟨_,(AC (Au (AM Ck (pv 1) AB (AR _)) (AF (AL (AG Aa (AG AY (pv 1) (Bt E5 rfl T.z_int bI (AA (Bs BG (pv 2) AB (AR _)) AD))) AB))) AV)
  (AC (Au (PW.pt (E1 (AM Ck (pv 1) (AG An (pv 0) AB) (AR _)) (Dn (AM BG (pv 2) (AG An (pv 0) AB) (AR _))))) (AF (AL (AG AY AB (AG Aa (AG An (pv 1) AB) (AG An (pv 0) AB))))) AV)
  (AF (AL (pv 1))))),?_⟩
 walk_at "";have e:Et 6 G 0 h t=if h<2 then (h+if t=3 then 1 else 0)%2 else if h<G-1/\t=G-1 then 2+(h-1)%(G-3) else h:=rfl;rw[e]at q
 by_cases c:h<2
 ·rw[qF (by lia)];rw[qF c]at q;refine⟨_,.inr rfl,by decide,?_⟩;rw[show ((h:Int)+if (t:Int)=3 then 1 else 0)%2=(((h+if t=3 then 1 else 0)%2:Nat):Int) by split<;>split<;>lia];exact q
 rw[qE (by lia)];rw[qE c]at q
 by_cases c2:h<G-1
 ·rw[qF (by lia)]
  by_cases c3:t=G-1
  ·rw[qF (by lia)];rw[qF ⟨c2,c3⟩]at q;refine⟨by lia,?_⟩;have em:((h:Int)-1)%((G:Int)-3)=(((h-1)%(G-3):Nat):Int):=by rw[Yk,bS (by lia),bS (by lia)];rfl
   rw[em,show (2:Int)+(((h-1)%(G-3):Nat):Int)=((2+(h-1)%(G-3):Nat):Int) by lia];exact q
  ·rw[qE (by lia)];rw[qE (λz=>c3 z.2)]at q;exact q
 ·rw[qE (by lia)];rw[qE (λz=>c2 z.1)]at q;exact q
theorem N8:AK ["_law_xs","_law_word_here","_law_at","_law_others","_law_due"] ["_law_xs","_law_word_here"] (AH U4):=CA (by decide +kernel)
theorem Wx(T:B8 K mg t) :Al P w K mg base 1 t.f_30 ["_law_xs","_law_word_here"] (Io):=by
 refine Ak T.d_30 N8 (λ_ _ _ _ _ _=>b2 λ_ _=>rfl) λvs H Q E h=>?_;obtain⟨p,a,l,n,rfl,xs,ha,q⟩:=h;refine⟨rfl,λbh A outer s hr=>?_⟩
 refine⟨_,(AC (AS 2 N8 (AG AY AB (AG Aa (AJ (CJ K) (pv 0) AB (λ_ _=>rfl)) AB)))
  (AC (AS 3 N8 (AG PJ (FQ Go (pv 1) Jy (FP (pv 2))) (FQ Go (pv 1) (FP (AG AY (pv 2) AB)) Jy)))
  (AC (AS 4 N8 (AJ (CJ K) (BB (AA (BB (AU (AU (AU AD)))) (AA (BB (AU (AU (AU AD)))) AD))) (AG Aa (AJ (CJ K) (pv 0) AB (λ_ _=>rfl)) AB) (λ_ _=>rfl)))
  (AF (AL (AG Aa (AG AY (AJ (CJ K) (pv 1) (pv 2) (λ_ _=>rfl)) (Bt E5 rfl T.z_int bI (AA (Bs (Tv hr.units) (pv 3) (pv 4) (AR _)) AD))) AB)))))),?_⟩
 have e10:=xs.at (i:=10) (by decide);have e11:=xs.at (i:=11) (by decide);obtain⟨x,hx⟩:∃x,x=xn l 10:=⟨_,rfl⟩;obtain⟨y,hy⟩:∃y,y=xn l 11:=⟨_,rfl⟩;have hf:Ci 3 2 (D8 3 2 l) 0 n=Ci 3 2 (x%2+2*(y%2)) 0 n:=by rw[hx,hy];rfl
 rw[hf]at q;rw[<-hx]at e10;rw[<-hy]at e11;clear hf hx hy
 have hw:Af 2 (n:Int) 4=[((n/8%2:Nat):Int),((n/4%2:Nat):Int),((n/2%2:Nat):Int),((n%2:Nat):Int)]:=by show[(n:Int)/2/2/2%2,(n:Int)/2/2%2,(n:Int)/2%2,(n:Int)%2]=_;rw[show (n:Int)/2/2/2%2=((n/8%2:Nat):Int) by lia,show (n:Int)/2/2%2=((n/4%2:Nat):Int) by lia,show (n:Int)/2%2=((n/2%2:Nat):Int) by lia,show (n:Int)%2=((n%2:Nat):Int) by lia]
 rw[hw]at ha;clear hw;refine As λN hN=>?_;walk_at "";refine (Ce (Ai.of xs.1) e10 ⟨_,rfl,by decide,hN _ _ ?_⟩);clear hN N;rw[show (1:Int)+((x:Nat):Int)%2=((1+x%2:Nat):Int) by lia];obtain⟨ws,hws⟩:∃ws:List Int,ws=[((n/8%2:Nat):Int),((n/4%2:Nat):Int),((n/2%2:Nat):Int),((n%2:Nat):Int)]:=⟨_,rfl⟩;rw[<-hws]at ha;have wl:ws.length=4:=by rw[hws];rfl
 refine As λN hN=>?_;walk_at "";refine KD (Ai.of ha) λp1 H1 e1 _ h1=>?_;refine KD (Ai.of (e1 _ _ ha)) λp2 H2 e2 _ h2=>?_;rw[NY,<-List.map_take]at h1;rw[show ((1+x%2:Nat):Int)+1=((2+x%2:Nat):Int) by lia,OS,<-List.map_drop]at h2;refine NX (e2 _ _ h1) h2 (by rw[YG,YG,Ys,Yi];lia) λp3 H3 e3 _ h3=>hN _ _ ?_
 clear hN N;rw[<-YV]at h3;have eH:=(e1.trans e2).trans e3;refine E3 (λHX=>AI H HX/\HX p3=some (.lst ((ws.take (1+x%2)++ws.drop (2+x%2)).map V.int))) ⟨eH,h3⟩ ?_;clear eH h3 e3 h2 e2 h1 e1;rintro H4 ⟨e4,h4⟩;refine As λN hN=>?_;walk_at "";refine⟨by decide,λd1 hd1=>⟨by decide,λd2 hd2=>⟨by decide,λd3 hd3=>?_⟩⟩⟩;have f1:=AI.new hd1 (.lst [V.int 0,V.int 1,V.int 0]);have f2:=AI.new hd2 (.lst [V.int 1,V.int 0,V.int 1]);have f3:=AI.new hd3 (.lst [V.ref d1,V.ref d2]);have k1:=f3 _ _ (f2 _ _ (show Ac H4 d1 (.lst [V.int 0,V.int 1,V.int 0]) d1=some (.lst [V.int 0,V.int 1,V.int 0]) from AE));have k2:=f3 _ _ (show Ac (Ac H4 d1 (.lst [V.int 0,V.int 1,V.int 0])) d2 (.lst [V.int 1,V.int 0,V.int 1]) d2=some (.lst [V.int 1,V.int 0,V.int 1]) from AE);have k3:Ac (Ac (Ac H4 d1 (.lst [V.int 0,V.int 1,V.int 0])) d2 (.lst [V.int 1,V.int 0,V.int 1])) d3 (.lst [V.ref d1,V.ref d2]) d3=some (.lst [V.ref d1,V.ref d2]):=AE;have f:=(f1.trans f2).trans f3;generalize Ac (Ac (Ac H4 d1 (.lst [V.int 0,V.int 1,V.int 0])) d2 (.lst [V.int 1,V.int 0,V.int 1])) d3 (.lst [V.ref d1,V.ref d2])=H5 at k1 k2 k3 f⊢;have e5:=e4.trans f;have h5:=f _ _ h4;have ha5:=e5 _ _ ha;clear f f1 f2 f3;refine (Ce (Ai.of (e5 _ _ xs.1)) e11 ⟨_,rfl,by decide,?_⟩);have y2:y%2=0\/y%2=1:=by lia
 obtain⟨du,hdu,kdu⟩:∃du,Kj [V.ref d1,V.ref d2] (((y:Nat):Int)%2)=some (.ref du)/\H5 du=some (.lst (([((y%2:Nat):Int),((1-y%2:Nat):Int),((y%2:Nat):Int)]:List Int).map V.int)):=by
  rcases y2 with c|c
  ·exact⟨d1,by rw[show ((y:Nat):Int)%2=0 by lia];rfl,by rw[c];exact k1⟩
  ·exact⟨d2,by rw[show ((y:Nat):Int)%2=1 by lia];rfl,by rw[c];exact k2⟩
 refine (Ce (Ai.of k3) hdu (hN _ _ ?_));clear hN N hdu k1 k2 k3;walk_at "";have x2:x%2=0\/x%2=1:=by lia
 refine (Ce (Ai.of ha5) (CZ (by lia)) ⟨_,Ai.of h5,_,Ai.of kdu,_,.inr rfl,_,rfl,by decide,?_⟩);have q:=q H5 e5;clear h5 kdu ha5 e5 h4 e4
 have fin:∀(A B C D y:Nat),y=0\/y=1->A<2->B<2->C<2->((D:Int)+if [(A:Int),(B:Int),(C:Int)]=[(y:Int),((1-y:Nat):Int),(y:Int)] then 1 else 0)%2=(((D+if A=y/\B=1-y/\C=y then 1 else 0)%2:Nat):Int):=λA B C D y hy _ _ _=>by
  by_cases c:A=y/\B=1-y/\C=y
  ·rw[qF c,qF (by rw[c.1,c.2.1,c.2.2])];lia
  ·rw[qE c,qE (λz=>c (by
    injection z with z1 z2
    injection z2 with z2 z3
    injection z3 with z3 z4
    exact⟨by lia,by lia,by lia⟩))];lia
 rcases x2 with c|c
 ·rw[c,hws];show Q (.int ((((n/4%2:Nat):Int)+if [((n/8%2:Nat):Int),((n/2%2:Nat):Int),((n%2:Nat):Int)]=[((y%2:Nat):Int),((1-y%2:Nat):Int),((y%2:Nat):Int)] then 1 else 0)%2)) H5;rw[fin _ _ _ _ _ y2 (by lia) (by lia) (by lia)];have e:Ci 3 2 (x%2+2*(y%2)) 0 n=(n/4%2+if n/8%2=y%2/\n/2%2=1-y%2/\n%2=y%2 then 1 else 0)%2:=by unfold Ci;rw[qF rfl,c,qF (by lia),show (0+2*(y%2))/2=y%2 by lia]
  rw[e]at q;exact q
 ·rw[c,hws];show Q (.int ((((n/2%2:Nat):Int)+if [((n/8%2:Nat):Int),((n/4%2:Nat):Int),((n%2:Nat):Int)]=[((y%2:Nat):Int),((1-y%2:Nat):Int),((y%2:Nat):Int)] then 1 else 0)%2)) H5;rw[fin _ _ _ _ _ y2 (by lia) (by lia) (by lia)];have e:Ci 3 2 (x%2+2*(y%2)) 0 n=(n/2%2+if n/8%2=y%2/\n/4%2=1-y%2/\n%2=y%2 then 1 else 0)%2:=by unfold Ci;rw[qF rfl,c,qE (by lia),show (1+2*(y%2))/2=y%2 by lia]
  rw[e]at q;exact q
theorem L0:AK ["_law_kind","_law_signs","_law_xs","_law_word_here","_law_here","_law_there"] ["_law_kind","_law_signs","_law_xs","_law_word_here"] (AH U5):=CA (by decide +kernel)
theorem Wy(T:B8 K mg t)(G_30:Al P w K mg base 1 t.f_30 ["_law_xs","_law_word_here"] (Io))(G_12:Al P w K mg base 1 t.f_12 ["_law_signs","_law_xs","_law_here","_law_there"] (DU 1))(G_16:Al P w K mg base 1 t.f_16 ["_law_signs","_law_xs","_law_here","_law_there"] (DU 2))(G_32:Al P w K mg base 1 t.f_32 ["_law_signs","_law_xs","_law_here","_law_there"] (DU 4))(G_18:Al P w K mg base 1 t.f_18 ["_law_here","_law_there"] (GN))(G_0:Al P w K mg base 1 t.f_0 ["_law_signs","_law_here","_law_there"] (Im)):Al P w K mg base 2 t.f_33 ["_law_kind","_law_signs","_law_xs","_law_word_here"] (Iq):=by
 refine Ak T.d_33 L0 (λ_ _ _ _ _ _=>b4 λ_ _ _ _=>rfl) λvs H Q E h=>?_;obtain⟨k,G,p,a,l,n,rfl,kg,xs,ha,hn,q⟩:=h;refine⟨rfl,λbh A outer s hr=>?_⟩
 refine⟨_,(AC (Au (AM BG (pv 0) AB (AR _)) (AF (AL (AQ hr G_30 T.m_30 (AA (pv 2) (AA (pv 3) AD))))) AV)
  (AC (AS 4 L0 (AJ (CJ K) (pv 3) AB (λ_ _=>rfl)))
  (AC (AS 5 L0 (AJ (CJ K) (pv 3) (JM Fx AB) (λ_ _=>rfl)))
  (AC (Au (AM BG (AG Aa (AJ (CJ K) (pv 2) AB (λ_ _=>rfl)) AB) AB (AR _)) (AC (AS 4 L0 (AJ (CJ K) (pv 3) (JM Fx AB) (λ_ _=>rfl)))
  (AF (AS 5 L0 (AJ (CJ K) (pv 3) AB (λ_ _=>rfl))))) AV)
  (AC (Au (AM BG (pv 0) AB (AR _)) (AF (AL (AQ hr G_12 T.m_12 (AA (pv 1) (AA (pv 2) (AA (pv 4) (AA (pv 5) AD))))))) AV)
  (AC (Au (AM BG (pv 0) AB (AR _)) (AF (AL (AQ hr G_16 T.m_16 (AA (pv 1) (AA (pv 2) (AA (pv 4) (AA (pv 5) AD))))))) AV)
  (AC (Au (AM BG (pv 0) AB (AR _)) (AF (AL (AQ hr G_32 T.m_32 (AA (pv 1) (AA (pv 2) (AA (pv 4) (AA (pv 5) AD))))))) AV)
  (AC (Au (AM BG (pv 0) AB (AR _)) (AF (AL (AQ hr G_18 T.m_18 (AA (pv 4) (AA (pv 5) AD))))) AV)
  (AC (Au (AM BG (pv 0) AB (AR _)) (AF (AL (AQ hr G_0 T.m_0 (AA (pv 1) (AA (pv 4) (AA (pv 5) AD)))))) AV)
  (AF (AL (pv 4)))))))))))),?_⟩
 have e14:=xs.at (i:=14) (by decide);have G2:2<=G:=by unfold KG at kg;lia
 have wl:=A1 (G:Int) (n:Int) (mK k);refine CG (λσ HX=>σ=[some (.int (k:Int)),some (.int (G:Int)),some (.ref p),some (.ref a),none,none]/\HX=H/\k≠3) (λN hN=>?_) ?_
 ·walk_at ""
  by_cases c:k=3
  ·rw[qF (by lia)];have g:G=2:=by unfold KG at kg;lia
   subst c g;exact⟨p,a,l,n,rfl,xs,ha,λH' e=>q H' e⟩
  ·rw[qE (by lia)];exact hN _ _ ⟨rfl,rfl,c⟩
 rintro _ hGo σ HX ⟨rfl,hHX,k3⟩;refine hGo _ _ ?_;rw[hHX];clear hHX HX
 obtain⟨w0,w1,hw0,hw1,b0,b1,hk0,hk⟩:∃w0 w1:Nat,Kj ((Af (G:Int) (n:Int) (mK k)).map V.int) 0=some (.int (w0:Int))/\Kj ((Af (G:Int) (n:Int) (mK k)).map V.int) (-1)=some (.int (w1:Int))/\w0<G/\w1<G/\(k=0->w0=n/\w1=n)/\(k≠0->w0=n/G/\w1=n%G):=by
  by_cases c:k=0
  ·subst c;have z:n<G:=by have:=hn;rw[show mK 0=1 from rfl,Nat.pow_one]at this;exact this
   refine⟨n,n,?_,?_,z,z,λ_=>⟨rfl,rfl⟩,λz=>qG rfl z⟩
   ·show some (V.int ((n:Int)%(G:Int)))=_;rw[Yr (by lia) (by lia)]
   ·show some (V.int ((n:Int)%(G:Int)))=_;rw[Yr (by lia) (by lia)]
  ·have m2:mK k=2:=by unfold mK;rw[qE c,qE k3]
   rw[m2]at hn⊢;rw[Nat.pow_two]at hn;have d:n/G<G:=ZN hn;refine⟨n/G,n%G,?_,?_,d,Yz _ (by lia),λz=>qG z c,λ_=>⟨rfl,rfl⟩⟩
   ·show some (V.int ((n:Int)/(G:Int)%(G:Int)))=_;rw[<-Zq,<-Yk,Za d]
   ·show some (V.int ((n:Int)%(G:Int)))=_;rw[<-Yk]
 refine As λN hN=>?_;walk_at "";refine (Ce (Ai.of ha) hw0 (hN _ _ ?_));clear hN N;refine As λN hN=>?_;walk_at "";refine (Ce (Ai.of ha) hw1 (hN _ _ ?_));clear hN N;refine CG (λσ HX=>∃h t:Nat,σ=[some (.int (k:Int)),some (.int (G:Int)),some (.ref p),some (.ref a),some (.int (h:Int)),some (.int (t:Int))]/\HX=H/\h<G/\t<G/\(k=0->h=n)/\(k≠0->∀s,Ci k G s (JJ k l) n=Et k G s h t)) (λN hN=>?_) ?_
 ·have fa:∀s d,Ci k G s d n=if d=0 then Et k G s (n/G) (n%G) else Et k G s (n%G) (n/G):=λs d=>by unfold Ci;rw[qE k3]
  have dk:JJ k l=xn l 14%2:=by unfold JJ;rw[qE k3]
  walk_at "";refine (Ce (Ai.of xs.1) e14 ⟨_,rfl,by decide,?_⟩)
  by_cases c:xn l 14%2=1
  ·rw[qF (by lia)];refine (Ce (Ai.of ha) hw1 (Ce (Ai.of ha) hw0 (hN _ _ ⟨w1,w0,rfl,rfl,b1,b0,λz=>(hk0 z).2,λz s=>?_⟩)));rw[fa,dk,qE (by lia),(hk z).1,(hk z).2]
  ·rw[qE (by lia)];refine hN _ _ ⟨w0,w1,rfl,rfl,b0,b1,λz=>(hk0 z).1,λz s=>?_⟩;rw[fa,dk,qF (by lia),(hk z).1,(hk z).2]
 rintro _ hGo σ HX ⟨h,t,rfl,hHX,hh,ht,z0,zk⟩;refine hGo _ _ ?_;rw[hHX];clear hHX HX;clear hw0 hw1 b0 b1 hk0 hk wl
 have tv:∀j,k=j->j≠0->j≠3->j≠4->DG k G l n=Et j G (D8 j G l) h t:=λj e j0 _ j4=>by subst e;unfold DG;rw[qE j0,qE j4,zk j0]
 have two:∀j,k=j->(j=1\/j=2\/j=4)->DU j [.int (G:Int),.ref p,.int (h:Int),.int (t:Int)] H Q E0:=λj e hj=>by
  subst e;refine⟨G,p,l,h,t,rfl,kg,xs,hh,ht,λH' e=>?_⟩;have q:=q H' e
  by_cases c:k=4
  ·rw[qF c];unfold DG at q;rw[qE (by lia),qF c]at q;have z:=zk (by lia);rw[c]at z;rw[z]at q;exact q
  ·rw[qE c];rw[tv k rfl (by lia) (by lia) c]at q;exact q
 refine As λN hN=>?_;walk_at ""
 by_cases c1:k=1
 ·rw[qF (by lia)];exact two 1 c1 (.inl rfl)
 rw[qE (by lia)];refine hN _ _ ?_;clear hN N;refine As λN hN=>?_;walk_at ""
 by_cases c2:k=2
 ·rw[qF (by lia)];exact two 2 c2 (.inr (.inl rfl))
 rw[qE (by lia)];refine hN _ _ ?_;clear hN N;refine As λN hN=>?_;walk_at ""
 by_cases c4:k=4
 ·rw[qF (by lia)];exact two 4 c4 (.inr (.inr rfl))
 rw[qE (by lia)];refine hN _ _ ?_;clear hN N two;refine As λN hN=>?_;walk_at ""
 by_cases c5:k=5
 ·rw[qF (by lia)];have g:G=8:=by unfold KG at kg;lia
  have q:=q H (AI.refl _);rw[tv 5 c5 (by decide) (by decide) (by decide),g]at q;exact⟨h,t,rfl,q⟩
 rw[qE (by lia)];refine hN _ _ ?_;clear hN N;walk_at ""
 by_cases c6:k=6
 ·rw[qF (by lia)];have q:=q H (AI.refl _);rw[tv 6 c6 (by decide) (by decide) (by decide)]at q;exact⟨G,h,t,rfl,by unfold KG at kg;lia,by unfold KG at kg;lia,hh,ht,q⟩
 rw[qE (by lia)];have k0:k=0:=by unfold KG at kg;lia
 have q:=q H (AI.refl _);rw[show DG k G l n=n by unfold DG;rw[qF k0],<-z0 k0]at q;exact q
theorem D1:AK ["_law_first","_law_second","_law_low_here","_law_kind","_law_part","_law_signs","_law_many","_law_xs","_law_names","_law_words","_law_table"] ["_law_first","_law_second","_law_low_here"] (AH U6):=CA (by decide +kernel)
theorem Wz(T:B8 K mg t)(hB:IX mg base)(G_11:Al P w K mg base 1 t.f_11 ["_law_cell","_law_many"] (Il))(G_35:Al P w K mg base 1 t.f_35 ["_law_number","_law_signs","_law_many"] (Eh))(G_33:Al P w K mg base 2 t.f_33 ["_law_kind","_law_signs","_law_xs","_law_word_here"] (Iq))(G_17:Al P w K mg base 1 t.f_17 ["_law_signs","_law_many"] (Cq)):Al P w K mg base 4 t.f_29 ["_law_first","_law_second","_law_low_here"] (Ir LP t.p_29):=by
 refine Vw T.d_29 D1 (λ_ _ _ _ _ _=>b3 λ_ _ _=>rfl) λvs H Q E h=>?_;obtain⟨c1,c2,lo,rfl,tb,q⟩:=h;refine⟨rfl,λA outer s hr=>?_⟩;refine TC ?_
 refine⟨_,(Bg (CV (i:=3) D1.nd rfl (Or.inr rfl) (IA (CJ K) (Fe (AO (AO (AO (AO (AO (AO (AO (AO (AO (AO (AO (AO (AO (AO Fd))))))))))))))) (.of (AG Aa (pv 0) AB)) (λ_ _=>rfl)) rfl (by first|exact .inl rfl|exact .inr rfl))
  (Bg (CV (i:=4) D1.nd rfl (Or.inl rfl) (.of (AG BF (pv 0) AB)) rfl (by first|exact .inl rfl|exact .inr rfl))
  (Bg (CV (i:=5) D1.nd rfl (Or.inr rfl) (.of (AG AY AB (AG Aa (pv 4) AB))) rfl (by first|exact .inl rfl|exact .inr rfl))
  (Bg (KL (AM BG (pv 3) AB (AR _)) (Ei (CV (i:=5) D1.nd rfl (Or.inr rfl) (IA (CJ K) (Fe (AO (AO (AO (AO (AO (AO (AO (AO Fd))))))))) (.of (AG Aa (pv 4) AB)) (λ_ _=>rfl)) rfl (by first|exact .inl rfl|exact .inr rfl))) Gw)
  (Bg (KL (AM BG (pv 3) AB (AR _)) (Ei (CV (i:=5) D1.nd rfl (Or.inr rfl) (IA (CJ K) (Fe (AO (AO (AO (AO (AO (AO (AO (AO Fd))))))))) (.of (AG Aa (pv 4) AB)) (λ_ _=>rfl)) rfl (by first|exact .inl rfl|exact .inr rfl))) Gw)
  (Bg (KL (AM EE (pv 3) AB (AR _)) (Ei (CV (i:=5) D1.nd rfl (Or.inr rfl) (.of (AJ (CJ K) (BB (AU (AA (AJ (CJ K) (BB (AU (AU (AU (AU AD))))) (AG Aa (pv 4) AB) (λ_ _=>rfl)) (AU (AA (AJ (CJ K) (BB (AU (AU (AU (AU AD))))) (AG Aa (pv 4) AB) (λ_ _=>rfl)) AD))))) (AG An (pv 3) AB) (λ_ _=>rfl))) rfl (by first|exact .inl rfl|exact .inr rfl))) Gw)
  (Bg (CV (i:=6) D1.nd rfl (Or.inr rfl) (IA (CJ K) (Fe (AO (AO (AO (AO (AO (AO (AO Fd)))))))) (.of (pv 3)) (λ_ _=>rfl)) rfl (by first|exact .inl rfl|exact .inr rfl))
  (Bg (CV (i:=7) D1.nd rfl (Or.inr rfl) (.of (AQ hr G_11 T.m_11 (AA (pv 1) (AU AD)))) rfl (by first|exact .inl rfl|exact .inr rfl))
  (Bg (CV (i:=8) D1.nd rfl (Or.inr rfl) (.of (Ov (k:=1) (cl:=[("_law_xs",_)]) (is:=[7]) rfl rfl (hr.mono (by decide)) rfl T.z_range rfl T.z_sorted (AA (pv 5) AD) (RH (UD (clos:=[("_law_xs",_)]) hB rfl T.hd_29 (by with_unfolding_all rfl) rfl) Tn) (.cons ⟨rfl,rfl,by with_unfolding_all rfl,rfl⟩ .nil))) rfl (by first|exact .inl rfl|exact .inr rfl))
  (Bg (.of (FX (iy:=9) (fv:=[(5,"_law_signs"),(6,"_law_many")]) (cl:=[("_law_signs",_),("_law_many",_)]) rfl D1.nd rfl (Or.inl rfl) (A4 rfl T.z_range (AA (AQ hr G_17 T.m_17 (AA (pv 5) (AA (pv 6) AD))) AD)) (by with_unfolding_all rfl) (by with_unfolding_all rfl) (by decide +kernel) rfl (by decide +kernel) rfl ⟨(by with_unfolding_all rfl),⟨(by with_unfolding_all rfl),trivial⟩⟩ (by with_unfolding_all rfl) ⟨⟨rfl,rfl,(by with_unfolding_all rfl),rfl⟩,⟨⟨rfl,rfl,(by with_unfolding_all rfl),rfl⟩,trivial⟩⟩ (by decide) (λ_ _ _ _=>E4) (λ_ _ _ _=>(AQ hr G_35 T.m_35 (AA (pv 0) (AA (pv 1) (AA (pv 2) AD)))))))
  (Bg (.of (FX (iy:=10) (fv:=[(7,"_law_xs"),(5,"_law_signs"),(8,"_law_names"),(3,"_law_kind")]) (cl:=[("_law_xs",_),("_law_signs",_),("_law_names",_),("_law_kind",_)]) rfl D1.nd rfl (Or.inl rfl) (Q5 K (pv 9)) (by with_unfolding_all rfl) (by with_unfolding_all rfl) (by decide +kernel) rfl (by decide +kernel) rfl ⟨(by with_unfolding_all rfl),⟨(by with_unfolding_all rfl),⟨(by with_unfolding_all rfl),⟨(by with_unfolding_all rfl),trivial⟩⟩⟩⟩ (by with_unfolding_all rfl) ⟨⟨rfl,rfl,(by with_unfolding_all rfl),rfl⟩,⟨⟨rfl,rfl,(by with_unfolding_all rfl),rfl⟩,⟨⟨rfl,rfl,(by with_unfolding_all rfl),rfl⟩,⟨⟨rfl,rfl,(by with_unfolding_all rfl),rfl⟩,trivial⟩⟩⟩⟩ (by decide) (λ_ _ _ _=>E4) (λ_ _ _ _=>(AJ (K1 (K:=K) rfl) (pv 3) (AQ hr G_33 T.m_33 (AA (pv 4) (AA (pv 2) (AA (pv 1) (AA (pv 0) AD))))) (λ_ _=>rfl)))))
  (Ei (.of (AL (BB (AA (Cg (AA (pv 5) (AA (pv 2) (AA (Bt B1 rfl T.z_tuple Zs (AA (pv 10) AD)) AD)))) (AA (pv 6) AD))))))))))))))))),?_⟩
 have k6:=M7 c1;have kg:=YF c1
 have ek:((Iz c1:Nat):Int)=([0,1,1,2,2,3,4,5,6,6,3,4,6,1]:List Int).getD (c1%14).toNat 0:=by
  unfold Iz;have h:(c1%14).toNat<14:=by lia
  generalize (c1%14).toNat=i at h;have z:∀i<14,((([0,1,1,2,2,3,4,5,6,6,3,4,6,1]:List Nat).getD i 0:Nat):Int)=([0,1,1,2,2,3,4,5,6,6,3,4,6,1]:List Int).getD i 0:=by decide
  exact z i h
 refine As λN hN=>?_;walk_at "";refine⟨by decide,λp hp=>⟨by decide,Ce (Ai.of AE) (BJ (ns:=[0,1,1,2,2,3,4,5,6,6,3,4,6,1]) (by lia) (by show (c1%14).toNat<14;lia)) (hN _ _ ?_)⟩⟩;clear hN N;rw[<-ek];have e1:=AI.new hp (.lst (([0,1,1,2,2,3,4,5,6,6,3,4,6,1]:List Int).map V.int));have tb1:=tb.same e1;refine E3 (λHX=>AI H HX) e1 ?_;clear e1 tb1 hp p ek;rintro H1 e1;refine As λN hN=>?_;walk_at "";refine⟨by decide,by decide,hN _ _ ?_⟩;clear hN N;obtain⟨k,hk⟩:∃k,k=Iz c1:=⟨_,rfl⟩;obtain⟨G,hG⟩:∃G,G=gF c1:=⟨_,rfl⟩;have g0:k=0->((G:Nat):Int)=2+c1/14%8:=λz=>by rw[hG];unfold gF;rw[qF (by rw[<-hk];exact z)];lia
 have i8:(c1/14%8).toNat<8:=by lia
 have i4:(c1/14%4).toNat<4:=by lia
 have g1:k=1->((G:Nat):Int)=([4,4,6,4,4,8,6,9]:List Int).getD (c1/14%8).toNat 0:=λz=>by
  rw[hG];unfold gF;rw[<-hk,z];generalize (c1/14%8).toNat=i at i8;have y:∀i<8,((([4,4,6,4,4,8,6,9]:List Nat).getD i 0:Nat):Int)=([4,4,6,4,4,8,6,9]:List Int).getD i 0:=by decide
  exact y i i8
 have g2:k=2->((G:Nat):Int)=([3,4,5,3,4,3,6,7]:List Int).getD (c1/14%8).toNat 0:=λz=>by
  rw[hG];unfold gF;rw[<-hk,z];generalize (c1/14%8).toNat=i at i8;have y:∀i<8,((([3,4,5,3,4,3,6,7]:List Nat).getD i 0:Nat):Int)=([3,4,5,3,4,3,6,7]:List Int).getD i 0:=by decide
  exact y i i8
 have g3:2<k->((G:Nat):Int)=([2,([4,4,8,9]:List Int).getD (c1/14%4).toNat 0,8,([5,6,5,7]:List Int).getD (c1/14%4).toNat 0]:List Int).getD (k-3) 0:=λz=>by
  rw[<-hk]at k6;have e4:∀i<4,((([4,4,8,9]:List Nat).getD i 0:Nat):Int)=([4,4,8,9]:List Int).getD i 0:=by decide
  have e6:∀i<4,((([5,6,5,7]:List Nat).getD i 0:Nat):Int)=([5,6,5,7]:List Int).getD i 0:=by decide
  rw[hG];unfold gF;rw[<-hk];obtain rfl|rfl|rfl|rfl:k=3\/k=4\/k=5\/k=6:=by lia
  ·rfl
  ·exact e4 _ i4
  ·rfl
  ·exact e6 _ i4
 rw[<-hk]at kg k6⊢;rw[<-hG]at kg;refine As λN hN=>?_;walk_at "";refine⟨by decide,hN _ _ ?_⟩;clear hN N;refine CG (λσ HX=>(∃s:Int,σ=[some (.int c1),some (.int c2),some (.int lo),some (.int (k:Int)),some (.int (c1/14)),some (.int s),none,none,none,none,none]/\(k<=1->s=(G:Int)))/\AI H HX) (λN hN=>?_) ?_
 ·walk_at ""
  by_cases c:k=1
  ·rw[qF (by lia)];refine⟨by decide,λp hp=>⟨by decide,Ce (Ai.of AE) (BJ (ns:=[4,4,6,4,4,8,6,9]) (by lia) i8) (hN _ _ ⟨⟨_,rfl,λ_=>(g1 c).symm⟩,e1.trans (AI.new hp _)⟩)⟩⟩
  ·rw[qE (by lia)];exact hN _ _ ⟨⟨_,rfl,λz=>(g0 (by lia)).symm⟩,e1⟩
 rintro _ hGo σ HX ⟨⟨s,rfl,hs⟩,eX⟩;refine hGo _ _ ?_;refine CG (λσ HX=>(∃s:Int,σ=[some (.int c1),some (.int c2),some (.int lo),some (.int (k:Int)),some (.int (c1/14)),some (.int s),none,none,none,none,none]/\(k<=2->s=(G:Int)))/\AI H HX) (λN hN=>?_) ?_
 ·walk_at ""
  by_cases c:k=2
  ·rw[qF (by lia)];refine⟨by decide,λp hp=>⟨by decide,Ce (Ai.of AE) (BJ (ns:=[3,4,5,3,4,3,6,7]) (by lia) i8) (hN _ _ ⟨⟨_,rfl,λ_=>(g2 c).symm⟩,eX.trans (AI.new hp _)⟩)⟩⟩
  ·rw[qE (by lia)];exact hN _ _ ⟨⟨_,rfl,λz=>hs (by lia)⟩,eX⟩
 clear hs eX s HX;rintro _ hGo σ HX ⟨⟨s,rfl,hs⟩,eX⟩;refine hGo _ _ ?_;refine CG (λσ HX=>σ=[some (.int c1),some (.int c2),some (.int lo),some (.int (k:Int)),some (.int (c1/14)),some (.int (G:Int)),none,none,none,none,none]/\AI H HX) (λN hN=>?_) ?_
 ·walk_at ""
  by_cases c:2<k
  ·rw[qF (by lia)];refine⟨by decide,λp1 h1=>⟨by decide,Ce (Ai.of AE) (BJ (ns:=[4,4,8,9]) (by lia) i4) ⟨by decide,λp2 h2=>⟨by decide,Ce (Ai.of AE) (BJ (ns:=[5,6,5,7]) (by lia) i4) ⟨by decide,λp3 h3=>?_⟩⟩⟩⟩⟩;refine (Ce (Ai.of AE) (BJ (ns:=[2,([4,4,8,9]:List Int).getD (c1/14%4).toNat 0,8,([5,6,5,7]:List Int).getD (c1/14%4).toNat 0]) (by lia) (by show ((k:Int)-3).toNat<4;lia)) (hN _ _ ⟨?_,((eX.trans (AI.new h1 _)).trans (AI.new h2 _)).trans (AI.new h3 _)⟩));rw[show ((k:Int)-3).toNat=k-3 by lia,<-g3 c]
  ·rw[qE (by lia)];exact hN _ _ ⟨by rw[hs (by lia)],eX⟩
 clear hs eX s HX;rintro _ hGo σ H2 ⟨rfl,e2⟩;refine hGo _ _ ?_
 have em:((mK k:Nat):Int)=([1,2,2,4,2,2,2]:List Int).getD k 0:=by
  have z:∀k<7,((mK k:Nat):Int)=([1,2,2,4,2,2,2]:List Int).getD k 0:=by decide
  exact z k (by lia)
 refine As λN hN=>?_;walk_at "";refine⟨by decide,λp hp=>(Ce (Ai.of AE) (BJ (ns:=[1,2,2,4,2,2,2]) (by lia) (by show ((k:Nat):Int).toNat<7;lia)) (hN _ _ ?_))⟩;clear hN N;rw[YM,<-em];clear em;refine E3 (λHX=>AI H HX) (e2.trans (AI.new hp _)) ?_;clear hp p e2 H2 g0 g1 g2 g3 i8 i4;rintro H3 e3;refine As λN hN=>?_;walk_at "";refine⟨_,_,rfl,by decide,by decide,λpx H4 e4 _ h4=>hN _ _ ?_⟩;clear hN N;obtain⟨l,hl⟩:∃l,l=D7 c2 15:=⟨_,rfl⟩;have xs:Q4 H4 px l:=⟨by rw[hl];exact h4,by rw[hl];exact Ec c2 15,by rw[hl];exact Kg c2 15⟩;clear h4;have e34:=e3.trans e4;refine As λN hN=>?_;refine⟨_,rfl,G,rfl,by unfold KG at kg;lia,tb.same e34,λf H5 s5 tb5 hf la=>?_⟩;dsimp only[Jw];have xs5:Q4 H5 px l:=⟨s5.get (tb.same e34) xs.1 (λ_ z=>by cases z),xs.2⟩;have G9:G<=9/\2<=G:=by unfold KG at kg;lia
 refine⟨f,[.ref px],λx=>((xn l x:Nat):Int)*16+(x:Int),rfl,.cons rfl .nil,Ou (k:=0) (x1:="_law_k") (fns:=["_law_xs"]) la ⟨rfl,rfl,rfl,by decide,λx hx=>by rw[YT.mp hx];exact .inl rfl,λx hx=>by rw[YT.mp hx];rfl,by decide +kernel,by decide +kernel⟩ rfl (ZZ.mpr ⟨Yv,aZ⟩) (λ_ _ _=>b1 λ_=>rfl) (λc' A2 outer2 s2 HC x hr hx eC=>⟨_,(AG AY (AG A9 (AJ (CJ K) (pv 1) (pv 0) (λ_ _=>rfl)) AB) (pv 0)),?B⟩),λD zs H6 e6 hD h6 pz=>hN _ _ ?_⟩
 case B =>
  intro QB qB;have xsC:=xs5.same eC;exact⟨_,rfl,_,rfl,px,_,_,_,rfl,rfl,Ai.of xsC.1,xsC.at (i:=x) (by lia),_,_,rfl,rfl,.inr ⟨by decide,by decide⟩,_,rfl,_,_,rfl,rfl,qB _ (AI.refl _)⟩
 clear hN N;have s6:DQ t.p_29 H H6:=(e34.t.trans s5).trans e6.t;have tb6:=tb5.same e6;have xs6:=xs5.same e6;have zl:zs.length=G:=by rw[pz.length_eq,CI]
 have nm:=Ql pz;have m1:mK k=1\/mK k=2\/mK k=4:=by unfold mK;split;exact .inl rfl;split;exact .inr (.inr rfl);exact .inr (.inl rfl)
 obtain⟨cd,ctf,cmf,ctop,core⟩:=Qk kg l nm;have csz:=core.sz;have gpw:(G:Int)^mK k=((G^mK k:Nat):Int):=by rw[Zx]
 refine As λN hN=>?_;walk_at "";refine⟨_,rfl,_,rfl,(G:Int),((mK k:Nat):Int),rfl,by lia,by lia,by lia,by lia,_,rfl,by rw[YM,gpw];lia,by rw[YM];lia,λD2 hD2=>?_⟩;rw[YM,gpw,YM];obtain⟨n,hn⟩:∃n,n=G^mK k:=⟨_,rfl⟩;have n256:n<=256:=by rw[gpw,<-hn]at csz;lia
 rw[<-hn];refine CM (n:=n) (λi bg Hx=>∃ps:List Addr,bg=ps.map V.ref/\ps.length=i/\AI H6 Hx/\Hx D2=some (.lst bg)/\∀(j:Nat) (a:Addr),ps[j]?=some a->Hx a=some (.lst ((Af (G:Int) (j:Int) (mK k)).map V.int))) ⟨[],rfl,rfl,AI.new hD2 _,AE,λj a z=>by simp at z⟩ ?_ ?_
 ·refine GO ?_;rintro i _ hGo bg Hx hi ⟨ps,rfl,pl,ex,hDx,hp⟩;refine hGo _ _ ?_;rw[Yj];refine⟨_,rfl,_,rfl,_,rfl,(i:Int),(G:Int),((mK k:Nat):Int),rfl,by lia,by lia,by lia,by lia,λp7 H7 n7=>?_⟩;rw[YM]at n7;have hD7:=n7.1 _ _ hDx;have ne:p7≠D2:=λz=>by have z2:=n7.2.1;rw[z,hDx]at z2;cases z2
  refine⟨hD7,by rw[YG];exact Ae (by lia),ps++[p7],by rw[YV];rfl,by rw[YN,pl];rfl,(ex.trans n7.1).into hD2,AE,λj a z=>?_⟩
  by_cases c:j<ps.length
  ·rw[ZH c]at z;have w:=hp j a z;have na:a≠D2:=λy=>by rw[y,hDx]at w;have w:=HO.lst.inj (Option.some.inj w);have c0:(ps.map V.ref)[0]?=((Af (G:Int) (j:Int) (mK k)).map V.int)[0]?:=congrArg (λl:List V=>l[0]?) w;rw[YO,YO,YI (show 0<ps.length by lia),YI (show 0<(Af (G:Int) (j:Int) (mK k)).length by rw[A1];lia)]at c0;cases c0
   rw[AN na];exact n7.1 _ _ w
  ·have:j=ps.length:=by
    have:=(YJ.mp z).1;rw[YN]at this;simp at this;lia
   subst this;rw[Yw (YL _),Zn]at z;have z:p7=a:=Option.some.inj z;rw[<-z,AN ne,pl];exact n7.2.2
 rintro bg H7 ⟨ps,rfl,pl,e7,hD7,hp⟩;refine hN _ _ ?_;clear hN N;have xs7:=xs6.same e7;have h67:=e7 _ _ h6;refine As λN hN=>?_;walk_at "";refine⟨_,rfl,D2,rfl,⟨_,Ai.of hD7⟩,λD3 hD3=>?_⟩;refine F5 (xs:=ps.map V.ref) (λi bg Hx=>bg=((List.range i).map λa=>zs.getD (DG k G l a) 0).map V.int/\AI H7 Hx/\Hx D3=some (.lst bg)) ⟨rfl,AI.new hD3 _,AE⟩ (λi bg Hx _ z=>Ai.of (z.2.1 _ _ hD7)) ?_ ?_
 ·refine M9 ?_;rintro i x _ hGo bg Hx hx ⟨rfl,ex,hDx⟩;refine hGo _ _ ?_;obtain⟨a,hai,rfl⟩:∃a,ps[i]?=some a/\x=V.ref a:=by rw[YO]at hx;obtain⟨c,h1,h2⟩:=Y3.mp hx;exact⟨c,h1,h2.symm⟩
  have il:i<n:=by have:=(YJ.mp hai).1;lia
  have tl:=SQ kg l (n:=i) (by rw[<-hn];exact il);dsimp only[RZ];rw[qF rfl];refine⟨_,rfl,_,rfl,_,rfl,_,rfl,_,rfl,k,G,px,a,l,i,rfl,kg,xs7.same ex,ex _ _ (hp i a hai),by rw[<-hn];exact il,λH8 e8=>?_⟩;refine (Ce (Ai.of ((ex.trans e8) _ _ h67)) (CZ (by lia)) ⟨e8 _ _ hDx,?_,?_,(ex.trans e8).into hD3,AE⟩)
  ·rw[YG,YG,Yo];exact Ae (by lia)
  ·rw[BS,YV];rfl
 rintro bg H8 ⟨rfl,e8,h8⟩;rw[YG,pl]at h8;refine hN _ _ ?_;clear hN N;walk_at "";refine⟨_,.inl ⟨Ai.of h8,λl9 hl9=>⟨by decide,λp9 hp9=>⟨by decide,λp10 hp10=>?_⟩⟩⟩⟩;have tabe:(List.range n).map (λa=>zs.getD (DG k G l a) 0)=BP (G^mK k) (λv=>zs.getD v 0) (DG k G l):=by rw[hn];rfl
 rw[tabe]at h8 hp9 hp10⊢;have f9:=AI.new hl9 (.tup ((BP (G^mK k) (λv=>zs.getD v 0) (DG k G l)).map V.int));have f10:=AI.new hp9 (.tup [.int (G:Int),.int lo,.ref l9]);have f11:=AI.new hp10 (.lst [.ref p9,.int ((mK k:Nat):Int)]);have ff:=(((e7.trans e8).trans f9).trans f10).trans f11;have tw:UL c1 c2=TH k G l:=by rw[hk,hG,hl];rfl
 have m8:mK k<=8:=by lia
 refine q p10 p9 _ (G:Int) _ (mK k) cd ctf cmf ctop (s6.trans ff.t) (tb6.same ff) AE ⟨⟨l9,f11 _ _ AE,f11 _ _ (f10 _ _ AE)⟩,core.g2,core.g9,core.m1,m8,core.len,core.sz,core.tb⟩ ?_;rw[tw];exact core
theorem W0:AK ["_law_cell"] ["_law_cell"] (AH U7):=CA (by decide +kernel)
theorem W1(T:B8 K mg t) :Al P w K mg base 1 t.f_44 ["_law_cell"] (Ki):=by
 refine Ak T.d_44 W0 (λ_ _ _ _ _ _=>b1 λ_=>rfl) λvs H Q E h=>?_;obtain⟨c,rfl,q⟩:=h;refine⟨rfl,λbh A outer s hr=>?_⟩
 refine⟨_,(AC (Au (AM BG (AG Aa (pv 0) AB) AB (AR _)) (AF (AL (AG An (AG Aa (AG BF (pv 0) AB) AB) AB))) AV)
  (AF (AL (AG AY (AG An (AG Aa (AG A9 (AG BF (pv 0) AB) AB) (AG An (AG A9 AB (AG O5 AB AB)) AB)) (AG O5 AB AB)) AB)))),?_⟩
 walk_at "";refine⟨by decide,?_⟩;split
 ·exact⟨by decide,by decide,by decide,q _⟩
 exact⟨by decide,by decide,.inr ⟨by decide,by decide⟩,by decide,by decide,by decide,.inl ⟨by decide,by decide⟩,by decide,by decide,by decide,by decide,q _⟩
theorem N9:AK ["_law_core_here","_law_many","_law_low_here","_law_word_here","_law_at","_law_j"] ["_law_core_here","_law_many","_law_low_here","_law_word_here"] (AH U8):=CA (by decide +kernel)
theorem W2(T:B8 K mg t) :Al P w K mg base 1 t.f_31 ["_law_core_here","_law_many","_law_low_here","_law_word_here"] (Md K):=by
 refine Ak T.d_31 N9 (λ_ _ _ _ _ _=>b4 λ_ _ _ _=>rfl) λvs H Q E h=>?_;obtain⟨r,a,g,lo,b9,m,low,ws,rfl,ok,hS,hb,l1,l2,q⟩:=h;refine⟨rfl,λbh A outer s hr=>?_⟩
 refine⟨_,(AC (AS 4 N9 AB)
  (AC (BD PassesOwn.never rfl (A4 rfl T.z_range (AA (pv 1) AD)) (BC 5 N9) (AF (AS 4 N9 (AG AY (AG A9 (pv 4) (AJ (Bh K) (pv 0) AB (λ_ _=>rfl))) (AJ (CJ K) (pv 3) (AG An (AG AY (AJ (Bh K) (pv 0) AB (λ_ _=>rfl)) (pv 5)) (pv 2)) (λ_ _=>rfl))))))
  (AF (AL (AJ (Bh K) (AJ (Bh K) (pv 0) AB (λ_ _=>rfl)) (pv 4) (λ_ _=>rfl)))))),?_⟩
 refine A5.el ok.v λtb h1 h2=>?_;have g2:=ok.g2;have g9:=ok.g9;have m8:=ok.m8;have hl:=ok.len;have wl:=Cr ws (lo-low) m;have wb:=MU g2 hb (lo-low) m;have nb:=BN g2 wb;rw[wl,<-hl]at nb;walk_at "";refine⟨_,rfl,_,rfl,by lia,by lia,?_⟩;rw[YM];refine BX (n:=m) (λj σ H2=>(∃x5,σ=[some (.ref r),some (.int ((m:Nat):Int)),some (.int low),some (.ref a),some (.int (Av g ((Gs ws (lo-low) m).take j))),x5])/\H2=H) ⟨⟨_,rfl⟩,rfl⟩ ?_ ?_
 ·refine Ed ?_;rintro _ _ j _ hGo σ H2 hj ⟨⟨x5,rfl⟩,rfl⟩;refine hGo _ _ ?_;walk_at "";refine (Bz (Ad.of h1) rfl ?_);walk_at "";have gj:(Gs ws (lo-low) m)[j]?=some (ws.getD (lo+(j:Int)-low).toNat 0):=by unfold Gs;rw[YO,ak hj];show some (sn ws (lo-low+(j:Int)))=_;rw[show lo-low+(j:Int)=(((lo+(j:Int)-low).toNat:Nat):Int) by lia,DX (by lia)]
  refine⟨.inr ⟨by lia,by lia⟩,Bz (Ad.of h1) rfl ⟨lo,rfl,?_⟩⟩;rw[Yj];refine⟨a,_,_,_,rfl,rfl,hS,BJ (by lia) (by lia),_,rfl,?_,⟨_,rfl⟩,rfl⟩;rw[FW gj]
 ·rintro σ H2 ⟨⟨x5,rfl⟩,rfl⟩;have tk:(Gs ws (lo-low) m).take m=Gs ws (lo-low) m:=ZI (by lia);rw[tk];walk_at "";exact (Bz (Ad.of h1) rfl (Bz (Ad.of h2) (BJ nb.1 (by lia)) q))
theorem Iy:AK ["_law_core_here","_law_many","_law_cell","_law_most","_law_ahead","_law_behind","_law_low_here","_law_size","_law_table"] ["_law_core_here","_law_many","_law_cell"] (AH U9):=CA (by decide +kernel)
theorem W3(T:B8 K mg t)(G_31:Al P w K mg base 1 t.f_31 ["_law_core_here","_law_many","_law_low_here","_law_word_here"] (Md K))(G_35:Al P w K mg base 1 t.f_35 ["_law_number","_law_signs","_law_many"] (Eh))(G_17:Al P w K mg base 1 t.f_17 ["_law_signs","_law_many"] (Cq)):Al P w K mg base 2 t.f_34 ["_law_core_here","_law_many","_law_cell"] (Iu):=by
 refine Ak T.d_34 Iy (λ_ _ _ _ _ _=>b3 λ_ _ _=>rfl) λvs H Q E h=>?_;obtain⟨r,g,lo,b9,m,c,rfl,ok,m4,m3,q⟩:=h;refine⟨rfl,λbh A outer s hr=>?_⟩
 refine⟨_,(AC (AS 3 Iy (AJ (CJ K) (SF (ns:=[6,4,3,3,3,2,2,2]) (by rfl)) (AG An (AJ (Bh K) (pv 0) AB (λ_ _=>rfl)) AB) (λ_ _=>rfl)))
  (AC (AS 4 Iy (AG Aa (pv 2) (AG AY (AG An (pv 3) (pv 1)) AB)))
  (AC (AS 5 Iy (AG Aa (AG BF (pv 2) AB) (AG AY (AG An (AG An (pv 3) (pv 1)) (pv 4)) AB)))
  (AC (AS 6 Iy (AG An (AJ (Bh K) (pv 0) AB (λ_ _=>rfl)) (pv 4)))
  (AC (AS 7 Iy (AG AY (AG AY (pv 1) (pv 4)) (pv 5)))
  (AC (FX (iy:=8) (fv:=[(7,"_law_size"),(1,"_law_many"),(6,"_law_low_here"),(0,"_law_core_here")]) (cl:=[("_law_size",_),("_law_many",_),("_law_low_here",_),("_law_core_here",_)]) rfl Iy.nd rfl (Or.inl rfl) (A4 rfl T.z_range (AA (AQ hr G_17 T.m_17 (AA (AJ (Bh K) (pv 0) AB (λ_ _=>rfl)) (AA (pv 7) AD))) AD)) (by with_unfolding_all rfl) (by with_unfolding_all rfl) (by decide +kernel) rfl (by decide +kernel) rfl ⟨(by with_unfolding_all rfl),⟨(by with_unfolding_all rfl),⟨(by with_unfolding_all rfl),⟨(by with_unfolding_all rfl),trivial⟩⟩⟩⟩ (by with_unfolding_all rfl) ⟨⟨rfl,rfl,(by with_unfolding_all rfl),rfl⟩,⟨⟨rfl,rfl,(by with_unfolding_all rfl),rfl⟩,⟨⟨rfl,rfl,(by with_unfolding_all rfl),rfl⟩,⟨⟨rfl,rfl,(by with_unfolding_all rfl),rfl⟩,trivial⟩⟩⟩⟩ (by decide) (λ_ _ _ _=>E4) (λ_ _ _ _=>(AQ hr G_31 T.m_31 (AA (pv 4) (AA (pv 2) (AA (pv 3) (AA (AQ hr G_35 T.m_35 (AA (pv 0) (AA (AJ (KC (K:=K) rfl) (pv 4) AB (λ_ _=>rfl)) (AA (pv 1) AD)))) AD)))))))
  (AF (AL (Cg (AA (AJ (Bh K) (pv 0) AB (λ_ _=>rfl)) (AA (pv 6) (AA (Bt B1 rfl T.z_tuple Zs (AA (pv 8) AD)) AD)))))))))))),?_⟩
 refine A5.el ok.v λtb h1 h2=>?_;have g2:=ok.g2;have g9:=ok.g9;have m1:=ok.m1;have hl:=ok.len;have wm:=Jr g2 g9;have cw:=Lr g2 g9 m4 m3;refine As λN hN=>?_;walk_at "";refine⟨by decide,λp hp=>?_⟩;have e1:=AI.new hp (.lst (([6,4,3,3,3,2,2,2]:List Int).map V.int));refine (Bz (Ad.of (e1 _ _ h1)) rfl ⟨_,rfl,p,_,_,_,rfl,rfl,Ai.of AE,BJ (ns:=[6,4,3,3,3,2,2,2]) (by lia) (by show (g-2).toNat<8;lia),hN _ _ ?_⟩);clear hN N;obtain⟨w',hw⟩:∃w':Int,w'=GP g:=⟨_,rfl⟩;rw[show ([6,4,3,3,3,2,2,2]:List Int).getD (g-2).toNat 0=w' from hw.symm];rw[<-hw]at wm cw;clear hw;obtain⟨w2,w7,_,wz⟩:=wm;refine E3 (λHX=>AI H HX) e1 ?_;clear e1 hp p;rintro H2 e2;refine As λN hN=>?_;walk_at "";refine⟨by lia,hN _ _ ?_⟩;clear hN N;obtain⟨ah,hah,ah0,ah1⟩:∃ah:Int,ah=c%(w'-(m:Int)+1)/\0<=ah/\ah<w'-(m:Int)+1:=⟨_,rfl,ZU _ (by lia),ZO _ (by lia)⟩;rw[<-hah];clear hah;refine As λN hN=>?_;walk_at "";refine⟨by decide,by decide,by lia,hN _ _ ?_⟩;clear hN N;obtain⟨be,hbe,be0,be1⟩:∃be:Int,be=c/8%(w'-(m:Int)-ah+1)/\0<=be/\be<w'-(m:Int)-ah+1:=⟨_,rfl,ZU _ (by lia),ZO _ (by lia)⟩;rw[<-hbe];clear hbe;refine As λN hN=>?_;walk_at "";refine (Bz (Ad.of (e2 _ _ h1)) rfl ⟨_,rfl,hN _ _ ?_⟩);clear hN N;refine As λN hN=>?_;walk_at "";refine hN _ _ ?_;clear hN N;obtain⟨M,hM⟩:∃M:Nat,(M:Int)=(m:Int)+ah+be:=⟨((m:Int)+ah+be).toNat,by lia⟩;rw[<-hM]
 have gM:g^M<=256:=by have:=Bc g2 (show M<=w'.toNat by lia);lia
 have gp:=RW.Ab g2 M;obtain⟨low,hlow⟩:∃low:Int,low=lo-ah:=⟨_,rfl⟩;rw[<-hlow];refine As λN hN=>?_;walk_at "";refine⟨_,rfl,r,_,0,_,rfl,rfl,Ad.of (e2 _ _ h1),rfl,_,rfl,g,_,rfl,g2,g9,by lia,by lia,_,rfl,by rw[YM];lia,by rw[YM];lia,λD hD=>?_⟩;rw[YM];refine CM (n:=(g^M).toNat) (λi bg Hx=>bg=((List.range i).map λn:Nat=>b9.getD (Av g (Gs (Af g (n:Int) M) (lo-low) m)).toNat 0).map V.int/\AI H2 Hx/\Hx D=some (.lst bg)) ⟨rfl,AI.new hD _,AE⟩ ?_ ?_
 ·refine GO ?_;rintro i _ hGo bg Hx hi ⟨rfl,ex,hDx⟩;refine hGo _ _ ?_;have e3:=e2.trans ex;walk_at "";refine (Bz (Ad.of (e3 _ _ h1)) rfl ⟨_,g,_,rfl,g2,g9,by lia,by lia,λp5 H5 hN5=>?_⟩);rw[YM,Yj]at hN5;have wl:=A1 g (i:Int) M;refine⟨r,p5,g,lo,b9,m,low,Af g (i:Int) M,rfl,ok.same (e3.trans hN5.1),Ai.of hN5.2.2,Bd g2 _ _,by lia,by lia,hN5.1 _ _ hDx,?_,?_,(ex.trans hN5.1).into hD,AE⟩
  ·rw[YG,YG,Yo];exact Ae (by lia)
  ·rw[BS,YV];rfl
 rintro bg Hx ⟨rfl,ex,hDx⟩;refine hN _ _ ?_;clear hN N;have e3:=e2.trans ex;walk_at "";refine (Bz (Ad.of (e3 _ _ h1)) rfl ⟨_,.inl ⟨Ai.of hDx,λl8 hl8=>⟨by decide,λp9 hp9=>?_⟩⟩⟩);have f8:=AI.new hl8 (.tup ((EM g lo b9 m low M).map V.int));have f9:=AI.new hp9 (.tup [.int g,.int low,.ref l8]);exact q p9 low (EM g lo b9 m low M) M _ ((e3.trans f8).trans f9) (ok.bw (by lia) gM ⟨l8,AE,f9 _ _ AE⟩) λx hx=>IB g2 hl (by lia) (by lia) hx
theorem NA:AK ["_law_xs","_law_low_here","_law_signs","_law_many","_law_table","_law_k","_law_word_here","_law_amid"] ["_law_xs","_law_low_here"] (AH Xj):=CA (by decide +kernel)
theorem Xx(T:B8 K mg t)(G_17:Al P w K mg base 1 t.f_17 ["_law_signs","_law_many"] (Cq))(G_35:Al P w K mg base 1 t.f_35 ["_law_number","_law_signs","_law_many"] (Eh)):Al P w K mg base 2 t.f_1 ["_law_xs","_law_low_here"] (GR K):=by
 refine Ak T.d_1 NA (λ_ _ _ _ _ _=>b2 λ_ _=>rfl) λvs H Q E h=>?_;obtain⟨p,lo,l,rfl,hS,hl,lb,q⟩:=h;refine⟨rfl,λbh A outer s hr=>?_⟩
 refine⟨_,(AC (AS 2 NA (AG AY AB (AG Aa (AJ (CJ K) (pv 0) AB (λ_ _=>rfl)) AB)))
  (AC (AS 3 NA (AG AY (AJ (CJ K) (BB (AU (AU (AU (AU (AU AD)))))) (AG An (pv 2) AB) (λ_ _=>rfl)) (AG Aa (AJ (CJ K) (pv 0) AB (λ_ _=>rfl)) (AJ (CJ K) (BB (AU (AU (AU (AU (AU AD)))))) (AG An (pv 2) AB) (λ_ _=>rfl)))))
  (AC (AS 4 NA (BB AD))
  (AC (BD PassesOwn.never rfl (A4 rfl T.z_range (AA (AQ hr G_17 T.m_17 (AA (pv 2) (AA (pv 3) AD))) AD)) (BC 5 NA) (AC (AS 6 NA (AQ hr G_35 T.m_35 (AA (pv 5) (AA (pv 2) (AA (pv 3) AD)))))
  (AC (AS 7 NA (AG A9 (AJ (CJ K) (pv 6) (AG AY AB (AG Aa (AJ (CJ K) (pv 0) AB (λ_ _=>rfl)) (AG An (pv 3) AB))) (λ_ _=>rfl)) (AJ (CJ K) (pv 6) (AG AY AB (AG Aa (AJ (CJ K) (pv 0) AB (λ_ _=>rfl)) (AG An (pv 3) AB))) (λ_ _=>rfl))))
  (AF (BM (Q6 K (pv 4) (AA (AG Aa (AG AY (AG AY (AJ (CJ K) (pv 6) AB (λ_ _=>rfl)) (AG A9 (AJ (CJ K) (pv 6) (JM Fx AB) (λ_ _=>rfl)) (AG An (pv 2) AB))) (pv 7)) (pv 2)) AD)))))))
  (AF (AL (Cg (AA (pv 2) (AA (pv 1) (AA (Bt B1 rfl T.z_tuple Zs (AA (pv 4) AD)) AD)))))))))),?_⟩
 refine As λN hN=>?_;walk_at "";refine⟨p,_,_,_,rfl,rfl,hS,BJ (by lia) (by lia),_,rfl,by decide,hN _ _ ?_⟩;clear hN N;obtain⟨g,hg⟩:∃g:Int,g=2+l.getD (Int.toNat 0) 0%5:=⟨_,rfl⟩;rw[<-hg];have g2:2<=g:=by lia
 have g6:g<=6:=by lia
 clear hg;refine As λN hN=>?_;walk_at "";refine⟨by decide,λp1 hp1=>?_⟩;have f1:=AI.new hp1 (.lst [.int 5,.int 4,.int 3,.int 3,.int 3]);obtain⟨b0,m,hm,m3,m8,gm,big⟩:=SS (x:=l.getD (Int.toNat 1) 0) g2 g6;refine (Ce (Ai.of AE) (BJ (ns:=[5,4,3,3,3]) (by lia) (by show (g-2).toNat<5;lia)) ⟨p,_,_,_,rfl,rfl,f1.seq hS,BJ (by lia) (by rw[hl];decide),by decide,λp2 hp2=>?_⟩);have f2:=AI.new hp2 (.lst [.int 4,.int 2,.int 2,.int 1,.int 1]);refine (Ce (Ai.of AE) (BJ (ns:=[4,2,2,1,1]) (by lia) (by show (g-2).toNat<5;lia)) ⟨_,rfl,_,rfl,b0,_,rfl,hN _ _ ?_⟩);rw[<-hm];clear hN N;clear hm b0;have e2:=f1.trans f2;generalize Ac (Ac H p1 _) p2 _=H2 at e2⊢;refine As λN hN=>?_;walk_at "";refine⟨by decide,λD hD=>hN _ _ ?_⟩;clear hN N;have hDf:H D=none:=e2.free hD;have e3:=e2.trans (AI.new hD (.lst []));have hD3:Ac H2 D (.lst []) D=some (.lst []):=AE;generalize Ac H2 D (.lst [])=H3 at e3 hD3⊢;clear e2;have gp:=RW.Ab g2 m;obtain⟨a,ha⟩:∃a:Nat,((a:Nat):Int)=1+l.getD (Int.toNat 2) 0%((m:Int)-2):=⟨(1+l.getD (Int.toNat 2) 0%((m:Int)-2)).toNat,by have:=ZU (l.getD (Int.toNat 2) 0) (show (m:Int)-2≠0 by lia);lia⟩;obtain⟨b,hb⟩:∃b:Nat,((b:Nat):Int)=1+l.getD (Int.toNat 3) 0%((m:Int)-2):=⟨(1+l.getD (Int.toNat 3) 0%((m:Int)-2)).toNat,by have:=ZU (l.getD (Int.toNat 3) 0) (show (m:Int)-2≠0 by lia);lia⟩
 have ha1:1<=a/\a+1<m:=by have:=ZU (l.getD (Int.toNat 2) 0) (show (m:Int)-2≠0 by lia);have:=ZO (l.getD (Int.toNat 2) 0) (show 0<(m:Int)-2 by lia);lia
 have hb1:1<=b/\b+1<m:=by have:=ZU (l.getD (Int.toNat 3) 0) (show (m:Int)-2≠0 by lia);have:=ZO (l.getD (Int.toNat 3) 0) (show 0<(m:Int)-2 by lia);lia
 refine CG (λσ HX=>(∃x5 x6 x7,σ=[some (.ref p),some (.int lo),some (.int g),some (.int ((m:Nat):Int)),some (.ref D),x5,x6,x7])/\AI H HX/\HX D=some (.lst ((Q8 g m a b).map V.int))) (λN hN=>?_) ?_
 ·refine⟨_,rfl,_,rfl,g,_,rfl,g2,by lia,by lia,by lia,?_⟩;refine⟨_,rfl,by rw[YM];lia,by rw[YM];lia,?_⟩;rw[YM];refine BX (n:=(g^m).toNat) (λi σ HX=>(∃x5 x6 x7,σ=[some (.ref p),some (.int lo),some (.int g),some (.int ((m:Nat):Int)),some (.ref D),x5,x6,x7])/\AI H HX/\HX D=some (.lst (((List.range i).map λk:Nat=>Q7 g a b (Af g (k:Int) m)).map V.int))) ⟨⟨none,none,none,rfl⟩,e3,hD3⟩ ?_ λσ HX z=>hN _ _ z
  refine Ed ?_;rintro _ _ i _ hGo σ HX hi ⟨⟨x5,x6,x7,rfl⟩,eX,hX⟩;refine hGo _ _ ?_;refine As λN hN=>?_;walk_at "";refine⟨_,g,_,rfl,g2,by lia,by lia,by lia,λpw H4 n4=>hN _ _ ?_⟩;clear hN N;rw[YM]at n4;refine As λN hN=>?_;walk_at "";have hS4:=(eX.trans n4.1).seq hS;have wl:=A1 g (0+(i:Int)) m;have wb:=Bd g2 (0+(i:Int)) m;have hw4:=n4.2.2;refine⟨p,_,_,_,rfl,rfl,hS4,BJ (by lia) (by rw[hl];decide),_,rfl,by lia,?_⟩;rw[<-ha];refine (Ce (Ai.of hw4) (CZ (by rw[wl];lia)) ⟨p,_,_,_,rfl,rfl,hS4,BJ (by lia) (by rw[hl];decide),_,rfl,by lia,?_⟩);rw[<-hb];have ga:=B7 g2 wb a;refine (Ce (Ai.of hw4) (CZ (by rw[wl];lia)) ⟨_,rfl,_,rfl,.inl (by lia),hN _ _ ?_⟩);clear hN N;have hD4:=n4.1 _ _ hX;walk_at "";refine⟨.inl ⟨_,Ai.of hD4⟩,Ce (Ai.of hw4) (BJ (by lia) (by rw[wl];show 0<m;lia)) (Ce (Ai.of hw4) (Ja (by lia)) ⟨_,rfl,.inr (by lia),_,rfl,by lia,_,hD4,?_,⟨_,rfl⟩,(eX.trans n4.1).into hDf,?_⟩)⟩
  ·rw[YG,YG,Yo];exact Ae (by lia)
  ·rw[AE,Y4,YV,YV];rw[Yj];rfl
 rintro _ hGo σ H6 ⟨⟨x5,x6,x7,rfl⟩,e6,h6⟩;refine hGo _ _ ?_;walk_at "";refine⟨_,.inl ⟨Ai.of h6,λl9 hl9=>⟨by decide,λp9 hp9=>?_⟩⟩⟩;have f8:=AI.new hl9 (.tup ((Q8 g m a b).map V.int));have f9:=AI.new hp9 (.tup [.int g,.int lo,.ref l9]);have en:=Qo g2 ha1.1 ha1.2 hb1.1 hb1.2;have le:=Nz g2 m a b;exact q p9 g _ m _ ((e6.trans f8).trans f9) ⟨⟨l9,AE,f9 _ _ AE⟩,g2,by lia,by lia,m8,le,gm,VD g2 _ _ _⟩ (E7 g2 le le (λ_ _=>rfl) (by lia) en.1 en.2) big
theorem VE:AK ["_law_one","_law_many","_law_j","_law_weight","_law_k"] ["_law_one","_law_many","_law_j"] (AH Xk):=CA (by decide +kernel)
theorem Xy(T:B8 K mg t)(G_17:Al P w K mg base 1 t.f_17 ["_law_signs","_law_many"] (Cq)):Al P w K mg base 2 t.f_9 ["_law_one","_law_many","_law_j"] (FJ):=by
 refine Ak T.d_9 VE (λ_ _ _ _ _ _=>b3 λ_ _ _=>rfl) λvs H Q E h=>?_;obtain⟨r,g,lo,b9,m,j,rfl,g2,g9,hR,hl,hj,m8,gm,q⟩:=h;refine⟨rfl,λbh A outer s hr=>?_⟩
 refine⟨_,(AC (AS 3 VE (AQ hr G_17 T.m_17 (AA (AJ (Bh K) (pv 0) AB (λ_ _=>rfl)) (AA (AG An (AG An (pv 1) AB) (pv 2)) AD))))
  (AC (BD PassesOwn.never rfl (A4 rfl T.z_range (AA (Aw (Lo K) rfl T.z_len Y7 (AA (AJ (Bh K) (pv 0) AB (λ_ _=>rfl)) AD)) AD)) (BC 4 VE) (AF (Au (AM ED (AJ (Bh K) (AJ (Bh K) (pv 0) AB (λ_ _=>rfl)) (pv 4) (λ_ _=>rfl)) (AJ (Bh K) (AJ (Bh K) (pv 0) AB (λ_ _=>rfl)) (AG An (pv 4) (AG A9 (AG Aa (AG BF (pv 4) (pv 3)) (AJ (Bh K) (pv 0) AB (λ_ _=>rfl))) (pv 3))) (λ_ _=>rfl)) (AR _)) (AF (AL Cj)) AV)))
  (AF (AL Cj)))),?_⟩
 refine A5.el hR λtb h1 h2=>?_;walk_at "";refine (Bz (Ad.of h1) rfl ?_);walk_at "";refine⟨g,_,rfl,g2,g9,by lia,by lia,?_⟩;rw[show ((m:Int)-1-(j:Int)).toNat=m-1-j by lia];have wp:=RW.Ab g2 (m-1-j);have wq:=Bc g2 (show m-1-j<=m by lia);obtain⟨wt,hwt⟩:∃wt:Int,wt=g^(m-1-j):=⟨_,rfl⟩;rw[<-hwt]at wp wq q⊢;have hlm:(b9.map V.int).length=b9.length:=YG ..;refine⟨_,rfl,r,_,2,_,rfl,rfl,Ad.of h1,rfl,tb,rfl,_,.inr (Ad.of h2),_,rfl,by lia,by lia,?_⟩;rw[hlm];refine BX (n:=b9.length) (λi σ H1=>(∃x4,σ=[some (.ref r),some (.int ((m:Nat):Int)),some (.int ((j:Nat):Int)),some (.int wt),x4])/\H1=H/\∀k,k<i->b9.getD k 0=b9.getD ((k:Int)-(k:Int)/wt%g*wt).toNat 0) ⟨⟨none,rfl⟩,rfl,λk hk=>qG hk (aN _)⟩ ?_ ?_
 ·refine Ed ?_;rintro _ _ i _ hGo σ H1 hi ⟨⟨x4,rfl⟩,rfl,hall⟩;refine hGo _ _ ?_;have ix:=Pk (k:=(i:Int)) (w:=wt) (g:=g) (by lia) wp g2;have gA:=BJ (ns:=b9) ix.1 (by lia);walk_at "";rw[Yj];refine (Bz (Ad.of h1) rfl (Bz (Ad.of h2) (CZ hi) ?_));refine (Bz (Ad.of h1) rfl ⟨wp,by lia,?_⟩);refine (Bz (Ad.of h1) rfl ⟨g,rfl,by lia,.inr ⟨by lia,by lia⟩,Bz (Ad.of h2) gA ⟨rfl,?_⟩⟩)
  by_cases hd:V.int (b9.getD i 0)=V.int (b9.getD ((i:Int)-(i:Int)/wt%g*wt).toNat 0)
  ·rw[qE (λz=>z hd)];refine⟨⟨_,rfl⟩,rfl,λk hk=>?_⟩
   by_cases z:k=i
   ·subst z;exact V.int.inj hd
   ·exact hall k (by lia)
  ·rw[qF hd];have z:BL g b9 wt=true:=Di.mpr ⟨i,hi,λy=>hd (by rw[y])⟩;rw[z]at q;exact q
 ·rintro σ H1 ⟨⟨x4,rfl⟩,rfl,hall⟩;walk_at ""
  have z:BL g b9 wt=false:=by
   cases z:BL g b9 wt with
   |false=>rfl
   |true =>
    obtain⟨k,hk,h⟩:=Di.mp z;exact qG (hall k hk) h
  rw[z]at q;exact q
theorem OA:AK ["_law_found","_law_signs","_law_sign","_law_many"] ["_law_found","_law_signs"] (AH VA):=CA (by decide +kernel)
theorem W4(T:B8 K mg t)(G_17:Al P w K mg base 1 t.f_17 ["_law_signs","_law_many"] (Cq))(G_20:Al P w K mg base 1 t.f_20 ["_law_found"] (Eg)):Al P w K mg base 2 t.f_10 ["_law_found","_law_signs"] (F9):=by
 refine Ak T.d_10 OA (λ_ _ _ _ _ _=>b2 λ_ _=>rfl) λvs H Q E h=>?_;obtain⟨r,g,lo,b9,m,rfl,ok,q⟩:=h;refine⟨rfl,λbh A outer s hr=>?_⟩
 refine⟨_,(AC (Au (PW.pt (CB (By (Bb (DV rfl T.z_isinstance (pv 0) (FU rfl T.z_tuple PyProof.Rows.boot_tuple)))) (CB (AM ED (Aw (Lo K) rfl T.z_len PySem.boot_len (AA (pv 0) AD)) AB (AR _)) (CH (By (Bb (DV rfl T.z_isinstance (AJ (Bh K) (pv 0) AB (λ_ _=>rfl)) (FU rfl T.z_tuple PyProof.Rows.boot_tuple)))))))) (AF (AL AB)) AV)
  (AC (Au (PW.pt (CB (By (Bb (AQ hr G_20 T.m_20 (AA (AJ (Bh K) (pv 0) AB (λ_ _=>rfl)) AD)))) (CB (By (Bb (AQ hr G_20 T.m_20 (AA (AJ (Bh K) (pv 0) AB (λ_ _=>rfl)) AD)))) (CH (AM ED (AJ (Bh K) (pv 0) AB (λ_ _=>rfl)) (pv 1) (AR _)))))) (AF (AL AB)) AV)
  (AC (BD PassesOwn.never rfl (Tg (AJ (Bh K) (pv 0) AB (λ_ _=>rfl))) (BC 2 OA) (AF (Au (PW.pt (CB (By (Bb (AQ hr G_20 T.m_20 (AA (pv 2) AD)))) (CB (AM Ck (pv 2) AB (AR _)) (CH (AM Ko (pv 2) (pv 1) (AR _)))))) (AF (AL AB)) AV)))
  (AC (AS 3 OA AB)
  (AC (Da PassesOwn.never (AM Ck (AQ hr G_17 T.m_17 (AA (pv 1) (AA (pv 3) AD))) (Aw (Lo K) rfl T.z_len Y7 (AA (AJ (Bh K) (pv 0) AB (λ_ _=>rfl)) AD)) (AR _)) (AF (AS 3 OA (AG AY (pv 3) AB))))
  (AC (Au (AM ED (AQ hr G_17 T.m_17 (AA (pv 1) (AA (pv 3) AD))) (Aw (Lo K) rfl T.z_len Y7 (AA (AJ (Bh K) (pv 0) AB (λ_ _=>rfl)) AD)) (AR _)) (AF (AL AB)) AV)
  (AF (AL (pv 3))))))))),?_⟩
 refine A5.el ok.v λtb h1 h2=>?_;have g2:=ok.g2;have g9:=ok.g9;have hlm:(b9.map V.int).length=b9.length:=YG ..;refine As λN hN=>?_;walk_at "";refine⟨_,.of (.tup h1),_,Su,?_⟩;rw[qE (by decide)];refine⟨_,.inr (Ad.of h1),?_⟩;rw[qE (by exact λz=>z rfl)];refine (Bz (Ad.of h1) rfl ⟨_,.of (.tup h2),_,Su,?_⟩);rw[qE (by decide)];refine hN _ _ ?_;clear hN N;refine As λN hN=>?_;walk_at "";refine (Bz (Ad.of h1) rfl ⟨.int g,rfl,True.intro,true,rfl,?_⟩);rw[qE (by decide)];refine (Bz (Ad.of h1) rfl ⟨.int lo,rfl,True.intro,true,rfl,?_⟩);rw[qE (by decide)];refine (Bz (Ad.of h1) rfl ⟨rfl,?_⟩);rw[qE (by exact λz=>z rfl)];refine hN _ _ ?_;clear hN N;refine CG (λσ HX=>(∃x2,σ=[some (.ref r),some (.int g),x2,none])/\HX=H) (λN hN=>?_) ?_
 ·refine⟨_,rfl,r,_,2,_,rfl,rfl,Ad.of h1,rfl,tb,rfl,⟨_,Ad.of h2⟩,?_⟩;refine RD (xs:=b9.map V.int) (λi σ H2=>(∃x2,σ=[some (.ref r),some (.int g),x2,none])/\H2=H) ⟨⟨none,rfl⟩,rfl⟩ (λi σ H2 _ z=>by rw[z.2];exact Ad.of h2) ?_ λσ H2 z=>hN _ _ z
  rintro i x σ H2 hx ⟨⟨x2,rfl⟩,rfl⟩;obtain⟨n,hn,rfl⟩:=C4 hx;have nb:=ok.tb n (YW hn);walk_at "";refine⟨.int n,rfl,True.intro,true,rfl,?_⟩;rw[qE (by decide)];rw[qE (by lia),qE (by lia)];exact⟨⟨_,rfl⟩,rfl⟩
 rintro _ hGo σ H2 ⟨⟨x2,rfl⟩,rfl⟩;refine hGo _ _ ?_;refine As λN hN=>?_;walk_at "";refine hN _ _ ?_;clear hN N;have hl:=ok.len;have m8:=ok.m8;have m1:=ok.m1;refine CG (λσ HX=>(∃x2,σ=[some (.ref r),some (.int g),x2,some (.int ((m:Nat):Int))])/\HX=H2) (λN hN=>?_) ?_
 ·refine EC (λσ H1=>∃i:Nat,1<=i/\i<=m/\(∃x2,σ=[some (.ref r),some (.int g),x2,some (.int ((i:Nat):Int))])/\H1=H2)
   (λ(σ:St) (H1:Hp)=>match σ[3]? with|some (some (V.int x))=>m-x.toNat|_=>0) ⟨1,YL _,m1,⟨x2,rfl⟩,rfl⟩ ?_ ?_
  ·rintro σ H1 ⟨i,i1,im,⟨x2,rfl⟩,rfl⟩;have pi:=Bc g2 im;walk_at "";refine⟨g,_,rfl,g2,g9,by lia,by lia,?_⟩;walk_at "";refine (Bz (Ad.of h1) rfl ?_);refine⟨tb,rfl,_,.inr (Ad.of h2),?_⟩;rw[hlm,YM,hl]
   by_cases him:i<m
   ·have:=MO g2 him;rw[qF this];exact⟨⟨i+1,by lia,by lia,by lia,rfl⟩,by lia⟩
   ·have:i=m:=by lia
    subst this;rw[qE (Int.lt_irrefl _)];exact hN _ _ ⟨⟨_,rfl⟩,rfl⟩
  ·intro σ H1 Q1 Q2 hq;walk_at "";rintro⟨v,c1,v1,c2,⟨gg,mm',ee,a1,a2,a3,a4,v2,c4,⟨b1,b2,b3,b4,b5,b6,b7,b8,p,e5,y,hy,i,e6,c6⟩⟩⟩;exact⟨v,c1,v1,c2,⟨gg,mm',ee,a1,a2,a3,a4,v2,c4,⟨b1,b2,b3,b4,b5,b6,b7,b8,p,e5,y,hy,i,e6,hq _ _ c6⟩⟩⟩
 rintro _ hGo σ H3 ⟨⟨x3,rfl⟩,rfl⟩;refine hGo _ _ ?_;walk_at "";refine⟨g,_,rfl,g2,g9,by lia,by lia,?_⟩;refine (Bz (Ad.of h1) rfl ⟨tb,rfl,_,.inr (Ad.of h2),rfl,?_⟩);rw[hlm,YM,hl,qE (λz=>z rfl)];exact q
theorem VF:AK ["_law_core_here","_law_number","_law_table","_law_at"] ["_law_core_here","_law_number"] (AH Xl):=CA (by decide +kernel)
theorem Xz(T:B8 K mg t) :Al P w K mg base 1 t.f_6 ["_law_core_here","_law_number"] (GQ):=by
 refine Ak T.d_6 VF (λ_ _ _ _ _ _=>b2 λ_ _=>rfl) λvs H Q E h=>?_;obtain⟨r,g,lo,b9,m,c,rfl,ok,c0,q⟩:=h;refine⟨rfl,λbh A outer s hr=>?_⟩
 refine⟨_,(AC (AS 2 VF (Bt J1 rfl T.z_list PyProof.Rows.boot_list (AA (AJ (Bh K) (pv 0) AB (λ_ _=>rfl)) AD)))
  (AC (AS 3 VF (AG Aa (pv 1) (Aw (Lo K) rfl T.z_len Y7 (AA (pv 2) AD))))
  (AC (Ju (AG Aa (AG AY (AG AY (AJ (CJ K) (pv 2) (pv 3) (λ_ _=>rfl)) AB) (AG Aa (AG BF (pv 1) AB) (AG An (AJ (Bh K) (pv 0) AB (λ_ _=>rfl)) AB))) (AJ (Bh K) (pv 0) AB (λ_ _=>rfl))) (Tf (pv 2) (pv 3) PD))
  (AF (AL (Cg (AA (AJ (Bh K) (pv 0) AB (λ_ _=>rfl)) (AA (AJ (Bh K) (pv 0) AB (λ_ _=>rfl)) (AA (Bt B1 rfl T.z_tuple Zs (AA (pv 2) AD)) AD))))))))),?_⟩
 refine A5.el ok.v λtb h1 h2=>?_;have g2:=ok.g2;have gp:=RW.Ab g2 m;have tl:0<b9.length:=by have:=ok.len;lia
 refine As λN hN=>?_;walk_at "";refine (Bz (Ad.of h1) rfl ⟨tb,rfl,_,.inr (Ad.of h2),λD hD=>hN _ _ ?_⟩);clear hN N;have e1:=AI.new hD (.lst (b9.map V.int));have hD1:Ac H D (.lst (b9.map V.int)) D=some (.lst (b9.map V.int)):=AE;generalize Ac H D (.lst (b9.map V.int))=H1 at e1 hD1⊢;refine As λN hN=>?_;walk_at "";obtain⟨a',ha⟩:∃a':Nat,((a':Nat):Int)=c%(((b9.map V.int).length:Nat):Int):=⟨(c%_).toNat,YY (ZU _ (by rw[YG];lia))⟩
 have hat:a'<b9.length:=by have:=ZO c (show (0:Int)<(((b9.map V.int).length:Nat):Int) by rw[YG];lia);rw[<-ha,YG]at this;lia
 refine⟨_,.inl (Ai.of hD1),by rw[YG];lia,hN _ _ ?_⟩;rw[<-ha];clear hN N;have h1':=e1 _ _ h1;have hx:=B7 g2 ok.tb a';have he:0<=c/1024%(g-1)/\c/1024%(g-1)<g-1:=⟨ZU _ (by lia),ZO _ (by lia)⟩;obtain⟨v,hv⟩:∃v:Int,v=(b9.getD a' 0+1+c/1024%(g-1))%g:=⟨_,rfl⟩;have v0:0<=v:=hv▸ZU _ (by lia);have vg:v<g:=hv▸ZO _ (by lia)
 have vn:v≠b9.getD a' 0:=by
  intro z;rw[z]at hv
  by_cases y:b9.getD a' 0+1+c/1024%(g-1)<g
  ·rw[Yr (by lia) y]at hv;lia
  ·rw[<-Int.sub_emod_right,Yr (by lia) (by lia)]at hv;lia
 refine As λN hN=>?_;walk_at "";refine (Ce (Ai.of hD1) (CZ hat) ⟨_,rfl,by decide,by decide,Bz (Ad.of h1') rfl ⟨_,rfl,by lia,Bz (Ad.of h1') rfl ⟨_,rfl,by lia,?_⟩⟩⟩);refine⟨_,rfl,_,rfl,D,_,_,a',rfl,rfl,hD1,(by rw[YG];exact NZ hat),?_⟩;rw[<-hv];refine hN _ _ ?_;clear hN N;have e2:=e1.into hD (o:=.lst ((b9.map V.int).set a' (.int v)));have hD2:Ac H1 D (.lst ((b9.map V.int).set a' (.int v))) D=some (.lst ((b9.set a' v).map V.int)):=by rw[AE,List.map_set]
 generalize Ac H1 D (.lst ((b9.map V.int).set a' (.int v)))=H2 at e2 hD2⊢;walk_at "";refine (Bz (Ad.of (e2 _ _ h1)) rfl (Bz (Ad.of (e2 _ _ h1)) rfl ⟨_,.inl ⟨Ai.of hD2,λl8 hl8=>⟨by decide,λp9 hp9=>?_⟩⟩⟩));have f8:=AI.new hl8 (.tup ((b9.set a' v).map V.int));have f9:=AI.new hp9 (.tup [.int g,.int lo,.ref l8]);refine q p9 a' v _ ((e2.trans f8).trans f9) hat v0 vg vn ⟨⟨l8,AE,f9 _ _ AE⟩,g2,ok.g9,ok.m1,ok.m8,by rw[ZS];exact ok.len,ok.sz,λn hn=>?_⟩;rcases ae hn with z|z
 ·exact ok.tb n z
 ·rw[z];exact⟨v0,vg⟩
theorem Js:AK ["_law_one","_law_refusal","_law_found","error"] ["_law_one"] (AH VB):=CA (by decide +kernel)
theorem W5(T:B8 K mg t)(G_48:Al P w K mg base 10 t.f_48 ["one"] (FH t.c_28 t.c_49)):Al P w K mg base 11 t.f_19 ["_law_one"] (Er t.c_28 t.c_49):=by
 refine Ak T.d_19 Js (λ_ _ _ _ _ _=>b1 λ_=>rfl) λvs H Q E h=>?_;obtain⟨r,g,lo,b9,m,lf,tf,mf,rfl,ok,fw,qn,qt,q⟩:=h;refine⟨rfl,λbh A outer s hr=>?_⟩
 refine⟨_,(AC (AS 1 Js Ez)
  (AC (AS 2 Js Ez)
  (AC (Ts (i:=3) (W:=λσ cls D H'=>σ=[some (.ref r),some .non,some .non,none]/\AI H H'/\D=none/\((cls=.ref t.c_28/\FG g tf mf)\/(cls=.ref t.c_49/\Kf g tf mf))) Js.nd rfl rfl rfl T.m_43 rfl rfl (λ_=>(AF (AS 2 Js (De G_48 (hr.mono (by decide)) rfl T.m_48 MF (AA (pv 0) AD))))) (λ_=>(AF (AS 1 Js (pv 3)))))
  (AF (AL (BB (AA (pv 1) (AA (pv 2) AD)))))))),?_⟩
 walk_at "";refine⟨⟨r,g,lo,b9,m,lf,tf,mf,rfl,ok,fw,λz H' e=>⟨e,rfl,.inl ⟨rfl,z⟩⟩,λz H' e=>⟨e,rfl,.inr ⟨rfl,z⟩⟩,λsm ev le mn bx em m1 s256 r' H' e ok'=>⟨by decide,λp hp=>q sm ev le mn bx em m1 s256 p r' _ (e.trans (AI.new hp _)) (ok'.same (AI.new hp _)) AE⟩⟩,?_⟩;rintro σ' cls D' H' ⟨rfl,e,rfl,⟨rfl,z⟩|⟨rfl,z⟩⟩
 ·refine⟨T.em_28_43,λea hea=>⟨_,rfl,_,rfl,_,rfl,by decide,λp hp=>?_⟩⟩;have f:=AI.new hea (RP ea (.ref t.c_28) none false);have f2:=AI.new hp (.lst [.ref ea,.non]);exact qn z p ea _ ((e.trans f).trans f2) (f2 _ _ AE) AE
 ·refine⟨T.em_49_43,λea hea=>⟨_,rfl,_,rfl,_,rfl,by decide,λp hp=>?_⟩⟩;have f:=AI.new hea (RP ea (.ref t.c_49) none false);have f2:=AI.new hp (.lst [.ref ea,.non]);exact qt z p ea _ ((e.trans f).trans f2) (f2 _ _ AE) AE
theorem VG:AK ["_law_one","_law_wide_here","_law_refusal","_law_found"] ["_law_one","_law_wide_here"] (AH Xm):=CA (by decide +kernel)
theorem X0(T:B8 K mg t)(G_19:Al P w K mg base 11 t.f_19 ["_law_one"] (Er t.c_28 t.c_49)):Al P w K mg base 12 t.f_5 ["_law_one","_law_wide_here"] (Iw):=by
 refine Ak T.d_5 VG (λ_ _ _ _ _ _=>b2 λ_ _=>rfl) λvs H Q E h=>?_;obtain⟨r,g,lo,b9,m,lf,tf,mf,b,rfl,ok,fw,hw,hn,q⟩:=h;refine⟨rfl,λbh A outer s hr=>?_⟩
 refine⟨_,(AC (Ju (AQ hr G_19 T.m_19 (AA (pv 0) AD)) (ML rfl (BK (BC 2 VG) (BK (BC 3 VG) DH))))
  (AC (Au (PW.pt (CB (AM NG (pv 3) Ez (AR _)) (CB (AM O7 (pv 2) Ez (AR _)) (CB (By (Bb (DV rfl T.z_isinstance (pv 2) (FU rfl T.z_ValueError PyProof.Rows.Boot.«ValueError»)))) (CH (Bb (DV rfl T.z_isinstance (pv 2) (EH rfl T.m_64)))))))) (AF (AL Cj)) AV)
  (AF (AL (EB (Bs BG (DV rfl T.z_isinstance (pv 2) (EH rfl T.m_49)) (pv 1) (AR _)) (Do (Bs ED (DV rfl T.z_isinstance (pv 2) (EH rfl T.m_28)) (pv 1) (AR _)))))))),?_⟩
 have g2:=ok.g2;refine CG (λσ HX=>∃ea,σ=[some (.ref r),some (.bl b),some (.ref ea),some .non]/\AI H HX/\HX ea=some (RP ea (.ref (if b=true then t.c_49 else t.c_28)) none false)) (λN hN=>?_) ?_
 ·refine⟨_,rfl,r,g,lo,b9,m,lf,tf,mf,rfl,ok,fw,λwn p ea H' e hea hp=>?_,λww p ea H' e hea hp=>?_,λsm ev le mn bx em m1 s256 p r' H' e ok' hp=>?_⟩
  ·cases b with
   |false=>exact⟨p,_,rfl,Ai.of hp,rfl,_,_,rfl,_,_,rfl,rfl,hN _ _ ⟨ea,rfl,e,hea⟩⟩
   |true =>
    exfalso;rcases hw rfl with z|⟨⟨rk,hr⟩,_⟩
    ·have:=wn.1;lia
    ·exact wn.2 rk hr
  ·cases b with
   |true=>exact⟨p,_,rfl,Ai.of hp,rfl,_,_,rfl,_,_,rfl,rfl,hN _ _ ⟨ea,rfl,e,hea⟩⟩
   |false =>
    exfalso;have wn:=hn rfl;rcases ww with z|⟨_,ev,le,mn,bx,_⟩
    ·have:=wn.1;lia
    ·obtain⟨rk,hr,_⟩:=bx.b.ex;exact wn.2 rk hr
  ·exfalso;cases b with
   |true =>
    rcases hw rfl with z|⟨_,z⟩
    ·lia
    ·have:=z _ _ _ bx em;lia
   |false =>
    obtain⟨rk,hr,_⟩:=bx.b.ex;exact (hn rfl).2 rk hr
 rintro _ hGo σ HX ⟨ea,rfl,eX,hea⟩;refine hGo _ _ ?_;refine As λN hN=>?_;walk_at "";cases b with
 |true =>
  rw[qF rfl]at hea;refine⟨_,.exc hea T.ek_49,_,T.kt_TooWide_ValueError,?_⟩;rw[qE (by decide)];refine⟨_,.exc hea T.ek_49,_,T.kt_49_64,?_⟩;rw[qE (by decide)];refine hN _ _ ?_;clear hN N;walk_at "";refine⟨_,.exc hea T.ek_49,_,T.kt_49_49,?_⟩;refine⟨_,.exc hea T.ek_49,_,T.kt_49_28,?_⟩;exact q _ eX
 |false =>
  rw[qE (by decide)]at hea;refine⟨_,.exc hea T.ek_28,_,T.kt_NoWayBack_ValueError,?_⟩;rw[qE (by decide)];refine⟨_,.exc hea T.ek_28,_,T.kt_28_64,?_⟩;rw[qE (by decide)];refine hN _ _ ?_;clear hN N;walk_at "";refine⟨_,.exc hea T.ek_28,_,T.kt_28_49,?_⟩;refine⟨_,.exc hea T.ek_28,_,T.kt_28_28,?_⟩;exact q _ eX
theorem Ee:AK ["_law_one","_law_many","_law_other","_law_long","_law_size","_law_at","_law_k","_law_word_here","_law_seen_here","_law_i","_law_told_here","_law_sign"] ["_law_one","_law_many","_law_other","_law_long"] (AH VC):=CA (by decide +kernel)
theorem W6(T:B8 K mg t)(G_17:Al P w K mg base 1 t.f_17 ["_law_signs","_law_many"] (Cq))(G_35:Al P w K mg base 1 t.f_35 ["_law_number","_law_signs","_law_many"] (Eh)):Al P w K mg base 2 t.f_13 ["_law_one","_law_many","_law_other","_law_long"] (FK):=by
 refine Ak T.d_13 Ee (λ_ _ _ _ _ _=>b4 λ_ _ _ _=>rfl) λvs H Q E h=>?_;obtain⟨r,r',g,lo,lo',b9,tab',m,m',at',rfl,ok,ok',ha,hat,big,un,q⟩:=h;refine⟨rfl,λbh A outer s hr=>?_⟩
 refine⟨_,(AC (AS 4 Ee (AG An (AG AY (pv 1) (pv 3)) AB))
  (AC (AS 5 Ee (AG An (AG An AB (AJ (Bh K) (pv 0) AB (λ_ _=>rfl))) (AJ (Bh K) (pv 2) AB (λ_ _=>rfl))))
  (AC (Au (PW.pt (CB (AM Ck (pv 5) AB (AR _)) (CH (AM Ko (pv 5) (pv 4) (AR _))))) (AF (AL Cj)) AV)
  (AC (BD PassesOwn.never rfl (A4 rfl T.z_range (AA (AQ hr G_17 T.m_17 (AA (AJ (Bh K) (pv 0) AB (λ_ _=>rfl)) (AA (pv 4) AD))) AD)) (BC 6 Ee) (AC (AS 7 Ee (AQ hr G_35 T.m_35 (AA (pv 6) (AA (AJ (Bh K) (pv 0) AB (λ_ _=>rfl)) (AA (pv 4) AD)))))
  (AC (AS 8 Ee AB)
  (AC (BD PassesOwn.never rfl (A4 rfl T.z_range (AA (pv 3) AD)) (BC 9 Ee) (AC (AS 10 Ee AB)
  (AC (BD PassesOwn.never rfl (Q5 K (FQ Go (pv 7) (FP (pv 9)) (FP (AG AY (pv 9) (pv 1))))) (BC 11 Ee) (AF (AS 10 Ee (AG AY (AG A9 (pv 10) (AJ (Bh K) (pv 0) AB (λ_ _=>rfl))) (pv 11)))))
  (AF (AS 8 Ee (AG AY (AG A9 (pv 8) (AJ (Bh K) (pv 0) AB (λ_ _=>rfl))) (AJ (Bh K) (AJ (Bh K) (pv 0) AB (λ_ _=>rfl)) (pv 10) (λ_ _=>rfl))))))))
  (AF (Au (AM ED (AJ (Bh K) (AJ (Bh K) (pv 2) AB (λ_ _=>rfl)) (pv 8) (λ_ _=>rfl)) (AJ (CJ K) (pv 7) (pv 5) (λ_ _=>rfl)) (AR _)) (AF (AL Cj)) AV))))))
  (AF (AL Cj)))))),?_⟩
 refine A5.el ok.v λtb h1 h2=>?_;refine A5.el ok'.v λtb' h1' h2'=>?_;have g2:=ok.g2;have g9:=ok.g9;have m1:=ok.m1;have m1':=ok'.m1;have m8:=ok.m8;have m8':=ok'.m8;obtain⟨s,hs⟩:∃s:Nat,s=m+m'-1:=⟨_,rfl⟩;rw[<-hs]at hat big un;refine As λN hN=>?_;walk_at "";refine hN _ _ ?_;clear hN N;rw[show ((m:Nat):Int)+((m':Nat):Int)-1=((s:Nat):Int) by lia];refine As λN hN=>?_;walk_at "";refine (Bz (Ad.of h1) rfl ⟨_,rfl,r',_,1,_,rfl,rfl,Ad.of h1',rfl,_,rfl,hN _ _ ?_⟩);clear hN N;rw[<-ha];refine As λN hN=>?_;walk_at "";rw[qE (by lia),qE (by lia)];refine hN _ _ ?_;clear hN N;have gp:=RW.Ab g2 s;refine XY (λσ HX=>AI H HX) (λN hN=>?_) ?_
 ·refine⟨_,rfl,r,_,0,_,rfl,rfl,Ad.of h1,rfl,_,rfl,g,_,rfl,g2,g9,by lia,by lia,_,rfl,by rw[YM];lia,by rw[YM];lia,?_⟩;rw[YM];refine BX (n:=(g^s).toNat) (λi σ HX=>(∃x6 x7 x8 x9 x10 x11,σ=[some (.ref r),some (.int ((m:Nat):Int)),some (.ref r'),some (.int ((m':Nat):Int)),some (.int ((s:Nat):Int)),some (.int ((at':Nat):Int)),x6,x7,x8,x9,x10,x11])/\AI H HX) ⟨⟨none,none,none,none,none,none,rfl⟩,AI.refl _⟩ ?_ λσ HX z=>hN _ _ z.2
  refine Ed ?_;rintro _ _ i _ hGo σ HX hi ⟨⟨x6,x7,x8,x9,x10,x11,rfl⟩,eX⟩;refine hGo _ _ ?_;refine As λN hN=>?_;walk_at "";refine (Bz (Ad.of (eX _ _ h1)) rfl ⟨_,g,_,rfl,g2,g9,by lia,by lia,λpw H3 n3=>hN _ _ ?_⟩);clear hN N;rw[YM]at n3;have wl:=A1 g (0+(i:Int)) s;have wb:=Bd g2 (0+(i:Int)) s;have hw3:=n3.2.2;have e3:=eX.trans n3.1;have un':=un _ wl wb;generalize Af g (0+(i:Int)) s=w at wl wb hw3 un'⊢;have ll:(Ap g b9 m w).length=m':=by rw[BH];lia
  have lb:=FY g2 ok.tb m w;have tk:(Ap g b9 m w).take m'=Ap g b9 m w:=ZI (by lia);have nb':=BN g2 lb;rw[ll,<-ok'.len]at nb';clear n3;refine As λN hN=>?_;walk_at "";refine hN _ _ ?_;clear hN N;refine CG (λσ HX=>(∃x9 x10 x11,σ=[some (.ref r),some (.int ((m:Nat):Int)),some (.ref r'),some (.int ((m':Nat):Int)),some (.int ((s:Nat):Int)),some (.int ((at':Nat):Int)),some (.int (0+(i:Int))),some (.ref pw),some (.int (Av g (Ap g b9 m w))),x9,x10,x11])/\AI H3 HX) (λN hN=>?_) ?_
  ·refine⟨_,rfl,_,rfl,by lia,by lia,?_⟩;rw[YM];refine BX (n:=m') (λj σ HX=>(∃x9 x10 x11,σ=[some (.ref r),some (.int ((m:Nat):Int)),some (.ref r'),some (.int ((m':Nat):Int)),some (.int ((s:Nat):Int)),some (.int ((at':Nat):Int)),some (.int (0+(i:Int))),some (.ref pw),some (.int (Av g ((Ap g b9 m w).take j))),x9,x10,x11])/\AI H3 HX) ⟨⟨_,_,_,rfl⟩,AI.refl _⟩ ?_ λσ HX z=>hN _ _ (by rw[tk]at z;exact z)
   refine Ed ?_;rintro _ _ j _ hGo σ H4 hj ⟨⟨x9',x10',x11',rfl⟩,e4⟩;refine hGo _ _ ?_;have e34:=e3.trans e4;have ej:(0:Int)+(j:Int)=((j:Nat):Int):=by lia
   rw[ej];have ejm:((j:Nat):Int)+((m:Nat):Int)=((j+m:Nat):Int):=by lia
   have hj':j+m<=w.length:=by lia
   have wi:=MQ g2 wb ok.len (k:=j) hj';refine As λN hN=>?_;walk_at "";refine hN _ _ ?_;clear hN N;refine CG (λσ HX=>(∃x11,σ=[some (.ref r),some (.int ((m:Nat):Int)),some (.ref r'),some (.int ((m':Nat):Int)),some (.int ((s:Nat):Int)),some (.int ((at':Nat):Int)),some (.int (0+(i:Int))),some (.ref pw),some (.int (Av g ((Ap g b9 m w).take j))),some (.int ((j:Nat):Int)),some (.int (Av g ((w.drop j).take m))),x11])/\AI H4 HX) (λN hN=>?_) ?_
   ·refine⟨_,rfl,_,rfl,_,rfl,_,rfl,_,rfl,_,_,rfl,rfl,_,rfl,?_⟩;rw[ejm];refine KD (Ai.of (e4 _ _ hw3)) λp8 H8 e8 _ h8=>?_;rw[Pi (by lia) (by rw[YG];lia),<-List.map_drop,<-List.map_take,show j+m-j=m by lia]at h8;refine⟨p8,rfl,⟨_,Ai.of h8⟩,?_⟩;refine CY (xs:=((w.drop j).take m).map V.int) (λk σ HX=>(∃x11,σ=[some (.ref r),some (.int ((m:Nat):Int)),some (.ref r'),some (.int ((m':Nat):Int)),some (.int ((s:Nat):Int)),some (.int ((at':Nat):Int)),some (.int (0+(i:Int))),some (.ref pw),some (.int (Av g ((Ap g b9 m w).take j))),some (.int ((j:Nat):Int)),some (.int (Av g (((w.drop j).take m).take k))),x11])/\HX=H8) ⟨⟨_,rfl⟩,rfl⟩ (λk σ HX _ z=>by rw[z.2];exact Ai.of h8) ?_ ?_
    ·refine Lp ?_;rintro _ _ k x _ hGo σ HX' hx ⟨⟨x6',rfl⟩,rfl⟩;refine hGo _ _ ?_;obtain⟨n,hn,rfl⟩:=C4 hx;walk_at "";refine (Bz (Ad.of (e8 _ _ (e34 _ _ h1))) rfl ?_);walk_at "";refine⟨.inr ⟨by lia,by lia⟩,?_⟩;rw[FW hn];exact⟨rfl,_,rfl⟩
    ·rintro σ HX' ⟨⟨x6',rfl⟩,rfl⟩;rw[YG,ZC];exact hN _ _ ⟨⟨_,rfl⟩,e8⟩
   rintro _ hGo σ H9 ⟨⟨x11,rfl⟩,e9⟩;refine hGo _ _ ?_;have e39:=e34.trans e9;walk_at ""
   have gj:(Ap g b9 m w)[j]?=some (b9.getD (Av g ((w.drop j).take m)).toNat 0):=by rw[<-DA hj',YH,YI (by lia)];rfl
   refine (Bz (Ad.of (e39 _ _ h1)) rfl ⟨_,rfl,.inr ⟨by lia,by lia⟩,Bz (Ad.of (e39 _ _ h1)) rfl (Bz (Ad.of (e39 _ _ h2)) (BJ wi.1 wi.2) ⟨_,rfl,?_,⟨_,rfl⟩,e4.trans e9⟩)⟩);rw[FW gj]
  rintro _ hGo σ H5 ⟨⟨x9',x10',x11',rfl⟩,e5⟩;refine hGo _ _ ?_;have e35:=e3.trans e5;walk_at "";refine (Bz (Ad.of (e35 _ _ h1')) rfl (Bz (Ad.of (e35 _ _ h2')) (BJ nb'.1 (by lia)) (Ce (Ai.of (e5 _ _ hw3)) (CZ (by lia)) ⟨rfl,?_⟩)));rw[un',qE (λz=>z rfl)];exact⟨⟨_,rfl⟩,e35⟩
 rintro σ HX eX;walk_at "";exact q _ eX
theorem W7:AK ["_law_first","_law_second","_law_kind"] ["_law_first","_law_second"] (AH Xn):=CA (by decide +kernel)
theorem X1(T:B8 K mg t)(G_11:Al P w K mg base 1 t.f_11 ["_law_cell","_law_many"] (Il)):Al P w K mg base 2 t.f_3 ["_law_first","_law_second"] (Iv):=by
 refine Ak T.d_3 W7 (λ_ _ _ _ _ _=>b2 λ_ _=>rfl) λvs H Q E h=>?_;obtain⟨c1,c2,rfl,q⟩:=h;refine⟨rfl,λbh A outer s hr=>?_⟩;refine TC ?_
 refine⟨_,(Bg (CV (i:=2) W7.nd rfl (Or.inl rfl) (IA (CJ K) (Fe (AO (AO (AO (AO (AO (AO (AO (AO (AO (AO (AO (AO (AO (AO Fd))))))))))))))) (.of (AG Aa (pv 0) AB)) (λ_ _=>rfl)) rfl (by first|exact .inl rfl|exact .inr rfl))
  (Bg (KL (PW.pt (E1 (AM BG (pv 2) AB (AR _)) (Dn (AM BG (AG Aa (AG BF (pv 0) AB) AB) AB (AR _))))) (Ei (.of (AL (Bs BG (AG Aa (AJ (CJ K) (AQ hr G_11 T.m_11 (AA (pv 1) (AU AD))) AB (λ_ _=>rfl)) AB) AB (AR _))))) Gw)
  (Ei (.of (AL (SY (Bs BG (pv 2) AB (AR _)) (Do (EB (Bs BG (pv 2) AB (AR _)) (Do (Bs BG (AG Aa (AG BF (pv 0) AB) AB) AB (AR _))))))))))),?_⟩
 have k6:=M7 c1
 have ek:((Iz c1:Nat):Int)=([0,1,1,2,2,3,4,5,6,6,3,4,6,1]:List Int).getD (c1%14).toNat 0:=by
  unfold Iz;have h:(c1%14).toNat<14:=by lia
  generalize (c1%14).toNat=i at h;have z:∀i<14,((([0,1,1,2,2,3,4,5,6,6,3,4,6,1]:List Nat).getD i 0:Nat):Int)=([0,1,1,2,2,3,4,5,6,6,3,4,6,1]:List Int).getD i 0:=by decide
  exact z i h
 refine As λN hN=>?_;walk_at "";refine⟨by decide,λp hp=>⟨by decide,Ce (Ai.of AE) (BJ (ns:=[0,1,1,2,2,3,4,5,6,6,3,4,6,1]) (by lia) (by show (c1%14).toNat<14;lia)) (hN _ _ ?_)⟩⟩;clear hN N;rw[<-ek];have e1:=AI.new hp (.lst (([0,1,1,2,2,3,4,5,6,6,3,4,6,1]:List Int).map V.int));refine E3 (λHX=>AI H HX) e1 ?_;clear e1 hp p ek;rintro H1 e1
 have tw:UL c1 c2=decide (Iz c1=5\/(Iz c1=6/\c1/14%4=3)\/(Iz c1=4/\c1/14%4=2/\xn (D7 c2 15) 12%2=1)):=by
  unfold UL TH
  congr 1
  have i4:(c1/14%4).toNat<4:=by lia
  have a4:Iz c1=4->(gF c1=8↔c1/14%4=2):=λz=>by
   unfold gF;rw[z];show ([4,4,8,9]:List Nat).getD (c1/14%4).toNat 0=8↔_;have y:∀i<4,([4,4,8,9]:List Nat).getD i 0=8↔i=2:=by decide
   rw[y _ i4];lia
  have a6:Iz c1=6->(gF c1=7↔c1/14%4=3):=λz=>by
   unfold gF;rw[z];show ([5,6,5,7]:List Nat).getD (c1/14%4).toNat 0=7↔_;have y:∀i<4,([5,6,5,7]:List Nat).getD i 0=7↔i=3:=by decide
   rw[y _ i4];lia
  refine propext ⟨?_,?_⟩
  ·rintro (z|⟨z,y⟩|⟨z,y,x⟩)
   ·exact .inl z
   ·exact .inr (.inl ⟨z,(a6 z).mp y⟩)
   ·exact .inr (.inr ⟨z,(a4 z).mp y,x⟩)
  ·rintro (z|⟨z,y⟩|⟨z,y,x⟩)
   ·exact .inl z
   ·exact .inr (.inl ⟨z,(a6 z).mpr y⟩)
   ·exact .inr (.inr ⟨z,(a4 z).mpr y,x⟩)
 rw[tw]at q;clear tw;generalize Iz c1=k at k6 q⊢;refine As λN hN=>?_;walk_at ""
 have fin:¬(k=4/\c1/14%4=2)->N [some (.int c1),some (.int c2),some (.int ((k:Nat):Int))] H1:=λno=>by
  refine hN _ _ ?_;clear hN N;walk_at ""
  by_cases z5:((k:Nat):Int)=5
  ·rw[qF z5];have q':=q H1 e1;rw[qH (.inl (by lia))]at q';exact q'
  ·rw[qE z5]
   by_cases z6:((k:Nat):Int)=6
   ·rw[qF z6];refine⟨by decide,by decide,by decide,?_⟩;have q':=q H1 e1;rw[show decide (k=5\/(k=6/\c1/14%4=3)\/(k=4/\c1/14%4=2/\xn (D7 c2 15) 12%2=1))=decide (c1/14%4=3) from ?_]at q'
    ·exact q'
    ·congr 1
     refine propext ⟨?_,λx=>.inr (.inl ⟨by lia,x⟩)⟩;rintro (x|⟨_,x⟩|⟨x,_⟩)
     ·lia
     ·exact x
     ·lia
   ·rw[qE z6];have q':=q H1 e1;rw[qI ?_]at q'
    ·exact q'
    ·rintro (x|⟨x,_⟩|⟨x,y,_⟩)
     ·lia
     ·lia
     ·exact no ⟨x,y⟩
 by_cases z:((k:Nat):Int)=4
 ·rw[qF z];refine⟨by decide,by decide,by decide,?_⟩
  by_cases y:c1/14%4=2
  ·rw[qF y];refine⟨c2,15,rfl,by decide,by decide,λr H' e _ hr=>(Ce (Ai.of hr) (CZ (k:=12) (by rw[Ec];decide)) ⟨_,rfl,by decide,?_⟩)⟩;have b:=Kg c2 15 ((D7 c2 15).getD 12 0) (by rw[YH,YI (by rw[Ec];decide)];exact ZM _);have k4:k=4:=by lia
   have q':=q H' (e1.trans e);rw[show decide (k=5\/(k=6/\c1/14%4=3)\/(k=4/\c1/14%4=2/\xn (D7 c2 15) 12%2=1))=decide ((D7 c2 15).getD 12 0%2=1) from ?_]at q'
   ·exact q'
   ·congr 1
    have hx:xn (D7 c2 15) 12=((D7 c2 15).getD 12 0).toNat:=rfl;rw[hx];clear hx;generalize (D7 c2 15).getD 12 0=u at b⊢;refine propext ⟨?_,λx=>.inr (.inr ⟨k4,y,by lia⟩)⟩;rintro (x|⟨x,_⟩|⟨_,_,x⟩)
    ·lia
    ·lia
    ·lia
  ·rw[qE y];exact fin λx=>y x.2
 ·rw[qE z];exact fin λx=>z (by lia)
theorem Ft:AK ["_law_script","_law_low_here","_law_core_here","_law_many","_law_one","_law_xs","_law_refusal","_law_found","_law_size"] ["_law_script"] (AH SR):=CA (by decide +kernel)
theorem W8{f:Addr}{fd:FuncData}(T:B8 K mg t)(F:Bn K "law" "law" SR f fd)(G_44:Al P w K mg base 1 t.f_44 ["_law_cell"] (Ki))(G_29:Al P w K mg base 4 t.f_29 ["_law_first","_law_second","_law_low_here"] (Ir LP t.p_29))(G_34:Al P w K mg base 2 t.f_34 ["_law_core_here","_law_many","_law_cell"] (Iu))(G_11:Al P w K mg base 1 t.f_11 ["_law_cell","_law_many"] (Il))(G_3:Al P w K mg base 2 t.f_3 ["_law_first","_law_second"] (Iv))(G_19:Al P w K mg base 11 t.f_19 ["_law_one"] (Er t.c_28 t.c_49))(G_10:Al P w K mg base 2 t.f_10 ["_law_found","_law_signs"] (F9))(G_4:Al P w K mg base 1 t.f_4 ["_law_script","_law_k"] (MH K))(G_5:Al P w K mg base 12 t.f_5 ["_law_one","_law_wide_here"] (Iw))(G_13:Al P w K mg base 2 t.f_13 ["_law_one","_law_many","_law_other","_law_long"] (FK))(G_9:Al P w K mg base 2 t.f_9 ["_law_one","_law_many","_law_j"] (FJ))(G_17:Al P w K mg base 1 t.f_17 ["_law_signs","_law_many"] (Cq))(G_6:Al P w K mg base 1 t.f_6 ["_law_core_here","_law_number"] (GQ))(G_1:Al P w K mg base 2 t.f_1 ["_law_xs","_law_low_here"] (GR K)):Fz P w K mg base (JS P w) 13 f fd ["_law_script"] (KZ K [t.p_29]):=by
 refine F.okY Ft λvs H Q E h=>?_;obtain⟨a,ns,rfl,hS,h63,hT,q⟩:=h;refine⟨rfl,λbh A outer s hr=>?_⟩
 refine⟨_,(AC (AS 1 Ft (AQ hr G_44 T.m_44 (AA (AQ hr G_4 T.m_4 (AA (pv 0) (AU AD))) AD)))
  (AC (Ju (AQ hr G_29 T.m_29 (AA (AQ hr G_4 T.m_4 (AA (pv 0) (AU AD))) (AA (AQ hr G_4 T.m_4 (AA (pv 0) (AU AD))) (AA (pv 1) AD)))) (ML rfl (BK (BC 2 Ft) (BK (BC 3 Ft) DH))))
  (AC (AS 4 Ft (AQ hr G_34 T.m_34 (AA (pv 2) (AA (pv 3) (AA (AQ hr G_4 T.m_4 (AA (pv 0) (AU AD))) AD)))))
  (AC (AS 5 Ft (AQ hr G_11 T.m_11 (AA (AQ hr G_4 T.m_4 (AA (pv 0) (AU AD))) (AU AD))))
  (AC (Au (PW.pt (CB (By (Bb (AQ hr G_5 T.m_5 (AA (AQ hr G_6 T.m_6 (AA (pv 2) (AA (AJ (CJ K) (pv 5) AB (λ_ _=>rfl)) AD))) (AA Cj AD))))) (CH (By (Bb (AQ hr G_5 T.m_5 (AA (AQ hr G_1 T.m_1 (AA (pv 5) (AA (pv 1) AD))) (AA Cj AD)))))))) (AF (AL Cj)) AV)
  (AC (Au (Bb (AQ hr G_3 T.m_3 (AA (AQ hr G_4 T.m_4 (AA (pv 0) (AU AD))) (AA (AQ hr G_4 T.m_4 (AA (pv 0) (AU AD))) AD)))) (AF (AL (AQ hr G_5 T.m_5 (AA (pv 4) (AA Cj AD))))) AV)
  (AC (Ju (AQ hr G_19 T.m_19 (AA (pv 4) AD)) (ML rfl (BK (BC 6 Ft) (BK (BC 7 Ft) DH))))
  (AC (AS 8 Ft (AQ hr G_10 T.m_10 (AA (pv 7) (AA (AJ (Bh K) (pv 2) AB (λ_ _=>rfl)) AD))))
  (AC (Au (PW.pt (CB (AM NG (pv 6) Ez (AR _)) (CH (AM BG (pv 8) AB (AR _))))) (AF (AL Cj)) AV)
  (AC (Au (PW.pt (CB (By (Bb (AQ hr G_9 T.m_9 (AA (pv 7) (AA (pv 8) (AU AD)))))) (CH (By (Bb (AQ hr G_9 T.m_9 (AA (pv 7) (AA (pv 8) (AA (AG An (pv 8) AB) AD))))))))) (AF (AL Cj)) AV)
  (AC (Au (PW.pt (E1 (AM EE (AQ hr G_17 T.m_17 (AA (AJ (Bh K) (pv 2) AB (λ_ _=>rfl)) (AA (AG An (pv 8) AB) AD))) AB (AR _)) (Dn (By (Bb (AQ hr G_5 T.m_5 (AA (pv 7) (AA Cj AD)))))))) (AF (AL Cj)) AV)
  (AF (AL (EB (AQ hr G_13 T.m_13 (AA (pv 2) (AA (pv 3) (AA (pv 7) (AA (pv 8) AD))))) (Do (AQ hr G_13 T.m_13 (AA (pv 7) (AA (pv 8) (AA (pv 2) (AA (pv 3) AD)))))))))))))))))))),?_⟩
 have tb0:Co LP (UI "_law_core") t.p_29 H:=Co.start (hT _ (YT.mpr rfl));refine As λN hN=>?_;walk_at "";refine⟨a,ns,2,rfl,hS,h63,_,rfl,λlo=>hN _ _ ?_⟩;clear hN N;refine As λN hN=>?_;walk_at "";refine⟨a,ns,0,rfl,hS,h63,a,ns,1,rfl,hS,h63,_,_,lo,rfl,tb0,λp0 r H1 g b9 m d tf mf top e1 tb1 hp0 ok1 core=>?_⟩;refine⟨p0,_,rfl,Ai.of hp0,rfl,_,_,rfl,_,_,rfl,rfl,hN _ _ ?_⟩;clear hN N hp0;have hS1:=DQ.seq e1 tb0 hS;clear e1 tb1 tb0 hS;have g2:=core.g2;have g9:=core.g9;refine As λN hN=>?_;walk_at "";refine⟨a,ns,3,rfl,hS1,h63,r,g,lo,b9,m,_,rfl,ok1,core.m4,core.m3,λr2 lo2 tab2 M2 H2 e2 ok2 al2=>hN _ _ ?_⟩;clear hN N;refine As λN hN=>?_;walk_at "";refine⟨a,ns,4,rfl,e2.seq hS1,h63,_,8,rfl,by decide,by decide,λpx H3 e3 _ hx3=>hN _ _ ?_⟩;clear hN N;have e13:=e2.trans e3;have xl:=Ec (ns.getD 4 0) 8;have xb:=Kg (ns.getD 4 0) 8;rw[show ((8:Int).toNat)=8 from rfl]at hx3;generalize D7 (ns.getD 4 0) 8=xs at xl xb hx3;refine CG (λσ HX=>σ=[some (.ref a),some (.int lo),some (.ref r),some (.int ((m:Nat):Int)),some (.ref r2),some (.ref px),none,none,none]/\AI H3 HX) (λN hN=>?_) ?_
 ·walk_at "";have x5:=xb (xs.getD 5 0) (by rw[YH,YI (by rw[xl];decide)];exact ZM _);refine (Ce (Ai.of hx3) (CZ (k:=5) (by rw[xl];decide)) ⟨r,g,lo,b9,m,_,rfl,ok1.same e13,x5.1,λr5 at' v H5 e5 hat v0 vg vn ok5=>?_⟩);obtain⟨lf',tf',mf',fw',wn⟩:=Bm.spoil core lo hat ⟨v0,vg⟩ vn;refine⟨r5,g,lo,_,m,lf',tf',mf',false,rfl,ok5,fw',(by intro z;cases z),λ_=>wn,λH6 e6=>⟨true,rfl,?_⟩⟩;rw[qE (by decide)];have e36:=e5.trans e6;refine⟨px,lo,xs,rfl,Ai.of (e36 _ _ hx3),xl,xb,λr7 g7 tab7 m7 H7 e7 ok7 fw7 big7=>?_⟩;refine⟨r7,g7,lo,tab7,m7,lo,tab7,m7,true,rfl,ok7,fw7,λ_=>.inl big7,(by intro z;cases z),λH8 e8=>⟨true,rfl,?_⟩⟩;rw[qE (by decide)];exact hN _ _ ⟨rfl,(e36.trans e7).trans e8⟩
 rintro _ hGo σ H4 ⟨rfl,e4⟩;refine hGo _ _ ?_;have e14:=e13.trans e4;have fw2:=core.fr lo lo2 tab2 M2 ok2.len al2.symm;have ok24:=ok2.same (e3.trans e4);have ok14:=ok1.same e14;refine CG (λσ HX=>σ=[some (.ref a),some (.int lo),some (.ref r),some (.int ((m:Nat):Int)),some (.ref r2),some (.ref px),none,none,none]/\AI H4 HX/\UL (ns.getD 0 0) (ns.getD 1 0)=false) (λN hN=>?_) ?_
 ·walk_at "";refine⟨a,ns,0,rfl,e14.seq hS1,h63,a,ns,1,rfl,e14.seq hS1,h63,_,_,rfl,λH5 e5=>⟨_,rfl,?_⟩⟩;cases tw:UL (ns.getD 0 0) (ns.getD 1 0) with
  |true =>
   rw[qF rfl];exact⟨r2,g,lo2,tab2,M2,lo+d,tf,mf,true,rfl,ok24.same e5,fw2,λ_=>Bm.big core tw,(by intro z;cases z),λH6 e6=>q _⟩
  |false =>
   rw[qE (by decide)];exact hN _ _ ⟨rfl,e5,tw⟩
 rintro _ hGo σ H5 ⟨rfl,e5,tw⟩;refine hGo _ _ ?_;have ok25:=ok24.same e5;have ok15:=ok14.same e5;clear ok24 ok14;have tfb:=GM g2 ok2.tb fw2;refine CG (λσ HX=>∃(r':Addr) (ba left bf:Nat),σ=[some (.ref a),some (.int lo),some (.ref r),some (.int ((m:Nat):Int)),some (.ref r2),some (.ref px),some .non,some (.ref r'),none]/\AI H5 HX/\Q3 g tf mf ba left/\ba+left+2=mf+bf/\Ah HX r' g (-(lo+d)-(ba:Int)) (Jj g tf mf ba bf) bf) (λN hN=>?_) ?_
 ·refine⟨_,rfl,r2,g,lo2,tab2,M2,lo+d,tf,mf,rfl,ok25,fw2,λz=>?_,λz=>?_,λsm ba left bf bx em n1 s256 p r' H6 e6 ok6 hp=>?_⟩
  ·exfalso;obtain⟨rk,hr,_⟩:=core.rise;exact z.2 rk hr
  ·exact qG z (Bm.not_wide core tw)
  ·exact⟨p,_,rfl,Ai.of hp,rfl,_,_,rfl,_,_,rfl,rfl,hN _ _ ⟨r',ba,left,bf,rfl,e6,bx,em,ok6⟩⟩
 rintro _ hGo σ H6 ⟨r',ba,left,bf,rfl,e6,bx,em,ok'⟩;refine hGo _ _ ?_;have ok16:=ok15.same e6;refine A5.el ok16.v λtb h1 h2=>?_;have n1:=ok'.m1;have n8:=ok'.m8;have s256:=ok'.sz;have ends:=Q3.ends g2 core.tfl core.mf2 tfb bx em n1;refine As λN hN=>?_;walk_at "";refine (Bz (Ad.of h1) rfl ⟨r',g,_,_,bf,rfl,ok',hN _ _ ?_⟩);clear hN N;refine As λN hN=>?_;walk_at "";rw[qE (by lia)];refine hN _ _ ?_;clear hN N;refine As λN hN=>?_;walk_at "";refine⟨r',g,_,_,bf,0,rfl,g2,g9,ok'.v,ok'.len,by lia,n8,s256,?_⟩;rw[aK,ends.1];refine⟨true,rfl,?_⟩;rw[qE (by decide),show ((bf:Nat):Int)-1=((bf-1:Nat):Int) by lia];refine⟨r',g,_,_,bf,bf-1,rfl,g2,g9,ok'.v,ok'.len,by lia,n8,s256,?_⟩;rw[show bf-1-(bf-1)=0 by lia,Yq,ends.2];refine⟨true,rfl,?_⟩;rw[qE (by decide)];refine hN _ _ ?_;clear hN N;refine CG (λσ HX=>σ=[some (.ref a),some (.int lo),some (.ref r),some (.int ((m:Nat):Int)),some (.ref r2),some (.ref px),some .non,some (.ref r'),some (.int ((bf:Nat):Int))]/\AI H6 HX) (λN hN=>?_) ?_
 ·walk_at "";refine (Bz (Ad.of h1) rfl ⟨g,_,rfl,g2,g9,by lia,by lia,_,rfl,?_⟩);rw[show (((bf:Nat):Int)-1).toNat=bf-1 by lia]
  by_cases z:9<g^(bf-1)
  ·rw[qF z];have n2:2<=bf:=by apply Decidable.byContradiction;intro y;rw[show bf-1=0 by lia,Yq]at z;lia
   exact⟨r',g,_,_,bf,_,_,bf,true,rfl,ok',E7 g2 ok'.len ok'.len (λ_ _=>rfl) n2 ends.1 ends.2,λ_=>.inl z,(by intro z;cases z),λH7 e7=>⟨true,rfl,by rw[qE (by decide)];exact hN _ _ ⟨rfl,e7⟩⟩⟩
  ·rw[qE z];exact hN _ _ ⟨rfl,AI.refl _⟩
 rintro _ hGo σ H7 ⟨rfl,e7⟩;refine hGo _ _ ?_;walk_at "";obtain⟨a1,u1,u2,u3⟩:=Bm.un1 core tfb bx em n1 lo;obtain⟨a2,v1,v2,v3⟩:=Bm.un2 core tfb bx em n1 lo ok'.tb
 have sz:g^(m+bf-1)<=70000:=by rw[show m+bf-1=m-1+bf by have:=core.m1;lia,Int.pow_add];have:=aY core.nd s256 (ZX (RW.Ab g2 bf)) (by decide);lia
 refine⟨r,r',g,lo,_,b9,_,m,bf,a1,rfl,ok16.same e7,ok'.same e7,u1,u2,sz,u3,λH8 e8=>⟨true,rfl,?_⟩⟩;rw[qF rfl];exact⟨r',r,g,_,lo,_,b9,bf,m,a2,rfl,(ok'.same e7).same e8,(ok16.same e7).same e8,v1,v2,by rw[am];exact sz,v3,λH9 e9=>q _⟩
end
theorem VH{l:PySem.W.OpenLaw}{w:World}{K:qJ}{h:Heap}{mg:Str->Option Value}{fa c_43 c_56 c_64 c_57 c_42 c_49 c_28 f_47 f_50 f_22 f_7 f_40 f_55 f_21 f_26 f_8 f_14 f_68 f_62 f_39 f_41 f_66 f_63 f_52 f_58 f_54 f_37 f_59 f_46 f_2 f_38 f_61 f_53 f_65 f_15 f_23 f_51 f_36 f_27 f_45 f_60 f_24 f_25 f_67 f_48 f_20 f_4 f_11 f_17 f_35 f_12 f_16 f_32 f_18 f_0 f_30 f_33 f_29 f_44 f_31 f_34 f_1 f_9 f_10 f_6 f_19 f_5 f_13 f_3 f_69 k_EVEN cc_29 p_29:Addr}{g_LONGEST_TABLE g_MOST_NODES:Tok}(X:K.In h)(G:h.Ns mainGlobals mg)(hfa:mg "law"=some (.ref fa))
  (n_43:PySem.W.nsIn K mainGlobals "RowError"=some (some (.ref c_43)))
  (n_56:PySem.W.nsIn K mainGlobals "NoRule"=some (some (.ref c_56)))
  (n_64:PySem.W.nsIn K mainGlobals "NoRow"=some (some (.ref c_64)))
  (n_57:PySem.W.nsIn K mainGlobals "NoSuch"=some (some (.ref c_57)))
  (n_42:PySem.W.nsIn K mainGlobals "NoWindow"=some (some (.ref c_42)))
  (n_49:PySem.W.nsIn K mainGlobals "TooWide"=some (some (.ref c_49)))
  (n_28:PySem.W.nsIn K mainGlobals "NoWayBack"=some (some (.ref c_28)))
  (n_EVEN:PySem.W.nsIn K mainGlobals "EVEN"=some (some (.ref k_EVEN)))
  (q_EVEN:Nj K k_EVEN [0,0]=true)
  (h_47:AW K "is_whole" UM f_47)
  (h_50:AW K "is_sign" UN f_50)
  (h_22:AW K "check_word" UO f_22)
  (h_7:AW K "check_length" Xe f_7)
  (h_40:AW K "number_of" UP f_40)
  (h_55:AW K "word_of" UQ f_55)
  (h_21:AW K "check_head" UR f_21)
  (h_26:AW K "places_for" US f_26)
  (h_8:AW K "table_length" Xf f_8)
  (h_14:AW K "check_table" UT f_14)
  (h_68:AW K "rule" UU f_68)
  (h_62:AW K "places" UV f_62)
  (h_39:AW K "next_sign" UW f_39)
  (h_41:AW K "told_from" UX f_41)
  (h_66:AW K "heads" UY f_66)
  (h_63:AW K "shares" UZ f_63)
  (h_52:AW K "ways_on" Ua f_52)
  (h_58:AW K "choose" Ub f_58)
  (h_54:AW K "word_by" Uc f_54)
  (h_37:AW K "before_at" Ud f_37)
  (h_59:AW K "counts" Ue f_59)
  (h_46:AW K "counting" Uf f_46)
  (h_2:AW K "sign_or_nought" Xg f_2)
  (h_38:AW K "by_window" Ug f_38)
  (h_61:AW K "narrow" Uh f_61)
  (h_53:AW K "widened" Ui f_53)
  (h_65:AW K "frame" Uj f_65)
  (h_15:AW K "turned_back" Uk f_15)
  (h_23:AW K "most_steps" Ul f_23)
  (h_51:AW K "pair_of" Um f_51)
  (h_36:AW K "all_pairs" Uo f_36)
  (h_27:AW K "word_pairs" Up f_27)
  (h_45:AW K "begin_of" Uq f_45)
  (h_60:AW K "end_of" Ur f_60)
  (h_24:AW K "pair_nexts" Us f_24)
  (h_25:AW K "pair_ranks" Ut f_25)
  (h_67:AW K "ranks" Uu f_67)
  (h_48:AW K "way_back" Uv f_48)
  (h_20:AW K "_law_whole" Uw f_20)
  (h_4:AW K "_law_cell_at" Xh f_4)
  (h_11:AW K "_law_stream" Ux f_11)
  (h_17:AW K "_law_power" Uy f_17)
  (h_35:AW K "_law_word" Uz f_35)
  (h_12:AW K "_law_tracks" U0 f_12)
  (h_16:AW K "_law_marks" U1 f_16)
  (h_32:AW K "_law_sums" U2 f_32)
  (h_18:AW K "_law_three" U3 f_18)
  (h_0:AW K "_law_steps_down" Xi f_0)
  (h_30:AW K "_law_flip" U4 f_30)
  (h_33:AW K "_law_told" U5 f_33)
  (h_29:Nu K "_law_core" U6 f_29 cc_29 p_29)
  (h_44:AW K "_law_low" U7 f_44)
  (h_31:AW K "_law_seen" U8 f_31)
  (h_34:AW K "_law_wide" U9 f_34)
  (h_1:AW K "_law_not_small" Xj f_1)
  (h_9:AW K "_law_counts" Xk f_9)
  (h_10:AW K "_law_places" VA f_10)
  (h_6:AW K "_law_spoiled" Xl f_6)
  (h_19:AW K "_law_tried" VB f_19)
  (h_5:AW K "_law_refused" Xm f_5)
  (h_13:AW K "_law_undone" VC f_13)
  (h_3:AW K "_law_too_wide" Xn f_3)
  (h_69:AW K "law" SR f_69)
  (z_len:PySem.W.nsIn K mainGlobals "len"=some none)
  (z_list:PySem.W.nsIn K mainGlobals "list"=some none)
  (z_reversed:PySem.W.nsIn K mainGlobals "reversed"=some none)
  (z_isinstance:PySem.W.nsIn K mainGlobals "isinstance"=some none)
  (z_range:PySem.W.nsIn K mainGlobals "range"=some none)
  (z_int:PySem.W.nsIn K mainGlobals "int"=some none)
  (z_bool:PySem.W.nsIn K mainGlobals "bool"=some none)
  (z_ValueError:PySem.W.nsIn K mainGlobals "ValueError"=some none)
  (z_tuple:PySem.W.nsIn K mainGlobals "tuple"=some none)
  (z_enumerate:PySem.W.nsIn K mainGlobals "enumerate"=some none)
  (z_min:PySem.W.nsIn K mainGlobals "min"=some none)
  (z_sum:PySem.W.nsIn K mainGlobals "sum"=some none)
  (z_sorted:PySem.W.nsIn K mainGlobals "sorted"=some none)
  (z_all:PySem.W.nsIn K mainGlobals "all"=some none)
  (w_LONGEST_TABLE:PySem.W.nsIn K mainGlobals "LONGEST_TABLE"=some (some (.int 256 g_LONGEST_TABLE)))
  (w_MOST_NODES:PySem.W.nsIn K mainGlobals "MOST_NODES"=some (some (.int 9 g_MOST_NODES)))
  (x_42:PySem.W.excIn K c_42 ME "ValueError.__new__"=true)
  (x_49:PySem.W.excIn K c_49 ME "ValueError.__new__"=true)
  (x_28:PySem.W.excIn K c_28 ME "ValueError.__new__"=true)
  (ci_49:(PySem.W.clsIn K c_49).isSome=true)
  (ga_49:PySem.W.findIn K (.ref c_49) "__getattribute__"=some (some (.builtin "BaseException.__getattribute__")))
  (gn_49:PySem.W.findIn K (.ref c_49) "__getattr__"=some none)
  (ca_49:PySem.W.findIn K (.ref c_49) "__class__"=some (some (.builtin "object.__class__")))
  (sg_49:PySem.W.specialIn K (.builtin "object.__class__") "__get__"=some (some (.builtin "getset_descriptor.__get__")))
  (tk_49:PySem.W.takesIn K (.builtin "object.__class__")=some true)
  (mo_49:PySem.W.mroIn K c_49 (.type "object")=some true)
  (mb_49:PySem.W.mroIn K c_49 (.type "BaseException")=some true)
  (ci_28:(PySem.W.clsIn K c_28).isSome=true)
  (ga_28:PySem.W.findIn K (.ref c_28) "__getattribute__"=some (some (.builtin "BaseException.__getattribute__")))
  (gn_28:PySem.W.findIn K (.ref c_28) "__getattr__"=some none)
  (ca_28:PySem.W.findIn K (.ref c_28) "__class__"=some (some (.builtin "object.__class__")))
  (sg_28:PySem.W.specialIn K (.builtin "object.__class__") "__get__"=some (some (.builtin "getset_descriptor.__get__")))
  (tk_28:PySem.W.takesIn K (.builtin "object.__class__")=some true)
  (mo_28:PySem.W.mroIn K c_28 (.type "object")=some true)
  (mb_28:PySem.W.mroIn K c_28 (.type "BaseException")=some true)
  (kt_49_49:PySem.W.kitOne K (.ref c_49) (.ref c_49)=some true)
  (kt_TooWide_ValueError:PySem.W.kitOne K (.ref c_49) (.type "ValueError")=some true)
  (kt_49_64:PySem.W.kitOne K (.ref c_49) (.ref c_64)=some false)
  (kt_49_28:PySem.W.kitOne K (.ref c_49) (.ref c_28)=some false)
  (kt_28_49:PySem.W.kitOne K (.ref c_28) (.ref c_49)=some false)
  (kt_NoWayBack_ValueError:PySem.W.kitOne K (.ref c_28) (.type "ValueError")=some true)
  (kt_28_64:PySem.W.kitOne K (.ref c_28) (.ref c_64)=some false)
  (kt_28_28:PySem.W.kitOne K (.ref c_28) (.ref c_28)=some true)
  (em_49_43:PySem.W.exmOne K (.ref c_49) (.ref c_43)=some true)
  (em_28_43:PySem.W.exmOne K (.ref c_28) (.ref c_43)=some true)
  : (∀P∈[p_29],∃c,PySem.W.codeHdIn K c P=true)/\∃fd:FuncData,(∀(s:Shared) (v:Value),BindsTo s fd ⟨[v],[]⟩ [("_law_script",v)])/\∀base:Heap,K.In base->base.Ns mainGlobals mg->IX mg base->Fz l.prog w K mg base (JS l.prog w) 13 fa fd ["_law_script"] (KZ K [p_29]):=by
 have mo:∀{n:Str}{v:Value},PySem.W.nsIn K mainGlobals n=some (some v)->mg n=some v:=λe=>PySem.W.mg_of X G e;have T:B8 K mg ⟨c_43,c_56,c_64,c_57,c_42,c_49,c_28,f_47,f_50,f_22,f_7,f_40,f_55,f_21,f_26,f_8,f_14,f_68,f_62,f_39,f_41,f_66,f_63,f_52,f_58,f_54,f_37,f_59,f_46,f_2,f_38,f_61,f_53,f_65,f_15,f_23,f_51,f_36,f_27,f_45,f_60,f_24,f_25,f_67,f_48,f_20,f_4,f_11,f_17,f_35,f_12,f_16,f_32,f_18,f_0,f_30,f_33,f_29,f_44,f_31,f_34,f_1,f_9,f_10,f_6,f_19,f_5,f_13,f_3,f_69,k_EVEN,cc_29,p_29⟩:=⟨mo n_43,mo n_56,mo n_64,mo n_57,mo n_42,mo n_49,mo n_28,mo n_EVEN,q_EVEN,mo h_47.2,h_47.1,mo h_50.2,h_50.1,mo h_22.2,h_22.1,mo h_7.2,h_7.1,mo h_40.2,h_40.1,mo h_55.2,h_55.1,mo h_21.2,h_21.1,mo h_26.2,h_26.1,mo h_8.2,h_8.1,mo h_14.2,h_14.1,mo h_68.2,h_68.1,mo h_62.2,h_62.1,mo h_39.2,h_39.1,mo h_41.2,h_41.1,mo h_66.2,h_66.1,mo h_63.2,h_63.1,mo h_52.2,h_52.1,mo h_58.2,h_58.1,mo h_54.2,h_54.1,mo h_37.2,h_37.1,mo h_59.2,h_59.1,mo h_46.2,h_46.1,mo h_2.2,h_2.1,mo h_38.2,h_38.1,mo h_61.2,h_61.1,mo h_53.2,h_53.1,mo h_65.2,h_65.1,mo h_15.2,h_15.1,mo h_23.2,h_23.1,mo h_51.2,h_51.1,mo h_36.2,h_36.1,mo h_27.2,h_27.1,mo h_45.2,h_45.1,mo h_60.2,h_60.1,mo h_24.2,h_24.1,mo h_25.2,h_25.1,mo h_67.2,h_67.1,mo h_48.2,h_48.1,mo h_20.2,h_20.1,mo h_4.2,h_4.1,mo h_11.2,h_11.1,mo h_17.2,h_17.1,mo h_35.2,h_35.1,mo h_12.2,h_12.1,mo h_16.2,h_16.1,mo h_32.2,h_32.1,mo h_18.2,h_18.1,mo h_0.2,h_0.1,mo h_30.2,h_30.1,mo h_33.2,h_33.1,mo h_29.2,h_29.1,(let ⟨_,z⟩:=h_29.1;z.hd),mo h_44.2,h_44.1,mo h_31.2,h_31.1,mo h_34.2,h_34.1,mo h_1.2,h_1.1,mo h_9.2,h_9.1,mo h_10.2,h_10.1,mo h_6.2,h_6.1,mo h_19.2,h_19.1,mo h_5.2,h_5.1,mo h_13.2,h_13.1,mo h_3.2,h_3.1,mo h_69.2,h_69.1,PySem.W.mg_none_of X G z_len,PySem.W.mg_none_of X G z_list,PySem.W.mg_none_of X G z_reversed,PySem.W.mg_none_of X G z_isinstance,PySem.W.mg_none_of X G z_range,PySem.W.mg_none_of X G z_int,PySem.W.mg_none_of X G z_bool,PySem.W.mg_none_of X G z_ValueError,PySem.W.mg_none_of X G z_tuple,PySem.W.mg_none_of X G z_enumerate,PySem.W.mg_none_of X G z_min,PySem.W.mg_none_of X G z_sum,PySem.W.mg_none_of X G z_sorted,PySem.W.mg_none_of X G z_all,⟨_,mo w_LONGEST_TABLE⟩,⟨_,mo w_MOST_NODES⟩,x_42,x_49,x_28,⟨ci_49,ga_49,gn_49,ca_49,sg_49,tk_49,mo_49,mb_49⟩,⟨ci_28,ga_28,gn_28,ca_28,sg_28,tk_28,mo_28,mb_28⟩,kt_49_49,kt_TooWide_ValueError,kt_49_64,kt_49_28,kt_28_49,kt_NoWayBack_ValueError,kt_28_64,kt_28_28,em_49_43,em_28_43⟩;have e:=hfa.symm.trans T.m_69;cases e;obtain⟨fd,F⟩:=T.d_69;obtain⟨oc,od,kV,doc,pm,an,bh,ct,osl,ef,lk,hcd⟩:=F.ex;refine⟨(List.forall_mem_cons.mpr ⟨⟨_,T.hd_29⟩,(λ_ h=>qG h Yv)⟩),fd,λs v=>by rw[ef];exact .of_eq rfl,λbase _ _ hB=>?_⟩;have G_47:=V1 (P:=l.prog) (w:=w) (base:=base) T;have G_50:=V3 (P:=l.prog) (w:=w) (base:=base) T G_47;have G_22:=V4 (P:=l.prog) (w:=w) (base:=base) T G_50;have G_7:=Xp (P:=l.prog) (w:=w) (base:=base) T G_22;have G_40:=V5 (P:=l.prog) (w:=w) (base:=base) T G_22;have G_55:=V6 (P:=l.prog) (w:=w) (base:=base) T;have G_21:=V8 (P:=l.prog) (w:=w) (base:=base) T G_47;have G_26:=V9 (P:=l.prog) (w:=w) (base:=base) T;have G_8:=Xq (P:=l.prog) (w:=w) (base:=base) T;have G_14:=WA (P:=l.prog) (w:=w) (base:=base) T G_26 G_50;have G_68:=WC (P:=l.prog) (w:=w) (base:=base) T G_21 G_14;have G_62:=WE (P:=l.prog) (w:=w) (base:=base) T G_26;have G_39:=WG (P:=l.prog) (w:=w) (base:=base) T G_7 G_62 G_40;have G_41:=WH (P:=l.prog) (w:=w) (base:=base) T;have G_66:=WJ (P:=l.prog) (w:=w) (base:=base) T;have G_63:=WL (P:=l.prog) (w:=w) (base:=base) T G_66;have G_52:=WM (P:=l.prog) (w:=w) (base:=base) T G_66 G_63 G_41;have G_58:=WN (P:=l.prog) (w:=w) (base:=base) T;have G_54:=WO (P:=l.prog) (w:=w) (base:=base) T G_58 G_55 G_41 G_62 G_63 G_66;have G_37:=WP (P:=l.prog) (w:=w) (base:=base) T G_22 G_52 G_54;have G_59:=WQ (P:=l.prog) (w:=w) (base:=base) T;have G_46:=WR (P:=l.prog) (w:=w) (base:=base) T G_62 G_59;have G_2:=Xs (P:=l.prog) (w:=w) (base:=base) T;have G_38:=WS (P:=l.prog) (w:=w) (base:=base) T G_68 G_8 G_55 G_39 G_2 G_62;have G_61:=WT (P:=l.prog) (w:=w) (base:=base) T G_46 G_38;have G_53:=WU (P:=l.prog) (w:=w) (base:=base) T G_46 G_38 G_8;have G_65:=WV (P:=l.prog) (w:=w) (base:=base) T G_61 G_62 G_53 G_66;have G_15:=WW (P:=l.prog) (w:=w) (base:=base) T;have G_23:=WX (P:=l.prog) (w:=w) (base:=base) T;have G_51:=WZ (P:=l.prog) (w:=w) (base:=base) T;have G_36:=Wa (P:=l.prog) (w:=w) (base:=base) T G_66;have G_27:=Wc (P:=l.prog) (w:=w) (base:=base) T;have G_45:=We (P:=l.prog) (w:=w) (base:=base) T G_51;have G_60:=Wg (P:=l.prog) (w:=w) (base:=base) T G_51 G_66;have G_24:=Wh (P:=l.prog) (w:=w) (base:=base) T G_36 G_27 G_60 G_45;have G_25:=Wj (P:=l.prog) (w:=w) (base:=base) T G_23 G_15 G_24;have G_67:=Wk (P:=l.prog) (w:=w) (base:=base) T G_65 G_25 G_36;have G_48:=Wl (P:=l.prog) (w:=w) (base:=base) T G_65 G_67 G_68 G_62 G_8 G_55 G_37 G_23 G_24;have G_20:=Wn (P:=l.prog) (w:=w) (base:=base) T;have G_4:=Xu (P:=l.prog) (w:=w) (base:=base) T;have G_11:=Wo (P:=l.prog) (w:=w) (base:=base) T;have G_17:=Wp (P:=l.prog) (w:=w) (base:=base) T;have G_35:=Wq (P:=l.prog) (w:=w) (base:=base) T;have G_12:=Wr (P:=l.prog) (w:=w) (base:=base) T;have G_16:=Wt (P:=l.prog) (w:=w) (base:=base) T;have G_32:=Wu (P:=l.prog) (w:=w) (base:=base) T;have G_18:=Ww (P:=l.prog) (w:=w) (base:=base) T;have G_0:=Xw (P:=l.prog) (w:=w) (base:=base) T;have G_30:=Wx (P:=l.prog) (w:=w) (base:=base) T;have G_33:=Wy (P:=l.prog) (w:=w) (base:=base) T G_30 G_12 G_16 G_32 G_18 G_0;have G_29:=Wz (P:=l.prog) (w:=w) (base:=base) T hB G_11 G_35 G_33 G_17;have G_44:=W1 (P:=l.prog) (w:=w) (base:=base) T;have G_31:=W2 (P:=l.prog) (w:=w) (base:=base) T;have G_34:=W3 (P:=l.prog) (w:=w) (base:=base) T G_31 G_35 G_17;have G_1:=Xx (P:=l.prog) (w:=w) (base:=base) T G_17 G_35;have G_9:=Xy (P:=l.prog) (w:=w) (base:=base) T G_17;have G_10:=W4 (P:=l.prog) (w:=w) (base:=base) T G_17 G_20;have G_6:=Xz (P:=l.prog) (w:=w) (base:=base) T;have G_19:=W5 (P:=l.prog) (w:=w) (base:=base) T G_48;have G_5:=X0 (P:=l.prog) (w:=w) (base:=base) T G_19;have G_13:=W6 (P:=l.prog) (w:=w) (base:=base) T G_17 G_35;have G_3:=X1 (P:=l.prog) (w:=w) (base:=base) T G_11;exact W8 T F G_44 G_29 G_34 G_11 G_3 G_19 G_10 G_4 G_5 G_13 G_9 G_17 G_6 G_1
end K54
noncomputable def PySem.W.Fast.tw9337498974402883569:=PySem.Challenge.pw_rowrules_k54_ways_back
theorem PySem.W.Fast.te9337498974402883569:PySem.Challenge.pw_rowrules_k54_ways_back=PySem.W.Fast.tw9337498974402883569:=rfl
namespace PySem.W.Fast
abbrev A:=Nat
def tw11173863258417250131:=A
def tw5154684718148750548:=A
def tw157047512549342843:=A
def tw10962138397264962249:=A
def tw15718949343424810329:=A
def tw3844766890242391178:=A
def tw9877537593192164253:=A
def tw6406716031157335539:=A
def tw5232949154763727024:=A
def tw9240996519719366404:=A
def tw17196714358570903801:=A
def tw11627400100067806143:=A
def tw1796524411409271687:=A
def tw1291084430131133035:=A
def tw5070292378077834654:=A
def tw9936435508073275142:=A
def tw11504946616569643779:=A
def tw17630094788591766953:=A
def tw9412557310509395739:=A
def tw17861794559057960880:=A
def tw9507873564022823616:=A
def tw8708101232731073124:=A
def tw3583373972545056468:=A
def tw2207215493269972380:=A
def tw137326355382237409:=A
def tw1536304740694269719:=A
def tw155892558903538655:=A
def tw6617803577850530509:=A
def tw14458690109740754072:=A
def tw10884579463670210966:=A
def tw15561573746485873869:=A
def tw18148989561674194413:=A
def tw9373448558149592452:=A
def tw17557318420620360719:=A
def tw4650763429635927604:=A
def tw1251070700966499279:=A
def tw10088991921055649890:=A
def tw15998868204241506675:=A
def tw507415198056192705:=A
def tw17896201134242757704:=A
def tw2023722611962268340:=A
def tw7225374423763702926:=A
def tw14386789784654327404:=A
def tw2615885140419944584:=A
def tw13821734672607478106:=A
def tw13361180289555508304:=A
def tw4973326134489237780:=A
def tw4380711112866943970:=A
def tw9931360727649113668:=A
def tw8394136164356953499:=A
def tw9154202916862002673:=A
def tw12623588387030360424:=A
def tw10090256091777265692:=A
def tw6347621494817185339:=A
def tw14481297780519024590:=A
def tw4565138764073769628:=A
def tw7274364501423203189:=A
def tw509315595212567457:=A
def tw9057440404673935851:=A
def tw9304619110087402008:=A
def tw18382126709879792446:=A
def tw10301225942213479758:=A
def tw18333005093186402637:=A
def tw4871670125925074840:=A
def tw3806475417859431957:=A
def tw14362806534559196759:=A
def tw17028621476266906540:=A
def tw3564138816857401463:=A
def tw13148084689217756503:=A
def tw1485521304476509117:=A
def tw2591732327931458369:=A
def tw11833748422605836840:=A
def tw2121032748397464311:=A
def tw2548347765177326783:=A
def tw5908814830799239273:=A
def tw14943255921404835099:=A
def tw5641546420851162178:=A
def tw16438461323936433257:=A
def tw15355915344330654871:=A
def tw17737670671715258170:=A
def tw2672938194431332253:=A
def tw4356990380126816007:=A
def tw12239366063360645818:=A
def tw17921073312802455586:=A
def tw9365687435532967915:=A
def tw5960380969313047901:=A
def tw10595346379454396399:=A
def tw4362649693287641941:=A
def tw3380278812473832392:=A
def tw4715845248559990984:=A
def tw7476808623943067026:=A
def tw17662950959366392996:=A
def tw16927264326377288222:=A
def tw18153308700800991485:=A
def tw12416616974882575701:=A
def tw3930957126317669236:=A
def tw10157455729588335370:=A
def tw1062418610030526066:=A
def tw310099046516244625:=A
def tw7414259507133524114:=A
def tw16752403615582675919:=A
def tw9932330526844291706:=A
def tw17637293146414035104:=A
def tw10948114424146077214:=A
def tw453435864295829438:=A
def tw9273335685916979285:=A
def tw17435945085337622099:=A
def tw7572184693877888585:=A
def tw9462680370326752286:=A
def tw3638569257578255439:=A
def tw703355533388394320:=A
def tw6936730949098781520:=A
def tw6204635308477700302:=A
def tw12510526752974234458:=A
def tw2908329486884772458:=A
def tw6545505584115551157:=A
def tw7783180571594503738:=A
def tw14449192053061897451:=A
def tw1592491223428138576:=A
def tw16650456585053185561:=A
def tw14716623712018481155:=A
def tw14421866368317296144:=A
def tw607135514515702224:=A
def tw5832132148326867490:=A
def tw12988681796516114277:=A
def tw14663161443597533006:=A
def tw2142311483686947826:=A
def tw11691470376781555692:=A
def tw13559875148399020184:=A
def tw1548565296476520853:=A
def tw12242018278465178407:=A
def tw14132625185780172409:=A
def tw3019494386862188734:=A
def tw6269303865346842678:=A
def tw2246940740692694055:=A
def tw16979846200996492110:=A
def tw16176709307030400469:=A
def tw11006629088237791256:=A
def tw16901743085541527935:=A
def tw17199734117258852748:=A
def tw3232794637552172716:=A
def tw15517105496917024551:=A
def tw10611992749239703203:=A
def tw9345987795966601258:=A
def tw15298761718503548025:=A
def tw13283100526910320917:=A
def tw9585525327543200136:=A
def tw15987592917542085715:=A
def tw14215438019866689121:=A
def tw5954270397254500235:=A
def tw630496035201182190:=A
def tw13426432024485832596:=A
def tw15058420215636892279:=A
def tw9171731409679095339:=A
def tw3257128393352797563:=A
def tw15393275404814287133:=A
def tw2827498794071441234:=A
def tw8258604375123099964:=A
def tw9599520176140274831:=A
def tw2634860750686647279:=A
def tw15736611792374126594:=A
def tw8279538949285966825:=A
def tw11897439837231089312:=A
def tw8014350481913131353:=A
def tw5868137391105704145:=A
def tw1662432065341280000:=A
def tw11057215440065395876:=A
def tw15329441114367202057:=A
def tw8073403354907538761:=A
def tw7931327741582400417:=A
def tw11632821558187416231:=A
def tw3680370518712940002:=A
def tw16889361663315446406:=A
def tw16162955325627591252:=A
def tw2888927350056026535:=A
def tw5961769935737723004:=A
def tw5314294713192526543:=A
def tw15465538037634658641:=A
def tw13878113018008476093:=A
def tw2265211386272360145:=A
def tw16785795039319791224:=A
def tw1450978983101177188:=A
def tw9828449556383717714:=A
def tw17736141130115406660:=A
def tw3427119396229300320:=A
def tw13811827483478996254:=A
def tw1859577269642931644:=A
def tw14381827493064607610:=A
def tw7326790662989202231:=A
def tw6277602652852462982:=A
def tw13188724959184230989:=A
def tw16288827126617565251:=A
def tw16441202237739078784:=A
def tw2036028575697175653:=A
def tw1470537664295952313:=A
def tw17340275180150356320:=A
def tw9063526065899729791:=A
def tw5172286951978737347:=A
def tw8783697657044486521:=A
def tw14661431616201591913:=A
def tw5342725018599904560:=A
def tw13508083583061482143:=A
def tw651000527442297094:=A
def tw3182934618532919925:=A
def tw9506509435578624277:=A
def tw15323160282270994833:=A
def tw802129982200000307:=A
def tw172243411834686370:=A
def tw2438426237589522091:=A
def tw9222065274353769290:=A
def tw11708271371952021222:=A
def tw2024088003689337174:=A
def tw18277960872665857336:=A
def tw11711362540314774863:=A
def tw15021810046147485762:=A
def tw6723921467260749280:=A
def tw2078993498688396693:=A
def tw7743136604625496094:=A
def tw5793055330111912400:=A
end PySem.W.Fast
open PySem PySem.W PyProof.Rows
set_option maxRecDepth 100000 in
set_option maxHeartbeats 0 in
theorem PySem.Challenge.cw_rowrules_k54_ways_back_holds : PySem.Challenge.rw_rowrules_k54_ways_back.Holds := by
 w_on;o_law;k_head;(case hw=>w_witness2)
 k_fill
 refine L2.Os (l:=PySem.Challenge.rw_rowrules_k54_ways_back) (k:=13) (n:=0) (x:="_law_script") (ts:=[_]) rfl rfl ⟨rfl,by decide,by decide⟩ (λw h Y=>⟨PySem.W.km_in_of Y,PySem.W.km_tabs_of Y⟩) ?hTab ?F
 case hTab=>exact λw=>(List.forall_mem_cons.mpr ⟨by kernel_rfl,λ_ h=>absurd h Yv⟩)
 case F =>
  intro w mg fa h KX G hmg;refine' K54.VH KX G hmg ?_ ?_ ?_ ?_ ?_ ?_ ?_ ?_ ?_ (L2.AX ?_ ?_ ?_ ?_) (L2.AX ?_ ?_ ?_ ?_) (L2.AX ?_ ?_ ?_ ?_) (L2.AX ?_ ?_ ?_ ?_) (L2.AX ?_ ?_ ?_ ?_) (L2.AX ?_ ?_ ?_ ?_) (L2.AX ?_ ?_ ?_ ?_) (L2.AX ?_ ?_ ?_ ?_) (L2.AX ?_ ?_ ?_ ?_) (L2.AX ?_ ?_ ?_ ?_) (L2.AX ?_ ?_ ?_ ?_) (L2.AX ?_ ?_ ?_ ?_) (L2.AX ?_ ?_ ?_ ?_) (L2.AX ?_ ?_ ?_ ?_) (L2.AX ?_ ?_ ?_ ?_) (L2.AX ?_ ?_ ?_ ?_) (L2.AX ?_ ?_ ?_ ?_) (L2.AX ?_ ?_ ?_ ?_) (L2.AX ?_ ?_ ?_ ?_) (L2.AX ?_ ?_ ?_ ?_) (L2.AX ?_ ?_ ?_ ?_) (L2.AX ?_ ?_ ?_ ?_) (L2.AX ?_ ?_ ?_ ?_) (L2.AX ?_ ?_ ?_ ?_) (L2.AX ?_ ?_ ?_ ?_) (L2.AX ?_ ?_ ?_ ?_) (L2.AX ?_ ?_ ?_ ?_) (L2.AX ?_ ?_ ?_ ?_) (L2.AX ?_ ?_ ?_ ?_) (L2.AX ?_ ?_ ?_ ?_) (L2.AX ?_ ?_ ?_ ?_) (L2.AX ?_ ?_ ?_ ?_) (L2.AX ?_ ?_ ?_ ?_) (L2.AX ?_ ?_ ?_ ?_) (L2.AX ?_ ?_ ?_ ?_) (L2.AX ?_ ?_ ?_ ?_) (L2.AX ?_ ?_ ?_ ?_) (L2.AX ?_ ?_ ?_ ?_) (L2.AX ?_ ?_ ?_ ?_) (L2.AX ?_ ?_ ?_ ?_) (L2.AX ?_ ?_ ?_ ?_) (L2.AX ?_ ?_ ?_ ?_) (L2.AX ?_ ?_ ?_ ?_) (L2.AX ?_ ?_ ?_ ?_) (L2.AX ?_ ?_ ?_ ?_) (L2.AX ?_ ?_ ?_ ?_) (L2.AX ?_ ?_ ?_ ?_) (L2.AX ?_ ?_ ?_ ?_) (L2.AX ?_ ?_ ?_ ?_) (L2.AX ?_ ?_ ?_ ?_) (L2.SC ?_ ?_ ?_ ?_ ?_) (L2.AX ?_ ?_ ?_ ?_) (L2.AX ?_ ?_ ?_ ?_) (L2.AX ?_ ?_ ?_ ?_) (L2.AX ?_ ?_ ?_ ?_) (L2.AX ?_ ?_ ?_ ?_) (L2.AX ?_ ?_ ?_ ?_) (L2.AX ?_ ?_ ?_ ?_) (L2.AX ?_ ?_ ?_ ?_) (L2.AX ?_ ?_ ?_ ?_) (L2.AX ?_ ?_ ?_ ?_) (L2.AX ?_ ?_ ?_ ?_) (L2.AX ?_ ?_ ?_ ?_) ?_ ?_ ?_ ?_ ?_ ?_ ?_ ?_ ?_ ?_ ?_ ?_ ?_ ?_ ?_ ?_ ?_ ?_ ?_ ?_ ?_ ?_ ?_ ?_ ?_ ?_ ?_ ?_ ?_ ?_ ?_ ?_ ?_ ?_ ?_ ?_ ?_ ?_ ?_ ?_ ?_ ?_ ?_ ?_ ?_
  any_goals k_is
  ·kernel_rfl
  ·kernel_rfl
  ·k_exc
  ·k_exc
  ·k_exc
  ·show PySem.W.isClsIn _ _=true;k_is
  ·show PySem.W.isClsIn _ _=true;k_is
  ·kit_is
  ·kit_is
  ·kit_is
  ·kit_is
  ·kit_is
  ·kit_is
  ·kit_is
  ·kit_is
  ·kts_exm
  ·kts_exm
